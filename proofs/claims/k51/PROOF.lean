import PyProof.Rows.All
import Wide.All
import OpenK.AllK
import Wide.FinOn
import Lean
import PyProof.EqAt
import PyProof.EqKinds
import PyProof.TupleCall
import PySem.Challenge.RW_cometorest_k51_situations_told
import KE.KMinKey
import KE.KLam
import KE.KNestM
import KE.KDictList
import PyProof.EnumMake
import PyProof.EnumFor
import PyProof.EnumStmt
import PyProof.AttrMissHeap
import KE.KDictOf
import PyProof.StrLawsChain
import PyProof.StrLawsTight
import PyProof.Rows.StrItems
import PyProof.Rows.StrSplitCount
import PyProof.FString
import KE.KIntText
import KE.KTryMore
import PyProof.NsDelKeeps
import PyProof.ExcClass3
import PyProof.ExcBaseAll.ValueError
import PyProof.ExcAttrAll.ValueError
import PyProof.NeKinds
import PyProof.FactsAll.dict
import KE.KDictSum
import PyProof.DictItems
import KE.KPairComp
import KE.KxWritten
import PyProof.SumAny
import PyProof.Rows.StrLen
import PyProof.CallStr
import PyProof.StrCalls6
import PyProof.Rows.StrCase
import OpenK.KMake
import KE.KSortTup
set_option Elab.async false
set_option linter.all false
set_option maxRecDepth 100000
abbrev Z0:=@List.length_map
abbrev Z1:=@List.getElem?_eq_getElem
abbrev Z2:=@PySem.Heap.get?_push_of_some
abbrev Z3:=@List.mem_of_getElem?
abbrev Z4:=@List.take_add_one
abbrev Z5:=@List.mem_cons_of_mem
abbrev Z6:=@List.getElem?_map
abbrev Z7:=@List.size_toArray
abbrev Z8:=@List.length_append
abbrev Z9:=@List.map_append
abbrev Za:=@List.take_length
abbrev Zb:=@Nat.le_refl
abbrev Zc:=@PySem.Heap.lt_size
abbrev Zd:=@List.mem_cons_self
abbrev Ze:=@Nat.ne_of_lt
abbrev Zf:=@Nat.lt_of_lt_of_le
abbrev Zg:=@PySem.Heap.get?_push_size
abbrev Zh:=@Bool.false_ne_true
abbrev Zi:=@List.length_cons
abbrev Zj:=@Option.some.inj
abbrev Zk:=@Nat.le_trans
abbrev Zl:=@List.length_take_le'
abbrev Zm:=@Nat.zero_le
abbrev Zn:=@List.mem_append_right
abbrev Zo:=@List.map_map
abbrev Zp:=@List.getElem?_append_left
abbrev Zq:=@Nat.le_of_lt
abbrev Zr:=@List.map_cons
abbrev Zt:=@List.length_take
abbrev Zu:=@Bool.and_eq_true
abbrev Zv:=@List.getElem_of_mem
abbrev Zw:=@List.length_take_le
abbrev Zx:=@List.getElem?_append_right
abbrev Zy:=@List.filterMap_cons
abbrev Zz:=@List.flatMap_cons
abbrev Y0:=@List.lookup_cons
abbrev Y1:=@List.foldl_cons
abbrev Y2:=@List.filter_append
abbrev Y3:=@List.mem_append_left
abbrev Y4:=@Array.getElem?_toList
abbrev Y5:=@Array.length_toList
abbrev Y6:=@Nat.succ_mul
abbrev Y7:=@Bool.eq_iff_iff
abbrev Y8:=@List.find?_cons
abbrev Y9:=@List.length_filter_le
abbrev Ya:=@List.mem_of_mem_take
abbrev Yb:=@Nat.lt_succ_self
abbrev Yc:=@List.not_mem_nil
abbrev Yd:=@Nat.lt_irrefl
abbrev Ye:=@List.all_cons
abbrev Yf:=@List.length_nil
abbrev Yg:=@Nat.lt_of_le_of_lt
abbrev Yh:=@Bool.false_eq_true
abbrev Yi:=@Int.emod_lt_of_pos
abbrev Yj:=@PySem.Heap.size_push
abbrev Yk:=@Nat.lt_succ_of_lt
abbrev Yl:=@List.any_cons
abbrev Ym:=@List.mem_cons
abbrev Yn:=@List.sum_cons
namespace L2
open PySem PySem.Spec PyProof.Rows
noncomputable abbrev Key:=Sum Int Str
noncomputable def keyIs:Key→Value→Bool
 | .inl k,v=>Value.isInt k v
 | .inr x,v=>Value.isStrOf x v
noncomputable def keyH (w:World):Key→Int
 | .inl k=>hashInt k
 | .inr x=>hashStr w x
theorem zAn:∀ {k:Key}{v:Value},keyIs k v=true→(∃ i t,k=Sum.inl i∧v=Value.int i t)∨(∃ x t,k=Sum.inr x∧v=Value.str x t)
 | .inl i,v,h=>by
  obtain ⟨t,e⟩:=Value.isInt_shape (k:=i) (v:=v) h;exact .inl ⟨i,t,rfl,e⟩
 | .inr x,v,h=>by
  obtain ⟨t,e⟩:=Value.isStrOf_shape (x:=x) (v:=v) h;exact .inr ⟨x,t,rfl,e⟩
theorem keyIs_int (i:Int) (t:Tok):keyIs (.inl i) (.int i t)=true:=by simp [keyIs,Value.isInt]
theorem keyIs_str (x:Str) (t:Tok):keyIs (.inr x) (.str x t)=true:=by simp [keyIs,Value.isStrOf]
theorem key_ll (a b:Int):decide ((Sum.inl a:Key)=Sum.inl b)=(a == b):=by
 by_cases e:a=b
 ·subst e;simp
 ·have h:¬ (Sum.inl a:Key)=Sum.inl b:=fun q=>e (Sum.inl.inj q);rw [decide_eq_false h];exact (beq_eq_false_iff_ne.mpr e).symm
theorem key_rr (a b:Str):decide ((Sum.inr a:Key)=Sum.inr b)=decide (a=b):=by
 by_cases e:a=b
 ·subst e;simp
 ·have h:¬ (Sum.inr a:Key)=Sum.inr b:=fun q=>e (Sum.inr.inj q);rw [decide_eq_false h,decide_eq_false e]
theorem key_lr (a:Int) (b:Str):decide ((Sum.inl a:Key)=Sum.inr b)=false:=decide_eq_false (fun q=>nomatch q)
theorem key_rl (a:Str) (b:Int):decide ((Sum.inr a:Key)=Sum.inl b)=false:=decide_eq_false (fun q=>nomatch q)
noncomputable def mixKind (prog:Program) (w:World):PySem.KeyKind prog w Key where
 is:=keyIs
 hash:=keyH w
 inj:=fun v a b ha hb=>by
  rcases zAn ha with ⟨i,t,rfl,rfl⟩ | ⟨x,t,rfl,rfl⟩
  ·rcases zAn hb with ⟨j,u,rfl,e⟩ | ⟨y,u,rfl,e⟩
   ·injection e with e1 _;rw [e1]
   ·exact nomatch e
  ·rcases zAn hb with ⟨j,u,rfl,e⟩ | ⟨y,u,rfl,e⟩
   ·exact nomatch e
   ·injection e with e1 _;rw [e1]
 byValue:=fun k v h=>by
  rcases zAn h with ⟨i,t,rfl,rfl⟩ | ⟨x,t,rfl,rfl⟩ <;> rfl
 pyHash:=fun hv h=>by
  rcases zAn hv with ⟨i,t,rfl,rfl⟩ | ⟨x,t,rfl,rfl⟩
  ·exact wpAny_pyHash_int h
  ·exact wpAny_pyHash_str h
 eqBool:=fun hu hv h=>by
  rcases zAn hu with ⟨i,t,rfl,rfl⟩ | ⟨x,t,rfl,rfl⟩
  ·rcases zAn hv with ⟨j,u,rfl,rfl⟩ | ⟨y,u,rfl,rfl⟩
   ·rw [key_ll] at h;exact wpAny_eqBool_int h
   ·rw [key_lr] at h;exact SeqAt.EqAt.int_str i t y u _ _ _ _ h
  ·rcases zAn hv with ⟨j,u,rfl,rfl⟩ | ⟨y,u,rfl,rfl⟩
   ·rw [key_rl] at h;exact SeqAt.EqAt.str_int x t j u _ _ _ _ h
   ·rw [key_rr] at h;exact wpAny_eqBool_str h
 «strs»:=fun k x t v h=>by
  rcases zAn h with ⟨i,u,rfl,e⟩ | ⟨y,u,rfl,e⟩
  ·exact nomatch e
  ·injection e with e1 _;subst e1;cases v <;> rfl
theorem mixKind_int (prog:Program) (w:World) (i:Int) (t:Tok):(mixKind prog w).is (.inl i) (.int i t)=true:=keyIs_int i t
theorem mixKind_str (prog:Program) (w:World) (x:Str) (t:Tok):(mixKind prog w).is (.inr x) (.str x t)=true:=keyIs_str x t
end L2
namespace L2
open PySem PySem.Spec PyProof.Rows
inductive V where
 | non | bl (b:Bool) | int (i:Int) | str (x:Str) | byt (b:Array UInt8) | flt (b:UInt64) | ref (a:Addr) | ty (n:String)
 deriving DecidableEq
noncomputable def RelV:V→Value→Prop
 | .non,u=>u=Value.none
 | .bl b,u=>u=Value.bool b
 | .int i,u=>∃ t,u=Value.int i t
 | .str x,u=>∃ t,u=Value.str x t
 | .byt b,u=>∃ t,u=Value.bytes b t
 | .flt b,u=>∃ t,u=Value.float b t
 | .ref a,u=>u=Value.ref a
 | .ty n,u=>u=Value.type n
noncomputable abbrev Vals:List V→List Value→Prop:=Paired RelV
theorem Vals.length {xs:List V}{us:List Value} (r:Vals xs us):xs.length=us.length:=Paired.length r
theorem Vals.get:∀ {xs:List V}{us:List Value}{i:Nat}{x:V},Vals xs us→xs[i]? = some x→∃ u,us[i]? = some u∧RelV x u
 | _,_,_,_,.nil,e=>by simp at e
 | _,_,0,_,.cons r _,e=>by simp at e;subst e;exact ⟨_,rfl,r⟩
 | _,_,i + 1,x,.cons _ t,e=>by
  obtain ⟨u,h1,h2⟩:=Vals.get (i:=i) (x:=x) t (by simpa using e);exact ⟨u,by simpa using h1,h2⟩
theorem Vals.set {x:V}{u:Value} (r:RelV x u):∀ {xs:List V}{us:List Value} (i:Nat),Vals xs us→Vals (xs.set i x) (us.set i u)
 | _,_,_,.nil=>.nil
 | _,_,0,.cons _ t=>.cons r t
 | _,_,i + 1,.cons q t=>.cons q (Vals.set r i t)
theorem Vals.append:∀ {xs ys:List V}{us ws:List Value},Vals xs us→Vals ys ws→Vals (xs++ys) (us++ws)
 | _,_,_,_,.nil,s=>s
 | _,_,_,_,.cons r t,s=>.cons r (Vals.append t s)
theorem Vals.take:∀ {xs:List V}{us:List Value} (n:Nat),Vals xs us→Vals (xs.take n) (us.take n)
 | _,_,0,_=>.nil
 | _,_,_ + 1,.nil=>.nil
 | _,_,n + 1,.cons r t=>.cons r (Vals.take n t)
theorem Vals.drop:∀ {xs:List V}{us:List Value} (n:Nat),Vals xs us→Vals (xs.drop n) (us.drop n)
 | _,_,0,r=>r
 | _,_,_ + 1,.nil=>.nil
 | _,_,n + 1,.cons _ t=>Vals.drop n t
noncomputable def RelO:Option V→Option Value→Prop
 | some v,some u=>RelV v u
 | none,none=>True
 | _,_=>False
noncomputable def KV {κ : Type}:List (κ×V)→List (κ×Value)→Prop:=Paired fun (p : κ×V) (q : κ×Value)=>p.1=q.1∧RelV p.2 q.2
noncomputable def kV:Key→V
 | .inl i=>.int i
 | .inr x=>.str x
inductive HO where
 | lst (xs:List V)
 | tup (xs:List V)
 | dK (kvs:List (Key×V)) | dT (kvs:List (List Key×V))
 | set (S:Int→Bool) (n:Nat)
 | ins (C dx:Addr) (fs:List (Str×V))
 | own (x:Addr)
 | xd (fs:List (Str×V))
 | met (f x:Addr)
 | rng (lo hi:Int)
 | frz (o:Obj) (u:HO)
 | tbl (ps:Array Value)
 | ext (φ : Heap→Prop)
noncomputable abbrev Hp:=Addr→Option HO
noncomputable def upd (H:Hp) (a:Addr) (o:HO):Hp:=fun b=>if b=a then some o else H b
theorem zA1 {H:Hp}{a:Addr}{o:HO}:upd H a o a=some o:=by unfold upd;rw [if_pos rfl]
theorem zA5 {H:Hp}{a b:Addr}{o:HO} (h:b≠a):upd H a o b=H b:=by unfold upd;rw [if_neg h]
theorem ne_of {H:Hp}{a b:Addr}{o u:HO} (h:H a=some o) (h':H b=some u) (d:o≠u):a≠b:=by
 intro e;subst e;rw [h] at h';exact d (Zj h')
theorem zA2 {H:Hp}{a b:Addr}{o:HO} (h:H a=some o) (h':H b=none):a≠b:=by
 intro e;subst e;rw [h] at h';cases h'
section
variable (P:Program) (w:World)
noncomputable def ObjOk (H:Hp) (h:Heap) (a:Addr):HO→Prop
 | .lst xs=>xs.length≤sizeLine∧∃ (its:List Value) (n:Nat),Vals xs its∧h.get? a=some { cls:=.type "list",data:=.seq its.toArray n }
 | .tup xs=>xs.length≤sizeLine∧∃ its:List Value,Vals xs its∧IsTup h a its.toArray
 | .dK kvs=>kvs.length≤sizeLine∧(a == sysModules)=false∧∃ vs,KV kvs vs∧h.DictOf (mixKind P w) a vs
 | .dT kvs=>kvs.length≤sizeLine∧(a == sysModules)=false∧∃ xs:List (List Key×Addr×Value),
   Paired (fun (p:List Key×V) (q:List Key×Addr×Value)=>p.1=q.1∧H q.2.1=some (.tup (p.1.map kV))∧RelV p.2 q.2.2) kvs xs ∧
   ∃ o es ep,h.get? a=some o∧o.ExactDict∧o.data=.dict es ep∧es.toList=xs.map (entryOfKey (tupleKind (mixKind P w)))∧(xs.map (·.1)).Nodup
 | .set S n=>h.SetOf (intKind P w) a S n
 | .ins C dx fs=>H dx=some (.own a)∧fs.length≤1000∧dx≠a∧h.get? a=some (PySem.W.instObj C dx) ∧
   ∃ mA,h.Ns1 dx mA∧(∀ f,RelO (fs.lookup f) (mA f))∧PySem.Within mA (fs.map (·.1))
 | .own _=>∃ o,h.get? a=some o
 | .xd fs=>∃ mA,h.Ns1 a mA∧∀ f,RelO (fs.lookup f) (mA f)
 | .rng lo hi=>∃ t u v,h.get? a=some { cls:=.type "range",data:=.fields #[.int lo t,.int hi u,.int 1 v] }
 | .frz o u=>h.get? a=some o∧ObjOk H h a u
 | .tbl ps=>h.get? a=some { cls:=.none,data:=.fields ps }
 | .met f x=>h.get? a=some (PySem.W.methodObj (.ref f) (.ref x))
 | .ext φ=>φ h∧(∃ o,h.get? a=some o)∧∀ h1 h2:Heap,φ h1→(∀ o,h1.get? a=some o→h2.get? a=some o)→φ h2
noncomputable def HOk (H:Hp) (h:Heap):Prop:=∀ a o,H a=some o→ObjOk P w H h a o
end
section
variable {P:Program}{w:World}{H H':Hp}{h h':Heap}{a:Addr}{o:HO}
theorem ObjOk.lt (x:ObjOk P w H h a o):a < h.objs.size:=by
 cases o with
 | lst xs=>obtain ⟨_,_,_,_,e⟩:=x;exact Zc e
 | tup xs=>obtain ⟨_,_,_,p⟩:=x;exact p.lt
 | dK kvs=>obtain ⟨_,_,_,_,o,_,_,e,_⟩:=x;exact Zc e
 | dT kvs=>obtain ⟨_,_,_,_,o,_,_,e,_⟩:=x;exact Zc e
 | set S n=>obtain ⟨o,_,_,_,e,_⟩:=x;exact Zc e
 | ins C dx fs=>obtain ⟨_,_,_,e,_⟩:=x;exact Zc e
 | own y=>obtain ⟨_,e⟩:=x;exact Zc e
 | xd fs=>obtain ⟨_,⟨_,_,_,e,_⟩,_⟩:=x;exact Zc e
 | rng lo hi=>obtain ⟨_,_,_,e⟩:=x;exact Zc e
 | frz ob u=>obtain ⟨e,_⟩:=x;exact Zc e
 | tbl ps=>exact Zc (show h.get? a=some _ from x)
 | met f y=>exact Zc (show h.get? a=some _ from x)
 | ext φ=>obtain ⟨_,⟨_,e⟩,_⟩:=x;exact Zc e
theorem Paired.mapP {α β : Type}{F G : α→β→Prop}:∀ {l₁ : List α}{l₂ : List β},Paired F l₁ l₂→(∀ a b,F a b→G a b)→Paired G l₁ l₂
 | _,_,.nil,_=>.nil
 | _,_,.cons r t,f=>.cons (f _ _ r) (Paired.mapP t f)
theorem ObjOk.stay (x:ObjOk P w H h a o) (k:∀ b u,(b=a∨H b=some (.own a))→h.get? b=some u→h'.get? b=some u)
  (ho:∀ b,H b=some (.own a)→H' b=some (.own a)) (ht:∀ b xs,H b=some (.tup xs)→H' b=some (.tup xs)):ObjOk P w H' h' a o:=by
 induction o with
 | lst xs=>obtain ⟨z,its,n,r,e⟩:=x;exact ⟨z,its,n,r,k _ _ (.inl rfl) e⟩
 | tup xs=>obtain ⟨z,its,r,ob,e,c⟩:=x;exact ⟨z,its,r,ob,k _ _ (.inl rfl) e,c⟩
 | dK kvs=>obtain ⟨z,y,vs,r,ob,es,ep,e,c⟩:=x;exact ⟨z,y,vs,r,ob,es,ep,k _ _ (.inl rfl) e,c⟩
 | dT kvs =>
  obtain ⟨z,y,xs,r,ob,es,ep,e,c⟩:=x;exact ⟨z,y,xs,Paired.mapP r fun p q z=>⟨z.1,ht _ _ z.2.1,z.2.2⟩,ob,es,ep,k _ _ (.inl rfl) e,c⟩
 | set S n=>obtain ⟨ob,es,ep,t,e,c⟩:=x;exact ⟨ob,es,ep,t,k _ _ (.inl rfl) e,c⟩
 | ins C dx fs =>
  obtain ⟨d,z,ne,e,mA,⟨od,es,ep,e2,c⟩,r⟩:=x;exact ⟨ho _ d,z,ne,k _ _ (.inl rfl) e,mA,⟨od,es,ep,k _ _ (.inr d) e2,c⟩,r⟩
 | own y=>obtain ⟨ob,e⟩:=x;exact ⟨ob,k _ _ (.inl rfl) e⟩
 | xd fs=>obtain ⟨mA,⟨od,es,ep,e,c⟩,r⟩:=x;exact ⟨mA,⟨od,es,ep,k _ _ (.inl rfl) e,c⟩,r⟩
 | rng lo hi=>obtain ⟨t,u,v,e⟩:=x;exact ⟨t,u,v,k _ _ (.inl rfl) e⟩
 | frz ob u ih=>obtain ⟨e,q⟩:=x;exact ⟨k _ _ (.inl rfl) e,ih q⟩
 | tbl ps =>
  have e:h.get? a=some { cls:=.none,data:=.fields ps }:=x;show h'.get? a=some { cls:=.none,data:=.fields ps };exact k a _ (.inl rfl) e
 | met f y =>
  have e:h.get? a=some (PySem.W.methodObj (.ref f) (.ref y)):=x;show h'.get? a=some (PySem.W.methodObj (.ref f) (.ref y));exact k a _ (.inl rfl) e
 | ext φ=>obtain ⟨p,⟨o,e⟩,st⟩:=x;exact ⟨st _ _ p fun o q=>k _ _ (.inl rfl) q,⟨o,k _ _ (.inl rfl) e⟩,st⟩
theorem HOk.lt (x:HOk P w H h) (e:H a=some o):a < h.objs.size:=(x a o e).lt
theorem HOk.fresh (x:HOk P w H h) (e:h.objs.size≤a):H a=none:=by
 cases q:H a with
 | none=>rfl
 | some u=>exact absurd (Zf (x.lt q) e) (Yd _)
theorem HOk.kept (x:HOk P w H h) (k:∀ b u,h.get? b=some u→h'.get? b=some u):HOk P w H h':=fun a o e =>
 (x a o e).stay (fun b u _ q=>k b u q) (fun _ q=>q) fun _ _ q=>q
theorem HOk.laid (x:HOk P w H h) (k:∀ b u,h.get? b=some u→h'.get? b=some u) (hp:h.objs.size≤a) (new:ObjOk P w (upd H a o) h' a o):HOk P w (upd H a o) h':=fun b u e=>by
 have hn:=x.fresh hp;by_cases hb:b=a
 ·subst hb;rw [zA1] at e;cases e;exact new
 ·rw [zA5 hb] at e;exact (x b u e).stay (fun c v _ q=>k c v q) (fun c q=>by rw [zA5 (zA2 q hn)];exact q) fun c xs q=>by rw [zA5 (zA2 q hn)];exact q
end
noncomputable def Rd (H:Hp) (a:Addr) (u:HO):Prop:=H a=some u∨∃ o,H a=some (.frz o u)
theorem Rd.ok {P:Program}{w:World}{H:Hp}{h:Heap}{a:Addr}{u:HO} (r:Rd H a u) (x:HOk P w H h):ObjOk P w H h a u:=by
 rcases r with r | ⟨o,r⟩
 ·exact x a u r
 ·obtain ⟨_,q⟩:=x a _ r;exact q
noncomputable def Mut:Option HO→Prop
 | some (.lst _)=>True
 | some (.dK _)=>True
 | some (.dT _)=>True
 | some (.set _ _)=>True
 | some (.ins _ _ _)=>True
 | some (.ext _)=>True
 | _=>False
section
variable {P:Program}{w:World}{H:Hp}{h h':Heap}{x e:Addr}{o':HO}
theorem HOk.write (ok:HOk P w H h) (mu:Mut (H x)) (he:e=x∨H e=some (.own x)) (k:∀ b u,b≠e→h.get? b=some u→h'.get? b=some u) (heo:∃ u,h'.get? e=some u)
  (new:ObjOk P w (upd H x o') h' x o'):HOk P w (upd H x o') h':=fun b u q=>by
 have nown:∀ c y,H c=some (.own y)→c≠x:=fun c y r z=>by subst z;rw [r] at mu;exact mu
 have ntup:∀ c xs,H c=some (.tup xs)→c≠x:=fun c xs r z=>by subst z;rw [r] at mu;exact mu
 by_cases hb:b=x
 ·subst hb;rw [zA1] at q;cases q;exact new
 ·rw [zA5 hb] at q;by_cases hbe:b=e
  ·have q':H b=some (.own x):=by
    rcases he with z | z
    ·exact absurd (hbe.trans z) hb
    ·rw [hbe];exact z
   rw [q] at q';cases q';obtain ⟨v,hv⟩:=heo;exact ⟨v,by rw [hbe];exact hv⟩
  ·refine (ok b u q).stay (fun c v hc r=>k c v ?_ r) (fun c r=>by rw [zA5 (nown c b r)];exact r) fun c xs r=>by rw [zA5 (ntup c xs r)];exact r
   rcases hc with rfl | hc
   ·exact hbe
   ·rintro rfl;rcases he with z | z
    ·exact nown c b hc z
    ·rw [hc] at z;cases z;exact hb rfl
end
structure Un (fs ex:List Addr) (H H':Hp) (h h':Heap):Prop where
 keep:∀ b o,h.get? b=some o→H b=none→b∉fs→b∉ex→h'.get? b=some o
 slot:∀ b o,h.get? b=some o→H b=none→b∈fs→b∉ex→∃ sl,h'.get? b=some { o with slots:=sl }
 free:∀ b o,h.get? b=some o→H b=none→b∉ex→H' b=none
 there:∀ b o,h.get? b=some o→b∉ex→∃ o',h'.get? b=some o'
 tups:∀ b xs,H b=some (.tup xs)→H' b=some (.tup xs)
 frzs:∀ b o u,H b=some (.frz o u)→H' b=some (.frz o u)
 tbls:∀ b ps,H b=some (.tbl ps)→∃ more,H' b=some (.tbl (ps++more))
section
variable {fs fs' ex ex':List Addr}{H H1 H2:Hp}{h h1 h2 h':Heap}{a x e:Addr}{o:HO}
theorem Un.any (u:Un fs ex H H1 h h1) {b:Addr}{ob:Obj} (q:h.get? b=some ob) (n:H b=none) (hx:b∉ex):∃ sl,h1.get? b=some { ob with slots:=sl }:=by
 by_cases hb:b∈fs
 ·exact u.slot b ob q n hb hx
 ·exact ⟨ob.slots,u.keep b ob q n hb hx⟩
theorem Un.trans (a:Un fs ex H H1 h h1) (b:Un fs ex H1 H2 h1 h2):Un fs ex H H2 h h2 where
 keep:=fun c ob q n hc hx=>b.keep c ob (a.keep c ob q n hc hx) (a.free c ob q n hx) hc hx
 slot:=fun c ob q n hc hx=>by
  obtain ⟨sl,e1⟩:=a.slot c ob q n hc hx;obtain ⟨sl',e2⟩:=b.slot c _ e1 (a.free c ob q n hx) hc hx;exact ⟨sl',e2⟩
 free:=fun c ob q n hx=>by
  obtain ⟨o',e1⟩:=a.there c ob q hx;exact b.free c o' e1 (a.free c ob q n hx) hx
 there:=fun c ob q hx=>by
  obtain ⟨o',e1⟩:=a.there c ob q hx;exact b.there c o' e1 hx
 tups:=fun c xs q=>b.tups c xs (a.tups c xs q)
 frzs:=fun c ob xs q=>b.frzs c ob xs (a.frzs c ob xs q)
 tbls:=fun c ps q=>by
  obtain ⟨m1,e1⟩:=a.tbls c ps q;obtain ⟨m2,e2⟩:=b.tbls c _ e1;exact ⟨m1++m2,by rw [e2,Array.append_assoc]⟩
theorem Un.kept (k:∀ b u,h.get? b=some u→h'.get? b=some u):Un fs ex H H h h' :=
 ⟨fun b ob q _ _ _=>k b ob q,fun b ob q _ _ _=>⟨ob.slots,k b ob q⟩,fun _ _ _ n _=>n,fun b ob q _=>⟨ob,k b ob q⟩,fun _ _ q=>q,fun _ _ _ q=>q,fun _ ps q=>⟨#[],by rw [q];simp⟩⟩
theorem Un.refl:Un fs ex H H h h:=Un.kept fun _ _ q=>q
theorem Un.laid (k:∀ b u,h.get? b=some u→h'.get? b=some u) (hp:h.objs.size≤a) (hn:H a=none):Un fs ex H (upd H a o) h h' where
 keep:=fun b u q _ _ _=>k b u q
 slot:=fun b u q _ _ _=>⟨u.slots,k b u q⟩
 free:=fun b u q n _=>by rw [zA5 (Ze (Zf (Zc q) hp))];exact n
 there:=fun b u q _=>⟨u,k b u q⟩
 tups:=fun b xs q=>by rw [zA5 (zA2 q hn)];exact q
 frzs:=fun b u xs q=>by rw [zA5 (zA2 q hn)];exact q
 tbls:=fun b ps q=>⟨#[],by rw [zA5 (zA2 q hn),q];simp⟩
theorem Un.write (mu:Mut (H x)) (he:e=x∨H e=some (.own x)) (k:∀ b u,b≠e→h.get? b=some u→h'.get? b=some u) (heo:∃ u,h'.get? e=some u):Un fs ex H (upd H x o) h h':=by
 have hx:∀ b,H b=none→b≠x:=fun b n z=>by subst z;rw [n] at mu;exact mu
 have hb:∀ b,H b=none→b≠e:=fun b n z=>by
  subst z;rcases he with r | r
  ·exact hx b n r
  ·rw [n] at r;cases r
 have hm:∀ b u,H b=some u→¬ Mut (some u)→b≠x:=fun b u q nm z=>by subst z;rw [q] at mu;exact nm mu
 refine ⟨fun b u q n _ _=>k b u (hb b n) q,fun b u q n _ _=>⟨u.slots,k b u (hb b n) q⟩,fun b u q n _=>by rw [zA5 (hx b n)];exact n,fun b u q _=>?_,
  fun b xs q=>by rw [zA5 (hm b _ q fun z=>z)];exact q,fun b u xs q=>by rw [zA5 (hm b _ q fun z=>z)];exact q,fun b ps q=>⟨#[],by rw [zA5 (hm b _ q fun z=>z),q];simp⟩⟩
 by_cases hbe:b=e
 ·subst hbe;exact heo
 ·exact ⟨u,k b u hbe q⟩
end
noncomputable def trk (h:Heap) (H:Hp):List Addr:=(List.range h.objs.size).filter fun a=>(H a).isSome
noncomputable def hidT (h:Heap) (H:Hp):Heap:=PySem.W.hideAll h (trk h H)
theorem hidT_size (h:Heap) (H:Hp):(hidT h H).objs.size=h.objs.size:=PySem.W.hideAll_size _ _
theorem hidT_get {h:Heap}{H:Hp}{b:Addr}{o:Obj} (e:h.get? b=some o) (n:H b=none):(hidT h H).get? b=some o :=
 PySem.W.hideAll_get _ e fun hm=>by
  have q:(H b).isSome=true:=(List.mem_filter.mp hm).2;rw [n] at q;simp at q
theorem of_hidT {h:Heap}{H:Hp}{b:Addr}{o:Obj} (e:(hidT h H).get? b=some o):h.get? b=some o∧H b=none:=by
 have e':h.get? b=some o:=PySem.W.of_hideAll (trk h H) e;refine ⟨e',?_⟩;cases q:H b with
 | none=>rfl
 | some x =>
  have hm:b∈trk h H:=List.mem_filter.mpr ⟨List.mem_range.mpr (Zc e'),by simp [q]⟩;have z:(hidT h H).get? b=none:=PySem.W.hideAll_none (trk h H) hm;rw [z] at e;cases e
noncomputable def allNews (g h:Heap) (L:Addr):List (Addr×Obj):=(List.range h.objs.size).filterMap fun a=>if a=L∨(g.get? a).isSome=true then none else (h.get? a).map fun o=>(a,o)
noncomputable def rest (g h:Heap) (L d:Addr):List (Addr×Obj):=(allNews g h L).filter fun p=>decide (p.1≠d)
end L2
namespace L2
open PySem PySem.Spec PyProof.Rows
structure Mod (K:PySem.W.Frag) (mg:Str→Option Value) (base:Heap):Prop where
 kin:K.In base
 glob:base.Ns mainGlobals mg
 blt:∃ mb,base.Ns builtinsNs mb∧∀ x:Str,x≠"__name__"→mb x=bootBuiltins x
 nolimit:base.NoLimit
structure Cx where
 prog:Program
 w:World
 K:PySem.W.Frag
 mg:Str→Option Value
 base:Heap
 A:Around
 N:List Str
 s₀ : Shared
 H₀ : Hp
 env:Env
 outer:List Env
 stack:List Env
 ex:List Addr
 fn:Str→Bool
 calm:Bool
 pn:List (Addr×Obj)
 xe:Value→Shared→Prop
noncomputable def frs (l:List Env):List Addr:=l.filterMap (·.frame)
noncomputable abbrev Cx.fs (X:Cx):List Addr:=frs X.outer
noncomputable def Vis (sc:Scope) (x:Str):Prop:=sc.names.lookup x=some .local∨sc.names.lookup x=some .cell∨sc.names.lookup x=some .free
noncomputable def Loc (sc:Scope) (x:Str):Prop:=sc.names.lookup x=some .local∨sc.names.lookup x=some .cell
noncomputable def Look (env:Env) (h:Heap) (m:Str→Option Value) (x:Str) (u:Value):Prop :=
 (env.kindOf x=some .local∧m x=some u)∨((env.kindOf x=some .cell∨env.kindOf x=some .free)∧∃ c,env.cells.lookup x=some c∧h.IsCell c (some u))
structure Cx.Ok (X:Cx):Prop where
 mod:Mod X.K X.mg X.base
 kind:X.env.scope.kind=.function
 glob:X.env.globals=mainGlobals
 blt:X.env.builtins=builtinsNs
 above:X.s₀.heap.objs.size≤X.env.locals
 inj:∀ x y c,X.env.cells.lookup x=some c→X.env.cells.lookup y=some c→x=y
 has:∀ x,(X.env.kindOf x=some .cell∨X.env.kindOf x=some .free)→∃ c,X.env.cells.lookup x=some c
 cab:∀ x c,X.fn x=true→X.env.cells.lookup x=some c→X.s₀.heap.objs.size≤c
 hd:X.calm=true→X.A.handled=none
 frames:X.A.frames=some X.stack
 stk:X.stack=X.outer∨(X.stack=X.env :: X.outer∧X.env.frame=some X.env.locals)
 exf:∀ b∈X.ex,b≠X.env.locals∧∀ x c,X.env.cells.lookup x=some c→c≠b
 bs:∀ b o,X.base.get? b=some o→X.s₀.heap.get? b=some o∧X.H₀ b=none
 bsz:X.base.objs.size≤X.s₀.heap.objs.size
 noex:∀ b o,X.base.get? b=some o→b∉X.ex
 exfs:∀ b∈X.ex,b∉X.fs
 funs:X.s₀.heap.FunFrames X.base X.outer
 frf:∀ b∈X.fs,X.H₀ b=none
structure Inv (X:Cx) (pins:List (Addr×Obj)) (σ : List (Option V)) (H:Hp) (s:Shared):Prop where
 ok:X.Ok
 os:s.os=X.s₀.os
 bare:AllBare s.gens
 base:Un X.fs X.ex X.H₀ H X.s₀.heap s.heap
 loc:∃ m,s.heap.Ns X.env.locals m∧∀ (i:Nat) (x:Str) (v:V),X.N[i]? = some x→σ[i]? = some (some v)→Vis X.env.scope x→∃ u,RelV v u∧Look X.env s.heap m x u
 cell:∀ x c,X.env.cells.lookup x=some c→∃ v,s.heap.IsCell c v
 free:H X.env.locals=none
 freeC:∀ x c,X.env.cells.lookup x=some c→H c=none
 pin:∀ p∈X.pn++pins,s.heap.get? p.1=some p.2∧H p.1=none∧p.1≠X.env.locals∧p.1∉X.fs∧∀ v,p.2.data≠.cell v
 hok:HOk X.prog X.w H s.heap
 len : σ.length=X.N.length
section
variable {X:Cx}{pins:List (Addr×Obj)}{σ : List (Option V)}{H H':Hp}{s:Shared}{h':Heap}
theorem Cx.Ok.nofr (ok:X.Ok) {b:Addr}{o:Obj} (e:X.base.get? b=some o):b∉X.fs:=fun hb=>by
 have:=(ok.funs.mem hb).1;rw [e] at this;cases this
theorem Inv.bs (I:Inv X pins σ H s):∀ b o,X.base.get? b=some o→s.heap.get? b=some o∧H b=none:=fun b o e =>
 ⟨I.base.keep b o (I.ok.bs b o e).1 (I.ok.bs b o e).2 (I.ok.nofr e) (I.ok.noex b o e),I.base.free b o (I.ok.bs b o e).1 (I.ok.bs b o e).2 (I.ok.noex b o e)⟩
theorem Inv.bk (I:Inv X pins σ H s):∀ b o,X.base.get? b=some o→s.heap.get? b=some o:=fun b o e=>(I.bs b o e).1
theorem Inv.mod (I:Inv X pins σ H s):Mod X.K X.mg X.base:=I.ok.mod
theorem Inv.kIn (I:Inv X pins σ H s):X.K.In s.heap:=I.ok.mod.kin.keeps I.bk
theorem Inv.nolimit (I:Inv X pins σ H s):s.heap.NoLimit:=I.ok.mod.nolimit.keeps I.bk
theorem Inv.lt (I:Inv X pins σ H s):X.env.locals < s.heap.objs.size:=let ⟨_,hn,_⟩:=I.loc;hn.lt
theorem Inv.sz (I:Inv X pins σ H s):X.s₀.heap.objs.size≤s.heap.objs.size:=Zk I.ok.above (Zq I.lt)
theorem Inv.nofs (I:Inv X pins σ H s) {a:Addr} (h:s.heap.objs.size≤a):a∉X.fs:=fun hb=>by
 obtain ⟨_,o,ho,_⟩:=I.ok.funs.mem hb;exact absurd (Zf (Zc ho) (Zk I.sz h)) (Yd _)
theorem Inv.cne (I:Inv X pins σ H s):∀ x c,X.env.cells.lookup x=some c→c≠X.env.locals:=fun x c e z=>by
 obtain ⟨v,o,ho,hd⟩:=I.cell x c e;obtain ⟨m,⟨o',es,ep,ho',hd',_⟩,_⟩:=I.loc;rw [z,ho'] at ho;cases ho;rw [hd'] at hd;cases hd
theorem Inv.funs (I:Inv X pins σ H s):s.heap.FunFrames X.base X.outer:=by
 have all:∀ (l:List Env),(∀ b∈frs l,b∈X.fs)→X.s₀.heap.FunFrames X.base l→s.heap.FunFrames X.base l:=by
  intro l
  induction l with
  | nil=>intro _ _;trivial
  | cons env r ih =>
   intro hs hl;obtain ⟨hk,⟨L,o,hf,hn,ho,hd⟩,hr⟩:=hl;have hL:L∈X.fs:=hs L (by unfold frs;rw [Zy,hf];exact Zd);obtain ⟨sl,e⟩:=I.base.slot L o ho (I.ok.frf L hL) hL fun z=>I.ok.exfs L z hL;exact ⟨hk,⟨L,_,hf,hn,e,hd⟩,ih (fun b hb=>hs b (by unfold frs;rw [Zy,hf];exact Z5 _ hb)) hr⟩
 exact all X.outer (fun _ hb=>hb) I.ok.funs
theorem Inv.stack (I:Inv X pins σ H s):s.heap.FunFrames X.base X.stack:=by
 rcases I.ok.stk with e | ⟨e,hf⟩
 ·rw [e];exact I.funs
 ·rw [e];obtain ⟨m,hn,_⟩:=I.loc;refine .cons (by rw [I.ok.kind];decide) hf hn ?_ I.funs;exact Heap.get?_none_of_le (Zk I.ok.bsz I.ok.above)
theorem Inv.stkSub (I:Inv X pins σ H s):∀ b∈frs X.stack,b∈X.env.locals :: X.fs:=fun b hb=>by
 rcases I.ok.stk with e | ⟨e,hf⟩
 ·rw [e] at hb;exact Z5 _ hb
 ·rw [e] at hb;unfold frs at hb;rw [Zy,hf] at hb;exact hb
theorem Inv.stkFree (I:Inv X pins σ H s):∀ b∈frs X.stack,H b=none:=fun b hb=>by
 rcases List.mem_cons.mp (I.stkSub b hb) with e | hb
 ·rw [e];exact I.free
 ·obtain ⟨_,o,ho,_⟩:=I.ok.funs.mem hb;exact I.base.free b o ho (I.ok.frf b hb) fun z=>I.ok.exfs b z hb
theorem Inv.step {g':Array GenState}{t':Nat}{d':Drawn}{ch:List Addr} (I:Inv X pins σ H s)
  (hch:∀ b∈ch,(b∈X.ex∨X.s₀.heap.get? b=none)∧b≠X.env.locals∧(∀ x c,X.env.cells.lookup x=some c→c≠b)∧∀ p∈X.pn++pins,p.1≠b)
  (keep:∀ b o,b≠X.env.locals→b∉X.fs→b∉ch→s.heap.get? b=some o→H b=none→h'.get? b=some o)
  (slot:∀ b o,b≠X.env.locals→b∈X.fs→b∉ch→s.heap.get? b=some o→H b=none→∃ sl,h'.get? b=some { o with slots:=sl }) (free:∀ b o,b∉ch→s.heap.get? b=some o→H b=none→H' b=none)
  (there:∀ b o,b∉ch→s.heap.get? b=some o→∃ o',h'.get? b=some o')
  (tups:∀ b xs,H b=some (.tup xs)→H' b=some (.tup xs)) (frzs:∀ b o u,H b=some (.frz o u)→H' b=some (.frz o u)) (tbls:∀ b ps,H b=some (.tbl ps)→∃ more,H' b=some (.tbl (ps++more)))
  (ns:∀ m,s.heap.Ns X.env.locals m→h'.Ns X.env.locals m) (hok:HOk X.prog X.w H' h') (hg:AllBare g') :
  Inv X pins σ H' { s with heap:=h',gens:=g',drawn:=d',toks:=t' }:=by
 have neL:∀ b o,X.s₀.heap.get? b=some o→b≠X.env.locals:=fun b o e=>Ze (Zf (Zc e) I.ok.above);have neC:∀ b o,X.s₀.heap.get? b=some o→b∉X.ex→b∉ch:=fun b o e hx hb=>by
  rcases (hch b hb).1 with z | z
  ·exact hx z
  ·rw [z] at e;cases e
 have cellK:∀ x c,X.env.cells.lookup x=some c→∀ v,s.heap.IsCell c v→h'.IsCell c v:=fun x c e v ⟨o,ho,hd⟩=>by
  have nch:c∉ch:=fun z=>(hch c z).2.2.1 x c e rfl;by_cases hc:c∈X.fs
  ·obtain ⟨sl,q⟩:=slot c o (I.cne x c e) hc nch ho (I.freeC x c e);exact ⟨_,q,hd⟩
  ·exact ⟨o,keep c o (I.cne x c e) hc nch ho (I.freeC x c e),hd⟩
 refine ⟨I.ok,I.os,hg,⟨fun b o e n hb hx=>?_,fun b o e n hb hx=>?_,fun b o e n hx=>?_,fun b o e hx=>?_,fun b xs e=>tups b xs (I.base.tups b xs e),fun b o xs e=>frzs b o xs (I.base.frzs b o xs e),fun b ps e=>?_⟩,?_,fun x c e=>?_,?_,fun x c e=>?_,fun p hp=>?_,hok,I.len⟩
 ·exact keep b o (neL b o e) hb (neC b o e hx) (I.base.keep b o e n hb hx) (I.base.free b o e n hx)
 ·obtain ⟨sl,e1⟩:=I.base.slot b o e n hb hx;obtain ⟨sl',e2⟩:=slot b _ (neL b o e) hb (neC b o e hx) e1 (I.base.free b o e n hx);exact ⟨sl',e2⟩
 ·obtain ⟨o',e1⟩:=I.base.there b o e hx;exact free b o' (neC b o e hx) e1 (I.base.free b o e n hx)
 ·obtain ⟨o',e1⟩:=I.base.there b o e hx;exact there b o' (neC b o e hx) e1
 ·obtain ⟨m1,e1⟩:=I.base.tbls b ps e;obtain ⟨m2,e2⟩:=tbls b _ e1;exact ⟨m1++m2,by rw [e2,Array.append_assoc]⟩
 ·obtain ⟨m,hn,hl⟩:=I.loc;refine ⟨m,ns m hn,fun i x v e1 e2 e3=>?_⟩;obtain ⟨u,r,l⟩:=hl i x v e1 e2 e3;refine ⟨u,r,?_⟩;rcases l with l | ⟨k,c,e,z⟩
  ·exact .inl l
  ·exact .inr ⟨k,c,e,cellK x c e _ z⟩
 ·obtain ⟨v,z⟩:=I.cell x c e;exact ⟨v,cellK x c e v z⟩
 ·obtain ⟨m,⟨o,_,_,ho,_⟩,_⟩:=I.loc;exact free _ o (fun z=>(hch _ z).2.1 rfl) ho I.free
 ·obtain ⟨v,o,ho,hd⟩:=I.cell x c e;exact free c o (fun z=>(hch c z).2.2.1 x c e rfl) ho (I.freeC x c e)
 ·obtain ⟨e,n,ne,nf,d⟩:=I.pin p hp;have nch:p.1∉ch:=fun z=>(hch p.1 z).2.2.2 p hp rfl;exact ⟨keep p.1 p.2 ne nf nch e n,free p.1 p.2 nch e n,ne,nf,d⟩
theorem Inv.un {t':Nat} (I:Inv X pins σ H s) (u:Un X.fs [] H H' s.heap h') (hok:HOk X.prog X.w H' h'):Inv X pins σ H' { s with heap:=h',toks:=t' }:=by
 obtain ⟨m,⟨o,es,ep,ho,r⟩,_⟩:=id I.loc;obtain ⟨sl,hL⟩:=u.any ho I.free (by simp)
 exact I.step (g':=s.gens) (d':=s.drawn) (ch:=[]) (fun _ z=>nomatch z) (fun b o _ hb _ e n=>u.keep b o e n hb (by simp)) (fun b o _ hb _ e n=>u.slot b o e n hb (by simp)) (fun b o _ e n=>u.free b o e n (by simp)) (fun b o _ e=>u.there b o e (by simp)) u.tups u.frzs u.tbls (fun m' hm=>by
  obtain ⟨o',es',ep',ho',r'⟩:=hm;rw [ho] at ho';cases ho'
  exact ⟨_,es',ep',hL,r'⟩) hok I.bare
theorem Inv.call {g':Array GenState}{t':Nat}{d':Drawn}{ch:List Addr} (I:Inv X pins σ H s) (u:Un (frs X.stack) ch H H' s.heap h') (hok:HOk X.prog X.w H' h') (hg:AllBare g')
  (hch:∀ b∈ch,(b∈X.ex∨X.s₀.heap.objs.size≤b)∧b≠X.env.locals∧(∀ x c,X.env.cells.lookup x=some c→c≠b)∧∀ p∈X.pn++pins,p.1≠b) :
  Inv X pins σ H' { s with heap:=h',gens:=g',drawn:=d',toks:=t' }:=by
 obtain ⟨m,⟨o,es,ep,ho,r⟩,_⟩:=id I.loc;obtain ⟨sl,hL⟩:=u.any ho I.free fun z=>(hch _ z).2.1 rfl
 exact I.step (ch:=ch) (fun b hb=>⟨(hch b hb).1.imp_right fun z=>Heap.get?_none_of_le z,(hch b hb).2⟩) (fun b o hL hb hc e n=>u.keep b o e n (fun z=>(List.mem_cons.mp (I.stkSub b z)).elim hL hb) hc) (fun b o _ _ hc e n=>u.any e n hc) (fun b o hc e n=>u.free b o e n hc) (fun b o hc e=>u.there b o e hc) u.tups u.frzs u.tbls (fun m' hm=>by
  obtain ⟨o',es',ep',ho',r'⟩:=hm;rw [ho] at ho';cases ho'
  exact ⟨_,es',ep',hL,r'⟩) hok hg
theorem Inv.turned {t':Nat}{it:Addr} (I:Inv X pins σ H s) (k:∀ b o,b≠it→s.heap.get? b=some o→h'.get? b=some o) (hn:H it=none) (hL:it≠X.env.locals)
  (h1:it∈X.ex∨X.s₀.heap.objs.size≤it) (h2:∀ x c,X.env.cells.lookup x=some c→c≠it) (h3:∀ p∈X.pn++pins,p.1≠it):Inv X pins σ H { s with heap:=h',toks:=t' }:=by
 have nit:∀ b u,H b=some u→b≠it:=fun b u e z=>by rw [z,hn] at e;cases e
 refine I.step (g':=s.gens) (d':=s.drawn) (ch:=[it]) (fun b hb=>?_) (fun b o _ _ hc e _=>k b o (fun z=>hc (by simp [z])) e) (fun b o _ _ hc e _=>⟨o.slots,k b o (fun z=>hc (by simp [z])) e⟩) (fun _ _ _ _ n=>n)
  (fun b o hc e=>⟨o,k b o (fun z=>hc (by simp [z])) e⟩) (fun _ _ e=>e) (fun _ _ _ e=>e) (fun b ps e=>⟨#[],by rw [e];simp⟩) (fun m hm=>?_) (fun b u e=>?_) I.bare
 ·have e:b=it:=by simpa using hb
  subst e;exact ⟨h1.imp_right fun z=>Heap.get?_none_of_le z,hL,h2,h3⟩
 ·obtain ⟨o,es,ep,ho,r⟩:=hm;exact ⟨o,es,ep,k _ o (Ne.symm hL) ho,r⟩
 ·refine (I.hok b u e).stay (fun c v hc q=>k c v ?_ q) (fun _ q=>q) fun _ _ q=>q;rcases hc with z | z
  ·rw [z];exact nit b u e
  ·exact nit c _ z
theorem Inv.tok (I:Inv X pins σ H s) (t:Nat):Inv X pins σ H { s with toks:=t }:=I.un (h':=s.heap) (t':=t) Un.refl I.hok
theorem Inv.kept {t':Nat} (I:Inv X pins σ H s) (k:∀ b u,s.heap.get? b=some u→h'.get? b=some u):Inv X pins σ H { s with heap:=h',toks:=t' }:=I.un (Un.kept k) (I.hok.kept k)
theorem Inv.laid {a:Addr}{o:HO}{t':Nat} (I:Inv X pins σ H s) (k:∀ b u,s.heap.get? b=some u→h'.get? b=some u) (hp:s.heap.objs.size≤a) (new:ObjOk X.prog X.w (upd H a o) h' a o) :
  Inv X pins σ (upd H a o) { s with heap:=h',toks:=t' }:=I.un (Un.laid k hp (I.hok.fresh hp)) (I.hok.laid k hp new)
theorem Inv.write {x e:Addr}{o:HO}{t':Nat} (I:Inv X pins σ H s) (mu:Mut (H x)) (he:e=x∨H e=some (.own x)) (k:∀ b u,b≠e→s.heap.get? b=some u→h'.get? b=some u) (heo:∃ u,h'.get? e=some u)
  (new:ObjOk X.prog X.w (upd H x o) h' x o):Inv X pins σ (upd H x o) { s with heap:=h',toks:=t' }:=I.un (Un.write mu he k heo) (I.hok.write mu he k heo new)
theorem Inv.pins_of {pins':List (Addr×Obj)} (I:Inv X pins σ H s) (h:∀ p∈pins',s.heap.get? p.1=some p.2∧H p.1=none∧p.1≠X.env.locals∧p.1∉X.fs∧∀ v,p.2.data≠.cell v):Inv X pins' σ H s :=
 ⟨I.ok,I.os,I.bare,I.base,I.loc,I.cell,I.free,I.freeC,fun p hp=>(List.mem_append.mp hp).elim (fun z=>I.pin p (Y3 _ z)) (h p),I.hok,I.len⟩
theorem nodup_ix {N:List Str} (hN:N.Nodup) {i j:Nat}{x:Str} (a:N[i]? = some x) (b:N[j]? = some x):i=j:=by
 obtain ⟨h1,e1⟩:=List.getElem?_eq_some_iff.mp a;obtain ⟨h2,e2⟩:=List.getElem?_eq_some_iff.mp b;exact (List.getElem_inj hN).mp (e1.trans e2.symm)
theorem store_ok2 {M:Model}{A:Around}{E:Value→Shared→Prop}{i:Nat}{x:Str}{v:V}{u:Value}{Q:Unit→Shared→Prop} (I:Inv X pins σ H s) (hN:X.N.Nodup) (hi:X.N[i]? = some x) (hx:Loc X.env.scope x) (r:RelV v u)
  (h:∀ s',Inv X pins (σ.set i (some v)) H s'→(∃ a,Heap.SameBut a s.heap s'.heap∧(a=X.env.locals∨X.env.cells.lookup x=some a))→Q () s') (hf:X.fn x=true∨X.env.scope.names.lookup x=some .local:=by first | exact .inl rfl | exact .inr rfl | assumption):wpAny M A (storeName X.env x u) Q E s:=by
 obtain ⟨m,hn,hl⟩:=id I.loc;have hcls:(X.env.scope.kind == .class || (X.env.scope.kind == .module && X.env.locals != X.env.globals))=false:=by rw [I.ok.kind];rfl
 have hiσ : i < σ.length:=by rw [I.len];exact (List.getElem?_eq_some_iff.mp hi).1
 have cne:=I.cne;have tracked:∀ {a:Addr}{h':Heap},(∃ o,s.heap.get? a=some o∧H a=none)→Heap.SameBut a s.heap h'→HOk X.prog X.w H h':=fun {a h'} ha hs b ob e=>by
  obtain ⟨_,_,hfree⟩:=ha;refine (I.hok b ob e).stay (fun c w' hc q=>(hs.2 c ?_).trans q) (fun _ q=>q) fun _ _ q=>q;rintro rfl;rcases hc with rfl | hc
  ·rw [hfree] at e;cases e
  ·rw [hfree] at hc;cases hc
 rcases hx with hk | hk
 ·refine wpAny_storeName_local hk hn (fun h' hn' hs=>?_) hcls;obtain ⟨oL,_,_,hoL,_⟩:=id hn;refine h _ ⟨I.ok,I.os,I.bare,⟨fun b o e n hb hx=>?_,fun b o e n hb hx=>?_,I.base.free,fun b o e hx=>?_,I.base.tups,I.base.frzs,I.base.tbls⟩,⟨_,hn',fun j y v' e1 e2 e3=>?_⟩,fun y c e=>?_,I.free,I.freeC,fun p hp=>?_,tracked ⟨oL,hoL,I.free⟩ hs,by simpa using I.len⟩ ⟨_,hs,.inl rfl⟩
  ·exact (hs.2 b (Ze (Zf (Zc e) I.ok.above))).trans (I.base.keep b o e n hb hx)
  ·obtain ⟨sl,e1⟩:=I.base.slot b o e n hb hx;exact ⟨sl,(hs.2 b (Ze (Zf (Zc e) I.ok.above))).trans e1⟩
  ·obtain ⟨o',e1⟩:=I.base.there b o e hx;exact ⟨o',(hs.2 b (Ze (Zf (Zc e) I.ok.above))).trans e1⟩
  ·by_cases hj:j=i
   ·subst hj;rw [hi] at e1;cases e1;rw [List.getElem?_set_self hiσ] at e2;cases e2;exact ⟨u,r,.inl ⟨hk,by simp⟩⟩
   ·rw [List.getElem?_set_ne (Ne.symm hj)] at e2;obtain ⟨u',r',q⟩:=hl j y v' e1 e2 e3;refine ⟨u',r',?_⟩;rcases q with ⟨k,e⟩ | ⟨k,c,e,z⟩
    ·refine .inl ⟨k,?_⟩;have:y≠x:=fun e=>hj (nodup_ix hN e1 (e ▸ hi));simp [this,e]
    ·exact .inr ⟨k,c,e,z.sameBut hs (cne y c e)⟩
  ·obtain ⟨w',z⟩:=I.cell y c e;exact ⟨w',z.sameBut hs (cne y c e)⟩
  ·obtain ⟨e,n,ne,nf,d⟩:=I.pin p hp;exact ⟨(hs.2 p.1 ne).trans e,n,ne,nf,d⟩
 ·have hfn:X.fn x=true:=by
   rcases hf with z | z
   ·exact z
   ·rw [z] at hk;cases hk
  obtain ⟨c,hc⟩:=I.ok.has x (.inl hk);obtain ⟨w',z⟩:=I.cell x c hc;refine wpAny_storeName_cell I.ok.kind hk hc z (fun h' hc' hs=>?_);obtain ⟨oc,hoc,hocd⟩:=id z;refine h { s with heap:=h' } ⟨I.ok,I.os,I.bare,⟨fun b o e n hb hx=>?_,fun b o e n hb hx=>?_,I.base.free,fun b o e hx=>?_,I.base.tups,I.base.frzs,I.base.tbls⟩,⟨m,hn.sameBut hs (Ne.symm (cne x c hc)),fun j y v' e1 e2 e3=>?_⟩,fun y c' e=>?_,I.free,I.freeC,fun p hp=>?_,tracked ⟨oc,hoc,I.freeC x c hc⟩ hs,by simpa using I.len⟩ ⟨c,hs,.inr hc⟩
  ·exact (hs.2 b (Ze (Zf (Zc e) (I.ok.cab x c hfn hc)))).trans (I.base.keep b o e n hb hx)
  ·obtain ⟨sl,e1⟩:=I.base.slot b o e n hb hx;exact ⟨sl,(hs.2 b (Ze (Zf (Zc e) (I.ok.cab x c hfn hc)))).trans e1⟩
  ·obtain ⟨o',e1⟩:=I.base.there b o e hx;exact ⟨o',(hs.2 b (Ze (Zf (Zc e) (I.ok.cab x c hfn hc)))).trans e1⟩
  ·by_cases hj:j=i
   ·subst hj;rw [hi] at e1;cases e1;rw [List.getElem?_set_self hiσ] at e2;cases e2;exact ⟨u,r,.inr ⟨.inl hk,c,hc,hc'⟩⟩
   ·rw [List.getElem?_set_ne (Ne.symm hj)] at e2;obtain ⟨u',r',q⟩:=hl j y v' e1 e2 e3;refine ⟨u',r',?_⟩;rcases q with q | ⟨k,c',e,z'⟩
    ·exact .inl q
    ·refine .inr ⟨k,c',e,z'.sameBut hs ?_⟩;rintro rfl;exact hj (nodup_ix hN e1 (I.ok.inj _ _ _ e hc ▸ hi))
  ·by_cases hcc:c'=c
   ·subst hcc;exact ⟨_,hc'⟩
   ·obtain ⟨w2,z2⟩:=I.cell y c' e;exact ⟨w2,z2.sameBut hs hcc⟩
  ·obtain ⟨e,n,ne,nf,d⟩:=I.pin p hp;refine ⟨(hs.2 p.1 ?_).trans e,n,ne,nf,d⟩;intro q;rw [q,hoc] at e;have q':oc=p.2:=Zj e;exact d w' (by rw [← q'];exact hocd)
theorem store_ok {M:Model}{A:Around}{E:Value→Shared→Prop}{i:Nat}{x:Str}{v:V}{u:Value}{Q:Unit→Shared→Prop} (I:Inv X pins σ H s) (hN:X.N.Nodup) (hi:X.N[i]? = some x) (hx:Loc X.env.scope x) (r:RelV v u)
  (h:∀ s',Inv X pins (σ.set i (some v)) H s'→Q () s') (hf:X.fn x=true∨X.env.scope.names.lookup x=some .local:=by first | exact .inl rfl | exact .inr rfl | assumption):wpAny M A (storeName X.env x u) Q E s :=
 store_ok2 I hN hi hx r (fun s' I' _=>h s' I') hf
theorem Inv.call' {s':Shared}{ch:List Addr} (I:Inv X pins σ H s) (ho:s'.os=s.os) (u:Un (frs X.stack) ch H H' s.heap s'.heap) (hok:HOk X.prog X.w H' s'.heap) (hg:AllBare s'.gens)
  (hch:∀ b∈ch,(b∈X.ex∨X.s₀.heap.objs.size≤b)∧b≠X.env.locals∧(∀ x c,X.env.cells.lookup x=some c→c≠b)∧∀ p∈X.pn++pins,p.1≠b):Inv X pins σ H' s':=by
 obtain ⟨h',g',d',t',o'⟩:=s';have e:o'=s.os:=ho;subst e;exact I.call (g':=g') (t':=t') (d':=d') u hok hg hch
end
noncomputable abbrev XK:=Value→Option Addr→Hp→Prop
noncomputable abbrev St:=List (Option V)
noncomputable abbrev VK:=V→Hp→Prop
noncomputable abbrev TE:=St→Hp→VK→Prop
noncomputable abbrev TT:=St→Hp→(Bool→Hp→Prop)→Prop
noncomputable abbrev TA:=St→Hp→(List V→Hp→Prop)→Prop
structure Ends where
 nx:St→Hp→Prop
 rt:VK
 bk:St→Hp→Prop:=fun _ _=>False
 ct:St→Hp→Prop:=fun _ _=>False
noncomputable abbrev TS:=Ends→St→Hp→Prop
noncomputable def EP (X:Cx) (pins:List (Addr×Obj)) (σ : St) (Q:VK) (u:Value) (s':Shared):Prop:=∃ v H',Inv X pins σ H' s'∧RelV v u∧Q v H'
noncomputable def TP (X:Cx) (pins:List (Addr×Obj)) (σ : St) (Q:Bool→Hp→Prop) (b:Bool) (s':Shared):Prop:=∃ H',Inv X pins σ H' s'∧Q b H'
noncomputable def AP (X:Cx) (pins:List (Addr×Obj)) (σ : St) (Q:List V→Hp→Prop) (us:List Value) (s':Shared):Prop:=∃ vs H',Inv X pins σ H' s'∧Vals vs us∧Q vs H'
noncomputable def SP (X:Cx) (pins:List (Addr×Obj)) (D:Ends) (f:Flow) (s':Shared):Prop :=
 match f with
 | .next=>∃ σ' H',Inv X pins σ' H' s'∧D.nx σ' H'
 | .brk=>∃ σ' H',Inv X pins σ' H' s'∧D.bk σ' H'
 | .cont=>∃ σ' H',Inv X pins σ' H' s'∧D.ct σ' H'
 | .ret u=>∃ v σ' H',Inv X pins σ' H' s'∧RelV v u∧D.rt v H'
noncomputable def PE (X:Cx) (e:Expr) (t:TE):Prop :=
 ∀ (pins:List (Addr×Obj)) (s:Shared) (σ : St) (H:Hp) (Q:VK),Inv X pins σ H s→t σ H Q→wpAny (model X.prog X.w) X.A (eval e X.env) (EP X pins σ Q) X.xe s
noncomputable def PT (X:Cx) (e:Expr) (t:TT):Prop :=
 ∀ (pins:List (Addr×Obj)) (s:Shared) (σ : St) (H:Hp) (Q:Bool→Hp→Prop),Inv X pins σ H s→t σ H Q→wpAny (model X.prog X.w) X.A (isTrue e X.env (eval e X.env)) (TP X pins σ Q) X.xe s
noncomputable def PW (X:Cx) (e:Expr) (t:TT):Prop :=
 ∀ (whole:Sem Value) (pins:List (Addr×Obj)) (s:Shared) (σ : St) (H:Hp) (Q:Bool→Hp→Prop),Inv X pins σ H s→t σ H Q→wpAny (model X.prog X.w) X.A (isTrue e X.env whole) (TP X pins σ Q) X.xe s
theorem PW.pt {X:Cx}{e:Expr}{t:TT} (h:PW X e t):PT X e t:=h _
noncomputable def PA (X:Cx) (es:List Expr) (t:TA):Prop :=
 ∀ (pos:Pos) (pins:List (Addr×Obj)) (s:Shared) (σ : St) (H:Hp) (Q:List V→Hp→Prop),Inv X pins σ H s→t σ H Q→wpAny (model X.prog X.w) X.A (spliced (backTo pos (starEach es X.env))) (AP X pins σ Q) X.xe s
noncomputable def PS (X:Cx) (st:Stmt) (t:TS):Prop :=
 ∀ (pins:List (Addr×Obj)) (s:Shared) (σ : St) (H:Hp) (D:Ends),Inv X pins σ H s→t D σ H→wpAny (model X.prog X.w) X.A (exec st X.env) (SP X pins D) X.xe s
noncomputable def PSs (X:Cx) (st:List Stmt) (t:TS):Prop :=
 ∀ (pins:List (Addr×Obj)) (s:Shared) (σ : St) (H:Hp) (D:Ends),Inv X pins σ H s→t D σ H→wpAny (model X.prog X.w) X.A (execs st X.env) (SP X pins D) X.xe s
theorem thn {α : Type}{t:Sem α}{Q Q' : α→Shared→Prop}{M:Model}{A:Around}{E:Value→Shared→Prop}{s:Shared} (h:wpAny M A t Q E s) (hQ:∀ a s,Q a s→Q' a s):wpAny M A t Q' E s:=wpAny_mono h hQ fun _ _ x=>x
end L2
namespace L2
open PySem PySem.Spec PyProof.Rows
section
variable {X:Cx}
theorem bin {a b:Expr}{ta tb:TE} (ha:PE X a ta) (hb:PE X b tb) {pins:List (Addr×Obj)}{s:Shared}{σ : St}{H:Hp}{R:V→V→Hp→Prop} (I:Inv X pins σ H s) (h:ta σ H fun x H1=>tb σ H1 fun y H2=>R x y H2)
  {α : Type}{Q : α→Shared→Prop}{f:Value→Value→Sem α}
  (hf:∀ v u s2 x y H2,Inv X pins σ H2 s2→RelV x v→RelV y u→R x y H2→wpAny (model X.prog X.w) X.A (f v u) Q X.xe s2) :
  wpAny (model X.prog X.w) X.A (eval a X.env) (fun v s₁=>wpAny (model X.prog X.w) X.A (eval b X.env) (fun u s₂=>wpAny (model X.prog X.w) X.A (f v u) Q X.xe s₂) X.xe s₁) X.xe s:=by
 refine thn (ha pins s σ H _ I h) fun v s1 ⟨x,H1,I1,r1,q1⟩=>?_;refine thn (hb pins s1 σ H1 _ I1 q1) fun u s2 ⟨y,H2,I2,r2,q2⟩=>?_;exact hf v u s2 x y H2 I2 r1 r2 q2
noncomputable def tVar (i:Nat):TE:=fun σ H Q=>∃ v,σ[i]? = some (some v)∧Q v H
noncomputable def tC (v:V):TE:=fun _ H Q=>Q v H
theorem pe_var {i:Nat}{x:Str}{pos:Pos} (hN:X.N[i]? = some x) (hv:Vis X.env.scope x) (hd:(x == ("__debug__" : Str))=false:=by decide) (hcd:(x == ("__classdict__" : Str))=false:=by decide):PE X (.Name x pos) (tVar i):=by
 intro pins s σ H Q I h;obtain ⟨v,e,h⟩:=h;obtain ⟨m,hn,hl⟩:=I.loc;obtain ⟨u,r,l⟩:=hl i x v hN e hv;have fin:EP X pins σ Q u s:=⟨v,H,I,r,h⟩;rcases l with ⟨hk,hm⟩ | ⟨hk,c,hc,hcell⟩
 ·exact wpAny_Name (wpAny_loadName_local I.ok.kind hk hn hm fin) hd
 ·rcases hk with hk | hk
  ·exact wpAny_Name (wpAny_loadName_cell I.ok.kind hk hc hcell fin) hd
  ·exact wpAny_Name (wpAny_loadName_free I.ok.kind hk hc hcell fin hcd) hd
theorem zA7 {i j pos}:PE X (.Constant (.int i) j pos) (tC (.int i)):=fun _ _ _ H _ I h=>wpAny_Constant_int ⟨.int i,H,I.tok _,⟨_,rfl⟩,h⟩
theorem zDr {b j pos}:PE X (.Constant (.bool b) j pos) (tC (.bl b)):=fun _ _ _ H _ I h=>Constant_bool ⟨.bl b,H,I,rfl,h⟩
theorem zB7 {j pos}:PE X (.Constant .none j pos) (tC .non):=fun _ _ _ H _ I h=>Constant_none ⟨.non,H,I,rfl,h⟩
theorem zAi {x j pos}:PE X (.Constant (.str x) j pos) (tC (.str x)):=fun _ _ _ H _ I h=>Calls.Constant_str ⟨.str x,H,I.tok _,⟨_,rfl⟩,h⟩
noncomputable def Gl (X:Cx) (x:Str):Prop:=X.env.kindOf x=some .globalImplicit
theorem zDh {E:Value→Shared→Prop}{pins:List (Addr×Obj)}{s:Shared}{σ : St}{H:Hp}{x:Str}{u:Value}{pos:Pos}{Q:Value→Shared→Prop} (I:Inv X pins σ H s) (hg:Gl X x) (hm:X.mg x=some u) (h:Q u s)
  (hd:(x == ("__debug__" : Str))=false:=by decide):wpAny (model X.prog X.w) X.A (eval (.Name x pos) X.env) Q E s :=
 Calls.Name_function_global I.ok.kind hg (Calls.loadGlobal_global (by rw [I.ok.glob];exact I.mod.glob.keeps I.bk) hm h) hd
theorem zE3 {E:Value→Shared→Prop}{pins:List (Addr×Obj)}{s:Shared}{σ : St}{H:Hp}{x:Str}{u:Value}{pos:Pos}{Q:Value→Shared→Prop} (I:Inv X pins σ H s) (hg:Gl X x) (hm:X.mg x=none) (hv:bootBuiltins x=some u) (h:Q u s)
  (hn:x≠"__name__":=by decide) (hd:(x == ("__debug__" : Str))=false:=by decide):wpAny (model X.prog X.w) X.A (eval (.Name x pos) X.env) Q E s:=by
 obtain ⟨mb,h1,h2⟩:=I.mod.blt;exact Calls.Name_function_global I.ok.kind hg (Calls.loadGlobal_builtin (by rw [I.ok.glob];exact I.mod.glob.keeps I.bk) hm (by rw [I.ok.blt];exact h1.keeps I.bk) ((h2 x hn).trans hv) h) hd
theorem zCl {x:Str}{v:V}{u:Value}{pos:Pos} (hg:Gl X x) (hm:X.mg x=some u) (r:RelV v u) (hd:(x == ("__debug__" : Str))=false:=by decide):PE X (.Name x pos) (tC v) :=
 fun _ _ _ H _ I h=>zDh I hg hm ⟨v,H,I,r,h⟩ hd
theorem zC1 {x:Str}{v:V}{u:Value}{pos:Pos} (hg:Gl X x) (hm:X.mg x=none) (hv:bootBuiltins x=some u) (r:RelV v u) (hn:x≠"__name__":=by decide) (hd:(x == ("__debug__" : Str))=false:=by decide):PE X (.Name x pos) (tC v) :=
 fun _ _ _ H _ I h=>zE3 I hg hm hv ⟨v,H,I,r,h⟩ hn hd
variable {a b:Expr}{ta tb:TE}{pos:Pos}
noncomputable def PC (X:Cx) (op:CmpOp) (a b:Expr) (t:TE):Prop :=
 ∀ (pins:List (Addr×Obj)) (s:Shared) (σ : St) (H:Hp) (Q:VK),Inv X pins σ H s→t σ H Q →
  wpAny (model X.prog X.w) X.A (eval a X.env) (fun v s₁=>wpAny (model X.prog X.w) X.A (eval b X.env) (fun u s₂=>wpAny (model X.prog X.w) X.A (compareOp op v u) (EP X pins σ Q) X.xe s₂) X.xe s₁) X.xe s
theorem nobehind (b:Expr) {op:CmpOp} (h:op≠.In) (h2:op≠.NotIn):behindInMarks op b=false:=by
 have e1:(op == CmpOp.In)=false:=by cases op <;> first | rfl | exact absurd rfl h
 have e2:(op == CmpOp.NotIn)=false:=by cases op <;> first | rfl | exact absurd rfl h2
 cases b <;> simp [behindInMarks,e1,e2]
noncomputable def tIsN (ta:TE):TE:=fun σ H Q=>ta σ H fun x H1=>Q (.bl (decide (x=.non))) H1
noncomputable def tNotN (ta:TE):TE:=fun σ H Q=>ta σ H fun x H1=>Q (.bl (!decide (x=.non))) H1
theorem RelV.none_iff {x:V}{v:Value} (r:RelV x v):(v == Value.none)=decide (x=.non):=by
 cases x with
 | non=>cases r;rfl
 | bl _=>cases r;rfl
 | int _=>obtain ⟨t,rfl⟩:=r;rfl
 | str _=>obtain ⟨t,rfl⟩:=r;rfl
 | byt _=>obtain ⟨t,rfl⟩:=r;rfl
 | flt _=>obtain ⟨t,rfl⟩:=r;rfl
 | ref _=>cases r;rfl
 | ty _=>cases r;rfl
theorem pc_isN {j pos'} (ha:PE X a ta):PC X .Is a (.Constant .none j pos') (tIsN ta):=by
 intro pins s σ H Q I h;refine thn (ha pins s σ H _ I h) fun v s1 ⟨x,H1,I1,r1,q1⟩=>?_;exact Constant_none (is_none_gen ⟨.bl _,H1,I1,by rw [r1.none_iff];rfl,q1⟩)
theorem zEq {j pos'} (ha:PE X a ta):PC X .IsNot a (.Constant .none j pos') (tNotN ta):=by
 intro pins s σ H Q I h;refine thn (ha pins s σ H _ I h) fun v s1 ⟨x,H1,I1,r1,q1⟩=>?_;exact Constant_none (isnot_none_gen ⟨.bl _,H1,I1,by rw [r1.none_iff];rfl,q1⟩)
noncomputable def tB (t:TE):TT:=fun σ H Q=>t σ H fun x H1=>∃ c,x=.bl c∧Q c H1
theorem zBp {op:CmpOp}{t:TE} (h:PC X op a b t) (h1:behindInMarks op b=false:=by first | exact nobehind _ (by decide) (by decide) | rfl):PT X (.Compare a [op] [b] pos) (tB t):=by
 intro pins s σ H Q I hw;refine wpAny_isTrue_Compare1 (thn (h pins s σ H _ I hw) fun v s1 h1=>thn h1 fun u s2 h2=>thn h2 fun c s3 ⟨x,H1,I1,r1,q1⟩=>?_) h1;obtain ⟨d,rfl,q⟩:=q1;cases r1;exact wpAny_truthy_bool ⟨H1,I1,q⟩
theorem zBd {e:Expr}{t:TE} (h:PE X e t) (he:∀ whole,isTrue e X.env whole=(do let v ← whole;standAt e.pos;holding [v] (truthy v)):=by intro _;rfl):PT X e (tB t):=by
 intro pins s σ H Q I hw;refine isTrue_plain (thn (h pins s σ H _ I hw) fun v s1 ⟨x,H1,I1,r1,q1⟩=>?_) (he _);obtain ⟨d,rfl,q⟩:=q1;cases r1;exact wpAny_truthy_bool ⟨H1,I1,q⟩
variable {tA tB':TT}{rest:List Expr}
noncomputable def tAnd (t u:TT):TT:=fun σ H Q=>t σ H fun c H1=>if c=true then u σ H1 Q else Q false H1
noncomputable def tOr (t u:TT):TT:=fun σ H Q=>t σ H fun c H1=>if c=true then Q true H1 else u σ H1 Q
noncomputable def tNot (t:TT):TT:=fun σ H Q=>t σ H fun c H1=>Q (!c) H1
theorem zEh (ha:PT X a tA):PW X (.BoolOp .And [a] pos) tA:=by
 intro wh pins s σ H Q I h;refine isTrue_and (thn (ha pins s σ H Q I h) fun c s1 e=>?_);cases c with
 | true=>exact isTrue_and_nil e
 | false=>exact e
theorem zC7 (ha:PT X a tA):PW X (.BoolOp .Or [a] pos) tA:=by
 intro wh pins s σ H Q I h;refine isTrue_or (thn (ha pins s σ H Q I h) fun c s1 e=>?_);cases c with
 | false=>exact isTrue_or_nil e
 | true=>exact e
theorem pw_and (ha:PT X a tA) (hb:PW X (.BoolOp .And (b :: rest) pos) tB'):PW X (.BoolOp .And (a :: b :: rest) pos) (tAnd tA tB'):=by
 intro wh pins s σ H Q I h;refine isTrue_and (thn (ha pins s σ H _ I h) fun c s1 ⟨H1,I1,q1⟩=>?_);cases c with
 | true=>exact hb wh pins s1 σ H1 Q I1 q1
 | false=>exact ⟨H1,I1,q1⟩
theorem zEg (ha:PT X a tA) (hb:PW X (.BoolOp .Or (b :: rest) pos) tB'):PW X (.BoolOp .Or (a :: b :: rest) pos) (tOr tA tB'):=by
 intro wh pins s σ H Q I h;refine isTrue_or (thn (ha pins s σ H _ I h) fun c s1 ⟨H1,I1,q1⟩=>?_);cases c with
 | true=>exact ⟨H1,I1,q1⟩
 | false=>exact hb wh pins s1 σ H1 Q I1 q1
theorem zBe (ha:PT X a tA):PT X (.UnaryOp .Not a pos) (tNot tA):=by
 intro pins s σ H Q I h;exact isTrue_not (ha pins s σ H (fun c H1=>Q (!c) H1) I h)
noncomputable def tAndV (ta tb:TE):TE:=fun σ H Q=>ta σ H fun x H1=>∃ c,x=.bl c∧if c=true then tb σ H1 Q else Q (.bl false) H1
theorem zE1 {op}{t:TE} (h:PE X a t):PE X (.BoolOp op [a] pos) t:=fun pins s σ H Q I hw=>BoolOp_one (h pins s σ H Q I hw)
theorem zD9 (ha:PE X a ta) (hb:PE X (.BoolOp .And (b :: rest) pos) tb):PE X (.BoolOp .And (a :: b :: rest) pos) (tAndV ta tb):=by
 intro pins s σ H Q I h;refine BoolOp_and (thn (ha pins s σ H _ I h) fun v s1 ⟨x,H1,I1,r1,q1⟩=>?_);obtain ⟨c,rfl,q1⟩:=q1;cases r1;refine wpAny_truthy_bool ?_;cases c with
 | true=>exact hb pins s1 σ H1 Q I1 q1
 | false=>exact ⟨.bl false,H1,I1,rfl,q1⟩
noncomputable def tIf (t:TT) (ta tb:TE):TE:=fun σ H Q=>t σ H fun c H1=>if c=true then ta σ H1 Q else tb σ H1 Q
theorem zEm {c:Expr} (hc:PT X c tA) (ha:PE X a ta) (hb:PE X b tb):PE X (.IfExp c a b pos) (tIf tA ta tb):=by
 intro pins s σ H Q I h;refine wpAny_IfExp (thn (hc pins s σ H _ I h) fun d s1 ⟨H1,I1,q1⟩=>?_);cases d with
 | true=>exact ha pins s1 σ H1 Q I1 q1
 | false=>exact hb pins s1 σ H1 Q I1 q1
end
end L2
namespace L2
open PySem PySem.Spec PyProof.Rows
noncomputable def SqL (K:PySem.W.Frag) (H:Hp) (a:Addr) (xs:List V):Prop :=
 Rd H a (.lst xs) ∨
  ∃ (o:Obj) (its:Array Value) (n:Nat),K.lookup a=some o∧o.cls=.type "list"∧o.dict=none∧o.data=.seq its n∧its.size≤sizeLine∧Vals xs its.toList
noncomputable def SqT (K:PySem.W.Frag) (H:Hp) (a:Addr) (xs:List V):Prop :=
 Rd H a (.tup xs) ∨
  ∃ (o:Obj) (its:Array Value) (n:Nat),K.lookup a=some o∧o.cls=.type "tuple"∧o.data=.seq its n∧its.size≤sizeLine∧Vals xs its.toList
noncomputable def absV:Value→Option V
 | .none=>some .non
 | .bool b=>some (.bl b)
 | .int i _=>some (.int i)
 | .str x _=>some (.str x)
 | .bytes b _=>some (.byt b)
 | .float b _=>some (.flt b)
 | .ref a=>some (.ref a)
 | .type n=>some (.ty n)
 | _=>none
theorem RelV.abs {x:V}{u:Value} (r:RelV x u):absV u=some x:=by
 cases x with
 | non=>cases r;rfl
 | bl _=>cases r;rfl
 | int _=>obtain ⟨t,rfl⟩:=r;rfl
 | str _=>obtain ⟨t,rfl⟩:=r;rfl
 | byt _=>obtain ⟨t,rfl⟩:=r;rfl
 | flt _=>obtain ⟨t,rfl⟩:=r;rfl
 | ref _=>cases r;rfl
 | ty _=>cases r;rfl
theorem RelV.inj {x y:V}{u:Value} (r:RelV x u) (q:RelV y u):x=y:=Zj (r.abs.symm.trans q.abs)
theorem Vals.inj:∀ {xs ys:List V}{us:List Value},Vals xs us→Vals ys us→xs=ys
 | _,_,_,.nil,.nil=>rfl
 | _,_,_,.cons r t,.cons r' t'=>by rw [r.inj r',Vals.inj t t']
section
variable {X:Cx}{pins:List (Addr×Obj)}{σ : St}{H:Hp}{s:Shared}{a:Addr}{xs ys:List V}
theorem SqL.of {K:PySem.W.Frag} (h:H a=some (.lst xs)):SqL K H a xs:=.inl (.inl h)
theorem SqT.of {K:PySem.W.Frag} (h:H a=some (.tup xs)):SqT K H a xs:=.inl (.inl h)
theorem Inv.list (I:Inv X pins σ H s) (h:SqL X.K H a xs):∃ its:List Value,Vals xs its∧PlainL s.heap a its.toArray∧xs.length≤sizeLine:=by
 rcases h with h | ⟨o,its,n,hk,hc,hd,hs,hz,r⟩
 ·obtain ⟨z,its,n,r,e⟩:=h.ok I.hok;exact ⟨its,r,⟨_,n,e,rfl,rfl,rfl⟩,z⟩
 ·refine ⟨its.toList,r,⟨o,n,I.kIn a o hk,hc,hd,by simpa using hs⟩,?_⟩;have e:=r.length;simp only [Y5] at e;omega
theorem Inv.tuple (I:Inv X pins σ H s) (h:SqT X.K H a xs):∃ its:List Value,Vals xs its∧IsTup s.heap a its.toArray∧xs.length≤sizeLine:=by
 rcases h with h | ⟨o,its,n,hk,hc,hs,hz,r⟩
 ·obtain ⟨z,its,r,p⟩:=h.ok I.hok;exact ⟨its,r,p,z⟩
 ·refine ⟨its.toList,r,⟨o,I.kIn a o hk,hc,n,by simpa using hs⟩,?_⟩;have e:=r.length;simp only [Y5] at e;omega
theorem Inv.list_inj (I:Inv X pins σ H s) (h:SqL X.K H a xs) (h':SqL X.K H a ys):xs=ys:=by
 obtain ⟨its,r,⟨o,n,e,_,_,d⟩,_⟩:=I.list h;obtain ⟨its',r',⟨o',n',e',_,_,d'⟩,_⟩:=I.list h';rw [e] at e';cases e';rw [d] at d';injection d' with d1 _;have:its=its':=by simpa using congrArg Array.toList d1
 subst this;exact r.inj r'
end
noncomputable abbrev Cx.wish (X:Cx) (E:Value→Shared→Prop):Cx:={ X with xe:=E }
noncomputable abbrev Cx.nox (X:Cx):Cx:=X.wish fun _ _=>False
theorem Cx.Ok.wish {X:Cx} (ok:X.Ok) (E:Value→Shared→Prop):(X.wish E).Ok :=
 ⟨ok.mod,ok.kind,ok.glob,ok.blt,ok.above,ok.inj,ok.has,ok.cab,ok.hd,ok.frames,ok.stk,ok.exf,ok.bs,ok.bsz,ok.noex,ok.exfs,ok.funs,ok.frf⟩
theorem Cx.Ok.unwish {X:Cx}{E:Value→Shared→Prop} (ok:(X.wish E).Ok):X.Ok :=
 ⟨ok.mod,ok.kind,ok.glob,ok.blt,ok.above,ok.inj,ok.has,ok.cab,ok.hd,ok.frames,ok.stk,ok.exf,ok.bs,ok.bsz,ok.noex,ok.exfs,ok.funs,ok.frf⟩
section
variable {X:Cx}{pins:List (Addr×Obj)}{σ : St}{H:Hp}{s:Shared}{E:Value→Shared→Prop}
theorem Inv.wish (I:Inv X pins σ H s) (E:Value→Shared→Prop):Inv (X.wish E) pins σ H s:=⟨I.ok.wish E,I.os,I.bare,I.base,I.loc,I.cell,I.free,I.freeC,I.pin,I.hok,I.len⟩
theorem Inv.unwish (I:Inv (X.wish E) pins σ H s):Inv X pins σ H s:=⟨I.ok.unwish,I.os,I.bare,I.base,I.loc,I.cell,I.free,I.freeC,I.pin,I.hok,I.len⟩
theorem SP.unwish {D:Ends}{f:Flow}{s':Shared} (h:SP (X.wish E) pins D f s'):SP X pins D f s':=by
 cases f with
 | next=>obtain ⟨σ',H',I,q⟩:=h;exact ⟨σ',H',I.unwish,q⟩
 | brk=>obtain ⟨σ',H',I,q⟩:=h;exact ⟨σ',H',I.unwish,q⟩
 | cont=>obtain ⟨σ',H',I,q⟩:=h;exact ⟨σ',H',I.unwish,q⟩
 | ret u=>obtain ⟨v,σ',H',I,r,q⟩:=h;exact ⟨v,σ',H',I.unwish,r,q⟩
theorem PE.nox {e:Expr}{t:TE} (h:PE X.nox e t):PE X e t:=fun pins s σ H Q I hw =>
 wpAny_mono (h pins s σ H Q (I.wish _) hw) (fun _ _ ⟨v,H',I',r,q⟩=>⟨v,H',I'.unwish,r,q⟩) fun _ _ z=>False.elim z
theorem PT.nox {e:Expr}{t:TT} (h:PT X.nox e t):PT X e t:=fun pins s σ H Q I hw =>
 wpAny_mono (h pins s σ H Q (I.wish _) hw) (fun _ _ ⟨H',I',q⟩=>⟨H',I'.unwish,q⟩) fun _ _ z=>False.elim z
theorem PSs.nox {st:List Stmt}{t:TS} (h:PSs X.nox st t):PSs X st t:=fun pins s σ H D I hw =>
 wpAny_mono (h pins s σ H D (I.wish _) hw) (fun _ _ q=>q.unwish) fun _ _ z=>False.elim z
end
section
variable {X:Cx}{st:Stmt}{rest:List Stmt}{t u:TS}{e:Expr}{te:TE}{pos:Pos}
noncomputable def tNext:TS:=fun D σ H=>D.nx σ H
noncomputable def tSeq (t u:TS):TS:=fun D σ H=>t { D with nx:=u D } σ H
theorem zAl:PSs X [] tNext:=fun _ _ σ H _ I h=>wpAny_execs_nil ⟨σ,H,I,h⟩
theorem zA4 (h1:PS X st t) (h2:PSs X rest u):PSs X (st :: rest) (tSeq t u):=by
 intro pins s σ H D I h;refine wpAny_execs_cons (thn (h1 pins s σ H { D with nx:=u D } I h) fun f s1 q=>?_);cases f with
 | next =>
  obtain ⟨σ',H',I',q⟩:=q;exact h2 pins s1 σ' H' D I' q
 | ret v=>exact q
 | brk=>exact q
 | cont=>exact q
theorem zA6 (h1:PS X st t):PSs X [st] t:=by
 intro pins s σ H D I h;refine wpAny_execs_cons (thn (h1 pins s σ H D I h) fun f s1 q=>?_);cases f with
 | next=>exact wpAny_execs_nil q
 | ret v=>exact q
 | brk=>exact q
 | cont=>exact q
theorem Inv.quiet {pins:List (Addr×Obj)}{σ : St}{H:Hp}{s:Shared} (I:Inv X pins σ H s):interactive X.env=false:=by simp [interactive,I.ok.kind]
noncomputable def tDrop (te:TE):TS:=fun D σ H=>te σ H fun _ H1=>D.nx σ H1
theorem zB3 (he:PE X e te) (hs:swapsWith e none pos.line X.env=pure false:=by rfl):PS X (.Expr e pos) (tDrop te):=by
 intro pins s σ H D I h;exact wpAny_Expr_any (thn (he pins s σ H _ I h) fun v s1 ⟨x,H1,I1,r1,q1⟩=>⟨σ,H1,I1,q1⟩) I.quiet hs
noncomputable def tRet (te:TE):TS:=fun D σ H=>te σ H D.rt
theorem zAg (he:PE X e te):PS X (.Return (some e) pos) (tRet te):=by
 intro pins s σ H D I h;exact wpAny_Return_some (thn (he pins s σ H _ I h) fun v s1 ⟨x,H1,I1,r1,q1⟩=>⟨x,σ,H1,I1,r1,q1⟩)
noncomputable def tIfS (c:TT) (t u:TS):TS:=fun D σ H=>c σ H fun b H1=>if b=true then t D σ H1 else u D σ H1
theorem zBg {c:Expr}{a b:List Stmt}{tc:TT} (hc:PT X c tc) (ha:PSs X a t) (hb:PSs X b u):PS X (.If c a b pos) (tIfS tc t u):=by
 intro pins s σ H D I h;refine wpAny_If (thn (hc pins s σ H _ I h) fun d s1 ⟨H1,I1,q1⟩=>?_);cases d with
 | true=>exact ha pins s1 σ H1 D I1 q1
 | false=>exact hb pins s1 σ H1 D I1 q1
noncomputable def tNever:TS:=fun _ _ _=>False
theorem zAs {sts:List Stmt}:PSs X sts tNever:=fun _ _ _ _ _ _ h=>h.elim
end
noncomputable abbrev TG:=V→St→Hp→(St→Hp→Prop)→Prop
noncomputable abbrev TGs:=List V→St→Hp→(St→Hp→Prop)→Prop
noncomputable def PG (X:Cx) (target:Expr) (t:TG):Prop :=
 ∀ (pins:List (Addr×Obj)) (s:Shared) (σ : St) (H:Hp) (v:V) (u:Value) (Q:St→Hp→Prop),Inv X pins σ H s→RelV v u→t v σ H Q →
  wpAny (model X.prog X.w) X.A (assign target X.env u) (fun _ s'=>∃ σ' H',Inv X pins σ' H' s'∧Q σ' H') X.xe s
noncomputable def PGs (X:Cx) (ts:List Expr) (t:TGs):Prop :=
 ∀ (pins:List (Addr×Obj)) (s:Shared) (σ : St) (H:Hp) (vs:List V) (us:List Value) (Q:St→Hp→Prop),Inv X pins σ H s→Vals vs us→t vs σ H Q →
  wpAny (model X.prog X.w) X.A (assignInOrder ((assignEach ts X.env).map (·.2)) us) (fun _ s'=>∃ σ' H',Inv X pins σ' H' s'∧Q σ' H') X.xe s
noncomputable abbrev TSet:=V→V→V→Hp→(Hp→Prop)→Prop
noncomputable def PSet (X:Cx) (t:TSet):Prop :=
 ∀ (pins:List (Addr×Obj)) (s:Shared) (σ : St) (H:Hp) (o i v:V) (ov iv u:Value) (Q:Hp→Prop),Inv X pins σ H s→RelV o ov→RelV i iv→RelV v u→t o i v H Q →
  wpAny (model X.prog X.w) X.A (setItem ov iv u) (fun _ s'=>∃ H',Inv X pins σ H' s'∧Q H') X.xe s
section
variable {X:Cx}{pos:Pos}
noncomputable def gName (i:Nat):TG:=fun v σ H Q=>Q (σ.set i (some v)) H
theorem zA8 {i:Nat}{x:Str} (hN:X.N.Nodup) (hi:X.N[i]? = some x) (hx:Loc X.env.scope x) (hf:X.fn x=true∨X.env.scope.names.lookup x=some .local:=by first | exact .inl rfl | exact .inr rfl | assumption):PG X (.Name x pos) (gName i):=by
 intro pins s σ H v u Q I r h;exact wpAny_assign_Name (store_ok I hN hi hx r (fun s' I'=>⟨_,H,I',h⟩) hf)
noncomputable def gNil:TGs:=fun vs σ H Q=>vs=[]∧Q σ H
noncomputable def gCons (t:TG) (u:TGs):TGs:=fun vs σ H Q=>∃ v r,vs=v :: r∧t v σ H fun σ' H'=>u r σ' H' Q
theorem zBk:PGs X [] gNil:=by
 intro pins s σ H vs us Q I r h;obtain ⟨e,h⟩:=h;subst e;cases r;exact assignInOrder_nil ⟨σ,H,I,h⟩
theorem zAh {e:Expr}{es:List Expr}{t:TG}{u:TGs} (h1:PG X e t) (h2:PGs X es u)
  (hs:(assignEach (e :: es) X.env).map (·.2)=assign e X.env :: (assignEach es X.env).map (·.2):=by rfl):PGs X (e :: es) (gCons t u):=by
 intro pins s σ H vs us Q I r h;obtain ⟨v,vr,e1,h⟩:=h;subst e1;cases r with
 | cons r rr =>
  rw [hs];refine assignInOrder_cons (thn (h1 pins s σ H _ _ _ I r h) fun _ s1 ⟨σ1,H1,I1,q1⟩=>?_);exact h2 pins s1 σ1 H1 _ _ Q I1 rr q1
noncomputable def gTup (K:PySem.W.Frag) (n:Nat) (t:TGs):TG:=fun v σ H Q=>∃ a xs,v=.ref a∧SqT K H a xs∧xs.length=n∧t xs σ H Q
theorem zD6 {es:List Expr}{k:Nat}{t:TGs}{n:Nat} (hc:X.calm=true) (h:PGs X es t)
  (hn:(assignEach es X.env).length=n:=by rfl) (hst:(assignEach es X.env).findIdx? (·.1)=none:=by rfl):PG X (.Tuple es k pos) (gTup X.K n t):=by
 intro pins s σ H v u Q I r hw;obtain ⟨a,xs,e1,hq,hl,hw⟩:=hw;subst e1;cases r;obtain ⟨its,rv,ht,hz⟩:=I.tuple hq;refine assign_Tuple_tuple (I.ok.hd hc) ht (by simp [hn,← hl,rv.length]) hst fun h' hx=>?_;have I1:Inv X pins σ H { s with heap:=h' }:=I.kept (t':=s.toks) fun b o e=>hx b o (Ze (Zc e)) e;exact h pins _ σ H xs _ Q I1 (by simpa using rv) hw
noncomputable def gSub (to ti:TE) (t:TSet):TG:=fun v σ H Q=>to σ H fun o H1=>ti σ H1 fun i H2=>t o i v H2 fun H3=>Q σ H3
theorem pg_sub {o i:Expr}{to ti:TE}{t:TSet} (ho:PE X o to) (hi:PE X i ti) (hs:PSet X t)
  (ha:∀ v,assign (.Subscript o i pos) X.env v=(do
   let ov ← holding [v] (eval o X.env)
   let iv ← holding [v,ov] (eval i X.env)
   standAt pos
   holding [v,ov,iv] (setItem ov iv v)
   release [v,ov,iv] []):=by intro _;rfl):PG X (.Subscript o i pos) (gSub to ti t):=by
 intro pins s σ H v u Q I r h;rw [ha];refine wpAny_bind (wpAny_holding (thn (ho pins s σ H _ I h) fun ov s1 ⟨x,H1,I1,r1,q1⟩=>?_));refine wpAny_bind (wpAny_holding (thn (hi pins s1 σ H1 _ I1 q1) fun iv s2 ⟨y,H2,I2,r2,q2⟩=>?_));refine wpAny_bind (wpAny_standAt (wpAny_bind (wpAny_holding (thn (hs pins s2 σ H2 x y v ov iv u _ I2 r1 r2 r q2) fun _ s3 ⟨H3,I3,q3⟩=>?_))));exact wpAny_release ⟨σ,H3,I3,q3⟩
noncomputable def tAsg (te:TE) (g:TG):TS:=fun D σ H=>te σ H fun x H1=>g x σ H1 D.nx
theorem ps_asg {tg e:Expr}{te:TE}{g:TG} (he:PE X e te) (hg:PG X tg g) (hs:swapsWithSole [tg] e pos.line X.env=pure false:=by rfl) (hw:swappedStores [tg] e X.env=pure none:=by rfl)
  (h1:(assignEach [tg] X.env).map (·.2)=[assign tg X.env]:=by rfl):PS X (.Assign [tg] e pos) (tAsg te g):=by
 intro pins s σ H D I h;refine wpAny_Assign_stores (thn (he pins s σ H _ I h) fun v s1 ⟨x,H1,I1,r1,q1⟩=>?_) hs hw;rw [h1];exact thn (hg pins s1 σ H1 x v _ I1 r1 q1) fun _ s2 q=>q
theorem zAa {i:Nat}{x:Str}{e:Expr}{te:TE}{pos':Pos} (hN:X.N.Nodup) (hi:X.N[i]? = some x) (hx:Loc X.env.scope x) (he:PE X e te) (hs:swapsWith e (some (.Name x pos')) pos.line X.env=pure false:=by rfl) (hf:X.fn x=true∨X.env.scope.names.lookup x=some .local:=by first | exact .inl rfl | exact .inr rfl | assumption) :
  PS X (.Assign [.Name x pos'] e pos) (tAsg te (gName i)):=by
 intro pins s σ H D I h;refine wpAny_Assign_Name (thn (he pins s σ H _ I h) fun v s1 ⟨y,H1,I1,r1,q1⟩=>?_) hs;exact store_ok I1 hN hi hx r1 (fun s2 I2=>⟨_,H1,I2,q1⟩) hf
end
section
variable {X:Cx}{pos:Pos}
noncomputable def tWhile (c:TT) (tb:TS):TS:=fun D σ H=>∃ W:Nat→St→Hp→Prop,(∃ m,W m σ H)∧∀ m σ H,W m σ H →
 c σ H fun b H1=>if b=true then ∃ N:St→Hp→Prop,(∀ σ' H',N σ' H'→∃ m',m' < m∧W m' σ' H')∧tb { D with nx:=N,ct:=N,bk:=D.nx } σ H1 else D.nx σ H1
theorem zCy {c:Expr}{body:List Stmt}{tc:TT}{tb:TS} (hp:PassesOwn (model X.prog X.w) X.A X.env X.xe) (hc:PT X c tc) (hb:PSs X body tb):PS X (.While c body [] pos) (tWhile tc tb):=by
 intro pins s σ H D I h;obtain ⟨W,⟨m0,w0⟩,turn⟩:=h;refine wpAny_While (codeAny_whileLoop (fun n s'=>∃ σ' H',Inv X pins σ' H' s'∧W n σ' H') ?_ m0 ⟨σ,H,I,w0⟩);rintro n s1 ⟨σ1,H1,I1,w1⟩;refine wpAny_passesOwn hp (thn (hc pins s1 σ1 H1 _ I1 (turn n σ1 H1 w1)) fun b s2 ⟨H2,I2,q2⟩=>?_);cases b with
 | true =>
  obtain ⟨N,hN,q2⟩:=q2;rw [if_pos rfl];refine wpAny_passesOwn hp (thn (hb pins s2 σ1 H2 _ I2 q2) fun f s3 q3=>?_);cases f with
  | next =>
   obtain ⟨σ3,H3,I3,n3⟩:=q3;obtain ⟨m',hm,w3⟩:=hN σ3 H3 n3;exact ⟨m',hm,σ3,H3,I3,w3⟩
  | cont =>
   obtain ⟨σ3,H3,I3,n3⟩:=q3;obtain ⟨m',hm,w3⟩:=hN σ3 H3 n3;exact ⟨m',hm,σ3,H3,I3,w3⟩
  | brk=>exact q3
  | ret v=>exact q3
 | false =>
  rw [if_neg Zh];exact wpAny_execs_nil ⟨σ1,H2,I2,q2⟩
end
structure It where
 go:Nat→Hp→Prop
 yld:Nat→Hp→V→Hp→Prop
 stop:Nat→Hp→Prop
noncomputable def FpOk (X:Cx) (pins:List (Addr×Obj)) (H:Hp) (b:Addr):Prop :=
 H b=none∧b≠X.env.locals∧b∉X.fs∧(b∈X.ex∨X.s₀.heap.objs.size≤b)∧(∀ x c,X.env.cells.lookup x=some c→c≠b)∧∀ p∈X.pn++pins,p.1≠b
theorem Inv.fpOk {X:Cx}{pins:List (Addr×Obj)}{σ : St}{H H':Hp}{s:Shared}{b:Addr} (I:Inv X pins σ H s) (hb:s.heap.objs.size≤b) (hn:H' b=none):FpOk X pins H' b:=by
 refine ⟨hn,Nat.ne_of_gt (Zf I.lt hb),I.nofs hb,.inr (Zk I.sz hb),fun x c e z=>?_,fun p hp z=>?_⟩
 ·obtain ⟨v,q⟩:=I.cell x c e;exact absurd (Zf q.lt (by rw [z];exact hb)) (Yd _)
 ·exact absurd (Zf (Zc (I.pin p hp).1) (by rw [z];exact hb)) (Yd _)
structure Turn (P:Program) (w:World) (K:PySem.W.Frag) (tg:Expr) (J:It) (fp:List Addr) (it:Addr) (tn:Nat→Heap→Prop):Prop where
 mem:it∈fp
 obj:∀ i h,tn i h→∀ b∈fp,∃ o,h.get? b=some o∧∀ v,o.data≠.cell v
 keep:∀ i h h',tn i h→(∀ b∈fp,∀ o,h.get? b=some o→h'.get? b=some o)→tn i h'
 item:∀ (X:Cx),X.prog=P→X.w=w→X.K=K→X.calm=true→∀ (i:Nat) (pins:List (Addr×Obj)) (s:Shared) (σ : St) (H:Hp) (E:Value→Shared→Prop),Inv X pins σ H s→(∀ b∈fp,FpOk X pins H b)→tn i s.heap→J.go i H →
  wpAny (model P w) X.A (pyNext (.ref it)) (fun r s1=>∃ u,r=some u ∧
   wpAny (model P w) X.A (letOwnedTupleGo tg (.ref it) u) (fun _ s2=>∃ x H',Inv X pins σ H' s2∧RelV x u∧J.yld i H x H'∧tn (i + 1) s2.heap∧∀ b∈fp,H' b=none) E s1) E s
 done:∀ (X:Cx),X.prog=P→X.w=w→X.K=K→X.calm=true→∀ (i:Nat) (pins:List (Addr×Obj)) (s:Shared) (σ : St) (H:Hp) (E:Value→Shared→Prop),Inv X pins σ H s→(∀ b∈fp,FpOk X pins H b)→tn i s.heap→J.stop i H →
  wpAny (model P w) X.A (pyNext (.ref it)) (fun r s1=>r=none∧Inv X pins σ H s1) E s
 self:∀ (A:Around) (i:Nat) (s:Shared) (Q:Value→Shared→Prop) (E:Value→Shared→Prop),tn i s.heap→Q (.ref it) s→wpAny (model P w) A (pyIter (.ref it)) Q E s
noncomputable abbrev TI:=St→Hp→(It→Hp→Prop)→Prop
noncomputable def PIE (X:Cx) (pins:List (Addr×Obj)) (σ : St) (tg:Expr) (R:It→Hp→Prop) (itv:Value) (s2:Shared):Prop :=
 ∃ (it:Addr) (fp:List Addr) (tn:Nat→Heap→Prop) (J:It) (H':Hp),itv=.ref it∧Inv X pins σ H' s2∧Turn X.prog X.w X.K tg J fp it tn∧tn 0 s2.heap∧(∀ b∈fp,FpOk X pins H' b)∧R J H'
noncomputable def PI (X:Cx) (tg iter:Expr) (wi:TI):Prop :=
 ∀ (pins:List (Addr×Obj)) (s:Shared) (σ : St) (H:Hp) (R:It→Hp→Prop),Inv X pins σ H s→wi σ H R →
  wpAny (model X.prog X.w) X.A (eval iter X.env) (fun v s1=>wpAny (model X.prog X.w) X.A (pyIter v) (PIE X pins σ tg R) X.xe s1) X.xe s
theorem go_of {M:Model}{A:Around}{E:Value→Shared→Prop}{s:Shared}{tg:Expr}{it:Addr}{u:Value}{o:Obj}{n:String}{vs:Array Value}{Q:Unit→Shared→Prop} (ho:s.heap.get? it=some o) (hc:o.cls=.type n) (hd:o.data=.fields vs)
  (hn:["enumerate", "zip", "dict_itemiterator", "dict_reverseitemiterator", "odict_iterator", "itertools.zip_longest", "itertools.pairwise"].contains n=false) (hQ:Q () s):wpAny M A (letOwnedTupleGo tg (.ref it) u) Q E s:=by
 unfold letOwnedTupleGo
 cases tg <;> first
  | exact wpAny_pure hQ
  | (cases u <;> first
    | exact wpAny_pure hQ
    | (refine wpAny_bind (wpAny_load ho ?_)
       rw [hc,hd];show wpAny M A (if (["enumerate", "zip", "dict_itemiterator", "dict_reverseitemiterator", "odict_iterator", "itertools.zip_longest", "itertools.pairwise"].contains n && vs[0]? == some (rawInt _))=true then _ else _) Q E s;rw [if_neg (by intro h;rw [hn,Bool.false_and] at h;cases h)]
       exact wpAny_pure hQ))
noncomputable def Itl (K:PySem.W.Frag) (a:Addr):It :=
 ⟨fun i H=>∃ xs x,SqL K H a xs∧xs[i]? = some x,fun i H x H'=>H'=H∧∀ xs,SqL K H a xs→xs[i]? = some x,fun i H=>∃ xs,SqL K H a xs∧xs.length≤i⟩
noncomputable def Itr (lo:Int) (n:Nat):It:=⟨fun i _=>i < n,fun i H x H'=>H'=H∧x=.int (lo + i),fun i _=>n≤i⟩
theorem turn_list {P:Program}{w:World}{K:PySem.W.Frag}{tg:Expr} (a it:Addr):Turn P w K tg (Itl K a) [it] it (fun i h=>h.IsListIter it a i) where
 mem:=by simp
 obj:=fun i h st b hb=>by
  have e:b=it:=by simpa using hb
  subst e;obtain ⟨o,e,c,d⟩:=st;exact ⟨o,e,fun v z=>by rw [d] at z;cases z⟩
 keep:=fun i h h' st k=>st.at fun o e=>k it (by simp) o e
 item:=by
  intro X hP hw hK hc i pins s σ H E I hf st hg;subst hP hw hK;obtain ⟨xs,x,hq,hx⟩:=hg;obtain ⟨its,rv,p,hz⟩:=I.list hq;obtain ⟨u,hu,ru⟩:=rv.get hx;obtain ⟨f0,f1,f2,f3,f4,f5⟩:=hf it (by simp);refine wpAny_pyNext_list_item st p.isList (x:=u) (by simpa using hu) fun h' st' sb=>?_;have I1:Inv X pins σ H { s with heap:=h' }:=I.turned (t':=s.toks) (fun b o hb e=>(sb.2 b hb).trans e) f0 f1 f3 f4 f5;obtain ⟨o,e,c,d⟩:=id st';exact ⟨u,rfl,go_of (s:={ s with heap:=h' }) e c d (by decide) ⟨x,H,I1,ru,⟨rfl,fun ys hy=>by rw [I.list_inj hy hq];exact hx⟩,st',fun b hb=>(hf b hb).1⟩⟩
 done:=by
  intro X hP hw hK hc i pins s σ H E I hf st hg;subst hP hw hK;obtain ⟨xs,hq,hx⟩:=hg;obtain ⟨its,rv,p,hz⟩:=I.list hq;obtain ⟨f0,f1,f2,f3,f4,f5⟩:=hf it (by simp);have hl:=rv.length;exact wpAny_pyNext_list_end (I.ok.hd hc) st p.isList (by simp;omega) fun h' eb=>⟨rfl,I.turned (t':=s.toks) (fun b o hb e=>eb b o hb e) f0 f1 f3 f4 f5⟩
 self:=fun _ _ _ _ _ st h=>wpAny_pyIter_listiter st h
theorem turn_range {P:Program}{w:World}{K:PySem.W.Frag}{tg:Expr} (it:Addr) (lo:Int) (n:Nat):Turn P w K tg (Itr lo n) [it] it (fun i h=>IsRangeIter h it (lo + (i:Nat) * 1) ((n:Int) - (i:Nat)) 1) where
 mem:=by simp
 obj:=fun i h st b hb=>by
  have e:b=it:=by simpa using hb
  subst e
  exact ⟨_,st,fun v z=>by
   have z':Data.fields _=Data.cell v:=z
   cases z'⟩
 keep:=fun i h h' st k=>k it (by simp) _ st
 item:=by
  intro X hP hw hK hc i pins s σ H E I hf st hg;subst hP hw hK;obtain ⟨f0,f1,f2,f3,f4,f5⟩:=hf it (by simp);have W:=Walks.range (prog:=X.prog) (w:=X.w) (I.ok.hd hc) it lo 1 n;refine W.item i s _ _ hg st fun v h' tk hv st' kk=>?_;obtain ⟨t,rfl⟩:=hv;have I1:Inv X pins σ H { s with heap:=h',toks:=tk }:=I.turned (fun b o hb e=>kk b o (by simpa using hb) e) f0 f1 f3 f4 f5;refine ⟨_,rfl,go_of (s:={ s with heap:=h',toks:=tk }) (n:="range_iterator") st' rfl rfl (by decide) ⟨.int (lo + i),H,I1,⟨t,?_⟩,⟨rfl,rfl⟩,st',fun b hb=>(hf b hb).1⟩⟩;rw [Int.mul_one]
 done:=by
  intro X hP hw hK hc i pins s σ H E I hf st hg;subst hP hw hK;obtain ⟨f0,f1,f2,f3,f4,f5⟩:=hf it (by simp);exact wpAny_pyNext_range_end (I.ok.hd hc) st (by have:n≤i:=hg;omega) fun h' eb=>⟨rfl,I.turned (t':=s.toks) (fun b o hb e=>eb b o hb e) f0 f1 f3 f4 f5⟩
 self:=fun _ _ _ _ _ st h=>wpAny_pyIter_rangeiter st h
end L2
namespace L2
open PySem PySem.Spec PyProof.Rows
section
variable {X:Cx}{tg:Expr}
noncomputable def iList (K:PySem.W.Frag) (tl:TE):TI:=fun σ H R=>tl σ H fun x H1=>∃ a,x=.ref a∧(∃ xs,SqL K H1 a xs)∧R (Itl K a) H1
theorem zAb {l:Expr}{tl:TE} (hl:PE X l tl):PI X tg l (iList X.K tl):=by
 intro pins s σ H R I h;refine thn (hl pins s σ H _ I h) fun v s1 ⟨x,H1,I1,r1,q1⟩=>?_;obtain ⟨a,e,⟨xs,hq⟩,q⟩:=q1;subst e;cases r1;obtain ⟨its,rv,p,hz⟩:=I1.list hq;refine wpAny_pyIter_list p.isList ?_;refine ⟨s1.heap.objs.size,[s1.heap.objs.size],_,_,H1,rfl,I1.kept (t':=s1.toks) fun b o e=>Z2 _ e,turn_list a _,⟨_,Zg _ rfl,rfl,rfl⟩,fun b hb=>?_,q⟩;have e:b=s1.heap.objs.size:=by simpa using hb
 subst e;exact I1.fpOk (Zb _) (I1.hok.fresh (Zb _))
theorem range_it {pins:List (Addr×Obj)}{σ : St}{H:Hp}{s:Shared}{R:It→Hp→Prop}{E:Value→Shared→Prop}{lo hi:Int}{t u v:Tok}{tk:Nat} (I:Inv X pins σ H s) (h1 : -(2 ^ 62)≤lo) (h2:lo < 2 ^ 62) (h3 : -(2 ^ 62)≤hi) (h4:hi < 2 ^ 62)
  (q:R (Itr lo (hi - lo).toNat) H):wpAny (model X.prog X.w) X.A (pyIter (.ref s.heap.objs.size)) (PIE X pins σ tg R) E { s with heap:=s.heap.push { cls:=.type "range",data:=.fields #[.int lo t,.int hi u,.int 1 v] },toks:=tk }:=by
 refine wpAny_pyIter_range (IsRange.new ..) (small_one h1 h2 h3 h4) ?_;have I1:Inv X pins σ H { s with heap:=s.heap.push { cls:=.type "range",data:=.fields #[.int lo t,.int hi u,.int 1 v] },toks:=tk }:=I.kept fun b o e=>Z2 _ e
 refine ⟨(s.heap.push { cls:=.type "range",data:=.fields #[.int lo t,.int hi u,.int 1 v] }).objs.size,[(s.heap.push { cls:=.type "range",data:=.fields #[.int lo t,.int hi u,.int 1 v] }).objs.size],_,_,H,rfl,
  I1.kept (t':=tk) fun b o e=>Z2 _ e,turn_range _ lo (hi - lo).toNat,?_,fun b hb=>?_,q⟩
 ·have e1:lo + ((0:Nat):Int) * 1=lo:=by simp
  have e2:(((hi - lo).toNat:Nat):Int) - ((0:Nat):Int)=Builtin.Range.rangeSize lo hi 1:=by rw [rangeSize_one];split <;> omega
  show IsRangeIter _ _ (lo + ((0:Nat):Int) * 1) ((((hi - lo).toNat:Nat):Int) - ((0:Nat):Int)) 1;rw [e1,e2];exact Zg _ rfl
 ·have e:b=(s.heap.push { cls:=.type "range",data:=.fields #[.int lo t,.int hi u,.int 1 v] }).objs.size:=by simpa using hb
  subst e;exact I1.fpOk (Zb _) (I1.hok.fresh (Zb _))
noncomputable def iRng1 (ta:TA):TI:=fun σ H R=>ta σ H fun vs H1=>∃ j:Int,vs=[.int j]∧-(2 ^ 62)≤j∧j < 2 ^ 62∧R (Itr 0 j.toNat) H1
theorem zBq {a:Expr}{ta:TA}{p pos:Pos} (hg:Gl X "range") (hm:X.mg "range" = none) (ha:PA X [a] ta) (hs:starEach [a] X.env=[(false,eval a X.env)]:=by rfl):PI X tg (.Call (.Name "range" p) [a] [] pos) (iRng1 ta):=by
 intro pins s σ H R I h;refine Call_ (zE3 I hg hm boot_range (PyProof.Rows.callWith_type1 (thn (ha pos pins s σ H _ I h) fun us s1 ⟨vs,H1,I1,r1,q1⟩=>?_) hs rfl));obtain ⟨j,e,q1,q2,q⟩:=q1;subst e;cases r1 with
 | cons r rr =>
  cases rr;obtain ⟨t,rfl⟩:=r;exact call_range_1 (range_it I1 (by omega) (by omega) q1 q2 (by simpa using q))
noncomputable def tFor (wi:TI) (g:TG) (tb:TS):TS:=fun D σ H=>wi σ H fun J H1=>∃ W:Nat→Nat→St→Hp→Prop,(∃ m,W 0 m σ H1)∧∀ i m σ H,W i m σ H →
 (J.stop i H∧D.nx σ H)∨(J.go i H∧∃ N:St→Hp→Prop,(∀ σ' H',N σ' H'→∃ m',m' < m∧W (i + 1) m' σ' H')∧∀ x H',J.yld i H x H'→g x σ H' fun σ2 H2=>tb { D with nx:=N,ct:=N,bk:=D.nx } σ2 H2)
noncomputable def pinsAt (fp:List Addr) (h:Heap):List (Addr×Obj):=fp.filterMap fun b=>(h.get? b).map fun o=>(b,o)
theorem zCn {fp:List Addr}{h:Heap}{b:Addr}{o:Obj} (hb:b∈fp) (e:h.get? b=some o):(b,o)∈pinsAt fp h:=List.mem_filterMap.mpr ⟨b,hb,by rw [e];rfl⟩
theorem of_pinsAt {fp:List Addr}{h:Heap}{p:Addr×Obj} (hp:p∈pinsAt fp h):p.1∈fp∧h.get? p.1=some p.2:=by
 obtain ⟨b,hb,e⟩:=List.mem_filterMap.mp hp;cases q:h.get? b with
 | none=>rw [q] at e;cases e
 | some o =>
  rw [q] at e;have e':(b,o)=p:=Zj e;subst e';exact ⟨hb,q⟩
theorem Inv.pinned {pins:List (Addr×Obj)}{σ : St}{H:Hp}{s:Shared}{fp:List Addr} (I:Inv X pins σ H s) (hf:∀ b∈fp,FpOk X pins H b) (ho:∀ b∈fp,∃ o,s.heap.get? b=some o∧∀ v,o.data≠.cell v):Inv X (pins++pinsAt fp s.heap) σ H s :=
 I.pins_of fun p hp=>(List.mem_append.mp hp).elim (fun z=>I.pin p (Zn _ z)) fun z=>by
  obtain ⟨hb,e⟩:=of_pinsAt z;obtain ⟨f0,f1,f2,_⟩:=hf p.1 hb;obtain ⟨o,e',d⟩:=ho p.1 hb;rw [e] at e';cases e';exact ⟨e,f0,f1,f2,d⟩
theorem Inv.unpinned {pins pl:List (Addr×Obj)}{σ : St}{H:Hp}{s:Shared} (I:Inv X (pins++pl) σ H s):Inv X pins σ H s:=I.pins_of fun p hp=>I.pin p (Zn _ (Y3 _ hp))
theorem zB5 {iter:Expr}{body:List Stmt}{wi:TI}{g:TG}{tb:TS}{pos:Pos} (hp:PassesOwn (model X.prog X.w) X.A X.env X.xe) (hc:X.calm=true) (hi:PI X tg iter wi) (hg:PG X tg g) (hb:PSs X body tb)
  (hs:∀ x,foldedSetIterable iter X.env x=pure x:=by intro _;rfl):PS X (.For tg iter body [] pos) (tFor wi g tb):=by
 intro pins s σ H D I h;refine wpAny_For (thn (hi pins s σ H _ I h) fun v s1 h1=>thn h1 fun itv s2 h2=>?_) hs;obtain ⟨it,fp,tn,J,H2,e,I2,T,st2,f2,W,⟨m0,w0⟩,turn⟩:=h2;subst e;have stat:∀ {H':Hp},(∀ b∈fp,H' b=none)→∀ b∈fp,FpOk X pins H' b:=fun hn b hb=>⟨hn b hb,(f2 b hb).2⟩;refine codeAny_forLoop_any (fun n s'=>∃ i σ' H',Inv X pins σ' H' s'∧tn i s'.heap∧(∀ b∈fp,H' b=none)∧W i n σ' H') ?_ m0 ⟨0,σ,H2,I2,st2,fun b hb=>(f2 b hb).1,w0⟩;rintro n s3 ⟨i,σ3,H3,I3,st3,fr3,w3⟩;rcases turn i n σ3 H3 w3 with ⟨stop,qn⟩ | ⟨go,N,hN,step⟩
 ·refine wpAny_passesOwn hp (thn (T.done X rfl rfl rfl hc i pins s3 σ3 H3 X.xe I3 (stat fr3) st3 stop) fun r s4 ⟨hr,I4⟩=>?_);subst hr;exact wpAny_execs_nil ⟨σ3,H3,I4,qn⟩
 ·refine wpAny_passesOwn hp (thn (T.item X rfl rfl rfl hc i pins s3 σ3 H3 X.xe I3 (stat fr3) st3 go) fun r s4 ⟨u,hr,h4⟩=>?_);subst hr;refine wpAny_passesOwn hp (thn h4 fun _ s5 ⟨x,H5,I5,r5,y5,st5,fr5⟩=>?_);have I5':=I5.pinned (stat fr5) (T.obj _ _ st5);refine wpAny_passesOwn hp (thn (hg _ s5 σ3 H5 x u _ I5' r5 (step x H5 y5)) fun _ s6 ⟨σ6,H6,I6,q6⟩=>?_);refine wpAny_passesOwn hp (thn (hb _ s6 σ6 H6 _ I6 q6) fun f s7 q7=>?_);have again:∀ {σ7:St}{H7:Hp},Inv X (pins++pinsAt fp s5.heap) σ7 H7 s7→N σ7 H7→∃ m,m < n∧∃ i σ' H',Inv X pins σ' H' s7∧tn i s7.heap∧(∀ b∈fp,H' b=none)∧W i m σ' H':=fun {σ7 H7} I7 n7=>by
   obtain ⟨m',hm,w7⟩:=hN σ7 H7 n7;refine ⟨m',hm,i + 1,σ7,H7,I7.unpinned,T.keep _ _ _ st5 fun b hb o e=>(I7.pin (b,o) (Zn _ (Zn _ (zCn hb e)))).1,fun b hb=>?_,w7⟩;obtain ⟨o,e,d⟩:=T.obj _ _ st5 b hb;exact (I7.pin (b,o) (Zn _ (Zn _ (zCn hb e)))).2.1
  cases f with
  | next=>obtain ⟨σ7,H7,I7,n7⟩:=q7;exact again I7 n7
  | cont=>obtain ⟨σ7,H7,I7,n7⟩:=q7;exact again I7 n7
  | brk=>obtain ⟨σ7,H7,I7,q7⟩:=q7;exact ⟨σ7,H7,I7.unpinned,q7⟩
  | ret v=>obtain ⟨x7,σ7,H7,I7,r7,q7⟩:=q7;exact ⟨x7,σ7,H7,I7.unpinned,r7,q7⟩
end
theorem zAy {K:PySem.W.Frag}{a:Addr}{xs:List V}{g:TG}{tb:TS}{D:Ends}{σ : St}{H:Hp} (Pv:Nat→St→Hp→Prop) (h0:Pv 0 σ H) (hl:∀ i σ H,i≤xs.length→Pv i σ H→SqL K H a xs)
  (hs:∀ i x σ H,xs[i]? = some x→Pv i σ H→g x σ H fun σ2 H2=>tb { D with nx:=Pv (i + 1),ct:=Pv (i + 1),bk:=D.nx } σ2 H2) (hd:∀ σ H,Pv xs.length σ H→D.nx σ H) :
  ∃ W:Nat→Nat→St→Hp→Prop,(∃ m,W 0 m σ H)∧∀ i m σ H,W i m σ H →
   ((Itl K a).stop i H∧D.nx σ H)∨((Itl K a).go i H∧∃ N:St→Hp→Prop,(∀ σ' H',N σ' H'→∃ m',m' < m∧W (i + 1) m' σ' H')∧∀ x H',(Itl K a).yld i H x H'→g x σ H' fun σ2 H2=>tb { D with nx:=N,ct:=N,bk:=D.nx } σ2 H2):=by
 refine ⟨fun i m σ H=>m=xs.length - i∧i≤xs.length∧Pv i σ H,⟨xs.length,by simp,Zm _,h0⟩,?_⟩;rintro i m σ H ⟨rfl,hi,p⟩;have q:=hl i σ H hi p;by_cases hlt:i < xs.length
 ·refine .inr ⟨⟨xs,xs[i],q,by simp [hlt]⟩,Pv (i + 1),fun σ' H' p'=>⟨xs.length - (i + 1),by omega,rfl,hlt,p'⟩,fun x H' y=>?_⟩;obtain ⟨e,y⟩:=y;subst e;exact hs i x σ _ (y xs q) p
 ·have e:i=xs.length:=by omega
  subst e;exact .inl ⟨⟨xs,q,Zb _⟩,hd σ H p⟩
theorem zDm {lo:Int}{n:Nat}{g:TG}{tb:TS}{D:Ends}{σ : St}{H:Hp} (Pv:Nat→St→Hp→Prop) (h0:Pv 0 σ H)
  (hs:∀ i σ H,i < n→Pv i σ H→g (.int (lo + i)) σ H fun σ2 H2=>tb { D with nx:=Pv (i + 1),ct:=Pv (i + 1),bk:=D.nx } σ2 H2) (hd:∀ σ H,Pv n σ H→D.nx σ H) :
  ∃ W:Nat→Nat→St→Hp→Prop,(∃ m,W 0 m σ H)∧∀ i m σ H,W i m σ H →
   ((Itr lo n).stop i H∧D.nx σ H)∨((Itr lo n).go i H∧∃ N:St→Hp→Prop,(∀ σ' H',N σ' H'→∃ m',m' < m∧W (i + 1) m' σ' H')∧∀ x H',(Itr lo n).yld i H x H'→g x σ H' fun σ2 H2=>tb { D with nx:=N,ct:=N,bk:=D.nx } σ2 H2):=by
 refine ⟨fun i m σ H=>m=n - i∧i≤n∧Pv i σ H,⟨n,by simp,Zm _,h0⟩,?_⟩;rintro i m σ H ⟨rfl,hi,p⟩;by_cases hlt:i < n
 ·refine .inr ⟨hlt,Pv (i + 1),fun σ' H' p'=>⟨n - (i + 1),by omega,rfl,hlt,p'⟩,fun x H' y=>?_⟩;obtain ⟨e,y⟩:=y;subst e y;exact hs i σ _ hlt p
 ·have e:i=n:=by omega
  subst e;exact .inl ⟨Zb _,hd σ H p⟩
end L2
namespace L2
open PySem PySem.Spec PyProof.Rows
noncomputable abbrev R2:=V→V→Hp→VK→Prop
noncomputable def OpR (X:Cx) (f:Value→Value→Sem Value) (r:R2):Prop :=
 ∀ (pins:List (Addr×Obj)) (s:Shared) (σ : St) (H:Hp) (x y:V) (v u:Value) (Q:VK),Inv X pins σ H s→RelV x v→RelV y u→r x y H Q →
  wpAny (model X.prog X.w) X.A (f v u) (EP X pins σ Q) X.xe s
noncomputable def UnR (X:Cx) (f:Value→Sem Value) (r:V→Hp→VK→Prop):Prop :=
 ∀ (pins:List (Addr×Obj)) (s:Shared) (σ : St) (H:Hp) (x:V) (v:Value) (Q:VK),Inv X pins σ H s→RelV x v→r x H Q →
  wpAny (model X.prog X.w) X.A (f v) (EP X pins σ Q) X.xe s
noncomputable def CallR (X:Cx) (f:Value) (r:List V→Hp→VK→Prop):Prop :=
 ∀ (pins:List (Addr×Obj)) (s:Shared) (σ : St) (H:Hp) (xs:List V) (us:List Value) (Q:VK),Inv X pins σ H s→Vals xs us→r xs H Q →
  wpAny (model X.prog X.w) X.A (call f us) (EP X pins σ Q) X.xe s
noncomputable def TruR (X:Cx) (r:V→Hp→(Bool→Hp→Prop)→Prop):Prop :=
 ∀ (pins:List (Addr×Obj)) (s:Shared) (σ : St) (H:Hp) (x:V) (v:Value) (Q:Bool→Hp→Prop),Inv X pins σ H s→RelV x v→r x H Q →
  wpAny (model X.prog X.w) X.A (truthy v) (TP X pins σ Q) X.xe s
noncomputable def tOp (r:R2) (ta tb:TE):TE:=fun σ H Q=>ta σ H fun x H1=>tb σ H1 fun y H2=>r x y H2 Q
noncomputable def tUn (r:V→Hp→VK→Prop) (ta:TE):TE:=fun σ H Q=>ta σ H fun x H1=>r x H1 Q
noncomputable def rI (C:Int→Int→Prop) (g:Int→Int→V):R2:=fun x y H Q=>∃ i j,x=.int i∧y=.int j∧C i j∧Q (g i j) H
noncomputable def rI0 (g:Int→Int→V):R2:=fun x y H Q=>∃ i j,x=.int i∧y=.int j∧Q (g i j) H
noncomputable def rU (g:Int→V):V→Hp→VK→Prop:=fun x H Q=>∃ i,x=.int i∧Q (g i) H
section
variable {X:Cx}{a b c:Expr}{ta tb tc:TE}{pos:Pos}
theorem binT (ha:PE X a ta) (hb:PE X b tb) {pins:List (Addr×Obj)}{s:Shared}{σ : St}{H:Hp}{R:V→V→Hp→Prop} (I:Inv X pins σ H s)
  (h:ta σ H fun x H1=>tb σ H1 fun y H2=>R x y H2) {Q:Value→Shared→Prop}{f:Value→Value→Sem Value}
  (hf:∀ v u s2 x y H2,Inv X pins σ H2 s2→RelV x v→RelV y u→R x y H2→wpAny (model X.prog X.w) X.A (f v u) Q X.xe s2) :
  wpAny (model X.prog X.w) X.A (eval a X.env) (fun v s₁=>wpAny (model X.prog X.w) X.A (eval b X.env) (fun u s₂=>wpAny (model X.prog X.w) X.A (f v u) Q X.xe s₂) X.xe s₁) X.xe s:=by
 refine thn (ha pins s σ H _ I h) fun v s1 ⟨x,H1,I1,r1,q1⟩=>?_;refine thn (hb pins s1 σ H1 _ I1 q1) fun u s2 ⟨y,H2,I2,r2,q2⟩=>?_;exact hf v u s2 x y H2 I2 r1 r2 q2
theorem zAf {op:Operator}{r:R2} (ho:OpR X (binaryOp op) r) (ha:PE X a ta) (hb:PE X b tb):PE X (.BinOp a op b pos) (tOp r ta tb):=by
 intro pins s σ H Q I h;exact wpAny_BinOp (binT ha hb I h fun v u s2 x y H2 I2 rx ry q=>ho pins s2 σ H2 x y v u Q I2 rx ry q)
theorem pe_un {op:UnaryOp}{r:V→Hp→VK→Prop} (ho:UnR X (unaryOp op) r) (ha:PE X a ta):PE X (.UnaryOp op a pos) (tUn r ta):=by
 intro pins s σ H Q I h;exact UnaryOp_ (thn (ha pins s σ H _ I h) fun v s1 ⟨x,H1,I1,r1,q1⟩=>ho pins s1 σ H1 x v Q I1 r1 q1)
theorem opI {f:Value→Value→Sem Value}{C:Int→Int→Prop}{g:Int→Int→Int}
  (rule:∀ (i j:Int) (t u:Tok) (s:Shared) (Q:Value→Shared→Prop) (E:Value→Shared→Prop),C i j→Q (.int (g i j) s.toks) { s with toks:=s.toks + 1 }→wpAny (model X.prog X.w) X.A (f (.int i t) (.int j u)) Q E s) :
  OpR X f (rI C fun i j=>.int (g i j)):=by
 intro pins s σ H x y v u Q I rx ry h;obtain ⟨i,j,rfl,rfl,hc,q⟩:=h;obtain ⟨t,rfl⟩:=rx;obtain ⟨t',rfl⟩:=ry;exact rule i j t t' s _ _ hc ⟨.int (g i j),H,I.tok _,⟨_,rfl⟩,q⟩
theorem opI0 {f:Value→Value→Sem Value}{g:Int→Int→Int}
  (rule:∀ (i j:Int) (t u:Tok) (s:Shared) (Q:Value→Shared→Prop) (E:Value→Shared→Prop),Q (.int (g i j) s.toks) { s with toks:=s.toks + 1 }→wpAny (model X.prog X.w) X.A (f (.int i t) (.int j u)) Q E s) :
  OpR X f (rI0 fun i j=>.int (g i j)):=by
 intro pins s σ H x y v u Q I rx ry h;obtain ⟨i,j,rfl,rfl,q⟩:=h;obtain ⟨t,rfl⟩:=rx;obtain ⟨t',rfl⟩:=ry;exact rule i j t t' s _ _ ⟨.int (g i j),H,I.tok _,⟨_,rfl⟩,q⟩
theorem opB0 {f:Value→Value→Sem Value}{g:Int→Int→Bool}
  (rule:∀ (i j:Int) (t u:Tok) (s:Shared) (Q:Value→Shared→Prop) (E:Value→Shared→Prop),Q (.bool (g i j)) s→wpAny (model X.prog X.w) X.A (f (.int i t) (.int j u)) Q E s) :
  OpR X f (rI0 fun i j=>.bl (g i j)):=by
 intro pins s σ H x y v u Q I rx ry h;obtain ⟨i,j,rfl,rfl,q⟩:=h;obtain ⟨t,rfl⟩:=rx;obtain ⟨t',rfl⟩:=ry;exact rule i j t t' s _ _ ⟨.bl (g i j),H,I,rfl,q⟩
noncomputable def CDiv (i j:Int):Prop:=0 < j∧j < 1073741824
noncomputable def CMul (i j:Int):Prop:=(-(2 ^ 64) < i∧i < 2 ^ 64)∨(-(2 ^ 64) < j∧j < 2 ^ 64)
theorem CMul.ok {i j:Int} (h:CMul i j):IntMulOk i j:=by
 rcases h with ⟨h1,h2⟩ | ⟨h1,h2⟩
 ·exact .of_left (intBits_le_64 h1 h2)
 ·exact .of_right (intBits_le_64 h1 h2)
theorem zBn:OpR X (binaryOp .Add) (rI0 fun i j=>.int (i + j)):=opI0 fun _ _ _ _ _ _ _ q=>add_int q
theorem op_sub:OpR X (binaryOp .Sub) (rI0 fun i j=>.int (i - j)):=opI0 fun _ _ _ _ _ _ _ q=>sub_int q
theorem zCq:OpR X (binaryOp .Mult) (rI CMul fun i j=>.int (i * j)):=opI fun _ _ _ _ _ _ _ hc q=>mul_int q hc.ok
theorem zEt:OpR X (binaryOp .FloorDiv) (rI CDiv fun i j=>.int (i / j)):=opI fun i j _ _ _ _ _ hc q=>by
 have h1:(0:Int) < j:=hc.1;have h2:j < 1073741824:=hc.2;exact floordiv_int (by omega) (by rw [Int.fdiv_eq_ediv_of_nonneg i (by omega)];exact q) (.inl (PyProof.noPylong_small (by omega)))
theorem zC9:OpR X (binaryOp .Mod) (rI (fun _ j=>0 < j) fun i j=>.int (i % j)):=opI fun i j _ _ _ _ _ hc q=>by
 have h1:(0:Int) < j:=hc;exact mod_int' (by omega) (by rw [Int.fmod_eq_emod_of_nonneg i (by omega)];exact q)
theorem unI {f:Value→Sem Value}{g:Int→Int}
  (rule:∀ (i:Int) (t:Tok) (s:Shared) (Q:Value→Shared→Prop) (E:Value→Shared→Prop),Q (.int (g i) s.toks) { s with toks:=s.toks + 1 }→wpAny (model X.prog X.w) X.A (f (.int i t)) Q E s) :
  UnR X f (rU fun i=>.int (g i)):=by
 intro pins s σ H x v Q I rx h;obtain ⟨i,rfl,q⟩:=h;obtain ⟨t,rfl⟩:=rx;exact rule i t s _ _ ⟨.int (g i),H,I.tok _,⟨_,rfl⟩,q⟩
theorem un_neg:UnR X (unaryOp .USub) (rU fun i=>.int (-i)):=unI fun _ _ _ _ _ q=>neg_int q
end
noncomputable def scal:V→V→Bool
 | .non,.non=>true | .non,.int _=>true | .int _,.non=>true | .non,.bl _=>true | .bl _,.non=>true | .non,.str _=>true | .str _,.non=>true
 | .int _,.int _=>true | .bl _,.bl _=>true | .str _,.str _=>true | .byt _,.byt _=>true
 | .int _,.str _=>true | .str _,.int _=>true | .bl _,.str _=>true | .str _,.bl _=>true
 | _,_=>false
noncomputable def rEq:R2:=fun x y H Q=>scal x y=true∧Q (.bl (decide (x=y))) H
noncomputable def rNe:R2:=fun x y H Q=>scal x y=true∧Q (.bl (!decide (x=y))) H
theorem dec_int {i j:Int}:decide (V.int i=V.int j)=(i == j):=by
 rw [Y7];simp
theorem dec_bl {i j:Bool}:decide (V.bl i=V.bl j)=(i == j):=by
 rw [Y7];simp
theorem dec_str {i j:Str}:decide (V.str i=V.str j)=(i == j):=by
 rw [Y7];simp
theorem dec_byt {i j:Array UInt8}:decide (V.byt i=V.byt j)=(i.toList == j.toList):=by
 rw [Y7];cases i;cases j;simp
section
variable {X:Cx}{a b c:Expr}{ta tb tc:TE}{pos:Pos}
theorem zAk {pins:List (Addr×Obj)}{σ : St}{H:Hp}{s:Shared}{Q:VK}{k k':Bool} (I:Inv X pins σ H s) (q:Q (.bl k) H) (e:k=k'):EP X pins σ Q (.bool k') s:=by
 subst e;exact ⟨.bl k,H,I,rfl,q⟩
theorem op_eq:OpR X (compareOp .Eq) rEq:=by
 intro pins s σ H x y v u Q I rx ry h;obtain ⟨hs,q⟩:=h;cases x with
 | non =>
  cases rx;cases y with
  | non=>cases ry;exact PySem.EqNone.eq_none_none (zAk I q (by simp))
  | bl j=>cases ry;exact PySem.EqNone.eq_none_bool (zAk I q (by simp))
  | int j=>obtain ⟨t',rfl⟩:=ry;exact PySem.EqNone.eq_none_int (zAk I q (by simp))
  | str j=>obtain ⟨t',rfl⟩:=ry;exact PySem.EqNone.eq_none_str (zAk I q (by simp))
  | _=>exact absurd (show false=true from hs) Zh
 | bl i =>
  cases rx;cases y with
  | non=>cases ry;exact PySem.EqNone.eq_bool_none (zAk I q (by simp))
  | bl j=>cases ry;exact eq_bool (zAk I q dec_bl)
  | str j=>obtain ⟨t',rfl⟩:=ry;exact PySem.EqMixed.eq_bool_str (zAk I q (by simp))
  | _=>exact absurd (show false=true from hs) Zh
 | int i =>
  obtain ⟨t,rfl⟩:=rx;cases y with
  | non=>cases ry;exact PySem.EqNone.eq_int_none (zAk I q (by simp))
  | int j=>obtain ⟨t',rfl⟩:=ry;exact eq_int (zAk I q dec_int)
  | str j=>obtain ⟨t',rfl⟩:=ry;exact PySem.EqMixed.eq_int_str (zAk I q (by simp))
  | _=>exact absurd (show false=true from hs) Zh
 | str i =>
  obtain ⟨t,rfl⟩:=rx;cases y with
  | non=>cases ry;exact PySem.EqNone.eq_str_none (zAk I q (by simp))
  | bl j=>cases ry;exact PySem.EqMixed.eq_str_bool (zAk I q (by simp))
  | int j=>obtain ⟨t',rfl⟩:=ry;exact PySem.EqMixed.eq_str_int (zAk I q (by simp))
  | str j=>obtain ⟨t',rfl⟩:=ry;exact eq_str (zAk I q dec_str)
  | _=>exact absurd (show false=true from hs) Zh
 | byt i =>
  obtain ⟨t,rfl⟩:=rx;cases y with
  | byt j=>obtain ⟨t',rfl⟩:=ry;exact PySem.W.eq_bytes (zAk I q dec_byt)
  | _=>exact absurd (show false=true from hs) Zh
 | _=>cases y <;> exact absurd (show false=true from hs) Zh
theorem op_ne:OpR X (compareOp .NotEq) rNe:=by
 intro pins s σ H x y v u Q I rx ry h;obtain ⟨hs,q⟩:=h;cases x with
 | non =>
  cases rx;cases y with
  | non=>cases ry;exact PySem.EqNone.ne_none_none (zAk I q (by simp))
  | bl j=>cases ry;exact PySem.EqNone.ne_none_bool (zAk I q (by simp))
  | int j=>obtain ⟨t',rfl⟩:=ry;exact PySem.EqNone.ne_none_int (zAk I q (by simp))
  | str j=>obtain ⟨t',rfl⟩:=ry;exact PySem.EqNone.ne_none_str (zAk I q (by simp))
  | _=>exact absurd (show false=true from hs) Zh
 | bl i =>
  cases rx;cases y with
  | non=>cases ry;exact PySem.EqNone.ne_bool_none (zAk I q (by simp))
  | bl j=>cases ry;exact ne_bool (zAk I q (congrArg not dec_bl))
  | str j=>obtain ⟨t',rfl⟩:=ry;exact PySem.EqMixed.ne_bool_str (zAk I q (by simp))
  | _=>exact absurd (show false=true from hs) Zh
 | int i =>
  obtain ⟨t,rfl⟩:=rx;cases y with
  | non=>cases ry;exact PySem.EqNone.ne_int_none (zAk I q (by simp))
  | int j=>obtain ⟨t',rfl⟩:=ry;exact ne_int (zAk I q (congrArg not dec_int))
  | str j=>obtain ⟨t',rfl⟩:=ry;exact PySem.EqMixed.ne_int_str (zAk I q (by simp))
  | _=>exact absurd (show false=true from hs) Zh
 | str i =>
  obtain ⟨t,rfl⟩:=rx;cases y with
  | non=>cases ry;exact PySem.EqNone.ne_str_none (zAk I q (by simp))
  | bl j=>cases ry;exact PySem.EqMixed.ne_str_bool (zAk I q (by simp))
  | int j=>obtain ⟨t',rfl⟩:=ry;exact PySem.EqMixed.ne_str_int (zAk I q (by simp))
  | str j=>obtain ⟨t',rfl⟩:=ry;exact ne_str (zAk I q (congrArg not dec_str))
  | _=>exact absurd (show false=true from hs) Zh
 | byt i =>
  obtain ⟨t,rfl⟩:=rx;cases y with
  | byt j=>obtain ⟨t',rfl⟩:=ry;exact PySem.W.ne_bytes (zAk I q (congrArg not dec_byt))
  | _=>exact absurd (show false=true from hs) Zh
 | _=>cases y <;> exact absurd (show false=true from hs) Zh
theorem op_lt:OpR X (compareOp .Lt) (rI0 fun i j=>.bl (decide (i < j))):=opB0 fun _ _ _ _ _ _ _ q=>lt_int q
theorem op_le:OpR X (compareOp .LtE) (rI0 fun i j=>.bl (decide (i≤j))):=opB0 fun _ _ _ _ _ _ _ q=>le_int q
theorem op_gt:OpR X (compareOp .Gt) (rI0 fun i j=>.bl (decide (j < i))):=opB0 fun _ _ _ _ _ _ _ q=>gt_int q
theorem op_in_str:OpR X (compareOp .In) (fun x y H Q=>∃ i j,x=.str i∧y=.str j∧Q (.bl (!(Builtin.Str.occurrences j i 0 j.length 1).isEmpty)) H):=by
 intro pins s σ H x y v u Q I rx ry h;obtain ⟨i,j,rfl,rfl,q⟩:=h;obtain ⟨t,rfl⟩:=rx;obtain ⟨t',rfl⟩:=ry;exact in_str (zAk I q rfl)
theorem nomark (b:Expr) {op:CmpOp} (h:op≠.In:=by decide) (h2:op≠.NotIn:=by decide):behindInMarks op b=false:=by
 have e1:(op == CmpOp.In)=false:=by cases op <;> first | rfl | exact absurd rfl h
 have e2:(op == CmpOp.NotIn)=false:=by cases op <;> first | rfl | exact absurd rfl h2
 cases b <;> simp [behindInMarks,e1,e2]
theorem zBl {op:CmpOp}{r:R2} (ho:OpR X (compareOp op) r) (ha:PE X a ta) (hb:PE X b tb) (hm:behindInMarks op b=false):PE X (.Compare a [op] [b] pos) (tOp r ta tb):=by
 intro pins s σ H Q I h;exact wpAny_Compare1 (binT ha hb I h fun v u s2 x y H2 I2 rx ry q=>ho pins s2 σ H2 x y v u Q I2 rx ry q) hm
noncomputable def tTest (t:TE):TT:=fun σ H Q=>t σ H fun x H'=>∃ k,x=.bl k∧Q k H'
theorem zAz {op:CmpOp}{r:R2} (ho:OpR X (compareOp op) r) (ha:PE X a ta) (hb:PE X b tb) (hm:behindInMarks op b=false):PT X (.Compare a [op] [b] pos) (tTest (tOp r ta tb)):=by
 intro pins s σ H Q I h
 refine wpAny_isTrue_Compare1 (thn (ha pins s σ H _ I h) fun v s1 ⟨x,H1,I1,r1,q1⟩=>thn (hb pins s1 σ H1 _ I1 q1) fun u s2 ⟨y,H2,I2,r2,q2⟩ =>
  thn (ho pins s2 σ H2 x y v u _ I2 r1 r2 q2) fun c s3 ⟨z,H3,I3,r3,k,e,q3⟩=>?_) hm
 subst e;cases r3;exact wpAny_truthy_bool ⟨H3,I3,q3⟩
noncomputable def tChain (r r':R2) (ta tb tc:TE):TE:=fun σ H Q=>ta σ H fun x H1=>tb σ H1 fun y H2=>r x y H2 fun z H3=>∃ k,z=.bl k ∧
 (if k=true then tc σ H3 fun w' H4=>r' y w' H4 Q else Q (.bl false) H3)
theorem zEp {op op':CmpOp}{r r':R2} (ho:OpR X (compareOp op) r) (ho':OpR X (compareOp op') r') (ha:PE X a ta) (hb:PE X b tb) (hc:PE X c tc)
  (hm:lastMarks [op,op'] [b,c]=false:=by with_unfolding_all rfl):PE X (.Compare a [op,op'] [b,c] pos) (tChain r r' ta tb tc):=by
 intro pins s σ H Q I h
 refine Compare_chain (thn (ha pins s σ H _ I h) fun v s1 ⟨x,H1,I1,r1,q1⟩=>chain_link (thn (hb pins s1 σ H1 _ I1 q1) fun u s2 ⟨y,H2,I2,r2,q2⟩ =>
  thn (ho pins s2 σ H2 x y v u _ I2 r1 r2 q2) fun d s3 ⟨z,H3,I3,r3,k,e,q3⟩=>?_)) hm
 subst e;cases r3;refine wpAny_truthy_bool ?_;cases k with
 | false=>exact ite_ff ⟨.bl false,H3,I3,rfl,q3⟩
 | true=>exact ite_tt (chain_last (thn (hc pins s3 σ H3 _ I3 q3) fun w' s4 ⟨z',H4,I4,r4,q4⟩=>ho' pins s4 σ H4 y z' u w' Q I4 r2 r4 q4))
noncomputable def TruV (K:PySem.W.Frag) (x:V) (H:Hp) (k:Bool):Prop :=
 match x with
 | .non=>k=false
 | .bl b=>k=b
 | .int i=>k=(i != 0)
 | .str y=>y.length≤sizeLine∧k=((y.length:Int) != 0)
 | .byt y=>y.size≤sizeLine∧k=((y.size:Int) != 0)
 | .ref p=>(∃ xs,SqL K H p xs∧k = !xs.isEmpty)∨(∃ xs,SqT K H p xs∧k = !xs.isEmpty)∨∃ kvs,H p=some (.dK kvs)∧k = !kvs.isEmpty
 | _=>False
theorem isEmpty_kv {κ : Type}{kvs:List (κ×V)}{vs:List (κ×Value)} (r:KV kvs vs):(!vs.isEmpty) = !kvs.isEmpty:=by
 cases r <;> rfl
theorem zE4 {xs:List V}{its:List Value} (r:Vals xs its):(!its.toArray.isEmpty) = !xs.isEmpty:=by
 cases r <;> simp
theorem line63:(sizeLine:Nat) < 2 ^ 63:=by rw [sizeLine_eq];decide
theorem tru_ok:TruR X (fun x H Q=>∃ k,TruV X.K x H k∧Q k H):=by
 intro pins s σ H x v Q I rx h;obtain ⟨k,e,q⟩:=h;have hl:=line63;have hs:sizeLine=16777216:=sizeLine_eq;cases x with
 | non =>
  cases rx;have e':k=false:=e;subst e';exact truthy_none ⟨H,I,q⟩
 | bl b =>
  cases rx;have e':k=b:=e;subst e';exact wpAny_truthy_bool ⟨H,I,q⟩
 | int i =>
  obtain ⟨t,rfl⟩:=rx;have e':k=(i != 0):=e;subst e';exact PySem.P.truthy_int ⟨H,I,q⟩
 | str y =>
  obtain ⟨t,rfl⟩:=rx;obtain ⟨hy,e'⟩:y.length≤sizeLine∧k=((y.length:Int) != 0):=e;subst e';exact PySem.P.truthy_str (by omega) ⟨H,I.tok _,q⟩
 | byt y =>
  obtain ⟨t,rfl⟩:=rx;obtain ⟨hy,e'⟩:y.size≤sizeLine∧k=((y.size:Int) != 0):=e;subst e';exact PySem.W.truthy_bytes (by omega) ⟨H,I.tok _,q⟩
 | ref p =>
  cases rx;have e':(∃ xs,SqL X.K H p xs∧k = !xs.isEmpty)∨(∃ xs,SqT X.K H p xs∧k = !xs.isEmpty)∨∃ kvs,H p=some (.dK kvs)∧k = !kvs.isEmpty:=e;rcases e' with ⟨xs,hx,e'⟩ | ⟨xs,hx,e'⟩ | ⟨kvs,hx,e'⟩
  ·subst e';obtain ⟨its,r,pl,hz⟩:=I.list hx;have hlen:=r.length;exact wpAny_truthy_list pl.isList (by simp only [Z7];omega) ⟨H,I.tok _,by rw [zE4 r];exact q⟩
  ·subst e';obtain ⟨its,r,pl,hz⟩:=I.tuple hx;have hlen:=r.length;exact truthy_tuple pl (by simp only [Z7];omega) ⟨H,I.tok _,by rw [zE4 r];exact q⟩
  ·subst e';obtain ⟨hz,hS,vs,r,m⟩:kvs.length≤sizeLine∧(p == sysModules)=false∧∃ vs,KV kvs vs∧s.heap.DictOf (mixKind X.prog X.w) p vs:=I.hok p _ hx;have hlen:kvs.length=vs.length:=Paired.length r;exact wpAny_truthy_dict hS m (by omega) ⟨H,I.tok _,by rw [isEmpty_kv r];exact q⟩
 | _=>exact (show False from e).elim
theorem zEi (ha:PE X a ta) (he:∀ whole,isTrue a X.env whole=(do let v ← whole;standAt a.pos;holding [v] (truthy v))) :
  PT X a (fun σ H Q=>ta σ H fun x H'=>∃ k,TruV X.K x H' k∧Q k H'):=by
 intro pins s σ H Q I h;exact isTrue_plain (thn (ha pins s σ H _ I h) fun v s1 ⟨x,H1,I1,r1,q1⟩=>tru_ok pins s1 σ H1 x v Q I1 r1 q1) (he _)
theorem zB0:OpR X (binaryOp .Add) (fun x y H Q=>∃ i j,x=.str i∧y=.str j∧i.length + j.length≤sizeLine∧Q (.str (i++j)) H):=by
 intro pins s σ H x y v u Q I rx ry h;obtain ⟨i,j,rfl,rfl,hz,q⟩:=h;obtain ⟨t,rfl⟩:=rx;obtain ⟨t',rfl⟩:=ry;exact add_str (fun t' tk=>⟨.str (i++j),H,I.tok _,⟨_,rfl⟩,q⟩) hz
theorem vals1 {x:V}{us:List Value} (r:Vals [x] us):∃ u,us=[u]∧RelV x u:=by
 cases r with
 | cons r1 r2=>cases r2;exact ⟨_,rfl,r1⟩
theorem vals2 {x y:V}{us:List Value} (r:Vals [x,y] us):∃ u w',us=[u,w']∧RelV x u∧RelV y w':=by
 cases r with
 | cons r1 r2 =>
  cases r2 with
  | cons r3 r4=>cases r4;exact ⟨_,_,rfl,r1,r3⟩
theorem call_max2 (hc:X.calm=true):CallR X (.builtin "max") (fun xs H Q=>∃ i j,xs=[.int i,.int j]∧Q (.int (if j > i then j else i)) H):=by
 intro pins s σ H xs us Q I r h;obtain ⟨i,j,rfl,q⟩:=h;obtain ⟨u,w',rfl,⟨t,rfl⟩,⟨t',rfl⟩⟩:=vals2 r;refine max_two_ints (I.ok.hd hc) fun h' tk k=>⟨_,H,I.kept k,?_,q⟩;by_cases hj:j > i
 ·rw [if_pos hj,if_pos hj];exact ⟨_,rfl⟩
 ·rw [if_neg hj,if_neg hj];exact ⟨_,rfl⟩
theorem call_min2 (hc:X.calm=true):CallR X (.builtin "min") (fun xs H Q=>∃ i j,xs=[.int i,.int j]∧Q (.int (if j < i then j else i)) H):=by
 intro pins s σ H xs us Q I r h;obtain ⟨i,j,rfl,q⟩:=h;obtain ⟨u,w',rfl,⟨t,rfl⟩,⟨t',rfl⟩⟩:=vals2 r;refine min_two_ints (I.ok.hd hc) fun h' tk k=>⟨_,H,I.kept k,?_,q⟩;by_cases hj:j < i
 ·rw [if_pos hj,if_pos hj];exact ⟨_,rfl⟩
 ·rw [if_neg hj,if_neg hj];exact ⟨_,rfl⟩
theorem zDp:CallR X (.type "int") (fun xs H Q=>(∃ i,xs=[.int i]∧Q (.int i) H)∨∃ k,xs=[.bl k]∧Q (.int (if k then 1 else 0)) H):=by
 intro pins s σ H xs us Q I r h;rcases h with ⟨i,rfl,q⟩ | ⟨k,rfl,q⟩
 ·obtain ⟨u,rfl,t,rfl⟩:=vals1 r;exact call_int_int ⟨.int i,H,I,⟨_,rfl⟩,q⟩
 ·obtain ⟨u,rfl,r1⟩:=vals1 r;cases r1;exact call_int_bool ⟨.int (if k then 1 else 0),H,I.tok _,⟨_,rfl⟩,q⟩
end
end L2
namespace L2
open PySem PySem.Spec PyProof.Rows
structure ObjM (h:Heap) (x dx C:Addr) (mA:Str→Option Value):Prop where
 obj:h.get? x=some (PySem.W.instObj C dx)
 ns:h.Ns1 dx mA
 ne:dx≠x
theorem lookIn_ns {h:Heap}{dx:Addr}{mA:Str→Option Value} (n:h.Ns1 dx mA):∃ od,h.get? dx=some od∧∀ name,PySem.W.lookIn name od=some (mA name):=by
 obtain ⟨o,es,ep,ho,hd,hk,_,hm⟩:=n;refine ⟨o,ho,fun name=>?_⟩;have e:=hm name;unfold nsFind findBy at e;rw [← Array.find?_toList] at e;unfold PySem.W.lookIn;rw [hd];dsimp only;split
 ·rename_i y q
  rw [q] at e;exact congrArg some e
 ·rename_i q
  rw [q] at e;have a:es.toList.any (·.refKey)=false:=by
   rw [List.any_eq_false];intro y hy;obtain ⟨z,t,hkey⟩:=hk y (Array.mem_toList_iff.mp hy);simp [DictEntry.refKey,hkey]
  have a':¬ es.toList.any (·.refKey)=true:=by rw [a];exact Zh
  rw [if_neg a'];exact congrArg some e
theorem ObjM.look {h:Heap}{x dx C:Addr}{mA:Str→Option Value} (I:ObjM h x dx C mA):∃ od,PySem.W.InstAt h x (PySem.W.instObj C dx) C (some od)∧∀ name,PySem.W.lookIn name od=some (mA name) :=
 let ⟨od,ho,hl⟩:=lookIn_ns I.ns
 ⟨od,⟨I.obj,rfl,rfl,ho⟩,hl⟩
section
variable {prog:Program}{w:World}{A:Around}{E:Value→Shared→Prop}{s:Shared}{K:PySem.W.Frag}{x dx C f:Addr}{mA:Str→Option Value}{name:Str}{v:Value}
theorem get_map {expr:Bool}{Q:Value→Shared→Prop} (X:K.In s.heap) (I:ObjM s.heap x dx C mA) (hg:PySem.W.plainGet K C name=true) (hh:PySem.W.hasDictIn K C=true)
  (ha:PySem.W.findIn K (.ref C) name=some none) (hv:mA name=some v) (hv':PySem.W.handedIn v=true) (h:Q v { s with toks:=s.toks + 1 }) :
  wpAny (model prog w) A (getAttr (.ref x) name expr) Q E s:=by
 obtain ⟨od,J,hl⟩:=I.look;exact PySem.W.get_value X J (PySem.W.plainGet_of hg).1 (PySem.W.findObj_own hh ha rfl (by rw [hl,hv])) hv' h
theorem get_meth {pl:Sem Bool}{Q:Value×List Value→Shared→Prop} (X:K.In s.heap) (I:ObjM s.heap x dx C mA) (hg:PySem.W.plainGet K C name=true)
  (hf:PySem.W.findIn K (.ref C) name=some (some (.ref f))) (ht:PySem.W.isFn K (.ref f)=true) (hv:mA name=none) (h:Q (.ref f,[.ref x]) s) :
  wpAny (model prog w) A (getMethod (.ref x) name pl) Q E s:=by
 obtain ⟨od,J,hl⟩:=I.look;exact PySem.W.method_fn X J (PySem.W.plainGet_of hg).1 (PySem.W.plainGet_of hg).2 hf (beq_iff_eq.mp ht) (by show (PySem.W.lookIn name od).map (·.isSome)=some false;rw [hl,hv];rfl) h
theorem set_map {ns:List Str}{Q:Unit→Shared→Prop} (X:K.In s.heap) (I:ObjM s.heap x dx C mA)
  (hs:PySem.W.findIn K (.ref C) "__setattr__" = some (some (.builtin "object.__setattr__"))) (hp:PySem.W.plainOver K C=true) (ht:PySem.W.takerIn K C name=some none) (hh:PySem.W.hasDictIn K C=true)
  (hw:PySem.Within mA ns) (hsz:ns.length≤sizeLine)
  (h:∀ h',ObjM h' x dx C (fun y=>if y=name then some v else mA y)→Heap.SameBut dx s.heap h'→Q () { s with heap:=h',toks:=s.toks + 2 }) :
  wpAny (model prog w) A (setAttr (.ref x) name v) Q E s:=by
 obtain ⟨od,J,hl⟩:=I.look;refine PySem.W.set_plain X J hs (PySem.W.osa_open (s:={ s with toks:=s.toks + 1 }) (r:=none) X J hp ht fun b=>?_);obtain ⟨cd,hc,hd'⟩:=PySem.W.any_some hh;have hx:s.heap.get? x=some ⟨.ref C,some dx,.plain,#[]⟩:=I.obj;refine wpAny_bind (wpAny_pure (wpAny_bind (wpAny_bind (wpAny_loadPart hx (wpAny_bind (PySem.W.Looks.here (s:={ s with toks:=s.toks + 1 }) (PySem.W.looks_clsIn X hc) ?_))))));rw [hd'];refine wpAny_pure (a:=some dx) (wpAny_bind (wpAny_pure (wpAny_bind ?_)));refine wpAny_nsSet1 (s:={ s with toks:=s.toks + 1 }) I.ns fun h' hn2 hs2=>?_;obtain ⟨oD,esD,epD,hoD,hdD,hcD⟩:=hn2.count (PySem.Within.cons name v hw);refine wpAny_bind (wpAny_lookBehind hoD (by rw [hdD];exact pastItsLine_dict (Zk hcD (by rw [Zi];omega))) ?_);exact wpAny_pure (h _ ⟨(hs2.2 _ (Ne.symm I.ne)).trans I.obj,hn2,I.ne⟩ hs2)
theorem make_map {R:Result→Shared→Prop}{vs:List Value}{kw:List (Str×Value)} (X:K.In s.heap) (hm:PySem.W.makesIn K C=true)
  (hi:PySem.W.findIn K (.ref C) "__init__" = some (some (.ref f))) (hf:PySem.W.typeIn K (.ref f)=some (.type "function"))
  (h:codeAny (model prog w) (A.under (.builtin "type.__call__" ⟨.ref C :: vs,kw⟩)) (.call (.ref f) ⟨.ref (s.heap.objs.size + 1) :: vs,kw⟩) (PySem.W.InitBack (s.heap.objs.size + 1) R)
   { s with heap:=(s.heap.push PySem.W.emptyDict).push (PySem.W.instObj C s.heap.objs.size) }) :
  codeAny (model prog w) A (.call (.ref C) ⟨vs,kw⟩) R s:=by
 obtain ⟨hh,g,d,t,os⟩:=s;exact PySem.W.make_core (PySem.W.makes_of X hm) (PySem.W.looks_findIn X hi) (fun self=>PySem.W.bind_fn X self hf) (.inl rfl) h
end
noncomputable def putF (f:Str) (v:V):List (Str×V)→List (Str×V)
 | []=>[(f,v)]
 | (g,x) :: r=>if g=f then (g,v) :: r else (g,x) :: putF f v r
theorem zAm (f g:Str) (v:V):∀ fs:List (Str×V),(putF f v fs).lookup g=if g=f then some v else fs.lookup g
 | []=>by
  show List.lookup g [(f,v)]=_;by_cases h:g=f
  ·have hb:(g == f)=true:=beq_iff_eq.mpr h;simp only [List.lookup,hb,if_pos h]
  ·have hb:(g == f)=false:=beq_eq_false_iff_ne.mpr h;simp only [List.lookup,hb,if_neg h]
 | (k,x) :: r=>by
  have ih:=zAm f g v r;rw [show putF f v ((k,x) :: r)=(if k=f then (k,v) :: r else (k,x) :: putF f v r) from rfl];by_cases hk:k=f
  ·rw [if_pos hk];by_cases h:g=k
   ·have hb:(g == k)=true:=beq_iff_eq.mpr h;simp only [List.lookup,hb,if_pos (h.trans hk)]
   ·have hb:(g == k)=false:=beq_eq_false_iff_ne.mpr h;simp only [List.lookup,hb,if_neg (fun e:g=f=>h (e.trans hk.symm))]
  ·rw [if_neg hk];by_cases h:g=k
   ·have hb:(g == k)=true:=beq_iff_eq.mpr h;simp only [List.lookup,hb,if_neg (fun e:g=f=>hk (h.symm.trans e))]
   ·have hb:(g == k)=false:=beq_eq_false_iff_ne.mpr h;simp only [List.lookup,hb];exact ih
theorem zDj (f:Str) (v:V):∀ fs:List (Str×V),f∈(putF f v fs).map (·.1)∧∀ g,g∈fs.map (·.1)→g∈(putF f v fs).map (·.1)
 | []=>⟨by simp [putF],fun g h=>by simp at h⟩
 | (k,x) :: r=>by
  obtain ⟨i1,i2⟩:=zDj f v r;rw [show putF f v ((k,x) :: r)=(if k=f then (k,v) :: r else (k,x) :: putF f v r) from rfl];by_cases hk:k=f
  ·rw [if_pos hk];subst hk;exact ⟨by simp,fun g h=>by simpa using h⟩
  ·rw [if_neg hk];refine ⟨?_,fun g h=>?_⟩
   ·rw [Zr];exact Z5 _ i1
   ·rw [Zr] at h ⊢;rcases List.mem_cons.mp h with e | e
    ·exact List.mem_cons.mpr (.inl e)
    ·exact Z5 _ (i2 g e)
theorem zC3 (f:Str) (v:V):∀ fs:List (Str×V),(putF f v fs).length≤fs.length + 1
 | []=>by simp [putF]
 | (k,x) :: r=>by
  have ih:=zC3 f v r;rw [show putF f v ((k,x) :: r)=(if k=f then (k,v) :: r else (k,x) :: putF f v r) from rfl];by_cases hk:k=f
  ·rw [if_pos hk,Zi,Zi];omega
  ·rw [if_neg hk,Zi,Zi];omega
theorem RelO.some_of {v:V}{o:Option Value} (r:RelO (some v) o):∃ u,o=some u∧RelV v u:=by
 cases o with
 | none=>exact (show False from r).elim
 | some u=>exact ⟨u,rfl,r⟩
theorem RelO.none_of {o:Option Value} (r:RelO none o):o=none:=by
 cases o with
 | none=>rfl
 | some u=>exact (show False from r).elim
theorem handed_of {v:V}{u:Value} (r:RelV v u):PySem.W.handedIn u=true:=by
 cases v with
 | non=>cases (show u=Value.none from r);rfl
 | bl b=>cases (show u=Value.bool b from r);rfl
 | int i=>obtain ⟨t,e⟩:=(show ∃ t,u=Value.int i t from r);cases e;rfl
 | str x=>obtain ⟨t,e⟩:=(show ∃ t,u=Value.str x t from r);cases e;rfl
 | byt b=>obtain ⟨t,e⟩:=(show ∃ t,u=Value.bytes b t from r);cases e;rfl
 | flt b=>obtain ⟨t,e⟩:=(show ∃ t,u=Value.float b t from r);cases e;rfl
 | ref a=>cases (show u=Value.ref a from r);rfl
 | ty n=>cases (show u=Value.type n from r);rfl
section
variable {P:Program}{w:World}{H H':Hp}{h h':Heap}{a C dx:Addr}{fs fs':List (Str×V)}
theorem zDl (hok:HOk P w H h) (e:H a=some (.ins C dx fs)):∃ mA,ObjM h a dx C mA∧(∀ f,RelO (fs.lookup f) (mA f))∧PySem.Within mA (fs.map (·.1))∧fs.length≤1000∧H dx=some (.own a):=by
 obtain ⟨d,z,ne,ob,mA,n,r,q⟩:=(show ObjOk P w H h a (.ins C dx fs) from hok a _ e);exact ⟨mA,⟨ob,n,ne⟩,r,q,z,d⟩
end
structure Cls (K:PySem.W.Frag) (C:Addr):Prop where
 pg:PySem.W.plainGet K C Str.empty=true
 hd:PySem.W.hasDictIn K C=true
 po:PySem.W.plainOver K C=true
 sa:PySem.W.findIn K (.ref C) "__setattr__" = some (some (.builtin "object.__setattr__"))
theorem Cls.get {K:PySem.W.Frag}{C:Addr} (c:Cls K C) (f:Str):PySem.W.plainGet K C f=true:=c.pg
noncomputable def NoAttr (K:PySem.W.Frag) (C:Addr) (f:Str):Prop:=PySem.W.findIn K (.ref C) f=some none
theorem NoAttr.taker {K:PySem.W.Frag}{C:Addr}{f:Str} (n:NoAttr K C f):PySem.W.takerIn K C f=some none:=by
 unfold PySem.W.takerIn;rw [show PySem.W.findIn K (.ref C) f=some none from n];rfl
structure Meth (K:PySem.W.Frag) (C:Addr) (m:Str) (f:Addr):Prop where
 at_:PySem.W.findIn K (.ref C) m=some (some (.ref f))
 fn:PySem.W.isFn K (.ref f)=true
 kp:PySem.W.keepIn K (.ref f)=true
section
variable {X:Cx}{pins:List (Addr×Obj)}{σ : St}{H:Hp}{s:Shared}{a C dx:Addr}{fs:List (Str×V)}{f:Str}{v:V}{A:Around}{E:Value→Shared→Prop}
theorem getattr_ok {b:Bool}{Q:Value→Shared→Prop} (I:Inv X pins σ H s) (e:H a=some (.ins C dx fs)) (c:Cls X.K C) (n:NoAttr X.K C f) (l:fs.lookup f=some v)
  (h:∀ u s',Inv X pins σ H s'→RelV v u→Q u s'):wpAny (model X.prog X.w) A (getAttr (.ref a) f b) Q E s:=by
 obtain ⟨mA,O,r,_,_,_⟩:=zDl I.hok e;obtain ⟨u,hu,ru⟩:=RelO.some_of (v:=v) (o:=mA f) (by rw [← l];exact r f);exact get_map I.kIn O (c.get f) c.hd n hu (handed_of ru) (h u _ (I.tok _) ru)
theorem zE5 {m:Str}{g:Addr}{pl:Sem Bool}{Q:Value×List Value→Shared→Prop} (I:Inv X pins σ H s) (e:H a=some (.ins C dx fs)) (c:Cls X.K C) (k:Meth X.K C m g) (l:fs.lookup m=none)
  (h:Q (.ref g,[.ref a]) s):wpAny (model X.prog X.w) A (getMethod (.ref a) m pl) Q E s:=by
 obtain ⟨mA,O,r,_,_,_⟩:=zDl I.hok e;have hn:mA m=none:=RelO.none_of (by rw [← l];exact r m);exact get_meth I.kIn O (c.get m) k.at_ k.fn hn h
theorem setattr_ok {y:V}{u:Value}{Q:Unit→Shared→Prop} (I:Inv X pins σ H s) (e:H a=some (.ins C dx fs)) (c:Cls X.K C) (n:NoAttr X.K C f) (hl:fs.length < 1000) (ry:RelV y u)
  (h:∀ s',Inv X pins σ (upd H a (.ins C dx (putF f y fs))) s'→Q () s'):wpAny (model X.prog X.w) A (setAttr (.ref a) f u) Q E s:=by
 obtain ⟨mA,O,r,wi,_,ho⟩:=zDl I.hok e;have hz:(fs.map (·.1)).length≤sizeLine:=by rw [Z0,sizeLine_eq];omega
 refine set_map I.kIn O c.sa c.po n.taker c.hd wi hz fun h' O' sb=>h _ ?_;have hd:∃ o,h'.get? dx=some o:=let ⟨o,_,_,e',_⟩:=O'.ns;⟨o,e'⟩;refine I.write (x:=a) (e:=dx) (by rw [e];exact True.intro) (.inr ho) (fun b q hb z=>(sb.2 b hb).trans z) hd ?_;refine ⟨by rw [zA5 O.ne];exact ho,?_,O.ne,O'.obj,_,O'.ns,fun g=>?_,fun g hg=>?_⟩
 ·have:=zC3 f y fs;omega
 ·show RelO ((putF f y fs).lookup g) (if g=f then some u else mA g);rw [zAm];by_cases q:g=f
  ·rw [if_pos q,if_pos q];exact ry
  ·rw [if_neg q,if_neg q];exact r g
 ·by_cases q:g=f
  ·rw [q];exact (zDj f y fs).1
  ·refine (zDj f y fs).2 g (wi g fun z=>hg ?_);show (if g=f then some u else mA g)=none;rw [if_neg q];exact z
theorem Inv.made (I:Inv X pins σ H s):Inv X pins σ (upd (upd H s.heap.objs.size (.own (s.heap.objs.size + 1))) (s.heap.objs.size + 1) (.ins C s.heap.objs.size []))
  { s with heap:=(s.heap.push PySem.W.emptyDict).push (PySem.W.instObj C s.heap.objs.size) }:=by
 have e1:(s.heap.push PySem.W.emptyDict).get? s.heap.objs.size=some PySem.W.emptyDict:=Zg s.heap rfl;have e2:((s.heap.push PySem.W.emptyDict).push (PySem.W.instObj C s.heap.objs.size)).get? (s.heap.objs.size + 1)=some (PySem.W.instObj C s.heap.objs.size):=by
  have:=Zg (s.heap.push PySem.W.emptyDict) (o:=PySem.W.instObj C s.heap.objs.size) rfl
  rwa [Yj] at this
 have e3:(s.heap.push PySem.W.emptyDict).Ns s.heap.objs.size (fun _=>none):=⟨PySem.W.emptyDict,#[],_,e1,rfl,(fun e he=>absurd he (by simp)),fun _=>rfl⟩;have I1:=I.laid (a:=s.heap.objs.size) (o:=.own (s.heap.objs.size + 1)) (h':=s.heap.push PySem.W.emptyDict) (t':=s.toks) (fun b u q=>Z2 _ q) (Zb _) ⟨_,e1⟩;refine I1.laid (a:=s.heap.objs.size + 1) (o:=.ins C s.heap.objs.size []) (t':=s.toks) (fun b u q=>Z2 _ q) (Nat.le_of_eq (Yj _ _)) ?_;have ne:s.heap.objs.size≠s.heap.objs.size + 1:=Ze (Yb _);refine ⟨by rw [zA5 ne,zA1],Zm _,ne,e2,fun _=>none,(Heap.Ns1.of_empty e3).at fun o q=>Z2 _ q,fun _=>True.intro,fun y hy=>absurd rfl hy⟩
theorem attr_of {prog:Program}{w:World}{env:Env}{e:Expr}{f:Str}{pos:Pos}{s:Shared}{Q:Value→Shared→Prop} (hb:attributeBase e f env (eval e env)=eval e env)
  (h:wpAny (model prog w) A (eval e env) (fun o s₁=>wpAny (model prog w) A (getAttr o f true) Q E s₁) E s):wpAny (model prog w) A (eval (.Attribute e f pos) env) Q E s :=
 Attribute_any_ h (by rw [arm_eval_Attribute,hb])
end
noncomputable def tFld (K:PySem.W.Frag) (ta:TE) (f:Str):TE:=fun σ H Q=>ta σ H fun x H1=>∃ a C dx fs v,x=.ref a∧H1 a=some (.ins C dx fs)∧Cls K C∧NoAttr K C f∧fs.lookup f=some v∧Q v H1
noncomputable def sFld (K:PySem.W.Frag) (ta tv:TE) (f:Str):TS:=fun D σ H=>tv σ H fun y H1=>ta σ H1 fun x H2=>∃ a C dx fs,x=.ref a∧H2 a=some (.ins C dx fs)∧Cls K C∧NoAttr K C f∧fs.length < 1000 ∧
 D.nx σ (upd H2 a (.ins C dx (putF f y fs)))
section
variable {X:Cx}{o e value:Expr}{f:Str}{pos pos' tpos:Pos}{ta tv:TE}
theorem zBs (he:PE X e ta) (hb:attributeBase e f X.env (eval e X.env)=eval e X.env):PE X (.Attribute e f pos) (tFld X.K ta f):=by
 intro pins s σ H Q I h;refine attr_of hb (thn (he pins s σ H _ I h) fun u s1 ⟨x,H1,I1,rx,a,C,dx,fs,v,ex,ea,c,n,l,q⟩=>?_);subst ex;obtain rfl:u=Value.ref a:=rx;exact getattr_ok I1 ea c n l fun u' s2 I2 ru=>⟨v,H1,I2,ru,q⟩
theorem zDz (ha:PE X o ta) (hv:PE X value tv) (hs:swapsWith value (some (.Attribute o f pos')) pos.line X.env=pure false):PS X (.Assign [.Attribute o f pos'] value pos) (sFld X.K ta tv f):=by
 intro pins s σ H D I h;refine plainObj_wpAny_Assign_Attribute (thn (hv pins s σ H _ I h) fun u s1 ⟨y,H1,I1,ry,q⟩=>thn (ha pins s1 σ H1 _ I1 q) fun ov s2 ⟨x,H2,I2,rx,a,C,dx,fs,ex,ea,c,n,l,q2⟩=>?_) hs;subst ex;obtain rfl:ov=Value.ref a:=rx;exact setattr_ok I2 ea c n l ry fun s3 I3=>⟨σ,_,I3,q2⟩
theorem zDe {pl:Sem Bool}{m:Str}{apos:Pos}{args:List Expr}{pins:List (Addr×Obj)}{s:Shared}{σ : St}{H:Hp}{Q:Value→Shared→Prop}{te:TE} (he:PE X e te) (I:Inv X pins σ H s)
  (h:te σ H fun x H1=>∃ a C dx fs g,x=.ref a∧H1 a=some (.ins C dx fs)∧Cls X.K C∧Meth X.K C m g∧fs.lookup m=none ∧
   ∀ s1,Inv X pins σ H1 s1→wpAny (model X.prog X.w) X.A (callWith pos (.ref g) [.ref a] (backTo pos (starEach args X.env)) (backToKw pos (keywordEach [] X.env))) Q X.xe s1)
  (ht:eval (.Call (.Attribute e m apos) args [] pos) X.env=(do
   let ov ← eval e X.env
   standAt apos.atName
   let (f,first) ← holding [ov] (getMethod ov m pl)
   callWith pos f first (backTo pos (starEach args X.env)) (backToKw pos (keywordEach [] X.env)))) :
  wpAny (model X.prog X.w) X.A (eval (.Call (.Attribute e m apos) args [] pos) X.env) Q X.xe s:=by
 refine PySem.W.methodCall_KW (pl:=pl) (thn (he pins s σ H _ I h) fun u s1 ⟨x,H1,I1,rx,a,C,dx,fs,g,ex,ea,c,k,l,q⟩=>?_) ht;subst ex;obtain rfl:u=Value.ref a:=rx;exact zE5 I1 ea c k l (q s1 I1)
end
section
variable {X:Cx}{pins:List (Addr×Obj)}{σ : St}{H:Hp}{s:Shared}{A:Around}{E:Value→Shared→Prop}{Q:Value→Shared→Prop}{c:Value}{b:Bool}
inductive TyOf (K:PySem.W.Frag) (H:Hp):V→Value→Prop where
 | non:TyOf K H .non (.type "NoneType")
 | bl (x:Bool):TyOf K H (.bl x) (.type "bool")
 | int (i:Int):TyOf K H (.int i) (.type "int")
 | str (x:Str):TyOf K H (.str x) (.type "str")
 | flt (x:UInt64):TyOf K H (.flt x) (.type "float")
 | lst {a:Addr}{xs:List V} (e:H a=some (.lst xs)):TyOf K H (.ref a) (.type "list")
 | frz {a:Addr}{o:Obj}{xs:List V} (e:H a=some (.frz o (.lst xs))):TyOf K H (.ref a) (.type "list")
 | tup {a:Addr}{xs:List V} (e:H a=some (.tup xs)):TyOf K H (.ref a) (.type "tuple")
 | dK {a:Addr}{kvs:List (Key×V)} (e:H a=some (.dK kvs)):TyOf K H (.ref a) (.type "dict")
 | dT {a:Addr}{kvs:List (List Key×V)} (e:H a=some (.dT kvs)):TyOf K H (.ref a) (.type "dict")
 | ins {a C dx:Addr}{fs:List (Str×V)} (e:H a=some (.ins C dx fs)) (cl:Cls K C) (ha:PySem.W.findIn K (.ref C) "__class__" = some (some (.builtin "object.__class__")))
   (hn:PySem.W.specialIn K (.builtin "object.__class__") "__get__" = some (some (.builtin "getset_descriptor.__get__"))) (htk:PySem.W.takesIn K (.builtin "object.__class__")=some true)
   (hm:PySem.W.mroIn K C (.type "object")=some true):TyOf K H (.ref a) (.ref C)
theorem isinst_ok {x:V}{u t:Value} (I:Inv X pins σ H s) (rx:RelV x u) (ty:TyOf X.K H x t) (e:PySem.W.kitOne X.K t c=some b) (h:∀ tk,Q (.bool b) { s with toks:=tk }) :
  wpAny (model X.prog X.w) A (call (.builtin "isinstance") [u,c]) Q E s:=by
 cases ty with
 | non=>cases (show u=Value.none from rx);exact PySem.W.kia_one PySem.W.kitx_none I.kIn True.intro e (fun z=>nomatch z) h
 | bl y=>cases (show u=Value.bool y from rx);exact PySem.W.kia_one PySem.W.kitx_bool I.kIn True.intro e (fun z=>nomatch z) h
 | int i=>obtain ⟨t,q⟩:=(show ∃ t,u=Value.int i t from rx);cases q;exact PySem.W.kia_one PySem.W.kitx_int I.kIn True.intro e (fun z=>nomatch z) h
 | str y=>obtain ⟨t,q⟩:=(show ∃ t,u=Value.str y t from rx);cases q;exact PySem.W.kia_one PySem.W.kitx_str I.kIn True.intro e (fun z=>nomatch z) h
 | flt y=>obtain ⟨t,q⟩:=(show ∃ t,u=Value.float y t from rx);cases q;exact PySem.W.kia_one PySem.W.kitx_float I.kIn True.intro e (fun z=>nomatch z) h
 | @lst a xs ea =>
  cases (show u=Value.ref a from rx);obtain ⟨_,_,n,_,h1⟩:=(show ObjOk X.prog X.w H s.heap a (.lst xs) from I.hok a _ ea);exact PySem.W.kia_one PySem.W.kitx_list I.kIn ⟨_,h1,rfl⟩ e (fun z=>nomatch z) h
 | @frz a ob xs ea =>
  cases (show u=Value.ref a from rx);obtain ⟨_,_,_,n,_,h1⟩:=(show ObjOk X.prog X.w H s.heap a (.frz ob (.lst xs)) from I.hok a _ ea);exact PySem.W.kia_one PySem.W.kitx_list I.kIn ⟨_,h1,rfl⟩ e (fun z=>nomatch z) h
 | @tup a xs ea =>
  cases (show u=Value.ref a from rx);obtain ⟨_,_,_,p⟩:=(show ObjOk X.prog X.w H s.heap a (.tup xs) from I.hok a _ ea);obtain ⟨o,h1,h2,_⟩:=p;exact PySem.W.kia_one PySem.W.kitx_tuple I.kIn ⟨o,h1,h2⟩ e (fun z=>nomatch z) h
 | @dK a kvs ea =>
  cases (show u=Value.ref a from rx);obtain ⟨_,_,vs,_,p⟩:=(show ObjOk X.prog X.w H s.heap a (.dK kvs) from I.hok a _ ea);obtain ⟨o,es,ep,h1,h2,_⟩:=p;exact PySem.W.kia_one PySem.W.kitx_dict I.kIn ⟨o,h1,h2.1⟩ e (fun z=>nomatch z) h
 | @dT a kvs ea =>
  cases (show u=Value.ref a from rx);obtain ⟨_,_,xs,_,o,es,ep,h1,h2,_⟩:=(show ObjOk X.prog X.w H s.heap a (.dT kvs) from I.hok a _ ea);exact PySem.W.kia_one PySem.W.kitx_dict I.kIn ⟨o,h1,h2.1⟩ e (fun z=>nomatch z) h
 | @ins a C dx fs ea cl ha hn htk hm =>
  cases (show u=Value.ref a from rx);obtain ⟨mA,O,_⟩:=zDl I.hok ea;obtain ⟨od,J,_⟩:=O.look;exact PySem.W.kia_one (PySem.W.kitx_own (cl.get _) cl.hd ha hn htk hm) I.kIn J e (fun z=>nomatch z) h
end
end L2
namespace L2
open PySem PySem.Spec PyProof.Rows
structure Room (k:Nat) (A:Around):Prop where
 hd:A.handled=none
 dp:A.depth + 3 * k + 5 < recursionLimit
 un:A.units + 16 * k + 200 < cLine
theorem Room.mono {j k:Nat}{A:Around} (r:Room k A) (h:j≤k):Room j A:=⟨r.hd,by have:=r.dp;omega,by have:=r.un;omega⟩
theorem Room.deeper {k:Nat}{A:Around} (r:Room (k + 1) A) (env:Env):Room k (A.deeper env) :=
 ⟨r.hd,by have:=r.dp;show A.depth + 1 + 3 * k + 5 < _;omega,by have:=r.un;show A.units + 3 + 16 * k + 200 < _;omega⟩
theorem Room.in1 {k:Nat}{A:Around} (r:Room (k + 1) A):Room k A.in1 :=
 ⟨r.hd,by have:=r.dp;show A.depth + 3 * k + 5 < _;omega,by have:=r.un;show A.units + 1 + 16 * k + 200 < _;omega⟩
theorem make_depth {A:Around}{C:Addr}{us:List Value}{kw:List (Str×Value)}:(A.under (.builtin "type.__call__" ⟨.ref C :: us,kw⟩)).depth=A.depth + 1:=by
 first | rfl | simp [Around.under,Code.weight,Code.isCreation,Code.isGuard,Code.isCaller,Code.frames,Code.isFrame,guardIds]
theorem make_units {A:Around}{C:Addr}{us:List Value}{kw:List (Str×Value)}:(A.under (.builtin "type.__call__" ⟨.ref C :: us,kw⟩)).units=A.units + 1:=by
 first | rfl | simp [Around.under,Code.cUnits,Code.frames,Code.isFrame]
theorem Room.make {k:Nat}{A:Around} (r:Room (k + 1) A) (C:Addr) (us:List Value) (kw:List (Str×Value)):Room k (A.under (.builtin "type.__call__" ⟨.ref C :: us,kw⟩)) :=
 ⟨r.hd,by have:=r.dp;rw [make_depth];omega,by have:=r.un;rw [make_units];omega⟩
theorem Room.depth {k:Nat}{A:Around} (r:Room k A):A.depth < recursionLimit:=by have:=r.dp;omega
theorem Room.units {k:Nat}{A:Around} (r:Room k A):A.units + 64 < cLine:=by have:=r.un;omega
noncomputable def tNil:TA:=fun _ H Q=>Q [] H
noncomputable def tCons (ta:TE) (tr:TA):TA:=fun σ H Q=>ta σ H fun x H1=>tr σ H1 fun xs H2=>Q (x :: xs) H2
section
variable {X:Cx}{e:Expr}{es:List Expr}{te:TE}{t:TA}{pos:Pos}
theorem zA3:PA X [] tNil:=fun _ _ _ _ H Q I h=>Calls.spliced_nil ⟨[],H,I,.nil,h⟩
theorem zA0 (ha:PE X e te) (hr:PA X es t) (hs:starEach (e :: es) X.env=(false,eval e X.env) :: starEach es X.env:=by rfl):PA X (e :: es) (tCons te t):=by
 intro pos pins s σ H Q I h;rw [hs];show wpAny _ _ (spliced ((false,eval e X.env) :: backTo pos (starEach es X.env))) _ _ s;refine Calls.spliced_cons (thn (ha pins s σ H _ I h) fun u s1 ⟨x,H1,I1,r1,q1⟩=>?_);exact thn (hr pos pins s1 σ H1 _ I1 q1) fun us s2 ⟨xs,H2,I2,r2,q2⟩=>⟨x :: xs,H2,I2,.cons r1 r2,q2⟩
noncomputable def tTup (t:TA):TE:=fun σ H Q=>t σ H fun xs H1=>xs.length≤sizeLine∧∀ p,H1 p=none→Q (.ref p) (upd H1 p (.tup xs))
noncomputable def tLst (t:TA):TE:=fun σ H Q=>t σ H fun xs H1=>xs.length≤sizeLine∧∀ p,H1 p=none→Q (.ref p) (upd H1 p (.lst xs))
theorem zAw {x1} (h:PA X es t):PE X (.Tuple es x1 pos) (tTup t):=by
 intro pins s σ H Q I hq;refine wpAny_Tuple_spliced (thn (h pos pins s σ H _ I hq) fun us s1 ⟨xs,H1,I1,r,z,q⟩=>⟨by rw [← r.length];exact z,?_⟩);have hf:H1 s1.heap.objs.size=none:=I1.hok.fresh (Zb _);refine ⟨.ref s1.heap.objs.size,upd H1 s1.heap.objs.size (.tup xs),I1.laid (t':=s1.toks) (fun b u e=>Z2 _ e) (Zb _) ?_,rfl,q _ hf⟩;exact ⟨z,us,r,⟨_,Zg _ rfl,rfl,_,rfl⟩⟩
theorem zAe (h:PA X es t):PE X (.List es pos) (tLst t):=by
 intro pins s σ H Q I hq;refine wpAny_List_spliced (thn (h pos pins s σ H _ I hq) fun us s1 ⟨xs,H1,I1,r,z,q⟩=>⟨by rw [← r.length];exact z,?_⟩);have hf:H1 s1.heap.objs.size=none:=I1.hok.fresh (Zb _);refine ⟨.ref s1.heap.objs.size,upd H1 s1.heap.objs.size (.lst xs),I1.laid (t':=s1.toks) (fun b u e=>Z2 _ e) (Zb _) ?_,rfl,q _ hf⟩;exact ⟨z,us,0,r,Zg _ rfl⟩
end
noncomputable abbrev Sp:=List V→Hp→VK→XK→Prop
noncomputable abbrev CXT:=List Env→Hp→Shared→XK→Value→Shared→Prop
structure Env0 (P:Program) (w:World) (K:PySem.W.Frag) (mg:Str→Option Value) (base:Heap) (A:Around) (outer:List Env) (s:Shared) (H:Hp):Prop where
 frames:A.frames=some outer
 mod:Mod K mg base
 bs:∀ b o,base.get? b=some o→s.heap.get? b=some o∧H b=none
 bsz:base.objs.size≤s.heap.objs.size
 funs:s.heap.FunFrames base outer
 frf:∀ b∈frs outer,H b=none
 hok:HOk P w H s.heap
 bare:AllBare s.gens
noncomputable def CE (outer:List Env) (P:Program) (w:World) (H:Hp) (s:Shared) (Q:VK) (u:Value) (s':Shared):Prop :=
 ∃ v H',s'.os=s.os∧AllBare s'.gens∧Un (frs outer) [] H H' s.heap s'.heap∧HOk P w H' s'.heap∧RelV v u∧Q v H'
noncomputable def CR (CX:CXT) (outer:List Env) (P:Program) (w:World) (H:Hp) (s:Shared) (Q:VK) (E:XK) (r:Result) (s':Shared):Prop :=
 match r with
 | .ok (.ret u)=>CE outer P w H s Q u s'
 | .ok _=>False
 | .error e=>CX outer H s E e s'
structure FnOk (P:Program) (w:World) (K:PySem.W.Frag) (mg:Str→Option Value) (base:Heap) (CX:CXT) (k:Nat) (f:Addr) (fd:FuncData) (ps:List Str) (sp:Sp):Prop where
 len:∀ vs H Q E,sp vs H Q E→vs.length=ps.length
 run:∀ (A:Around) (outer:List Env) (s:Shared) (H:Hp) (args:Args) (us:List Value) (vs:List V) (Q:VK) (E:XK),Room k A→Env0 P w K mg base A outer s H→BindsTo s fd args (ps.zip us)→Vals vs us→sp vs H Q E →
  codeAny (model P w) A (.call (.ref f) args) (CR CX outer P w H s Q E) s
theorem FnOk.imp {P:Program}{w:World}{K:PySem.W.Frag}{mg:Str→Option Value}{base:Heap}{CX:CXT}{k:Nat}{f:Addr}{fd:FuncData}{ps:List Str}{sp sp':Sp} (F:FnOk P w K mg base CX k f fd ps sp)
  (h:∀ vs H Q E,sp' vs H Q E→sp vs H Q E):FnOk P w K mg base CX k f fd ps sp' :=
 ⟨fun vs H Q E q=>F.len vs H Q E (h _ _ _ _ q),fun A outer s H args us vs Q E hr he hb hv hs=>F.run A outer s H args us vs Q E hr he hb hv (h _ _ _ _ hs)⟩
theorem Env0.make {P:Program}{w:World}{K:PySem.W.Frag}{mg:Str→Option Value}{base:Heap}{A:Around}{outer:List Env}{s:Shared}{H:Hp} (e:Env0 P w K mg base A outer s H) (C:Addr) (us:List Value) (kw:List (Str×Value)) :
  Env0 P w K mg base (A.under (.builtin "type.__call__" ⟨.ref C :: us,kw⟩)) outer s H:=⟨by first | exact e.frames | (simpa [Around.under,Code.envs,Code.isFrame,pushEnvs] using e.frames),e.mod,e.bs,e.bsz,e.funs,e.frf,e.hok,e.bare⟩
section
variable {X:Cx}{pins:List (Addr×Obj)}{σ : St}{H:Hp}{s s':Shared}
theorem Inv.env0 (I:Inv X pins σ H s):Env0 X.prog X.w X.K X.mg X.base X.A X.stack s H :=
 ⟨I.ok.frames,I.ok.mod,I.bs,Zk I.ok.bsz I.sz,I.stack,I.stkFree,I.hok,I.bare⟩
theorem Inv.after {Q:VK}{u:Value} (I:Inv X pins σ H s) (h:CE X.stack X.prog X.w H s Q u s'):EP X pins σ Q u s':=by
 obtain ⟨v,H',os,bare,un,hok,r,q⟩:=h;obtain ⟨hh,g,d,t,os'⟩:=s';obtain rfl:os'=s.os:=os;exact ⟨v,H',I.call (h':=hh) (g':=g) (d':=d) (t':=t) (ch:=[]) un hok bare (fun b z=>absurd z (by simp)),r,q⟩
end
noncomputable def tCall (sp:Sp) (dvs:List V) (E:St→XK) (t:TA):TE:=fun σ H Q=>t σ H fun vs H1=>sp (vs++dvs) H1 Q (E σ)
noncomputable def tMeth (C:Addr) (m:Str) (sp:Sp) (dvs:List V) (E:St→XK) (ta:TE) (t:TA):TE:=fun σ H Q=>ta σ H fun x H1=>∃ a dx fs,x=.ref a∧H1 a=some (.ins C dx fs)∧fs.lookup m=none ∧
 t σ H1 fun vs H2=>sp (x :: (vs++dvs)) H2 Q (E σ)
noncomputable def tMake (C:Addr) (sp:Sp) (dvs:List V) (E:St→XK) (t:TA):TE:=fun σ H Q=>t σ H fun vs H1=>∀ x dx,H1 x=none→H1 dx=none→dx≠x →
 sp (.ref x :: (vs++dvs)) (upd (upd H1 dx (.own x)) x (.ins C dx [])) (fun v H2=>v=.non∧Q (.ref x) H2) (E σ)
noncomputable def Binds (K:PySem.W.Frag) (fd:FuncData) (ps:List Str) (ds:List Value):Prop :=
 ∀ (s:Shared) (us:List Value),K.In s.heap→(us++ds).length=ps.length→BindsTo s fd ⟨us,[]⟩ (ps.zip (us++ds))
theorem Binds.all {K:PySem.W.Frag}{fd:FuncData}{ps:List Str} (h:∀ us:List Value,us.length=ps.length→bindArgs fd ⟨us,[]⟩=pure (ps.zip us)):Binds K fd ps []:=fun s us _ hl=>by
 rw [List.append_nil] at hl ⊢;exact .of_eq (h us hl)
noncomputable def Passes (CX:CXT) (X:Cx) (E:St→XK):Prop:=∀ (pins:List (Addr×Obj)) (σ : St) (H:Hp) (s:Shared) (e:Value) (s':Shared),Inv X pins σ H s→CX X.stack H s (E σ) e s'→X.xe e s'
section
variable {X:Cx}{CX:CXT}{k:Nat}{f C:Addr}{fd:FuncData}{ps:List Str}{sp:Sp}{dvs:List V}{ds:List Value}{E:St→XK}{x m:Str}{p pos apos:Pos}{e o:Expr}{es:List Expr}{ta:TE}{t:TA}
theorem run_fn {pins:List (Addr×Obj)}{σ : St}{H:Hp}{s:Shared}{Q:VK}{us:List Value}{vs:List V} (F:FnOk X.prog X.w X.K X.mg X.base CX k f fd ps sp) (hr:Room k X.A) (hb:Binds X.K fd ps ds) (hd:Vals dvs ds) (hx:Passes CX X E)
  (I:Inv X pins σ H s) (r:Vals vs us) (h:sp (vs++dvs) H Q (E σ)):wpAny (model X.prog X.w) X.A (call (.ref f) us) (EP X pins σ Q) X.xe s:=by
 have r2:Vals (vs++dvs) (us++ds):=r.append hd;have hl:(us++ds).length=ps.length:=by rw [← r2.length];exact F.len _ _ _ _ h
 refine wpAny_call (codeAny_mono (F.run X.A X.stack s H ⟨us,[]⟩ (us++ds) (vs++dvs) Q (E σ) hr I.env0 (hb s us I.kIn hl) r2 h) fun r s' hq=>?_);cases r with
 | error e=>exact hx pins σ H s e s' I hq
 | ok fl =>
  cases fl with
  | ret u=>exact I.after hq
  | next=>exact False.elim hq
  | brk=>exact False.elim hq
  | cont=>exact False.elim hq
theorem zA9 (F:FnOk X.prog X.w X.K X.mg X.base CX k f fd ps sp) (hr:Room k X.A) (hg:Gl X x) (hm:X.mg x=some (.ref f)) (hk:PySem.W.keepIn X.K (.ref f)=true) (hb:Binds X.K fd ps ds) (hd:Vals dvs ds) (hx:Passes CX X E)
  (ha:PA X (e :: es) t) (hdb:(x == ("__debug__" : Str))=false:=by decide) (he:starEach (e :: es) X.env=(false,eval e X.env) :: starEach es X.env:=by rfl) (hpl:(backTo pos (starEach es X.env)).any (·.1)=false:=by rfl) :
  PE X (.Call (.Name x p) (e :: es) [] pos) (tCall sp dvs E t):=by
 intro pins s σ H Q I h;refine wpAny_Call_Name_kw (zDh I hg hm ?_ hdb);refine PySem.W.callWith_K (h₀:=X.base) I.ok.mod.kin hk (thn (ha pos pins s σ H _ I h) fun us s1 ⟨vs,H1,I1,r,q⟩=>⟨I1.kIn,?_⟩) he hpl;exact run_fn F hr hb hd hx I1 r q
theorem zD8 {pl:Sem Bool} (he:PE X o ta) (c:Cls X.K C) (hm:Meth X.K C m f) (F:FnOk X.prog X.w X.K X.mg X.base CX k f fd ps sp) (hr:Room k X.A) (hb:Binds X.K fd ps ds) (hd:Vals dvs ds) (hx:Passes CX X E) (ha:PA X (e :: es) t)
  (hst:starEach (e :: es) X.env=(false,eval e X.env) :: starEach es X.env:=by rfl) (hpl:(backTo pos (starEach es X.env)).any (·.1)=false:=by rfl)
  (ht:eval (.Call (.Attribute o m apos) (e :: es) [] pos) X.env=(do
   let ov ← eval o X.env
   standAt apos.atName
   let (f,first) ← holding [ov] (getMethod ov m pl)
   callWith pos f first (backTo pos (starEach (e :: es) X.env)) (backToKw pos (keywordEach [] X.env))):=by rfl) :
  PE X (.Call (.Attribute o m apos) (e :: es) [] pos) (tMeth C m sp dvs E ta t):=by
 intro pins s σ H Q I h;refine PySem.W.methodCall_KW (pl:=pl) (thn (he pins s σ H _ I h) fun u s1 ⟨x,H1,I1,rx,a,dx,fs,ex,ea,l,q⟩=>?_) ht;subst ex;obtain rfl:u=Value.ref a:=rx;refine zE5 I1 ea c hm l ?_;refine PySem.W.callWith_K (first:=[.ref a]) (h₀:=X.base) I.ok.mod.kin hm.kp (thn (ha pos pins s1 σ H1 _ I1 q) fun us s2 ⟨vs,H2,I2,r,q2⟩=>⟨I2.kIn,?_⟩) hst hpl;exact run_fn (us:=.ref a :: us) (vs:=.ref a :: vs) F hr hb hd hx I2 (.cons rfl r) q2
structure Mk (K:PySem.W.Frag) (C f:Addr):Prop where
 makes:PySem.W.makesIn K C=true
 init:PySem.W.findIn K (.ref C) "__init__" = some (some (.ref f))
 fn:PySem.W.isFn K (.ref f)=true
 kp:PySem.W.keepIn K (.ref C)=true
theorem run_make {pins:List (Addr×Obj)}{σ : St}{H:Hp}{s:Shared}{Q:VK}{us:List Value}{vs:List V} (M:Mk X.K C f) (F:FnOk X.prog X.w X.K X.mg X.base CX k f fd ps sp) (hr:Room (k + 1) X.A) (hb:Binds X.K fd ps ds) (hd:Vals dvs ds)
  (hx:Passes CX X E) (I:Inv X pins σ H s) (r:Vals vs us)
  (h:∀ x dx,H x=none→H dx=none→dx≠x→sp (.ref x :: (vs++dvs)) (upd (upd H dx (.own x)) x (.ins C dx [])) (fun v H2=>v=.non∧Q (.ref x) H2) (E σ)) :
  wpAny (model X.prog X.w) X.A (call (.ref C) us) (EP X pins σ Q) X.xe s:=by
 have hq:=h (s.heap.objs.size + 1) s.heap.objs.size (I.hok.fresh (Nat.le_succ _)) (I.hok.fresh (Zb _)) (Ze (Yb _));have I2:=Inv.made (C:=C) I;have r2:Vals (V.ref (s.heap.objs.size + 1) :: (vs++dvs)) (Value.ref (s.heap.objs.size + 1) :: (us++ds)):=.cons rfl (r.append hd);have hl:(Value.ref (s.heap.objs.size + 1) :: us++ds).length=ps.length:=by
  have e:=r2.length;rw [F.len _ _ _ _ hq] at e;exact e.symm
 refine wpAny_call (make_map (f:=f) I.kIn M.makes M.init (beq_iff_eq.mp M.fn) (codeAny_mono (F.run _ X.stack _ _ ⟨Value.ref (s.heap.objs.size + 1) :: us,[]⟩ (Value.ref (s.heap.objs.size + 1) :: (us++ds)) _ _ (E σ) (hr.make C us [])
  (I2.env0.make C us []) (hb _ (Value.ref (s.heap.objs.size + 1) :: us) I2.kIn hl) r2 hq) fun r s' hq'=>?_))
 cases r with
 | error e=>exact hx pins σ _ _ e s' I2 hq'
 | ok fl =>
  cases fl with
  | ret u =>
   obtain ⟨v,H',I3,rv,ev,q3⟩:=I2.after hq';subst ev;exact ⟨rv,⟨V.ref (s.heap.objs.size + 1),H',I3,rfl,q3⟩⟩
  | next=>exact False.elim hq'
  | brk=>exact False.elim hq'
  | cont=>exact False.elim hq'
theorem zEl (M:Mk X.K C f) (F:FnOk X.prog X.w X.K X.mg X.base CX k f fd ps sp) (hr:Room (k + 1) X.A) (hg:Gl X x) (hm:X.mg x=some (.ref C)) (hb:Binds X.K fd ps ds) (hd:Vals dvs ds) (hx:Passes CX X E)
  (ha:PA X (e :: es) t) (hdb:(x == ("__debug__" : Str))=false:=by decide) (he:starEach (e :: es) X.env=(false,eval e X.env) :: starEach es X.env:=by rfl) (hpl:(backTo pos (starEach es X.env)).any (·.1)=false:=by rfl) :
  PE X (.Call (.Name x p) (e :: es) [] pos) (tMake C sp dvs E t):=by
 intro pins s σ H Q I h;refine wpAny_Call_Name_kw (zDh I hg hm ?_ hdb);refine PySem.W.callWith_K (h₀:=X.base) I.ok.mod.kin M.kp (thn (ha pos pins s σ H _ I h) fun us s1 ⟨vs,H1,I1,r,q⟩=>⟨I1.kIn,?_⟩) he hpl;exact run_make M F hr hb hd hx I1 r q
end
section
variable {X:Cx}{CX:CXT}{k:Nat}{f C:Addr}{fd:FuncData}{ps ks:List Str}{sp:Sp}{E:St→XK}{x m:Str}{p pos apos kpos:Pos}{e o:Expr}{es:List Expr}{kws:List Keyword}{te ta:TE}{t tk:TA}{nm:Option Str}
variable {g:List Value→List Value→List Value}{gV:List V→List V→List V}
end
structure FnScope (N P:List Str) (sc:Scope):Prop where
 kind:sc.kind=.function
 co:sc.isCoroutine=false
 gen:sc.isGenerator=false
 nd:N.Nodup
 pre:N.take P.length=P
 par:∀ x∈P,sc.names.lookup x=some .local∨sc.names.lookup x=some .cell
 nofree:∀ y∈sc.names,y.2≠.free
theorem bindL_out {kindOf:Str→Option NameKind}{x:Str}:∀ {binds:List (Str×Value)}{m:Str→Option Value},(∀ v,(x,v)∉binds)→bindL kindOf binds m x=m x
 | [],_,_=>rfl
 | (n,v) :: r,m,h=>by
  unfold bindL;rw [bindL_out fun w hw=>h w (Z5 _ hw)];split
  ·have:x≠n:=by rintro rfl;exact h v Zd
   simp [this]
  ·rfl
theorem bindC_out {kindOf:Str→Option NameKind}{x:Str}:∀ {binds:List (Str×Value)}{m:Str→Option Value},(∀ v,(x,v)∉binds)→bindC kindOf binds m x=m x
 | [],_,_=>rfl
 | (n,v) :: r,m,h=>by
  unfold bindC;rw [bindC_out fun w hw=>h w (Z5 _ hw)];split
  ·rfl
  ·have:x≠n:=by rintro rfl;exact h v Zd
   simp [this]
theorem bindL_get {kindOf:Str→Option NameKind}{x:Str}{v:Value}:∀ {P:List Str}{vs:List Value}{i:Nat}{m:Str→Option Value},P.Nodup→P[i]? = some x→vs[i]? = some v→kindOf x=some .local →
  bindL kindOf (P.zip vs) m x=some v
 | [],_,_,_,_,h,_,_=>by simp at h
 | _ :: _,[],_,_,_,_,h,_=>by simp at h
 | p :: P,w :: vs,0,m,nd,h1,h2,hk=>by
  simp at h1 h2;subst h1;subst h2;show bindL kindOf ((p,w) :: P.zip vs) m p=_;unfold bindL;rw [bindL_out fun v hv=>(List.nodup_cons.mp nd).1 (List.of_mem_zip hv).1,if_pos hk];simp
 | p :: P,w :: vs,i + 1,m,nd,h1,h2,hk=>by
  show bindL kindOf ((p,w) :: P.zip vs) m x=_;unfold bindL;exact bindL_get (i:=i) (List.nodup_cons.mp nd).2 (by simpa using h1) (by simpa using h2) hk
theorem bindC_get {kindOf:Str→Option NameKind}{x:Str}{v:Value}:∀ {P:List Str}{vs:List Value}{i:Nat}{m:Str→Option Value},P.Nodup→P[i]? = some x→vs[i]? = some v→kindOf x≠some .local →
  bindC kindOf (P.zip vs) m x=some v
 | [],_,_,_,_,h,_,_=>by simp at h
 | _ :: _,[],_,_,_,_,h,_=>by simp at h
 | p :: P,w :: vs,0,m,nd,h1,h2,hk=>by
  simp at h1 h2;subst h1;subst h2;show bindC kindOf ((p,w) :: P.zip vs) m p=_;unfold bindC;rw [bindC_out fun v hv=>(List.nodup_cons.mp nd).1 (List.of_mem_zip hv).1,if_neg hk];simp
 | p :: P,w :: vs,i + 1,m,nd,h1,h2,hk=>by
  show bindC kindOf ((p,w) :: P.zip vs) m x=_;unfold bindC;exact bindC_get (i:=i) (List.nodup_cons.mp nd).2 (by simpa using h1) (by simpa using h2) hk
noncomputable def start (N:List Str) (vs:List V):St:=vs.map some++List.replicate (N.length - vs.length) none
noncomputable def cxOf (CX:CXT) (P:Program) (w:World) (K:PySem.W.Frag) (mg:Str→Option Value) (base:Heap) (N:List Str) (qual:Str) (scope:Scope) (f:Addr) (cd:Value) (A:Around) (outer:List Env) (s:Shared) (H:Hp) (E:XK):Cx where
 prog:=P
 w:=w
 K:=K
 mg:=mg
 base:=base
 A:=A.deeper (envOfC qual scope s.heap.objs.size f cd)
 N:=N
 s₀:=s
 H₀:=H
 env:=envOfC qual scope s.heap.objs.size f cd
 outer:=outer
 stack:=envOfC qual scope s.heap.objs.size f cd :: outer
 ex:=[]
 calm:=true
 fn:=fun _=>true
 pn:=[]
 xe:=fun e s'=>wpAny (model P w) (A.deeper (envOfC qual scope s.heap.objs.size f cd)) (leaving (envOfC qual scope s.heap.objs.size f cd) e) (fun _ s''=>CX outer H s E e s'') (fun e' s''=>CX outer H s E e' s'') s'
theorem cell_has {sc:Scope}{n:Nat}{x:Str} (h:sc.names.lookup x=some .cell):∃ c,(cellsFrom n sc.names []).lookup x=some c:=by
 have q:=PySem.W.cellsFrom_some sc.names n [] (.inl h);exact Option.isSome_iff_exists.mp q
theorem inv_start {CX:CXT}{P:Program}{w:World}{K:PySem.W.Frag}{mg:Str→Option Value}{base:Heap}{N ps:List Str}{qual:Str}{scope:Scope}{f:Addr}{cd:Value}{A:Around}{outer:List Env}{s s1:Shared}{H:Hp}{E:XK}{us:List Value}{vs:List V}
  (S:FnScope N ps scope) (hd:A.handled=none) (e0:Env0 P w K mg base A outer s H) (hl:vs.length=ps.length) (r:Vals vs us)
  (x:InCallC s s.heap.objs.size (bindL (envOfC qual scope s.heap.objs.size f cd).kindOf (ps.zip us) fun _=>none) (cellsFrom (s.heap.objs.size + 1) scope.names []) (bindC (envOfC qual scope s.heap.objs.size f cd).kindOf (ps.zip us) fun _=>none) s1) :
  Inv (cxOf CX P w K mg base N qual scope f cd A outer s H E) [] (start N vs) H s1:=by
 have hpl:ps.length≤N.length:=by have:=congrArg List.length S.pre;rw [Zt] at this;omega
 obtain ⟨h1,tk,rfl,hk⟩:=x.done;have noA:∀ b:Addr,b∉(cxOf CX P w K mg base N qual scope f cd A outer s H E).ex:=fun b z=>absurd (show b∈([]:List Addr) from z) (by simp)
 refine ⟨⟨e0.mod,S.kind,rfl,rfl,Zb _,fun y z c h1 h2=>?_,fun y hy=>?_,fun y c _ h=>?_,fun _=>hd,Around.frames_deeper e0.frames,.inr ⟨rfl,rfl⟩,fun b z=>absurd z (noA b),e0.bs,e0.bsz,fun b _ _=>noA b,fun b z=>absurd z (noA b),e0.funs,e0.frf⟩,
  rfl,e0.bare,Un.kept hk,⟨_,x.toInCall.ns,fun i y v h1 h2 h3=>?_⟩,fun y c h=>⟨_,x.cell y c h⟩,e0.hok.fresh (Zb _),fun y c h=>?_,fun p hp=>absurd (show p∈([]:List (Addr×Obj)) from hp) (by simp),e0.hok.kept hk,?_⟩
 ·exact name_of_addr x.apart (PySem.mem_of_lookup h1) (PySem.mem_of_lookup h2)
 ·have hy:scope.names.lookup y=some .cell∨scope.names.lookup y=some .free:=hy;rcases hy with hy | hy
  ·exact cell_has hy
  ·exact absurd rfl (S.nofree _ (PySem.mem_of_lookup hy))
 ·exact Zq (x.above y c (PySem.mem_of_lookup h))
 ·have hi:i < vs.length:=by
   unfold start at h2;by_cases hi:i < vs.length
   ·exact hi
   ·rw [Zx (by simpa using hi)] at h2;rw [List.getElem?_replicate] at h2;split at h2 <;> cases h2
  have ha:vs[i]? = some v:=by
   unfold start at h2;rw [Zp (by simpa using hi),Z6] at h2;cases e:vs[i]? with
   | none=>rw [e] at h2;cases h2
   | some a=>rw [e] at h2;cases h2;rfl
  obtain ⟨u,hu,rv⟩:=r.get ha;have hp:ps[i]? = some y:=by
   rw [← S.pre,List.getElem?_take_of_lt (by omega)];exact h1
  have ndP:ps.Nodup:=by rw [← S.pre];exact S.nd.sublist (List.take_sublist _ _)
  refine ⟨u,rv,?_⟩;rcases S.par y (Z3 hp) with k | k
  ·exact .inl ⟨k,bindL_get ndP hp hu k⟩
  ·obtain ⟨c,e⟩:=cell_has (n:=s.heap.objs.size + 1) k;refine .inr ⟨.inl k,c,e,?_⟩;have q:=x.cell y c e;rw [bindC_get ndP hp hu (by show scope.names.lookup y≠_;rw [k];decide)] at q;exact q
 ·exact e0.hok.fresh (Zq (x.above y c (PySem.mem_of_lookup h)))
 ·unfold start;show _=N.length;rw [Z8,Z0,List.length_replicate];omega
theorem fn_of {CX:CXT}{P:Program}{w:World}{K:PySem.W.Frag}{mg:Str→Option Value}{base:Heap}{k:Nat}{f:Addr}{name qual:Str}{params:Arguments}{body:List Stmt}{scope:Scope}{dV kV doc pm cdv ct oc:Value}{an od:Option Addr}
  {osl:Array (Option Value)}{N ps:List Str}{sp:Sp} (lk:K.lookup f=some ⟨oc,od,.func (PySem.W.fnOf name qual params body scope dV kV doc pm an cdv ct),osl⟩) (hcd:PySem.W.codeIn K cdv qual=true) (S:FnScope N ps scope)
  (len:∀ vs H Q E,sp vs H Q E→vs.length=ps.length)
  (hbody:∀ (A:Around) (outer:List Env) (s:Shared) (H:Hp) (vs:List V) (Q:VK) (E:XK),Room k (A.deeper (envOfC qual scope s.heap.objs.size f cdv))→sp vs H Q E →
   ∃ t,PSs (cxOf CX P w K mg base N qual scope f cdv A outer s H E) body t∧t { nx:=fun _ H'=>Q .non H',rt:=Q } (start N vs) H) :
  FnOk P w K mg base CX (k + 1) f (PySem.W.fnOf name qual params body scope dV kV doc pm an cdv ct) ps sp:=by
 refine ⟨len,fun A outer s H args us vs Q E hr e0 hb r hsp=>?_⟩;have hl:=len _ _ _ _ hsp;have KX:K.In s.heap:=e0.mod.kin.keeps fun b o e=>(e0.bs b o e).1;have lim:s.heap.NoLimit:=e0.mod.nolimit.keeps fun b o e=>(e0.bs b o e).1;have hkind:∀ y∈ps.zip us,scope.names.lookup y.1=some .local∨(scope.names.lookup y.1=some .cell∧((cellsFrom (s.heap.objs.size + 1) scope.names []).lookup y.1).isSome=true):=fun ⟨n,v⟩ hy=>by
  rcases S.par n (List.of_mem_zip hy).1 with q | q
  ·exact .inl q
  ·exact .inr ⟨q,PySem.W.cellsFrom_some _ _ _ (.inl q)⟩
 refine codeAny_call_function hr.depth (KX _ _ lk) rfl S.co S.gen rfl (PySem.W.codeRec_of KX hcd) (hb _ _ _ _ ?_);refine wpAny_newFunctionEnv_cells S.kind hkind fun env he s1 x=>?_;subst he;refine ⟨lim.keeps x.toInCall.keep,codeAny_func ?_⟩;obtain ⟨t,ht,hq⟩:=hbody A outer s H vs Q E (hr.deeper _) hsp;have I:Inv (cxOf CX P w K mg base N qual scope f cdv A outer s H E) [] (start N vs) H s1:=inv_start S hr.hd e0 hl r x;refine wpAny_mono (ht [] s1 (start N vs) H _ I hq) (fun fl s' hs=>?_) fun e s' hs=>hs;have fin:∀ {σ':St}{H':Hp}{v:V}{u:Value},Inv (cxOf CX P w K mg base N qual scope f cdv A outer s H E) [] σ' H' s'→RelV v u→Q v H'→CE outer P w H s Q u s' :=
  fun {σ' H' v u} J rv q=>⟨v,H',J.os,J.bare,J.base,J.hok,rv,q⟩
 cases fl with
 | ret u =>
  obtain ⟨v,σ',H',J,rv,q⟩:=hs;exact fin J rv q
 | next =>
  obtain ⟨σ',H',J,q⟩:=hs;exact fin (v:=V.non) (u:=Value.none) J rfl q
 | brk =>
  obtain ⟨_,_,_,q⟩:=hs;exact False.elim q
 | cont =>
  obtain ⟨_,_,_,q⟩:=hs;exact False.elim q
end L2
namespace L2
open PySem PySem.Spec PyProof.Rows
section
variable {X:Cx}{x:Str}{p pos:Pos}{e:Expr}{es:List Expr}{t:TA}{id T:String}{r:List V→Hp→VK→Prop}
noncomputable def tCB (r:List V→Hp→VK→Prop) (t:TA):TE:=fun σ H Q=>t σ H fun vs H1=>r vs H1 Q
theorem zAd (hc:CallR X (.builtin id) r) (hg:Gl X x) (hm:X.mg x=none) (hv:bootBuiltins x=some (.builtin id)) (ha:PA X (e :: es) t) (hn:x≠"__name__":=by decide) (hdb:(x == ("__debug__" : Str))=false:=by decide)
  (he:starEach (e :: es) X.env=(false,eval e X.env) :: starEach es X.env:=by rfl) (hpl:(backTo pos (starEach es X.env)).any (·.1)=false:=by rfl):PE X (.Call (.Name x p) (e :: es) [] pos) (tCB r t):=by
 intro pins s σ H Q I h;refine wpAny_Call_Name_kw (zE3 I hg hm hv ?_ hn hdb);exact PyProof.Rows.callWith_builtin1 (thn (ha pos pins s σ H _ I h) fun us s1 ⟨vs,H1,I1,r1,q1⟩=>hc pins s1 σ H1 vs us Q I1 r1 q1) he hpl
theorem zAx (hc:CallR X (.type T) r) (hg:Gl X x) (hm:X.mg x=none) (hv:bootBuiltins x=some (.type T)) (ha:PA X (e :: es) t) (hn:x≠"__name__":=by decide) (hdb:(x == ("__debug__" : Str))=false:=by decide)
  (he:starEach (e :: es) X.env=(false,eval e X.env) :: starEach es X.env:=by rfl) (hpl:(backTo pos (starEach es X.env)).any (·.1)=false:=by rfl):PE X (.Call (.Name x p) (e :: es) [] pos) (tCB r t):=by
 intro pins s σ H Q I h;refine wpAny_Call_Name_kw (zE3 I hg hm hv ?_ hn hdb);exact PyProof.Rows.callWith_type1 (thn (ha pos pins s σ H _ I h) fun us s1 ⟨vs,H1,I1,r1,q1⟩=>hc pins s1 σ H1 vs us Q I1 r1 q1) he hpl
end
end L2
namespace HT
open PySem PyProof.Rows
section
open PySem.SeqAt
open PySem.AutoSeq1 (wpAny_loadPart')
open PySem.MeetsSeq PySem.MeetsSeq2 PySem.MeetsSeq3
end
section
variable {prog:Program}{w:World}{A:Around}{E:Value→Shared→Prop}{s:Shared}
theorem cat_tup {t b:Addr}{vs ws:List Value}{Q:Value→Shared→Prop} (ht:IsTup s.heap t vs.toArray) (hb:IsTup s.heap b ws.toArray) (hv:vs≠[])
  (h1:ws=[]→Q (.ref t) s) (h2:ws≠[]→Q (.ref s.heap.objs.size) { s with heap:=s.heap.push { cls:=.type "tuple",data:=.seq (vs++ws).toArray } })
  (hsz:vs.length + ws.length≤sizeLine):wpAny (model prog w) A (binaryOp .Add (.ref t) (.ref b)) Q E s:=by
 obtain ⟨⟨cls,dd,data,sl⟩,ho,hc,n,hd⟩:=id ht;obtain ⟨⟨cls2,dd2,data2,sl2⟩,ho2,hc2,n2,hd2⟩:=id hb;simp only at hc hd hc2 hd2;subst hc hd hc2 hd2;have e:vs.toArray++ws.toArray=(vs++ws).toArray:=by simp
 by_cases hw:ws=[]
 ·exact concat_meets ⟨_,ho,rfl⟩ ⟨_,ho2,rfl⟩ noFill_tuple_add seq_tuple_add PySem.F.slot_tuple_add PySem.F.entry_tuple_add (PySem.F.args_tuple_add_2 _ _)
   (tuple_addW1 t b vs.toArray ws.toArray n n2 dd dd2 sl sl2 (by simpa using hv) (by simp [hw])) ⟨ho,ho2,h1 hw⟩
 ·refine concat_meets ⟨_,ho,rfl⟩ ⟨_,ho2,rfl⟩ noFill_tuple_add seq_tuple_add PySem.F.slot_tuple_add PySem.F.entry_tuple_add (PySem.F.args_tuple_add_2 _ _)
   (tuple_addW2 t b vs.toArray ws.toArray n n2 dd dd2 sl sl2 (by simpa using hv) (by simpa using hw) (by rw [Z7,Z7];exact hsz)) ⟨ho,ho2,?_⟩
  rw [e];exact h2 hw
noncomputable def sIx (n d:Nat):Option Int→Nat
 | none=>d
 | some v=>if v < 0 then (v + (n:Int)).toNat else min v.toNat n
end
end HT
namespace L2
open PySem PySem.Spec PyProof.Rows
noncomputable abbrev TO:=St→Hp→(Option Int→Hp→Prop)→Prop
noncomputable def PO (X:Cx) (e:Option Expr) (t:TO):Prop :=
 ∀ (pins:List (Addr×Obj)) (s:Shared) (σ : St) (H:Hp) (Q:Option Int→Hp→Prop),Inv X pins σ H s→t σ H Q →
  wpAny (model X.prog X.w) X.A (evalPart e X.env) (fun u s'=>∃ o H',Inv X pins σ H' s'∧IsPart u o∧Q o H') X.xe s
noncomputable def tNoPart:TO:=fun _ H Q=>Q none H
noncomputable def tPart (t:TE):TO:=fun σ H Q=>t σ H fun x H1=>∃ i,x=.int i∧Q (some i) H1
section
variable {X:Cx}{e:Expr}{te:TE}{lo hi:Option Expr}{tl th:TO}{pos p2:Pos}
theorem po_none:PO X none tNoPart:=by
 intro pins s σ H Q I h;rw [evalPart_none];exact wpAny_pure ⟨none,H,I,.none,h⟩
theorem zEk (h:PE X e te):PO X (some e) (tPart te):=by
 intro pins s σ H Q I hw;rw [evalPart_some];refine thn (h pins s σ H _ I hw) fun u s1 ⟨x,H1,I1,r1,q1⟩=>?_;obtain ⟨i,rfl,q⟩:=q1;obtain ⟨t,rfl⟩:=r1;exact ⟨some i,H1,I1,.int i t,q⟩
noncomputable def SlR (X:Cx) (r:V→Option Int→Option Int→Hp→VK→Prop):Prop :=
 ∀ (pins:List (Addr×Obj)) (s:Shared) (σ : St) (H:Hp) (x:V) (v vl vu:Value) (lo hi:Option Int) (sl:Addr) (Q:VK),Inv X pins σ H s→RelV x v→s.heap.IsSliceOf sl vl vu .none→IsPart vl lo→IsPart vu hi→r x lo hi H Q →
  ∃ T id,typeLookup (.type T) "__getitem__" = pure (some (.builtin id))∧s.TypeIs v T∧wpAny (model X.prog X.w) X.A (getItem v (.ref sl)) (EP X pins σ Q) X.xe s
noncomputable def tSl (r:V→Option Int→Option Int→Hp→VK→Prop) (te:TE) (tl th:TO):TE:=fun σ H Q=>te σ H fun x H1=>tl σ H1 fun l H2=>th σ H2 fun u H3=>r x l u H3 Q
theorem zCz {r:V→Option Int→Option Int→Hp→VK→Prop} (hr:SlR X r) (he:PE X e te) (hl:PO X lo tl) (hu:PO X hi th):PE X (.Subscript e (.Slice lo hi none p2) pos) (tSl r te tl th):=by
 intro pins s σ H Q I h;refine Subscript_ (thn (he pins s σ H _ I h) fun v s1 ⟨x,H1,I1,r1,q1⟩=>?_);refine wpAny_Slice (thn (hl pins s1 σ H1 _ I1 q1) fun vl s2 ⟨l,H2,I2,pl,q2⟩=>thn (hu pins s2 σ H2 _ I2 q2) fun vu s3 ⟨u,H3,I3,pu,q3⟩=>?_);rw [evalPart_none];refine wpAny_pure ?_;have I4:Inv X pins σ H3 { s3 with heap:=s3.heap.push { cls:=.type "slice",data:=.fields #[vl,vu,.none] } }:=I3.kept (t':=s3.toks) fun b ob q=>Z2 _ q;obtain ⟨T,id,hT,ht,hg⟩:=hr pins { s3 with heap:=s3.heap.push { cls:=.type "slice",data:=.fields #[vl,vu,.none] } } σ H3 x v vl vu l u s3.heap.objs.size Q I4 r1 (Heap.IsSliceOf.new ..) pl pu q3;show wpAny (model X.prog X.w) X.A (subscriptTail e (.Slice lo hi none p2) v (.ref s3.heap.objs.size)) (EP X pins σ Q) X.xe { s3 with heap:=s3.heap.push { cls:=.type "slice",data:=.fields #[vl,vu,.none] } };exact tail_any (ops:=[.ref s3.heap.objs.size,v]) ht hT hg (by with_unfolding_all rfl)
noncomputable def cutV (xs:List V) (lo hi:Option Int):List V:=(xs.drop (HT.sIx xs.length 0 lo)).take (HT.sIx xs.length xs.length hi - HT.sIx xs.length 0 lo)
theorem cutV_length (xs:List V) (lo hi:Option Int):(cutV xs lo hi).length≤xs.length:=by
 unfold cutV;rw [Zt,List.length_drop];omega
theorem Vals.nil_iff {xs:List V}{us:List Value} (r:Vals xs us):us=[] ↔ xs=[]:=by
 cases r with
 | nil=>simp
 | cons _ _=>simp
end
end L2
namespace L2
open PySem PySem.Spec PyProof.Rows
noncomputable def ixN (n:Nat) (i:Int):Option Nat:=if 0≤i then (if i < n then some i.toNat else none) else if -(n:Int)≤i then some (i + n).toNat else none
noncomputable def atI {α : Type} (xs:List α) (i:Int):Option α:=(ixN xs.length i).bind fun j=>xs[j]?
theorem ixN_seq {n:Nat}{i:Int}{j:Nat} (h:ixN n i=some j):seqIndex? i n=some j∧j < n∧-(n:Int)≤i∧i < n:=by
 unfold ixN at h;by_cases h0:0≤i
 ·rw [if_pos h0] at h;by_cases h1:i < n
  ·rw [if_pos h1] at h;have e:i.toNat=j:=Zj h;exact ⟨by rw [seqIndex_of h0 h1,e],by omega,by omega,h1⟩
  ·rw [if_neg h1] at h;cases h
 ·rw [if_neg h0] at h;by_cases h1 : -(n:Int)≤i
  ·rw [if_pos h1] at h;have e:(i + n).toNat=j:=Zj h;exact ⟨by rw [seqIndex_neg (by omega) h1,e],by omega,h1,by omega⟩
  ·rw [if_neg h1] at h;cases h
theorem atI_get {α : Type}{xs:List α}{i:Int}{v : α} (h:atI xs i=some v):∃ j,seqIndex? i xs.length=some j∧xs[j]? = some v∧j < xs.length∧-(xs.length:Int)≤i∧i < xs.length:=by
 unfold atI at h;cases e:ixN xs.length i with
 | none=>rw [e] at h;cases h
 | some j =>
  rw [e] at h;obtain ⟨h1,h2,h3,h4⟩:=ixN_seq e;exact ⟨j,h1,h,h2,h3,h4⟩
theorem zAr {α : Type}{xs:List α}{j:Nat}{v : α} (h:xs[j]? = some v):atI xs (j:Int)=some v:=by
 have hj:j < xs.length:=(List.getElem?_eq_some_iff.mp h).1;have e:ixN xs.length (j:Int)=some j:=by
  unfold ixN;rw [if_pos (by omega),if_pos (by omega)];simp
 unfold atI;rw [e];exact h
theorem atI_last {α : Type} (xs:List α) (v : α):atI (xs++[v]) (-1)=some v:=by
 have hl:(xs++[v]).length=xs.length + 1:=by simp
 have e:ixN (xs++[v]).length (-1)=some xs.length:=by
  unfold ixN;rw [hl,if_neg (by decide),if_pos (by omega)]
  congr 1
  omega
 unfold atI;rw [e];show (xs++[v])[xs.length]? = some v;simp
noncomputable def PlainIx (b:Expr):Prop:=∀ o i,subscripted b false o i=operate [o,i] (getItem o i)
noncomputable def IxR (X:Cx) (r:R2):Prop :=
 ∀ (value slice:Expr) (pins:List (Addr×Obj)) (s:Shared) (σ : St) (H:Hp) (x y:V) (v u:Value) (Q:VK),Inv X pins σ H s→RelV x v→RelV y u→r x y H Q →
  subscripted slice false v u=operate [v,u] (getItem v u)→wpAny (model X.prog X.w) X.A (subscriptTail value slice v u) (EP X pins σ Q) X.xe s
noncomputable def MtR (X:Cx) (id:String) (r:V→List V→Hp→VK→Prop):Prop :=
 ∀ (pins:List (Addr×Obj)) (s:Shared) (σ : St) (H:Hp) (x:V) (xs:List V) (v:Value) (us:List Value) (Q:VK),Inv X pins σ H s→RelV x v→Vals xs us→r x xs H Q →
  wpAny (model X.prog X.w) X.A (call (.builtin id) (v :: us)) (EP X pins σ Q) X.xe s
section
variable {X:Cx}{a b:Expr}{ta tb:TE}{pos:Pos}
theorem zAu {r:R2} (hr:IxR X r) (ha:PE X a ta) (hb:PE X b tb) (hs:PlainIx b):PE X (.Subscript a b pos) (tOp r ta tb):=by
 intro pins s σ H Q I h;exact Subscript_ (binT ha hb I h fun v u s2 x y H2 I2 rx ry q=>hr a b pins s2 σ H2 x y v u Q I2 rx ry q (hs _ _))
noncomputable def rIxL (K:PySem.W.Frag):R2:=fun x y H Q=>∃ p xs i v,x=.ref p∧y=.int i∧SqL K H p xs∧atI xs i=some v∧Q v H
noncomputable def rIxT (K:PySem.W.Frag):R2:=fun x y H Q=>∃ p xs i v,x=.ref p∧y=.int i∧SqT K H p xs∧atI xs i=some v∧Q v H
noncomputable def rIxS:R2:=fun x y H Q=>∃ z i c,x=.str z∧y=.int i∧z.length≤sizeLine∧atI z.cps.toList i=some c∧Q (.str ⟨#[c]⟩) H
theorem zAp:IxR X (rIxL X.K):=by
 intro value slice pins s σ H x y v u Q I rx ry h hs;obtain ⟨p,xs,i,z,rfl,rfl,hq,he,q⟩:=h;cases rx;obtain ⟨t,rfl⟩:=ry;obtain ⟨its,r,pl,hz⟩:=I.list hq;obtain ⟨j,h1,h2,h3,h4,h5⟩:=atI_get he;obtain ⟨w,ew,rw'⟩:=r.get h2;have hl:=r.length;have hn:=line63;have fin:EP X pins σ Q w s:=⟨z,H,I,rw',q⟩;by_cases h0:0≤i
 ·have hj:i.toNat=j:=by
   rw [seqIndex_of h0 h5] at h1;exact Zj h1
  exact item_listR pl.isList h0 (by omega) (by rw [hj];simpa using ew) fin hs
 ·have hj:(i + (its.toArray.size:Int)).toNat=j:=by
   rw [seqIndex_neg (by omega) h4] at h1;rw [Z7,← hl];exact Zj h1
  exact subscriptTail_builtinR (x:=w) pl.isList.typeIs slot_list_getitem.lookup
   (wpAny_getItem_list_neg (Q:=fun r s'=>r=w∧EP X pins σ Q r s') pl.isList (by omega) (by rw [Z7] <;> omega) (by omega) (by rw [hj];simpa using ew) ⟨rfl,fin⟩) hs
theorem zBu:IxR X (rIxT X.K):=by
 intro value slice pins s σ H x y v u Q I rx ry h hs;obtain ⟨p,xs,i,z,rfl,rfl,hq,he,q⟩:=h;cases rx;obtain ⟨t,rfl⟩:=ry;obtain ⟨its,r,pl,hz⟩:=I.tuple hq;obtain ⟨j,h1,h2,h3,h4,h5⟩:=atI_get he;obtain ⟨w,ew,rw'⟩:=r.get h2;have hl:=r.length;have hn:=line63;have fin:EP X pins σ Q w s:=⟨z,H,I,rw',q⟩;exact subscriptTail_builtinR (x:=w) pl.typeIs slot_tuple_getitem.lookup
  (getItem_tuple (j:=j) (Q:=fun r s'=>r=w∧EP X pins σ Q r s') pl (by omega) (by omega) (by rw [Z7,← hl];exact h1) (by simpa using ew) ⟨rfl,fin⟩) hs
theorem ix_str:IxR X rIxS:=by
 intro value slice pins s σ H x y v u Q I rx ry h hs;obtain ⟨z,i,c,rfl,rfl,hz,he,q⟩:=h;obtain ⟨t,rfl⟩:=rx;obtain ⟨t',rfl⟩:=ry;obtain ⟨j,h1,h2,h3,h4,h5⟩:=atI_get he;have hl:z.cps.toList.length=z.length:=by simp [Str.length]
 rw [hl] at h1 h4 h5;have hn:=line63
 exact tail_any (typeIs_str s z t) slot_str_getitem.lookup (getItem_str (c:=c) (by
  have e1:decide (i < -(2 ^ 63:Int))=false:=decide_eq_false (by omega);have e2:decide (i ≥ 2 ^ 63)=false:=decide_eq_false (by omega)
  rw [e1,e2,Bool.or_false]) (by rw [h1];simpa using h2) ⟨.str ⟨#[c]⟩,H,I.tok _,⟨_,rfl⟩,q⟩) hs
theorem mapSeq_set (its:List Value) (n j:Nat) (u:Value):Obj.mapSeq (·.setIfInBounds j u) { cls:=.type "list",data:=.seq its.toArray n }={ cls:=.type "list",data:=.seq (its.set j u).toArray n }:=by
 simp [Obj.mapSeq]
theorem Inv.lst {pins:List (Addr×Obj)}{σ : St}{H:Hp}{s:Shared}{p:Addr}{xs:List V} (I:Inv X pins σ H s) (h:H p=some (.lst xs)) :
  ∃ (its:List Value) (n:Nat),Vals xs its∧s.heap.get? p=some { cls:=.type "list",data:=.seq its.toArray n }∧xs.length≤sizeLine:=by
 obtain ⟨z,its,n,r,e⟩:=I.hok p _ h;exact ⟨its,n,r,e,z⟩
theorem Inv.lstUpd {pins:List (Addr×Obj)}{σ : St}{H:Hp}{s:Shared}{p:Addr}{xs ys:List V}{its its':List Value}{n n':Nat}{f:Obj→Obj} (I:Inv X pins σ H s) (h:H p=some (.lst xs))
  (ho:s.heap.get? p=some { cls:=.type "list",data:=.seq its.toArray n }) (hf:f { cls:=.type "list",data:=.seq its.toArray n }={ cls:=.type "list",data:=.seq its'.toArray n' }) (r:Vals ys its') (hz:ys.length≤sizeLine) (t:Nat) :
  Inv X pins σ (upd H p (.lst ys)) { s with heap:=s.heap.update p f,toks:=t }:=by
 have e:(s.heap.update p f).get? p=some { cls:=.type "list",data:=.seq its'.toArray n' }:=by
  rw [Heap.get?_update_self f ho (by rw [hf] <;> rfl),hf]
 refine I.write (x:=p) (e:=p) (by rw [h];trivial) (.inl rfl) (fun b u hb q=>(Heap.get?_update_other _ _ (Ne.symm hb)).trans q) ⟨_,e⟩ ?_;exact ⟨hz,its',n',r,e⟩
noncomputable def rSetL:V→V→V→Hp→(Hp→Prop)→Prop:=fun o i v H Q=>∃ p xs k j,o=.ref p∧i=.int k∧H p=some (.lst xs)∧ixN xs.length k=some j∧Q (upd H p (.lst (xs.set j v)))
theorem set_list:PSet X rSetL:=by
 intro pins s σ H o i v ov iv u Q I ro ri rv h;obtain ⟨p,xs,k,j,rfl,rfl,hp,hj,q⟩:=h;cases ro;obtain ⟨t,rfl⟩:=ri;obtain ⟨its,n,r,ho,hz⟩:=I.lst hp;obtain ⟨h1,h2,h3,h4⟩:=ixN_seq hj;have hl:=r.length;have hn:=line63;have I':Inv X pins σ (upd H p (.lst (xs.set j v))) { s with heap:=s.heap.update p (Obj.mapSeq (·.setIfInBounds j u)) } :=
  I.lstUpd hp ho (mapSeq_set its n j u) (r.set rv j) (by rw [List.length_set];exact hz) s.toks
 by_cases h0:0≤k
 ·have hk:k.toNat=j:=by
   rw [seqIndex_of h0 h4] at h1;exact Zj h1
  exact PySem.W.ki_setAt ho h0 (by omega) (by rw [Z7,← hl];exact h4) (by rw [hk];exact ⟨_,I',q⟩)
 ·have hk:(k + (its.toArray.size:Int)).toNat=j:=by
   rw [seqIndex_neg (by omega) h3] at h1;rw [Z7,← hl];exact Zj h1
  exact PySem.W.ki_setBack ho (by omega) (by rw [Z7,← hl];exact h3) (by omega) (by rw [hk];exact ⟨_,I',q⟩)
theorem slice_bounds (lo hi:Option Int) (n:Nat):(sliceBounds lo hi none n).1=((HT.sIx n 0 lo:Nat):Int)∧(sliceBounds lo hi none n).2.1=((HT.sIx n n hi:Nat):Int)∧(sliceBounds lo hi none n).2.2=1:=by
 refine ⟨?_,?_,rfl⟩
 ·cases lo with
  | none=>simp [sliceBounds,HT.sIx]
  | some i =>
   simp only [sliceBounds,HT.sIx,Option.getD_none,show (1:Int) > 0 by decide,if_true];by_cases h:i < 0
   ·simp only [h,if_true] <;> omega
   ·simp only [h,if_false] <;> omega
 ·cases hi with
  | none=>simp [sliceBounds,HT.sIx]
  | some i =>
   simp only [sliceBounds,HT.sIx,Option.getD_none,show (1:Int) > 0 by decide,if_true];by_cases h:i < 0
   ·simp only [h,if_true] <;> omega
   ·simp only [h,if_false] <;> omega
theorem zEe (its:List Value) (lo hi:Option Int):slicePick its.toArray lo hi none=((its.drop (HT.sIx its.length 0 lo)).take (HT.sIx its.length its.length hi - HT.sIx its.length 0 lo)).toArray:=by
 obtain ⟨h1,h2,h3⟩:=slice_bounds lo hi its.toArray.size;unfold slicePick;rw [h1,h2,h3];simp only [sliceRange_one,pick_run,Z7] <;> rfl
noncomputable def rSlL (K:PySem.W.Frag):V→Option Int→Option Int→Hp→VK→Prop:=fun x lo hi H Q=>∃ a xs,x=.ref a∧SqL K H a xs∧∀ p,H p=none→Q (.ref p) (upd H p (.lst (cutV xs lo hi)))
theorem sl_list:SlR X (rSlL X.K):=by
 intro pins s σ H x v vl vu lo hi sl Q I rx hs pl pu h;obtain ⟨a,xs,rfl,hx,q⟩:=h;cases rx;obtain ⟨its,r,ht,hz⟩:=I.list hx;have hlen:=r.length;refine ⟨"list",_,slot_list_getitem.lookup,ht.isList.typeIs,?_⟩;refine wpAny_getItem_list_slice ht.isList hs pl pu .none (by simp) ?_ (by rw [Z7] <;> omega);rw [zEe,← hlen];refine ⟨.ref s.heap.objs.size,_,I.laid (t':=s.toks) (o:=.lst (cutV xs lo hi)) (fun b ob q=>Z2 _ q) (Zb _) ?_,rfl,q _ (I.hok.fresh (Zb _))⟩;exact ⟨Zk (cutV_length xs lo hi) hz,_,0,(r.drop (HT.sIx xs.length 0 lo)).take (HT.sIx xs.length xs.length hi - HT.sIx xs.length 0 lo),Zg _ rfl⟩
noncomputable def flatV:V→Bool
 | .non=>true
 | .bl _=>true
 | .int _=>true
 | .str _=>true
 | _=>false
noncomputable def eqV:V→V→Bool
 | .non,.non=>true
 | .bl a,.bl b=>a == b
 | .bl a,.int b=>(if a then 1 else 0) == b
 | .int a,.bl b=>a == (if b then 1 else 0)
 | .int a,.int b=>a == b
 | .str a,.str b=>a == b
 | _,_=>false
theorem eqAt_V {A:Around}{s:Shared}{y x:V}{u v:Value} (ry:RelV y u) (rx:RelV x v) (fy:flatV y=true) (fx:flatV x=true):SeqAt.EqAt A s u v (eqV y x):=by
 cases y with
 | non =>
  cases ry;cases x with
  | non=>cases rx;exact SeqAt.EqAt.same _
  | bl b=>cases rx;exact SeqAt.EqAt.none_bool b
  | int b=>obtain ⟨t,rfl⟩:=rx;exact SeqAt.EqAt.none_int b t
  | str b=>obtain ⟨t,rfl⟩:=rx;exact SeqAt.EqAt.none_str b t
  | _=>exact absurd (show false=true from fx) Zh
 | bl a =>
  cases ry;cases x with
  | non=>cases rx;exact SeqAt.EqAt.bool_none a
  | bl b=>cases rx;exact SeqAt.EqAt.bool_bool a b
  | int b=>obtain ⟨t,rfl⟩:=rx;exact SeqAt.EqAt.bool_int a b t
  | str b=>obtain ⟨t,rfl⟩:=rx;exact SeqAt.EqAt.bool_str a b t
  | _=>exact absurd (show false=true from fx) Zh
 | int a =>
  obtain ⟨t',rfl⟩:=ry;cases x with
  | non=>cases rx;exact SeqAt.EqAt.int_none a t'
  | bl b=>cases rx;exact SeqAt.EqAt.int_bool a t' b
  | int b=>obtain ⟨t,rfl⟩:=rx;exact SeqAt.EqAt.int_int a t' b t
  | str b=>obtain ⟨t,rfl⟩:=rx;exact SeqAt.EqAt.int_str a t' b t
  | _=>exact absurd (show false=true from fx) Zh
 | str a =>
  obtain ⟨t',rfl⟩:=ry;cases x with
  | non=>cases rx;exact SeqAt.EqAt.str_none a t'
  | bl b=>cases rx;exact SeqAt.EqAt.str_bool a t' b
  | int b=>obtain ⟨t,rfl⟩:=rx;exact SeqAt.EqAt.str_int a t' b t
  | str b=>obtain ⟨t,rfl⟩:=rx;exact SeqAt.EqAt.str_str a t' b t
  | _=>exact absurd (show false=true from fx) Zh
 | _=>exact absurd (show false=true from fy) Zh
noncomputable def eqU (x:V) (u:Value):Bool:=match u with
 | .none=>eqV .non x
 | .bool b=>eqV (.bl b) x
 | .int i _=>eqV (.int i) x
 | .str z _=>eqV (.str z) x
 | _=>false
theorem eqU_of {x y:V}{u:Value} (r:RelV y u) (f:flatV y=true):eqU x u=eqV y x:=by
 cases y with
 | non=>cases r;rfl
 | bl b=>cases r;rfl
 | int i=>obtain ⟨t,rfl⟩:=r;rfl
 | str z=>obtain ⟨t,rfl⟩:=r;rfl
 | _=>exact absurd (show false=true from f) Zh
theorem any_eqU {x:V}:∀ {xs:List V}{us:List Value},Vals xs us→xs.all flatV=true→us.any (eqU x)=xs.any fun y=>eqV y x
 | _,_,.nil,_=>rfl
 | y :: xs,u :: us,.cons r t,f=>by
  rw [Ye,Zu] at f;rw [Yl,Yl,eqU_of r f.1,any_eqU t f.2]
theorem zEw {A:Around}{s:Shared}{x:V}{v:Value} (rx:RelV x v) (fx:flatV x=true):∀ {xs:List V}{us:List Value},Vals xs us→xs.all flatV=true→∀ u∈us,SeqAt.EqAt A s u v (eqU x u)
 | _,_,.nil,_=>fun u hu=>by cases hu
 | y :: xs,u :: us,.cons r t,f=>fun u' hu=>by
  rw [Ye,Zu] at f;rcases List.mem_cons.mp hu with rfl | hu
  ·rw [eqU_of r f.1];exact eqAt_V r rx f.1 fx
  ·exact zEw rx fx t f.2 u' hu
noncomputable def inV (x:V) (xs:List V):Bool:=xs.any fun y=>eqV y x
noncomputable def rIn (K:PySem.W.Frag) (neg:Bool):R2:=fun x y H Q=>∃ p xs,y=.ref p∧(SqL K H p xs∨SqT K H p xs)∧flatV x=true∧xs.all flatV=true∧Q (.bl (if neg then !inV x xs else inV x xs)) H
theorem op_in_seq:OpR X (compareOp .In) (rIn X.K false):=by
 intro pins s σ H x y v u Q I rx ry h;obtain ⟨p,xs,rfl,hq,fx,fs,q⟩:=h;cases ry;rcases hq with hq | hq
 ·obtain ⟨its,r,pl,hz⟩:=I.list hq;refine SeqAt.in_listAt (eqU x) pl.isList (fun w hw=>zEw rx fx r fs w (by simpa using hw)) ⟨.bl _,H,I,rfl,?_⟩;rw [show its.toArray.any (eqU x)=its.any (eqU x) by simp,any_eqU r fs];exact q
 ·obtain ⟨its,r,pl,hz⟩:=I.tuple hq;refine SeqAt.in_tupleAt (eqU x) pl (fun w hw=>zEw rx fx r fs w (by simpa using hw)) ⟨.bl _,H,I,rfl,?_⟩;rw [show its.toArray.any (eqU x)=its.any (eqU x) by simp,any_eqU r fs];exact q
theorem zAq:CallR X (.builtin "len") (fun xs H Q=>∃ p ys,xs=[.ref p]∧(SqL X.K H p ys∨SqT X.K H p ys)∧Q (.int ys.length) H):=by
 intro pins s σ H xs us Q I r h;obtain ⟨p,ys,rfl,hq,q⟩:=h;obtain ⟨u,rfl,rx⟩:=vals1 r;cases rx;have hn:=line63;rcases hq with hq | hq
 ·obtain ⟨its,r',pl,hz⟩:=I.list hq;have hlen:=r'.length;exact Calls.call_len_list pl.isList (by simp only [Z7] <;> omega) ⟨.int ys.length,H,I.tok _,⟨s.toks + 1,by rw [Z7,hlen]⟩,q⟩
 ·obtain ⟨its,r',pl,hz⟩:=I.tuple hq;have hlen:=r'.length;exact len_tuple pl (by simp only [Z7] <;> omega) ⟨.int ys.length,H,I.tok _,⟨s.toks + 1,by rw [Z7,hlen]⟩,q⟩
theorem call_len_str:CallR X (.builtin "len") (fun xs H Q=>∃ z,xs=[.str z]∧z.length≤sizeLine∧Q (.int z.length) H):=by
 intro pins s σ H xs us Q I r h;obtain ⟨z,rfl,hz,q⟩:=h;obtain ⟨u,rfl,t,rfl⟩:=vals1 r;have hn:=line63;exact len_str (by omega) ⟨.int z.length,H,I.tok _,⟨_,rfl⟩,q⟩
theorem zCt:CallR X (.type "list") (fun xs H Q=>∃ p ys,xs=[.ref p]∧(SqL X.K H p ys∨SqT X.K H p ys)∧∀ l,H l=none→Q (.ref l) (upd H l (.lst ys))):=by
 intro pins s σ H xs us Q I r h;obtain ⟨p,ys,rfl,hq,q⟩:=h;obtain ⟨u,rfl,rx⟩:=vals1 r;cases rx
 have fin:∀ (its:List Value),Vals ys its→ys.length≤sizeLine→∀ (h':Heap) (c':Nat),(∀ b o',s.heap.get? b=some o'→h'.get? b=some o') →
   h'.get? s.heap.objs.size=some { cls:=.type "list",dict:=none,data:=.seq its.toArray c',slots:=#[] }→EP X pins σ Q (.ref s.heap.objs.size) { s with heap:=h' }:=fun its r' hz h' c' kp e =>
  ⟨.ref s.heap.objs.size,_,I.laid (t':=s.toks) kp (Zb _) (show ObjOk X.prog X.w _ h' _ (.lst ys) from ⟨hz,its,c',r',e⟩),rfl,q _ (I.hok.fresh (Zb _))⟩
 rcases hq with hq | hq
 ·obtain ⟨its,r',pl,hz⟩:=I.list hq;have hlen:=r'.length;obtain ⟨o,ho,hc,n,hd⟩:=pl.isList;exact call_list_seq p (.inl rfl) ho hc hd (fun h' c' kp e=>fin its r' hz h' c' kp e) (by simp only [Z7] <;> omega)
 ·obtain ⟨its,r',pl,hz⟩:=I.tuple hq;have hlen:=r'.length;obtain ⟨o,ho,hc,n,hd⟩:=pl;exact call_list_seq p (.inr rfl) ho hc hd (fun h' c' kp e=>fin its r' hz h' c' kp e) (by simp only [Z7] <;> omega)
noncomputable def tyV (K:PySem.W.Frag) (T:String) (x:V) (H:Hp):Prop:=match x with
 | .str _=>T = "str"
 | .int _=>T = "int"
 | .ref p=>(T = "list"∧∃ xs,SqL K H p xs)∨(T = "tuple"∧∃ o,K.lookup p=some o∧o.cls=.type "tuple"∧o.dict=none) ∨
   (T = "dict"∧((∃ kvs,H p=some (.dK kvs))∨∃ kvs,H p=some (.dT kvs)))∨(T = "set"∧∃ S n,H p=some (.set S n))
 | _=>False
theorem tyV_is {pins:List (Addr×Obj)}{σ : St}{H:Hp}{s:Shared}{T:String}{x:V}{v:Value} (I:Inv X pins σ H s) (r:RelV x v) (ty:tyV X.K T x H) :
  s.TypeIs v T∧∀ a,v=.ref a→∃ ob,s.heap.get? a=some ob∧ob.dict=none:=by
 cases x with
 | str z =>
  obtain ⟨t,rfl⟩:=r;cases (show T = "str" from ty);exact ⟨typeIs_str s z t,fun _ e=>nomatch e⟩
 | int i =>
  obtain ⟨t,rfl⟩:=r;cases (show T = "int" from ty);exact ⟨typeIs_int s i t,fun _ e=>nomatch e⟩
 | ref p =>
  cases r;rcases ty with ⟨rfl,xs,hq⟩ | ⟨rfl,o,hk,hc,hd⟩ | ⟨rfl,hk⟩ | ⟨rfl,S,n,hk⟩
  ·obtain ⟨its,_,pl,_⟩:=I.list hq;refine ⟨pl.isList.typeIs,fun a e=>?_⟩;cases e;obtain ⟨o,n,e,c,hd,_⟩:=pl;exact ⟨o,e,hd⟩
  ·refine ⟨⟨o,I.kIn p o hk,hc⟩,fun a e=>?_⟩;cases e;exact ⟨o,I.kIn _ o hk,hd⟩
  ·have z:∃ o,s.heap.get? p=some o∧o.ExactDict:=by
    rcases hk with ⟨kvs,hk⟩ | ⟨kvs,hk⟩
    ·obtain ⟨_,_,_,_,o,_,_,e,ex,_⟩:=I.hok p _ hk;exact ⟨o,e,ex⟩
    ·obtain ⟨_,_,_,_,o,_,_,e,ex,_⟩:=I.hok p _ hk;exact ⟨o,e,ex⟩
   obtain ⟨o,e,ex⟩:=z;refine ⟨⟨o,e,ex.1⟩,fun a e2=>?_⟩;cases e2;exact ⟨o,e,ex.2.1⟩
  ·obtain ⟨o,_,_,_,e,ex,_⟩:=I.hok p _ hk;refine ⟨⟨o,e,ex.1⟩,fun a e2=>?_⟩;cases e2;exact ⟨o,e,ex.2.1⟩
 | _=>exact False.elim ty
noncomputable def tBM (K:PySem.W.Frag) (T:String) (r:V→List V→Hp→VK→Prop) (to:TE) (t:TA):TE:=fun σ H Q=>to σ H fun x H1=>tyV K T x H1∧t σ H1 fun xs H2=>r x xs H2 Q
variable {o e:Expr}{es:List Expr}{to:TE}{t:TA}{name:Str}{apos cpos:Pos}{T id:String}{r:V→List V→Hp→VK→Prop}
theorem zCv (pa:PlainAttrs T) (slot:Slot T name id) (hty:typeOf (.builtin id)=pure (.type "method_descriptor")) (hm:MtR X id r) (ho:PE X o to) (ha:PA X (e :: es) t)
  (hbase:attributeBase o name X.env (eval o X.env)=eval o X.env:=by rfl)
  (hfew:((backTo cpos (starEach (e :: es) X.env)).all (fun x=>!x.1) && (backToKw cpos (keywordEach [] X.env)).all (fun x=>x.1.isSome)
   && decide ((e :: es).length + ([]:List Keyword).length + (if ([]:List Keyword).isEmpty then 0 else 1) < 30))=true:=by rfl)
  (hline:(apos.endLine == cpos.line)=true:=by rfl) (hs:starEach (e :: es) X.env=(false,eval e X.env) :: starEach es X.env:=by rfl) (hplain:(backTo cpos (starEach es X.env)).any (·.1)=false:=by rfl) :
  PE X (.Call (.Attribute o name apos) (e :: es) [] cpos) (tBM X.K T r to t):=by
 intro pins s σ H Q I h;refine wpAny_Call_method_late hbase hfew hline rfl (thn (ho pins s σ H _ I h) fun v s1 ⟨x,H1,I1,r1,ty,q1⟩=>?_);obtain ⟨h1,h2⟩:=tyV_is I1 r1 ty;refine ⟨T,id,pa,slot,hty,h1,h2,?_⟩;have hA:=ha cpos pins s1 σ H1 _ I1 q1;rw [hs] at hA ⊢;refine Calls.callWith_builtin (by show (false || (backTo cpos (starEach es X.env)).any (·.1))=false;rw [hplain] <;> rfl) (Calls.evalArgs_plain ?_);exact thn hA fun us s2 ⟨vs,H2,I2,r2,q2⟩=>hm pins s2 σ H2 x vs v us Q I2 r1 r2 q2
end
end L2
namespace L2
open PySem PySem.Spec PyProof.Rows
noncomputable def MtM (X:Cx) (id:String) (r:V→List V→Hp→VK→Prop):Prop :=
 ∀ (pins:List (Addr×Obj)) (s:Shared) (σ : St) (H:Hp) (x:V) (xs:List V) (v:Value) (us:List Value) (Q:VK),Inv X pins σ H s→RelV x v→Vals xs us→r x xs H Q →
  wpAny (model X.prog X.w) X.A (call (.builtin id) (v :: us)) (EP X pins σ Q) X.xe s
theorem Vals.one:∀ {x:V}{us:List Value},Vals [x] us→∃ u,us=[u]∧RelV x u
 | _,_,.cons r .nil=>⟨_,rfl,r⟩
theorem Vals.two:∀ {x y:V}{us:List Value},Vals [x,y] us→∃ u v,us=[u,v]∧RelV x u∧RelV y v
 | _,_,_,.cons r (.cons q .nil)=>⟨_,_,rfl,r,q⟩
theorem Vals.dropLast {xs:List V}{us:List Value} (h:Vals xs us):Vals xs.dropLast us.dropLast:=by
 induction h with
 | nil=>exact .nil
 | cons r t ih =>
  cases t with
  | nil=>exact .nil
  | cons q t'=>exact .cons r ih
theorem Vals.eraseIdx:∀ {xs:List V}{us:List Value} (i:Nat),Vals xs us→Vals (xs.eraseIdx i) (us.eraseIdx i)
 | _,_,_,.nil=>.nil
 | _,_,0,.cons _ t=>t
 | _,_,i + 1,.cons r t=>.cons r (Vals.eraseIdx i t)
theorem erase_last {α : Type} (l:List α):l.eraseIdx (l.length - 1)=l.dropLast:=by
 induction l with
 | nil=>rfl
 | cons a r ih =>
  cases r with
  | nil=>rfl
  | cons b r =>
   have e:(a :: b :: r).length - 1=((b :: r).length - 1) + 1:=by
    have h1:(a :: b :: r).length=r.length + 2:=rfl;have h2:(b :: r).length=r.length + 1:=rfl;omega
   rw [e,List.eraseIdx_cons_succ,ih]
   all_goals rfl
section
variable {X:Cx}{pins:List (Addr×Obj)}{σ : St}{H:Hp}{s:Shared}{l b:Addr}{xs ys zs:List V}
theorem Inv.lset {its its':List Value}{n:Nat}{f:Array Value→Array Value}{t':Nat} (I:Inv X pins σ H s) (hH:H l=some (.lst xs))
  (e:s.heap.get? l=some { cls:=.type "list",data:=.seq its.toArray n }) (hf:f its.toArray=its'.toArray) (hv:Vals ys its') (hz:ys.length≤sizeLine) :
  Inv X pins σ (upd H l (.lst ys)) { s with heap:=s.heap.update l (Obj.mapSeq f),toks:=t' }:=by
 have q:=PySem.IsL.update e f;rw [hf] at q;refine I.write (x:=l) (e:=l) (by rw [hH];exact trivial) (.inl rfl) (fun b' u hb hu=>(Heap.get?_update_other s.heap (Obj.mapSeq f) (Ne.symm hb)).trans hu) ⟨_,q⟩ ?_;exact ⟨hz,its',_,hv,q⟩
theorem Inv.lnew {its:List Value}{t':Nat} (I:Inv X pins σ H s) (hv:Vals ys its) (hz:ys.length≤sizeLine) :
  Inv X pins σ (upd H s.heap.objs.size (.lst ys)) { s with heap:=s.heap.push { cls:=.type "list",data:=.seq its.toArray },toks:=t' } :=
 I.laid (fun _ _ q=>Z2 _ q) (Zb _) ⟨hz,its,0,hv,Zg _ rfl⟩
theorem Inv.fresh (I:Inv X pins σ H s):H s.heap.objs.size=none:=I.hok.fresh (Zb _)
theorem Inv.lstM (I:Inv X pins σ H s) (hH:H l=some (.lst xs)):xs.length≤sizeLine∧∃ (its:List Value) (n:Nat),Vals xs its∧xs.length=its.length∧s.heap.get? l=some { cls:=.type "list",data:=.seq its.toArray n }:=by
 obtain ⟨z,its,n,r,e⟩:=I.hok l _ hH;exact ⟨z,its,n,r,r.length,e⟩
theorem notLongL {n:Nat} (h:n≤sizeLine):Builtin.List.listTooLong n=false:=by
 unfold Builtin.List.listTooLong;exact decide_eq_false (by omega)
end
section
variable {X:Cx}
noncomputable def rAppend:V→List V→Hp→VK→Prop:=fun x vs H Q=>∃ l xs y,x=.ref l∧vs=[y]∧H l=some (.lst xs)∧xs.length < sizeLine∧Q .non (upd H l (.lst (xs++[y])))
theorem zBi:MtM X "list.append" rAppend:=by
 intro pins s σ H x vs v us Q I rx rv h;obtain ⟨l,xs,y,rfl,rfl,hH,hz,q⟩:=h;cases rx;obtain ⟨u,rfl,ru⟩:=rv.one;obtain ⟨z,its,n,r,hl,e⟩:=I.lstM hH;refine call_meets F.slot_list_append ⟨_,e,rfl⟩ F.entry_list_append (F.args_list_append_2 _ _) (PySem.list_append l its.toArray n u (by rw [Z7];omega)) ⟨e,?_⟩;refine ⟨.non,_,I.lset (its':=its++[u]) hH e (by simp) (r.append (.cons ru .nil)) ?_,rfl,q⟩;rw [Z8,List.length_singleton];omega
noncomputable def rExtend:V→List V→Hp→VK→Prop:=fun x vs H Q=>∃ l b xs zs,x=.ref l∧vs=[.ref b]∧H l=some (.lst xs)∧H b=some (.lst zs)∧xs.length + zs.length≤sizeLine∧Q .non (upd H l (.lst (xs++zs)))
theorem zCa:MtM X "list.extend" rExtend:=by
 intro pins s σ H x vs v us Q I rx rv h;obtain ⟨l,b,xs,zs,rfl,rfl,hH,hB,hz,q⟩:=h;cases rx;obtain ⟨u,rfl,ru⟩:=rv.one;cases ru;obtain ⟨z,its,n,r,hl,e⟩:=I.lstM hH;obtain ⟨z2,its2,n2,r2,hl2,e2⟩:=I.lstM hB;have hsz:its.toArray.size + its2.toArray.size≤sizeLine:=by rw [Z7,Z7];omega
 have hlong:¬ (!its.toArray.isEmpty && Builtin.List.listTooLong (its.toArray.size + its2.toArray.size))=true:=by
  rw [notLongL hsz,Bool.and_false];exact Zh
 refine call_meets F.slot_list_extend ⟨_,e,rfl⟩ F.entry_list_extend (F.args_list_extend_2 _ _)
  (AutoSeq1.list_extend_list_list_0 l its.toArray n b its2.toArray n2 hlong (by rw [Z7];omega) (by omega)) ⟨e,e2,?_⟩
 refine ⟨.non,_,I.lset (its':=its++its2) hH e (by simp) (r.append r2) ?_,rfl,q⟩;rw [Z8];omega
noncomputable def rCat:R2:=fun x y H Q=>∃ l b xs zs,x=.ref l∧y=.ref b∧H l=some (.lst xs)∧H b=some (.lst zs)∧xs.length + zs.length≤sizeLine∧∀ p,H p=none→Q (.ref p) (upd H p (.lst (xs++zs)))
theorem zBz:OpR X (binaryOp .Add) rCat:=by
 intro pins s σ H x y v u Q I rx ry h;obtain ⟨l,b,xs,zs,rfl,rfl,hH,hB,hz,q⟩:=h;cases rx;cases ry;obtain ⟨z,its,n,r,hl,e⟩:=I.lstM hH;obtain ⟨z2,its2,n2,r2,hl2,e2⟩:=I.lstM hB;refine PySem.P.add_list e e2 ?_ (by rw [Z7,Z7];omega);have ea:its.toArray++its2.toArray=(its++its2).toArray:=by simp
 rw [ea];exact ⟨.ref _,_,I.lnew (t':=s.toks) (r.append r2) (by rw [Z8];omega),rfl,q _ I.fresh⟩
end
section
variable {prog:Program}{w:World}{A:Around}{E:Value→Shared→Prop}{s:Shared}
set_option maxRecDepth 100000 in
end
section
variable {X:Cx}
end
end L2
namespace Att
open PySem PySem.W PySem.Calls PyProof.Rows
theorem zDk {P:Params}{h:Heap}:∀ (ns:List Int) (vs:List Value),WellAll P h vs (ns.map WData.int)→IntsAre vs ns:=by
 intro ns
 induction ns with
 | nil =>
  intro vs w;rw [List.map_nil] at w;cases w;exact .nil
 | cons n ns ih =>
  intro vs w;rw [Zr] at w;cases w with
  | cons a b =>
   cases a;exact .cons _ _ (ih _ b)
theorem script_of {l:OpenLaw}{n:Nat} (hn:l.most=some n) {P:Params}{h:Heap}{args:List WData}{vals:List Value}
  (hpre:l.row.toRowW.claim.pre args=true) (hwl:WellAll P h vals args) :
  ∃ a vs ns,vals=[Value.ref a]∧args=[WData.list (ns.map WData.int)]∧h.get? a=some { cls:=.type "list",data:=.seq vs.toArray }∧IntsAre vs ns∧ns.length≤n:=by
 have hsh:WShape.hasAll [] args [.list .int]=true:=(pre_splitW hpre).1;have hc:l.pre.holds [] { args:=args }=true:=(pre_splitW hpre).2;obtain ⟨d,r,rfl,h1,h2⟩:=hasAllW_cons hsh;obtain rfl:=hasAllW_nil h2;obtain ⟨xs,rfl,h3⟩:=hasW_list h1;obtain ⟨ns,rfl⟩:=items_int h3;have hlen:ns.length≤n:=by
  unfold OpenLaw.pre at hc;have h4:(WTm.not (.lt (.lit (.int (n:Int))) (.len (.arg 0)))).holds [] { args:=[.list (ns.map .int)] }=true:=by
   have h4:=(holds_andW hc).1;rw [hn] at h4;exact h4
  have h5:=condW_of h4 (w_not (w_lt w_lit (w_len_list (w_arg rfl))));rw [Z0] at h5;refine Nat.le_of_not_lt fun q=>?_;have q':(n:Int) < ((ns.length:Nat):Int):=by omega
  first
   | (rw [decide_eq_true q'] at h5;exact absurd h5 (by decide))
   | (simp at h5;omega)
 cases hwl with
 | cons w1 w2 =>
  cases w2;cases w1 with
  | list ho hall=>exact ⟨_,_,ns,rfl,rfl,ho,zDk ns _ hall,hlen⟩
theorem post_true (l:OpenLaw) (args:List WData):l.row.toRowW.claim.post args (.bool true) args=true :=
 postW_of (r:=l.row.toRowW) (X:=(true == true))
  (show WShape.has [] (.bool true) .bool=true by first | rfl | decide | simp [WShape.has,WShape.arms,WShape.armsAll])
  (show (WTm.eq .res (.lit (.bool true))).value [] { args:=args,res:=some (.bool true),after:=args }=some (.bool (true == true)) from w_eq_bool (w_res rfl) w_lit) rfl
theorem attach_call {l:OpenLaw}{n:Nat}{q:Program}{loose:List Str}{XP:(Str→Option Value)→Heap→Prop}{YP:World→Heap→Prop}{d:DefRec}
  (hn:l.most=some n) (hdf:d.params.defaults=[])
  (call:∀ (w:World) (s₀ s₁ : Shared) (mg mb:Str→Option Value) (fa:Addr) (o:Obj) (pm cd doc:Value) (a:Addr) (vs:List Value) (ns:List Int),
   Ground q loose [] XP w s₀ mg mb s₁.heap→YP w s₁.heap →
   s₁.heap.get? fa=some o→o.data=.func (docDef d.name d.params d.body d.scope pm cd doc)→s₁.heap.CodeRec cd d.name→mg d.name=some (.ref fa) →
   s₁.heap.get? a=some { cls:=.type "list",data:=.seq vs.toArray }→IntsAre vs ns→ns.length≤n→s₁.gens = #[] →
   codeAny (model l.prog w) callerA (.call (.ref fa) ⟨[.ref a],[]⟩) (fun r s'=>r=.ok (.ret (.bool true))∧OldK s₁.heap s'.heap∧s'.os=s₁.os∧AllBare s'.gens) s₁) :
  WalkO q loose XP YP l.row.toRowW d [] (fun f vs=>PySem.call f vs):=by
 intro w s₀ s₁ mg mb G Y fa o pm cd doc dV kV ho hd hcd hD hmg hg args vals as hpre hlay hrd hwl hlo;obtain rfl:dV=.none:=Dflts.none hD hdf;obtain rfl:kV=.none:=Dflts.noKw hD;obtain ⟨a,vs,ns,rfl,rfl,hobj,hints,hlen⟩:=script_of hn hpre hwl;refine enter_call (codeAny_mono (call w s₀ s₁ mg mb fa o pm cd doc a vs ns G Y ho (fd_plain hd) hcd hmg hobj hints hlen hg) fun r s' hq=>?_);obtain ⟨rfl,h2,h3,h4⟩:=hq;exact ⟨.inl ⟨.bool true,.bool true,[],rfl,fun _=>rfl,.bool true,post_true l _,fun _=>⟨List.Pairwise.nil,fun _ hm=>(nomatch hm)⟩⟩,h2,h3,h4⟩
section
variable {prog:Program}{w:World}{A:Around}{E:Value→Shared→Prop}{s:Shared}{K:Frag}
noncomputable def ledger (h:Heap) (L d:Addr):List (Addr×Obj):=(List.range h.objs.size).filterMap fun a=>if a=L∨a=d then none else (h.get? a).map fun o=>(a,o)
end
end Att
namespace L2
open PySem PySem.Spec PyProof.Rows
theorem zD2:∀ {vs:List Value}{ns:List Int},IntsAre vs ns→Vals (ns.map V.int) vs
 | _,_,.nil=>.nil
 | _,_,.cons n t h=>.cons ⟨t,rfl⟩ (zD2 h)
end L2
namespace L2
open PySem PySem.Spec PyProof.Rows
noncomputable abbrev KOf {K:PySem.W.Frag}{h:Heap} (_:K.In h):PySem.W.Frag:=K
end L2
namespace L2
open PySem PySem.Spec PyProof.Rows
noncomputable def inClass (s:Stmt) (j:Nat):Stmt:=match s with
 | .ClassDef _ _ _ body _ _ _ _ _ _ _=>body.getD j (.Pass ⟨0,0,0,0⟩)
 | _=>.Pass ⟨0,0,0,0⟩
noncomputable def defArgs (s:Stmt):Arguments:=match s with
 | .FunctionDef _ a _ _ _ _ _ _ _ _=>a
 | _=>{ posonlyargs:=[],args:=[],vararg:=none,kwonlyargs:=[],kw_defaults:=[],kwarg:=none,defaults:=[] }
noncomputable def defBody (s:Stmt):List Stmt:=match s with
 | .FunctionDef _ _ b _ _ _ _ _ _ _=>b
 | _=>[]
noncomputable def defScope (s:Stmt):Scope:=match s with
 | .FunctionDef _ _ _ _ _ _ sc _ _ _=>sc
 | _=>{ kind:=.function,names:=[],isGenerator:=false,isCoroutine:=false }
noncomputable abbrev CX0:CXT:=fun _ _ _ _ _ _=>False
noncomputable abbrev E0:St→XK:=fun _ _ _ _=>False
structure Fun (K:PySem.W.Frag) (x qual:Str) (st:Stmt) (f:Addr) (fd:FuncData):Prop where
 ex:∃ (oc:Value) (od:Option Addr) (kV doc pm:Value) (an:Option Addr) (cdv ct:Value) (osl:Array (Option Value)),
  fd=PySem.W.fnOf x qual (defArgs st) (defBody st) (defScope st) .none kV doc pm an cdv ct∧K.lookup f=some ⟨oc,od,.func fd,osl⟩∧PySem.W.codeIn K cdv qual=true
 kp:PySem.W.keepIn K (.ref f)=true
section
variable {P:Program}{w:World}{K:PySem.W.Frag}{mg:Str→Option Value}{base:Heap}
theorem Fun.ok {x qual:Str}{st:Stmt}{f:Addr}{fd:FuncData}{N ps:List Str}{k:Nat}{sp:Sp} (F:Fun K x qual st f fd) (S:FnScope N ps (defScope st)) (len:∀ vs H Q E,sp vs H Q E→vs.length=ps.length)
  (hbody:∀ (cdv:Value) (A:Around) (outer:List Env) (s:Shared) (H:Hp) (vs:List V) (Q:VK) (E:XK),Room k (A.deeper (envOfC qual (defScope st) s.heap.objs.size f cdv))→sp vs H Q E →
   ∃ t,PSs (cxOf CX0 P w K mg base N qual (defScope st) f cdv A outer s H E).nox (defBody st) t∧t { nx:=fun _ H'=>Q .non H',rt:=Q } (start N vs) H):FnOk P w K mg base CX0 (k + 1) f fd ps sp:=by
 obtain ⟨oc,od,kV,doc,pm,an,cdv,ct,osl,rfl,lk,hcd⟩:=F.ex;refine fn_of lk hcd S len fun A outer s H vs Q E hr hsp=>?_;obtain ⟨t,h,q⟩:=hbody cdv A outer s H vs Q E hr hsp;exact ⟨t,h.nox,q⟩
theorem Fun.binds {x qual:Str}{st:Stmt}{f:Addr}{fd:FuncData}{ps:List Str} (F:Fun K x qual st f fd)
  (h:∀ (kV doc pm:Value) (an:Option Addr) (cdv ct:Value) (us:List Value),us.length=ps.length→bindArgs (PySem.W.fnOf x qual (defArgs st) (defBody st) (defScope st) .none kV doc pm an cdv ct) ⟨us,[]⟩=pure (ps.zip us)):Binds K fd ps []:=by
 obtain ⟨oc,od,kV,doc,pm,an,cdv,ct,osl,rfl,lk,hcd⟩:=F.ex;exact .all (h kV doc pm an cdv ct)
theorem fun_mk {x qual:Str}{st:Stmt}{f:Addr}{oc:Value}{od an:Option Addr}{osl:Array (Option Value)}{kV doc pm cdv ct:Value} (l:K.lookup f=some ⟨oc,od,.func (PySem.W.fnOf x qual (defArgs st) (defBody st) (defScope st) .none kV doc pm an cdv ct),osl⟩)
  (c:PySem.W.codeIn K cdv qual=true) (k:PySem.W.keepIn K (.ref f)=true):Fun K x qual st f (PySem.W.fnOf x qual (defArgs st) (defBody st) (defScope st) .none kV doc pm an cdv ct):=⟨⟨oc,od,kV,doc,pm,an,cdv,ct,osl,rfl,l,c⟩,k⟩
end
theorem hu_of {A:Around}{k:Nat} (hr:Room k A):A.units + 1 < cLine:=Yg (Nat.add_le_add_left (by decide:1≤64) _) hr.units
theorem small1000 {n:Nat} (h:n≤1000):n < sizeLine:=Yg h (by decide)
section
variable {X:Cx}
theorem pv (i:Nat) {x:Str}{pos:Pos} (hN:X.N[i]? = some x:=by rfl) (hv:Vis X.env.scope x:=by first | exact Or.inl rfl | exact Or.inr (Or.inl rfl) | exact Or.inr (Or.inr rfl)) (hd:(x == ("__debug__" : Str))=false:=by decide)
  (hcd:(x == ("__classdict__" : Str))=false:=by decide):PE X (.Name x pos) (tVar i):=pe_var hN hv hd hcd
end
theorem iteF {A B:Prop} (h:B):if false=true then A else B:=by
 rw [if_neg Zh];exact h
theorem iteT {A B:Prop} (h:A):if true=true then A else B:=by
 rw [if_pos rfl];exact h
theorem ite2 {c A B:Prop} [Decidable c] (h1:c→A) (h2:¬ c→B):if c then A else B:=by
 by_cases h:c
 ·rw [if_pos h];exact h1 h
 ·rw [if_neg h];exact h2 h
noncomputable def Same (H H':Hp):Prop:=∀ b o,H b=some o→H' b=some o
theorem Same.refl (H:Hp):Same H H:=fun _ _ h=>h
theorem Same.trans {H H1 H2:Hp} (a:Same H H1) (b:Same H1 H2):Same H H2:=fun c o h=>b c o (a c o h)
theorem Same.free {H H':Hp} (e:Same H H') {l:Addr} (h:H' l=Option.none):H l=Option.none:=by
 cases q:H l with
 | none=>rfl
 | some o =>
  rw [e l o q] at h;cases h
end L2
namespace L2
open PySem PySem.Spec PyProof.Rows
section
variable {κ : Type} [DecidableEq κ]
noncomputable def valV (kvs:List (κ×V)) (k : κ):Option V:=(kvs.find? fun kv=>decide (kv.1=k)).map (·.2)
noncomputable def putK (kvs:List (κ×V)) (k : κ) (v:V):List (κ×V) :=
 if (kvs.any fun kv=>decide (kv.1=k))=true then kvs.map (fun kv=>if kv.1=k then (kv.1,v) else kv) else kvs++[(k,v)]
theorem zC5 {p : κ×V}{r:List (κ×V)}{k : κ} (e:p.1=k):valV (p :: r) k=some p.2:=by simp [valV,Y8,e]
theorem zC6 {p : κ×V}{r:List (κ×V)}{k : κ} (e:¬ p.1=k):valV (p :: r) k=valV r k:=by simp [valV,Y8,e]
theorem zEa (k : κ):∀ kvs:List (κ×V),(kvs.any fun kv=>decide (kv.1=k))=(valV kvs k).isSome
 | []=>rfl
 | p :: r=>by
  rw [Yl];by_cases e:p.1=k
  ·simp only [zC5 e,decide_eq_true e,Bool.true_or,Option.isSome_some]
  ·rw [zC6 e,decide_eq_false e,Bool.false_or];exact zEa k r
theorem zDg (kvs:List (κ×V)) (k : κ) (v:V):(putK kvs k v).length≤kvs.length + 1:=by
 unfold putK;split
 ·rw [Z0];omega
 ·rw [Z8,Zi,Yf];omega
theorem RelO.isSome_eq {o:Option V}{u:Option Value} (r:RelO o u):o.isSome=u.isSome:=by
 cases o with
 | none=>cases u with
  | none=>rfl
  | some _=>exact (show False from r).elim
 | some _=>cases u with
  | none=>exact (show False from r).elim
  | some _=>rfl
theorem RelO.getD {o:Option V}{u:Option Value}{d:V}{d':Value} (r:RelO o u) (rd:RelV d d'):RelV (o.getD d) (u.getD d'):=by
 cases o with
 | none=>cases u with
  | none=>exact rd
  | some _=>exact (show False from r).elim
 | some _=>cases u with
  | none=>exact (show False from r).elim
  | some _=>exact r
theorem KV.val {kvs:List (κ×V)}{vs:List (κ×Value)} (r:KV kvs vs) (k : κ):RelO (valV kvs k) (valueAt vs k):=by
 unfold KV at r
 induction r with
 | nil=>exact True.intro
 | @cons p q ps qs h t ih =>
  obtain ⟨h1,h2⟩:=h;by_cases e:p.1=k
  ·have e':q.1=k:=h1.symm.trans e;have b:valueAt (q :: qs) k=some q.2:=by simp [valueAt,Y8,e']
   rw [zC5 e,b];exact h2
  ·have e':¬ q.1=k:=fun z=>e (h1.trans z);have b:valueAt (q :: qs) k=valueAt qs k:=by simp [valueAt,Y8,e']
   rw [zC6 e,b];exact ih
theorem KV.any {kvs:List (κ×V)}{vs:List (κ×Value)} (r:KV kvs vs) (k : κ):(kvs.any fun kv=>decide (kv.1=k))=vs.any fun kv=>decide (kv.1=k):=by
 unfold KV at r
 induction r with
 | nil=>rfl
 | cons h t ih=>rw [Yl,Yl,ih,h.1]
theorem KV.repl {kvs:List (κ×V)}{vs:List (κ×Value)} (r:KV kvs vs) (k : κ) {y:V}{u:Value} (ry:RelV y u) :
  KV (kvs.map fun kv=>if kv.1=k then (kv.1,y) else kv) (vs.map fun kv=>if kv.1=k then (kv.1,u) else kv):=by
 unfold KV at r ⊢
 induction r with
 | nil=>exact .nil
 | @cons p q ps qs h t ih =>
  rw [Zr,Zr];refine .cons ?_ ih;obtain ⟨h1,h2⟩:=h;by_cases e:p.1=k
  ·rw [if_pos e,if_pos (h1.symm.trans e)];exact ⟨h1,ry⟩
  ·rw [if_neg e,if_neg (fun z=>e (h1.trans z))];exact ⟨h1,h2⟩
theorem KV.put {kvs:List (κ×V)}{vs:List (κ×Value)} (r:KV kvs vs) (k : κ) {y:V}{u:Value} (ry:RelV y u):KV (putK kvs k y) (stored vs k u):=by
 unfold putK stored;rw [r.any k];by_cases e:(vs.any fun kv=>decide (kv.1=k))=true
 ·rw [if_pos e,if_pos e];exact r.repl k ry
 ·rw [if_neg e,if_neg e];exact Paired.snoc r ⟨rfl,ry⟩
theorem KV.length {kvs:List (κ×V)}{vs:List (κ×Value)} (r:KV kvs vs):kvs.length=vs.length:=Paired.length r
end
theorem kV_is {P:Program}{w:World}{k:Key}{u:Value} (r:RelV (kV k) u):(mixKind P w).is k u=true:=by
 cases k with
 | inl i=>obtain ⟨t,e⟩:=(show ∃ t,u=Value.int i t from r);subst e;exact mixKind_int P w i t
 | inr x=>obtain ⟨t,e⟩:=(show ∃ t,u=Value.str x t from r);subst e;exact mixKind_str P w x t
theorem items_are {P:Program}{w:World}:∀ {ks:List Key}{us:List Value},Vals (ks.map kV) us→ItemsAre (mixKind P w) ks us
 | [],_,r=>by rw [List.map_nil] at r;cases r;exact .nil
 | k :: ks,_,r=>by
  rw [Zr] at r;cases r with
  | cons h t=>exact .cons (kV_is h) (items_are t)
noncomputable abbrev KT (H:Hp):List (List Key×V)→List (List Key×Addr×Value)→Prop:=Paired fun p q=>p.1=q.1∧H q.2.1=some (.tup (p.1.map kV))∧RelV p.2 q.2.2
theorem KT.val {H:Hp}{kvs:List (List Key×V)}{xs:List (List Key×Addr×Value)} (r:KT H kvs xs) (k:List Key):RelO (valV kvs k) ((atKey xs k).map (·.2)):=by
 induction r with
 | nil=>exact True.intro
 | @cons p q ps qs h t ih =>
  obtain ⟨h1,_,h2⟩:=h;by_cases e:p.1=k
  ·have e':q.1=k:=h1.symm.trans e;have b:atKey (q :: qs) k=some q.2:=by simp [atKey,Y8,e']
   rw [zC5 e,b];exact h2
  ·have e':¬ q.1=k:=fun z=>e (h1.trans z);have b:atKey (q :: qs) k=atKey qs k:=by simp [atKey,Y8,e']
   rw [zC6 e,b];exact ih
theorem KT.repl {H:Hp}{kvs:List (List Key×V)}{xs:List (List Key×Addr×Value)} (r:KT H kvs xs) (k:List Key) {y:V}{u:Value} (ry:RelV y u) :
  KT H (kvs.map fun kv=>if kv.1=k then (kv.1,y) else kv) (xs.map (putAt k u)):=by
 induction r with
 | nil=>exact .nil
 | @cons p q ps qs h t ih =>
  rw [Zr,Zr];refine .cons ?_ ih;obtain ⟨h1,h2,h3⟩:=h;unfold putAt;by_cases e:p.1=k
  ·rw [if_pos e,if_pos (h1.symm.trans e)];exact ⟨h1,h2,ry⟩
  ·rw [if_neg e,if_neg (fun z=>e (h1.trans z))];exact ⟨h1,h2,h3⟩
theorem KT.put {H:Hp}{kvs:List (List Key×V)}{xs:List (List Key×Addr×Value)} (r:KT H kvs xs) (k:List Key) {b:Addr}{y:V}{u:Value} (hb:H b=some (.tup (k.map kV))) (ry:RelV y u) :
  KT H (putK kvs k y) (storedH xs k b u):=by
 have e:(kvs.any fun kv=>decide (kv.1=k))=(atKey xs k).isSome:=by
  rw [zEa,(r.val k).isSome_eq,Option.isSome_map]
 unfold putK storedH;rw [e];by_cases q:(atKey xs k).isSome=true
 ·rw [if_pos q,if_pos q];exact r.repl k ry
 ·rw [if_neg q,if_neg q];exact Paired.snoc r ⟨rfl,hb,ry⟩
theorem KT.keeps {H H':Hp}{kvs:List (List Key×V)}{xs:List (List Key×Addr×Value)} (r:KT H kvs xs) (ht:∀ b ys,H b=some (.tup ys)→H' b=some (.tup ys)):KT H' kvs xs :=
 Paired.mapP r fun _ _ z=>⟨z.1,ht _ _ z.2.1,z.2.2⟩
section
variable {P:Program}{w:World}{H:Hp}{h:Heap}{a:Addr}
theorem rd_of {u:HO} (ok:HOk P w H h) (e:Rd H a u):ObjOk P w H h a u:=e.ok ok
theorem dk_rd {kvs:List (Key×V)} (ok:HOk P w H h) (e:Rd H a (.dK kvs)):kvs.length≤sizeLine∧(a == sysModules)=false∧∃ vs,KV kvs vs∧h.DictOf (mixKind P w) a vs :=
 show ObjOk P w H h a (.dK kvs) from rd_of ok e
theorem dk_of {kvs:List (Key×V)} (ok:HOk P w H h) (e:H a=some (.dK kvs)):kvs.length≤sizeLine∧(a == sysModules)=false∧∃ vs,KV kvs vs∧h.DictOf (mixKind P w) a vs:=dk_rd ok (.inl e)
theorem key_of {ks:List Key} (ok:HOk P w H h) (e:H a=some (.tup (ks.map kV))):(tupleKind (mixKind P w)).is h ks a:=by
 obtain ⟨_,its,r,o,h1,h2,n,h3⟩:=(show ObjOk P w H h a (.tup (ks.map kV)) from ok a _ e);exact ⟨o,its.toArray,n,h1,h2,h3,by simpa using items_are r⟩
theorem dt_rd {kvs:List (List Key×V)} (ok:HOk P w H h) (e:Rd H a (.dT kvs)):kvs.length≤sizeLine∧(a == sysModules)=false ∧
  ∃ xs,KT H kvs xs∧h.DictOfH (tupleKind (mixKind P w)) a xs:=by
 obtain ⟨z,y,xs,r,o,es,ep,h1,h2,h3,h4,h5⟩:=(show ObjOk P w H h a (.dT kvs) from rd_of ok e);refine ⟨z,y,xs,r,o,es,ep,h1,h2,h3,h4,fun x hx=>?_,h5⟩;have all:∀ {l:List (List Key×V)}{m:List (List Key×Addr×Value)},KT H l m→∀ x∈m,(tupleKind (mixKind P w)).is h x.1 x.2.1:=by
  intro l m q
  induction q with
  | nil=>intro x hx;exact nomatch hx
  | @cons p q ps qs hq t ih =>
   intro x hx;rcases List.mem_cons.mp hx with e | hx
   ·subst e;exact key_of ok (by rw [← hq.1];exact hq.2.1)
   ·exact ih x hx
 exact all r x hx
theorem dt_of {kvs:List (List Key×V)} (ok:HOk P w H h) (e:H a=some (.dT kvs)):kvs.length≤sizeLine∧(a == sysModules)=false ∧
  ∃ xs,KT H kvs xs∧h.DictOfH (tupleKind (mixKind P w)) a xs:=dt_rd ok (.inl e)
end
noncomputable def DGet (H:Hp) (a:Addr) (y:V) (r:Option V):Prop :=
 (∃ kvs k,Rd H a (.dK kvs)∧y=kV k∧r=valV kvs k)∨∃ kvs k b,Rd H a (.dT kvs)∧y=.ref b∧H b=some (.tup (k.map kV))∧r=valV kvs k
noncomputable def DPut (H:Hp) (a:Addr) (y v:V) (H':Hp):Prop :=
 (∃ kvs k,H a=some (.dK kvs)∧y=kV k∧kvs.length < sizeLine∧H'=upd H a (.dK (putK kvs k v))) ∨
 ∃ kvs k b,H a=some (.dT kvs)∧y=.ref b∧H b=some (.tup (k.map kV))∧kvs.length < sizeLine∧H'=upd H a (.dT (putK kvs k v))
theorem DGet.k {H:Hp}{a:Addr}{kvs:List (Key×V)}{k:Key} (e:H a=some (.dK kvs)):DGet H a (kV k) (valV kvs k):=.inl ⟨kvs,k,.inl e,rfl,rfl⟩
theorem DGet.t {H:Hp}{a b:Addr}{kvs:List (List Key×V)}{k:List Key} (e:H a=some (.dT kvs)) (eb:H b=some (.tup (k.map kV))):DGet H a (.ref b) (valV kvs k):=.inr ⟨kvs,k,b,.inl e,rfl,eb,rfl⟩
theorem DPut.k {H:Hp}{a:Addr}{kvs:List (Key×V)}{k:Key}{v:V} (e:H a=some (.dK kvs)) (hl:kvs.length < sizeLine):DPut H a (kV k) v (upd H a (.dK (putK kvs k v))):=.inl ⟨kvs,k,e,rfl,hl,rfl⟩
theorem DPut.t {H:Hp}{a b:Addr}{kvs:List (List Key×V)}{k:List Key}{v:V} (e:H a=some (.dT kvs)) (eb:H b=some (.tup (k.map kV))) (hl:kvs.length < sizeLine) :
  DPut H a (.ref b) v (upd H a (.dT (putK kvs k v))):=.inr ⟨kvs,k,b,e,rfl,eb,hl,rfl⟩
section
variable {X:Cx}{pins:List (Addr×Obj)}{σ : St}{H:Hp}{s:Shared}{a:Addr}{y v:V}{u r:Value}{o:Option V}{A:Around}{E:Value→Shared→Prop}
theorem Inv.big (I:Inv X pins σ H s):sysModules < s.heap.objs.size:=by
 have h:mainGlobals < s.heap.objs.size:=(I.mod.glob.keeps I.bk).lt;exact Nat.lt_trans (by decide) h
theorem d_getItem {Q:Value→Shared→Prop} (hu:A.units + 1 < cLine) (I:Inv X pins σ H s) (g:DGet H a y (some v)) (ry:RelV y u) (h:∀ w' s',Inv X pins σ H s'→RelV v w'→Q w' s') :
  wpAny (model X.prog X.w) A (getItem (.ref a) u) Q E s:=by
 rcases g with ⟨kvs,k,e,ey,l⟩ | ⟨kvs,k,b,e,ey,eb,l⟩
 ·subst ey;obtain ⟨z,hd,vs,rel,dd⟩:=dk_rd I.hok e;obtain ⟨w',hw,rw'⟩:=RelO.some_of (v:=v) (o:=valueAt vs k) (by rw [l];exact rel.val k);exact wpAny_getItem_of (kV_is ry) dd.mapOf hw (h w' _ (I.tok _) rw')
 ·subst ey;cases (show u=Value.ref b from ry);obtain ⟨z,hd,xs,rel,dd⟩:=dt_rd I.hok e;obtain ⟨w',hw,rw'⟩:=RelO.some_of (v:=v) (o:=(atKey xs k).map (·.2)) (by rw [l];exact rel.val k);obtain ⟨p,hp,hp2⟩:=Option.map_eq_some_iff.mp hw;refine wpAny_getItem_heap (tupleKind_room_in1 hu) (key_of I.hok eb) dd hp ?_;rw [hp2];exact h w' _ (I.tok _) rw'
theorem d_in {Q:Value→Shared→Prop} (hu:A.units + 1 < cLine) (I:Inv X pins σ H s) (g:DGet H a y o) (ry:RelV y u) (h:∀ s',Inv X pins σ H s'→Q (.bool o.isSome) s') :
  wpAny (model X.prog X.w) A (compareOp .In u (.ref a)) Q E s:=by
 rcases g with ⟨kvs,k,e,ey,l⟩ | ⟨kvs,k,b,e,ey,eb,l⟩
 ·subst ey;obtain ⟨z,hd,vs,rel,dd⟩:=dk_rd I.hok e;refine wpAny_in_of (kV_is ry) hd dd.mapOf ?_;rw [← (rel.val k).isSome_eq,← l];exact h _ (I.tok _)
 ·subst ey;cases (show u=Value.ref b from ry);obtain ⟨z,hd,xs,rel,dd⟩:=dt_rd I.hok e;refine wpAny_in_heap (tupleKind_room_in1 hu) (key_of I.hok eb) hd dd ?_;have q:=(rel.val k).isSome_eq;rw [Option.isSome_map] at q;rw [← q,← l];exact h _ (I.tok _)
theorem d_notIn {Q:Value→Shared→Prop} (hu:A.units + 1 < cLine) (I:Inv X pins σ H s) (g:DGet H a y o) (ry:RelV y u) (h:∀ s',Inv X pins σ H s'→Q (.bool (!o.isSome)) s') :
  wpAny (model X.prog X.w) A (compareOp .NotIn u (.ref a)) Q E s:=by
 rcases g with ⟨kvs,k,e,ey,l⟩ | ⟨kvs,k,b,e,ey,eb,l⟩
 ·subst ey;obtain ⟨z,hd,vs,rel,dd⟩:=dk_rd I.hok e;refine wpAny_notIn_of (kV_is ry) hd dd.mapOf ?_;rw [← (rel.val k).isSome_eq,← l];exact h _ (I.tok _)
 ·subst ey;cases (show u=Value.ref b from ry);obtain ⟨z,hd,xs,rel,dd⟩:=dt_rd I.hok e;refine wpAny_notIn_heap (tupleKind_room_in1 hu) (key_of I.hok eb) hd dd ?_;have q:=(rel.val k).isSome_eq;rw [Option.isSome_map] at q;rw [← q,← l];exact h _ (I.tok _)
theorem d_write {h':Heap}{t':Nat}{ob:HO} (I:Inv X pins σ H s) (mu:Mut (H a)) (hs:Heap.SameBut a s.heap h') (he:∃ q,h'.get? a=some q) (new:ObjOk X.prog X.w (upd H a ob) h' a ob) :
  Inv X pins σ (upd H a ob) { s with heap:=h',toks:=t' } :=
 I.write (x:=a) (e:=a) mu (.inl rfl) (fun b q hb z=>(hs.2 b hb).trans z) he new
theorem dk_new {P:Program}{w:World}{H':Hp}{h':Heap}{kvs:List (Key×V)}{vs:List (Key×Value)} (z:kvs.length≤sizeLine) (hd:(a == sysModules)=false) (rel:KV kvs vs) (dd:h'.DictOf (mixKind P w) a vs) :
  ObjOk P w H' h' a (.dK kvs):=⟨z,hd,vs,rel,dd⟩
theorem d_setItem {H':Hp}{Q:Unit→Shared→Prop} (hu:A.units + 1 < cLine) (I:Inv X pins σ H s) (g:DPut H a y v H') (ry:RelV y u) (rv:RelV v r) (h:∀ s',Inv X pins σ H' s'→Q () s') :
  wpAny (model X.prog X.w) A (setItem (.ref a) u r) Q E s:=by
 rcases g with ⟨kvs,k,e,ey,l,eH⟩ | ⟨kvs,k,b,e,ey,eb,l,eH⟩
 ·subst ey eH;obtain ⟨z,hd,vs,rel,dd⟩:=dk_of I.hok e;have hz:vs.length≤sizeLine:=by rw [← rel.length];exact z
  have hl:(putK kvs k v).length≤sizeLine:=by have:=zDg kvs k v;omega
  refine wpAny_setItem_pairs (hsz:=hz) (kV_is ry) dd fun h' dd' hs=>h _ ?_;have he:∃ q,h'.get? a=some q:=let ⟨q,_,_,hq,_⟩:=dd';⟨q,hq⟩;exact d_write I (by rw [e];exact True.intro) hs he (dk_new hl hd (rel.put k rv) dd')
 ·subst ey eH;cases (show u=Value.ref b from ry);obtain ⟨z,hd,xs,rel,dd⟩:=dt_of I.hok e;have hz:xs.length≤sizeLine:=by rw [← Paired.length rel];exact z
  have hl:(putK kvs k v).length≤sizeLine:=by have:=zDg kvs k v;omega
  refine wpAny_setItem_heap (hsz:=hz) (tupleKind_room_in1 hu) (key_of I.hok eb) dd fun h' dd' hs=>h _ ?_;obtain ⟨q,es,ep,hq,h2,h3,h4,_,h5⟩:=dd';refine d_write I (by rw [e];exact True.intro) hs ⟨q,hq⟩ ⟨hl,hd,_,(rel.put k eb rv).keeps fun c ys ec=>?_,q,es,ep,hq,h2,h3,h4,h5⟩;rw [zA5 (ne_of ec e (fun z=>nomatch z))];exact ec
end
section
variable {X:Cx}{pins:List (Addr×Obj)}{σ : St}{H:Hp}{s:Shared}{a:Addr}{kvs:List (Key×V)}{k:Key}{u:Value}{A:Around}{E:Value→Shared→Prop}
theorem d_len {Q:Value→Shared→Prop} (I:Inv X pins σ H s) (e:Rd H a (.dK kvs)) (h:∀ t s',Inv X pins σ H s'→Q (.int kvs.length t) s'):wpAny (model X.prog X.w) A (call (.builtin "len") [.ref a]) Q E s:=by
 obtain ⟨z,hd,vs,rel,dd⟩:=dk_rd I.hok e;refine call_len_dict hd dd (by rw [← rel.length];rw [sizeLine_eq] at z;omega) ?_;rw [← rel.length];exact h _ _ (I.tok _)
end
noncomputable def NoSl (i:Expr):Prop:=∀ ov iv,subscripted i false ov iv=operate [ov,iv] (getItem ov iv)
theorem subD_of {prog:Program}{w:World}{A:Around}{E:Value→Shared→Prop}{s:Shared}{env:Env}{value slice:Expr}{pos:Pos}{T id:String}{Q:Value→Shared→Prop}
  (hl:typeLookup (.type T) "__getitem__" = pure (some (.builtin id))) (hs:NoSl slice)
  (h:wpAny (model prog w) A (eval value env) (fun o s₁=>wpAny (model prog w) A (eval slice env) (fun i s₂=>s₂.TypeIs o T∧wpAny (model prog w) A (getItem o i) Q E s₂) E s₁) E s) :
  wpAny (model prog w) A (eval (.Subscript value slice pos) env) Q E s:=by
 refine Subscript_ (wpAny_mono h (fun o s₁ h₁=>wpAny_mono h₁ (fun i s₂ h₂=>?_) fun _ _ x=>x) fun _ _ x=>x);obtain ⟨hT,h₂⟩:=h₂;unfold subscriptTail;refine wpAny_bind ?_;rw [getitemInPython_of_ne hT.not_modules];refine wpAny_bind (wpAny_specialOf hT hl ?_);have fin:wpAny (model prog w) A (subscripted slice false o i) (fun r s₃=>wpAny (model prog w) A (letTemporaryGo value o r >>= fun _=>pure r) Q E s₃) E s₂:=by
  rw [hs o i];exact wpAny_operating (wpAny_mono h₂ (fun r s₃ h₃=>wpAny_bind (wpAny_letTemporaryGo (wpAny_pure h₃))) fun _ _ x=>x)
 first
  | exact wpAny_pure (wpAny_bind fin)
  | exact wpAny_bind (wpAny_pure (wpAny_bind fin))
  | exact wpAny_bind fin
theorem dict_typeIs {X:Cx}{pins:List (Addr×Obj)}{σ : St}{H:Hp}{s:Shared}{a:Addr}{y:V}{o:Option V} (I:Inv X pins σ H s) (g:DGet H a y o):s.TypeIs (.ref a) "dict":=by
 rcases g with ⟨kvs,k,e,_,_⟩ | ⟨kvs,k,b,e,_,_,_⟩
 ·obtain ⟨_,_,vs,_,dd⟩:=dk_rd I.hok e;exact dd.typeIs
 ·obtain ⟨_,_,xs,_,dd⟩:=dt_rd I.hok e;exact dd.typeIs
noncomputable def tDGet (td ty:TE):TE:=fun σ H Q=>td σ H fun x H1=>ty σ H1 fun y H2=>∃ a v,x=.ref a∧DGet H2 a y (some v)∧Q v H2
noncomputable def tDIn (ty td:TE):TE:=fun σ H Q=>ty σ H fun y H1=>td σ H1 fun x H2=>∃ a o,x=.ref a∧DGet H2 a y o∧Q (.bl o.isSome) H2
noncomputable def tDNotIn (ty td:TE):TE:=fun σ H Q=>ty σ H fun y H1=>td σ H1 fun x H2=>∃ a o,x=.ref a∧DGet H2 a y o∧Q (.bl (!o.isSome)) H2
noncomputable def sDPut (td ty tv:TE):TS:=fun D σ H=>tv σ H fun v H1=>td σ H1 fun x H2=>ty σ H2 fun y H3=>∃ a H4,x=.ref a∧DPut H3 a y v H4∧D.nx σ H4
section
variable {X:Cx}{o i e value:Expr}{pos pos' tpos:Pos}{td ty tv:TE}
theorem zEo (hu:X.A.units + 1 < cLine) (ho:PE X o td) (hi:PE X i ty) (hs:NoSl i):PE X (.Subscript o i pos) (tDGet td ty):=by
 intro pins s σ H Q I h;refine subD_of PySem.F.slot_dict_getitem.lookup hs (thn (ho pins s σ H _ I h) fun u s1 ⟨x,H1,I1,rx,q1⟩=>thn (hi pins s1 σ H1 _ I1 q1) fun iv s2 ⟨y,H2,I2,ry,a,v,ex,g,q2⟩=>?_);subst ex;obtain rfl:u=Value.ref a:=rx;exact ⟨dict_typeIs I2 g,d_getItem hu I2 g ry fun w' s3 I3 rw'=>⟨v,H2,I3,rw',q2⟩⟩
theorem pc_din (hu:X.A.units + 1 < cLine) (hi:PE X i ty) (ho:PE X o td):PC X .In i o (tDIn ty td):=by
 intro pins s σ H Q I h;refine thn (hi pins s σ H _ I h) fun iv s1 ⟨y,H1,I1,ry,q1⟩=>thn (ho pins s1 σ H1 _ I1 q1) fun u s2 ⟨x,H2,I2,rx,a,ov,ex,g,q2⟩=>?_;subst ex;obtain rfl:u=Value.ref a:=rx;exact d_in hu I2 g ry fun s3 I3=>⟨.bl ov.isSome,H2,I3,rfl,q2⟩
theorem zBt (hu:X.A.units + 1 < cLine) (hi:PE X i ty) (ho:PE X o td):PC X .NotIn i o (tDNotIn ty td):=by
 intro pins s σ H Q I h;refine thn (hi pins s σ H _ I h) fun iv s1 ⟨y,H1,I1,ry,q1⟩=>thn (ho pins s1 σ H1 _ I1 q1) fun u s2 ⟨x,H2,I2,rx,a,ov,ex,g,q2⟩=>?_;subst ex;obtain rfl:u=Value.ref a:=rx;exact d_notIn hu I2 g ry fun s3 I3=>⟨.bl (!ov.isSome),H2,I3,rfl,q2⟩
theorem ps_dput (hu:X.A.units + 1 < cLine) (ho:PE X o td) (hi:PE X i ty) (hv:PE X value tv) (hs:swapsWith value (some (.Subscript o i pos')) pos.line X.env=pure false) :
  PS X (.Assign [.Subscript o i pos'] value pos) (sDPut td ty tv):=by
 intro pins s σ H D I h;refine wpAny_Assign_Subscript (thn (hv pins s σ H _ I h) fun r s1 ⟨v,H1,I1,rv,q1⟩=>thn (ho pins s1 σ H1 _ I1 q1) fun u s2 ⟨x,H2,I2,rx,q2⟩=>thn (hi pins s2 σ H2 _ I2 q2) fun iv s3 ⟨y,H3,I3,ry,a,H4,ex,g,q3⟩=>?_) hs;subst ex;obtain rfl:u=Value.ref a:=rx;exact d_setItem hu I3 g ry rv fun s4 I4=>⟨σ,H4,I4,q3⟩
end
theorem dk_empty {P:Program}{w:World}{H:Hp} (h:Heap) (hb:sysModules < h.objs.size):ObjOk P w H (h.push { cls:=.type "dict",data:=.dict #[] }) h.objs.size (.dK []) :=
 ⟨Zm _,beq_eq_false_iff_ne.mpr (Ne.symm (Ze hb)),[],.nil,Heap.DictOf.new h⟩
noncomputable def tDNewK:TE:=fun _ H Q=>∀ p,H p=none→Q (.ref p) (upd H p (.dK []))
section
variable {X:Cx}{pos:Pos}
theorem zEn:PE X (.Dict [] [] pos) tDNewK:=fun pins s σ H Q I h =>
 wpAny_Dict_empty ⟨.ref s.heap.objs.size,_,I.laid (a:=s.heap.objs.size) (o:=.dK []) (t':=s.toks) (fun _ _ q=>Z2 _ q) (Zb _) (dk_empty s.heap I.big),rfl,h _ (I.hok.fresh (Zb _))⟩
end
section
variable {X:Cx}{pins:List (Addr×Obj)}{σ : St}{H:Hp}{s:Shared}{a:Addr}{y d:V}{u r:Value}{o:Option V}{A:Around}{E:Value→Shared→Prop}
end
section
variable {X:Cx}{o e f:Expr}{apos cpos:Pos}{td ty tx:TE}
end
section
variable {X:Cx}{pins:List (Addr×Obj)}{σ : St}{H:Hp}{s:Shared}{a:Addr}{kvs:List (Key×V)}{A:Around}{E:Value→Shared→Prop}
end
section
variable {X:Cx}{pins:List (Addr×Obj)}{σ : St}{H:Hp}{s:Shared}{a:Addr}{y:V}{u:Value}{A:Around}{E:Value→Shared→Prop}
end
end L2
namespace L2
open PySem PySem.Spec PyProof.Rows
noncomputable def PFs (X:Cx) (ifs:List Expr) (t:TT):Prop :=
 ∀ (pins:List (Addr×Obj)) (s:Shared) (σ : St) (H:Hp) (Q:Bool→Hp→Prop),Inv X pins σ H s→t σ H Q →
  wpAny (model X.prog X.w) X.A (forIn ifs true fun c r=>if r=true then do let ok ← isTrue c X.env (eval c X.env);pure (ForInStep.yield ok) else pure (ForInStep.yield r)) (TP X pins σ Q) X.xe s
noncomputable def tYes:TT:=fun _ H Q=>Q true H
theorem zAt {X:Cx}:PFs X [] tYes:=fun _ _ _ H _ I h=>wpAny_tests_nil ⟨H,I,h⟩
theorem zE0 {X:Cx}{c:Expr}{t:TT} (h:PT X c t):PFs X [c] t:=fun pins s σ H Q I q=>wpAny_tests_one (h pins s σ H Q I q)
section
variable {prog:Program}{w:World}{A:Around}{R:Result→Shared→Prop}
theorem comp_loop {elt tg iter:Expr}{ifs:List Expr}{sc:Scope}{pos:Pos}{it acc:Value}{env:Env} (J:Nat→Shared→Prop) (N:Value→Shared→Prop)
  (hN:N=notedBy (model prog w) A env fun e z=>R (.error e) z)
  (turn:∀ k z,J k z→wpAny (model prog w) A (pyNext it) (fun r z1=>match r with
   | none=>R (.ok .next) z1
   | some v=>wpAny (model prog w) A (letOwnedTupleGo tg it v) (fun _ z2=>wpAny (model prog w) A (assign tg env v) (fun _ z3 =>
     wpAny (model prog w) A (forIn ifs true fun c r=>if r=true then do let ok ← isTrue c env (eval c env);pure (ForInStep.yield ok) else pure (ForInStep.yield r)) (fun ok z4 =>
      if ok=true then wpAny (model prog w) A (eval elt env) (fun y z5=>wpAny (model prog w) A (call (.builtin "list.append") [acc,y]) (fun _ z6=>∃ j,j < k∧J j z6) N z5) N z4
      else ∃ j,j < k∧J j z4) N z3) N z2) N z1) N z)
  {z:Shared} (k:Nat) (h:J k z):codeAny (model prog w) A (.compLoop (.ListComp elt [⟨tg,iter,ifs,0⟩] sc pos) 0 it acc env) R z:=by
 subst hN;refine codeAny_loop rfl J (fun k z hJ=>?_) k h;show wpAny _ A ((compTurn (.ListComp elt [⟨tg,iter,ifs,0⟩] sc pos) 0 it acc env).onRaise (fun x=>do noteFrame x env;theTreesLotGoes x)) _ _ z;refine wpAny_noted ?_;rw [compTurn_list];refine wpAny_bind (wpAny_standAt (wpAny_bind (thn (turn k z hJ) fun r z1 h1=>?_)));cases r with
 | none=>exact wpAny_pure h1
 | some v =>
  refine wpAny_bind (thn h1 fun _ z2 h2=>?_);refine wpAny_bind (thn h2 fun _ z3 h3=>?_);refine wpAny_bind (thn h3 fun ok z4 h4=>?_);cases ok with
  | false=>exact wpAny_pure ⟨rfl,h4⟩
  | true=>exact wpAny_bind (wpAny_bind (thn h4 fun y z5 h5=>wpAny_bind (thn h5 fun _ z6 h6=>wpAny_pure (wpAny_pure ⟨rfl,h6⟩))))
end
noncomputable def cxComp (X:Cx) (sc:Scope) (cl:List (Str×Addr)) (T:List Str) (C:Addr) (s2:Shared) (H2:Hp) (fp:List Addr):Cx where
 prog:=X.prog
 w:=X.w
 K:=X.K
 mg:=X.mg
 base:=X.base
 A:=X.A
 N:=X.N++T
 s₀:=s2
 H₀:=H2
 env:=compEnvC sc cl C X.env
 outer:=X.stack
 stack:=X.stack
 ex:=fp
 fn:=fun _=>false
 calm:=X.calm
 pn:=[]
 xe:=fun _ _=>False
noncomputable def ClOk (X:Cx):List (Str×Addr)→Prop
 | []=>True
 | p :: r=>X.env.cells.lookup p.1=some p.2∧ClOk X r
theorem ClOk.look {X:Cx}:∀ {cl:List (Str×Addr)},ClOk X cl→∀ x c,cl.lookup x=some c→X.env.cells.lookup x=some c
 | [],_,_,_,h=>by cases h
 | p :: r,k,x,c,h=>by
  cases e:x == p.1 with
  | true =>
   rw [Y0,e] at h;have ex:x=p.1:=by simpa using e
   rw [ex,k.1];exact h
  | false =>
   rw [Y0,e] at h;exact ClOk.look k.2 x c h
structure ScOk (X:Cx) (sc:Scope) (cl:List (Str×Addr)) (T:List Str):Prop where
 clos:closureFor sc X.env=pure cl
 cell:∀ y∈sc.names,y.2≠.cell
 kind:sc.kind=.function
 names:∀ x∈sc.names,x.2=.local→sc.names.lookup x.1=some .local
 cls:ClOk X cl
 has:∀ x∈sc.names,x.2=.free→(cl.lookup x.1).isSome=true∧(X.env.scope.names.lookup x.1=some .cell∨X.env.scope.names.lookup x.1=some .free)
 out:∀ x∈X.N,sc.names.lookup x≠some .local
theorem zCk {sc:Scope}{env:Env}{x:Str}{k:NameKind}:∀ {names:List (Str×NameKind)},
  (names.map fun (n,k)=>if (k == NameKind.free && env.scope.kind == .function && env.kindOf n == some .cell) then (n,NameKind.cell) else (n,k)).lookup x=some k →
  ∃ j,(x,j)∈names∧names.lookup x=some j∧(j=k∨(j=.free∧k=.cell))
 | [],h=>by cases h
 | (n,j) :: r,h=>by
  cases e:x == n with
  | true =>
   have ex:x=n:=by simpa using e
   subst ex;refine ⟨j,Zd,by rw [Y0,e],?_⟩;have h':List.lookup x ((if (j == NameKind.free && env.scope.kind == .function && env.kindOf x == some .cell)=true then (x,NameKind.cell) else (x,j)) :: _)=some k:=h;by_cases c:(j == NameKind.free && env.scope.kind == .function && env.kindOf x == some .cell)=true
   ·rw [if_pos c,Y0,e] at h';have c1:(j == NameKind.free)=true:=by
     cases q:(j == NameKind.free) with
     | true=>rfl
     | false=>rw [q] at c;simp at c
    exact .inr ⟨by simpa using c1,(Zj h').symm⟩
   ·rw [if_neg c,Y0,e] at h';exact .inl (Zj h')
  | false =>
   have h':List.lookup x ((if (j == NameKind.free && env.scope.kind == .function && env.kindOf n == some .cell)=true then (n,NameKind.cell) else (n,j)) :: _)=some k:=h;have h2:(List.map (fun (n,k)=>if (k == NameKind.free && env.scope.kind == .function && env.kindOf n == some .cell) then (n,NameKind.cell) else (n,k)) r).lookup x=some k:=by
    by_cases c:(j == NameKind.free && env.scope.kind == .function && env.kindOf n == some .cell)=true
    ·rw [if_pos c,Y0,e] at h';exact h'
    ·rw [if_neg c,Y0,e] at h';exact h'
   obtain ⟨i,m,l,q⟩:=zCk (sc:=sc) (env:=env) h2;exact ⟨i,Z5 _ m,by rw [Y0,e];exact l,q⟩
section
variable {X:Cx}{sc:Scope}{cl:List (Str×Addr)}{T:List Str}
theorem ScOk.seen (S:ScOk X sc cl T) {C:Addr}{x:Str} (h:(compEnvC sc cl C X.env).scope.names.lookup x=some .cell∨(compEnvC sc cl C X.env).scope.names.lookup x=some .free) :
  (∃ c,cl.lookup x=some c)∧(X.env.scope.names.lookup x=some .cell∨X.env.scope.names.lookup x=some .free):=by
 have key:∀ k,(k=.cell∨k=.free)→(relabel sc X.env).names.lookup x=some k→(∃ c,cl.lookup x=some c)∧(X.env.scope.names.lookup x=some .cell∨X.env.scope.names.lookup x=some .free):=by
  intro k hk h;obtain ⟨j,m,l,q⟩:=zCk (sc:=sc) (env:=X.env) h;have jf:j=.free:=by
   rcases q with rfl | ⟨q,_⟩
   ·rcases hk with rfl | rfl
    ·exact absurd rfl (S.cell _ m)
    ·rfl
   ·exact q
  subst jf;obtain ⟨a,b⟩:=S.has _ m rfl;exact ⟨Option.isSome_iff_exists.mp a,b⟩
 rcases h with h | h
 ·exact key _ (.inl rfl) h
 ·exact key _ (.inr rfl) h
theorem ScOk.local_out (S:ScOk X sc cl T) {C:Addr}{x:Str} (hx:x∈X.N):(compEnvC sc cl C X.env).scope.names.lookup x≠some .local:=by
 intro h;obtain ⟨j,m,l,q⟩:=zCk (sc:=sc) (env:=X.env) h;rcases q with rfl | ⟨_,q⟩
 ·exact S.out x hx l
 ·cases q
variable {pins:List (Addr×Obj)}{σ : St}{H:Hp}{s:Shared}{fp:List Addr}{C:Addr}
theorem comp_ok (S:ScOk X sc cl T) (I:Inv X pins σ H s) (hf:∀ b∈fp,FpOk X pins H b) (hl:∀ b∈fp,b < s.heap.objs.size) (hC:s.heap.objs.size≤C):(cxComp X sc cl T C s H fp).Ok where
 mod:=I.ok.mod
 kind:=S.kind
 glob:=I.ok.glob
 blt:=I.ok.blt
 above:=hC
 inj:=fun x y c h1 h2=>I.ok.inj x y c (S.cls.look x c h1) (S.cls.look y c h2)
 has:=fun x hx=>(S.seen hx).1
 cab:=fun x c h=>by cases h
 hd:=I.ok.hd
 frames:=I.ok.frames
 stk:=.inl rfl
 exf:=fun b hb=>⟨Ze (Zf (hl b hb) hC),fun x c h=>(hf b hb).2.2.2.2.1 x c (S.cls.look x c h)⟩
 bs:=I.bs
 bsz:=Zk I.ok.bsz I.sz
 noex:=fun b o e hb=>by
  rcases (hf b hb).2.2.2.1 with z | z
  ·exact I.ok.noex b o e z
  ·exact absurd (Zf (Zc e) (Zk I.ok.bsz z)) (Yd _)
 exfs:=fun b hb z=>by
  rcases List.mem_cons.mp (I.stkSub b z) with e | e
  ·exact (hf b hb).2.1 e
  ·exact (hf b hb).2.2.1 e
 funs:=I.stack
 frf:=I.stkFree
theorem comp_inv (S:ScOk X sc cl T) (I:Inv X pins σ H s) (hf:∀ b∈fp,FpOk X pins H b) (hl:∀ b∈fp,b < s.heap.objs.size) (hC:s.heap.objs.size≤C) {h1:Heap}{m:Str→Option Value}{t1:Nat}
  (k:∀ b o,s.heap.get? b=some o→h1.get? b=some o) (hn:h1.Ns C m):Inv (cxComp X sc cl T C s H fp) [] (σ++List.replicate T.length none) H { s with heap:=h1,toks:=t1 } where
 ok:=comp_ok S I hf hl hC
 os:=rfl
 bare:=I.bare
 base:=Un.kept k
 loc:=by
  refine ⟨m,hn,fun i x v e1 e2 e3=>?_⟩;have hi:i < σ.length:=by
   by_cases hi:i < σ.length
   ·exact hi
   ·rw [Zx (Nat.not_lt.mp hi),List.getElem?_replicate] at e2;split at e2 <;> cases e2
  rw [Zp hi] at e2;have e1':X.N[i]? = some x:=by
   have e:(X.N++T)[i]? = some x:=e1
   rwa [Zp (by rw [← I.len];exact hi)] at e
  have hx:x∈X.N:=Z3 e1';have e3':(compEnvC sc cl C X.env).scope.names.lookup x=some .cell∨(compEnvC sc cl C X.env).scope.names.lookup x=some .free:=by
   rcases e3 with z | z | z
   ·exact absurd z (S.local_out hx)
   ·exact .inl z
   ·exact .inr z
  obtain ⟨⟨c,hc⟩,ko⟩:=S.seen e3';obtain ⟨m0,hn0,hl0⟩:=I.loc;obtain ⟨u,r,l⟩:=hl0 i x v e1' e2 (.inr ko);refine ⟨u,r,.inr ⟨e3',c,hc,?_⟩⟩;have hc':=S.cls.look x c hc;rcases l with ⟨kl,_⟩ | ⟨_,c',hc2,z⟩
  ·have kl':X.env.scope.names.lookup x=some .local:=kl;rcases ko with q | q
   ·rw [q] at kl';cases kl'
   ·rw [q] at kl';cases kl'
  ·rw [hc'] at hc2;cases hc2;obtain ⟨o,ho,hd⟩:=z;exact ⟨o,k _ _ ho,hd⟩
 cell:=fun x c hc=>by
  obtain ⟨v,o,ho,hd⟩:=I.cell x c (S.cls.look x c hc);exact ⟨v,o,k _ _ ho,hd⟩
 free:=I.hok.fresh hC
 freeC:=fun x c hc=>I.freeC x c (S.cls.look x c hc)
 pin:=fun p hp=>absurd (show p∈([]:List (Addr×Obj)) from hp) (by simp)
 hok:=I.hok.kept k
 len:=by
  show (σ++List.replicate T.length none).length=(X.N++T).length;rw [Z8,Z8,List.length_replicate,I.len]
theorem comp_out (S:ScOk X sc cl T) (I:Inv X pins σ H s) (hf:∀ b∈fp,FpOk X pins H b) {D:Addr} (hD:s.heap.objs.size≤D) (hC:s.heap.objs.size≤C) (hDC:D≠C) {s1:Shared}{H1:Hp}{σ1:St}{p1:List (Addr×Obj)}{ys:List V}{its:List Value}
  (J:Inv (cxComp X sc cl T C s H fp) p1 σ1 H1 s1) (hH:H1 D=none) (rv:Vals ys its) (hz:ys.length≤sizeLine) (hget:s1.heap.get? D=some (LCg.lst its)) :
  Inv X pins σ (upd H1 D (.lst ys)) s1:=by
 have fD:H D=none:=I.hok.fresh hD;have nD:∀ b o,s.heap.get? b=some o→b≠D:=fun b o e=>Ze (Zf (Zc e) hD);refine I.call' (ch:=fp) J.os ⟨fun b o e n hb hx=>J.base.keep b o e n hb hx,fun b o e n hb hx=>J.base.slot b o e n hb hx,fun b o e n hx=>?_,fun b o e hx=>J.base.there b o e hx,fun b xs e=>?_,fun b o u e=>?_,fun b ps e=>?_⟩ (fun b u e=>?_) J.bare fun b hb=>⟨(hf b hb).2.2.2.1,(hf b hb).2.1,(hf b hb).2.2.2.2.1,(hf b hb).2.2.2.2.2⟩
 ·rw [zA5 (nD b o e)];exact J.base.free b o e n hx
 ·rw [zA5 (zA2 e fD)];exact J.base.tups b xs e
 ·rw [zA5 (zA2 e fD)];exact J.base.frzs b o u e
 ·rw [zA5 (zA2 e fD)];exact J.base.tbls b ps e
 ·by_cases hb:b=D
  ·subst hb;rw [zA1] at e;cases e;exact ⟨hz,its,its.length,rv,hget⟩
  ·rw [zA5 hb] at e;exact (J.hok b u e).stay (fun c v _ q=>q) (fun c q=>by rw [zA5 (zA2 q hH)];exact q) fun c xs q=>by rw [zA5 (zA2 q hH)];exact q
end
noncomputable def CompGoal (J:It) (k:Nat) (σ : St) (H1:Hp) (g:TG) (tt:TT) (te:TE) (Q:VK):Prop:=∃ W:Nat→Nat→List V→Hp→Prop,(∃ m,W 0 m [] H1)∧∀ i m ys H,W i m ys H →
 (J.stop i H∧ys.length≤sizeLine∧∀ p,H p=none→Q (.ref p) (upd H p (.lst ys))) ∨
 (J.go i H∧ys.length≤sizeLine∧∀ x H',J.yld i H x H'→g x (σ++List.replicate k none) H' fun σ2 H2=>tt σ2 H2 fun b H3 =>
  if b=true then te σ2 H3 fun y H4=>∃ m',m' < m∧W (i + 1) m' (ys++[y]) H4 else ∃ m',m' < m∧W (i + 1) m' ys H3)
noncomputable def tComp (k:Nat) (wi:TI) (g:TG) (tt:TT) (te:TE):TE:=fun σ H Q=>wi σ H fun J H1=>CompGoal J k σ H1 g tt te Q
section
variable {X:Cx}{elt tg iter:Expr}{ifs:List Expr}{sc:Scope}{pos:Pos}{cl:List (Str×Addr)}{T:List Str}{wi:TI}{g:TG}{tt:TT}{te:TE}
theorem zD0 {pins:List (Addr×Obj)}{σ : St}{s2:Shared}{H2:Hp}{Q:VK}{E:Value→Shared→Prop}{R:Value→Addr→Result→Shared→Prop}{it:Addr}{fp:List Addr}{tn:Nat→Heap→Prop}{J:It}
  (hc:X.calm=true) (S:ScOk X sc cl T)
  (hg:∀ C s H fp,PG (cxComp X sc cl T C s H fp) tg g) (hf:∀ C s H fp,PFs (cxComp X sc cl T C s H fp) ifs tt) (he:∀ C s H fp,PE (cxComp X sc cl T C s H fp) elt te)
  (I:Inv X pins σ H2 s2) (TT':Turn X.prog X.w X.K tg J fp it tn) (st:tn 0 s2.heap) (f2:∀ b∈fp,FpOk X pins H2 b)
  (W:Nat→Nat→List V→Hp→Prop) (m0:Nat) (w0:W 0 m0 [] H2)
  (turn:∀ i m ys H,W i m ys H→(J.stop i H∧ys.length≤sizeLine∧∀ p,H p=none→Q (.ref p) (upd H p (.lst ys))) ∨
   (J.go i H∧ys.length≤sizeLine∧∀ x H',J.yld i H x H'→g x (σ++List.replicate T.length none) H' fun σ2 H2=>tt σ2 H2 fun b H3 =>
    if b=true then te σ2 H3 fun y H4=>∃ m',m' < m∧W (i + 1) m' (ys++[y]) H4 else ∃ m',m' < m∧W (i + 1) m' ys H3))
  (hR:∀ (D C:Addr) (s1:Shared) (H1:Hp) (m:Str→Option Value),Inv X pins σ H1 s1→H1 C=none→C≠X.env.locals→X.s₀.heap.objs.size≤C→(∀ x c,X.env.cells.lookup x=some c→c≠C)→(∀ p∈X.pn++pins,p.1≠C) →
   s1.heap.Ns C m→Q (.ref D) H1→R (.ref D) C (.ok .next) s1) :
  wpAny (model X.prog X.w) X.A (newList []) (fun acc s₃=>wpAny (model X.prog X.w) X.A (newFunctionEnv sc X.env.globals cl [] X.env.qual none .none (some X.env)) (fun cenv s₄ =>
   codeAny (model X.prog X.w) X.A (.compStart (.ListComp elt [⟨tg,iter,ifs,0⟩] sc pos) 0 (.ref it) acc { cenv with scope:=relabel sc X.env }) (R acc cenv.locals) s₄) E s₃) E s2:=by
 refine wpAny_newObj_type (wpAny_newFunctionEnv S.cell (by intro y hy;simp at hy) (fun h1 hn1 sb1=>?_) S.kind);dsimp only at hn1 sb1 ⊢;generalize hH:s2.heap.push { cls:=.type "list",dict:=none,data:=.seq ([]:List Value).toArray }=G at hn1 sb1 ⊢;have hC:G.objs.size=s2.heap.objs.size + 1:=by rw [← hH,Yj]
 have hDC:s2.heap.objs.size≠G.objs.size:=by rw [hC];exact Ze (Yb _)
 have hCle:s2.heap.objs.size≤G.objs.size:=by rw [hC];exact Nat.le_succ _
 have old:∀ b o,s2.heap.get? b=some o→h1.get? b=some o:=fun b o e=>by
  exact sb1.extBut b o (Ze (Zf (Zc e) hCle)) (Z2 _ (hH ▸ Z2 _ e))
 have hacc:h1.get? s2.heap.objs.size=some (LCg.lst []):=sb1.extBut _ _ hDC (Z2 _ (hH ▸ Zg _ rfl));have fl:∀ b∈fp,b < s2.heap.objs.size:=fun b hb=>by
  obtain ⟨o,e,_⟩:=TT'.obj _ _ st b hb;exact Zc e
 have DS:s2.heap.objs.size∉frs X.stack:=fun z=>by
  rcases List.mem_cons.mp (I.stkSub _ z) with e | e
  ·exact Ze I.lt e.symm
  ·exact I.nofs (Zb _) e
 have keepT:∀ (i:Nat) (h h':Heap),tn i h→(∀ b o,b < s2.heap.objs.size→h.get? b=some o→h'.get? b=some o)→tn i h':=fun i h h' z k=>TT'.keep i h h' z fun b hb o e=>k b o (fl b hb) e;have fpo:∀ {H':Hp}{pl:List (Addr×Obj)},(∀ b∈fp,H' b=none)→(∀ p∈pl,s2.heap.objs.size≤p.1)→∀ b∈fp,FpOk (cxComp X sc cl T G.objs.size s2 H2 fp) pl H' b:=fun {H' pl} hn hp b hb=>by
  refine ⟨hn b hb,fun z=>?_,fun z=>?_,.inl hb,fun x c h=>(f2 b hb).2.2.2.2.1 x c (S.cls.look x c h),fun p hp' z=>?_⟩
  ·exact Ze (Zf (fl b hb) hCle) z
  ·rcases List.mem_cons.mp (I.stkSub b z) with e | e
   ·exact (f2 b hb).2.1 e
   ·exact (f2 b hb).2.2.1 e
  ·exact Ze (Zf (fl b hb) (hp p (show p∈pl from hp'))) z.symm
 let Y:=cxComp X sc cl T G.objs.size s2 H2 fp
 have loop:∀ z:Shared,z={ s2 with heap:=h1,toks:=s2.toks + ([]:List (Str×Value)).length } →
   codeAny (model X.prog X.w) X.A (.compLoop (.ListComp elt [⟨tg,iter,ifs,0⟩] sc pos) 0 (.ref it) (.ref s2.heap.objs.size) (compEnvC sc cl G.objs.size X.env)) (R (.ref s2.heap.objs.size) G.objs.size) z:=by
  rintro z rfl;refine comp_loop (fun n z=>∃ i ys its H',Inv Y [] (σ++List.replicate T.length none) H' z∧tn i z.heap∧(∀ b∈fp,H' b=none)∧H' s2.heap.objs.size=none∧Vals ys its∧z.heap.get? s2.heap.objs.size=some (LCg.lst its)∧W i n ys H') _ rfl ?_ m0
   ⟨0,[],[],H2,comp_inv S I f2 fl hCle old hn1,TT'.keep _ _ _ st fun b hb o e=>old b o e,fun b hb=>(f2 b hb).1,I.hok.fresh (Zb _),.nil,hacc,w0⟩
  rintro n z ⟨i,ys,its,H',IY,stz,frz,fD,rv,hget,wz⟩;have IP:Inv Y [(s2.heap.objs.size,LCg.lst its)] (σ++List.replicate T.length none) H' z:=IY.pins_of fun p hp=>by
   have e:p=(s2.heap.objs.size,LCg.lst its):=by simpa using hp
   subst e;exact ⟨hget,fD,hDC,DS,fun v q=>by cases (show Data.seq _ _=Data.cell v from q)⟩
  have hpl:∀ p∈[(s2.heap.objs.size,LCg.lst its)],s2.heap.objs.size≤p.1:=fun p hp=>by
   have e:p=(s2.heap.objs.size,LCg.lst its):=by simpa using hp
   subst e;exact Zb _
  rcases turn i n ys H' wz with ⟨stop,hz,q⟩ | ⟨go,hz,step⟩
  ·refine thn (TT'.done Y rfl rfl rfl hc i _ z _ H' _ IP (fpo frz hpl) stz stop) fun r z1 ⟨hr,I1⟩=>?_;subst hr;have g1:z1.heap.get? s2.heap.objs.size=some (LCg.lst its):=(I1.pin (s2.heap.objs.size,LCg.lst its) (by simp [Y,cxComp])).1;obtain ⟨mC,hnC,_⟩:=I1.loc;have out:=comp_out S I f2 (Zb _) hCle hDC I1 fD rv hz g1;refine hR _ _ z1 _ mC out ?_ ?_ ?_ ?_ ?_ hnC (q _ fD)
   ·rw [zA5 (Ne.symm hDC)];exact I1.free
   ·exact (Ze (Zf I.lt hCle)).symm
   ·exact Zk I.sz hCle
   ·intro x c hcc;obtain ⟨v,zc⟩:=I.cell x c hcc;exact Ze (Zf zc.lt hCle)
   ·intro p hp;exact Ze (Zf (Zc (I.pin p hp).1) hCle)
  ·refine thn (TT'.item Y rfl rfl rfl hc i _ z _ H' _ IP (fpo frz hpl) stz go) fun r z1 ⟨u,hr,h1'⟩=>?_;subst hr;refine thn h1' fun _ z2 ⟨x,H3,I3,r3,y3,st3,fr3⟩=>?_;have I3':=I3.pinned (fpo fr3 hpl) (TT'.obj _ _ st3);have fin:∀ {H':Hp}{σ':St}{z':Shared},Inv Y ([(s2.heap.objs.size,LCg.lst its)]++pinsAt fp z2.heap) σ' H' z'→tn (i + 1) z'.heap∧(∀ b∈fp,H' b=none)∧H' s2.heap.objs.size=none∧z'.heap.get? s2.heap.objs.size=some (LCg.lst its):=fun {H' σ' z'} I'=>by
    have a1:∀ b∈fp,∀ o,z2.heap.get? b=some o→z'.heap.get? b=some o∧H' b=none:=fun b hb o e =>
     let p:=I'.pin (b,o) (Zn _ (Zn _ (zCn hb e)))
     ⟨p.1,p.2.1⟩
    have a2:=I'.pin (s2.heap.objs.size,LCg.lst its) (Zn _ (by simp))
    exact ⟨TT'.keep _ _ _ st3 fun b hb o e=>(a1 b hb o e).1,fun b hb=>by
     obtain ⟨o,e,_⟩:=TT'.obj _ _ st3 b hb
     exact (a1 b hb o e).2,a2.2.1,a2.1⟩
   have bare:∀ {H':Hp}{σ':St}{z':Shared},Inv Y ([(s2.heap.objs.size,LCg.lst its)]++pinsAt fp z2.heap) σ' H' z'→Inv Y [] σ' H' z':=fun I'=>I'.pins_of fun p hp=>absurd hp (by simp);refine wpAny_mono (hg G.objs.size s2 H2 fp _ z2 _ H3 x u _ I3' r3 (step x H3 y3)) (fun _ z3 ⟨σ4,H4,I4,q4⟩=>?_) fun _ _ e=>e.elim;refine wpAny_mono (hf G.objs.size s2 H2 fp _ z3 _ H4 _ I4 q4) (fun ok z4 ⟨H5,I5,q5⟩=>?_) fun _ _ e=>e.elim;have lenσ : ∀ {H':Hp}{σ':St}{z':Shared}{pl},Inv Y pl σ' H' z'→(σ++List.replicate T.length none).length = σ'.length:=fun I'=>by rw [I'.len];exact IY.len
   have weak:∀ {H':Hp}{z':Shared},Inv Y [] σ4 H' z'→Inv Y [] (σ++List.replicate T.length none) H' z':=fun {H' z'} I'=>by
    have c0:=comp_inv (T:=T) (t1:=z'.toks) S I f2 fl hCle old hn1;obtain ⟨m',hn',hl'⟩:=I'.loc;obtain ⟨_,_,hl0⟩:=I.loc;refine ⟨I'.ok,I'.os,I'.bare,I'.base,⟨m',hn',fun j x v e1 e2 e3=>?_⟩,I'.cell,I'.free,I'.freeC,I'.pin,I'.hok,(lenσ I').trans I'.len⟩;have hj:j < σ.length:=by
     by_cases hj:j < σ.length
     ·exact hj
     ·rw [Zx (Nat.not_lt.mp hj),List.getElem?_replicate] at e2;split at e2 <;> cases e2
    have e2':=e2;rw [Zp hj] at e2';have e1':X.N[j]? = some x:=by
     have e:(X.N++T)[j]? = some x:=e1
     rwa [Zp (by rw [← I.len];exact hj)] at e
    have hx:x∈X.N:=Z3 e1';have e3':(compEnvC sc cl G.objs.size X.env).scope.names.lookup x=some .cell∨(compEnvC sc cl G.objs.size X.env).scope.names.lookup x=some .free:=by
     rcases e3 with z | z | z
     ·exact absurd z (S.local_out hx)
     ·exact .inl z
     ·exact .inr z
    obtain ⟨⟨c,hc'⟩,ko⟩:=S.seen e3';obtain ⟨u,r,l⟩:=hl0 j x v e1' e2' (.inr ko);have hcX:=S.cls.look x c hc';refine ⟨u,r,.inr ⟨e3',c,hc',?_⟩⟩;rcases l with ⟨kl,_⟩ | ⟨_,c',hc2,zc⟩
    ·have kl':X.env.scope.names.lookup x=some .local:=kl;rcases ko with q | q
     ·rw [q] at kl';cases kl'
     ·rw [q] at kl';cases kl'
    ·rw [hcX] at hc2;cases hc2;obtain ⟨o,ho,hd⟩:=zc;have nfp:c∉fp:=fun hb=>(f2 c hb).2.2.2.2.1 x c hcX rfl;obtain ⟨sl,e⟩:=I'.base.any ho (I.freeC x c hcX) nfp;exact ⟨_,e,hd⟩
   cases ok with
   | false =>
    rw [if_neg Zh] at q5 ⊢;obtain ⟨m',hm,w'⟩:=q5;obtain ⟨b1,b2,b3,b4⟩:=fin I5;exact ⟨m',hm,i + 1,ys,its,H5,weak (bare I5),b1,b2,b3,rv,b4,w'⟩
   | true =>
    rw [if_pos rfl] at q5 ⊢;refine wpAny_mono (he G.objs.size s2 H2 fp _ z4 _ H5 _ I5 q5) (fun y z5 ⟨yv,H6,I6,r6,q6⟩=>?_) fun _ _ e=>e.elim;obtain ⟨m',hm,w'⟩:=q6;obtain ⟨b1,b2,b3,b4⟩:=fin I6;refine append_at (hsz:=by show its.toArray.size≤sizeLine;rw [Z7,← rv.length];exact hz) b4 fun h6 sb6 g6=>?_
    have I7:Inv Y [] (σ++List.replicate T.length none) H6 { z5 with heap:=h6 }:=(weak (bare I6)).turned (t':=z5.toks) (it:=s2.heap.objs.size) (fun b o hb e=>(sb6.2 b hb).trans e) b3 hDC (.inr (Zb _)) (fun x c h=>by
     obtain ⟨v,zc⟩:=I.cell x c (S.cls.look x c h)
     exact Ze zc.lt) fun p hp=>absurd (show p∈([]:List (Addr×Obj)) from hp) (by simp)
    refine ⟨m',hm,i + 1,ys++[yv],its++[y],H6,I7,keepT _ _ _ b1 fun b o hb e=>(sb6.2 b (Ze hb)).trans e,b2,b3,rv.append (.cons r6 .nil),g6.trans (congrArg some (LCg.lst_snoc its y)),w'⟩
 exact codeAny_compStart_list (loop _ rfl) (TT'.self _ 0 _ _ _ (TT'.keep _ _ _ st fun b hb o e=>old b o e) (loop _ rfl))
theorem zAj (hc:X.calm=true) (S:ScOk X sc cl T) (hi:PI X tg iter wi)
  (hg:∀ C s H fp,PG (cxComp X sc cl T C s H fp) tg g) (hf:∀ C s H fp,PFs (cxComp X sc cl T C s H fp) ifs tt) (he:∀ C s H fp,PE (cxComp X sc cl T C s H fp) elt te)
  (hs:∀ x,foldedSetIterable iter X.env x=pure x:=by intro _;rfl):PE X (.ListComp elt [⟨tg,iter,ifs,0⟩] sc pos) (tComp T.length wi g tt te):=by
 intro pins s σ H Q I h;rw [eval_ListComp];refine wpAny_comprehension_free (use:=none) rfl hs S.clos S.kind S.names (thn (hi pins s σ H _ I h) fun v s1 h1=>thn h1 fun itv s2 h2=>?_);obtain ⟨it,fp,tn,J,H2,e,I2,TT',st2,f2,W,⟨m0,w0⟩,turn⟩:=h2;subst e;refine zD0 (Q:=Q) hc S hg hf he I2 TT' st2 f2 W m0 w0 turn fun D C z H1 m I1 n1 n2 n3 n4 n5 hn q=>?_;exact ⟨m,hn,fun h' sb=>⟨.ref D,H1,I1.turned (t':=z.toks) (it:=C) (fun b o hb e=>(sb.2 b hb).trans e) n1 n2 (.inr n3) n4 n5,rfl,q⟩⟩
theorem zB8 {i:Nat}{y:Str}{py spos:Pos} (hc:X.calm=true) (S:ScOk X sc cl T) (hi:PI X tg iter wi)
  (hg:∀ C s H fp,PG (cxComp X sc cl T C s H fp) tg g) (hf:∀ C s H fp,PFs (cxComp X sc cl T C s H fp) ifs tt) (he:∀ C s H fp,PE (cxComp X sc cl T C s H fp) elt te)
  (hN:X.N.Nodup) (hix:X.N[i]? = some y) (hx:X.env.scope.names.lookup y=some .local)
  (hsw:swapsWith (.ListComp elt [⟨tg,iter,ifs,0⟩] sc pos) (some (.Name y py)) spos.line X.env=pure true)
  (hs:∀ x,foldedSetIterable iter X.env x=pure x:=by intro _;rfl) :
  PS X (.Assign [.Name y py] (.ListComp elt [⟨tg,iter,ifs,0⟩] sc pos) spos) (tAsg (tComp T.length wi g tt te) (gName i)):=by
 intro pins s σ H D I h;rw [exec_Assign_Name_used _ _ _ _ hsw];refine wpAny_bind (wpAny_standAt (wpAny_bind ?_));show wpAny _ X.A (do let _ ← comprehension (.ListComp elt [⟨tg,iter,ifs,0⟩] sc pos) sc X.env _ (newList []) false (eval iter X.env) (some (assign (.Name y py) X.env))) _ _ s;refine wpAny_bind (thn (wpAny_comprehension_free (use:=some (assign (.Name y py) X.env)) (Q:=fun _ s'=>SP X pins D .next s') rfl hs S.clos S.kind S.names (thn (hi pins s σ H _ I h) fun v s1 h1=>thn h1 fun itv s2 h2=>?_)) fun _ s' hq=>wpAny_pure (wpAny_pure hq));obtain ⟨it,fp,tn,J,H2,e,I2,TT',st2,f2,W,⟨m0,w0⟩,turn⟩:=h2;subst e;refine zD0 (Q:=fun x H1=>gName i x σ H1 D.nx) hc S hg hf he I2 TT' st2 f2 W m0 w0 turn fun A C z H1 m I1 n1 n2 n3 n4 n5 hn q=>?_;show wpAny _ X.A (assign (.Name y py) X.env (.ref A)) _ _ z;refine wpAny_assign_Name (store_ok2 (v:=.ref A) I1 hN hix (.inl hx) rfl (fun z' I' ⟨a,sb,ha⟩=>?_) (.inr hx));have hCa:C≠a:=by
  rcases ha with e | e
  ·rw [e];exact n2
  ·exact (n4 y a e).symm
 refine ⟨m,hn.sameBut sb hCa,fun h' sb'=>⟨_,H1,I'.turned (t':=z'.toks) (it:=C) (fun b o hb e=>(sb'.2 b hb).trans e) n1 n2 (.inr n3) n4 n5,q⟩⟩
end
end L2
namespace L2
open PySem PySem.Spec PyProof.Rows
section
variable {X:Cx}
theorem v1 {x:V}{us:List Value} (r:Vals [x] us):∃ u,us=[u]∧RelV x u:=by
 cases r with
 | cons a b=>cases b;exact ⟨_,rfl,a⟩
theorem v2 {x y:V}{us:List Value} (r:Vals [x,y] us):∃ u v,us=[u,v]∧RelV x u∧RelV y v:=by
 cases r with
 | cons a b =>
  cases b with
  | cons c d=>cases d;exact ⟨_,_,rfl,a,c⟩
theorem zB4:CallR X (.builtin "isinstance") (fun xs H Q=>∃ x c t cv b,xs=[x,c]∧TyOf X.K H x t∧RelV c cv∧PySem.W.kitOne X.K t cv=some b∧Q (.bl b) H):=by
 intro pins s σ H xs us Q I r h;obtain ⟨x,c,t,cv,b,rfl,ty,rc,e,q⟩:=h;obtain ⟨u,v,rfl,ru,rv⟩:=v2 r;have hv:v=cv:=by
  cases c with
  | non=>exact (show v=Value.none from rv).trans (show cv=Value.none from rc).symm
  | bl z=>exact (show v=Value.bool z from rv).trans (show cv=Value.bool z from rc).symm
  | int i =>
   obtain ⟨t1,rfl⟩:=rc;exact absurd e (by unfold PySem.W.kitOne;cases ty <;> simp [PySem.W.kitCls])
  | str i =>
   obtain ⟨t1,rfl⟩:=rc;exact absurd e (by unfold PySem.W.kitOne;cases ty <;> simp [PySem.W.kitCls])
  | byt i =>
   obtain ⟨t1,rfl⟩:=rc;exact absurd e (by unfold PySem.W.kitOne;cases ty <;> simp [PySem.W.kitCls])
  | flt i =>
   obtain ⟨t1,rfl⟩:=rc;exact absurd e (by unfold PySem.W.kitOne;cases ty <;> simp [PySem.W.kitCls])
  | ref a=>exact (show v=Value.ref a from rv).trans (show cv=Value.ref a from rc).symm
  | ty n=>exact (show v=Value.type n from rv).trans (show cv=Value.type n from rc).symm
 subst hv;exact isinst_ok I ru ty e fun tk=>⟨.bl b,H,I.tok tk,rfl,q⟩
theorem bools_get:∀ {bs:List Bool}{us:List Value}{i:Nat}{v:Value},Vals (bs.map V.bl) us→us[i]? = some v→∃ b,bs[i]? = some b∧v=Value.bool b
 | [],_,i,v,.nil,h=>by simp at h
 | b :: r,_,0,v,.cons a t,h=>by
  simp at h;subst h;exact ⟨b,rfl,a⟩
 | b :: r,_,i + 1,v,.cons a t,h=>by
  obtain ⟨b',e,q⟩:=bools_get (bs:=r) (i:=i) t (by simpa using h);exact ⟨b',by simpa using e,q⟩
theorem all_range:∀ (bs:List Bool),((List.range bs.length).all fun i=>(bs[i]?).getD true)=bs.all id
 | []=>rfl
 | b :: r=>by
  rw [Zi,List.range_succ_eq_map,Ye,List.all_map,Ye];have e:=all_range r;simp only [Function.comp_def,List.getElem?_cons_succ,List.getElem?_cons_zero,Option.getD_some,id] at *;rw [← e]
theorem zD1 (hc:X.calm=true):CallR X (.builtin "all") (fun xs H Q=>∃ (p:Addr) (bs:List Bool),xs=[.ref p]∧SqL X.K H p (bs.map V.bl)∧Q (.bl (bs.all id)) H):=by
 intro pins s σ H xs us Q I r h;obtain ⟨p,bs,rfl,hp,q⟩:=h;obtain ⟨u,rfl,ru⟩:=v1 r;cases (show u=Value.ref p from ru);obtain ⟨its,rv,pl,hz⟩:=I.list hp;have hl:=pl.isList;have hlt:p < s.heap.objs.size:=by obtain ⟨_,e,_⟩:=hl;exact Zc e
 have hlen:its.length=bs.length:=by rw [← rv.length,Z0]
 refine call_all_walk (wpAny_pyIter_list hl ?_)
 refine ⟨s.heap.objs.size,[s.heap.objs.size,p],[s.heap.objs.size],its.toArray.size,_,_,fun i=>(bs[i]?).getD true,rfl,Walks.list (A:=X.A.in1) (I.ok.hd hc) _ p (Ze hlt) its.toArray,
  ⟨⟨_,Zg _ rfl,rfl,rfl⟩,hl.push _⟩,fun i v s' Q' E' hP hQ=>?_,fun h' tk hk=>?_⟩
 ·obtain ⟨b,e,rfl⟩:=bools_get rv (by simpa using hP);simp only [e,Option.getD_some] at hQ;exact wpAny_truthy_bool hQ
 ·rw [Z7,hlen,all_range];exact ⟨.bl _,H,I.kept (t':=tk) fun b o e=>hk b o (fun hm=>by rw [List.mem_singleton.mp hm] at e;exact Yd _ (Zc e)) (Z2 _ e),rfl,q⟩
noncomputable def Its (x:Str):It:=⟨fun i _=>i < x.length,fun i H v H'=>H'=H∧∃ c,x.cps[i]? = some c∧v=.str ⟨#[c]⟩,fun i _=>x.length≤i⟩
noncomputable def iStr (tl:TE):TI:=fun σ H R=>tl σ H fun v H1=>∃ x,v=.str x∧R (Its x) H1
theorem turn_str {P:Program}{w:World}{K:PySem.W.Frag}{y:Str}{py:Pos}{x:Str}{it:Addr}{St:Nat→Heap→Prop} (ho:∀ i h,St i h→∃ o,h.get? it=some o∧∀ v,o.data≠.cell v)
  (W:∀ A':Around,A'.handled=none→Walks P w A' it [it] [it] x.cps.size (SignAt x) St) (hself:∀ (A:Around) (i:Nat) (s:Shared) (Q:Value→Shared→Prop) (E:Value→Shared→Prop),St i s.heap→Q (.ref it) s→wpAny (model P w) A (pyIter (.ref it)) Q E s)
  (hst:∀ i h,St i h→i≤x.cps.size→True):Turn P w K (.Name y py) (Its x) [it] it (fun i h=>i≤x.cps.size∧St i h) where
 mem:=by simp
 obj:=fun i h st b hb=>by
  have e:b=it:=by simpa using hb
  subst e;exact ho i h st.2
 keep:=fun i h h' st k=>⟨st.1,(W { callerA with handled:=none } rfl).frame i h h' st.2 k⟩
 item:=by
  intro X hP hw hK hc i pins s σ H E I hf st hg;subst hP hw hK;obtain ⟨f0,f1,f2,f3,f4,f5⟩:=hf it (by simp);refine (W X.A (I.ok.hd hc)).item i s _ _ hg st.2 fun v h' tk hv st' kk=>?_;obtain ⟨c,u,hc',rfl⟩:=hv;have I1:Inv X pins σ H { s with heap:=h',toks:=tk }:=I.turned (fun b o hb e=>kk b o (by simpa using hb) e) f0 f1 f3 f4 f5;exact ⟨_,rfl,wpAny_pure ⟨.str ⟨#[c]⟩,H,I1,⟨u,rfl⟩,⟨rfl,c,hc',rfl⟩,⟨hg,st'⟩,fun b hb=>(hf b hb).1⟩⟩
 done:=by
  intro X hP hw hK hc i pins s σ H E I hf st hg;subst hP hw hK;obtain ⟨f0,f1,f2,f3,f4,f5⟩:=hf it (by simp);have e:i=x.cps.size:=Nat.le_antisymm st.1 hg;have st2:=st.2;rw [e] at st2;exact (W X.A (I.ok.hd hc)).done s _ _ st2 fun h' tk kk=>⟨rfl,I.turned (fun b o hb e=>kk b o (by simpa using hb) e) f0 f1 f3 f4 f5⟩
 self:=fun A i s Q E st h=>hself A i s Q E st.2 h
theorem pi_str {y:Str}{py:Pos}{l:Expr}{tl:TE} (hl:PE X l tl):PI X (.Name y py) l (iStr tl):=by
 intro pins s σ H R I h;refine thn (hl pins s σ H _ I h) fun v s1 ⟨x,H1,I1,r1,q1⟩=>?_;obtain ⟨z,rfl,q⟩:=q1;obtain ⟨t,rfl⟩:=r1;have fin:∀ {o:Obj}{St:Nat→Heap→Prop},Turn X.prog X.w X.K (.Name y py) (Its z) [s1.heap.objs.size] s1.heap.objs.size St→St 0 (s1.heap.push o)→PIE X pins σ (.Name y py) R (.ref s1.heap.objs.size) { s1 with heap:=s1.heap.push o }:=fun {o St} T st=>by
  refine ⟨s1.heap.objs.size,[s1.heap.objs.size],St,_,H1,rfl,I1.kept (t':=s1.toks) fun b o e=>Z2 _ e,T,st,fun b hb=>?_,q⟩;have e:b=s1.heap.objs.size:=by simpa using hb
  subst e;exact I1.fpOk (Zb _) (I1.hok.fresh (Zb _))
 cases ha:z.cps.all (· < 128)
 ·refine wpAny_pyIter_wide ha (fin (turn_str (fun i h st=>?_) (fun A' hA=>Walks.strWide hA _ z t) (fun A i s Q E st h=>wpAny_pyIter_striter_wide st h) fun _ _ _ _=>trivial) ⟨Zm _,⟨_,Zg _ rfl,rfl,rfl⟩⟩);obtain ⟨o,e,c,d⟩:=st;exact ⟨o,e,fun v q=>by rw [d] at q;cases q⟩
 ·refine wpAny_pyIter_ascii ha (fin (turn_str (fun i h st=>?_) (fun A' hA=>Walks.strAscii hA _ z t) (fun A i s Q E st h=>wpAny_pyIter_striter_ascii st h) fun _ _ _ _=>trivial) ⟨Zm _,⟨_,Zg _ rfl,rfl,rfl⟩⟩);obtain ⟨o,e,c,d⟩:=st;exact ⟨o,e,fun v q=>by rw [d] at q;cases q⟩
end
section
variable {X:Cx}{CX:CXT}{k:Nat}{f C:Addr}{fd:FuncData}{ps ks:List Str}{sp:Sp}{E:St→XK}{x:Str}{p pos:Pos}{e:Expr}{es:List Expr}{kws:List Keyword}{t tk:TA}{g:List Value→List Value→List Value}{gV:List V→List V→List V}
end
end L2
namespace L2
open PySem PySem.Spec PyProof.Rows
theorem log2_lt64 {j:Int} (h0:0 < j) (h1:j < 2 ^ 64):j.natAbs.log2 < 9000:=by
 have:j.natAbs < 2 ^ 64:=by omega
 have h:j.natAbs.log2 < 64:=(Nat.log2_lt (by omega)).mpr this;omega
noncomputable def CDivB (i j:Int):Prop:=0 < j∧j < 2 ^ 64
theorem op_fdivB {X:Cx}:OpR X (binaryOp .FloorDiv) (rI CDivB fun i j=>.int (i / j)):=opI fun i j _ _ _ _ _ hc q=>by
 have h1:(0:Int) < j:=hc.1;exact floordiv_int (by omega) (by rw [Int.fdiv_eq_ediv_of_nonneg i (by omega)];exact q) (.inl (PyProof.noPylong_of_log2 (log2_lt64 hc.1 hc.2)))
mutual
inductive Has (G:Addr→Prop) (H:Hp):V→PyData→Prop where
 | non:Has G H .non .none
 | bl (b:Bool):Has G H (.bl b) (.bool b)
 | int (i:Int):Has G H (.int i) (.int i)
 | str (x:Str) (hx:x.length≤1000) (ho:PyData.strOk x=true):Has G H (.str x) (.str x)
 | lst {a:Addr}{xs:List V}{ds:List PyData}:G a→H a=some (.lst xs)→xs.length≤1000→HasAll G H xs ds→Has G H (.ref a) (.list ds)
 | tup {a:Addr}{xs:List V}{ds:List PyData}:G a→H a=some (.tup xs)→xs.length≤1000→HasAll G H xs ds→Has G H (.ref a) (.tuple ds)
inductive HasAll (G:Addr→Prop) (H:Hp):List V→List PyData→Prop where
 | nil:HasAll G H [] []
 | cons {x:V}{xs:List V}{d:PyData}{ds:List PyData}:Has G H x d→HasAll G H xs ds→HasAll G H (x :: xs) (d :: ds)
end
noncomputable abbrev Any:Addr→Prop:=fun _=>True
noncomputable def isSeq:HO→Prop
 | .lst _=>True
 | .tup _=>True
 | _=>False
mutual
theorem Has.frameS {G G':Addr→Prop}{H H':Hp} (e:∀ a o,G a→isSeq o→H a=some o→G' a∧H' a=some o):∀ {v:V}{d:PyData},Has G H v d→Has G' H' v d
 | _,_,.non=>.non
 | _,_,.bl b=>.bl b
 | _,_,.int i=>.int i
 | _,_,.str x hx ho=>.str x hx ho
 | _,_,.lst (xs:=xs) g s z h=>.lst (e _ (.lst xs) g trivial s).1 (e _ (.lst xs) g trivial s).2 z (HasAll.frameS e h)
 | _,_,.tup (xs:=xs) g s z h=>.tup (e _ (.tup xs) g trivial s).1 (e _ (.tup xs) g trivial s).2 z (HasAll.frameS e h)
theorem HasAll.frameS {G G':Addr→Prop}{H H':Hp} (e:∀ a o,G a→isSeq o→H a=some o→G' a∧H' a=some o):∀ {vs:List V}{ds:List PyData},HasAll G H vs ds→HasAll G' H' vs ds
 | _,_,.nil=>.nil
 | _,_,.cons h t=>.cons (Has.frameS e h) (HasAll.frameS e t)
end
theorem Has.frame {G G':Addr→Prop}{H H':Hp}{v:V}{d:PyData} (h:Has G H v d) (e:∀ a o,G a→H a=some o→G' a∧H' a=some o):Has G' H' v d:=h.frameS fun a o g _ q=>e a o g q
theorem HasAll.frame {G G':Addr→Prop}{H H':Hp}{v:List V}{d:List PyData} (h:HasAll G H v d) (e:∀ a o,G a→H a=some o→G' a∧H' a=some o):HasAll G' H' v d:=h.frameS fun a o g _ q=>e a o g q
theorem Has.mono {G:Addr→Prop}{H H':Hp}{v:V}{d:PyData} (h:Has G H v d) (e:Same H H'):Has G H' v d:=h.frame fun a o g q=>⟨g,e a o q⟩
theorem HasAll.mono {G:Addr→Prop}{H H':Hp}{v:List V}{d:List PyData} (h:HasAll G H v d) (e:Same H H'):HasAll G H' v d:=h.frame fun a o g q=>⟨g,e a o q⟩
theorem Has.any {G:Addr→Prop}{H:Hp}{v:V}{d:PyData} (h:Has G H v d):Has Any H v d:=h.frame fun _ _ _ q=>⟨trivial,q⟩
theorem HasAll.any {G:Addr→Prop}{H:Hp}{v:List V}{d:List PyData} (h:HasAll G H v d):HasAll Any H v d:=h.frame fun _ _ _ q=>⟨trivial,q⟩
section
variable {G:Addr→Prop}{H:Hp}
theorem HasAll.length:∀ {xs:List V}{ds:List PyData},HasAll G H xs ds→xs.length=ds.length
 | _,_,.nil=>rfl
 | _,_,.cons _ t=>by rw [Zi,Zi,HasAll.length t]
theorem HasAll.get:∀ {xs:List V}{ds:List PyData}{i:Nat}{x:V},HasAll G H xs ds→xs[i]? = some x→∃ d,ds[i]? = some d∧Has G H x d
 | _,_,i,x,.nil,h=>by simp at h
 | _,_,0,x,.cons a t,h=>by simp at h;subst h;exact ⟨_,rfl,a⟩
 | _,_,i + 1,x,.cons a t,h=>by
  obtain ⟨d,e,q⟩:=HasAll.get (i:=i) t (by simpa using h);exact ⟨d,by simpa using e,q⟩
theorem HasAll.snoc:∀ {xs:List V}{ds:List PyData}{x:V}{d:PyData},HasAll G H xs ds→Has G H x d→HasAll G H (xs++[x]) (ds++[d])
 | _,_,_,_,.nil,h=>.cons h .nil
 | _,_,_,_,.cons a t,h=>.cons a (HasAll.snoc t h)
theorem HasAll.append:∀ {xs ys:List V}{ds es:List PyData},HasAll G H xs ds→HasAll G H ys es→HasAll G H (xs++ys) (ds++es)
 | _,_,_,_,.nil,h=>h
 | _,_,_,_,.cons a t,h=>.cons a (HasAll.append t h)
theorem Has.list_inv {v:V}{ds:List PyData} (h:Has G H v (.list ds)):∃ a xs,v=.ref a∧G a∧H a=some (.lst xs)∧xs.length≤1000∧HasAll G H xs ds:=by
 cases h with
 | lst g s z q=>exact ⟨_,_,rfl,g,s,z,q⟩
theorem Has.tup_inv {v:V}{ds:List PyData} (h:Has G H v (.tuple ds)):∃ a xs,v=.ref a∧G a∧H a=some (.tup xs)∧xs.length≤1000∧HasAll G H xs ds:=by
 cases h with
 | tup g s z q=>exact ⟨_,_,rfl,g,s,z,q⟩
theorem Has.str_inv {v:V}{x:Str} (h:Has G H v (.str x)):v=.str x∧x.length≤1000∧PyData.strOk x=true:=by
 cases h with
 | str _ a b=>exact ⟨rfl,a,b⟩
mutual
theorem Has.lay:∀ {v:V}{d:PyData},Has G H v d→d.canLay0=true
 | _,_,.non=>rfl
 | _,_,.bl b=>rfl
 | _,_,.int i=>rfl
 | _,_,.str x _ ho=>ho
 | _,_,.lst _ _ _ h=>HasAll.lay h
 | _,_,.tup _ _ _ h=>HasAll.lay h
theorem HasAll.lay:∀ {vs:List V}{ds:List PyData},HasAll G H vs ds→PyData.canLayAll0 ds=true
 | _,_,.nil=>rfl
 | _,_,.cons h t=>by
  show (PyData.canLay0 _ && PyData.canLayAll0 _)=true;rw [Has.lay h,HasAll.lay t];rfl
end
end
section
variable {X:Cx}{pins:List (Addr×Obj)}{σ : St}{H:Hp}{s:Shared}{G:Addr→Prop}
mutual
theorem Has.reads (I:Inv X pins σ H s):∀ {v:V}{d:PyData}{u:Value},Has G H v d→RelV v u→∃ as,Reads s.heap u d as
 | _,_,u,.non,r=>by cases (show u=Value.none from r);exact ⟨_,.none⟩
 | _,_,u,.bl b,r=>by cases (show u=Value.bool b from r);exact ⟨_,.bool b⟩
 | _,_,u,.int i,r=>by obtain ⟨t,rfl⟩:=(show ∃ t,u=Value.int i t from r);exact ⟨_,.int i t⟩
 | _,_,u,.str x _ _,r=>by obtain ⟨t,rfl⟩:=(show ∃ t,u=Value.str x t from r);exact ⟨_,.str x t⟩
 | _,_,u,.lst (a:=a) _ q _ h,r=>by
  cases (show u=Value.ref a from r);obtain ⟨_,its,n,rv,e⟩:=I.hok a _ q;obtain ⟨as,ra⟩:=HasAll.reads I h rv;exact ⟨_,.list e rfl rfl (by simpa using ra)⟩
 | _,_,u,.tup (a:=a) _ q _ h,r=>by
  cases (show u=Value.ref a from r);obtain ⟨_,its,rv,⟨o,e,c,n,d⟩⟩:=I.hok a _ q;obtain ⟨as,ra⟩:=HasAll.reads I h rv;exact ⟨_,.tuple e c d (by simpa using ra)⟩
theorem HasAll.reads (I:Inv X pins σ H s):∀ {vs:List V}{ds:List PyData}{us:List Value},HasAll G H vs ds→Vals vs us→∃ as,ReadsAll s.heap us ds as
 | _,_,_,.nil,.nil=>⟨_,.nil⟩
 | _,_,_,.cons h t,.cons r rr=>by
  obtain ⟨as,ra⟩:=Has.reads I h r;obtain ⟨bs,rb⟩:=HasAll.reads I t rr;exact ⟨_,.cons ra rb⟩
end
end
theorem Has.shaped {G:Addr→Prop}{H:Hp}{v:V}{d:PyData} (h:Has G H v d) (hd:d.depth≤64):SeqAt.shaped d=true:=by
 unfold SeqAt.shaped;rw [h.lay,decide_eq_true hd];rfl
noncomputable def rEqD:R2:=fun x y H Q=>∃ d e,Has Any H x d∧Has Any H y e∧d.depth≤64∧e.depth≤64∧Q (.bl (PyData.eqv d e)) H
noncomputable def rNeD:R2:=fun x y H Q=>∃ d e,Has Any H x d∧Has Any H y e∧d.depth≤64∧e.depth≤64∧Q (.bl (!PyData.eqv d e)) H
theorem op_eqD {X:Cx} (hu:X.A.units + 64 < cLine):OpR X (compareOp .Eq) rEqD:=by
 intro pins s σ H x y u v Q I rx ry h;obtain ⟨d,e,hd,he,sd,se,q⟩:=h;obtain ⟨as,ra⟩:=hd.reads I rx;obtain ⟨bs,rb⟩:=he.reads I ry;exact eq_dataH ra rb (hd.shaped sd) (he.shaped se) hu ⟨.bl _,H,I,rfl,q⟩
theorem op_neD {X:Cx} (hu:X.A.units + 64 < cLine):OpR X (compareOp .NotEq) rNeD:=by
 intro pins s σ H x y u v Q I rx ry h;obtain ⟨d,e,hd,he,sd,se,q⟩:=h;obtain ⟨as,ra⟩:=hd.reads I rx;obtain ⟨bs,rb⟩:=he.reads I ry;exact ne_dataH ra rb (hd.shaped sd) (he.shaped se) hu ⟨.bl _,H,I,rfl,q⟩
theorem Has.eqv {G:Addr→Prop}{H:Hp}{v:V}{d:PyData} (h:Has G H v d):PyData.eqv d d=true:=SeqAt.eqv_refl d h.lay
section
variable {κ : Type} [DecidableEq κ]
noncomputable def dstep (acc:List κ) (x : κ):List κ:=if x∈acc then acc else acc++[x]
noncomputable def dl (l:List κ):List κ:=l.foldl dstep []
theorem dl_snoc (l:List κ) (x : κ):dl (l++[x])=dstep (dl l) x:=by unfold dl;rw [List.foldl_append];rfl
theorem zBv:∀ (l acc:List κ) (k : κ),k∈l.foldl dstep acc ↔ k∈acc∨k∈l
 | [],acc,k=>by simp
 | x :: r,acc,k=>by
  rw [Y1,zBv r];unfold dstep;by_cases h:x∈acc
  ·rw [if_pos h];constructor
   ·rintro (a | a)
    ·exact .inl a
    ·exact .inr (Z5 _ a)
   ·rintro (a | a)
    ·exact .inl a
    ·rcases List.mem_cons.mp a with rfl | a
     ·exact .inl h
     ·exact .inr a
  ·rw [if_neg h];simp only [List.mem_append,Ym,Yc,or_false];constructor
   ·rintro ((a | a) | a)
    ·exact .inl a
    ·exact .inr (.inl a)
    ·exact .inr (.inr a)
   ·rintro (a | a | a)
    ·exact .inl (.inl a)
    ·exact .inl (.inr a)
    ·exact .inr a
theorem mem_dl {l:List κ}{k : κ}:k∈dl l ↔ k∈l:=by unfold dl;rw [zBv];simp
theorem zBa:∀ (l acc:List κ),(l.foldl dstep acc).length≤acc.length + l.length
 | [],acc=>Zb _
 | x :: r,acc=>by
  rw [Y1];refine Zk (zBa r _) ?_;unfold dstep;split
  ·rw [Zi];omega
  ·simp only [Z8,Zi,Yf];omega
theorem dl_len_le (l:List κ):(dl l).length≤l.length:=by have:=zBa l [];simpa [dl] using this
theorem zBj:∀ (l acc:List κ),(∀ x∈l,x∉acc)→l.Nodup→(l.foldl dstep acc).length=acc.length + l.length
 | [],acc,_,_=>rfl
 | x :: r,acc,h,hn=>by
  obtain ⟨h1,h2⟩:=List.nodup_cons.mp hn;have hx:x∉acc:=h x Zd;rw [Y1,show dstep acc x=acc++[x] from if_neg hx,zBj r _ (fun y hy m=>?_) h2]
  ·simp;omega
  ·rcases List.mem_append.mp m with m | m
   ·exact h y (Z5 _ hy) m
   ·rw [List.mem_singleton.mp m] at hy;exact h1 hy
theorem zBw:∀ (l acc:List κ),((∃ x∈l,x∈acc)∨¬ l.Nodup)→(l.foldl dstep acc).length < acc.length + l.length
 | [],acc,h=>by
  rcases h with ⟨x,hx,_⟩ | h
  ·simp at hx
  ·exact absurd List.nodup_nil h
 | x :: r,acc,h=>by
  rw [Y1];by_cases hx:x∈acc
  ·rw [show dstep acc x=acc from if_pos hx];have:=zBa r acc;simp only [Zi];omega
  ·rw [show dstep acc x=acc++[x] from if_neg hx];have ih:=zBw r (acc++[x]) ?_
   ·simp only [Z8,Zi,Yf] at *;omega
   ·rcases h with ⟨y,hy,ha⟩ | h
    ·rcases List.mem_cons.mp hy with rfl | hy
     ·exact absurd ha hx
     ·exact .inl ⟨y,hy,Y3 _ ha⟩
    ·by_cases hr:x∈r
     ·exact .inl ⟨x,hr,by simp⟩
     ·exact .inr fun z=>h (List.nodup_cons.mpr ⟨hr,z⟩)
theorem dl_len_iff (l:List κ):decide ((dl l).length=l.length)=decide l.Nodup:=by
 by_cases h:l.Nodup
 ·have:=zBj l [] (fun _ _ z=>by simp at z) h;rw [decide_eq_true h,decide_eq_true (by simpa [dl] using this)]
 ·have:=zBw l [] (.inr h);rw [decide_eq_false h,decide_eq_false (by simp [dl] at *;omega)]
variable {prog:Program}{w:World}{A:Around}{R:Result→Shared→Prop}{I:Addr}{fp wr:List Addr}{n:Nat}{P:Nat→Value→Prop}{St:Nat→Heap→Prop}
theorem SetOf_eqv {knd:KeyKind prog w κ}{h:Heap}{a:Addr}{S S' : κ→Bool}{m m':Nat} (x:h.SetOf knd a S m) (e:∀ k,S k=S' k) (em:m=m'):h.SetOf knd a S' m':=by
 have e':S=S':=funext e;subst e' em;exact x
theorem set_loopK (W:Walks prog w A.in1 I fp wr n P St) {D:Addr} (hD:D∉fp) {knd:KeyKind prog w κ}{ks:List κ} (hn:ks.length=n) (hval:∀ i v k,P i v→ks[i]? = some k→knd.is k v=true∧v.scannable=true) (hb:n + 1 < scanBound) :
  ∀ (j i:Nat) (z:Shared),n - i=j→i≤n→St i z.heap→z.heap.SetOf knd D (fun k=>decide (k∈ks.take i)) (dl (ks.take i)).length →
   (∀ h' tk,(∀ b o,b∉D :: wr→z.heap.get? b=some o→h'.get? b=some o)→h'.SetOf knd D (fun k=>decide (k∈ks)) (dl ks).length→R (.ok (.ret .none)) { z with heap:=h',toks:=tk }) →
   codeAny (model prog w) A (.builtin "set.update.loop" ⟨[.ref D,.ref I],[]⟩) R z:=by
 have hDw:D∉wr:=fun h=>hD (W.sub _ h);intro j
 induction j with
 | zero =>
  intro i z hj hi st hS hR;obtain rfl:i=n:=by omega
  refine codeAny_builtin PyProof.Rows.F.entry_set_update_loop ?_;rw [Around.under_plainId PyProof.Rows.F.plain_set_update_loop _];show wpAny _ A.in1 (pyNext (.ref I) >>= _) _ _ z;refine wpAny_bind (W.done z _ _ st fun h' tk kk=>?_);rw [List.take_of_length_le (Nat.le_of_eq hn)] at hS;obtain ⟨o,es,ep,t,ho,more⟩:=hS;exact wpAny_pure (hR h' tk (fun b o hb e=>kk b o (fun m=>hb (Z5 _ m)) e) ⟨o,es,ep,t,kk D _ hDw ho,more⟩)
 | succ j ih =>
  intro i z hj hi st hS hR;have lt:i < n:=by omega
  refine codeAny_builtin PyProof.Rows.F.entry_set_update_loop ?_;rw [Around.under_plainId PyProof.Rows.F.plain_set_update_loop _];show wpAny _ A.in1 (pyNext (.ref I) >>= _) _ _ z;refine wpAny_bind (W.item i z _ _ lt st fun v h1 tk1 hP st1 k1=>?_);have hk:ks[i]? = some (ks[i]'(by omega)):=Z1 _;obtain ⟨hv,hs⟩:=hval i v _ hP hk;obtain ⟨o,es,ep,t,ho,more⟩:=hS;have hS1:h1.SetOf knd D (fun k=>decide (k∈ks.take i)) (dl (ks.take i)).length:=⟨o,es,ep,t,k1 D _ hDw ho,more⟩;show wpAny _ A.in1 (holding [v] (setAdd D v) >>= _) _ _ _;refine wpAny_bind (wpAny_holding ?_);unfold setAdd;refine wpAny_holding (wpAny_bind (knd.pyHash hv ?_));have room:(dl (ks.take i)).length + 1 < scanBound:=by
   have a1:=dl_len_le (ks.take i);have a2:(ks.take i).length≤i:=Zw _ _;omega
  refine wpAny_setAddHashed_of (knd:=knd) (s:={ z with heap:=h1,toks:=tk1 + 1 }) hv hs hS1 room fun h2 sb2 hS2=>?_;have et:ks.take (i + 1)=ks.take i++[ks[i]'(by omega)]:=by rw [Z4,hk];rfl
  have hS3:h2.SetOf knd D (fun k=>decide (k∈ks.take (i + 1))) (dl (ks.take (i + 1))).length:=by
   refine SetOf_eqv hS2 (fun k=>?_) ?_
   ·rw [et,Y7];simp only [Bool.or_eq_true,decide_eq_true_eq,List.mem_append,List.mem_singleton]
   ·rw [et,dl_snoc];unfold dstep;by_cases q:ks[i]'(by omega)∈ks.take i
    ·rw [if_pos (by simpa using q),if_pos (mem_dl.mpr q)]
    ·rw [if_neg (by simpa using q),if_neg (fun z=>q (mem_dl.mp z)),Z8,List.length_singleton]
  refine wpAny_pure ⟨plainId_quiet PyProof.Rows.F.plain_set_update_loop _,ih (i + 1) _ (by omega) lt (W.frame _ h1 _ st1 fun b hb o e=>?_) hS3 fun h' tk kk hS'=>hR h' tk (fun b o hb e=>kk b o hb ?_) hS'⟩
  ·rw [sb2.2 b (fun q:b=D=>hD (by rw [← q];exact hb))];exact e
  ·rw [sb2.2 b (fun q:b=D=>hb (by rw [q];exact Zd))];exact k1 b o (fun m=>hb (Z5 _ m)) e
end
end L2
namespace L2
open PySem PySem.Spec PyProof.Rows
noncomputable abbrev bareSet (b:Bool):Obj:={ cls:=.type "set",dict:=none,data:=.set #[] 0 (.fresh 0 0 b) }
section
variable {κ : Type} [DecidableEq κ] {prog:Program}{w:World}{A:Around}{E:Value→Shared→Prop}{z:Shared}
noncomputable def SetMade (knd:KeyKind prog w κ) (ks:List κ) (z:Shared) (r:Value) (z':Shared):Prop :=
 r=.none∧∃ h' tk,z'={ z with heap:=h',toks:=tk }∧h'.SetOf knd z.heap.objs.size (fun k=>decide (k∈ks)) (dl ks).length∧∀ b o,b < z.heap.objs.size→z.heap.get? b=some o→h'.get? b=some o
set_option maxHeartbeats 6400000 in
theorem call_setK {knd:KeyKind prog w κ}{l:Addr}{its:Array Value}{ks:List κ}{Q:Value→Shared→Prop} (hh:A.handled=none) (hl:z.heap.IsList l its) (hn:ks.length=its.size)
  (hv:∀ (i:Nat) (v:Value) (k : κ),its[i]? = some v→ks[i]? = some k→knd.is k v=true∧v.scannable=true) (hb:its.size + 1 < scanBound)
  (h:∀ z',SetMade knd ks z .none z'→Q (.ref z.heap.objs.size) z'):wpAny (model prog w) A (call (.type "set") [.ref l]) Q E z:=by
 obtain ⟨mc,mt,m0⟩:=PySem.F.called_set.mro;have m1:=PySem.F.called_set.made;have m2:=PySem.F.called_set.sub;refine wpAny_call (codeAny_of_tree ?_);show wpAny _ _ (callAny (.type "set") _) _ _ _;refine wpAny_pure ⟨Code.quiet_builtin _ (by decide +kernel),codeAny_builtin PySem.F.entry_type_call ?_⟩;rw [Around.under_plain (weight_type_call_type "set" [.ref l] []) rfl];have m3:=PySem.F.called_set.notType;have m4:=PySem.F.called_set.canCreate;have m5:=PySem.F.typeCall_set_1 (.ref l)
 repeat (any_goals (first | assumption | wp_step))
 refine codeAny_mono (code_set_new_1 (.ref l) (E:=E) (Q₁:=fun r z1=>∃ b:Bool,r=.ref z.heap.objs.size∧z1={ z with heap:=z.heap.push (bareSet b) }) fun b=>⟨b,rfl,rfl⟩) fun r z1 hr=>?_;cases r with
 | error e=>exact hr
 | ok fl =>
  cases fl with
  | next=>exact hr.elim
  | brk=>exact hr.elim
  | cont=>exact hr.elim
  | ret r =>
   obtain ⟨b,rfl,rfl⟩:=hr;have g0:(z.heap.push (bareSet b)).get? z.heap.objs.size=some (bareSet b):=Zg _ rfl;have ty:Shared.TypeIs { z with heap:=z.heap.push (bareSet b) } (.ref z.heap.objs.size) "set":=⟨_,g0,rfl⟩;have i1:=PySem.F.called_set.init.lookup;have i2:=PySem.F.called_set.init.bind (.ref z.heap.objs.size)
   repeat (any_goals (first | assumption | wp_step))
   refine codeAny_mono (codeAny_call_builtin (R:=wants (SetMade knd ks z) E) PySem.F.called_set.init.plain PySem.F.entry_set_init (check_set_init_1 ty ?_)) fun r2 z2 hr2=>?_
   ·obtain ⟨⟨oc,od,odt,osl⟩,ho,c1,nl,d1⟩:=hl;simp only at c1 d1;subst c1 d1;have ho1:(z.heap.push (bareSet b)).get? l=some { cls:=.type "list",dict:=od,data:=.seq its nl,slots:=osl }:=Z2 _ ho;have s1:=PySem.F.sub_list_set;have s2:=PySem.F.sub_list_frozenset;have s3:(Value.type "list" == Value.type "dict")=false:=by decide
    have hl1:(z.heap.push (bareSet b)).IsList l its:=⟨_,ho1,rfl,nl,rfl⟩;unfold Builtin.«set.__init__» noKeywords Builtin.Frozenset.updateFrom;generalize ePI:pyIter=PI
    wp_walk
    subst ePI;refine wpAny_pyIter_list hl1 ?_;refine wpAny_bind (wpAny_runValue ?_);have lt:l < z.heap.objs.size:=Zc ho;have sz1:(z.heap.push (bareSet b)).objs.size=z.heap.objs.size + 1:=Yj _ _;have neI:l≠(z.heap.push (bareSet b)).objs.size:=by rw [sz1];exact Ze (Yk lt)
    have nD:z.heap.objs.size∉[(z.heap.push (bareSet b)).objs.size,l]:=by
     rw [sz1];simp only [Ym,Yc,or_false,not_or];exact ⟨Ze (Yb _),Nat.ne_of_gt lt⟩
    refine set_loopK (Walks.list (by simp [hh]) _ l neI its) nD (knd:=knd) (ks:=ks) hn hv hb (its.size - 0) 0 _ (by omega) (Zm _) ⟨⟨_,Zg _ rfl,rfl,rfl⟩,hl1.push _⟩ ?_ fun h' tk kk hS=>?_
    ·refine SetOf_eqv ((PyProof.Rows.setObjOf_fresh (knd:=knd) b).setOf (Z2 _ g0) (by unfold scanBound;omega)) (fun k=>?_) rfl;simp
    ·show wpAny _ _ _ _ _ _;refine wpAny_pure ?_;show wpAny _ _ (ret Value.none) _ _ _;refine wpAny_pure ⟨rfl,h',tk,rfl,hS,fun c o hc e=>kk c o ?_ (Z2 _ (Z2 _ e))⟩;rw [sz1];simp only [Ym,Yc,or_false,not_or];exact ⟨Ze hc,Ze (Yk hc)⟩
   ·cases r2 with
    | error e=>exact hr2
    | ok fl2 =>
     cases fl2 with
     | next=>exact hr2.elim
     | brk=>exact hr2.elim
     | cont=>exact hr2.elim
     | ret r =>
      have hs:=hr2;obtain ⟨rfl,h',tk,rfl,hS,kk⟩:=hr2
      repeat (any_goals (first | assumption | wp_step))
      exact h _ hs
end
noncomputable def SetS (P:Program) (w:World) (p:Addr) (ks:List Str):HO:=.ext fun h=>h.SetOf (strKind P w) p (fun k=>decide (k∈ks)) (dl ks).length
section
variable {X:Cx}
theorem strs_get:∀ {ks:List Str}{us:List Value}{i:Nat}{v:Value}{k:Str},Vals (ks.map V.str) us→us[i]? = some v→ks[i]? = some k→∃ t,v=Value.str k t
 | [],_,i,v,k,.nil,h,_=>by simp at h
 | b :: r,_,0,v,k,.cons a t,h,hk=>by
  simp at h hk;subst h hk;exact a
 | b :: r,_,i + 1,v,k,.cons a t,h,hk=>strs_get (ks:=r) (i:=i) t (by simpa using h) (by simpa using hk)
theorem zF2 (hc:X.calm=true):CallR X (.type "set") (fun xs H Q=>∃ (p:Addr) (ks:List Str),xs=[.ref p]∧SqL X.K H p (ks.map V.str)∧ks.length≤4000∧∀ d,H d=none→Q (.ref d) (upd H d (SetS X.prog X.w d ks))):=by
 intro pins s σ H xs us Q I r h;obtain ⟨p,ks,rfl,hp,hz,q⟩:=h;obtain ⟨u,rfl,ru⟩:=v1 r;cases (show u=Value.ref p from ru);obtain ⟨its,rv,pl,_⟩:=I.list hp;have hlen:its.length=ks.length:=by rw [← rv.length,Z0]
 refine call_setK (knd:=strKind X.prog X.w) (ks:=ks) (I.ok.hd hc) pl.isList (by rw [Z7,hlen]) (fun i v k h1 h2=>?_) (by rw [Z7,hlen];unfold scanBound;omega) fun z' hs=>?_
 ·obtain ⟨t,rfl⟩:=strs_get rv (by simpa using h1) h2;exact ⟨strKind_is _ _ _ _,rfl⟩
 ·obtain ⟨_,h',tk,rfl,hS,kk⟩:=hs;refine ⟨.ref s.heap.objs.size,_,I.laid (t':=tk) (a:=s.heap.objs.size) (o:=SetS X.prog X.w s.heap.objs.size ks) (fun b o e=>kk b o (Zc e) e) (Zb _) ?_,rfl,q _ (I.hok.fresh (Zb _))⟩;refine ⟨hS,?_,fun h1 h2 hs1 k12=>?_⟩
  ·obtain ⟨o,_,_,_,e,_⟩:=hS;exact ⟨o,e⟩
  ·obtain ⟨o,es,ep,t,e,more⟩:=hs1;exact ⟨o,es,ep,t,k12 o e,more⟩
theorem zCp:CallR X (.builtin "len") (fun xs H Q=>∃ (d:Addr) (ks:List Str),xs=[.ref d]∧H d=some (SetS X.prog X.w d ks)∧ks.length≤4000∧Q (.int (dl ks).length) H):=by
 intro pins s σ H xs us Q I r h;obtain ⟨d,ks,rfl,hd,hz,q⟩:=h;obtain ⟨u,rfl,ru⟩:=v1 r;cases (show u=Value.ref d from ru);obtain ⟨hS,_,_⟩:=I.hok d _ hd;obtain ⟨o,es,ep,t,e,hex,hdt,_,_,hb,hf,hn⟩:=hS;refine call_len_set e hex hdt hf ?_ ?_
 ·unfold scanBound at hb;omega
 ·rw [hn];exact ⟨.int _,H,I.tok _,⟨_,rfl⟩,q⟩
end
end L2
namespace L2
open PySem PySem.Spec PyProof.Rows
theorem ScOk.auto {X:Cx}{sc:Scope}{cl:List (Str×Addr)}{T:List Str} (h1:closureFor sc X.env=pure cl:=by rfl) (h2:(sc.names.all fun y=>y.2 != .cell)=true:=by rfl) (h3:sc.kind=.function:=by rfl)
  (h4:(sc.names.all fun x=>x.2 != .local || sc.names.lookup x.1 == some .local)=true:=by rfl)
  (h5:ClOk X cl:=by first | exact trivial | exact ⟨rfl,trivial⟩ | exact ⟨rfl,rfl,trivial⟩ | exact ⟨rfl,rfl,rfl,trivial⟩ | exact ⟨rfl,rfl,rfl,rfl,trivial⟩)
  (h6:(sc.names.all fun x=>x.2 != .free || ((cl.lookup x.1).isSome && (X.env.scope.names.lookup x.1 == some .cell || X.env.scope.names.lookup x.1 == some .free)))=true:=by rfl)
  (h7:(X.N.all fun x=>sc.names.lookup x != some .local)=true:=by rfl):ScOk X sc cl T where
 clos:=h1
 cell:=fun y hy=>by have:=List.all_eq_true.mp h2 y hy;simpa using this
 kind:=h3
 names:=fun x hx hl=>by
  have:=List.all_eq_true.mp h4 x hx;rw [hl] at this
  simpa using this
 cls:=h5
 has:=fun x hx hf=>by
  have:=List.all_eq_true.mp h6 x hx;rw [hf] at this
  simpa using this
 out:=fun x hx=>by have:=List.all_eq_true.mp h7 x hx;simpa using this
theorem comp_by {J:It}{n k:Nat}{σ : St}{H:Hp}{g:TG}{tt:TT}{te:TE}{Q:VK} (Pv:Nat→List V→Hp→Prop) (h0:Pv 0 [] H) (go:∀ i ys H,i < n→Pv i ys H→J.go i H) (stop:∀ ys H,Pv n ys H→J.stop n H)
  (hz:∀ i ys H,i≤n→Pv i ys H→ys.length≤sizeLine)
  (hs:∀ i ys H x H',i < n→Pv i ys H→J.yld i H x H'→∀ N:List V→Hp→Prop,(∀ ys H,Pv (i + 1) ys H→N ys H)→g x (σ++List.replicate k none) H' fun σ2 H2=>tt σ2 H2 fun b H3=>if b=true then te σ2 H3 fun y H4=>N (ys++[y]) H4 else N ys H3)
  (hd:∀ ys H,Pv n ys H→∀ p,H p=none→Q (.ref p) (upd H p (.lst ys))):CompGoal J k σ H g tt te Q:=by
 refine ⟨fun i m ys H=>m=n - i∧i≤n∧Pv i ys H,⟨n,by simp,Zm _,h0⟩,?_⟩;rintro i m ys H ⟨rfl,hi,p⟩;by_cases lt:i < n
 ·exact .inr ⟨go i ys H lt p,hz _ _ _ hi p,fun x H' y=>hs i ys H x H' lt p y (fun ys' H'=>∃ m',m' < n - i∧m'=n - (i + 1)∧i + 1≤n∧Pv (i + 1) ys' H') fun ys' H' q=>⟨n - (i + 1),by omega,rfl,lt,q⟩⟩
 ·obtain rfl:i=n:=by omega
  exact .inl ⟨stop _ _ p,hz _ _ _ hi p,hd _ _ p⟩
theorem comp_chars {x:Str}{k:Nat}{σ : St}{H:Hp}{g:TG}{tt:TT}{te:TE}{Q:VK} (p:Nat→Bool) (f:Nat→V) (hz:x.length≤sizeLine)
  (hs:∀ c (Ry:VK) (Rn:Hp→Prop),(p c=true→Ry (f c) H)→(p c=false→Rn H)→g (.str ⟨#[c]⟩) (σ++List.replicate k none) H fun σ2 H2=>tt σ2 H2 fun b H3=>if b=true then te σ2 H3 Ry else Rn H3)
  (hd:∀ q,H q=none→Q (.ref q) (upd H q (.lst ((x.cps.toList.filter p).map f)))):CompGoal (Its x) k σ H g tt te Q:=by
 have hlen:x.cps.toList.length=x.length:=by rw [Y5];rfl
 refine comp_by (J:=Its x) (n:=x.length) (fun i ys H'=>H'=H∧ys=((x.cps.toList.take i).filter p).map f) ⟨rfl,rfl⟩ (fun i ys H' lt _=>lt) (fun ys H' _=>Zb _) (fun i ys H' hi q=>?_) ?_ ?_
 ·obtain ⟨_,rfl⟩:=q;rw [Z0];have a:=Y9 p (x.cps.toList.take i);have b:=Zw i x.cps.toList;omega
 ·rintro i ys H' v H2 lt ⟨rfl,rfl⟩ ⟨rfl,c,hc,rfl⟩ N hN;have hc':x.cps.toList[i]? = some c:=by rw [Y4];exact hc
  refine hs c _ _ (fun e=>hN _ _ ⟨rfl,?_⟩) (fun e=>hN _ _ ⟨rfl,?_⟩)
  ·rw [Z4,hc',Y2];simp [e]
  ·rw [Z4,hc',Y2];simp [e]
 ·rintro ys H' ⟨rfl,rfl⟩ q hq;rw [← hlen,Za];exact hd q hq
theorem zAc {K:PySem.W.Frag}{a:Addr}{xs:List V}{k:Nat}{σ : St}{H:Hp}{g:TG}{tt:TT}{te:TE}{Q:VK} (Pv:Nat→List V→Hp→Prop) (h0:Pv 0 [] H) (hl:∀ i ys H,Pv i ys H→SqL K H a xs)
  (hz:∀ i ys H,i≤xs.length→Pv i ys H→ys.length≤sizeLine)
  (hs:∀ i x ys H,xs[i]? = some x→Pv i ys H→∀ N:List V→Hp→Prop,(∀ ys H,Pv (i + 1) ys H→N ys H)→g x (σ++List.replicate k none) H fun σ2 H2=>tt σ2 H2 fun b H3=>if b=true then te σ2 H3 fun y H4=>N (ys++[y]) H4 else N ys H3)
  (hd:∀ ys H,Pv xs.length ys H→∀ p,H p=none→Q (.ref p) (upd H p (.lst ys))):CompGoal (Itl K a) k σ H g tt te Q:=by
 refine comp_by (J:=Itl K a) (n:=xs.length) Pv h0 (fun i ys H lt p=>⟨xs,xs[i],hl i ys H p,Z1 lt⟩) (fun ys H p=>⟨xs,hl _ ys H p,Zb _⟩) hz ?_ hd;rintro i ys H x H' lt p ⟨rfl,y⟩ N hN;exact hs i x ys _ (y xs (hl _ _ _ p)) p N hN
theorem pick {A B:St→Hp→Prop}{σ : St}{H:Hp}{i:Nat}{x:V} (h:A (σ.set i (some x)) H):gName i x σ H fun σ2 H2=>tYes σ2 H2 fun b H3=>if b=true then A σ2 H3 else B σ2 H3:=by
 show if true=true then A (σ.set i (some x)) H else B (σ.set i (some x)) H
 rw [if_pos rfl];exact h
theorem Fun.okC {P:Program}{w:World}{K:PySem.W.Frag}{mg:Str→Option Value}{base:Heap}{CX:CXT}{x qual:Str}{st:Stmt}{f:Addr}{fd:FuncData}{N ps:List Str}{k:Nat}{sp:Sp} (F:Fun K x qual st f fd) (S:FnScope N ps (defScope st)) (len:∀ vs H Q E,sp vs H Q E→vs.length=ps.length)
  (hbody:∀ (cdv:Value) (A:Around) (outer:List Env) (s:Shared) (H:Hp) (vs:List V) (Q:VK) (E:XK),Room k (A.deeper (envOfC qual (defScope st) s.heap.objs.size f cdv))→sp vs H Q E →
   ∃ t,PSs (cxOf CX P w K mg base N qual (defScope st) f cdv A outer s H E).nox (defBody st) t∧t { nx:=fun _ H'=>Q .non H',rt:=Q } (start N vs) H):FnOk P w K mg base CX (k + 1) f fd ps sp:=by
 obtain ⟨oc,od,kV,doc,pm,an,cdv,ct,osl,rfl,lk,hcd⟩:=F.ex;refine fn_of lk hcd S len fun A outer s H vs Q E hr hsp=>?_;obtain ⟨t,h,q⟩:=hbody cdv A outer s H vs Q E hr hsp;exact ⟨t,h.nox,q⟩
noncomputable def Calm (CX:CXT):Prop:=∀ o H s e s',CX o H s (fun _ _ _=>False) e s'→False
theorem passC {CX:CXT} (h:Calm CX) {X:Cx}:Passes CX X E0:=fun _ _ _ _ _ _ _ q=>(h _ _ _ _ _ q).elim
structure Def (K:PySem.W.Frag) (mg:Str→Option Value) (x:Str) (st:Stmt) (ps:List Str) (f:Addr) (fd:FuncData):Prop where
 fn:Fun K x x st f fd
 at_:mg x=some (.ref f)
 bind:Binds K fd ps []
theorem Same.new {H:Hp}{p:Addr}{o:HO} (h:H p=none):Same H (upd H p o):=fun b u e=>by rw [zA5 (zA2 e h)];exact e
end L2
namespace L2
open PySem PySem.Spec PyProof.Rows
section
variable {X:Cx}{pins:List (Addr×Obj)}{σ : St}{H:Hp}{s:Shared}
end
section
variable {X:Cx}
end
end L2
namespace L2
open PySem PySem.Spec PyProof.Rows
section
variable {X:Cx}{K:PySem.W.Frag}{o e:Expr}{es:List Expr}{to ta tl:TE}{t:TA}{name f:Str}{apos cpos pos:Pos}{T id:String}{r:V→List V→Hp→VK→Prop}{tg:Expr}
theorem zBr (hK:X.K=K) (he:PE X e ta) (hb:attributeBase e f X.env (eval e X.env)=eval e X.env):PE X (.Attribute e f pos) (tFld K ta f):=by
 subst hK;exact zBs he hb
theorem zD5 (hK:X.K=K) {es:List Expr}{k:Nat}{t:TGs}{n:Nat} (hc:X.calm=true) (h:PGs X es t)
  (hn:(assignEach es X.env).length=n:=by rfl) (hst:(assignEach es X.env).findIdx? (·.1)=none:=by rfl):PG X (.Tuple es k pos) (gTup K n t):=by
 subst hK;exact zD6 hc h hn hst
end
end L2
namespace L2
open PySem PySem.Spec PyProof.Rows
end L2
namespace L2
open PySem PySem.Spec PyProof.Rows
section
variable {X:Cx}
noncomputable def rCat2 (K:PySem.W.Frag):R2:=fun x y H Q=>∃ a b xs ys,x=.ref a∧y=.ref b∧SqT K H a xs∧SqT K H b ys∧xs.length + ys.length≤sizeLine ∧
 (xs=[]→Q (.ref b) H)∧(xs≠[]→ys=[]→Q (.ref a) H)∧(xs≠[]→ys≠[]→∀ p,H p=none→Q (.ref p) (upd H p (.tup (xs++ys))))
theorem op_cat2 {K:PySem.W.Frag} (hK:X.K=K):OpR X (binaryOp .Add) (rCat2 K):=by
 subst hK;intro pins s σ H x y v u Q I rx ry h;obtain ⟨a,b,xs,ys,rfl,rfl,ha,hb,hz,q0,q1,q2⟩:=h;cases rx;cases ry;obtain ⟨its,r1,p1,_⟩:=I.tuple ha;obtain ⟨its2,r2,p2,_⟩:=I.tuple hb;by_cases hx:xs=[]
 ·obtain ⟨⟨cls,dd,data,sl⟩,ho,hc,n,hd⟩:=id p1;obtain ⟨⟨cls2,dd2,data2,sl2⟩,ho2,hc2,n2,hd2⟩:=id p2;simp only at hc hd hc2 hd2;subst hc hd hc2 hd2;have hv:its=[]:=r1.nil_iff.mpr hx;exact concat_meets ⟨_,ho,rfl⟩ ⟨_,ho2,rfl⟩ noFill_tuple_add seq_tuple_add PySem.F.slot_tuple_add PySem.F.entry_tuple_add (PySem.F.args_tuple_add_2 _ _)
   (tuple_addW0 a b its.toArray its2.toArray n n2 dd dd2 sl sl2 (by simp [hv])) ⟨ho,ho2,.ref b,H,I,rfl,q0 hx⟩
 ·refine HT.cat_tup p1 p2 (fun z=>hx (r1.nil_iff.mp z)) (fun z=>⟨.ref a,H,I,rfl,q1 hx (r2.nil_iff.mp z)⟩) (fun z=>?_) (by rw [← r1.length,← r2.length];exact hz);refine ⟨.ref s.heap.objs.size,_,I.laid (t':=s.toks) (o:=.tup (xs++ys)) (fun b ob q=>Z2 _ q) (Zb _) ?_,rfl,q2 hx (fun w=>z (r2.nil_iff.mpr w)) _ (I.hok.fresh (Zb _))⟩;exact ⟨by rw [Z8];exact hz,_,r1.append r2,IsTup.new _ _⟩
theorem cat2_by {K:PySem.W.Frag}{a b:Addr}{xs ys:List V}{H:Hp}{Q:VK} (ha:H a=some (.tup xs)) (hb:H b=some (.tup ys)) (hz:xs.length + ys.length≤sizeLine)
  (q:∀ p H',Same H H'→H' p=some (.tup (xs++ys))→Q (.ref p) H'):rCat2 K (.ref a) (.ref b) H Q:=by
 refine ⟨a,b,xs,ys,rfl,rfl,SqT.of ha,SqT.of hb,hz,fun e=>?_,fun _ e=>?_,fun _ _ p hp=>?_⟩
 ·subst e;exact q b H (Same.refl _) hb
 ·subst e;exact q a H (Same.refl _) (by rw [List.append_nil];exact ha)
 ·exact q p _ (Same.new hp) zA1
end
end L2
namespace L2
open PySem PySem.Spec PyProof.Rows
noncomputable def Kept (h h':Heap):Prop:=∀ b o,h.get? b=some o→h'.get? b=some o
theorem Kept.trans {a b c:Heap} (x:Kept a b) (y:Kept b c):Kept a c:=fun p o e=>y p o (x p o e)
theorem Kept.push (h:Heap) (o:Obj):Kept h (h.push o):=fun _ _ e=>Z2 _ e
theorem Kept.same {g h h':Heap}{a:Addr} (k:Kept g h) (ha:g.objs.size≤a) (sb:Heap.SameBut a h h'):Kept g h':=fun b o e =>
 (sb.2 b (Ze (Zf (Zc e) ha))).trans (k b o e)
theorem Kept.but {g h h':Heap}{a:Addr} (k:Kept g h) (ha:g.objs.size≤a) (sb:∀ b o,b∉[a]→h.get? b=some o→h'.get? b=some o):Kept g h':=fun b o e =>
 sb b o (fun z=>Ze (Zf (Zc e) ha) (List.mem_singleton.mp z)) (k b o e)
noncomputable def ltS (a b:Str):Prop:=a.cps.toList < b.cps.toList
noncomputable instance (a b:Str):Decidable (ltS a b):=inferInstanceAs (Decidable (a.cps.toList < b.cps.toList))
theorem ltS_trans {a b c:Str} (x:ltS a b) (y:ltS b c):ltS a c:=List.lt_trans x y
section
variable {P:Program}{w:World}{A:Around}{E:Value→Shared→Prop}{z:Shared}{g:Heap}{l q I S:Addr}{vs:List Value}{R:Result→Shared→Prop}
noncomputable def KeyEnd (z:Shared) (h:Heap) (k:Str) (u:Value) (y:Shared):Prop:=∃ (h':Heap) (tk':Nat) (t:Tok),u=.str k t∧y={ z with heap:=h',toks:=tk' }∧Kept h h'
theorem min_loop (ks:Nat→Str) (hh:A.handled=none) (hl:g.IsList l vs.toArray) (hI:g.objs.size≤I) (hS:g.objs.size≤S) (ne:S≠I)
  (turn:∀ i v,vs[i]? = some v→∀ (h:Heap) (tk:Nat),Kept g h→wpAny (model P w) A.in1 (call (.ref q) [v]) (KeyEnd z h (ks i)) (fun _ _=>False) { z with heap:=h,toks:=tk })
  (fin:∀ i v h tk,vs[i]? = some v→(∀ j,j < vs.length→¬ ltS (ks j) (ks i))→Kept g h→R (.ok (.ret v)) { z with heap:=h,toks:=tk }) :
  ∀ (r j i:Nat) (h:Heap) (tk:Nat) (b:Value) (t:Tok) (n:Nat),vs.length - (j + 1)=r→j + 1≤vs.length→Kept g h→h.get? S=some (seqObj "list" #[b,.str (ks i) t] n)→h.IsListIter I l (j + 1) →
   vs[i]? = some b→i≤j→(∀ k,k≤j→¬ ltS (ks k) (ks i))→codeAny (model P w) A (.builtin "min.loop" ⟨[.ref I,.ref q,.ref S],[]⟩) R { z with heap:=h,toks:=tk }:=by
 have nm:(toString "min"++toString ".loop" : String) = "min.loop":=by decide
 have hlI:l≠I:=by
  obtain ⟨o,e,_⟩:=hl;exact Ze (Zf (Zc e) hI)
 have W:=Walks.list (prog:=P) (w:=w) (A:=A.in1) hh I l hlI vs.toArray;have sz:vs.toArray.size=vs.length:=by simp
 have lst:∀ {h},Kept g h→h.IsList l vs.toArray:=fun {h} k=>by
  obtain ⟨o,e,r⟩:=hl;exact ⟨o,k _ _ e,r⟩
 intro r
 induction r with
 | zero =>
  intro j i h tk b t n hr hj k hs it hb hij best;have hin:j + 1=vs.length:=by omega
  refine codeAny_builtin PySem.F.entry_min_loop ?_;rw [Around.under_plainId PySem.F.plain_min_loop _];show wpAny _ A.in1 (seqItems? (Value.ref S) >>= _) _ _ _;refine wpAny_bind (wpAny_seqItems hs rfl ?_);show wpAny _ A.in1 (tryCatch (pyNext (Value.ref I)) _ >>= _) _ _ _;refine wpAny_bind (wpAny_tryCatch (W.done _ _ _ ⟨by rw [sz,← hin];exact it,lst k⟩ fun h1 tk1 k1=>?_));have e1:=k1 S _ (by simpa using ne) hs;show wpAny _ A.in1 (updateSeq S (fun _=>(#[]:Array Value)) >>= _) _ _ _;refine wpAny_bind (wpAny_updateSeq e1 rfl (wpAny_bind (wpAny_letGo (wpAny_pure ?_))));exact fin i b _ _ hb (fun k' hk=>best k' (by omega)) ((k.but hI k1).same hS (Heap.SameBut.update h1 S _))
 | succ r ih =>
  intro j i h tk b t n hr hj k hs it hb hij best;have hlt:j + 1 < vs.length:=by omega
  refine codeAny_builtin PySem.F.entry_min_loop ?_;rw [Around.under_plainId PySem.F.plain_min_loop _];show wpAny _ A.in1 (seqItems? (Value.ref S) >>= _) _ _ _;refine wpAny_bind (wpAny_seqItems hs rfl ?_);show wpAny _ A.in1 (tryCatch (pyNext (Value.ref I)) _ >>= _) _ _ _;refine wpAny_bind (wpAny_tryCatch (W.item (j + 1) _ _ _ (by rw [sz];exact hlt) ⟨it,lst k⟩ fun v h1 tk1 hp st k1=>?_));have hv:vs[j + 1]? = some v:=by simpa using hp
  have e1:=k1 S _ (by simpa using ne) hs;have kg:=k.but hI k1;show wpAny _ A.in1 (tryCatch (holding [v] (call (Value.ref q) [v])) _ >>= _) _ _ _;refine wpAny_bind (wpAny_tryCatch (wpAny_holding (wpAny_mono (turn (j + 1) v hv h1 tk1 kg) (fun u y he=>?_) fun _ _ f=>f.elim)));obtain ⟨h2,tk2,t2,rfl,rfl,k2⟩:=he;have e2:=k2 S _ e1;have it2:h2.IsListIter I l (j + 1 + 1):=st.1.at fun o e=>k2 _ _ e;have kg2:=kg.trans k2;show wpAny _ A.in1 (tryCatch (holding [v,Value.str (ks (j + 1)) t2] (richCompare .Lt (Value.str (ks (j + 1)) t2) (Value.str (ks i) t) >>= _)) _ >>= _) _ _ _;refine wpAny_bind (wpAny_tryCatch (wpAny_holding (wpAny_bind (show wpAny _ _ (compareOp .Lt (Value.str (ks (j + 1)) t2) (Value.str (ks i) t)) _ _ _ from lt_str ?_))));refine wpAny_bind (wpAny_holding (wpAny_truthy_bool ?_));refine wpAny_bind (wpAny_letGo (wpAny_pure ?_));by_cases c:ltS (ks (j + 1)) (ks i)
  ·have c':(ks (j + 1)).cps.toList < (ks i).cps.toList:=c;obtain ⟨n2,g2⟩:∃ n2,(h2.update S (Obj.mapSeq fun _=>#[v,Value.str (ks (j + 1)) t2])).get? S=some (seqObj "list" #[v,Value.str (ks (j + 1)) t2] n2):=⟨_,get?_update_seq e2 fun _=>#[v,Value.str (ks (j + 1)) t2]⟩;have s2:=Heap.SameBut.update h2 S (Obj.mapSeq fun _=>#[v,Value.str (ks (j + 1)) t2]);simp only [c',decide_true,if_true];refine wpAny_bind (wpAny_updateSeq e2 rfl (wpAny_bind (wpAny_letGo ?_)));rw [nm];refine wpAny_pure ⟨plainId_quiet PySem.F.plain_min_loop _,ih (j + 1) (j + 1) _ _ v t2 n2 (by omega) hlt (kg2.same hS s2) g2 (it2.at fun o e=>(s2.2 I (Ne.symm ne)).trans e) hv (Zb _) fun k' hk=>?_⟩;by_cases e:k'=j + 1
   ·subst e;exact fun z=>List.lt_irrefl _ z
   ·exact fun z=>best k' (by omega) (ltS_trans z c)
  ·have c':¬ (ks (j + 1)).cps.toList < (ks i).cps.toList:=c;simp only [c',decide_false,Yh,if_false];refine wpAny_bind (wpAny_letGo ?_);rw [nm];refine wpAny_pure ⟨plainId_quiet PySem.F.plain_min_loop _,ih (j + 1) i _ _ b t n (by omega) hlt kg2 e2 it2 hb (by omega) fun k' hk=>?_⟩;by_cases e:k'=j + 1
   ·subst e;exact c
   ·exact best k' (by omega)
theorem min_key {Q:Value→Shared→Prop} (ks:Nat→Str) (hh:A.handled=none) (hl:z.heap.IsList l vs.toArray) (h0:0 < vs.length)
  (turn:∀ i v,vs[i]? = some v→∀ (h:Heap) (tk:Nat),Kept z.heap h→wpAny (model P w) A.in1 (call (.ref q) [v]) (KeyEnd z h (ks i)) (fun _ _=>False) { z with heap:=h,toks:=tk })
  (fin:∀ i v h tk,vs[i]? = some v→(∀ j,j < vs.length→¬ ltS (ks j) (ks i))→Kept z.heap h→Q v { z with heap:=h,toks:=tk }) :
  wpAny (model P w) A (call (.builtin "min") [.ref l] [(Str.ofString "key",.ref q)]) Q E z:=by
 have nm:(toString "min"++toString ".loop" : String) = "min.loop":=by decide
 refine kmk_tree PySem.F.kind_min PySem.F.plain_min PySem.F.entry_min (kmk_min_key _ _) ?_;show wpAny _ A.in1 (Builtin.Builtins.bindParams "min" ["key", "default"] 0 ⟨[],[(Str.ofString "key",Value.ref q)]⟩ >>= _) _ _ z;refine wpAny_bind (wpAny_of_eq (show Builtin.Builtins.bindParams "min" ["key", "default"] 0 ⟨[],[(Str.ofString "key",Value.ref q)]⟩=pure [some (Value.ref q),none] from rfl) ?_);refine wpAny_bind (wpAny_pure (wpAny_bind (wpAny_pyIter_list hl (wpAny_bind (wpAny_newList ?_ (Zm _))))));rw [nm];refine wpAny_pure ⟨plainId_quiet PySem.F.plain_min_loop _,?_⟩
 let oI:Obj:={ cls:=.type "list_iterator",data:=.fields #[.ref l,.int 0 0] }
 have sz1:(z.heap.push oI).objs.size=z.heap.objs.size + 1:=Yj ..;have gI:((z.heap.push oI).push (seqObj "list" #[] 0)).get? z.heap.objs.size=some oI:=Z2 _ (Zg _ rfl);have gS:((z.heap.push oI).push (seqObj "list" #[] 0)).get? (z.heap.push oI).objs.size=some (seqObj "list" #[] 0):=Zg _ rfl;have kk:Kept z.heap ((z.heap.push oI).push (seqObj "list" #[] 0)):=(Kept.push _ _).trans (Kept.push _ _);have hI:z.heap.objs.size≤z.heap.objs.size:=Zb _;have hS:z.heap.objs.size≤(z.heap.push oI).objs.size:=by rw [sz1];exact Nat.le_succ _
 have ne:(z.heap.push oI).objs.size≠z.heap.objs.size:=by rw [sz1];exact Nat.succ_ne_self _
 have hlI:l≠z.heap.objs.size:=by
  obtain ⟨o,e,_⟩:=hl;exact Ze (Zc e)
 have W:=Walks.list (prog:=P) (w:=w) (A:=A.in1) hh z.heap.objs.size l hlI vs.toArray;have sz:vs.toArray.size=vs.length:=by simp
 have lst:∀ {h},Kept z.heap h→h.IsList l vs.toArray:=fun {h} k=>by
  obtain ⟨o,e,r⟩:=hl;exact ⟨o,k _ _ e,r⟩
 refine codeAny_builtin PySem.F.entry_min_loop ?_;rw [Around.under_plainId PySem.F.plain_min_loop _];show wpAny _ A.in1 (seqItems? (Value.ref (z.heap.push oI).objs.size) >>= _) _ _ _;refine wpAny_bind (wpAny_seqItems gS rfl ?_);show wpAny _ A.in1 (tryCatch (pyNext (Value.ref z.heap.objs.size)) _ >>= _) _ _ _;refine wpAny_bind (wpAny_tryCatch (W.item 0 _ _ _ (by rw [sz];exact h0) ⟨⟨_,gI,rfl,rfl⟩,lst kk⟩ fun v h1 tk1 hp st k1=>?_));have hv:vs[0]? = some v:=by simpa using hp
 have e1:=k1 _ _ (by simpa using ne) gS;have kg:=kk.but hI k1;show wpAny _ A.in1 (tryCatch (holding [v] (call (Value.ref q) [v])) _ >>= _) _ _ _;refine wpAny_bind (wpAny_tryCatch (wpAny_holding (wpAny_mono (turn 0 v hv h1 tk1 kg) (fun u y he=>?_) fun _ _ f=>f.elim)));obtain ⟨h2,tk2,t2,rfl,rfl,k2⟩:=he;have e2:=k2 _ _ e1;have s2:=Heap.SameBut.update h2 (z.heap.push oI).objs.size (Obj.mapSeq fun _=>#[v,Value.str (ks 0) t2]);obtain ⟨n2,g2⟩:∃ n2,(h2.update (z.heap.push oI).objs.size (Obj.mapSeq fun _=>#[v,Value.str (ks 0) t2])).get? (z.heap.push oI).objs.size=some (seqObj "list" #[v,Value.str (ks 0) t2] n2):=⟨_,get?_update_seq e2 fun _=>#[v,Value.str (ks 0) t2]⟩;show wpAny _ A.in1 (updateSeq (z.heap.push oI).objs.size (fun _=>#[v,Value.str (ks 0) t2]) >>= _) _ _ _;refine wpAny_bind (wpAny_updateSeq e2 rfl ?_);rw [nm];refine wpAny_pure ⟨plainId_quiet PySem.F.plain_min_loop _,min_loop ks hh hl hI hS ne turn fin _ 0 0 _ _ v t2 n2 rfl h0 ((kg.trans k2).same hS s2) g2 ((st.1.at fun o e=>k2 _ _ e).at fun o e=>(s2.2 _ (Ne.symm ne)).trans e) hv (Zb _) fun k' hk=>?_⟩;have:k'=0:=by omega
 subst this;exact fun z=>List.lt_irrefl _ z
end
end L2
namespace L2
open PySem PySem.Spec PyProof.Rows
noncomputable def CodeO (c:Addr) (q:Str):HO:=.ext fun h=>h.CodeRec (.ref c) q
noncomputable def TabOk (H:Hp) (P:Addr) (pos:Pos) (q:Str):Prop:=H P=some (.tbl #[])∨∃ c,H P=some (.tbl #[rawInt pos.line,rawInt pos.col,.ref c])∧H c=some (CodeO c q)
noncomputable def GrownBut (P:Addr) (H H':Hp):Prop:=∀ b o,H b=some o→b≠P→H' b=some o
theorem TabOk.ne {H:Hp}{P:Addr}{pos:Pos}{q:Str} (T:TabOk H P pos q) {a:Addr}{o:HO} (e:H a=some o) (h:∀ ps,o≠.tbl ps):a≠P:=by
 rintro rfl;rcases T with z | ⟨c,z,_⟩ <;> rw [e] at z <;> exact h _ (Zj z)
theorem TabOk.stay {H H':Hp}{P:Addr}{pos:Pos}{q:Str} (T:TabOk H P pos q) (k:∀ b o,H b=some o→H' b=some o):TabOk H' P pos q:=by
 rcases T with z | ⟨c,z,y⟩
 ·exact .inl (k _ _ z)
 ·exact .inr ⟨c,k _ _ z,k _ _ y⟩
theorem TabOk.but {H H':Hp}{P:Addr}{pos:Pos}{q:Str}{p:Addr}{u:HO} (T:TabOk H P pos q) (hp:H p=some u) (h1:∀ ps,u≠.tbl ps) (h2:∀ f,u≠.ext f) (k:∀ b o,H b=some o→b≠p→H' b=some o):TabOk H' P pos q:=by
 have n1:=T.ne hp h1;rcases T with z | ⟨c,z,y⟩
 ·exact .inl (k _ _ z (Ne.symm n1))
 ·refine .inr ⟨c,k _ _ z (Ne.symm n1),k _ _ y ?_⟩;rintro rfl;rw [hp] at y;exact h2 _ (Zj y)
noncomputable def BltAt (mg:Str→Option Value) (base:Heap):Prop:=∃ (bm:Addr) (ob:Obj),mg "__builtins__" = some (.ref bm)∧bm≠builtinsNs∧bm≠mainGlobals∧base.get? bm=some ob∧ob.cls=.type "module"∧ob.dict=some builtinsNs∧ob.data=.plain
structure LamTxt (K:PySem.W.Frag) (mg:Str→Option Value) (base:Heap) (c P:Addr):Prop where
 hd:PySem.W.codeHdIn K c P=true
 blt:BltAt mg base
section
variable {X:Cx}{pins:List (Addr×Obj)}{σ : St}{H:Hp}{s:Shared}{A:Around}{E:Value→Shared→Prop}
theorem zBo {c:Addr}{q:Str}:∀ h1 h2:Heap,h1.CodeRec (.ref c) q→(∀ o,h1.get? c=some o→h2.get? c=some o)→h2.CodeRec (.ref c) q:=fun h1 h2 ⟨c',o,vs,t,e,ho,r⟩ k=>by
 cases e;exact ⟨c,o,vs,t,rfl,k o ho,r⟩
theorem lam_made {params:Arguments}{body:Expr}{scope:Scope}{pos:Pos}{c P:Addr}{q:Str}{Q:Value→Shared→Prop} (I:Inv X pins σ H s) (T:LamTxt X.K X.mg X.base c P) (hcode:X.env.code=.ref c) (hq:X.env.qual++"<lambda>" = q)
  (hcl:closureFor scope X.env=pure []) (hdef:defaultsOf params X.env=([],[])) (W:TabOk H P pos q)
  (h:∀ (H':Hp) (s':Shared) (f c':Addr) (pm ctv:Value),Inv X pins σ H' s'→s'.heap.get? f=some (PySem.W.kla_obj "<lambda>" q params body scope [] pm c' ctv)→s'.heap.CodeRec (.ref c') q→TabOk H' P pos q→GrownBut P H H'→Q (.ref f) s') :
  wpAny (model X.prog X.w) A (eval (.Lambda params body scope pos) X.env) Q E s:=by
 subst hq;refine PySem.W.kla_eval hdef ?_;obtain ⟨bm,ob,e1,e3,e4,e2,e5,e6,e7⟩:=T.blt;have hbP:bm≠P:=by
  rintro rfl;have:=(I.bs _ _ e2).2;rcases W with z | ⟨c',z,_⟩ <;> rw [this] at z <;> cases z
 have hb:s.heap.BuiltinsAt X.mg P:=⟨bm,ob,e1,e3,e4,hbP,I.bk _ _ e2,e5,e6,e7⟩;have hg:=I.mod.glob.keeps I.bk;have C:=PySem.W.codeHd_of_K I.kIn T.hd;have tab:∀ {ps},H P=some (.tbl ps)→s.heap.get? P=some (PySem.W.tabObj ps):=fun {ps} e=>I.hok P _ e;have hgP:mainGlobals≠P:=by
  rintro rfl;obtain ⟨o,es,ep,ho,hd,_⟩:=hg;rcases W with z | ⟨c',z,_⟩ <;> (rw [tab z] at ho;cases ho;cases hd)
 rcases W with z | ⟨c',z,y⟩
 ·refine PySem.W.kla_makeFunction hcl I.ok.glob hg hcode C (tab z) trivial rfl hgP hb fun c' ctv h' tk hx hge hlt hrec htb=>?_;have fc:H c'=none:=I.hok.fresh hge;have nP:c'≠P:=Ne.symm (zA2 z fc)
  let H':Hp:=upd (upd H P (.tbl #[rawInt pos.line,rawInt pos.col,.ref c'])) c' (CodeO c' (X.env.qual++"<lambda>"))
  have hP':H' P=some (.tbl #[rawInt pos.line,rawInt pos.col,.ref c']):=by show upd _ _ _ _=_;rw [zA5 (Ne.symm nP),zA1]
  have hc':H' c'=some (CodeO c' (X.env.qual++"<lambda>")):=zA1;have gr:∀ b o,H b=some o→b≠P→H' b=some o:=fun b o e nb=>by
   show upd _ _ _ _=_;rw [zA5 (zA2 e fc),zA5 nb];exact e
  have I1:Inv X pins σ H' { s with heap:=h',toks:=tk }:=by
   refine I.step (g':=s.gens) (d':=s.drawn) (ch:=[]) (fun _ m=>nomatch m) (fun b o _ _ _ e n=>hx b o (Ne.symm (zA2 z n)) e) (fun b o _ _ _ e n=>⟨o.slots,hx b o (Ne.symm (zA2 z n)) e⟩) (fun b o _ e n=>?_) (fun b o _ e=>?_)
    (fun b xs e=>gr b _ e fun k=>by subst k;rw [z] at e;cases e) (fun b o u e=>gr b _ e fun k=>by subst k;rw [z] at e;cases e) (fun b ps e=>?_) (fun m hm=>?_) (fun b u e=>?_) I.bare
   ·show upd _ _ _ _=_;rw [zA5 (Ze (Zf (Zc e) hge)),zA5 (Ne.symm (zA2 z n))];exact n
   ·by_cases k:b=P
    ·subst k;exact ⟨_,htb⟩
    ·exact ⟨o,hx b o k e⟩
   ·by_cases k:b=P
    ·subst k;rw [z] at e;cases e;exact ⟨#[rawInt pos.line,rawInt pos.col,.ref c'],by rw [hP'];rfl⟩
    ·exact ⟨#[],by rw [gr b _ e k];simp⟩
   ·exact hm.extBut hx fun k=>by have:=I.free;rw [k,z] at this;cases this
   ·by_cases k1:b=c'
    ·subst k1;rw [hc'] at e;cases e;obtain ⟨_,o,_,_,e',ho,_⟩:=id hrec;cases e';exact ⟨hrec,⟨o,ho⟩,zBo⟩
    ·by_cases k2:b=P
     ·subst k2;rw [hP'] at e;cases e;exact htb
     ·have e':H b=some u:=by
       have e2:upd (upd H P _) c' _ b=some u:=e
       rwa [zA5 k1,zA5 k2] at e2
      refine (I.hok b u e').stay (fun d v hd' r=>hx d v ?_ r) (fun d r=>gr d _ r ?_) fun d xs r=>gr d _ r ?_
      ·rcases hd' with k | k
       ·rw [k];exact k2
       ·rintro rfl;rw [z] at k;cases k
      ·rintro rfl;rw [z] at r;cases r
      ·rintro rfl;rw [z] at r;cases r
  have I2:Inv X pins σ H' { s with heap:=h'.push _,toks:=tk }:=I1.kept (t':=tk) (h':=h'.push (PySem.W.kla_obj "<lambda>" (X.env.qual++"<lambda>") params body scope [] ((X.mg "__name__").getD .none) c' ctv)) fun b u e=>Z2 _ e;refine h H' _ h'.objs.size c' ((X.mg "__name__").getD .none) ctv I2 (Zg _ rfl) ?_ (.inr ⟨c',hP',hc'⟩) gr;exact zBo h' _ hrec fun o e=>Z2 _ e
 ·refine PySem.W.kla_makeFunctionHit (cv:=.ref c') hcl I.ok.glob hg hcode C (tab z) trivial ?_ hb fun ctv h' tk kk sz=>?_
  ·simp [codeAmong,rawInt]
  ·have I2:Inv X pins σ H { s with heap:=h'.push _,toks:=tk }:=I.kept (t':=tk) (h':=h'.push (PySem.W.kla_obj "<lambda>" (X.env.qual++"<lambda>") params body scope [] ((X.mg "__name__").getD .none) c' ctv)) fun b u e=>Z2 _ (kk b u e);refine h H _ h'.objs.size c' ((X.mg "__name__").getD .none) ctv I2 (Zg _ rfl) ?_ (.inr ⟨c',z,y⟩) fun b o e _=>e;obtain ⟨hr,_,_⟩:=I.hok c' _ y;exact zBo s.heap _ hr fun o e=>Z2 _ (kk _ _ e)
end
structure LamSc (scope:Scope) (x:Str):Prop where
 co:scope.isCoroutine=false
 gen:scope.isGenerator=false
 kind:scope.kind=.function
 cell:∀ y∈scope.names,y.2≠.cell
 loc:scope.names.lookup x=some .local
section
variable {P:Program}{w:World}{A:Around}{z:Shared}
theorem lam_fld {f c':Addr}{nm q x fld k:Str}{params:Arguments}{p1 p2:Pos}{scope:Scope}{pm ctv v:Value} (ho:z.heap.get? f=some (PySem.W.kla_obj nm q params (.Attribute (.Name x p1) fld p2) scope [] pm c' ctv)) (hc:z.heap.CodeRec (.ref c') q)
  (hroom:A.depth < recursionLimit) (hlim:z.heap.NoLimit) (hb:bindArgs (PySem.W.kla_fn nm q params (.Attribute (.Name x p1) fld p2) scope [] pm (.ref c') ctv) ⟨[v],[]⟩=pure [(x,v)]) (S:LamSc scope x) (hx:(x == ("__debug__" : Str))=false)
  (hat:∀ env:Env,attributeBase (.Name x p1) fld env (eval (.Name x p1) env)=eval (.Name x p1) env)
  (hget:∀ (A':Around) (E':Value→Shared→Prop) (h:Heap) (tk:Nat),Kept z.heap h→wpAny (model P w) A' (getAttr v fld true) (fun u y=>∃ t tk',u=.str k t∧y={ z with heap:=h,toks:=tk' }) E' { z with heap:=h,toks:=tk }) :
  wpAny (model P w) A (call (.ref f) [v]) (KeyEnd z z.heap k) (fun _ _=>False) z:=by
 refine wpAny_call (PySem.W.kla_callFunE hroom ho rfl S.co S.gen rfl hc ?_);rw [hb];refine wpAny_pure (wpAny_newFunctionEnv S.cell (fun y hy=>by rw [List.mem_singleton.mp hy];exact S.loc) (fun h1 hns hsb=>?_) S.kind);have kk:Kept z.heap h1:=fun b o e=>(hsb.2 b (Ze (Zc e))).trans (Z2 _ e);refine ⟨hlim.keeps kk,PySem.W.kla_codeExpr (attr_of (hat _) (wpAny_Name (wpAny_loadName_local S.kind S.loc hns (v:=v) (by simp) ?_) hx))⟩;refine thn (hget _ _ h1 _ kk) fun u y ⟨t,tk',eu,ey⟩=>?_;exact ⟨h1,tk',t,eu,ey,kk⟩
end
noncomputable def tMinKey (K:PySem.W.Frag) (P:Addr) (pos:Pos) (q fld:Str) (ta:TA):TE:=fun σ H Q=>ta σ H fun vs H1=>∃ (l:Addr) (xs:List V) (ks:List Str),vs=[.ref l]∧SqL K H1 l xs∧0 < xs.length∧TabOk H1 P pos q∧ks.length=xs.length ∧
 (∀ (i:Nat) (v:V) (k:Str),xs[i]? = some v→ks[i]? = some k→∃ a C dx fs,v=.ref a∧H1 a=some (.ins C dx fs)∧Cls K C∧NoAttr K C fld∧fs.lookup fld=some (.str k)) ∧
 ∀ (i:Nat) (v:V) (k:Str) (H2:Hp),xs[i]? = some v→ks[i]? = some k→(∀ y∈ks,¬ ltS y k)→TabOk H2 P pos q→GrownBut P H1 H2→Q v H2
section
variable {X:Cx}
theorem zD7 {e:Expr}{ta:TA}{x fld q:Str}{params:Arguments}{p p1 p2 lpos kpos pos:Pos}{scope:Scope}{c P:Addr} (T:LamTxt X.K X.mg X.base c P) (hcode:X.env.code=.ref c) (hr:Room 2 X.A) (hcm:X.calm=true) (hg:Gl X "min") (hm:X.mg "min" = none) (ha:PA X [e] ta)
  (S:LamSc scope x) (hq:X.env.qual++"<lambda>" = q:=by rfl) (hcl:closureFor scope X.env=pure []:=by rfl) (hdef:defaultsOf params X.env=([],[]):=by rfl)
  (hb:∀ (pm cd ctv v:Value),bindArgs (PySem.W.kla_fn "<lambda>" q params (.Attribute (.Name x p1) fld p2) scope [] pm cd ctv) ⟨[v],[]⟩=pure [(x,v)]:=by intros;rfl) (hx:(x == ("__debug__" : Str))=false:=by decide)
  (hat:∀ env:Env,attributeBase (.Name x p1) fld env (eval (.Name x p1) env)=eval (.Name x p1) env:=by intros;rfl)
  (he:backTo pos (starEach [e] X.env)=(false,eval e X.env) :: backTo pos (starEach [] X.env):=by rfl) (hpl:(backTo pos (starEach [e] X.env)).any (·.1)=false:=by rfl) :
  PE X (.Call (.Name "min" p) [e] [⟨some "key",.Lambda params (.Attribute (.Name x p1) fld p2) scope lpos,kpos⟩] pos) (tMinKey X.K P lpos q fld ta):=by
 intro pins s σ H Q I h;refine wpAny_Call_Name_kw (zE3 I hg hm PyProof.Rows.boot_min ?_);refine PyProof.Rows.callWith_kw (thn (ha pos pins s σ H _ I h) fun us s1 ⟨vs,H1,I1,r1,q1⟩=>?_) he hpl rfl rfl;obtain ⟨l,xs,ks,rfl,hl,h0,W,hlen,hat1,fin⟩:=q1;obtain ⟨u,rfl,ru⟩:=v1 r1;cases (show u=Value.ref l from ru);refine PyProof.Rows.evalAll_cons (wpAny_bind (lam_made I1 T hcode hq hcl hdef W fun H2 s2 f c' pm ctv I2 ho hrec W2 gr=>wpAny_bind (wpAny_standAt (wpAny_pure ?_))));refine PyProof.Rows.evalAll_nil ?_;have hlP:SqL X.K H2 l xs:=by
  rcases hl with (z | ⟨o,z⟩) | z
  ·exact .inl (.inl (gr _ _ z (W.ne z (fun _ k=>nomatch k))))
  ·exact .inl (.inr ⟨o,gr _ _ z (W.ne z (fun _ k=>nomatch k))⟩)
  ·exact .inr z
 obtain ⟨its,rv,pl,_⟩:=I2.list hlP;have il:=rv.length;refine min_key (vs:=its) (fun i=>ks.getD i Str.empty) (I2.ok.hd hcm) pl.isList (by omega) (fun i v hv h tk kk=>?_) fun i v h tk hv hbest kk=>?_
 ·have hi:i < its.length:=(List.getElem?_eq_some_iff.mp hv).1;obtain ⟨y,hy⟩:∃ y,xs[i]? = some y:=⟨_,Z1 (by omega)⟩;obtain ⟨k,hk⟩:∃ k,ks[i]? = some k:=⟨_,Z1 (by omega)⟩;obtain ⟨u,hu,ry⟩:=rv.get hy;rw [hv] at hu;cases hu;obtain ⟨a,C,dx,fs,rfl,ea,cc,nn,lf⟩:=hat1 i y k hy hk;cases (show v=Value.ref a from ry);have ek:ks.getD i Str.empty=k:=by simp [hk]
  show wpAny _ _ _ (KeyEnd s2 h (ks.getD i Str.empty)) _ _;rw [ek];have I3:Inv X pins σ H2 { s2 with heap:=h,toks:=tk }:=I2.kept (t':=tk) kk;have ea2:H2 a=some (.ins C dx fs):=gr _ _ ea (W.ne ea (fun _ k=>nomatch k));refine lam_fld (z:={ s2 with heap:=h,toks:=tk }) (kk _ _ ho) (zBo _ _ hrec fun o e=>kk _ _ e) hr.in1.depth I3.nolimit (hb _ _ _ _) S hx hat fun A' E' h2 tk2 k2=>?_;have I4:Inv X pins σ H2 { s2 with heap:=h2,toks:=tk2 }:=I3.kept (t':=tk2) k2;obtain ⟨mA,O,r,_,_,_⟩:=zDl I4.hok ea2;obtain ⟨w',hw,rw'⟩:=RelO.some_of (v:=V.str k) (o:=mA fld) (by rw [← lf];exact r fld);obtain ⟨t,rfl⟩:=rw';exact get_map I4.kIn O (cc.get fld) cc.hd nn hw rfl ⟨t,_,rfl,rfl⟩
 ·have hi:i < its.length:=(List.getElem?_eq_some_iff.mp hv).1;obtain ⟨y,hy⟩:∃ y,xs[i]? = some y:=⟨_,Z1 (by omega)⟩;obtain ⟨k,hk⟩:∃ k,ks[i]? = some k:=⟨_,Z1 (by omega)⟩;obtain ⟨u,hu,ry⟩:=rv.get hy;rw [hv] at hu;cases hu;have ek:ks.getD i Str.empty=k:=by simp [hk]
  refine ⟨y,H2,I2.kept (t':=tk) kk,ry,fin i y k H2 hy hk (fun y' hy'=>?_) W2 gr⟩;obtain ⟨j,hj,ej⟩:=Zv hy';have:=hbest j (by omega);rw [ek] at this;have e2:ks.getD j Str.empty=y':=by simp [Z1 hj,ej]
  rw [e2] at this;exact this
end
end L2
namespace L2
open PySem PySem.Spec PyProof.Rows
theorem blt_of {p:Program}{loose:List Str}{mean:ExcName→Option Value}{mg mb:Str→Option Value}{h:Heap} (T:PyProof.Rows.Top p loose mean mg mb h):BltAt mg h:=by
 obtain ⟨bm,ob,b1,b2,b3,b4,b5,b6⟩:=T.bmain;refine ⟨bm,ob,b1,b2,fun q=>?_,b3,b4,b5,b6⟩;obtain ⟨o,es,ep,e,hd,_⟩:=T.g;rw [q,e] at b3;cases b3;rw [hd] at b6;cases b6
end L2
namespace L2
open PySem PySem.Spec PyProof.Rows
section
variable {X:Cx}
end
noncomputable def Froze (H:Hp) (d:Addr) (kvs:List (Key×V)) (H':Hp):Prop:=∃ o,H'=upd H d (.frz o (.dK kvs))
theorem Froze.at {H H':Hp}{d:Addr}{kvs:List (Key×V)} (z:Froze H d kvs H'):Rd H' d (.dK kvs):=by
 obtain ⟨o,rfl⟩:=z;exact .inr ⟨o,zA1⟩
theorem Froze.ne {H H':Hp}{d:Addr}{kvs:List (Key×V)} (z:Froze H d kvs H') {b:Addr} (h:b≠d):H' b=H b:=by
 obtain ⟨o,rfl⟩:=z;exact zA5 h
section
variable {X:Cx}{pins:List (Addr×Obj)}{σ : St}{H:Hp}{s:Shared}{d:Addr}{kvs:List (Key×V)}
end
theorem KV.len {κ : Type}{kvs:List (κ×V)}{vs:List (κ×Value)} (h:KV kvs vs):kvs.length=vs.length:=Paired.length h
theorem key_rel {k:Key}{v:Value} (h:keyIs k v=true):RelV (kV k) v:=by
 rcases zAn h with ⟨i,t,rfl,rfl⟩ | ⟨x,t,rfl,rfl⟩
 ·exact ⟨t,rfl⟩
 ·exact ⟨t,rfl⟩
section
variable {X:Cx}{tg:Expr}
end
end L2
namespace L2
open PySem PySem.Spec PyProof.Rows
theorem lk_list_keys:typeLookup (.type "list") "keys" = pure none:=by rw [typeLookup_type,builtinLookup_eq_fast];kernel_rfl
theorem entry_dul:entryFor table "dict.update.loop" = some Builtin.«dict.update.loop»:=entryFor_of_tree (by kernel_rfl)
theorem zC8:plainId "dict.update.loop" = true:=by decide +kernel
section
variable {P:Program}{w:World}{A:Around}{E:Value→Shared→Prop}
theorem no_keys {s:Shared}{a:Addr}{o:Obj}{xs:Array Value}{k:Nat}{Q:Option Value→Shared→Prop} (hx:s.heap.get? a=some o) (hc:o.cls=.type "list") (hdat:o.data=.seq xs k) (hd:o.dict=none) (hA:A.handled=none)
  (h:∀ h' tk,Kept s.heap h'→Q none { s with heap:=h',toks:=tk }):wpAny (model P w) A (getAttr? (.ref a) "keys") Q E s:=by
 obtain ⟨c,dct,dat,sl⟩:=o;simp only at hc hdat hd;subst hc hdat hd;obtain ⟨hp,g,d,tk,os⟩:=s;have hT:∀ n,(⟨hp,g,d,n,os⟩:Shared).TypeIs (.ref a) "list":=fun _=>⟨_,hx,rfl⟩;have f1:=sub_AttributeError;have f3:=F.slot_list_getattribute.lookup;have f4:=F.slot_list_getattribute.bind (.ref a);have f5:=am_list_getattr_none;unfold getAttr? getAttrBy? getAttrBy
 repeat (any_goals (first | assumption | exact hT _ | ((with_reducible show wpAny _ _ (call (Value.builtin "list.__getattribute__") _ _) _ _ _);refine call_meets F.slot_list_getattribute (hT _) am_entry_list_getattribute (F.args_list_getattribute_2 _ _) (meets_getattribute_miss_list a xs k sl "keys" _ lk_list_keys (by decide) (by size_fits)) ⟨hx,hA,fun h' tk' e hx'=>?_⟩) | wp_step))
 obtain ⟨t',u',he⟩:=hx'.there;show wpAny _ _ (getattributeRaised _ _ _ _ _ _ _) _ _ _;unfold getattributeRaised hookOrError attributeErrorLeaves
 repeat (any_goals (first | assumption | wp_step))
 exact h _ _ hx'.of.keeps
theorem zEv {α : Type}{l:List α} (h:l.Nodup) {i j:Nat}{x : α} (a:l[i]? = some x) (b:l[j]? = some x):i=j:=by
 obtain ⟨h1,e1⟩:=List.getElem?_eq_some_iff.mp a;obtain ⟨h2,e2⟩:=List.getElem?_eq_some_iff.mp b;exact (List.getElem_inj h).mp (e1.trans e2.symm)
theorem pairs_loop {z:Shared}{g:Heap}{l I d:Addr}{its:List Value}{ps:List (Key×Value)}{R:Result→Shared→Prop} (hh:A.handled=none) (hl:g.IsList l its.toArray) (hI:g.objs.size≤I) (hd:g.objs.size≤d) (ne:d≠I) (hz:its.length≤sizeLine)
  (len:ps.length=its.length) (nd:(ps.map (·.1)).Nodup) (hp:∀ (i:Nat) (v:Value) (k:Key) (u:Value),its[i]? = some v→ps[i]? = some (k,u)→∃ (t:Addr) (y:Value),v=.ref t∧IsTup g t #[y,u]∧keyIs k y=true)
  (fin:∀ h tk,Kept g h→h.DictOf (mixKind P w) d ps→R (.ok (.ret .none)) { z with heap:=h,toks:=tk }) :
  ∀ (r i:Nat) (h:Heap) (tk:Nat),its.length - i=r→i≤its.length→Kept g h→h.DictOf (mixKind P w) d (ps.take i)→h.IsListIter I l i →
   codeAny (model P w) A (.builtin "dict.update.loop" ⟨[.ref d,.ref I,rawInt (i:Nat),.none],[]⟩) R { z with heap:=h,toks:=tk }:=by
 have hlI:l≠I:=by
  obtain ⟨o,e,_⟩:=hl;exact Ze (Zf (Zc e) hI)
 have W:=Walks.list (prog:=P) (w:=w) (A:=A.in1) hh I l hlI its.toArray;have sz:its.toArray.size=its.length:=by simp
 have lst:∀ {h},Kept g h→h.IsList l its.toArray:=fun {h} k=>by
  obtain ⟨o,e,r⟩:=hl;exact ⟨o,k _ _ e,r⟩
 have dk:∀ {h h':Heap}{q:List (Key×Value)},h.DictOf (mixKind P w) d q→(∀ b o,b∉[I]→h.get? b=some o→h'.get? b=some o)→h'.DictOf (mixKind P w) d q:=fun ⟨o,es,ep,e,r⟩ k=>⟨o,es,ep,k _ _ (by simpa using ne) e,r⟩;intro r
 induction r with
 | zero =>
  intro i h tk hr hi k hm it;have hin:i=its.length:=by omega
  subst hin;refine codeAny_builtin entry_dul ?_;rw [Around.under_plainId zC8 _];show wpAny _ A.in1 (pyNext (Value.ref I) >>= _) _ _ _;refine wpAny_bind (W.done _ _ _ ⟨by rw [sz];exact it,lst k⟩ fun h1 tk1 k1=>?_);show wpAny _ A.in1 (Builtin.Dict.addKeywords d [] >>= _) _ _ _;refine wpAny_bind (wpAny_pure (wpAny_pure ?_));rw [← len,Za] at hm;exact fin _ _ (k.but hI k1) (dk hm k1)
 | succ r ih =>
  intro i h tk hr hi k hm it;have hlt:i < its.length:=by omega
  refine codeAny_builtin entry_dul ?_;rw [Around.under_plainId zC8 _];show wpAny _ A.in1 (pyNext (Value.ref I) >>= _) _ _ _;refine wpAny_bind (W.item i _ _ _ (by rw [sz];exact hlt) ⟨it,lst k⟩ fun v h1 tk1 hv st k1=>?_);have hv':its[i]? = some v:=by simpa using hv
  obtain ⟨⟨key,u⟩,hk⟩:∃ p,ps[i]? = some p:=⟨_,Z1 (by omega)⟩;obtain ⟨t,y,rfl,ht,hy⟩:=hp i v key u hv' hk;have kg:=k.but hI k1;have ht1:=ht.keeps kg;obtain ⟨o,ho,hc,n,hdt⟩:=id ht1;have hT:({ z with heap:=h1,toks:=tk1 }:Shared).TypeIs (.ref t) "tuple":=⟨o,ho,hc⟩;refine wpAny_bind (wpAny_holding (wpAny_bind (wpAny_tryCatch ?_)));unfold Builtin.Dict.pairItems;refine wpAny_bind (wpAny_typeOf hT ?_);rw [if_pos (by decide)];refine wpAny_bind (wpAny_seqItems ho hdt (wpAny_pure ?_));show wpAny _ A.in1 (holding [y,u] (dictSet d y u)) _ _ _;have hm1:=dk hm k1;have nk:key∉(ps.take i).map (·.1):=fun m=>by
   obtain ⟨q,hq,e⟩:=List.mem_map.mp m;obtain ⟨j,hj,ej⟩:=Zv hq;have hj':j < i:=by simp at hj;omega
   have e1:(ps.map (·.1))[j]? = some key:=by
    have:ps[j]? = some q:=by
     have:=Z1 hj;rw [List.getElem?_take_of_lt hj'] at this;rw [this,ej]
    simp [this,e]
   have e2:(ps.map (·.1))[i]? = some key:=by simp [hk]
   have:=zEv nd e1 e2;omega
  have st1:stored (ps.take i) key u=ps.take (i + 1):=by
   have hany:¬ ((ps.take i).any fun kv=>decide (kv.1=key))=true:=by
    rw [List.any_eq_true];rintro ⟨kv,h1,h2⟩;exact nk (List.mem_map.mpr ⟨kv,h1,of_decide_eq_true h2⟩)
   rw [stored,if_neg hany,Z4,hk];rfl
  refine wpAny_holding (wpAny_dictSet_pairs (knd:=mixKind P w) (k:=key) hy hm1 (fun h2 hm2 sb=>?_) (by have:=Zw i ps;omega));rw [st1] at hm2;refine wpAny_pure ⟨plainId_quiet zC8 _,?_⟩;have e3:((i:Nat):Int) + 1=((i + 1:Nat):Int):=by push_cast;rfl
  show codeAny _ A (.builtin "dict.update.loop" ⟨[.ref d,.ref I,rawInt (((i:Nat):Int) + 1),.none],[]⟩) _ _;rw [e3];exact ih (i + 1) h2 _ (by omega) (by omega) (kg.same hd sb) hm2 (st.1.at fun o e=>(sb.2 I (Ne.symm ne)).trans e)
theorem call_pairs {z:Shared}{l:Addr}{its:List Value}{ps:List (Key×Value)}{Q:Value→Shared→Prop} (hh:A.handled=none) (hl:PlainL z.heap l its.toArray) (hz:its.length≤sizeLine)
  (len:ps.length=its.length) (nd:(ps.map (·.1)).Nodup) (hp:∀ (i:Nat) (v:Value) (k:Key) (u:Value),its[i]? = some v→ps[i]? = some (k,u)→∃ (t:Addr) (y:Value),v=.ref t∧IsTup z.heap t #[y,u]∧keyIs k y=true)
  (fin:∀ h tk,Kept z.heap h→h.DictOf (mixKind P w) z.heap.objs.size ps→Q (.ref z.heap.objs.size) { z with heap:=h,toks:=tk }) :
  wpAny (model P w) A (call (.type "dict") [.ref l]) Q E z:=by
 refine callType_codes (Q₁:=fun obj s₁=>obj=.ref z.heap.objs.size∧s₁ = { z with heap:=z.heap.push { cls:=.type "dict",data:=.dict #[] } }) F.kt_called_dict (F.kt_typeCall_dict_1 _) F.entry_dict_init (kt_code_dict_new _ ⟨rfl,rfl⟩) ?_;rintro obj s₁ ⟨rfl,rfl⟩;have hnew:(z.heap.push { cls:=.type "dict",data:=.dict #[] }).DictOf (mixKind P w) z.heap.objs.size []:=Heap.DictOf.new z.heap;have k0:Kept z.heap (z.heap.push { cls:=.type "dict",data:=.dict #[] }):=Kept.push _ _;obtain ⟨ol,n,el,cl,dl,sl⟩:=id hl;refine ⟨hnew.typeIs,F.args_dict_init_2 _ _,?_⟩;unfold Builtin.«dict.__init__»;refine wpAny_bind ?_;unfold Builtin.Dict.selfAndRest;refine wpAny_bind (wpAny_notOrdered_dict hnew.typeIs ?_);show wpAny _ _ (pure (z.heap.objs.size,[Value.ref l])) _ _ _;refine wpAny_pure ?_;show wpAny _ _ (Builtin.Dict.updateFrom "dict.__init__" z.heap.objs.size (.ref l) [] .none) _ _ _;unfold Builtin.Dict.updateFrom;have hT:({ z with heap:=z.heap.push { cls:=.type "dict",data:=.dict #[] } }:Shared).TypeIs (.ref l) "list":=⟨ol,k0 _ _ el,cl⟩;refine wpAny_bind (wpAny_typeOf hT ?_);rw [if_pos (by decide)];refine wpAny_bind (no_keys (k0 _ _ el) cl sl dl hh fun h1 tk1 k1=>?_);simp only [Option.isNone_none,if_true];have hl1:h1.IsList l its.toArray:=by
  obtain ⟨o,e,r⟩:=hl.isList;exact ⟨o,k1 _ _ (k0 _ _ e),r⟩
 refine wpAny_bind (wpAny_rule (wpAny_bind (wpAny_pyIter_list hl1 (wpAny_pure ⟨plainId_quiet zC8 _,?_⟩))));have sz1:z.heap.objs.size + 1≤h1.objs.size:=by
  have:=Zc (k1 _ _ (Zg z.heap (o:={ cls:=.type "dict",data:=.dict #[] }) rfl));exact this
 refine pairs_loop (g:=z.heap) (z:=z) (A:=A.in1) hh hl.isList (I:=h1.objs.size) (d:=z.heap.objs.size) (by omega) (Zb _) (Ze (by omega)) hz len nd hp (fun h tk kk hm=>⟨rfl,fin h tk kk hm⟩) _ 0 _ _ rfl (Zm _) ((k0.trans k1).trans (Kept.push _ _)) ?_ ⟨_,Zg _ rfl,rfl,rfl⟩;obtain ⟨o,es,ep,e,r⟩:=hnew;exact ⟨o,es,ep,Z2 _ (k1 _ _ e),r⟩
end
section
variable {X:Cx}
theorem zDq {K:PySem.W.Frag} (hK:X.K=K):CallR X (.type "dict") (fun vs H Q=>∃ (l:Addr) (ts:List Addr) (kvs:List (Key×V)),vs=[.ref l]∧SqL K H l (ts.map V.ref)∧X.calm=true∧(kvs.map (·.1)).Nodup∧kvs.length=ts.length ∧
  (∀ (i:Nat) (t:Addr) (k:Key) (v:V),ts[i]? = some t→kvs[i]? = some (k,v)→H t=some (.tup [kV k,v]))∧∀ p,H p=none→Q (.ref p) (upd H p (.dK kvs))):=by
 subst hK;intro pins s σ H vs us Q I rv h;obtain ⟨l,ts,kvs,rfl,hl,hc,nd,ln,ht,q⟩:=h;obtain ⟨u,rfl,ru⟩:=v1 rv;cases (show u=Value.ref l from ru);obtain ⟨its,rx,pl,hz⟩:=I.list hl;have il:=rx.length;simp only [Z0] at il hz;have one:∀ (i:Nat) (v:Value),its[i]? = some v→∃ (t:Addr) (k:Key) (x:V) (y u:Value),v=.ref t∧kvs[i]? = some (k,x)∧IsTup s.heap t #[y,u]∧keyIs k y=true∧RelV x u:=fun i v e=>by
  have hi:i < its.length:=(List.getElem?_eq_some_iff.mp e).1;obtain ⟨t,et⟩:∃ t,ts[i]? = some t:=⟨_,Z1 (by omega)⟩;obtain ⟨⟨k,x⟩,ek⟩:∃ p,kvs[i]? = some p:=⟨_,Z1 (by omega)⟩;obtain ⟨v',hv',r⟩:=rx.get (i:=i) (x:=.ref t) (by simp [et]);rw [e] at hv';cases hv';cases (show v=Value.ref t from r);obtain ⟨_,is,rr,it⟩:=I.hok t _ (ht i t k x et ek);obtain ⟨y,u,rfl,ry,ru⟩:=v2 rr;refine ⟨t,k,x,y,u,rfl,ek,it,?_,ru⟩;cases k with
  | inl n=>obtain ⟨tk,rfl⟩:=ry;exact keyIs_int n tk
  | inr z=>obtain ⟨tk,rfl⟩:=ry;exact keyIs_str z tk
 obtain ⟨ps,lp,hps⟩:∃ ps:List (Key×Value),ps.length=its.length∧∀ i,i < its.length→∃ (t:Addr) (k:Key) (x:V) (y u:Value),its[i]? = some (.ref t)∧kvs[i]? = some (k,x)∧IsTup s.heap t #[y,u]∧keyIs k y=true∧RelV x u∧ps[i]? = some (k,u):=by
  have:∀ i:Fin its.length,∃ p:Key×Value,∃ (t:Addr) (k:Key) (x:V) (y u:Value),its[i.1]? = some (.ref t)∧kvs[i.1]? = some (k,x)∧IsTup s.heap t #[y,u]∧keyIs k y=true∧RelV x u∧p=(k,u):=fun i=>by
   obtain ⟨v,hv⟩:∃ v,its[i.1]? = some v:=⟨_,Z1 i.2⟩;obtain ⟨t,k,x,y,u,rfl,h2,h3,h4,h5⟩:=one i.1 v hv;exact ⟨(k,u),t,k,x,y,u,hv,h2,h3,h4,h5,rfl⟩
  refine ⟨List.ofFn fun i=>(this i).choose,by simp,fun i hi=>?_⟩;obtain ⟨t,k,x,y,u,a1,a2,a3,a4,a5,a6⟩:=(this ⟨i,hi⟩).choose_spec;exact ⟨t,k,x,y,u,a1,a2,a3,a4,a5,by rw [List.getElem?_ofFn,dif_pos hi,a6]⟩
 have keys:ps.map (·.1)=kvs.map (·.1):=by
  refine List.ext_getElem? fun i=>?_;by_cases hi:i < its.length
  ·obtain ⟨t,k,x,y,u,a1,a2,a3,a4,a5,a6⟩:=hps i hi;simp [a2,a6]
  ·rw [List.getElem?_eq_none (by simp;omega),List.getElem?_eq_none (by simp;omega)]
 have kv:KV kvs ps:=by
  have:∀ (a:List (Key×V)) (b:List (Key×Value)),a.length=b.length→(∀ (i:Nat) (k:Key) (x:V) (k':Key) (u:Value),a[i]? = some (k,x)→b[i]? = some (k',u)→k=k'∧RelV x u)→KV a b:=by
   intro a
   induction a with
   | nil =>
    intro b hb _;cases b with
    | nil=>exact .nil
    | cons _ _=>cases hb
   | cons p t ih =>
    intro b hb hr;cases b with
    | nil=>cases hb
    | cons c d=>exact .cons (hr 0 p.1 p.2 c.1 c.2 rfl rfl) (ih d (by simpa using hb) fun i k x k' u h1 h2=>hr (i + 1) k x k' u (by simpa using h1) (by simpa using h2))
  refine this _ _ (by omega) fun i k x k' u h1 h2=>?_;obtain ⟨t,k2,x2,y,u2,a1,a2,a3,a4,a5,a6⟩:=hps i (by rw [← lp];exact (List.getElem?_eq_some_iff.mp h2).1);rw [h1] at a2;cases a2;rw [h2] at a6;cases a6;exact ⟨rfl,a5⟩
 have fr:H s.heap.objs.size=none:=I.hok.fresh (Zb _);refine call_pairs (P:=X.prog) (w:=X.w) (ps:=ps) (I.ok.hd hc) pl (by omega) lp (by rw [keys];exact nd) (fun i v k u hv hk=>?_) fun h tk kk hm=>?_
 ·obtain ⟨t,k2,x2,y,u2,a1,a2,a3,a4,a5,a6⟩:=hps i (List.getElem?_eq_some_iff.mp hv).1;rw [hv] at a1;cases a1;rw [hk] at a6;cases a6;exact ⟨t,y,rfl,a3,a4⟩
 ·refine ⟨.ref s.heap.objs.size,_,I.laid (t':=tk) (a:=s.heap.objs.size) (o:=.dK kvs) kk (Zb _) ⟨by omega,?_,ps,kv,hm⟩,rfl,q _ fr⟩;have:=I.big;exact beq_false_of_ne (Nat.ne_of_gt this)
end
end L2
namespace L2
open PySem PySem.Spec PyProof.Rows
section
variable {X:Cx}
theorem call_isinstK {K:PySem.W.Frag} (hK:X.K=K):CallR X (.builtin "isinstance") (fun xs H Q=>∃ x c t cv b,xs=[x,c]∧TyOf K H x t∧RelV c cv∧PySem.W.kitOne K t cv=some b∧Q (.bl b) H):=by
 subst hK;exact zB4
end
structure FunL (K:PySem.W.Frag) (x qual:Str) (st:Stmt) (f:Addr) (fd:FuncData) (c:Addr):Prop where
 ex:∃ (oc:Value) (od:Option Addr) (kV doc pm:Value) (an:Option Addr) (ct:Value) (osl:Array (Option Value)),
  fd=PySem.W.fnOf x qual (defArgs st) (defBody st) (defScope st) .none kV doc pm an (.ref c) ct∧K.lookup f=some ⟨oc,od,.func fd,osl⟩∧PySem.W.codeIn K (.ref c) qual=true
 kp:PySem.W.keepIn K (.ref f)=true
theorem FunL.fn {K:PySem.W.Frag}{x qual:Str}{st:Stmt}{f c:Addr}{fd:FuncData} (F:FunL K x qual st f fd c):Fun K x qual st f fd:=by
 obtain ⟨oc,od,kV,doc,pm,an,ct,osl,e,lk,hcd⟩:=F.ex;exact ⟨⟨oc,od,kV,doc,pm,an,.ref c,ct,osl,e,lk,hcd⟩,F.kp⟩
theorem FunL.okC {P:Program}{w:World}{K:PySem.W.Frag}{mg:Str→Option Value}{base:Heap}{CX:CXT}{x qual:Str}{st:Stmt}{f c:Addr}{fd:FuncData}{N ps:List Str}{k:Nat}{sp:Sp} (F:FunL K x qual st f fd c) (S:FnScope N ps (defScope st)) (len:∀ vs H Q E,sp vs H Q E→vs.length=ps.length)
  (hbody:∀ (A:Around) (outer:List Env) (s:Shared) (H:Hp) (vs:List V) (Q:VK) (E:XK),Room k (A.deeper (envOfC qual (defScope st) s.heap.objs.size f (.ref c)))→sp vs H Q E →
   ∃ t,PSs (cxOf CX P w K mg base N qual (defScope st) f (.ref c) A outer s H E).nox (defBody st) t∧t { nx:=fun _ H'=>Q .non H',rt:=Q } (start N vs) H):FnOk P w K mg base CX (k + 1) f fd ps sp:=by
 obtain ⟨oc,od,kV,doc,pm,an,ct,osl,rfl,lk,hcd⟩:=F.ex;refine fn_of lk hcd S len fun A outer s H vs Q E hr hsp=>?_;obtain ⟨t,h,q⟩:=hbody A outer s H vs Q E hr hsp;exact ⟨t,h.nox,q⟩
end L2
namespace L2
open PySem PySem.Spec PyProof.Rows
end L2
namespace L2
open PySem PySem.Spec PyProof.Rows
section
variable {X:Cx}
end
end L2
namespace L2
open PySem PySem.Spec PyProof.Rows
noncomputable abbrev OKey:=Option Str
noncomputable def okIs:OKey→Value→Bool
 | none,.none=>true
 | none,_=>false
 | some x,v=>Value.isStrOf x v
noncomputable def okH (w:World):OKey→Int
 | none=>0xFCA86420
 | some x=>hashStr w x
theorem zAv:∀ {k:OKey}{v:Value},okIs k v=true→(k=none∧v=Value.none)∨(∃ x t,k=some x∧v=Value.str x t)
 | none,v,h=>by
  cases v <;> first | exact .inl ⟨rfl,rfl⟩ | exact nomatch h
 | some x,v,h=>by
  obtain ⟨t,e⟩:=Value.isStrOf_shape (x:=x) (v:=v) h;exact .inr ⟨x,t,rfl,e⟩
theorem zCj {prog:Program}{w:World}{A:Around}{E:Value→Shared→Prop}{s:Shared}{Q:Int→Shared→Prop} (h:Q 0xFCA86420 { s with toks:=s.toks + 1 }) :
  wpAny (model prog w) A (pyHash .none) Q E s:=by
 have hT:s.TypeIs .none "NoneType":=rfl;have hv:[Value.none].any Value.onHeap=false:=rfl;show wpAny _ _ (pyHashByItsType .none) Q E s;unfold pyHashByItsType;refine wpAny_bind ?_;rw [cRoomFor,if_neg (by rw [hv];exact Zh)];refine wpAny_pure ?_;refine wpAny_bind (wpAny_specialOf hT F.slot_NoneType_hash.lookup ?_);show wpAny _ _ (if (some (Value.builtin "NoneType.__hash__") == some Value.none)=true then _ else _) Q E s;rw [if_neg (by rw [beq_builtin_none];exact Zh)];refine wpAny_bind (wpAny_specialOf hT F.slot_NoneType_hash.lookup ?_);show wpAny _ _ (callSpecialIfBoundUnlessNone? .none "__hash__" _ >>= _) Q E s
 refine wpAny_bind (wpAny_callSpecialIfBoundUnlessNone?_slot hT F.slot_NoneType_hash
  (wpAny_call_entry F.slot_NoneType_hash hT F.entry_NoneType_hash
   (show wpAny _ _ (do ret (← mkInt 0xFCA86420)) _ _ s from wpAny_ret_mkInt ?_) (F.args_NoneType_hash_1 _)))
 exact wpAny_pure h
noncomputable def optKind (prog:Program) (w:World):PySem.KeyKind prog w OKey where
 is:=okIs
 hash:=okH w
 inj:=fun v a b ha hb=>by
  rcases zAv ha with ⟨rfl,rfl⟩ | ⟨x,t,rfl,rfl⟩
  ·rcases zAv hb with ⟨rfl,e⟩ | ⟨y,u,rfl,e⟩
   ·rfl
   ·exact nomatch e
  ·rcases zAv hb with ⟨rfl,e⟩ | ⟨y,u,rfl,e⟩
   ·exact nomatch e
   ·injection e with e1 _;rw [e1]
 byValue:=fun k v h=>by
  rcases zAv h with ⟨rfl,rfl⟩ | ⟨x,t,rfl,rfl⟩ <;> rfl
 pyHash:=fun hv h=>by
  rcases zAv hv with ⟨rfl,rfl⟩ | ⟨x,t,rfl,rfl⟩
  ·exact zCj h
  ·exact wpAny_pyHash_str h
 eqBool:=fun hu hv h=>by
  rcases zAv hu with ⟨rfl,rfl⟩ | ⟨x,t,rfl,rfl⟩
  ·rcases zAv hv with ⟨rfl,rfl⟩ | ⟨y,u,rfl,rfl⟩
   ·rw [decide_eq_true rfl] at h;unfold eqBool;rw [if_pos (by rfl)];exact wpAny_bind (wpAny_rule (wpAny_pure h))
   ·rw [decide_eq_false (fun q=>nomatch q)] at h;exact SeqAt.EqAt.none_str y u _ _ _ _ h
  ·rcases zAv hv with ⟨rfl,rfl⟩ | ⟨y,u,rfl,rfl⟩
   ·rw [decide_eq_false (fun q=>nomatch q)] at h;exact SeqAt.EqAt.str_none x t _ _ _ _ h
   ·have e:decide ((some x:OKey)=some y)=decide (x=y):=by
     by_cases e:x=y
     ·subst e;simp
     ·rw [decide_eq_false e,decide_eq_false (fun q=>e (Zj q))]
    rw [e] at h;exact wpAny_eqBool_str h
 «strs»:=fun k x t v h=>by
  rcases zAv h with ⟨rfl,e⟩ | ⟨y,u,rfl,e⟩
  ·exact nomatch e
  ·injection e with e1 _;subst e1;cases v <;> rfl
noncomputable def DO (P:Program) (w:World) (a:Addr) (kvs:List (OKey×V)):HO:=.ext fun h=>kvs.length≤sizeLine∧(a == sysModules)=false∧∃ vs,KV kvs vs∧h.DictOf (optKind P w) a vs
section
variable {P:Program}{w:World}{H:Hp}{h:Heap}{a:Addr}{kvs:List (OKey×V)}
end
section
variable {X:Cx}{o i e value:Expr}{pos pos' tpos:Pos}{td ty tv tk:TE}
end
end L2
namespace L2
open PySem PySem.Spec PyProof.Rows
end L2
namespace L2.W
open PySem PySem.Spec PyProof.Rows
@[irreducible] noncomputable def PE (X:Cx) (e:Expr) (t:TE):Prop:=L2.PE X e t
theorem ePE : @L2.PE = @PE:=by unfold PE;rfl
@[irreducible] noncomputable def PT (X:Cx) (e:Expr) (t:TT):Prop:=L2.PT X e t
theorem ePT : @L2.PT = @PT:=by unfold PT;rfl
@[irreducible] noncomputable def PW (X:Cx) (e:Expr) (t:TT):Prop:=L2.PW X e t
theorem ePW : @L2.PW = @PW:=by unfold PW;rfl
@[irreducible] noncomputable def PA (X:Cx) (es:List Expr) (t:TA):Prop:=L2.PA X es t
theorem ePA : @L2.PA = @PA:=by unfold PA;rfl
@[irreducible] noncomputable def PS (X:Cx) (st:Stmt) (t:TS):Prop:=L2.PS X st t
theorem ePS : @L2.PS = @PS:=by unfold PS;rfl
@[irreducible] noncomputable def PSs (X:Cx) (st:List Stmt) (t:TS):Prop:=L2.PSs X st t
theorem ePSs : @L2.PSs = @PSs:=by unfold PSs;rfl
@[irreducible] noncomputable def PG (X:Cx) (g:Expr) (t:TG):Prop:=L2.PG X g t
theorem ePG : @L2.PG = @PG:=by unfold PG;rfl
@[irreducible] noncomputable def PGs (X:Cx) (ts:List Expr) (t:TGs):Prop:=L2.PGs X ts t
theorem ePGs : @L2.PGs = @PGs:=by unfold PGs;rfl
@[irreducible] noncomputable def PI (X:Cx) (tg iter:Expr) (wi:TI):Prop:=L2.PI X tg iter wi
theorem ePI : @L2.PI = @PI:=by unfold PI;rfl
@[irreducible] noncomputable def PFs (X:Cx) (ifs:List Expr) (t:TT):Prop:=L2.PFs X ifs t
theorem ePFs : @L2.PFs = @PFs:=by unfold PFs;rfl
noncomputable def zBg:=by have h:=@L2.zBg;rw [ePS,ePSs,ePT] at h;exact @h
noncomputable def zBs:=by have h:=@L2.zBs;rw [ePE] at h;exact @h
noncomputable def zBd:=by have h:=@L2.zBd;rw [ePE,ePT] at h;exact @h
noncomputable def ps_asg:=by have h:=@L2.ps_asg;rw [ePE,ePS,ePG] at h;exact @h
noncomputable def zAx:=by have h:=@L2.zAx;rw [ePE,ePA] at h;exact @h
noncomputable def zAd:=by have h:=@L2.zAd;rw [ePE,ePA] at h;exact @h
noncomputable def zAg:=by have h:=@L2.zAg;rw [ePE,ePS] at h;exact @h
noncomputable def fn_of:=by have h:=@L2.fn_of;rw [ePSs] at h;exact @h
noncomputable def zEl:=by have h:=@L2.zEl;rw [ePE,ePA] at h;exact @h
noncomputable def zAu:=by have h:=@L2.zAu;rw [ePE] at h;exact @h
noncomputable def pe_un:=by have h:=@L2.pe_un;rw [ePE] at h;exact @h
noncomputable def zCv:=by have h:=@L2.zCv;rw [ePE,ePA] at h;exact @h
noncomputable def zEh:=by have h:=@L2.zEh;rw [ePT,ePW] at h;exact @h
noncomputable def zD9:=by have h:=@L2.zD9;rw [ePE] at h;exact @h
noncomputable def zAf:=by have h:=@L2.zAf;rw [ePE] at h;exact @h
noncomputable def pv:=by have h:=@L2.pv;rw [ePE] at h;exact @h
noncomputable def zDz:=by have h:=@L2.zDz;rw [ePE,ePS] at h;exact @h
noncomputable def zA6:=by have h:=@L2.zA6;rw [ePS,ePSs] at h;exact @h
noncomputable def zC1:=by have h:=@L2.zC1;rw [ePE] at h;exact @h
noncomputable def zBk:=by have h:=@L2.zBk;rw [ePGs] at h;exact @h
noncomputable def zD6:=by have h:=@L2.zD6;rw [ePG,ePGs] at h;exact @h
noncomputable def zA4:=by have h:=@L2.zA4;rw [ePS,ePSs] at h;exact @h
noncomputable def bin:=by have h:=@L2.bin;rw [ePE] at h;exact @h
noncomputable def zEm:=by have h:=@L2.zEm;rw [ePE,ePT] at h;exact @h
noncomputable def zEq:=by have h:=@L2.zEq;rw [ePE] at h;exact @h
noncomputable def zAs:=by have h:=@L2.zAs;rw [ePSs] at h;exact @h
noncomputable def zCl:=by have h:=@L2.zCl;rw [ePE] at h;exact @h
noncomputable def zAh:=by have h:=@L2.zAh;rw [ePG,ePGs] at h;exact @h
noncomputable def zCy:=by have h:=@L2.zCy;rw [ePS,ePSs,ePT] at h;exact @h
noncomputable def pe_var:=by have h:=@L2.pe_var;rw [ePE] at h;exact @h
noncomputable def zA8:=by have h:=@L2.zA8;rw [ePG] at h;exact @h
noncomputable def zBq:=by have h:=@L2.zBq;rw [ePA,ePI] at h;exact @h
noncomputable def zEi:=by have h:=@L2.zEi;rw [ePE,ePT] at h;exact @h
noncomputable def zB5:=by have h:=@L2.zB5;rw [ePS,ePSs,ePG,ePI] at h;exact @h
noncomputable def zAz:=by have h:=@L2.zAz;rw [ePE,ePT] at h;exact @h
noncomputable def zA9:=by have h:=@L2.zA9;rw [ePE,ePA] at h;exact @h
noncomputable def pc_isN:=by have h:=@L2.pc_isN;rw [ePE] at h;exact @h
noncomputable def zDe:=by have h:=@L2.zDe;rw [ePE] at h;exact @h
noncomputable def zC7:=by have h:=@L2.zC7;rw [ePT,ePW] at h;exact @h
noncomputable def zAw:=by have h:=@L2.zAw;rw [ePE,ePA] at h;exact @h
noncomputable def zE1:=by have h:=@L2.zE1;rw [ePE] at h;exact @h
noncomputable def binT:=by have h:=@L2.binT;rw [ePE] at h;exact @h
noncomputable def zBl:=by have h:=@L2.zBl;rw [ePE] at h;exact @h
noncomputable def zAl:=by have h:=@L2.zAl;rw [ePSs] at h;exact @h
noncomputable def PW.pt:=by have h:=@L2.PW.pt;rw [ePT,ePW] at h;exact @h
noncomputable def zD8:=by have h:=@L2.zD8;rw [ePE,ePA] at h;exact @h
noncomputable def pw_and:=by have h:=@L2.pw_and;rw [ePT,ePW] at h;exact @h
noncomputable def zBp:=by have h:=@L2.zBp;rw [ePT] at h;exact @h
noncomputable def zCz:=by have h:=@L2.zCz;rw [ePE] at h;exact @h
noncomputable def zEp:=by have h:=@L2.zEp;rw [ePE] at h;exact @h
noncomputable def zA3:=by have h:=@L2.zA3;rw [ePA] at h;exact @h
noncomputable def zA7:=by have h:=@L2.zA7;rw [ePE] at h;exact @h
noncomputable def zAb:=by have h:=@L2.zAb;rw [ePE,ePI] at h;exact @h
noncomputable def PT.nox:=by have h:=@L2.PT.nox;rw [ePT] at h;exact @h
noncomputable def zAi:=by have h:=@L2.zAi;rw [ePE] at h;exact @h
noncomputable def zAa:=by have h:=@L2.zAa;rw [ePE,ePS] at h;exact @h
noncomputable def zDr:=by have h:=@L2.zDr;rw [ePE] at h;exact @h
noncomputable def zEk:=by have h:=@L2.zEk;rw [ePE] at h;exact @h
noncomputable def Fun.ok:=by have h:=@L2.Fun.ok;rw [ePSs] at h;exact @h
noncomputable def zBe:=by have h:=@L2.zBe;rw [ePT] at h;exact @h
noncomputable def pg_sub:=by have h:=@L2.pg_sub;rw [ePE,ePG] at h;exact @h
noncomputable def zB7:=by have h:=@L2.zB7;rw [ePE] at h;exact @h
noncomputable def zAe:=by have h:=@L2.zAe;rw [ePE,ePA] at h;exact @h
noncomputable def PSs.nox:=by have h:=@L2.PSs.nox;rw [ePSs] at h;exact @h
noncomputable def zA0:=by have h:=@L2.zA0;rw [ePE,ePA] at h;exact @h
noncomputable def PE.nox:=by have h:=@L2.PE.nox;rw [ePE] at h;exact @h
noncomputable def zB3:=by have h:=@L2.zB3;rw [ePE,ePS] at h;exact @h
noncomputable def zEg:=by have h:=@L2.zEg;rw [ePT,ePW] at h;exact @h
noncomputable def pc_din:=by have h:=@L2.pc_din;rw [ePE] at h;exact @h
noncomputable def zEn:=by have h:=@L2.zEn;rw [ePE] at h;exact @h
noncomputable def zBt:=by have h:=@L2.zBt;rw [ePE] at h;exact @h
noncomputable def ps_dput:=by have h:=@L2.ps_dput;rw [ePE,ePS] at h;exact @h
noncomputable def zEo:=by have h:=@L2.zEo;rw [ePE] at h;exact @h
noncomputable def zD0:=by have h:=@L2.zD0;rw [ePE,ePG,ePFs] at h;exact @h
noncomputable def zB8:=by have h:=@L2.zB8;rw [ePE,ePS,ePG,ePI,ePFs] at h;exact @h
noncomputable def zAj:=by have h:=@L2.zAj;rw [ePE,ePG,ePI,ePFs] at h;exact @h
noncomputable def zE0:=by have h:=@L2.zE0;rw [ePT,ePFs] at h;exact @h
noncomputable def zAt:=by have h:=@L2.zAt;rw [ePFs] at h;exact @h
noncomputable def pi_str:=by have h:=@L2.pi_str;rw [ePE,ePI] at h;exact @h
noncomputable def Fun.okC:=by have h:=@L2.Fun.okC;rw [ePSs] at h;exact @h
noncomputable def zD5:=by have h:=@L2.zD5;rw [ePG,ePGs] at h;exact @h
noncomputable def zBr:=by have h:=@L2.zBr;rw [ePE] at h;exact @h
noncomputable def zD7:=by have h:=@L2.zD7;rw [ePE,ePA] at h;exact @h
noncomputable def FunL.okC:=by have h:=@L2.FunL.okC;rw [ePSs] at h;exact @h
end L2.W
namespace L2
open PySem PySem.Spec PyProof.Rows
noncomputable def XO (C a:Addr):HO:=.ext fun h=>∃ o vs,h.get? a=some o∧o.cls=.ref C∧o.data=.fields vs
section
variable {P:Program}{w:World}{H:Hp}{h:Heap}{a C:Addr}{o:HO}
theorem xo_ok {ob:Obj}{vs:Array Value} (e:h.get? a=some ob) (c:ob.cls=.ref C) (d:ob.data=.fields vs):ObjOk P w H h a (XO C a) :=
 ⟨⟨ob,vs,e,c,d⟩,⟨ob,e⟩,fun _ _ ⟨o,vs,e,c,d⟩ k=>⟨o,vs,k _ e,c,d⟩⟩
theorem xo_of (ok:HOk P w H h) (e:H a=some (XO C a)):∃ o vs,h.get? a=some o∧o.cls=.ref C∧o.data=.fields vs:=(show ObjOk P w H h a (XO C a) from ok a _ e).1
theorem ObjOk.ex (x:ObjOk P w H h a o):∃ ob,h.get? a=some ob:=by
 cases o with
 | lst xs=>obtain ⟨_,_,_,_,e⟩:=x;exact ⟨_,e⟩
 | tup xs=>obtain ⟨_,_,_,ob,e,_⟩:=x;exact ⟨_,e⟩
 | dK kvs=>obtain ⟨_,_,_,_,o,_,_,e,_⟩:=x;exact ⟨_,e⟩
 | dT kvs=>obtain ⟨_,_,_,_,o,_,_,e,_⟩:=x;exact ⟨_,e⟩
 | set S n=>obtain ⟨o,_,_,_,e,_⟩:=x;exact ⟨_,e⟩
 | ins C dx fs=>obtain ⟨_,_,_,e,_⟩:=x;exact ⟨_,e⟩
 | own y=>exact x
 | xd fs=>obtain ⟨_,⟨_,_,_,e,_⟩,_⟩:=x;exact ⟨_,e⟩
 | rng lo hi=>obtain ⟨_,_,_,e⟩:=x;exact ⟨_,e⟩
 | frz ob u=>exact ⟨_,x.1⟩
 | tbl ps=>exact ⟨_,x⟩
 | met f y=>exact ⟨_,x⟩
 | ext φ=>exact x.2.1
theorem HOk.noth (ok:HOk P w H h) (e:h.get? a=none):H a=none:=by
 cases q:H a with
 | none=>rfl
 | some u =>
  obtain ⟨ob,eb⟩:=(ok a u q).ex;rw [e] at eb;cases eb
end
noncomputable def Tr (G:Addr→Prop) (H:Hp) (h:Heap) (e:Addr):Prop:=∃ o vs a0 T oT ts,h.get? e=some o∧o.data=.fields vs∧vs[0]? = some a0∧vs[1]? = some (.ref T)∧G T∧H T=none∧h.get? T=some oT∧oT.data=.fields ts∧ts[3]? = some .none
noncomputable def Fresh (h:Heap) (e:Addr):Prop:=∃ o vs a0,h.get? e=some o∧o.data=.fields vs∧vs[0]? = some a0∧vs[1]? = some .none
theorem Tr.imp {G G':Addr→Prop}{H:Hp}{h:Heap}{e:Addr} (x:Tr G H h e) (f:∀ T,G T→G' T):Tr G' H h e :=
 let ⟨o,vs,a0,T,oT,ts,h1,h2,h3,h4,g,r⟩:=x
 ⟨o,vs,a0,T,oT,ts,h1,h2,h3,h4,f _ g,r⟩
noncomputable def CXM (P:Program) (w:World):CXT:=fun outer H s E u s'=>∃ e C H',u=.ref e∧s'.os=s.os∧AllBare s'.gens∧Un (frs outer) [] H H' s.heap s'.heap∧HOk P w H' s'.heap∧H' e=some (XO C e)∧Tr (fun T=>s.heap.get? T=none) H' s'.heap e∧E (.ref C) (some e) H'
theorem calmM {P:Program}{w:World}:Calm (CXM P w):=fun _ _ _ _ _ ⟨_,_,_,_,_,_,_,_,_,_,q⟩=>q
structure Mvd (l:List Env) (e T0:Addr) (cls a0 fl:Value) (h h':Heap):Prop where
 keep:∀ b o,h.get? b=some o→b≠e→b≠T0→b∉frs l→h'.get? b=some o
 slot:∀ b o,h.get? b=some o→b∈frs l→∃ sl,h'.get? b=some { o with slots:=sl }
 tr:∃ oe vs T oT ts,h'.get? e=some oe∧oe.cls=cls∧vs[0]? = some a0∧oe.data=.fields vs∧vs[1]? = some (.ref T)∧(T=T0∨h.get? T=none)∧T≠e∧h'.get? T=some oT∧oT.data=.fields ts∧ts[3]? = some fl
noncomputable abbrev bas (h:Heap) (l:List Env) (e T0:Addr):Heap:=PySem.W.hideAll h (e :: T0 :: frs l)
section
variable {base h h':Heap}{l:List Env}{e T0:Addr}{cls a0 fl:Value}
theorem moved (hl:h.FunFrames base l) (st:(bas h l e T0).StaysIn h') (ff:h'.FunFrames (bas h l e T0) l) (tr:h'.TracedAtW (bas h l e T0) e cls a0 fl) (up:h.UpToSlots h'):Mvd l e T0 cls a0 fl h h':=by
 refine ⟨fun b o q n1 n2 n3=>st b o (PySem.W.hideAll_get _ q ?_),fun b o q hb=>?_,?_⟩
 ·intro z;rcases List.mem_cons.mp z with z | z
  ·exact n1 z
  ·rcases List.mem_cons.mp z with z | z
   ·exact n2 z
   ·exact n3 z
 ·obtain ⟨_,o',ho,hn⟩:=hl.mem hb;rw [q] at ho;cases ho;exact up b o q hn
 ·obtain ⟨oe,vs,T,oT,ts,he,⟨hc,h0⟩,hd,h1,hn,hne,hT,hdT,h3⟩:=tr;refine ⟨oe,vs,T,oT,ts,he,hc,h0,hd,h1,?_,hne,hT,hdT,h3⟩;cases q:h.get? T with
  | none=>exact .inr rfl
  | some o =>
   refine .inl (Classical.byContradiction fun nT=>?_);have:(bas h l e T0).get? T=some o:=PySem.W.hideAll_get _ q fun z=>by
    rcases List.mem_cons.mp z with z | z
    ·exact hne z
    ·rcases List.mem_cons.mp z with z | z
     ·exact nT z
     ·obtain ⟨_,o',ho,hnf⟩:=ff.mem z;rw [hT] at ho;cases ho;exact hnf _ hdT
   rw [hn] at this;cases this
theorem fly_of (hl:h.FunFrames base l) {oe oT:Obj}{vs ts:Array Value} (he:h.get? e=some oe) (hd:oe.data=.fields vs) (h0:vs[0]? = some a0) (h1:vs[1]? = some (.ref T0)) (hne:T0≠e) (hT:h.get? T0=some oT) (hdT:oT.data=.fields ts) (h3:ts[3]? = some .none) :
  Heap.FlyingW (bas h l e T0) l e oe.cls a0 h :=
 ⟨fun b o q=>PySem.W.of_hideAll _ q,PySem.W.hideAll_none _ (.head _),PySem.W.funFrames_hide hl fun env he a ea=>.tail _ (.tail _ (List.mem_filterMap.mpr ⟨env,he,ea⟩)),oe,vs,T0,oT,ts,he,⟨rfl,h0⟩,hd,h1,PySem.W.hideAll_none _ (.tail _ (.head _)),hne,hT,hdT,h3⟩
end
section
variable {X:Cx}{pins:List (Addr×Obj)}{σ : St}{H:Hp}{s:Shared}{e C T0:Addr}{h':Heap}{cls a0 fl:Value}
theorem Mvd.ex (m:Mvd X.stack e T0 cls a0 fl s.heap h') (b:Addr) (o:Obj) (q:s.heap.get? b=some o) (h2:b≠T0):∃ o',h'.get? b=some o':=by
 obtain ⟨oe,_,_,_,_,he,_⟩:=m.tr;by_cases h1:b=e
 ·rw [h1];exact ⟨oe,he⟩
 ·by_cases h3:b∈frs X.stack
  ·obtain ⟨sl,z⟩:=m.slot b o q h3;exact ⟨_,z⟩
  ·exact ⟨o,m.keep b o q h1 h2 h3⟩
theorem Mvd.hok (m:Mvd X.stack e T0 (.ref C) a0 fl s.heap h') (I:Inv X pins σ H s) (he:H e=some (XO C e)) (hT:T0=e∨H T0=none):HOk X.prog X.w H h':=fun b u eb=>by
 by_cases h1:b=e
 ·subst h1;rw [he] at eb;cases eb;obtain ⟨oe,vs,_,_,_,h2,h3,_,h4,_⟩:=m.tr;exact xo_ok h2 h3 h4
 ·refine (I.hok b u eb).stay (fun c v hc q=>m.keep c v q ?_ ?_ ?_) (fun _ q=>q) fun _ _ q=>q
  ·rintro rfl;rcases hc with z | z
   ·exact h1 z.symm
   ·rw [he] at z;cases z
  ·rintro rfl;rcases hT with z | z
   ·subst z;rcases hc with z | z
    ·exact h1 z.symm
    ·rw [he] at z;cases z
   ·rcases hc with y | y
    ·rw [← y,z] at eb;cases eb
    ·rw [z] at y;cases y
  ·intro z;have:=I.stkFree c z;rcases hc with y | y
   ·rw [← y,this] at eb;cases eb
   ·rw [this] at y;cases y
theorem Inv.moved {t':Nat} (I:Inv X pins σ H s) (he:H e=some (XO C e)) (hT:H T0=none) (h0:X.s₀.heap.get? T0=none) (hp:∀ p∈X.pn++pins,p.1≠T0) {oT:Obj}{ts:Array Value} (eT:s.heap.get? T0=some oT) (dT:oT.data=.fields ts)
  (m:Mvd X.stack e T0 (.ref C) a0 fl s.heap h'):Inv X pins σ H { s with heap:=h',toks:=t' }:=by
 have nL:T0≠X.env.locals:=by
  rintro rfl;obtain ⟨_,⟨o,es,ep,ho,hd,_⟩,_⟩:=I.loc;rw [ho] at eT;cases eT;rw [hd] at dT;cases dT
 have nC:∀ x c,X.env.cells.lookup x=some c→c≠T0:=by
  rintro x c hc rfl;obtain ⟨v,o,ho,hd⟩:=I.cell x c hc;rw [ho] at eT;cases eT;rw [hd] at dT;cases dT
 have neS:∀ b,H b=none→b≠e:=fun b n z=>by rw [z,he] at n;cases n
 have sub:∀ b,b∈X.fs→b∈frs X.stack:=fun b hb=>by
  rcases I.ok.stk with z | ⟨z,hf⟩
  ·rw [z];exact hb
  ·rw [z];unfold frs;rw [Zy,hf];exact Z5 _ hb
 refine I.step (g':=s.gens) (d':=s.drawn) (ch:=[T0]) (fun b hb=>?_) (fun b o n1 n2 n3 q n=>m.keep b o q (neS b n) (fun z=>n3 (by simp [z])) fun z=>(List.mem_cons.mp (I.stkSub b z)).elim n1 n2)
  (fun b o n1 n2 n3 q n=>m.slot b o q (sub b n2)) (fun b o _ _ n=>n) (fun b o n q=>m.ex b o q fun z=>n (by simp [z])) (fun _ _ q=>q) (fun _ _ _ q=>q) (fun b ps q=>⟨#[],by rw [q];simp⟩) (fun mm hm=>?_) (m.hok I he (.inr hT)) I.bare
 ·have:b=T0:=by simpa using hb
  subst this;exact ⟨.inr h0,nL,nC,hp⟩
 ·obtain ⟨o,es,ep,ho,hd,r⟩:=hm;by_cases z:X.env.locals∈frs X.stack
  ·obtain ⟨sl,q⟩:=m.slot _ _ ho z;exact ⟨_,es,ep,q,hd,r⟩
  ·exact ⟨o,es,ep,m.keep _ _ ho (neS _ I.free) (Ne.symm nL) z,hd,r⟩
theorem leave_cx {E:XK}{E':Value→Shared→Prop} (I:Inv X pins σ H s) (hx:X.ex=[]) (hs:X.stack=X.env :: X.outer) (hf:X.env.frame=some X.env.locals) (he:H e=some (XO C e)) (fl:Fresh s.heap e∨Tr (fun T=>X.s₀.heap.get? T=none) H s.heap e) (q:E (.ref C) (some e) H) :
  wpAny (model X.prog X.w) X.A (leaving X.env (.ref e)) (fun _ s''=>CXM X.prog X.w X.outer X.H₀ X.s₀ E (.ref e) s'') E' s:=by
 have hfr:X.A.frames=some (X.env :: X.outer):=by rw [← hs];exact I.ok.frames
 have hl:s.heap.FunFrames X.base (X.env :: X.outer):=by rw [← hs];exact I.stack
 obtain ⟨ox,vx,hox,hcx,hdx⟩:=xo_of I.hok he;have fin:∀ (T0:Addr) (h':Heap) (a0:Value),(T0=e∨(H T0=none∧X.s₀.heap.get? T0=none))→Mvd X.stack e T0 (.ref C) a0 .none s.heap h'→CXM X.prog X.w X.outer X.H₀ X.s₀ E (.ref e) { s with heap:=h' }:=by
  intro T0 h' a0 hT m;have hT1:T0=e∨H T0=none:=hT.imp_right fun z=>z.1;have back:∀ b o,X.s₀.heap.get? b=some o→∃ o',s.heap.get? b=some o':=fun b o z=>I.base.there b o z (by rw [hx];simp);have nT:∀ b o,X.s₀.heap.get? b=some o→H b=none→b≠T0:=fun b o z n y=>by
   rcases hT with w | ⟨_,w⟩
   ·rw [y,w,he] at n;cases n
   ·rw [y,w] at z;cases z
  have nE:∀ b,H b=none→b≠e:=fun b n z=>by rw [z,he] at n;cases n
  have nL:∀ b o,X.s₀.heap.get? b=some o→b≠X.env.locals:=fun b o z=>Ze (Zf (Zc z) I.ok.above);have inS:∀ b,b∈frs X.stack→b=X.env.locals∨b∈frs X.outer:=fun b z=>List.mem_cons.mp (I.stkSub b z);obtain ⟨oe,vs,T,oT,ts,h1,h2,h3,h4,h5,h6,h7,h8,h9,h10⟩:=m.tr;refine ⟨e,C,H,rfl,I.os,I.bare,⟨fun b o z n hb _=>?_,fun b o z n hb _=>?_,fun b o z n _=>I.base.free b o z n (by rw [hx];simp),fun b o z _=>?_,I.base.tups,I.base.frzs,I.base.tbls⟩,m.hok I he hT1,he,⟨oe,vs,a0,T,oT,ts,h1,h4,h3,h5,?_,?_,h8,h9,h10⟩,q⟩
  ·have n':=I.base.free b o z n (by rw [hx];simp);exact m.keep b o (I.base.keep b o z n hb (by rw [hx];simp)) (nE b n') (nT b o z n') fun y=>(inS b y).elim (nL b o z) hb
  ·obtain ⟨sl,z1⟩:=I.base.slot b o z n hb (by rw [hx];simp);obtain ⟨sl',z2⟩:=m.slot b _ z1 (by rw [hs];unfold frs;rw [Zy,hf];exact Z5 _ hb);exact ⟨sl',z2⟩
  ·obtain ⟨o',z1⟩:=back b o z;by_cases y:b=T0
   ·rcases hT with w | ⟨_,w⟩
    ·rw [y,w];exact ⟨oe,h1⟩
    ·rw [y,w] at z;cases z
   ·exact m.ex b o' z1 y
  ·show X.s₀.heap.get? T=none;rcases h6 with z | z
   ·rcases hT with y | ⟨_,y⟩
    ·exact absurd (z.trans y) h7
    ·rw [z];exact y
   ·cases y:X.s₀.heap.get? T with
    | none=>rfl
    | some o =>
     obtain ⟨o',y1⟩:=back T o y;rw [z] at y1;cases y1
  ·rcases h6 with z | z
   ·rcases hT with y | ⟨y,_⟩
    ·exact absurd (z.trans y) h7
    ·rw [z];exact y
   ·exact I.hok.noth z
 rcases fl with ⟨oe,vs,a0,h1,h2,h3,h4⟩ | ⟨oe,vs,a0,T0,oT,ts,h1,h2,h3,h4,g,n,h5,h6,h7⟩
 ·rw [h1] at hox;cases hox;refine wpAny_leaving_firstW (base:=bas s.heap (X.env :: X.outer) e e) (a0:=a0) hfr (PySem.W.funFrames_hide hl fun env he a ea=>.tail _ (.tail _ (List.mem_filterMap.mpr ⟨env,he,ea⟩))) hf h1 (fun b o z=>PySem.W.of_hideAll _ z) (PySem.W.hideAll_none _ (.head _)) h2 h4 h3 fun h' hL=>?_;obtain ⟨k1,k2,k3,k4⟩:=hL;rw [hcx] at k3;refine fin e h' a0 (.inl rfl) ?_;rw [hs];exact L2.moved hl k1 k2 k3 k4
 ·rw [h1] at hox;cases hox;have hne:T0≠e:=fun z=>by rw [z,he] at n;cases n
  have F:=fly_of hl h1 h2 h3 h4 hne h5 h6 h7;rw [hcx] at F;refine wpAny_leaving_nextW hfr F.2.2.1 hf F.2.2.2 F.1 F.2.1 fun h' hL=>?_;obtain ⟨k1,k2,k3,k4⟩:=hL;have m:=L2.moved hl k1 k2 k3 k4;exact fin T0 h' a0 (.inr ⟨n,g⟩) (by rw [hs];exact m)
end
end L2
namespace L2
open PySem PySem.Spec PyProof.Rows
theorem exc_obj {K:PySem.W.Frag}{h:Heap}{C:Addr}{bmB:List Value}{newId:String} (X:K.In h) (q:PySem.W.excIn K C bmB newId=true) :
  ∃ bm N nm q bs hdct sn sub ab col dd k0 k1 k2 k3 k5 mN,h.get? C=some (excClassObj nm q C N bs bm hdct sn sub ab col dd k0 k1 k2 k3 k5 newId)∧h.Ns N mN∧mN "__init__" = none∧OwnTail h bmB bm:=by
 unfold PySem.W.excIn at q;split at q
 ·rename_i dd cd sl ho
  split at q
  ·rename_i C' bm k0 k1 k2 k3 n k5 hm hs
   simp only [Zu,beq_iff_eq,Bool.not_eq_true'] at q;obtain ⟨⟨⟨⟨⟨rfl,rfl⟩,hdel⟩,ht⟩,hok⟩,hni⟩:=q;obtain ⟨nm,bs,mro,ns,qn,hd,sn,sub,ab,col,del⟩:=cd;dsimp only at hm hdel hok hni;subst hm hdel;have hsl:sl = #[k0,k1,k2,k3,some (.builtin n),k5]:=by
    obtain ⟨l⟩:=sl;simp only at hs;rw [hs]
   subst hsl;exact ⟨bm,ns,nm,qn,bs,hd,sn,sub,ab,col,dd,k0,k1,k2,k3,k5,_,X _ _ ho,.of_isNs (PySem.W.isNs_of_in X hok),PySem.W.nsMap_none_of_in X hok hni,PySem.W.tail_of_in X ht⟩
  ·cases q
 ·cases q
section
variable {X:Cx}{pins:List (Addr×Obj)}{σ : St}{H H':Hp}{s:Shared}{e C:Addr}{h h':Heap}{o:HO}
theorem Un.born {fs ex:List Addr} (k:∀ b u,h.get? b=some u→h'.get? b=some u) (hp:h.get? e=none) (hn:H e=none):Un fs ex H (upd H e o) h h' where
 keep:=fun b u q _ _ _=>k b u q
 slot:=fun b u q _ _ _=>⟨u.slots,k b u q⟩
 free:=fun b u q n _=>by rw [zA5 (fun z=>by rw [z,hp] at q;cases q)];exact n
 there:=fun b u q _=>⟨u,k b u q⟩
 tups:=fun b xs q=>by rw [zA5 (zA2 q hn)];exact q
 frzs:=fun b u xs q=>by rw [zA5 (zA2 q hn)];exact q
 tbls:=fun b ps q=>⟨#[],by rw [zA5 (zA2 q hn),q];simp⟩
theorem HOk.born {P:Program}{w:World} (x:HOk P w H h) (k:∀ b u,h.get? b=some u→h'.get? b=some u) (hp:h.get? e=none) (new:ObjOk P w (upd H e o) h' e o):HOk P w (upd H e o) h':=fun b u q=>by
 have hn:=x.noth hp;by_cases hb:b=e
 ·subst hb;rw [zA1] at q;cases q;exact new
 ·rw [zA5 hb] at q;exact (x b u q).stay (fun c v _ q=>k c v q) (fun c q=>by rw [zA5 (zA2 q hn)];exact q) fun c xs q=>by rw [zA5 (zA2 q hn)];exact q
theorem Inv.born {t':Nat} (I:Inv X pins σ H s) (k:∀ b u,s.heap.get? b=some u→h'.get? b=some u) (hp:s.heap.get? e=none) (new:ObjOk X.prog X.w (upd H e o) h' e o):Inv X pins σ (upd H e o) { s with heap:=h',toks:=t' } :=
 I.un (Un.born k hp (I.hok.noth hp)) (I.hok.born k hp new)
theorem Inv.cx {s':Shared}{E:XK}{u:Value} (I:Inv X pins σ H s) (c:CXM X.prog X.w X.stack H s E u s') :
  ∃ e C H',u=.ref e∧Inv X pins σ H' s'∧H' e=some (XO C e)∧Tr (fun T=>s.heap.get? T=none) H' s'.heap e∧E (.ref C) (some e) H':=by
 obtain ⟨e,C,H',rfl,os,bare,un,hok,he,tr,q⟩:=c;exact ⟨e,C,H',rfl,I.call' (ch:=[]) os un hok bare (fun b z=>absurd z (by simp)),he,tr,q⟩
theorem Inv.back (I:Inv X pins σ H s) (hx:X.ex=[]) {T:Addr} (n:s.heap.get? T=none):X.s₀.heap.get? T=none:=by
 cases y:X.s₀.heap.get? T with
 | none=>rfl
 | some o =>
  obtain ⟨o',y1⟩:=I.base.there T o y (by rw [hx];simp);rw [n] at y1;cases y1
end
section
variable {P:Program}{w:World}{K:PySem.W.Frag}{mg:Str→Option Value}{base:Heap}{N:List Str}{qual:Str}{scope:Scope}{f:Addr}{cd:Value}{A:Around}{outer:List Env}{s:Shared}{H:Hp}{E:XK}
noncomputable abbrev cxM (P:Program) (w:World) (K:PySem.W.Frag) (mg:Str→Option Value) (base:Heap) (N:List Str) (qual:Str) (scope:Scope) (f:Addr) (cd:Value) (A:Around) (outer:List Env) (s:Shared) (H:Hp) (E:XK):Cx:=cxOf (CXM P w) P w K mg base N qual scope f cd A outer s H E
theorem xe_new {pins:List (Addr×Obj)}{σ : St}{H':Hp}{s':Shared}{e C:Addr} (I:Inv (cxM P w K mg base N qual scope f cd A outer s H E) pins σ H' s') (he:H' e=some (XO C e)) (fl:Fresh s'.heap e∨Tr (fun T=>s.heap.get? T=none) H' s'.heap e) (q:E (.ref C) (some e) H') :
  (cxM P w K mg base N qual scope f cd A outer s H E).xe (.ref e) s':=leave_cx I rfl rfl rfl he fl q
theorem pass_on:Passes (CXM P w) (cxM P w K mg base N qual scope f cd A outer s H E) (fun _=>E):=fun pins σ H1 s1 u s2 I c=>by
 obtain ⟨e,C,H',rfl,I',he,tr,q⟩:=I.cx c;exact xe_new I' he (.inr (tr.imp fun T n=>I.back rfl n)) q
end
section
variable {X:Cx}{x:Str}{np cpos pos:Pos}{a:Expr}{as:List Expr}{t:TA}{C:Addr}{W:St→Addr→Hp→Prop}
theorem zEj (hc:PySem.W.excIn X.K C [.type "ValueError",.type "Exception",.type "BaseException",.type "object"] "ValueError.__new__" = true) (hg:Gl X x) (hm:X.mg x=some (.ref C)) (hcm:X.calm=true) (ha:PA X (a :: as) t)
  (hx:∀ pins σ H s e,Inv X pins σ H s→H e=some (XO C e)→Fresh s.heap e→W σ e H→X.xe (.ref e) s) (hdb:(x == ("__debug__" : Str))=false:=by decide)
  (he:starEach (a :: as) X.env=(false,eval a X.env) :: starEach as X.env:=by rfl) (hpl:(backTo cpos (starEach as X.env)).any (·.1)=false:=by rfl) :
  PS X (.Raise (some (.Call (.Name x np) (a :: as) [] cpos)) none pos) (fun _ σ H=>t σ H fun vs H1=>vs.length≤sizeLine∧∀ e,H1 e=none→W σ e (upd H1 e (XO C e))):=by
 intro pins s σ H D I h;obtain ⟨bm,N,nm,q,bs,hdct,sn,sub,ab,col,dd,k0,k1,k2,k3,k5,mN,hC,hN,hni,T⟩:=exc_obj I.ok.mod.kin hc;have hA:=ha cpos pins s σ H _ I h;refine wpAny_Raise_call_subU (C:=C) (nm:=nm) (q:=q) (N:=N) (bs:=bs) (bm:=bm) (hdct:=hdct) (sn:=sn) (sub:=sub) (ab:=ab) (col:=col) (dd:=dd) (k0:=k0) (k1:=k1) (k2:=k2) (k3:=k3) (k5:=k5)
  PySem.F.excBase_ValueError PySem.F.excBase_ValueError.hasB PySem.F.excBase_ValueError (mN:=mN) (T.hasType PySem.F.excBase_ValueError.hasBase) (I.ok.hd hcm) (by rw [he];show (false || (backTo cpos (starEach as X.env)).any (·.1))=false;rw [hpl];rfl) hni (zDh I hg hm ⟨rfl,?_⟩ hdb)
 rw [he] at hA ⊢;refine Calls.evalArgs_plain (thn hA fun us s2 ⟨vs,H2,I2,r,hz,k⟩=>⟨rfl,by rw [← r.length];exact hz,I2.bk _ _ hC,hN.keeps I2.bk,T.keeps I2.bk,fun h' e hm=>?_⟩);obtain ⟨tt,h1,h2,h3⟩:=hm.there;exact hx pins σ _ { s2 with heap:=h' } e (I2.born (t':=s2.toks) (o:=XO C e) hm.keeps hm.new (xo_ok h1 rfl rfl)) zA1 ⟨_,_,_,h1,rfl,rfl,rfl⟩ (k e (I2.hok.noth hm.new))
end
end L2
namespace L2
open PySem PySem.Spec PyProof.Rows
noncomputable abbrev TW:=St→Addr→Addr→Hp→Prop
noncomputable def Cx.tri (X:Cx) (pins:List (Addr×Obj)) (W:TW):Cx:={ X with
 pn:=X.pn++pins
 xe:=fun u s'=>∃ e C σ' H',u=.ref e∧Inv X pins σ' H' s'∧H' e=some (XO C e)∧Tr (fun T=>X.s₀.heap.get? T=none∧∀ p∈X.pn++pins,p.1≠T) H' s'.heap e∧W σ' e C H' }
noncomputable def Cx.hnd (X:Cx) (e:Addr):Cx:={ X with
 A:=X.A.mark (some (.ref e))
 calm:=false
 xe:=fun _ _=>False }
section
variable {X:Cx}{pins pins':List (Addr×Obj)}{σ : St}{H:Hp}{s:Shared}{W:TW}{e:Addr}
theorem Cx.Ok.tri (ok:X.Ok):(X.tri pins W).Ok:=⟨ok.mod,ok.kind,ok.glob,ok.blt,ok.above,ok.inj,ok.has,ok.cab,ok.hd,ok.frames,ok.stk,ok.exf,ok.bs,ok.bsz,ok.noex,ok.exfs,ok.funs,ok.frf⟩
theorem Cx.Ok.untri (ok:(X.tri pins W).Ok):X.Ok:=⟨ok.mod,ok.kind,ok.glob,ok.blt,ok.above,ok.inj,ok.has,ok.cab,ok.hd,ok.frames,ok.stk,ok.exf,ok.bs,ok.bsz,ok.noex,ok.exfs,ok.funs,ok.frf⟩
theorem Cx.Ok.hnd (ok:X.Ok):(X.hnd e).Ok:=⟨ok.mod,ok.kind,ok.glob,ok.blt,ok.above,ok.inj,ok.has,ok.cab,(fun z=>Bool.noConfusion (show false=true from z)),ok.frames,ok.stk,ok.exf,ok.bs,ok.bsz,ok.noex,ok.exfs,ok.funs,ok.frf⟩
theorem Inv.tri (I:Inv X pins σ H s):Inv (X.tri pins W) [] σ H s:=⟨I.ok.tri,I.os,I.bare,I.base,I.loc,I.cell,I.free,I.freeC,fun p hp=>I.pin p (by simpa [Cx.tri] using hp),I.hok,I.len⟩
theorem Inv.untri (I:Inv (X.tri pins W) pins' σ H s):Inv X pins σ H s:=⟨I.ok.untri,I.os,I.bare,I.base,I.loc,I.cell,I.free,I.freeC,fun p hp=>I.pin p (Y3 _ hp),I.hok,I.len⟩
theorem Inv.hnd (I:Inv X pins σ H s):Inv (X.hnd e) pins σ H s:=⟨I.ok.hnd,I.os,I.bare,I.base,I.loc,I.cell,I.free,I.freeC,I.pin,I.hok,I.len⟩
theorem Inv.unhnd (ok:X.Ok) (I:Inv (X.hnd e) pins σ H s):Inv X pins σ H s:=⟨ok,I.os,I.bare,I.base,I.loc,I.cell,I.free,I.freeC,I.pin,I.hok,I.len⟩
theorem SP.untri {D:Ends}{f:Flow}{s':Shared} (h:SP (X.tri pins W) pins' D f s'):SP X pins D f s':=by
 cases f with
 | next=>obtain ⟨σ',H',I,q⟩:=h;exact ⟨σ',H',I.untri,q⟩
 | brk=>obtain ⟨σ',H',I,q⟩:=h;exact ⟨σ',H',I.untri,q⟩
 | cont=>obtain ⟨σ',H',I,q⟩:=h;exact ⟨σ',H',I.untri,q⟩
 | ret u=>obtain ⟨v,σ',H',I,r,q⟩:=h;exact ⟨v,σ',H',I.untri,r,q⟩
theorem pass_try (hx:X.ex=[]):Passes (CXM X.prog X.w) (X.tri pins W) (fun σ cls eo H'=>∃ e C,cls=.ref C∧eo=some e∧W σ e C H'):=fun pins' σ H1 s1 u s2 I c=>by
 obtain ⟨e,C,H',rfl,I',he,tr,e',C',h1,h2,q⟩:=I.cx c;cases h1;cases h2
 exact ⟨e,C,σ,H',rfl,I'.untri,he,tr.imp fun T n=>⟨I.back hx n,fun p hp z=>by
  have:=(I.pin p (Y3 _ hp)).1;rw [z,n] at this
  cases this⟩,q⟩
end
noncomputable def Ends.but (D:Ends) (i:Nat):Ends:={ nx:=fun σ H=>D.nx (σ.set i none) H,rt:=D.rt,bk:=fun σ H=>D.bk (σ.set i none) H,ct:=fun σ H=>D.ct (σ.set i none) H }
section
variable {X:Cx}{x n:Str}{np hpos pos:Pos}{body suite:List Stmt}{b₀ : Stmt}{i:Nat}{B:Addr}{tb:TW→TS}{th:Addr→TS}
end
end L2
namespace L2
open PySem PySem.Spec PyProof.Rows PySem.W
section
variable {prog:Program}{w:World}{A:Around}{E:Value→Shared→Prop}{h:Heap}{g:Array GenState}{d:Drawn}{t:Nat}{os:OsState}{a:Addr}{o:Obj}
 {nm q:Str}{C N:Addr}{bs bm:List Value}{hdct:Bool}{sn:List Str}{sub:List Value}{ab:Bool}{col:Option Bool}{dd:Option Addr}{k0 k1 k2 k3 k5:Option Value}{newId:String}
end
section
variable {prog:Program}{w:World}{A:Around}{E:Value→Shared→Prop}{s:Shared}{K:Frag}{x C D:Addr}{ox:Obj}
end
section
variable {X:Cx}
end
end L2
namespace L2
open PySem PySem.Spec PyProof.Rows
theorem Fun.okX {P:Program}{w:World}{K:PySem.W.Frag}{mg:Str→Option Value}{base:Heap}{CX:CXT}{x qual:Str}{st:Stmt}{f:Addr}{fd:FuncData}{N ps:List Str}{k:Nat}{sp:Sp} (F:Fun K x qual st f fd) (S:FnScope N ps (defScope st)) (len:∀ vs H Q E,sp vs H Q E→vs.length=ps.length)
  (hbody:∀ (cdv:Value) (A:Around) (outer:List Env) (s:Shared) (H:Hp) (vs:List V) (Q:VK) (E:XK),Room k (A.deeper (envOfC qual (defScope st) s.heap.objs.size f cdv))→sp vs H Q E →
   ∃ t,PSs (cxOf CX P w K mg base N qual (defScope st) f cdv A outer s H E) (defBody st) t∧t { nx:=fun _ H'=>Q .non H',rt:=Q } (start N vs) H):FnOk P w K mg base CX (k + 1) f fd ps sp:=by
 obtain ⟨oc,od,kV,doc,pm,an,cdv,ct,osl,rfl,lk,hcd⟩:=F.ex;exact fn_of lk hcd S len fun A outer s H vs Q E hr hsp=>hbody cdv A outer s H vs Q E hr hsp
namespace W
noncomputable def zEj:=by have h:=@L2.zEj;rw [ePS,ePA] at h;exact @h
noncomputable def Fun.okX:=by have h:=@L2.Fun.okX;rw [ePSs] at h;exact @h
end W
end L2
namespace L2
open PySem PySem.Spec PyProof.Rows
noncomputable def Cx.re (X:Cx) (N':List Str):Cx:={ X with N:=N' }
noncomputable def hide:List Nat→St→St
 | [],σ=>σ
 | i :: is,σ=>hide is (σ.set i none)
theorem zEx:∀ (is:List Nat) (σ : St),(hide is σ).length = σ.length
 | [],_=>rfl
 | i :: is,σ=>by rw [hide,zEx is,List.length_set]
theorem zEy:∀ (is:List Nat) (σ : St) (i:Nat) (v:V),(hide is σ)[i]? = some (some v)→i∉is∧σ[i]? = some (some v)
 | [],_,_,_,h=>⟨by simp,h⟩
 | j :: is,σ,i,v,h=>by
  obtain ⟨h1,h2⟩:=zEy is _ i v h;have ne:j≠i:=by
   rintro rfl;rw [List.getElem?_set] at h2;simp only [if_true] at h2;split at h2 <;> cases h2
  rw [List.getElem?_set_ne ne] at h2;exact ⟨by simp [h1,Ne.symm ne],h2⟩
noncomputable def Ends.hid (D:Ends) (is:List Nat):Ends:={ nx:=fun σ H=>D.nx (hide is σ) H,rt:=D.rt,bk:=fun σ H=>D.bk (hide is σ) H,ct:=fun σ H=>D.ct (hide is σ) H }
noncomputable def sameN (N N':List Str) (is:List Nat):Prop:=N'.length=N.length∧∀ i,i < N.length→i∉is→N'[i]? = N[i]?
section
variable {X:Cx}{pins:List (Addr×Obj)}{σ : St}{H:Hp}{s:Shared}{N':List Str}{is:List Nat}{st:Stmt}{t:TS}
theorem Inv.re (h:sameN X.N N' is) (I:Inv X pins σ H s):Inv (X.re N') pins (hide is σ) H s :=
 ⟨⟨I.ok.mod,I.ok.kind,I.ok.glob,I.ok.blt,I.ok.above,I.ok.inj,I.ok.has,I.ok.cab,I.ok.hd,I.ok.frames,I.ok.stk,I.ok.exf,I.ok.bs,I.ok.bsz,I.ok.noex,I.ok.exfs,I.ok.funs,I.ok.frf⟩,I.os,I.bare,I.base,by
  obtain ⟨m,hn,hl⟩:=I.loc;refine ⟨m,hn,fun i x v e1 e2 e3=>?_⟩;obtain ⟨n,e2⟩:=zEy is σ i v e2;have il:i < X.N.length:=by rw [← h.1];exact (List.getElem?_eq_some_iff.mp e1).1
  exact hl i x v ((h.2 i il n).symm.trans e1) e2 e3,I.cell,I.free,I.freeC,I.pin,I.hok,by rw [zEx,I.len];exact h.1.symm⟩
theorem Inv.unre (ok:X.Ok) (h:sameN X.N N' is) (I:Inv (X.re N') pins σ H s):Inv X pins (hide is σ) H s :=
 ⟨ok,I.os,I.bare,I.base,by
  obtain ⟨m,hn,hl⟩:=I.loc;refine ⟨m,hn,fun i x v e1 e2 e3=>?_⟩;obtain ⟨n,e2⟩:=zEy is σ i v e2;have il:i < X.N.length:=(List.getElem?_eq_some_iff.mp e1).1
  exact hl i x v ((h.2 i il n).trans e1) e2 e3,I.cell,I.free,I.freeC,I.pin,I.hok,by rw [zEx,I.len];exact h.1⟩
theorem ps_re (N':List Str) (is:List Nat) (h:sameN X.N N' is) (hs:PS (X.re N') st t):PS X st (fun D σ H=>t (D.hid is) (hide is σ) H):=by
 intro pins s σ H D I hw;refine wpAny_mono (hs pins s (hide is σ) H (D.hid is) (I.re h) hw) (fun f s1 h1=>?_) (fun _ _ e=>e);cases f with
 | next=>obtain ⟨σ',H',J,q⟩:=h1;exact ⟨_,_,J.unre I.ok h,q⟩
 | brk=>obtain ⟨σ',H',J,q⟩:=h1;exact ⟨_,_,J.unre I.ok h,q⟩
 | cont=>obtain ⟨σ',H',J,q⟩:=h1;exact ⟨_,_,J.unre I.ok h,q⟩
 | ret u=>obtain ⟨v,σ',H',J,r,q⟩:=h1;exact ⟨v,_,_,J.unre I.ok h,r,q⟩
end
theorem FnOk.calm {P:Program}{w:World}{K:PySem.W.Frag}{mg:Str→Option Value}{base:Heap}{CX:CXT}{k:Nat}{f:Addr}{fd:FuncData}{ps:List Str}{sp:Sp} (hC:Calm CX) (F:FnOk P w K mg base CX k f fd ps sp):FnOk P w K mg base CX0 k f fd ps (fun vs H Q E=>sp vs H Q fun _ _ _=>False) :=
 ⟨fun vs H Q E h=>F.len vs H Q _ h,fun A outer s H args us vs Q E hr he hb hv h=>by
  have:=F.run A outer s H args us vs Q (fun _ _ _=>False) hr he hb hv h;refine codeAny_mono this fun r s' h'=>?_;cases r with
  | ok c =>
   cases c with
   | ret u=>exact h'
   | _=>exact h'
  | error e=>exact hC _ _ _ _ _ h'⟩
namespace W
noncomputable def ps_re:=by have h:=@L2.ps_re;rw [ePS] at h;exact @h
end W
end L2
namespace L2
open PySem PySem.Spec PyProof.Rows
structure TabM (H:Hp) (P:Addr) (q:Str):Prop where
 ex:∃ ps:Array Value,H P=some (.tbl ps)∧TriplesOk ps.toList∧∀ (pos:Pos) (v:Value),codeAmong pos ps.toList=some v→∃ a,v=.ref a∧H a=some (CodeO a q)
theorem TabM.ne {H:Hp}{P:Addr}{q:Str} (T:TabM H P q) {a:Addr}{o:HO} (e:H a=some o) (h:∀ ps,o≠.tbl ps):a≠P:=by
 rintro rfl;obtain ⟨ps,z,_⟩:=T.ex;rw [e] at z;exact h _ (Zj z)
theorem TabM.but {H H':Hp}{P P':Addr}{q:Str} (T:TabM H P q) (hn:P≠P') (h':∃ ps,H P'=some (.tbl ps)) (k:GrownBut P' H H'):TabM H' P q:=by
 obtain ⟨ps,z,t,c⟩:=T.ex;refine ⟨ps,k _ _ z hn,t,fun pos v e=>?_⟩;obtain ⟨a,e1,e2⟩:=c pos v e;refine ⟨a,e1,k _ _ e2 ?_⟩;rintro rfl;obtain ⟨ps',h'⟩:=h';rw [e2] at h';cases h'
theorem TabM.upd {H:Hp}{P:Addr}{q:Str}{p:Addr}{u o:HO} (T:TabM H P q) (hp:H p=some u) (h1:∀ ps,u≠.tbl ps) (h2:∀ f,u≠.ext f):TabM (L2.upd H p o) P q:=by
 have n1:=T.ne hp h1;obtain ⟨ps,z,t,c⟩:=T.ex;refine ⟨ps,by rw [zA5 (Ne.symm n1)];exact z,t,fun pos v e=>?_⟩;obtain ⟨a,e1,e2⟩:=c pos v e;refine ⟨a,e1,?_⟩;rw [zA5 ?_]
 ·exact e2
 ·rintro rfl;rw [hp] at e2;exact h2 _ (Zj e2)
theorem zCg {pos p:Pos}{c v:Value}:∀ (l:List Value),TriplesOk l→codeAmong pos (l++[rawInt p.line,rawInt p.col,c])=some v→codeAmong pos l=some v∨v=c
 | [],_,h=>by
  simp only [List.nil_append,codeAmong,rawInt] at h;split at h
  ·exact .inr (Zj h).symm
  ·cases h
 | .int a t :: .int b u :: x :: r,ok,h=>by
  simp only [List.cons_append,codeAmong] at h ⊢;split at h
  ·rename_i hc
   rw [if_pos hc];exact .inl h
  ·rename_i hc
   rw [if_neg hc];exact zCg r ok h
structure LamAt (f c':Addr) (q:Str) (params:Arguments) (body:Expr) (scope:Scope) (cl:List (Str×Addr)) (N:List Str) (ws:List V) (h:Heap):Prop where
 fn:∃ o pm ctv,h.get? f=some o∧o.data=.func (PySem.W.kla_fn "<lambda>" q params body scope cl pm (.ref c') ctv)
 val:∀ (i:Nat) (x:Str) (v:V),N[i]? = some x→ws[i]? = some v→∃ c u,cl.lookup x=some c∧RelV v u∧h.IsCell c (some u)
 cel:∀ x c,cl.lookup x=some c→∃ v,h.IsCell c v
 inj:∀ x y c,cl.lookup x=some c→cl.lookup y=some c→x=y
 has:∀ x,scope.names.lookup x=some .free→∃ c,cl.lookup x=some c
 len:ws.length=N.length
section
variable {f c':Addr}{q:Str}{params:Arguments}{body:Expr}{scope:Scope}{cl:List (Str×Addr)}{N:List Str}{ws:List V}{h h':Heap}{H:Hp}
end
noncomputable def cxL (CX:CXT) (P:Program) (w:World) (K:PySem.W.Frag) (mg:Str→Option Value) (base:Heap) (N:List Str) (qual:Str) (scope:Scope) (f:Addr) (cd:Value) (cl:List (Str×Addr)) (A:Around) (outer:List Env) (s:Shared) (H:Hp) (E:XK):Cx where
 prog:=P
 w:=w
 K:=K
 mg:=mg
 base:=base
 A:=A.deeper (PySem.W.envX qual scope s.heap.objs.size f cd cl)
 N:=N
 s₀:=s
 H₀:=H
 env:=PySem.W.envX qual scope s.heap.objs.size f cd cl
 outer:=outer
 stack:=PySem.W.envX qual scope s.heap.objs.size f cd cl :: outer
 ex:=[]
 calm:=true
 fn:=fun _=>false
 pn:=[]
 xe:=fun e s'=>wpAny (model P w) (A.deeper (PySem.W.envX qual scope s.heap.objs.size f cd cl)) (leaving (PySem.W.envX qual scope s.heap.objs.size f cd cl) e) (fun _ s''=>CX outer H s E e s'') (fun e' s''=>CX outer H s E e' s'') s'
section
variable {CX:CXT}{P:Program}{w:World}{K:PySem.W.Frag}{mg:Str→Option Value}{base:Heap}{k:Nat}{f c':Addr}{q:Str}{params:Arguments}{body:Expr}{scope:Scope}{cl:List (Str×Addr)}{N:List Str}{ws:List V}
end
section
variable {X:Cx}{CX:CXT}{k:Nat}{f c':Addr}{q x:Str}{params:Arguments}{body:Expr}{scope:Scope}{cl:List (Str×Addr)}{N:List Str}{ws:List V}{sp:Hp→VK→XK→Prop}{E:St→XK}{i:Nat}{p pos:Pos}
end
section
variable {X:Cx}{pins:List (Addr×Obj)}{σ : St}{H:Hp}{s:Shared}{A:Around}{E:Value→Shared→Prop}
end
section
variable {X:Cx}{CX:CXT}{k:Nat}{fw c P:Addr}{fd:FuncData}{q x y:Str}{params:Arguments}{body:Expr}{scope:Scope}{N:List Str}{ix:List Nat}{sp:Addr→Addr→List (Str×Addr)→List V→Sp}{E:St→XK}{p lpos pos:Pos}
end
theorem FunL.okX {P:Program}{w:World}{K:PySem.W.Frag}{mg:Str→Option Value}{base:Heap}{CX:CXT}{x qual:Str}{st:Stmt}{f c:Addr}{fd:FuncData}{N ps:List Str}{k:Nat}{sp:Sp} (F:FunL K x qual st f fd c) (S:FnScope N ps (defScope st)) (len:∀ vs H Q E,sp vs H Q E→vs.length=ps.length)
  (hbody:∀ (A:Around) (outer:List Env) (s:Shared) (H:Hp) (vs:List V) (Q:VK) (E:XK),Room k (A.deeper (envOfC qual (defScope st) s.heap.objs.size f (.ref c)))→sp vs H Q E →
   ∃ t,PSs (cxOf CX P w K mg base N qual (defScope st) f (.ref c) A outer s H E) (defBody st) t∧t { nx:=fun _ H'=>Q .non H',rt:=Q } (start N vs) H):FnOk P w K mg base CX (k + 1) f fd ps sp:=by
 obtain ⟨oc,od,kV,doc,pm,an,ct,osl,rfl,lk,hcd⟩:=F.ex;exact fn_of lk hcd S len fun A outer s H vs Q E hr hsp=>hbody A outer s H vs Q E hr hsp
namespace W
noncomputable def FunL.okX:=by have h:=@L2.FunL.okX;rw [ePSs] at h;exact @h
end W
end L2
namespace PySem.SeqAt
open AutoSeq1 (wpAny_loadPart')
open MeetsSeq
section
variable {A:Around}{s:Shared}
end
end PySem.SeqAt
namespace L2
open PySem PySem.Spec PyProof.Rows
section
variable {X:Cx}{pins:List (Addr×Obj)}{σ : St}{H:Hp}{s:Shared}
end
end L2
namespace L2
open PySem PySem.Spec PyProof.Rows
noncomputable def OnlyTs (ts:List Addr) (H:Hp):Prop:=(∀ T∈ts,H T=some (.tbl #[]))∧∀ b,b∉ts→H b=none∨∃ o xs,H b=some (.frz o (.lst xs))
theorem law_callTs {P:Program}{w:World}{K:PySem.W.Frag}{mg mb:Str→Option Value}{CX:CXT}{k:Nat}{fa a:Addr}{ts:List Addr}{fd:FuncData}{x:Str}{sp:Sp}{s₁ : Shared}{vs:List Value}{ns:List Int}
  (KX:K.In s₁.heap) (hns:s₁.heap.Ns mainGlobals mg) (hb:s₁.heap.Ns builtinsNs mb) (hbb:∀ x:Str,x≠"__name__"→mb x=bootBuiltins x) (hlim:s₁.heap.NoLimit) (hg:s₁.gens = #[]) (hBl:BltAt mg s₁.heap) (hT:∀ T∈ts,s₁.heap.get? T=some (PySem.W.tabObj #[])) (hKT:∀ T∈ts,K.lookup T=none) (hCd:∀ T∈ts,∃ c,PySem.W.codeHdIn K c T=true)
  (ha:s₁.heap.get? a=some { cls:=.type "list",data:=.seq vs.toArray }) (hi:IntsAre vs ns) (hl:ns.length≤sizeLine) (hr:Room k callerA)
  (F:∀ base:Heap,K.In base→base.Ns mainGlobals mg→BltAt mg base→FnOk P w K mg base CX k fa fd [x] sp) (hbind:∀ (s:Shared) (u:Value),BindsTo s fd ⟨[u],[]⟩ [(x,u)])
  (hsp:∀ H:Hp,OnlyTs ts H→SqL K H a (ns.map V.int)→sp [.ref a] H (fun v _=>v=.bl true) fun _ _ _=>False)
  (hCX:∀ H e s',CX [] H s₁ (fun _ _ _=>False) e s'→False) :
  codeAny (model P w) callerA (.call (.ref fa) ⟨[.ref a],[]⟩) (fun r s'=>r=.ok (.ret (.bool true))∧OldK s₁.heap s'.heap∧s'.os=s₁.os∧AllBare s'.gens) s₁:=by
 have rv:=zD2 hi;have lenV:=hi.length;have aT:a∉ts:=fun h=>by
  have:=hT a h;rw [ha] at this;cases this
 have core:∀ H:Hp,OnlyTs ts H→SqL K H a (ns.map V.int)→HOk P w H s₁.heap→(∀ b,H b≠none→b=a∨b∈ts)→(H a≠none→K.lookup a=none) →
   codeAny (model P w) callerA (.call (.ref fa) ⟨[.ref a],[]⟩) (fun r s'=>r=.ok (.ret (.bool true))∧OldK s₁.heap s'.heap∧s'.os=s₁.os∧AllBare s'.gens) s₁:=by
  intro H hO hS hok hA hK;have base_of:∀ {b:Addr}{o:Obj},s₁.heap.get? b=some o→H b=none→(hidT s₁.heap H).get? b=some o:=fun e n=>hidT_get e n;have noA:∀ {b:Addr}{o:Obj}{es:Array DictEntry}{ep:Nat},s₁.heap.get? b=some o→o.data=.dict es ep→H b=none:=fun {b o es ep} e d=>by
   cases q:H b with
   | none=>rfl
   | some u =>
    rcases hA b (by rw [q];simp) with e' | e'
    ·subst e';rw [ha] at e;cases e;have d':Data.seq vs.toArray _=Data.dict es ep:=d;cases d'
    ·rw [hT b e'] at e;cases e;cases d
  have nsK:∀ {b:Addr}{m:Str→Option Value},s₁.heap.Ns b m→(hidT s₁.heap H).Ns b m:=fun {b m} ⟨o,es,ep,e,d,r⟩=>⟨o,es,ep,base_of e (noA e d),d,r⟩
  have hKb:K.In (hidT s₁.heap H):=fun b o e=>base_of (KX b o e) (by
   cases q:H b with
   | none=>rfl
   | some u =>
    rcases hA b (by rw [q];simp) with e' | e'
    ·subst e';rw [hK (by rw [q];simp)] at e;cases e
    ·rw [hKT b e'] at e;cases e)
  have hBl2:BltAt mg (hidT s₁.heap H):=by
   obtain ⟨bm,ob,e1,e2,e3,e4,e5,e6,e7⟩:=hBl;refine ⟨bm,ob,e1,e2,e3,base_of e4 ?_,e5,e6,e7⟩;cases q:H bm with
   | none=>rfl
   | some u =>
    rcases hA bm (by rw [q];simp) with e' | e'
    ·subst e';rw [ha] at e4;cases e4;exact absurd (show Value.type "list" = Value.type "module" from e5) (by decide)
    ·rw [hT bm e'] at e4;cases e4;exact absurd (show Value.none=Value.type "module" from e5) (by decide)
  have hM:Mod K mg (hidT s₁.heap H):=⟨hKb,nsK hns,⟨mb,nsK hb,hbb⟩,let ⟨mc,h1,h2⟩:=hlim;⟨mc,nsK h1,h2⟩⟩;have e0:Env0 P w K mg (hidT s₁.heap H) callerA [] s₁ H:=⟨rfl,hM,fun b o e=>of_hidT e,Nat.le_of_eq (hidT_size _ _),trivial,fun b hb=>absurd (show b∈([]:List Addr) from hb) (by simp),hok,.of_eq hg⟩;refine codeAny_mono ((F _ hKb (nsK hns) hBl2).run callerA [] s₁ H ⟨[.ref a],[]⟩ [.ref a] [.ref a] _ _ hr e0 (hbind s₁ (.ref a)) (.cons rfl .nil) (hsp H hO hS)) fun r s' h=>?_;cases r with
  | error e=>exact (hCX H e s' h).elim
  | ok fl =>
   cases fl with
   | next=>exact False.elim h
   | brk=>exact False.elim h
   | cont=>exact False.elim h
   | ret u =>
    obtain ⟨v,H',os,bare,un,hok',r',q⟩:=h;have q':v=.bl true:=q;subst q';obtain rfl:u=Value.bool true:=r';have keep:∀ b o,b∉ts→s₁.heap.get? b=some o→s'.heap.get? b=some o:=fun b o nb e=>by
     cases q:H b with
     | none=>exact un.keep b o e q (by intro z;exact absurd (show b∈([]:List Addr) from z) (by simp)) (by simp)
     | some u =>
      rcases hO.2 b nb with z | ⟨ob,xs,z⟩
      ·rw [q] at z;cases z
      ·have z2:=un.frzs b ob _ z;obtain ⟨e1,_⟩:=hok b _ z;obtain ⟨e2,_⟩:=hok' b _ z2;rw [e] at e1;cases e1;exact e2
    have gT:∀ T∈ts,∃ more,s'.heap.get? T=some { cls:=.none,data:=.fields (#[]++more) }:=fun T hm=>by
     obtain ⟨more,eT⟩:=un.tbls T _ (hO.1 T hm);exact ⟨more,hok' T _ eT⟩
    refine ⟨rfl,⟨fun b o e=>?_,fun b o e=>?_⟩,os,bare⟩
    ·by_cases nb:b∈ts
     ·obtain ⟨more,g⟩:=gT b nb;rw [hT b nb] at e;cases e;obtain ⟨c,hc⟩:=hCd b nb;obtain ⟨oc,vsc,_,_,_,_,_,_,_,g1,g2,g3,g4,_⟩:=PySem.W.codeHd_of_K KX hc;exact .inr (.inl ⟨⟨c,oc,vsc,g1,g2,g3,g4⟩,rfl,#[],more,rfl,g⟩)
     ·exact .inl (keep b o nb e)
    ·by_cases nb:b∈ts
     ·obtain ⟨more,g⟩:=gT b nb;exact ⟨_,g⟩
     ·exact ⟨o,keep b o nb e⟩
 cases hk:K.lookup a with
 | some o =>
  have e:=KX a o hk;rw [ha] at e;cases e;refine core (fun b=>if b∈ts then some (.tbl #[]) else none) ⟨fun T hm=>if_pos hm,fun b nb=>.inl (if_neg nb)⟩ (.inr ⟨_,vs.toArray,_,hk,rfl,rfl,rfl,by rw [Z7,lenV];exact hl,by simpa using rv⟩) (fun b u z=>?_) (fun b z=>?_) fun z=>absurd (if_neg aT) z
  ·by_cases nb:b∈ts
   ·have z':=(if_pos nb).symm.trans z;cases z';exact hT b nb
   ·have z':=(if_neg nb).symm.trans z;cases z'
  ·by_cases nb:b∈ts
   ·exact .inr nb
   ·exact absurd (if_neg nb) z
 | none =>
  refine core (fun b=>if b∈ts then some (.tbl #[]) else if b=a then some (.frz { cls:=.type "list",data:=.seq vs.toArray } (.lst (ns.map V.int))) else none) ⟨fun T hm=>if_pos hm,fun b nb=>?_⟩ (.inl (.inr ⟨{ cls:=.type "list",data:=.seq vs.toArray },?_⟩)) (fun b u z=>?_) (fun b z=>?_) fun _=>hk
  ·by_cases hb:b=a
   ·exact .inr ⟨_,_,(if_neg nb).trans (if_pos hb)⟩
   ·exact .inl ((if_neg nb).trans (if_neg hb))
  ·exact (if_neg aT).trans (if_pos rfl)
  ·by_cases nb:b∈ts
   ·have z':=(if_pos nb).symm.trans z;cases z';exact hT b nb
   ·have z':=(if_neg nb).symm.trans z;by_cases hb:b=a
    ·have z2:=(if_pos hb).symm.trans z';cases z2;subst hb;exact ⟨ha,by rw [Z0];exact hl,vs,_,rv,ha⟩
    ·have z2:=(if_neg hb).symm.trans z';cases z2
  ·by_cases nb:b∈ts
   ·exact .inr nb
   ·by_cases hb:b=a
    ·exact .inl hb
    ·exact absurd ((if_neg nb).trans (if_neg hb)) z
end L2
namespace L2
open PySem PySem.Spec PyProof.Rows
section
variable {X:Cx}
end
end L2
namespace L2
open PySem PySem.Spec PyProof.Rows
section
variable {X:Cx}
end
namespace W
end W
end L2
namespace L2
open PySem PySem.Spec PyProof.Rows
section
variable {X:Cx}
end
namespace W
end W
end L2
namespace L2
open PySem PySem.Spec PyProof.Rows
section
variable {P:Program}{w:World}{A:Around}{E:Value→Shared→Prop}{s:Shared}
end
section
variable {P:Program}{w:World}{A:Around}{E:Value→Shared→Prop}{s:Shared}
end
end L2
namespace L2.W
open PySem PySem.Spec PyProof.Rows
end L2.W
namespace L2
open PySem PySem.Spec PyProof.Rows
section
variable {X:Cx}{CX:CXT}{k:Nat}{f C:Addr}{fd:FuncData}{ps:List Str}{sp:Sp}{dvs:List V}{ds:List Value}{E:St→XK}{x m:Str}{p pos apos:Pos}{e:Expr}{es:List Expr}{t:TA}
end
end L2
namespace L2.W
open PySem PySem.Spec PyProof.Rows
end L2.W
namespace L2
open PySem PySem.Spec PyProof.Rows
end L2
namespace L2.W
open PySem PySem.Spec PyProof.Rows
end L2.W
namespace L2
open PySem PySem.Spec PyProof.Rows
section
variable {prog:Program}{w:World}{A:Around}{R:Result→Shared→Prop}{I:Addr}{fp wr:List Addr}{G:Array GenState→Array GenState→Prop}{n:Nat}{P:Nat→Value→Prop}{St:Nat→Shared→Prop}
end
section
variable {prog:Program}{w:World}{A:Around}{E:Value→Shared→Prop}{s:Shared}
end
section
variable {X:Cx}
end
end L2
namespace L2
open PySem PySem.Spec PyProof.Rows
section
variable {X:Cx}
end
end L2
namespace L2
open PySem PySem.Spec PyProof.Rows
section
variable {X:Cx}{e:Expr}{es:List Expr}{te:TE}{t:TA}
end
end L2
namespace L2.W
open PySem PySem.Spec PyProof.Rows
end L2.W
namespace L2
open PySem PySem.Spec PyProof.Rows
theorem zDf {α β : Type} [BEq α] [LawfulBEq α] {x : α}{v : β}:∀ {l:List (α×β)},l.lookup x=some v→x∈l.map (·.1)
 | [],h=>by cases h
 | (y,u) :: l,h=>by
  rw [Y0] at h;cases e:x == y with
  | true=>rw [eq_of_beq e];simp
  | false =>
   rw [e] at h;exact Z5 _ (zDf h)
section
variable {X:Cx}{CX:CXT}{k:Nat}{fw c P:Addr}{fd:FuncData}{q x y:Str}{params:Arguments}{body:Expr}{scope:Scope}{N:List Str}{ix:List Nat}{sp:Addr→Addr→List (Str×Addr)→List V→Sp}{E:St→XK}{p lpos pos:Pos}
end
namespace W
end W
end L2
namespace L2
open PySem PySem.Spec PyProof.Rows
section
variable {X:Cx}{x n:Str}{np hpos pos:Pos}{body suite:List Stmt}{b₀ : Stmt}{i:Nat}{B:Addr}{tb:TW→TS}{th:Addr→TS}
theorem ps_tryN (hx:X.ex=[]) (hs:X.stack=X.env :: X.outer) (hf:X.env.frame=some X.env.locals) (hg:Gl X x) (hm:X.mg x=some (.ref B))
  (hb:∀ pins W,PSs (X.tri pins W) body (tb W)) (hh:∀ e,PSs (X.hnd e) (b₀ :: suite) (th e)) (hdb:(x == ("__debug__" : Str))=false:=by decide) :
  PS X (.Try body [.ExceptHandler (some (.Name x np)) none (b₀ :: suite) hpos] [] [] pos) (fun D σ H=>∃ W:TW,tb W D σ H∧∀ σ' e C H',H' e=some (XO C e)→W σ' e C H'→PySem.W.exmOne X.K (.ref C) (.ref B)=some true∧th e D σ' H'):=by
 intro pins s σ H D I ⟨W,hbW,hW⟩;refine wpAny_Try_except (wpAny_mono (hb pins W [] s σ H D I.tri hbW) (fun f s1 h1=>?_) (fun u s1 h1=>?_))
 ·have h1:=h1.untri;cases f with
  | next =>
   obtain ⟨σ',H',I',q⟩:=h1;exact zAl pins s1 σ' H' D I' q
  | brk=>exact h1
  | cont=>exact h1
  | ret u=>exact h1
 ·obtain ⟨e,C,σ',H',rfl,I',he,tr,w⟩:=h1;obtain ⟨oe,vs,a0,T0,oT,ts,h1,h2,h3,h4,⟨g1,g2⟩,nT,h5,h6,h7⟩:=tr;obtain ⟨hK,hT⟩:=hW σ' e C H' he w;have hfr:X.A.frames=some (X.env :: X.outer):=by rw [← hs];exact I.ok.frames
  have hl':s1.heap.FunFrames X.base (X.env :: X.outer):=by rw [← hs];exact I'.stack
  obtain ⟨ox,vx,hox,hcx,hdx⟩:=xo_of I'.hok he;rw [h1] at hox;cases hox;have hne:T0≠e:=fun z=>by rw [z,he] at nT;cases nT
  have F:=fly_of hl' h1 h2 h3 h4 hne h5 h6 h7;rw [hcx] at F;have mv:∀ {h':Heap}{t':Nat},Heap.FlyingW (bas s1.heap (X.env :: X.outer) e T0) (X.env :: X.outer) e (.ref C) a0 h'→s1.heap.UpToSlots h'→Inv X pins σ' H' { s1 with heap:=h',toks:=t' }:=fun {h'}{t'} F up=>by
   have m:=L2.moved (fl:=.none) hl' F.1 F.2.2.1 F.2.2.2 up;rw [← hs] at m;exact I'.moved he nT g1 g2 h5 h6 m
  refine wpAny_looks_onW hfr hf F fun h₄ H4 up4=>?_;refine wpAny_landsW H4 fun h₅ F5 up5=>?_;have I5:=mv (t':=s1.toks) F5 (up4.trans up5);have I5h:=I5.hnd (e:=e);refine wpAny_handleBy_cons (codeAny_handlers_test (zDh I5h hg hm ?_ hdb)) (by intro q;cases q);obtain ⟨o5,ho5,hc5⟩:=F5.there;have LT:PySem.W.Looks (model X.prog X.w) h₅ (typeOf (.ref e)) (.ref C):=by
   rw [← hc5];exact (PySem.W.Looks.ld ho5).andThen .now
  refine PySem.W.exm_one I5.kIn LT hK _ _ _ _ (fun _ _ q=>q) ?_;refine codeAny_handlers_suite ?_;refine lands_againW F5 fun h₆ F6 up6=>?_;have I6:=(mv (t':=s1.toks) F6 ((up4.trans up5).trans up6)).hnd (e:=e);refine wpAny_mono (hh e pins _ _ H' D I6 hT) (fun f s8 h8=>?_) (fun _ _ z=>False.elim z);cases f with
  | next=>obtain ⟨σ8,H8,J,q⟩:=h8;exact ⟨_,_,J.unhnd I.ok,q⟩
  | brk=>obtain ⟨σ8,H8,J,q⟩:=h8;exact ⟨_,_,J.unhnd I.ok,q⟩
  | cont=>obtain ⟨σ8,H8,J,q⟩:=h8;exact ⟨_,_,J.unhnd I.ok,q⟩
  | ret u=>obtain ⟨v,σ8,H8,J,r,q⟩:=h8;exact ⟨v,_,_,J.unhnd I.ok,r,q⟩
end
section
variable {X:Cx}
end
namespace W
noncomputable def ps_tryN:=by have h:=@L2.ps_tryN;rw [ePSs,ePS] at h;exact @h
end W
end L2
namespace L2
open PySem PySem.Spec PyProof.Rows
namespace W
end W
end L2
namespace L2
open PySem PySem.Spec PyProof.Rows
section
variable {P:Program}{w:World}{A:Around}{E:Value→Shared→Prop}{s:Shared}{r:Addr}{n:Nat}
theorem zF0 {t u v:Tok}{R:List Value→Shared→Prop} (hh:A.handled=none) (hr:IsRange s.heap r 0 (n:Int) 1 t u v) (hn:n < 64)
  (h:∀ (h':Heap) (tk:Nat) (acc:Array Value),Kept s.heap h'→ItemsOf (fun i v=>∃ t,v=.int (0 + (i:Int) * 1) t) acc n→R acc.toList { s with heap:=h',toks:=tk }) :
  wpAny (model P w) A (collect (.ref r)) R E s:=by
 unfold collect;refine wpAny_bind (wpAny_runValue (codeAny_builtin PyProof.Rows.entry_proto_collect' ?_));rw [Around.under_plainId PySem.F.plain_proto_collect _];show wpAny _ A.in1 (newList [] >>= fun l=>again (.builtin "list.__iadd__" ⟨[l,.ref r],[]⟩)) _ _ s;refine wpAny_bind (wpAny_newObj_type ?_);refine wpAny_pure ⟨plainId_quiet PySem.F.plain_list_iadd _,codeAny_builtin PyProof.Rows.entry_list_iadd' ?_⟩;rw [Around.under_plainId PySem.F.plain_list_iadd _];have hS₁ : (s.heap.push { cls:=.type "list",data:=.seq ([]:List Value).toArray }).get? s.heap.objs.size=some { cls:=.type "list",data:=.seq #[] }:=Zg _ rfl;show wpAny _ A.in1 (Builtin.List.listExtendWith (.ref s.heap.objs.size) (.ref r) (.ref s.heap.objs.size)) _ _ _;have key:=wpAny_extend_range (prog:=P) (w:=w) (A:=A) (s:={ s with heap:=s.heap.push { cls:=.type "list",data:=.seq ([]:List Value).toArray } })
  (R:=fun (q:Result) (s':Shared)=>∃ (h':Heap) (tk:Nat) (acc':Array Value) (c':Nat),q=.ok (.ret (.ref s.heap.objs.size))∧s'={ s with heap:=h',toks:=tk } ∧
   (∀ b o,s.heap.get? b=some o→h'.get? b=some o)∧h'.get? s.heap.objs.size=some { cls:=.type "list",dict:=none,data:=.seq acc' c',slots:=#[] }∧ItemsOf (fun i v=>∃ t,v=.int (0 + (i:Int) * 1) t) acc' n)
  (n:=n) hh (Z2 _ hr) (small_one (by decide) (by decide) (by omega) (by omega)) (by rw [rangeSize_one];split <;> omega) (by omega) s.heap.objs.size (.ref s.heap.objs.size) 0 hS₁
  (fun h' tk acc' c' hk hS' hacc=>⟨h',tk,acc',c',rfl,rfl,fun b o e=>hk b o (Ze (Zc e)) (Z2 _ e),hS',hacc⟩)
 refine wpAny_mono key (fun fin s' x=>?_) fun e s' x=>?_
 ·cases fin with
  | done f =>
   obtain ⟨h',tk,acc',c',e,rfl,hk,hS',hacc⟩:=x;cases e;show wpAny _ A (load s.heap.objs.size >>= _) _ _ _;refine wpAny_bind (wpAny_load hS' ?_);exact wpAny_pure (h h' tk acc' hk hacc)
  | again c₁ =>
   refine ⟨x.1,codeAny_mono x.2 fun q s₂ y=>?_⟩;obtain ⟨h',tk,acc',c',rfl,rfl,hk,hS',hacc⟩:=y;show wpAny _ A (load s.heap.objs.size >>= _) _ _ _;refine wpAny_bind (wpAny_load hS' ?_);exact wpAny_pure (h h' tk acc' hk hacc)
 ·obtain ⟨_,_,_,_,e',_⟩:=x;cases e'
end
theorem ints_are:∀ {ks:List Int}{us:List Value},Vals (ks.map V.int) us→IntsAre us ks
 | [],_,.nil=>.nil
 | k :: r,_,.cons a t=>by
  obtain ⟨tk,rfl⟩:=a;exact .cons k tk (ints_are t)
theorem ints_upto:∀ (vs:List Value) (k:Nat),(∀ j v,vs[j]? = some v→∃ t,v=Value.int ((k + j:Nat):Int) t)→IntsAre vs ((List.range' k vs.length).map fun (i:Nat)=>(i:Int))
 | [],_,_=>.nil
 | v :: r,k,h=>by
  obtain ⟨t,rfl⟩:=h 0 v rfl;refine .cons _ t (ints_upto r (k + 1) fun j v e=>?_);obtain ⟨t,e2⟩:=h (j + 1) v (by simpa using e);exact ⟨t,by rw [e2,show k + (j + 1)=k + 1 + j by omega]⟩
noncomputable def exactly (a:Addr) (o:Obj):HO:=.ext fun h=>h.get? a=some o
theorem exactly_ok {P:Program}{w:World}{H:Hp}{h:Heap}{a:Addr}{o:Obj} (e:h.get? a=some o):ObjOk P w H h a (exactly a o):=⟨e,⟨o,e⟩,fun _ _ e1 k=>k o e1⟩
section
variable {X:Cx}{pins:List (Addr×Obj)}{σ : St}{H:Hp}{s:Shared}{r f:Addr}{n:Nat}{Q:VK}
theorem sorted_draw (R:Nat→Hp→Prop) (I:Inv X pins σ H s) (hcm:X.calm=true) {t u v:Tok} (hr:IsRange s.heap r 0 (n:Int) 1 t u v) (h64:n < 64) (R0:R 0 H) (stab:∀ i Hi a o,R i Hi→H a=none→R i (upd Hi a o))
  (turn:∀ (i:Nat) (Hi:Hp) (s':Shared) (tk:Tok),i < n→R i Hi→Inv X pins σ Hi s'→wpAny (model X.prog X.w) X.A.in1.in1 (call (.ref f) [.int (i:Int) tk])
   (fun v s''=>∃ (k:Int) (t:Tok) (Hj:Hp),v=.int k t∧Inv X pins σ Hj s''∧R (i + 1) Hj∧∀ b o,Hi b=some o→H b=none→Hj b=some o) (fun _ _=>False) s')
  (fin:∀ (Hn:Hp) (p:Addr) (out:List Int),R n Hn→H p=none→out.Perm ((List.range n).map fun (i:Nat)=>(i:Int))→Q (.ref p) (upd Hn p (.lst (out.map V.int)))) :
  wpAny (model X.prog X.w) X.A (call (.builtin "sorted") [.ref r] [(Str.ofString "key",.ref f)]) (EP X pins σ Q) X.xe s:=by
 have hh:X.A.handled=none:=I.ok.hd hcm;refine call_function_entry_kw kind_sorted plain_sorted entry_sorted (ksk_s1 _ _) ?_;unfold Builtin.«sorted»;refine wpAny_bind (m:=checkCount "sorted" 1 1 _) (wpAny_pure ?_);refine wpAny_bind (zF0 (A:=X.A.in1) hh hr h64 fun h1 tk1 acc k1 hacc=>?_);have al:acc.toList.length=n:=by rw [Y5];exact hacc.1
 have I1:Inv X pins σ H { s with heap:=h1,toks:=tk1 }:=I.kept (t':=tk1) k1;refine wpAny_bind (wpAny_newList ?_ (by rw [al,sizeLine_eq];omega));have hoL:(h1.push (seqObj "list" acc.toList.toArray 0)).get? h1.objs.size=some (seqObj "list" acc.toList.toArray 0):=Zg _ rfl;have fD:H h1.objs.size=none:=I1.hok.fresh (Zb _);refine wpAny_bind (wpAny_holding (wpAny_call_entry_kw slot_list_sort ⟨_,hoL,rfl⟩ entry_list_sort ?body (ksk_l1 _ _)))
 case body =>
 show wpAny (model X.prog X.w) X.A.in1.in1 (Builtin.«list.sort» ⟨[.ref h1.objs.size],[(Str.ofString "key",.ref f)]⟩) _ _ _;rw [ksk_t1];have vsz:acc.toList.toArray.size=n:=by rw [Z7,al]
 generalize hvs:acc.toList=vs at *;have s1:=Heap.SameBut.update (h1.push (seqObj "list" vs.toArray 0)) h1.objs.size (Obj.mapSeq fun _=>(#[]:Array Value));obtain ⟨e1,ho1⟩:∃ e1,((h1.push (seqObj "list" vs.toArray 0)).update h1.objs.size (Obj.mapSeq fun _=>(#[]:Array Value))).get? h1.objs.size=some (seqObj "list" #[] e1):=⟨_,get?_update_seq hoL fun _=>#[]⟩;unfold ksk_tree;refine wpAny_bind (listItems_at hoL rfl ?_);refine wpAny_bind (listUpdate_at hoL rfl ?_ (by rw [vsz,sizeLine_eq];omega) (Zm _));refine wpAny_bind (seqEpoch_at ho1 rfl ?_);refine wpAny_bind (wpAny_newTuple ?_ (by show vs.length≤_;rw [al,sizeLine_eq];omega));refine wpAny_bind (wpAny_newList ?_ (Zm _));refine wpAny_holding ?_;have kD:∀ b o,h1.get? b=some o→((h1.push (seqObj "list" vs.toArray 0)).update h1.objs.size (Obj.mapSeq fun _=>(#[]:Array Value))).get? b=some o:=fun b o q=>by
  have hlt:=Ze (Zc q);exact (s1.2 b hlt).trans (Z2 _ q)
 have I2:Inv X pins σ (upd H h1.objs.size (exactly h1.objs.size (seqObj "list" #[] e1))) { s with heap:=(h1.push (seqObj "list" vs.toArray 0)).update h1.objs.size (Obj.mapSeq fun _=>(#[]:Array Value)),toks:=tk1 } :=
  I1.laid (t':=tk1) (a:=h1.objs.size) kD (Zb _) (exactly_ok ho1)
 generalize h1.objs.size=D at *;generalize (h1.push (seqObj "list" vs.toArray 0)).update D (Obj.mapSeq fun _=>(#[]:Array Value))=h2 at *;have I3:Inv X pins σ (upd H D (exactly D (seqObj "list" #[] e1))) { s with heap:=h2.push (seqObj "tuple" vs.toArray 0),toks:=tk1 }:=I2.kept (t':=tk1) (h':=h2.push (seqObj "tuple" vs.toArray 0)) fun b o e=>Z2 _ e;have fK:(upd H D (exactly D (seqObj "list" #[] e1))) (h2.push (seqObj "tuple" vs.toArray 0)).objs.size=none:=I3.hok.fresh (Zb _);have nKD:(h2.push (seqObj "tuple" vs.toArray 0)).objs.size≠D:=fun e=>by rw [e,zA1] at fK;cases fK
 have hK:H (h2.push (seqObj "tuple" vs.toArray 0)).objs.size=none:=by rwa [zA5 nKD] at fK
 have I4:Inv X pins σ (upd (upd H D (exactly D (seqObj "list" #[] e1))) (h2.push (seqObj "tuple" vs.toArray 0)).objs.size (.lst [])) { s with heap:=(h2.push (seqObj "tuple" vs.toArray 0)).push (seqObj "list" #[] 0),toks:=tk1 } :=
  I3.laid (t':=tk1) (a:=(h2.push (seqObj "tuple" vs.toArray 0)).objs.size) (o:=.lst []) (fun b o e=>Z2 _ e) (Zb _) ⟨Zm _,[],0,.nil,Zg _ rfl⟩
 have R4:R 0 (upd (upd H D (exactly D (seqObj "list" #[] e1))) (h2.push (seqObj "tuple" vs.toArray 0)).objs.size (.lst [])):=stab _ _ _ _ (stab _ _ _ _ R0 fD) hK;have hD4:(upd (upd H D (exactly D (seqObj "list" #[] e1))) (h2.push (seqObj "tuple" vs.toArray 0)).objs.size (.lst [])) D=some (exactly D (seqObj "list" #[] e1)):=by rw [zA5 nKD.symm,zA1]
 have hK4:(upd (upd H D (exactly D (seqObj "list" #[] e1))) (h2.push (seqObj "tuple" vs.toArray 0)).objs.size (.lst [])) (h2.push (seqObj "tuple" vs.toArray 0)).objs.size=some (.lst (([]:List Int).map V.int)):=zA1;show wpAny (model X.prog X.w) X.A.in1.in1 (ksk_rest D (.ref f) false vs.toArray e1 (.ref (h2.push (seqObj "tuple" vs.toArray 0)).objs.size)) _ _ { s with heap:=(h2.push (seqObj "tuple" vs.toArray 0)).push (seqObj "list" #[] 0),toks:=tk1 };generalize (h2.push (seqObj "tuple" vs.toArray 0)).objs.size=kS at *;generalize (h2.push (seqObj "tuple" vs.toArray 0)).push (seqObj "list" #[] 0)=h4 at *;generalize upd (upd H D (exactly D (seqObj "list" #[] e1))) kS (.lst [])=H4 at *;generalize ({ s with heap:=h4,toks:=tk1 }:Shared)=s4 at *;unfold ksk_rest;refine wpAny_bind (wpAny_rule ?_)
 first
  | rw [List.forIn_toArray]
  | (rw [← Array.forIn_toList];simp only [List.toList_toArray])
  | rw [← Array.forIn_toList]
 refine wpAny_bind (ksk_fold (fun i s'=>∃ (Hi:Hp) (ks:List Int),Inv X pins σ Hi s'∧R i Hi∧Hi D=some (exactly D (seqObj "list" #[] e1))∧Hi kS=some (.lst (ks.map V.int))∧ks.length=i) vs 0 s4 ⟨H4,[],I4,R4,hD4,hK4,rfl⟩ ?step ?done)
 case step =>
  rintro j x s' hx ⟨Hi,ks,Ii,Ri,hDi,hKi,hl⟩;simp only [Nat.zero_add] at hl Ri ⊢;have hj:j < n:=by rw [← al];exact (List.getElem?_eq_some_iff.mp hx).1
  obtain ⟨tx,rfl⟩:∃ tx,x=Value.int (j:Int) tx:=by
   obtain ⟨tx,e⟩:=hacc.2 j x (by rw [← Y4,hvs];exact hx);exact ⟨tx,by simpa using e⟩
  refine wpAny_bind (wpAny_attempt (wpAny_mono (turn j Hi s' tx hj Ri Ii) (fun v s'' he=>?_) fun _ _ hF=>hF.elim));obtain ⟨k,tk,Hj,rfl,Ij,Rj,keep⟩:=he;have hDj:=keep _ _ hDi fD;have hKj:=keep _ _ hKi hK;obtain ⟨z,its,m,rv,hlv,e⟩:=Ij.lstM hKj;have il:its.length=j:=by have:=rv.length;rw [Z0] at this;omega
  try dsimp only
  refine wpAny_bind (listUpdate_at e rfl ?_ (by rw [Z7,sizeLine_eq];omega) (Zk (Nat.le_of_eq (Array.size_push ..)) (by rw [Z7,sizeLine_eq];omega)));refine wpAny_pure ⟨rfl,upd Hj kS (.lst ((ks++[k]).map V.int)),ks++[k],?_,stab _ _ _ _ Rj hK,by rw [zA5 nKD.symm];exact hDj,zA1,by rw [Z8,hl];rfl⟩;exact Ij.lset (t':=s''.toks) (its':=its++[.int k tk]) hKj e (by simp) (by rw [Z9];exact rv.append (.cons ⟨tk,rfl⟩ .nil)) (by rw [Z0,Z8,hl,List.length_singleton,sizeLine_eq];omega)
 case done =>
  rintro s' ⟨Hn,ks,In,Rn,hDn,hKn,hl⟩;obtain ⟨z,its,m,rv,hlv,e⟩:=In.lstM hKn;have hk:IntsAre its ks:=ints_are rv;have kl:its.length=n:=by have:=rv.length;rw [Z0] at this;omega
  rw [Nat.zero_add,al] at Rn
  try dsimp only
  refine wpAny_bind (listItems_at e rfl ?_);have hv:IntsAre vs ((List.range n).map fun (i:Nat)=>(i:Int)):=by
   have:=ints_upto vs 0 fun j v ev=>by
    obtain ⟨tx,e'⟩:=hacc.2 j v (by rw [← Y4,hvs];exact ev);exact ⟨tx,by simpa using e'⟩
   rw [al] at this
   rwa [List.range_eq_range']
  have hzs:(its.toArray.zip vs.toArray).size=n:=by rw [Array.size_zip,Z7,Z7,kl,al,Nat.min_self]
  have tail:∀ st:SortSt,(arrOf st).Perm (its.toArray.zip vs.toArray)→failedOf st=none→wpAny (model X.prog X.w) X.A.in1.in1 (ksk_tail D false e1 (.ref kS) st) (fun fin s'=>∃ v,fin=.done (.ret v)∧EP X pins σ Q (.ref D) s') (fun e s'=>X.xe e s') s':=fun st hp hf=>by
   have hl2:(arrOf st).toList.Perm (its.zip vs):=by
    have:=Array.perm_iff_toList_perm.mp hp
    rwa [ksk_zip,List.toList_toArray] at this
   have hl3:((arrOf st).map (·.2)).toList.Perm vs:=by
    rw [Array.toList_map];have:=hl2.map Prod.snd
    rwa [List.map_snd_zip (by omega)] at this
   have hI:IntsAre ((arrOf st).map (·.2)).toList ((((arrOf st).map (·.2)).toList).map numOf):=intsAre_map _ fun v hv'=>hv.all _ (hl3.mem_iff.mp hv');have hP:(((arrOf st).map (·.2)).toList.map numOf).Perm ((List.range n).map fun (i:Nat)=>(i:Int)):=by
    have:=hl3.map numOf
    rwa [hv.nums] at this
   have osz:((arrOf st).map (·.2)).toList.length=n:=by rw [hl3.length_eq,al]
   generalize ho:((arrOf st).map (·.2))=out at *;have I5:Inv X pins σ (upd Hn kS (.lst [])) { s' with heap:=s'.heap.update kS (Obj.mapSeq fun _=>(#[]:Array Value)),toks:=s'.toks }:=In.lset (t':=s'.toks) (its':=[]) hKn e rfl .nil (Zm _);have hD5:(upd Hn kS (.lst [])) D=some (exactly D (seqObj "list" #[] e1)):=by rw [zA5 nKD.symm];exact hDn
   have oD:(s'.heap.update kS (Obj.mapSeq fun _=>(#[]:Array Value))).get? D=some (seqObj "list" #[] e1):=(I5.hok D _ hD5).1;have s2:=Heap.SameBut.update (s'.heap.update kS (Obj.mapSeq fun _=>(#[]:Array Value))) D (Obj.mapSeq fun _=>out);obtain ⟨c2,hc2⟩:∃ c2,((s'.heap.update kS (Obj.mapSeq fun _=>(#[]:Array Value))).update D (Obj.mapSeq fun _=>out)).get? D=some (seqObj "list" out c2):=⟨_,get?_update_seq oD fun _=>out⟩;unfold ksk_tail
   try dsimp only
   rw [ho];refine wpAny_bind (listUpdate_at e rfl ?_ (by rw [Z7,sizeLine_eq];omega) (Zm _));refine wpAny_bind (wpAny_letGo ?_);refine wpAny_bind (seqEpoch_at oD rfl ?_);refine wpAny_bind (listUpdate_at oD rfl ?_ (Zm _) (by show out.size≤_;rw [← Y5,osz,sizeLine_eq];omega));rw [hf];simp only [bne_self_eq_false,Yh,if_false];refine wpAny_pure ⟨_,rfl,.ref D,upd (upd Hn kS (.lst [])) D (.lst ((out.toList.map numOf).map V.int)),?_,rfl,fin _ D _ (stab _ _ _ _ Rn hK) fD hP⟩;refine I5.write (t':=s'.toks) (x:=D) (e:=D) (by rw [hD5];exact trivial) (.inl rfl) (fun b u nb eb=>(s2.2 b nb).trans eb) ⟨_,hc2⟩ ⟨?_,out.toList,c2,zD2 hI,by rw [Array.toArray_toList];exact hc2⟩;rw [Z0,Z0,osz,sizeLine_eq];omega
  unfold ksk_end
  try dsimp only
  by_cases h2:vs.toArray.size < 2
  ·rw [if_pos h2,if_pos h2];refine wpAny_bind (wpAny_pure ?_);rw [StateT.run_pure];refine wpAny_bind (wpAny_pure ?_)
   try dsimp only
   exact wpAny_mono (tail _ (Array.Perm.refl _) rfl) (fun fin s3 ⟨v,ef,ep⟩=>⟨v,ef,wpAny_pure ⟨_,rfl,ep⟩⟩) fun _ _ x=>x
  ·rw [if_neg h2,if_neg h2];rw [vsz] at h2;rw [ksk_kind (keys:=its.toArray) (by rw [List.toList_toArray];exact hk) (by rw [Z7];omega)];refine wpAny_bind (wpAny_pure ?_)
   refine wpAny_bind (wpAny_mono (wpS_sortRuns (a₀:=its.toArray.zip vs.toArray) (st:=SortSt.mk' oneType' (its.toArray.zip vs.toArray) #[] 7 none)
    (Q:=fun _ st'=>(arrOf st').Perm (its.toArray.zip vs.toArray)∧failedOf st'=none∧SortedTo (arrOf st') (its.toArray.zip vs.toArray).size)
    (ksk_intKeys (by rw [List.toList_toArray];exact hk)) ⟨Array.Perm.refl _,rfl,rfl,rfl⟩ (by rw [hzs];omega) (by rw [hzs];exact h64) fun st' a1 a2 a3=>⟨a1,a2,a3⟩) ?_ fun _ _ e=>e)
   rintro ⟨⟨⟩,st'⟩ s3 ⟨rfl,hp,hf,hs⟩
   try dsimp only
   exact wpAny_mono (tail st' hp hf) (fun fin s3 ⟨v,ef,ep⟩=>⟨v,ef,wpAny_pure ⟨_,rfl,ep⟩⟩) fun _ _ x=>x
end
end L2
namespace L2
open PySem PySem.Spec PyProof.Rows
section
variable {X:Cx}{pins:List (Addr×Obj)}{σ : St}{H:Hp}{s:Shared}{A:Around}{E:Value→Shared→Prop}
theorem lam_madeF {params:Arguments}{body:Expr}{scope:Scope}{pos:Pos}{c P:Addr}{q:Str}{cl:List (Str×Addr)}{Q:Value→Shared→Prop} (I:Inv X pins σ H s) (T:LamTxt X.K X.mg X.base c P) (hcode:X.env.code=.ref c) (hq:X.env.qual++"<lambda>" = q)
  (hcl:closureFor scope X.env=pure cl) (hdef:defaultsOf params X.env=([],[])) (W:TabM H P q)
  (h:∀ (H':Hp) (s':Shared) (f c':Addr) (pm ctv:Value),Inv X pins σ H' s'→s'.heap.get? f=some (PySem.W.kla_obj "<lambda>" q params body scope cl pm c' ctv)→H' f=none→H' c'=some (CodeO c' q)→TabM H' P q→GrownBut P H H'→s.heap.objs.size≤f→Q (.ref f) s') :
  wpAny (model X.prog X.w) A (eval (.Lambda params body scope pos) X.env) Q E s:=by
 subst hq;refine PySem.W.kla_eval hdef ?_;obtain ⟨bm,ob,e1,e3,e4,e2,e5,e6,e7⟩:=T.blt;obtain ⟨ps,z,tri,cod⟩:=W.ex;have hbP:bm≠P:=by
  rintro rfl;have:=(I.bs _ _ e2).2;rw [this] at z;cases z
 have hb:s.heap.BuiltinsAt X.mg P:=⟨bm,ob,e1,e3,e4,hbP,I.bk _ _ e2,e5,e6,e7⟩;have hg:=I.mod.glob.keeps I.bk;have C:=PySem.W.codeHd_of_K I.kIn T.hd;have tab:s.heap.get? P=some (PySem.W.tabObj ps):=I.hok P _ z;have hgP:mainGlobals≠P:=by
  rintro rfl;obtain ⟨o,es,ep,ho,hd,_⟩:=hg;rw [tab] at ho;cases ho;cases hd
 cases ha:codeAmong pos ps.toList with
 | none =>
  refine PySem.W.kla_makeFunction hcl I.ok.glob hg hcode C tab tri ha hgP hb fun c' ctv h' tk hx hge hlt hrec htb=>?_;have fc:H c'=none:=I.hok.fresh hge;have nP:c'≠P:=Ne.symm (zA2 z fc)
  let H':Hp:=upd (upd H P (.tbl (ps++#[rawInt pos.line,rawInt pos.col,.ref c']))) c' (CodeO c' (X.env.qual++"<lambda>"))
  have hP':H' P=some (.tbl (ps++#[rawInt pos.line,rawInt pos.col,.ref c'])):=by show upd _ _ _ _=_;rw [zA5 (Ne.symm nP),zA1]
  have hc':H' c'=some (CodeO c' (X.env.qual++"<lambda>")):=zA1;have gr:∀ b o,H b=some o→b≠P→H' b=some o:=fun b o e nb=>by
   show upd _ _ _ _=_;rw [zA5 (zA2 e fc),zA5 nb];exact e
  have I1:Inv X pins σ H' { s with heap:=h',toks:=tk }:=by
   refine I.step (g':=s.gens) (d':=s.drawn) (ch:=[]) (fun _ m=>nomatch m) (fun b o _ _ _ e n=>hx b o (Ne.symm (zA2 z n)) e) (fun b o _ _ _ e n=>⟨o.slots,hx b o (Ne.symm (zA2 z n)) e⟩) (fun b o _ e n=>?_) (fun b o _ e=>?_)
    (fun b xs e=>gr b _ e fun k=>by subst k;rw [z] at e;cases e) (fun b o u e=>gr b _ e fun k=>by subst k;rw [z] at e;cases e) (fun b ps' e=>?_) (fun m hm=>?_) (fun b u e=>?_) I.bare
   ·show upd _ _ _ _=_;rw [zA5 (Ze (Zf (Zc e) hge)),zA5 (Ne.symm (zA2 z n))];exact n
   ·by_cases k:b=P
    ·subst k;exact ⟨_,htb⟩
    ·exact ⟨o,hx b o k e⟩
   ·by_cases k:b=P
    ·subst k;rw [z] at e;cases e;exact ⟨_,hP'⟩
    ·exact ⟨#[],by rw [gr b _ e k];simp⟩
   ·exact hm.extBut hx fun k=>by have:=I.free;rw [k,z] at this;cases this
   ·by_cases k1:b=c'
    ·subst k1;rw [hc'] at e;cases e;obtain ⟨_,o,_,_,e',ho,_⟩:=id hrec;cases e';exact ⟨hrec,⟨o,ho⟩,zBo⟩
    ·by_cases k2:b=P
     ·subst k2;rw [hP'] at e;cases e;exact htb
     ·have e':H b=some u:=by
       have e2:upd (upd H P _) c' _ b=some u:=e
       rwa [zA5 k1,zA5 k2] at e2
      refine (I.hok b u e').stay (fun d v hd' r=>hx d v ?_ r) (fun d r=>gr d _ r ?_) fun d xs r=>gr d _ r ?_
      ·rcases hd' with k | k
       ·rw [k];exact k2
       ·rintro rfl;rw [z] at k;cases k
      ·rintro rfl;rw [z] at r;cases r
      ·rintro rfl;rw [z] at r;cases r
  have I2:Inv X pins σ H' { s with heap:=h'.push _,toks:=tk }:=I1.kept (t':=tk) (h':=h'.push (PySem.W.kla_obj "<lambda>" (X.env.qual++"<lambda>") params body scope cl ((X.mg "__name__").getD .none) c' ctv)) fun b u e=>Z2 _ e;refine h H' _ h'.objs.size c' ((X.mg "__name__").getD .none) ctv I2 (Zg _ rfl) (I1.hok.fresh (Zb _)) hc' ⟨_,hP',?_,fun pos' v e=>?_⟩ gr (Zq (Yg hge hlt))
  ·rw [Array.toList_append];exact TriplesOk_snoc _ _ _ _ tri
  ·rw [Array.toList_append] at e;rcases zCg _ tri e with e | e
   ·obtain ⟨a,e1,e2⟩:=cod pos' v e;refine ⟨a,e1,gr _ _ e2 ?_⟩;rintro rfl;rw [z] at e2;cases e2
   ·exact ⟨c',e,hc'⟩
 | some cv =>
  obtain ⟨c',rfl,y⟩:=cod pos cv ha;refine PySem.W.kla_makeFunctionHit (cv:=.ref c') hcl I.ok.glob hg hcode C tab tri ha hb fun ctv h' tk kk sz=>?_;have I1:Inv X pins σ H { s with heap:=h',toks:=tk }:=I.kept (t':=tk) (h':=h') kk;have I2:Inv X pins σ H { s with heap:=h'.push _,toks:=tk }:=I1.kept (t':=tk) (h':=h'.push (PySem.W.kla_obj "<lambda>" (X.env.qual++"<lambda>") params body scope cl ((X.mg "__name__").getD .none) c' ctv)) fun b u e=>Z2 _ e;exact h H _ h'.objs.size c' ((X.mg "__name__").getD .none) ctv I2 (Zg _ rfl) (I1.hok.fresh (Zb _)) y W (fun b o e _=>e) sz
end
structure LScope1 (x:Str) (N:List Str) (sc:Scope):Prop where
 here:sc.names.lookup x=some .local
 loc:∀ y∈N,sc.names.lookup y≠some .local
 kind:sc.kind=.function
 co:sc.isCoroutine=false
 gen:sc.isGenerator=false
 cell:∀ y∈sc.names,y.2≠.cell
noncomputable def LamOk1 (P:Program) (w:World) (K:PySem.W.Frag) (mg:Str→Option Value) (base:Heap) (CX:CXT) (k:Nat) (f c':Addr) (q:Str) (params:Arguments) (body:Expr) (scope:Scope) (cl:List (Str×Addr)) (N:List Str) (ws:List V) (sp:V→Hp→VK→XK→Prop):Prop :=
 ∀ (A:Around) (outer:List Env) (s:Shared) (H:Hp) (v:V) (u:Value) (Q:VK) (E:XK),Room k A→Env0 P w K mg base A outer s H→LamAt f c' q params body scope cl N ws s.heap→(∀ x c,cl.lookup x=some c→H c=none)→s.heap.CodeRec (.ref c') q→RelV v u→sp v H Q E →
  codeAny (model P w) A (.call (.ref f) ⟨[u],[]⟩) (CR CX outer P w H s Q E) s
section
variable {CX:CXT}{P:Program}{w:World}{K:PySem.W.Frag}{mg:Str→Option Value}{base:Heap}{k:Nat}{f c':Addr}{q x:Str}{params:Arguments}{body:Expr}{scope:Scope}{cl:List (Str×Addr)}{N:List Str}{ws:List V}
theorem lam_of1 {sp:V→Hp→VK→XK→Prop} (S:LScope1 x N scope) (hb:∀ pm ctv u,bindArgs (PySem.W.kla_fn "<lambda>" q params body scope cl pm (.ref c') ctv) ⟨[u],[]⟩=pure [(x,u)])
  (hbody:∀ (A:Around) (outer:List Env) (s:Shared) (H:Hp) (v:V) (Q:VK) (E:XK),Room k (A.deeper (PySem.W.envX q scope s.heap.objs.size f (.ref c') cl))→sp v H Q E →
   ∃ t,PE (cxL CX P w K mg base (x :: N) q scope f (.ref c') cl A outer s H E) body t∧t (some v :: ws.map some) H Q) :
  LamOk1 P w K mg base CX (k + 1) f c' q params body scope cl N ws sp:=by
 intro A outer s H v0 u0 Q E hr e0 L fr hc rv0 h;obtain ⟨o,pm,ctv,ho,hd⟩:=L.fn;have lim:s.heap.NoLimit:=e0.mod.nolimit.keeps fun b o e=>(e0.bs b o e).1;refine PySem.W.kla_callFunE hr.depth ho hd S.co S.gen rfl hc ?_;rw [hb];refine wpAny_pure (wpAny_newFunctionEnv S.cell (fun y hy=>by rw [List.mem_singleton.mp hy];exact S.here) (fun h1 hns hsb=>?_) S.kind);have kk:Kept s.heap h1:=fun b o e=>(hsb.2 b (Ze (Zc e))).trans (Z2 _ e);refine ⟨lim.keeps kk,?_⟩;show codeAny _ _ (.expr body (PySem.W.envX q scope s.heap.objs.size f (.ref c') cl)) _ _;refine PySem.W.kla_codeExpr ?_;obtain ⟨t,ht,hq⟩:=hbody A outer s H v0 Q E (hr.deeper _) h;have noA:∀ b:Addr,b∉([]:List Addr):=fun b z=>by cases z
 have ce:∀ {c:Addr}{v:Option Value},s.heap.IsCell c v→h1.IsCell c v:=fun ⟨o,e,d⟩=>⟨o,kk _ _ e,d⟩;have I:Inv (cxL CX P w K mg base (x :: N) q scope f (.ref c') cl A outer s H E) [] (some v0 :: ws.map some) H { s with heap:=h1,toks:=s.toks + ([(x,u0)]:List (Str×Value)).length }:=by
  refine ⟨⟨e0.mod,S.kind,rfl,rfl,Zb _,L.inj,fun x hx=>?_,fun x c z=>Bool.noConfusion (show false=true from z),fun _=>hr.hd,Around.frames_deeper e0.frames,.inr ⟨rfl,rfl⟩,fun b z=>absurd z (noA b),e0.bs,e0.bsz,fun b _ _=>noA b,fun b z=>absurd z (noA b),e0.funs,e0.frf⟩,
   rfl,e0.bare,Un.kept kk,⟨_,hns,fun i y v e1 e2 e3=>?_⟩,fun x c e=>?_,e0.hok.fresh (Zb _),fun x c e=>fr x c e,fun p hp=>absurd (show p∈([]:List (Addr×Obj)) from hp) (by simp),e0.hok.kept kk,?_⟩
  ·have hx':scope.names.lookup x=some .cell∨scope.names.lookup x=some .free:=hx;rcases hx' with z | z
   ·exact absurd rfl (S.cell _ (PySem.mem_of_lookup z))
   ·exact L.has x z
  ·cases i with
   | zero =>
    have e1':y=x:=by
     have:(x :: N)[0]? = some y:=e1
     simpa using this.symm
    have e2':v=v0:=by simpa using e2.symm
    subst e1' e2';exact ⟨u0,rv0,.inl ⟨S.here,by simp⟩⟩
   | succ i =>
    have e1':N[i]? = some y:=by
     have:(x :: N)[i + 1]? = some y:=e1
     simpa using this
    have e2':ws[i]? = some v:=by
     rw [List.getElem?_cons_succ,Z6] at e2;cases z:ws[i]? with
     | none=>rw [z] at e2;cases e2
     | some y=>rw [z] at e2;cases e2;rfl
    obtain ⟨c,u,h1',r,hcell⟩:=L.val i y v e1' e2';refine ⟨u,r,.inr ⟨?_,c,h1',ce hcell⟩⟩;rcases e3 with z | z | z
    ·exact absurd z (S.loc y (Z3 e1'))
    ·exact .inl z
    ·exact .inr z
  ·obtain ⟨v,z⟩:=L.cel x c e;exact ⟨v,ce z⟩
  ·show (some v0 :: ws.map some).length=(x :: N).length;rw [Zi,Zi,Z0,L.len]
 exact wpAny_mono (ht [] _ _ H _ I hq) (fun u s' ⟨v,H',J,rv,z⟩=>⟨v,H',J.os,J.bare,J.base,J.hok,rv,z⟩) fun e s' hs=>hs
end
noncomputable def tSortDraw (sp:Addr→Addr→List (Str×Addr)→List V→V→Hp→VK→XK→Prop) (P:Addr) (q:Str) (ix:List Nat) (ta:TA):TE:=fun σ H Q=>ta σ H fun vs H1=>∃ (r:Addr) (n:Nat) (ws:List V),vs=[.ref r]∧H1 r=some (.rng 0 n)∧n < 64 ∧
 ix.map (fun j=>(σ[j]?).join)=ws.map some∧TabM H1 P q∧∀ (f c':Addr) (cl:List (Str×Addr)) (H2:Hp),TabM H2 P q→GrownBut P H1 H2→H2 c'=some (CodeO c' q)→H2 f=none →
  ∃ R:Nat→Hp→Prop,R 0 H2∧(∀ i Hi a o,R i Hi→H2 a=none→R i (upd Hi a o))∧(∀ i Hi,R i Hi→Hi c'=some (CodeO c' q)) ∧
   (∀ i Hi,i < n→R i Hi→sp f c' cl ws (.int (i:Nat)) Hi (fun v Hj=>∃ k,v=.int k∧R (i + 1) Hj∧∀ b o,Hi b=some o→H2 b=none→Hj b=some o) fun _ _ _=>False) ∧
   ∀ (Hn:Hp) (p:Addr) (out:List Int),R n Hn→H2 p=none→out.Perm ((List.range n).map fun (i:Nat)=>(i:Int))→Q (.ref p) (upd Hn p (.lst (out.map V.int)))
section
variable {X:Cx}{CX:CXT}{k:Nat}{c P:Addr}{q:Str}{params:Arguments}{body:Expr}{scope:Scope}{N:List Str}{ix:List Nat}{sp:Addr→Addr→List (Str×Addr)→List V→V→Hp→VK→XK→Prop}{e:Expr}{ta:TA}{p lpos kpos pos:Pos}
theorem call_rng:CallR X (.type "range") (fun xs H Q=>∃ j:Nat,xs=[.int (j:Nat)]∧∀ r,H r=none→Q (.ref r) (upd H r (.rng 0 (j:Nat)))):=by
 intro pins s σ H xs us Q I rv h;obtain ⟨j,rfl,h⟩:=h;obtain ⟨u,rfl,ru⟩:=v1 rv;obtain ⟨t,rfl⟩:=ru;refine call_range_1 ?_;exact ⟨.ref s.heap.objs.size,_,I.laid (o:=.rng 0 (j:Nat)) (fun b o e=>Z2 _ e) (Zb _) ⟨_,_,_,Zg _ rfl⟩,rfl,h _ (I.hok.fresh (Zb _))⟩
theorem zC0 {cl0:List (Str×Addr)} (hC:Calm CX) (F:∀ f c' cl ws,LamOk1 X.prog X.w X.K X.mg X.base CX k f c' q params body scope cl N ws (sp f c' cl ws)) (hr:Room (k + 2) X.A) (hcm:X.calm=true) (hg:Gl X "sorted") (hm:X.mg "sorted" = none)
  (T:LamTxt X.K X.mg X.base c P) (hcode:X.env.code=.ref c) (ha:PA X [e] ta) (hq:X.env.qual++"<lambda>" = q) (hcl:closureFor scope X.env=pure cl0) (hdef:defaultsOf params X.env=([],[]))
  (hix:ix.map (fun j=>X.N[j]?)=N.map some) (hcell:∀ z∈N,X.env.scope.names.lookup z=some .cell) (hfree:∀ z,scope.names.lookup z=some .free→z∈N) (hin:∀ z∈cl0.map (·.1),z∈N) (heq:∀ z∈N,cl0.lookup z=X.env.cells.lookup z)
  (he:backTo pos (starEach [e] X.env)=(false,eval e X.env) :: backTo pos (starEach [] X.env):=by rfl) (hpl:(backTo pos (starEach [e] X.env)).any (·.1)=false:=by rfl) :
  PE X (.Call (.Name "sorted" p) [e] [⟨some "key",.Lambda params body scope lpos,kpos⟩] pos) (tSortDraw sp P q ix ta):=by
 intro pins s σ H Q I h;have sub:∀ {z:Str}{c:Addr},cl0.lookup z=some c→X.env.cells.lookup z=some c:=fun {z c} e=>by rw [← heq z (hin z (zDf e))];exact e
 refine wpAny_Call_Name_kw (zE3 I hg hm PyProof.Rows.boot_sorted ?_);refine PyProof.Rows.callWith_kw (thn (ha pos pins s σ H _ I h) fun us s1 ⟨vs,H1,I1,r1,q1⟩=>?_) he hpl rfl rfl;obtain ⟨r,n,ws,rfl,hR,h64,hws,W,hf⟩:=q1;obtain ⟨u,rfl,ru⟩:=v1 r1;cases (show u=Value.ref r from ru);refine PyProof.Rows.evalAll_cons (wpAny_bind (lam_madeF I1 T hcode hq hcl hdef W fun H2 s2 f c' pm ctv I2 ho hfn hc W2 gr hge=>wpAny_bind (wpAny_standAt (wpAny_pure ?_))));refine PyProof.Rows.evalAll_nil ?_;obtain ⟨R,R0,stab,Rc,turn,fin⟩:=hf f c' cl0 H2 W2 gr hc hfn;have l1:ix.length=N.length:=by simpa using congrArg List.length hix
 have l2:ix.length=ws.length:=by simpa using congrArg List.length hws
 have fL:f≠X.env.locals:=fun z=>absurd I1.lt (by rw [← z];exact Nat.not_lt.mpr hge);have fF:f∉X.fs:=I1.nofs hge;have I3:Inv X ((f,PySem.W.kla_obj "<lambda>" q params body scope cl0 pm c' ctv) :: pins) σ H2 s2:=I2.pins_of fun p hp=>by
  rcases List.mem_cons.mp hp with rfl | hp
  ·exact ⟨ho,hfn,fL,fF,fun v z=>by cases z⟩
  ·exact I2.pin p (Zn _ hp)
 have hr2:H2 r=some (.rng 0 n):=gr _ _ hR (W.ne hR (fun _ k=>nomatch k));obtain ⟨t1,t2,t3,er⟩:=I3.hok r _ hr2;show wpAny _ _ (call (.builtin "sorted") [.ref r] [(Str.ofString "key",.ref f)]) _ _ _;refine wpAny_mono (sorted_draw (Q:=Q) (n:=n) R I3 hcm er h64 R0 stab (fun i Hi s' tk hi Ri Ii=>?_) fin) (fun v s' ⟨x,Hx,Ix,rx,qx⟩=>⟨x,Hx,Ix.pins_of fun p hp=>Ix.pin p (by rcases List.mem_append.mp (Zn X.pn hp) with z | z;exact Y3 _ z;exact Zn _ (Z5 _ z)),rx,qx⟩) fun _ _ z=>z;have L:LamAt f c' q params body scope cl0 N ws s'.heap:=by
  refine ⟨⟨_,pm,ctv,(Ii.pin (f,_) (Zn _ Zd)).1,rfl⟩,fun i z v e1 e2=>?_,fun z c e=>Ii.cell z c (sub e),fun x y c e1 e2=>Ii.ok.inj x y c (sub e1) (sub e2),fun z e=>by obtain ⟨c,h⟩:=Ii.ok.has z (.inl (hcell z (hfree z e)));exact ⟨c,by rw [heq z (hfree z e)];exact h⟩,by omega⟩;have il:i < ix.length:=by rw [l1];exact (List.getElem?_eq_some_iff.mp e1).1
  obtain ⟨j,hj⟩:∃ j,ix[i]? = some j:=⟨_,Z1 il⟩;have a1:X.N[j]? = some z:=by
   have:=congrArg (fun l=>l[i]?) hix;simp only [Z6,hj,e1,Option.map_some] at this;exact Zj this
  have a2 : σ[j]? = some (some v):=by
   have:=congrArg (fun l=>l[i]?) hws;simp only [Z6,hj,e2,Option.map_some] at this;have:=Zj this;cases y : σ[j]? with
   | none=>rw [y] at this;cases this
   | some w=>rw [y] at this;rw [show w=some v from this]
  have kc:=hcell z (Z3 e1);obtain ⟨m,hn,hl⟩:=Ii.loc;obtain ⟨u,r,lk⟩:=hl j z v a1 a2 (.inr (.inl kc));rcases lk with ⟨k1,_⟩ | ⟨_,c0,h1,h2⟩
  ·have k1':X.env.scope.names.lookup z=some .local:=k1;rw [kc] at k1';cases k1'
  ·exact ⟨c0,u,by rw [heq z (Z3 e1)];exact h1,r,h2⟩
 have hrec:s'.heap.CodeRec (.ref c') q:=(show ObjOk X.prog X.w Hi s'.heap c' (CodeO c' q) from Ii.hok c' _ (Rc i Hi Ri)).1;have e0:Env0 X.prog X.w X.K X.mg X.base X.A.in1.in1 X.stack s' Hi:=let z:=Ii.env0;⟨z.frames,z.mod,z.bs,z.bsz,z.funs,z.frf,z.hok,z.bare⟩;refine wpAny_call (codeAny_mono (F f c' cl0 ws X.A.in1.in1 X.stack s' Hi (.int (i:Nat)) (.int (i:Nat) tk) _ _ hr.in1.in1 e0 L (fun z c e=>Ii.freeC z c (sub e)) hrec ⟨tk,rfl⟩ (turn i Hi hi Ri)) fun rr s3 hq'=>?_);cases rr with
 | error e=>exact hC _ _ _ _ _ hq'
 | ok fl =>
  cases fl with
  | ret u =>
   obtain ⟨v,Hj,Ij,rv,k,rfl,Rj,kp⟩:=Ii.after hq';obtain ⟨t,rfl⟩:=rv;exact ⟨k,t,Hj,rfl,Ij,Rj,kp⟩
  | next=>exact False.elim hq'
  | brk=>exact False.elim hq'
  | cont=>exact False.elim hq'
end
namespace W
noncomputable def lam_of1:=by have h:=@L2.lam_of1;rw [ePE] at h;exact @h
noncomputable def zC0:=by have h:=@L2.zC0;rw [ePE,ePA] at h;exact @h
end W
end L2
namespace L2
open PySem PySem.Spec PyProof.Rows PySem.W
noncomputable def kasEnd {α : Type} (c:Nat→Nat→Bool):KasT α→α
 | .ret a=>a
 | .ask i j k=>kasEnd c (k (c i j))
noncomputable def kasFit {α : Type} (n:Nat) (p : α→Bool):KasT α→Bool
 | .ret a=>p a
 | .ask i j k=>decide (i < n) && decide (j < n) && !decide (i=j) && kasFit n p (k true) && kasFit n p (k false)
theorem kas_fit {α : Type}{n:Nat}{p : α→Bool}{cmp:Nat→Nat→(Bool→Shared→Prop)→Shared→Prop}{c:Nat→Nat→Bool}{Q : α→Shared→Prop}{s:Shared} (hc:∀ i j C,i < n→j < n→i≠j→C (c i j) s→cmp i j C s) :
  ∀ t:KasT α,kasFit n p t=true→(p (kasEnd c t)=true→Q (kasEnd c t) s)→t.kasWp cmp Q s
 | .ret a,h,q=>q h
 | .ask i j k,h,q=>by
  simp only [kasFit,Zu,decide_eq_true_eq,Bool.not_eq_true',decide_eq_false_iff_not] at h;obtain ⟨⟨⟨⟨h1,h2⟩,h3⟩,h4⟩,h5⟩:=h;refine hc i j _ h1 h2 h3 (kas_fit hc (k (c i j)) ?_ q);cases c i j <;> assumption
noncomputable def permB (n:Nat) (p:Array Nat):Bool:=p.toList.isPerm (List.range n)
theorem kas_small:∀ n,n≤4→kasFit n (permB n) (kas_sort n)=true
 | 0,_=>by decide +kernel
 | 1,_=>by decide +kernel
 | 2,_=>by decide +kernel
 | 3,_=>by decide +kernel
 | 4,_=>by decide +kernel
noncomputable def byName (ks:List Str):List Nat:=(kasEnd (fun i j=>decide (ltS (ks.getD i Str.empty) (ks.getD j Str.empty))) (kas_sort ks.length)).toList
theorem zBb {ks:List Str} (h:ks.length≤4):(byName ks).Perm (List.range ks.length):=by
 have:∀ {α : Type}{n:Nat}{p : α→Bool}{c:Nat→Nat→Bool} (t:KasT α),kasFit n p t=true→p (kasEnd c t)=true:=by
  intro α n p c t
  induction t with
  | ret a=>exact id
  | ask i j k ih =>
   intro h;simp only [kasFit,Zu] at h;refine ih _ ?_;cases c i j
   ·exact h.2
   ·exact h.1.2
 exact List.isPerm_iff.mp (this (kas_sort ks.length) (kas_small _ h))
section
variable {prog:Program}{w:World}{A:Around}{E:Value→Shared→Prop}{s:Shared}
noncomputable def Begin (h:Heap) (vs:List Value) (ks:List Str):Prop:=vs.length=ks.length∧∀ (i:Nat) (v:Value) (k:Str),vs[i]? = some v→ks[i]? = some k→∃ a o xs n t,v=.ref a∧h.get? a=some o∧o.cls=.type "tuple"∧o.data=.seq xs n∧xs[0]? = some (.str k t)
theorem Begin.mono {h h':Heap}{vs:List Value}{ks:List Str} (b:Begin h vs ks) (k:Kept h h'):Begin h' vs ks:=⟨b.1,fun i v n e1 e2=>by
 obtain ⟨a,o,xs,m,t,rfl,ho,r⟩:=b.2 i v n e1 e2
 exact ⟨a,o,xs,m,t,rfl,k _ _ ho,r⟩⟩
theorem zE8 {h:Heap}:∀ {vs:List Value}{ks:List Str},Begin h vs ks→∃ fs:List Value,KatTups h vs fs∧fs.length=ks.length∧∀ f∈fs,∃ k t,f=Value.str k t
 | [],[],_=>⟨[],.nil,rfl,fun _ h=>nomatch h⟩
 | [],_ :: _,b=>nomatch b.1
 | _ :: _,[],b=>nomatch b.1
 | v :: vs,k :: ks,b=>by
  obtain ⟨a,o,xs,m,t,rfl,ho,hc,hd,hx⟩:=b.2 0 v k rfl rfl;obtain ⟨fs,h1,h2,h3⟩:=zE8 (h:=h) (vs:=vs) (ks:=ks) ⟨by simpa using b.1,fun i v k e1 e2=>b.2 (i + 1) v k (by simpa using e1) (by simpa using e2)⟩;refine ⟨.str k t :: fs,KatTups.cons ho hc hd hx h1,by simp [h2],fun f hf=>?_⟩;rcases List.mem_cons.mp hf with rfl | hf
  ·exact ⟨k,t,rfl⟩
  ·exact h3 f hf
theorem lt_begin {vs:List Value}{ks:List Str} (b:Begin s.heap vs ks) (nd:ks.Nodup) {i j:Nat} (hi:i < ks.length) (hj:j < ks.length) (ne:i≠j) {C:Bool→Shared→Prop} (h:C (decide (ltS (ks.getD i Str.empty) (ks.getD j Str.empty))) s) :
  wpAny (model prog w) A (keyLt' (tuples' true) (vs.getD i Value.none) (vs.getD j Value.none)) C E s:=by
 have il:i < vs.length:=by rw [b.1];exact hi
 have jl:j < vs.length:=by rw [b.1];exact hj
 obtain ⟨a,o,xs,m,t,ea,ho,hc,hd,hx⟩:=b.2 i vs[i] ks[i] (Z1 il) (Z1 hi);obtain ⟨a',o',xs',m',t',ea',ho',hc',hd',hx'⟩:=b.2 j vs[j] ks[j] (Z1 jl) (Z1 hj);have e1:vs.getD i Value.none=.ref a:=by simp [List.getD,Z1 il,ea]
 have e2:vs.getD j Value.none=.ref a':=by simp [List.getD,Z1 jl,ea']
 have k1:ks.getD i Str.empty=ks[i]:=by simp [List.getD,Z1 hi]
 have k2:ks.getD j Str.empty=ks[j]:=by simp [List.getD,Z1 hj]
 rw [k1,k2] at h;rw [e1,e2];obtain ⟨r,er⟩:∃ r,xs.toList=.str ks[i] t :: r:=by
  rw [← Y4] at hx;cases q:xs.toList with
  | nil=>rw [q] at hx;cases hx
  | cons x r=>rw [q] at hx;cases hx;exact ⟨r,rfl⟩
 obtain ⟨r',er'⟩:∃ r,xs'.toList=.str ks[j] t' :: r:=by
  rw [← Y4] at hx';cases q:xs'.toList with
  | nil=>rw [q] at hx';cases hx'
  | cons x r=>rw [q] at hx';cases hx';exact ⟨r,rfl⟩
 refine kat_lt ho hd ho' hd' ?_;rw [er,er',List.zip_cons_cons];refine kat_cons (wpAny_eqBool_str ?_);have nk:ks[i]≠ks[j]:=fun z=>ne ((List.getElem_inj nd).mp z);have ef:(ks[i] == ks[j])=false:=by simpa using nk
 first
  | rw [ef]
  | rw [decide_eq_false nk]
 refine kat_no ?_;exact oneLt_str h
theorem zDs {a:Addr}{vs:List Value}{ks:List Str}{n:Nat}{P:PySem.Fin→Shared→Prop} (ho:s.heap.get? a=some (seqObj "list" vs.toArray n)) (b:Begin s.heap vs ks) (nd:ks.Nodup) (h4:ks.length≤4)
  (h:P (.done (.ret .none)) { s with heap:=sortedHeap s.heap a vs (List.toArray ((byName ks).map fun i=>vs.getD i Value.none)) }) :
  wpAny (model prog w) A (Builtin.«list.sort» ⟨[.ref a],[]⟩) P E s:=by
 rw [list_sort_plain];have ha:a < s.heap.objs.size:=Zc ho;have hsz:vs.toArray.size=vs.length:=by simp
 have vk:vs.length=ks.length:=b.1;refine wpAny_bind (listItems_at ho rfl ?_);refine wpAny_bind (listUpdate_at ho rfl ?_ (by rw [hsz,sizeLine_eq];omega) (Zm _));have s1:=Heap.SameBut.update s.heap a (Obj.mapSeq fun _=>(#[]:Array Value));obtain ⟨e1,ho1⟩:∃ e1,(s.heap.update a (Obj.mapSeq fun _=>#[])).get? a=some (seqObj "list" #[] e1):=⟨_,get?_update_seq ho (fun _=>#[])⟩;refine wpAny_bind (seqEpoch_at ho1 rfl ?_);refine wpAny_bind (wpAny_newTuple ?_ (by show vs.length≤_;rw [sizeLine_eq];omega));refine wpAny_bind (wpAny_newList ?_ (Zm _));refine wpAny_holding ?_;have ho6:(((s.heap.update a (Obj.mapSeq fun _=>#[])).push (seqObj "tuple" vs.toArray 0)).push (seqObj "list" #[] 0)).get? a=some (seqObj "list" #[] e1):=by
  rw [Heap.get?_push_ne _ _ _ (by rw [size_push',Heap.size_update];exact Ze (Yk ha)),Heap.get?_push_ne _ _ _ (by rw [Heap.size_update];exact Ze ha)];exact ho1
 have b6:Begin (((s.heap.update a (Obj.mapSeq fun _=>#[])).push (seqObj "tuple" vs.toArray 0)).push (seqObj "list" #[] 0)) vs ks:=by
  refine ⟨b.1,fun i v k e1 e2=>?_⟩;obtain ⟨c,o,xs,m,t,rfl,hoc,r⟩:=b.2 i v k e1 e2;have nc:c≠a:=by
   rintro rfl;rw [ho] at hoc;cases hoc;exact absurd r.1 (by simp [seqObj])
  exact ⟨c,o,xs,m,t,rfl,Z2 _ (Z2 _ ((s1.2 c nc).trans hoc)),r⟩
 show wpAny (model prog w) A _ P E { s with heap:=((s.heap.update a (Obj.mapSeq fun _=>#[])).push (seqObj "tuple" vs.toArray 0)).push (seqObj "list" #[] 0) };dsimp only;have fin:=h;by_cases h2:vs.toArray.size < 2
 ·rw [if_pos h2,if_pos h2];refine wpAny_bind (wpAny_pure ?_);rw [StateT.run_pure];refine wpAny_bind (wpAny_pure ?_);dsimp only;refine wpAny_bind (seqEpoch_at ho6 rfl ?_);refine wpAny_bind (listUpdate_at ho6 rfl ?_ (hsz2:=by rw [Array.size_map];show (pairsOf vs).size≤_;rw [pairsOf_size,sizeLine_eq];omega));simp only [bne_self_eq_false,Yh,if_false];refine wpAny_pure ?_;have eo:(List.toArray ((byName ks).map fun i=>vs.getD i Value.none))=((arrOf (SortSt.mk' general' (vs.toArray.zip vs.toArray) #[] 7 none)).map (·.2)):=by
   have hp:=zBb h4;rw [hsz] at h2;have:ks.length=0∨ks.length=1:=by omega
   rcases this with z | z
   ·have ez:vs=[]:=List.length_eq_zero_iff.mp (by omega);rw [z] at hp;rw [List.perm_nil.mp hp,ez];show (#[]:Array Value)=((#[]:Array Value).zip (#[]:Array Value)).map (fun x=>x.2);simp
   ·obtain ⟨v,ez⟩:∃ v,vs=[v]:=List.length_eq_one_iff.mp (by omega);rw [z] at hp;rw [List.perm_singleton.mp (show (byName ks).Perm [0] from hp),ez];show (#[v]:Array Value)=((#[v]:Array Value).zip (#[v]:Array Value)).map (fun x=>x.2);simp
  rw [eo] at fin;exact fin
 ·rw [if_neg h2,if_neg h2];rw [hsz] at h2;obtain ⟨fs,t1,t2,t3⟩:=zE8 b6;refine wpAny_bind (kat_kind (T:=.type "str") t1 (by omega) (fun f hf=>?_) rfl ?_)
  ·obtain ⟨k,t,rfl⟩:=t3 f hf;exact Looks.now
  have eT:(Value.type "str" != Value.type "tuple")=true:=by decide
  rw [eT]
  refine wpAny_bind (wpAny_mono (kat_run (Q:=fun st' s'=>s'={ s with heap:=((s.heap.update a (Obj.mapSeq fun _=>#[])).push (seqObj "tuple" vs.toArray 0)).push (seqObj "list" #[] 0) }∧failedOf st'=none∧(arrOf st').map (·.2)=List.toArray ((byName ks).map fun i=>vs.getD i Value.none))
   (G:=fun p s'=>s'={ s with heap:=((s.heap.update a (Obj.mapSeq fun _=>#[])).push (seqObj "tuple" vs.toArray 0)).push (seqObj "list" #[] 0) }∧p.toList=byName ks) (ks:=vs) (vs:=vs) rfl (by omega) (by omega) (fun p st' s' a1 a2 a3 a4=>⟨a4.1,a3,?_⟩) ?_) ?_ fun _ _ e=>e)
  ·rw [kat_snds rfl a2,a4.2]
  ·rw [vk];exact kas_fit (n:=ks.length) (p:=permB ks.length) (c:=fun i j=>decide (ltS (ks.getD i Str.empty) (ks.getD j Str.empty))) (fun i j C hi hj ne hC=>lt_begin (s:={ s with heap:=((s.heap.update a (Obj.mapSeq fun _=>#[])).push (seqObj "tuple" vs.toArray 0)).push (seqObj "list" #[] 0) }) b6 nd hi hj ne hC) _ (kas_small _ h4) fun _=>⟨rfl,rfl⟩
  rintro ⟨⟨⟩,st'⟩ s' ⟨rfl,hf,hout⟩;dsimp only;rw [hout];refine wpAny_bind (seqEpoch_at ho6 rfl ?_);refine wpAny_bind (listUpdate_at ho6 rfl ?_ (hsz2:=by rw [Z7,Z0,(zBb h4).length_eq,List.length_range,sizeLine_eq];omega));rw [hf];simp only [bne_self_eq_false,Yh,if_false];exact wpAny_pure fin
theorem sorted_tups {l:Addr}{vs:List Value}{ks:List Str}{Q:Value→Shared→Prop} (hl:s.heap.IsList l vs.toArray) (b:Begin s.heap vs ks) (nd:ks.Nodup) (h4:ks.length≤4)
  (h:Q (.ref (s.heap.objs.size + 1)) { s with heap:=sortedAll s.heap vs (List.toArray ((byName ks).map fun i=>vs.getD i Value.none)) }) :
  wpAny (model prog w) A (call (.builtin "sorted") [.ref l]) Q E s:=by
 have vk:vs.length=ks.length:=b.1;refine PySem.Calls.call_function_entry kind_sorted plain_sorted entry_sorted (args_sorted1 _) ?_;unfold Builtin.«sorted»;refine wpAny_bind (m:=checkCount "sorted" 1 1 _) (wpAny_pure ?_);refine wpAny_bind (collect_list hl ?_ (by rw [sizeLine_eq];omega));refine wpAny_bind (wpAny_newList ?_ (by rw [sizeLine_eq];omega));have hsz:((s.heap.push (seqObj "list" #[] 0)).update s.heap.objs.size (Obj.mapSeq (·++vs.toArray))).objs.size=s.heap.objs.size + 1:=by
  rw [Heap.size_update,size_push']
 have hoL:(((s.heap.push (seqObj "list" #[] 0)).update s.heap.objs.size (Obj.mapSeq (·++vs.toArray))).push (seqObj "list" vs.toArray 0)).get? (s.heap.objs.size + 1)=some (seqObj "list" vs.toArray 0):=by
  rw [← hsz];exact Zg _ rfl
 have kk:Kept s.heap (((s.heap.push (seqObj "list" #[] 0)).update s.heap.objs.size (Obj.mapSeq (·++vs.toArray))).push (seqObj "list" vs.toArray 0)):=fun b o q=>by
  have hlt:b < s.heap.objs.size:=Zc q;rw [Heap.get?_push_ne _ _ _ (by rw [hsz];exact Ze (Yk hlt)),Heap.get?_update_ne _ _ _ _ (Ze hlt),Heap.get?_push_ne _ _ _ (Ze hlt)];exact q
 show wpAny _ _ _ _ _ { s with heap:=((s.heap.push (seqObj "list" #[] 0)).update s.heap.objs.size (Obj.mapSeq (·++vs.toArray))).push (seqObj "list" vs.toArray 0) };rw [hsz];refine wpAny_bind (wpAny_holding (wpAny_call_entry slot_list_sort ⟨_,hoL,rfl⟩ entry_list_sort (zDs (s:={ s with heap:=((s.heap.push (seqObj "list" #[] 0)).update s.heap.objs.size (Obj.mapSeq (·++vs.toArray))).push (seqObj "list" vs.toArray 0) }) hoL (b.mono kk) nd h4 ⟨_,rfl,?_⟩) (args_list_sort _)));exact wpAny_pure ⟨_,rfl,h⟩
end
noncomputable def Heads (H:Hp) (xs:List V) (ks:List Str):Prop:=xs.length=ks.length∧∀ (i:Nat) (x:V) (k:Str),xs[i]? = some x→ks[i]? = some k→∃ a r,x=.ref a∧H a=some (.tup (.str k :: r))
section
variable {X:Cx}
theorem zCw {K:PySem.W.Frag} (hK:X.K=K):CallR X (.builtin "sorted") (fun vs H Q=>∃ (l:Addr) (xs:List V) (ks:List Str),vs=[.ref l]∧SqL K H l xs∧Heads H xs ks∧ks.Nodup∧ks.length≤4 ∧
  ∀ p,H p=none→Q (.ref p) (upd H p (.lst ((byName ks).map fun i=>xs.getD i .non)))):=by
 subst hK;intro pins s σ H vs us Q I rv h;obtain ⟨l,xs,ks,rfl,hl,hd,nd,h4,q⟩:=h;obtain ⟨u,rfl,ru⟩:=v1 rv;cases (show u=Value.ref l from ru);obtain ⟨its,rx,pl,hz⟩:=I.list hl;have il:=rx.length;have b:Begin s.heap its ks:=by
  refine ⟨by rw [← il,hd.1],fun i v k e1 e2=>?_⟩;have hi:i < its.length:=(List.getElem?_eq_some_iff.mp e1).1;obtain ⟨y,hy⟩:∃ y,xs[i]? = some y:=⟨_,Z1 (by omega)⟩;obtain ⟨u,hu,ry⟩:=rx.get hy;rw [e1] at hu;cases hu;obtain ⟨a,r,rfl,ha⟩:=hd.2 i y k hy e2;cases (show v=Value.ref a from ry);obtain ⟨_,its2,rv2,o,ho,hc,n,hdt⟩:=I.hok a _ ha;cases rv2 with
  | cons r0 rr =>
   obtain ⟨t,rfl⟩:=r0;exact ⟨a,o,_,n,t,rfl,ho,hc,hdt,rfl⟩
 refine sorted_tups pl.isList b nd h4 ?_;obtain ⟨e,he⟩:=sortedAll_at s.heap its (List.toArray ((byName ks).map fun i=>its.getD i Value.none));have fr:H (s.heap.objs.size + 1)=none:=I.hok.fresh (Nat.le_succ _);have hp:=zBb h4;have vv:∀ l:List Nat,Vals (l.map fun i=>xs.getD i .non) (l.map fun i=>its.getD i Value.none):=by
  intro l
  induction l with
  | nil=>exact .nil
  | cons i r ih =>
   refine .cons ?_ ih;cases e:xs[i]? with
   | none =>
    have e2:its[i]? = none:=by
     rw [List.getElem?_eq_none_iff] at e ⊢;omega
    simp only [List.getD,e,e2,Option.getD_none];rfl
   | some x =>
    obtain ⟨u,hu,ru⟩:=rx.get e;simp only [List.getD,e,hu,Option.getD_some];exact ru
 refine ⟨.ref (s.heap.objs.size + 1),_,I.laid (t':=s.toks) (a:=s.heap.objs.size + 1) (o:=.lst ((byName ks).map fun i=>xs.getD i .non)) (fun _ _=>sortedAll_old) (Nat.le_succ _) ⟨?_,_,e,vv _,by simpa [seqObj] using he⟩,rfl,q _ fr⟩;rw [Z0,hp.length_eq,List.length_range,sizeLine_eq];omega
end
end L2
namespace My
open PySem L2
noncomputable def top (i:Nat):Stmt:=PySem.Challenge.pw_cometorest_k51_situations_told.main.body.getD i (.Pass ⟨0,0,0,0⟩)
noncomputable abbrev sIsName:Stmt:=top 9
noncomputable abbrev sUnlike:Stmt:=top 10
noncomputable abbrev sPair:Stmt:=top 11
noncomputable abbrev sFields:Stmt:=top 12
noncomputable abbrev sCount:Stmt:=top 13
noncomputable abbrev sInit:Stmt:=inClass (top 14) 0
noncomputable abbrev sPicks:Stmt:=top 15
noncomputable abbrev sStates:Stmt:=top 16
noncomputable abbrev sAreKinds:Stmt:=top 17
noncomputable abbrev sPlaced:Stmt:=top 18
noncomputable abbrev sInitKs:Stmt:=inClass (top 19) 0
noncomputable abbrev sOrder:Stmt:=inClass (top 19) 1
noncomputable abbrev sOf:Stmt:=inClass (top 19) 2
noncomputable abbrev sOwned:Stmt:=inClass (top 19) 3
noncomputable abbrev sAllWished:Stmt:=top 21
noncomputable abbrev sOwnerStates:Stmt:=top 22
noncomputable abbrev sSits:Stmt:=top 23
noncomputable abbrev sCellAt:Stmt:=top 25
noncomputable abbrev sMixed:Stmt:=top 26
noncomputable abbrev sDigits:Stmt:=top 27
noncomputable abbrev sNext:Stmt:=top 28
noncomputable abbrev sOddKinds:Stmt:=top 29
noncomputable abbrev sKinds:Stmt:=top 30
noncomputable abbrev sMade:Stmt:=top 31
noncomputable abbrev sLStates:Stmt:=top 32
noncomputable abbrev sLSits:Stmt:=top 33
noncomputable abbrev sLOrder:Stmt:=top 34
noncomputable abbrev sStrange:Stmt:=top 35
noncomputable abbrev sLaw:Stmt:=top 36
noncomputable def letters:Str:="abcdefghijklmnopqrstuvwxyz"
structure Tops (K:PySem.W.Frag) (mg:Str→Option Value):Prop where
 isinst:mg "isinstance" = none
 len:mg "len" = none
 all:mg "all" = none
 set:mg "set" = none
 range:mg "range" = none
 str:mg "str" = none
 list:mg "list" = none
 tuple:mg "tuple" = none
 dict:mg "dict" = none
 min:mg "min" = none
 sorted:mg "sorted" = none
 int:mg "int" = none
 max:mg "max" = none
 lets:∃ t,mg "LETTERS" = some (.str letters t)
 most:∃ t,mg "MOST_LETTERS" = some (.int 8 t)
 mostS:∃ t,mg "MOST_STATES" = some (.int 8 t)
noncomputable def charB (c:Nat):Bool:=decide (c∈letters.cps.toList)
noncomputable def nameB (x:Str):Bool:=decide (1≤x.length) && decide (x.length≤8) && x.cps.toList.all charB
noncomputable def spIsName (K:PySem.W.Frag):Sp:=fun vs H Q _=>(∃ x,vs=[.str x]∧x.length≤1000∧∀ H',Same H H'→Q (.bl (nameB x)) H') ∨
 ∃ v t,vs=[v]∧TyOf K H v t∧PySem.W.kitOne K t (.type "str")=some false∧Q (.bl false) H
section
variable {P:Program}{w:World}{K:PySem.W.Frag}{mg:Str→Option Value}{base:Heap}{CX:CXT}
theorem scIN:FnScope ["thing"] ["thing"] (defScope sIsName):=⟨rfl,rfl,rfl,by decide +kernel,rfl,by decide +kernel,by decide +kernel⟩
theorem ok_isName {f:Addr}{fd:FuncData} (F:Fun K "is_name" "is_name" sIsName f fd) (T:Tops K mg):FnOk P w K mg base CX 1 f fd ["thing"] (spIsName K):=by
 refine F.okC scIN (fun vs H Q E h=>?_) (fun cdv A outer s H vs Q E hr h=>?_)
 ·rcases h with ⟨x,rfl,_⟩ | ⟨v,t,rfl,_⟩ <;> rfl
 ·obtain ⟨tl,hlets⟩:=T.lets;obtain ⟨tm,hmost⟩:=T.most
  refine ⟨_,zA4 (zBg (zBe (zBd (zAd zB4 rfl T.isinst PyProof.Rows.boot_isinstance (zA0 (pv 0) (zA0 (zC1 (v:=.ty "str") rfl T.str PyProof.Rows.boot_str rfl) zA3))))) (zA6 (zAg zDr)) zAl)
   (zA6 (zAg (zD9 (zEp op_le op_le zA7 (zAd call_len_str rfl T.len PySem.boot_len (zA0 (pv 0) zA3)) (zCl (v:=.int 8) rfl hmost ⟨_,rfl⟩))
    (zE1 (zAd (zD1 rfl) rfl T.all PyProof.Rows.boot_all (zA0 (zAj (T:=["sign"]) rfl ScOk.auto (pi_str (pv 0)) (fun _ _ _ _=>zA8 (i:=1) (by decide +kernel:(["thing", "sign"]:List Str).Nodup) rfl (Or.inl rfl)) (fun _ _ _ _=>zAt)
     (fun _ _ _ _=>zBl op_in_str (pv 1) (zCl (v:=.str letters) rfl hlets ⟨_,rfl⟩) rfl)) zA3)))))),?_⟩
  rcases h with ⟨x,rfl,hx,k⟩ | ⟨v,t,rfl,ty,hk,k⟩
  ·refine ⟨_,rfl,_,_,_,_,_,rfl,.str x,rfl,rfl,_,rfl,iteF ?_⟩;have hz:x.length≤sizeLine:=Zq (small1000 hx);refine ⟨_,rfl,x,rfl,hz,_,_,rfl,rfl,_,rfl,?_⟩;refine ite2 (fun h1=>?_) (fun h1=>?_)
   ·refine ⟨_,_,rfl,rfl,_,rfl,?_⟩;refine ite2 (fun h2=>?_) (fun h2=>?_)
    ·refine ⟨_,rfl,x,rfl,comp_chars (fun _=>true) (fun c=>.bl (charB c)) hz (fun c Ry Rn q _=>?_) (fun d hd=>?_)⟩
     ·refine iteT (B:=Rn H) ⟨_,rfl,_,_,rfl,rfl,?_⟩;rw [PySem.StrLaws.found_one];exact q rfl
     ·refine ⟨d,x.cps.toList.map charB,rfl,SqL.of ?_,?_⟩
      ·rw [zA1,List.filter_eq_self.mpr (fun _ _=>rfl),Zo];rfl
      ·have e:nameB x=(x.cps.toList.map charB).all id:=by
        have a1:1≤x.length:=by have:=of_decide_eq_true h1;omega
        have a2:x.length≤8:=by have:=of_decide_eq_true h2;omega
        unfold nameB;rw [decide_eq_true a1,decide_eq_true a2,List.all_map];rfl
       rw [← e];exact k _ (Same.new hd)
    ·have a2:¬ x.length≤8:=fun z=>h2 (decide_eq_true (by omega));have e:nameB x=false:=by unfold nameB;rw [decide_eq_false a2];simp
     rw [← e];exact k _ (Same.refl _)
   ·have a1:¬ 1≤x.length:=fun z=>h1 (decide_eq_true (by omega));have e:nameB x=false:=by unfold nameB;rw [decide_eq_false a1];simp
    refine ⟨false,rfl,iteF ?_⟩;rw [← e];exact k _ (Same.refl _)
  ·exact ⟨_,rfl,_,_,_,_,_,rfl,ty,rfl,hk,_,rfl,iteT k⟩
end
noncomputable def spMixed:Sp:=fun vs H Q _=>∃ c k:Int,vs=[.int c,.int k]∧0≤k∧k≤1000000∧∀ n:Int,0≤n→n < 2147483629→Q (.int n) H
noncomputable def Src (H:Hp) (p:Addr) (k:Int):Prop:=∃ a c j:Int,H p=some (.lst [.int a,.int c,.int j])∧0≤j∧j≤k
noncomputable def spDigits:Sp:=fun vs H Q _=>∃ c:Int,vs=[.int c]∧∀ p H',H p=none→Src H' p 0→Same H H'→(∀ b,b≠p→H' b=H b)→Q (.ref p) H'
noncomputable def spNext:Sp:=fun vs H Q _=>∃ (p:Addr) (m k:Int),vs=[.ref p,.int m]∧Src H p k∧k≤999998∧0 < m∧m < 2 ^ 64 ∧
 ∀ (r:Int) (H':Hp),0≤r→r < m→Src H' p (k + 1)→(∀ b,b≠p→H' b=H b)→Q (.int r) H'
section
variable {P:Program}{w:World}{K:PySem.W.Frag}{mg:Str→Option Value}{base:Heap}{CX:CXT}
theorem scMx:FnScope ["_law_cell", "_law_k", "_law_number"] ["_law_cell", "_law_k"] (defScope sMixed):=⟨rfl,rfl,rfl,by decide +kernel,rfl,by decide +kernel,by decide +kernel⟩
theorem ok_mixed {f:Addr}{fd:FuncData} (F:Fun K "_law_mixed" "_law_mixed" sMixed f fd):FnOk P w K mg base CX 1 f fd ["_law_cell", "_law_k"] spMixed:=by
 refine F.okC scMx (fun vs H Q E h=>?_) (fun cdv A outer s H vs Q E hr h=>?_)
 ·obtain ⟨c,k,rfl,_⟩:=h;rfl
 ·obtain ⟨c,k,rfl,h0,h1,q⟩:=h
  refine ⟨_,zA4 (zAa (i:=2) scMx.nd rfl (Or.inl rfl) (zAf zC9 (zAf zCq (zAf zBn (zAf zBn (zAf zC9 (pv 0) zA7) (zAf zCq zA7 (pv 1))) zA7) zA7) zA7))
   (zA4 (zAa (i:=2) scMx.nd rfl (Or.inl rfl) (zAf zC9 (zAf zCq (pv 2) (zAf zBn (zAf zEt (pv 2) zA7) zA7)) zA7))
   (zA4 (zAa (i:=2) scMx.nd rfl (Or.inl rfl) (zAf zC9 (zAf zCq (pv 2) (zAf zBn (zAf zBn (zAf zEt (pv 2) zA7) zA7) (pv 1))) zA7))
   (zA6 (zAg (zAf zC9 (zAf zCq (pv 2) (zAf zBn (zAf zEt (pv 2) zA7) zA7)) zA7))))),?_⟩
  have M:(0:Int) < 2147483629:=by decide
  have lo:∀ z:Int,0≤z % 2147483629:=fun z=>Int.emod_nonneg _ (by decide);have hi:∀ z:Int,z % 2147483629 < 2147483629:=fun z=>Yi _ M;have cm:∀ z y:Int,CMul (z % 2147483629) y:=fun z y=>by have:=lo z;have:=hi z;exact .inl ⟨by omega,by omega⟩
  refine ⟨_,rfl,_,_,rfl,rfl,M,_,rfl,_,_,rfl,rfl,.inl ⟨by decide,by decide⟩,_,_,rfl,rfl,_,_,rfl,rfl,_,_,rfl,rfl,.inr ⟨by decide,by decide⟩,_,_,rfl,rfl,M,?_⟩;refine ⟨_,rfl,_,rfl,_,_,rfl,rfl,⟨by decide,by decide⟩,_,_,rfl,rfl,_,_,rfl,rfl,cm _ _,_,_,rfl,rfl,M,?_⟩;refine ⟨_,rfl,_,rfl,_,_,rfl,rfl,⟨by decide,by decide⟩,_,_,rfl,rfl,_,rfl,_,_,rfl,rfl,_,_,rfl,rfl,cm _ _,_,_,rfl,rfl,M,?_⟩;refine ⟨_,rfl,_,rfl,_,_,rfl,rfl,⟨by decide,by decide⟩,_,_,rfl,rfl,_,_,rfl,rfl,cm _ _,_,_,rfl,rfl,M,?_⟩;exact q _ (lo _) (hi _)
theorem scDg:FnScope ["_law_cell"] ["_law_cell"] (defScope sDigits):=⟨rfl,rfl,rfl,by decide +kernel,rfl,by decide +kernel,by decide +kernel⟩
theorem ok_digits {f:Addr}{fd:FuncData} (F:Fun K "_law_digits" "_law_digits" sDigits f fd):FnOk P w K mg base CX 1 f fd ["_law_cell"] spDigits:=by
 refine F.okC scDg (fun vs H Q E h=>?_) (fun cdv A outer s H vs Q E hr h=>?_)
 ·obtain ⟨c,rfl,_⟩:=h;rfl
 ·obtain ⟨c,rfl,q⟩:=h;refine ⟨_,zA6 (zAg (zAe (zA0 (zAf zCq (zAf zEt (pv 0) zA7) (zAf op_sub zA7 (zAf zC9 (pv 0) zA7))) (zA0 (pv 0) (zA0 zA7 zA3))))),?_⟩;have a1:0≤c % 2:=Int.emod_nonneg _ (by decide);have a2:c % 2 < 2:=Yi _ (by decide);refine ⟨_,rfl,_,_,rfl,rfl,⟨by decide,by decide⟩,_,rfl,_,_,rfl,rfl,(by show (0:Int) < 2;decide),_,_,rfl,rfl,_,_,rfl,rfl,.inr ⟨by omega,by omega⟩,_,rfl,(by show 3≤sizeLine;decide),fun p hp=>?_⟩;exact q p _ hp ⟨_,_,0,zA1,by decide,by decide⟩ (Same.new hp) fun b hb=>zA5 hb
theorem scNx:FnScope ["_law_source", "_law_many", "_law_found"] ["_law_source", "_law_many"] (defScope sNext):=⟨rfl,rfl,rfl,by decide +kernel,rfl,by decide +kernel,by decide +kernel⟩
theorem ok_next {f fm:Addr}{fd fdm:FuncData} (hC:Calm CX) (F:Fun K "_law_next" "_law_next" sNext f fd) (DM:Def K mg "_law_mixed" sMixed ["_law_cell", "_law_k"] fm fdm):FnOk P w K mg base CX 2 f fd ["_law_source", "_law_many"] spNext:=by
 have GM:FnOk P w K mg base CX 1 fm fdm ["_law_cell", "_law_k"] spMixed:=ok_mixed DM.fn;refine F.okC scNx (fun vs H Q E h=>?_) (fun cdv A outer s H vs Q E hr h=>?_)
 ·obtain ⟨p,m,k,rfl,_⟩:=h;rfl
 ·obtain ⟨p,m,k,rfl,⟨a,c,j,hp,j0,j1⟩,hk,m0,m1,q⟩:=h
  refine ⟨_,zA4 (zBg (zAz op_gt (zAu zAp (pv 0) zA7 (fun _ _=>rfl)) zA7 (nomark _))
    (zA4 (zAa (i:=2) scNx.nd rfl (Or.inl rfl) (zAf zC9 (zAu zAp (pv 0) zA7 (fun _ _=>rfl)) (pv 1)))
    (zA4 (ps_asg (zAf op_fdivB (zAu zAp (pv 0) zA7 (fun _ _=>rfl)) (pv 1)) (pg_sub (pv 0) zA7 set_list))
    (zA6 (zAg (pv 2))))) zAl)
   (zA4 (ps_asg (zAf zBn (zAu zAp (pv 0) zA7 (fun _ _=>rfl)) zA7) (pg_sub (pv 0) zA7 set_list))
   (zA6 (zAg (zAf zC9 (zA9 GM hr rfl DM.at_ DM.fn.kp DM.bind .nil (passC hC) (zA0 (zAu zAp (pv 0) zA7 (fun _ _=>rfl)) (zA0 (zAu zAp (pv 0) zA7 (fun _ _=>rfl)) zA3))) (pv 1))))),?_⟩
  have S0:SqL K H p [.int a,.int c,.int j]:=SqL.of hp;refine ⟨_,rfl,p,_,_,_,rfl,rfl,S0,rfl,_,_,rfl,rfl,_,rfl,?_⟩;refine ite2 (fun h0=>?_) (fun h0=>?_)
  ·refine ⟨_,rfl,p,_,_,_,rfl,rfl,S0,rfl,_,rfl,_,_,rfl,rfl,m0,?_⟩;refine ⟨_,rfl,p,_,_,_,rfl,rfl,S0,rfl,_,rfl,_,_,rfl,rfl,⟨m0,m1⟩,?_⟩;refine ⟨_,rfl,p,_,_,0,rfl,rfl,hp,rfl,?_⟩;refine ⟨_,rfl,q _ _ (Int.emod_nonneg _ (by omega)) (Yi _ m0) ⟨_,_,j,zA1,j0,by omega⟩ fun b hb=>zA5 hb⟩
  ·refine ⟨_,rfl,p,_,_,_,rfl,rfl,S0,rfl,_,_,rfl,rfl,?_⟩;refine ⟨_,rfl,p,_,_,2,rfl,rfl,hp,rfl,?_⟩;have S1:SqL K (upd H p (.lst [.int a,.int c,.int (j + 1)])) p [.int a,.int c,.int (j + 1)]:=SqL.of zA1;refine ⟨_,rfl,p,_,_,_,rfl,rfl,S1,rfl,_,rfl,p,_,_,_,rfl,rfl,S1,rfl,c,j + 1,rfl,by omega,by omega,fun n n0 n1=>?_⟩;refine ⟨_,rfl,_,_,rfl,rfl,m0,?_⟩;exact q _ _ (Int.emod_nonneg _ (by omega)) (Yi _ m0) ⟨_,_,j + 1,zA1,by omega,by omega⟩ fun b hb=>zA5 hb
end
noncomputable def nameD:PyData→Bool
 | .str x=>nameB x
 | _=>false
noncomputable def strsOf:List PyData→List Str
 | .str x :: r=>x :: strsOf r
 | _ :: r=>strsOf r
 | []=>[]
noncomputable def unlikeB (ds:List PyData):Bool:=ds.all nameD && decide (strsOf ds).Nodup
noncomputable def pairB:PyData→Bool
 | .tuple [_,.list vs]=>decide (0 < vs.length) && unlikeB vs
 | _=>false
noncomputable def firstD:PyData→PyData
 | .tuple (d :: _)=>d
 | _=>.none
noncomputable def fieldsB:PyData→Bool
 | .list ds=>ds.all pairB && unlikeB (ds.map firstD)
 | _=>false
noncomputable def spNameD:Sp:=fun vs H Q _=>∃ v d,vs=[v]∧Has Any H v d∧∀ H',Same H H'→Q (.bl (nameD d)) H'
noncomputable def spUnlike:Sp:=fun vs H Q _=>∃ v ds,vs=[v]∧Has Any H v (.list ds)∧∀ H',Same H H'→Q (.bl (unlikeB ds)) H'
noncomputable def spPair:Sp:=fun vs H Q _=>∃ v d,vs=[v]∧Has Any H v d∧∀ H',Same H H'→Q (.bl (pairB d)) H'
noncomputable def spFields:Sp:=fun vs H Q _=>∃ v d,vs=[v]∧Has Any H v d∧∀ H',Same H H'→Q (.bl (fieldsB d)) H'
theorem strs_all {G:Addr→Prop}{H:Hp}:∀ {xs:List V}{ds:List PyData},HasAll G H xs ds→ds.all nameD=true→xs=(strsOf ds).map V.str∧(strsOf ds).length=ds.length
 | _,_,.nil,_=>⟨rfl,rfl⟩
 | _,_,.cons h t,e=>by
  rw [Ye,Zu] at e;obtain ⟨e1,e2⟩:=e;obtain ⟨q1,q2⟩:=strs_all t e2;cases h with
  | str x _ _=>exact ⟨by rw [q1];rfl,by rw [strsOf,Zi,Zi,q2]⟩
  | non=>cases e1
  | bl b=>cases e1
  | int i=>cases e1
  | lst _ _ _ _=>cases e1
  | tup _ _ _ _=>cases e1
section
variable {P:Program}{w:World}{K:PySem.W.Frag}{mg:Str→Option Value}{base:Heap}{CX:CXT}
theorem name_imp {vs:List V}{H:Hp}{Q:VK}{E:XK} (h:spNameD vs H Q E):spIsName K vs H Q E:=by
 obtain ⟨v,d,rfl,hd,q⟩:=h;cases hd with
 | str x hx ho=>exact .inl ⟨x,rfl,hx,q⟩
 | non=>exact .inr ⟨_,_,rfl,.non,rfl,q _ (Same.refl _)⟩
 | bl b=>exact .inr ⟨_,_,rfl,.bl b,rfl,q _ (Same.refl _)⟩
 | int i=>exact .inr ⟨_,_,rfl,.int i,rfl,q _ (Same.refl _)⟩
 | lst _ e _ _=>exact .inr ⟨_,_,rfl,.lst e,rfl,q _ (Same.refl _)⟩
 | tup _ e _ _=>exact .inr ⟨_,_,rfl,.tup e,rfl,q _ (Same.refl _)⟩
theorem zEu {f:Addr}{fd:FuncData} (F:Fun K "is_name" "is_name" sIsName f fd) (T:Tops K mg):FnOk P w K mg base CX 1 f fd ["thing"] spNameD:=(ok_isName F T).imp fun _ _ _ _ h=>name_imp h
theorem scUl:FnScope ["things"] ["things"] (defScope sUnlike):=⟨rfl,rfl,rfl,by decide +kernel,rfl,by decide +kernel,by decide +kernel⟩
theorem zDc {f fn:Addr}{fd fdn:FuncData} (hC:Calm CX) (T:Tops K mg) (F:Fun K "are_unlike_names" "are_unlike_names" sUnlike f fd) (DN:Def K mg "is_name" sIsName ["thing"] fn fdn):FnOk P w K mg base CX 2 f fd ["things"] spUnlike:=by
 have GN:FnOk P w K mg base CX 1 fn fdn ["thing"] spNameD:=zEu DN.fn T;refine F.okC scUl (fun vs H Q E h=>?_) (fun cdv A outer s H vs Q E hr h=>?_)
 ·obtain ⟨v,ds,rfl,_⟩:=h;rfl
 ·obtain ⟨v,ds,rfl,hd,k⟩:=h;obtain ⟨a,xs,rfl,_,ha,hz,hx⟩:=hd.list_inv;have hzl:xs.length≤sizeLine:=Zq (small1000 hz)
  refine ⟨_,zA6 (zAg (zD9 (zAd (zD1 rfl) rfl T.all PyProof.Rows.boot_all (zA0 (zAj (T:=["thing"]) rfl ScOk.auto (zAb (pv 0)) (fun _ _ _ _=>zA8 (i:=1) (by decide +kernel:(["things", "thing"]:List Str).Nodup) rfl (Or.inl rfl)) (fun _ _ _ _=>zAt)
    (fun _ _ _ _=>zA9 GN hr rfl DN.at_ DN.fn.kp DN.bind .nil (passC hC) (zA0 (pv 1) zA3))) zA3))
   (zE1 (zBl op_eq (zAd zCp rfl T.len PySem.boot_len (zA0 (zAx (zF2 rfl) rfl T.set PyProof.Rows.boot_set (zA0 (pv 0) zA3)) zA3)) (zAd zAq rfl T.len PySem.boot_len (zA0 (pv 0) zA3)) (nomark _))))),?_⟩
  refine ⟨_,rfl,a,rfl,⟨xs,SqL.of ha⟩,zAc (xs:=xs) (fun i ys H'=>Same H H'∧ys=(ds.take i).map fun d=>V.bl (nameD d)) ⟨Same.refl _,rfl⟩ (fun i ys H' p=>SqL.of (p.1 _ _ ha)) (fun i ys H' hi p=>?_) ?_ ?_⟩
  ·rw [p.2,Z0];have:=Zw i ds;omega
  ·rintro i x ys H' hi ⟨s1,rfl⟩ N hN;obtain ⟨d,hd',hv⟩:=hx.get hi;refine pick ?_;refine ⟨_,rfl,_,d,rfl,hv.mono s1,fun H2 s2=>hN _ _ ⟨s1.trans s2,?_⟩⟩;rw [Z4,hd',Z9];rfl
  ·rintro ys H' ⟨s1,rfl⟩ p hp;have e:(ds.take xs.length).map (fun d=>V.bl (nameD d))=(ds.map nameD).map V.bl:=by
    rw [hx.length,Za,Zo];rfl
   have s2:Same H (upd H' p (.lst ((ds.take xs.length).map fun d=>V.bl (nameD d)))):=s1.trans (Same.new hp);refine ⟨p,ds.map nameD,rfl,SqL.of (by rw [zA1,e]),_,rfl,?_⟩;have ea:(ds.map nameD).all id=ds.all nameD:=by rw [List.all_map];rfl
   rw [ea];cases eb:ds.all nameD with
   | false =>
    refine iteF ?_;have e0:unlikeB ds=false:=by unfold unlikeB;rw [eb];rfl
    rw [← e0];exact k _ s2
   | true =>
    refine iteT ?_;obtain ⟨q1,q2⟩:=strs_all hx eb;subst q1;have ha2:=s2 _ _ ha;have hz4:(strsOf ds).length≤4000:=by rw [Z0] at hz;omega
    refine ⟨_,rfl,a,strsOf ds,rfl,SqL.of ha2,hz4,fun d hd2=>?_⟩;refine ⟨d,strsOf ds,rfl,zA1,hz4,?_⟩;refine ⟨_,rfl,a,_,rfl,.inl (SqL.of ((Same.new hd2) _ _ ha2)),rfl,?_⟩;have e1:decide (V.int ((dl (strsOf ds)).length:Int)=V.int (((strsOf ds).map V.str).length:Int))=unlikeB ds:=by
     unfold unlikeB;rw [eb,Bool.true_and,← dl_len_iff,Z0];by_cases q:(dl (strsOf ds)).length=(strsOf ds).length
     ·rw [decide_eq_true q,q];simp
     ·rw [decide_eq_false q,decide_eq_false];intro z;injection z with z;omega
    rw [e1];exact k _ (s2.trans (Same.new hd2))
end
noncomputable def sizeD:PyData→Nat
 | .tuple [_,.list vs]=>vs.length
 | _=>0
noncomputable def countD (ds:List PyData):Int:=ds.foldl (fun m d=>m * (sizeD d:Int)) 1
noncomputable def spCount:Sp:=fun vs H Q _=>∃ v ds,vs=[v]∧Has Any H v (.list ds)∧ds.all pairB=true∧Q (.int (countD ds)) H
theorem zEr {G:Addr→Prop}{H:Hp}{v:V}{d:PyData} (h:Has G H v d) (e:pairB d=true) :
  ∃ a x y n l vs ys,v=.ref a∧G a∧H a=some (.tup [x,y])∧d=.tuple [n,.list vs]∧Has G H x n∧y=.ref l∧G l∧H l=some (.lst ys)∧ys.length≤1000∧HasAll G H ys vs∧0 < vs.length∧unlikeB vs=true:=by
 cases h with
 | non=>cases e
 | bl b=>cases e
 | int i=>cases e
 | str x _ _=>cases e
 | lst _ _ _ _=>cases e
 | tup g s z q =>
  cases q with
  | nil=>cases e
  | cons h1 q =>
   cases q with
   | nil=>cases e
   | cons h2 q =>
    cases q with
    | cons _ _=>cases h2 <;> cases e
    | nil =>
     cases h2 with
     | non=>cases e
     | bl b=>cases e
     | int i=>cases e
     | str x _ _=>cases e
     | tup _ _ _ _=>cases e
     | lst g2 s2 z2 q2 =>
      have e':(decide _ && unlikeB _)=true:=e;rw [Zu] at e';exact ⟨_,_,_,_,_,_,_,rfl,g,s,rfl,h1,rfl,g2,s2,z2,q2,of_decide_eq_true e'.1,e'.2⟩
section
variable {P:Program}{w:World}{K:PySem.W.Frag}{mg:Str→Option Value}{base:Heap}{CX:CXT}
theorem scPr:FnScope ["thing", "values"] ["thing"] (defScope sPair):=⟨rfl,rfl,rfl,by decide +kernel,rfl,by decide +kernel,by decide +kernel⟩
theorem ok_pair {f fu fn:Addr}{fd fdu fdn:FuncData} (hC:Calm CX) (T:Tops K mg) (F:Fun K "is_pair_with_values" "is_pair_with_values" sPair f fd) (DN:Def K mg "is_name" sIsName ["thing"] fn fdn)
  (DU:Def K mg "are_unlike_names" sUnlike ["things"] fu fdu):FnOk P w K mg base CX 3 f fd ["thing"] spPair:=by
 have GU:FnOk P w K mg base CX 2 fu fdu ["things"] spUnlike:=zDc hC T DU.fn DN;refine F.okC scPr (fun vs H Q E h=>?_) (fun cdv A outer s H vs Q E hr h=>?_)
 ·obtain ⟨v,d,rfl,_⟩:=h;rfl
 ·obtain ⟨v,d,rfl,hd,k⟩:=h
  refine ⟨_,zA4 (zBg (PW.pt (zEg (zBe (zBd (zAd zB4 rfl T.isinst PyProof.Rows.boot_isinstance (zA0 (pv 0) (zA0 (zC1 (v:=.ty "tuple") rfl T.tuple PyProof.Rows.boot_tuple rfl) zA3)))))
    (zC7 (zAz op_ne (zAd zAq rfl T.len PySem.boot_len (zA0 (pv 0) zA3)) zA7 (nomark _))))) (zA6 (zAg zDr)) zAl)
   (zA4 (zAa (i:=1) scPr.nd rfl (Or.inl rfl) (zAu zBu (pv 0) zA7 (fun _ _=>rfl)))
   (zA6 (zAg (zD9 (zAd zB4 rfl T.isinst PyProof.Rows.boot_isinstance (zA0 (pv 1) (zA0 (zC1 (v:=.ty "list") rfl T.list PyProof.Rows.boot_list rfl) zA3)))
    (zD9 (zBl op_gt (zAd zAq rfl T.len PySem.boot_len (zA0 (pv 1) zA3)) zA7 (nomark _))
     (zE1 (zA9 GU hr rfl DU.at_ DU.fn.kp DU.bind .nil (passC hC) (zA0 (pv 1) zA3)))))))),?_⟩
  have k0:pairB d=false→Q (.bl false) H:=fun e=>by rw [← e];exact k _ (Same.refl _)
  refine ⟨_,rfl,?_⟩;cases hd with
  | non=>exact ⟨_,_,_,_,_,rfl,.non,rfl,rfl,_,rfl,iteT (iteT (k0 rfl))⟩
  | bl b=>exact ⟨_,_,_,_,_,rfl,(.bl b),rfl,rfl,_,rfl,iteT (iteT (k0 rfl))⟩
  | int i=>exact ⟨_,_,_,_,_,rfl,(.int i),rfl,rfl,_,rfl,iteT (iteT (k0 rfl))⟩
  | str x _ _=>exact ⟨_,_,_,_,_,rfl,(.str x),rfl,rfl,_,rfl,iteT (iteT (k0 rfl))⟩
  | lst _ e _ _=>exact ⟨_,_,_,_,_,rfl,(.lst e),rfl,rfl,_,rfl,iteT (iteT (k0 rfl))⟩
  | @tup a xs ds _ e z q =>
   refine ⟨_,_,_,_,_,rfl,.tup e,rfl,rfl,_,rfl,iteF ?_⟩;refine ⟨_,rfl,a,xs,rfl,.inr (SqT.of e),rfl,_,rfl,?_⟩;have hl:=q.length;by_cases h2:xs.length=2
   ·rw [decide_eq_true (show V.int (xs.length:Int)=V.int 2 by rw [h2];rfl)];refine iteF ?_;obtain ⟨d0,d1,rfl⟩:∃ d0 d1,ds=[d0,d1]:=by
     match ds,hl.symm.trans h2 with
     | [d0,d1],_=>exact ⟨d0,d1,rfl⟩
    cases q with
    | @cons x0 _ _ _ q0 q =>
     cases q with
     | @cons x1 _ _ _ q1 q =>
      cases q;refine ⟨_,rfl,a,_,_,x1,rfl,rfl,SqT.of e,rfl,?_⟩;refine ⟨_,rfl,?_⟩;cases q1 with
      | non=>exact ⟨_,_,_,_,_,rfl,.non,rfl,rfl,_,rfl,iteF (k0 rfl)⟩
      | bl b=>exact ⟨_,_,_,_,_,rfl,(.bl b),rfl,rfl,_,rfl,iteF (k0 rfl)⟩
      | int i=>exact ⟨_,_,_,_,_,rfl,(.int i),rfl,rfl,_,rfl,iteF (k0 rfl)⟩
      | str x _ _=>exact ⟨_,_,_,_,_,rfl,(.str x),rfl,rfl,_,rfl,iteF (k0 rfl)⟩
      | tup _ e1 _ _=>exact ⟨_,_,_,_,_,rfl,(.tup e1),rfl,rfl,_,rfl,iteF (k0 rfl)⟩
      | @lst l ys vs g1 e1 z1 q1 =>
       refine ⟨_,_,_,_,_,rfl,.lst e1,rfl,rfl,_,rfl,iteT ?_⟩;refine ⟨_,rfl,l,ys,rfl,.inl (SqL.of e1),_,_,rfl,rfl,_,rfl,?_⟩;refine ite2 (fun h0=>?_) (fun h0=>?_)
       ·refine ⟨_,rfl,_,vs,rfl,.lst g1 e1 z1 q1,fun H' s'=>?_⟩;have e0:pairB (.tuple [d0,.list vs])=unlikeB vs:=by
         show (decide (0 < vs.length) && unlikeB vs)=_;rw [decide_eq_true,Bool.true_and];have:=q1.length;have:=of_decide_eq_true h0;omega
        rw [← e0];exact k _ s'
       ·refine k0 ?_;show (decide (0 < vs.length) && unlikeB vs)=_;rw [decide_eq_false,Bool.false_and];have:=q1.length;intro z0;exact h0 (decide_eq_true (by omega))
   ·rw [decide_eq_false (show ¬ V.int (xs.length:Int)=V.int 2 by intro z0;injection z0 with z0;omega)];refine iteT (k0 ?_)
    match ds,hl with
    | [],_=>rfl
    | [_],_=>rfl
    | [_,_],hl=>exact absurd hl h2
    | _ :: d1 :: _ :: _,_=>cases d1 <;> rfl
end
theorem all_get {ds:List PyData}{f:PyData→Bool}{i:Nat}{d:PyData} (h:ds.all f=true) (e:ds[i]? = some d):f d=true:=List.all_eq_true.mp h d (Z3 e)
section
variable {P:Program}{w:World}{K:PySem.W.Frag}{mg:Str→Option Value}{base:Heap}{CX:CXT}
theorem scFd:FnScope ["things"] ["things"] (defScope sFields):=⟨rfl,rfl,rfl,by decide +kernel,rfl,by decide +kernel,by decide +kernel⟩
theorem ok_fields {f fp fu fn:Addr}{fd fdp fdu fdn:FuncData} (hC:Calm CX) (T:Tops K mg) (F:Fun K "are_fields" "are_fields" sFields f fd) (DN:Def K mg "is_name" sIsName ["thing"] fn fdn)
  (DU:Def K mg "are_unlike_names" sUnlike ["things"] fu fdu) (DP:Def K mg "is_pair_with_values" sPair ["thing"] fp fdp):FnOk P w K mg base CX 4 f fd ["things"] spFields:=by
 have GU:FnOk P w K mg base CX 2 fu fdu ["things"] spUnlike:=zDc hC T DU.fn DN;have GP:FnOk P w K mg base CX 3 fp fdp ["thing"] spPair:=ok_pair hC T DP.fn DN DU;refine F.okC scFd (fun vs H Q E h=>?_) (fun cdv A outer s H vs Q E hr h=>?_)
 ·obtain ⟨v,d,rfl,_⟩:=h;rfl
 ·obtain ⟨v,d,rfl,hd,k⟩:=h;have hr2:=hr.mono (show 2≤3 by decide)
  refine ⟨_,zA4 (zBg (PW.pt (zEg (zBe (zBd (zAd zB4 rfl T.isinst PyProof.Rows.boot_isinstance (zA0 (pv 0) (zA0 (zC1 (v:=.ty "list") rfl T.list PyProof.Rows.boot_list rfl) zA3)))))
    (zC7 (zBe (zBd (zAd (zD1 rfl) rfl T.all PyProof.Rows.boot_all (zA0 (zAj (T:=["thing"]) rfl ScOk.auto (zAb (pv 0)) (fun _ _ _ _=>zA8 (i:=1) (by decide +kernel:(["things", "thing"]:List Str).Nodup) rfl (Or.inl rfl)) (fun _ _ _ _=>zAt)
    (fun _ _ _ _=>zA9 GP hr rfl DP.at_ DP.fn.kp DP.bind .nil (passC hC) (zA0 (pv 1) zA3))) zA3))))))) (zA6 (zAg zDr)) zAl)
   (zA6 (zAg (zA9 GU hr2 rfl DU.at_ DU.fn.kp DU.bind .nil (passC hC) (zA0 (zAj (T:=["thing"]) rfl ScOk.auto (zAb (pv 0)) (fun _ _ _ _=>zA8 (i:=1) (by decide +kernel:(["things", "thing"]:List Str).Nodup) rfl (Or.inl rfl)) (fun _ _ _ _=>zAt)
    (fun _ _ _ _=>zAu (r:=rIxT K) zBu (pv 1) zA7 (fun _ _=>rfl))) zA3)))),?_⟩
  have k0:fieldsB d=false→∀ H',Same H H'→Q (.bl false) H':=fun e H' s'=>by rw [← e];exact k _ s'
  refine ⟨_,rfl,?_⟩;cases hd with
  | non=>exact ⟨_,_,_,_,_,rfl,.non,rfl,rfl,_,rfl,iteT (iteT (k0 rfl _ (Same.refl _)))⟩
  | bl b=>exact ⟨_,_,_,_,_,rfl,(.bl b),rfl,rfl,_,rfl,iteT (iteT (k0 rfl _ (Same.refl _)))⟩
  | int i=>exact ⟨_,_,_,_,_,rfl,(.int i),rfl,rfl,_,rfl,iteT (iteT (k0 rfl _ (Same.refl _)))⟩
  | str x _ _=>exact ⟨_,_,_,_,_,rfl,(.str x),rfl,rfl,_,rfl,iteT (iteT (k0 rfl _ (Same.refl _)))⟩
  | tup _ e _ _=>exact ⟨_,_,_,_,_,rfl,(.tup e),rfl,rfl,_,rfl,iteT (iteT (k0 rfl _ (Same.refl _)))⟩
  | @lst a xs ds _ ha hz hx =>
   refine ⟨_,_,_,_,_,rfl,.lst ha,rfl,rfl,_,rfl,iteF ?_⟩;refine ⟨_,rfl,a,rfl,⟨xs,SqL.of ha⟩,zAc (xs:=xs) (fun i ys H'=>Same H H'∧ys=(ds.take i).map fun d=>V.bl (pairB d)) ⟨Same.refl _,rfl⟩ (fun i ys H' p=>SqL.of (p.1 _ _ ha)) (fun i ys H' hi p=>?_) ?_ ?_⟩
   ·rw [p.2,Z0];have:=Zw i ds;have:=small1000 hz;omega
   ·rintro i x ys H' hi ⟨s1,rfl⟩ N hN;obtain ⟨d,hd',hv⟩:=hx.get hi;refine pick ?_;refine ⟨_,rfl,_,d,rfl,hv.mono s1,fun H2 s2=>hN _ _ ⟨s1.trans s2,?_⟩⟩;rw [Z4,hd',Z9];rfl
   ·rintro ys H' ⟨s1,rfl⟩ p hp;have e:(ds.take xs.length).map (fun d=>V.bl (pairB d))=(ds.map pairB).map V.bl:=by
     rw [hx.length,Za,Zo];rfl
    have s2:Same H (upd H' p (.lst ((ds.take xs.length).map fun d=>V.bl (pairB d)))):=s1.trans (Same.new hp);refine ⟨p,ds.map pairB,rfl,SqL.of (by rw [zA1,e]),_,rfl,?_⟩;have ea:(ds.map pairB).all id=ds.all pairB:=by rw [List.all_map];rfl
    rw [ea];cases eb:ds.all pairB with
    | false =>
     refine iteT (k0 ?_ _ s2);show (ds.all pairB && _)=false;rw [eb];rfl
    | true =>
     refine iteF ?_;have ha2:=s2 _ _ ha;generalize upd H' p (.lst ((ds.take xs.length).map fun d=>V.bl (pairB d)))=H3 at s2 ha2 ⊢;refine ⟨_,rfl,a,rfl,⟨xs,SqL.of ha2⟩,zAc (xs:=xs) (fun i ys H'=>H'=H3∧HasAll Any H3 ys ((ds.take i).map firstD)) ⟨rfl,.nil⟩ (fun i ys H' p=>by rw [p.1];exact SqL.of ha2) (fun i ys H' hi p=>?_) ?_ ?_⟩
     ·have:=p.2.length;rw [Z0] at this;have:=Zw i ds;have:=small1000 hz;omega
     ·rintro i x ys H' hi ⟨rfl,hy⟩ N hN;obtain ⟨d,hd',hv⟩:=hx.get hi;obtain ⟨b,x0,y0,n,l,vs,zs,rfl,_,hb,rfl,hn,_⟩:=zEr hv (all_get eb hd');refine pick ?_;refine ⟨_,rfl,b,_,_,x0,rfl,rfl,SqT.of (s2 _ _ hb),rfl,hN _ _ ⟨rfl,?_⟩⟩;rw [Z4,hd',Z9];exact hy.snoc (hn.mono s2)
     ·rintro ys H' ⟨rfl,hy⟩ q hq;have s3:=s2.trans (Same.new (o:=.lst ys) hq);have hl:ys.length≤1000:=by
       have:=hy.length;rw [Z0] at this;have:=Zw xs.length ds;omega
      refine ⟨_,ds.map firstD,rfl,.lst trivial zA1 hl ?_,fun H4 s4=>?_⟩
      ·rw [hx.length,Za] at hy;exact hy.mono (Same.new hq)
      ·have e1:fieldsB (.list ds)=unlikeB (ds.map firstD):=by
        show (ds.all pairB && unlikeB (ds.map firstD))=_;rw [eb];rfl
       rw [← e1];exact k _ (s3.trans s4)
theorem scCt:FnScope ["fields", "many", "field"] ["fields"] (defScope sCount):=⟨rfl,rfl,rfl,by decide +kernel,rfl,by decide +kernel,by decide +kernel⟩
theorem ok_count {f:Addr}{fd:FuncData} (T:Tops K mg) (F:Fun K "count_states" "count_states" sCount f fd):FnOk P w K mg base CX 1 f fd ["fields"] spCount:=by
 refine F.okC scCt (fun vs H Q E h=>?_) (fun cdv A outer s H vs Q E hr h=>?_)
 ·obtain ⟨v,ds,rfl,_⟩:=h;rfl
 ·obtain ⟨v,ds,rfl,hd,eb,k⟩:=h;obtain ⟨a,xs,rfl,_,ha,hz,hx⟩:=hd.list_inv
  refine ⟨_,zA4 (zAa (i:=1) scCt.nd rfl (Or.inl rfl) zA7)
   (zA4 (zB5 PassesOwn.never rfl (zAb (pv 0)) (zA8 (i:=2) scCt.nd rfl (Or.inl rfl))
    (zA6 (zAa (i:=1) scCt.nd rfl (Or.inl rfl) (zAf zCq (pv 1) (zAd zAq rfl T.len PySem.boot_len (zA0 (zAu zBu (pv 2) zA7 (fun _ _=>rfl)) zA3))))))
   (zA6 (zAg (pv 1)))),?_⟩
  refine ⟨_,rfl,a,rfl,⟨xs,SqL.of ha⟩,zAy (K:=K) (a:=a) (xs:=xs) (fun i σ H2=>∃ u,σ = [some (.ref a),some (.int (countD (ds.take i))),u]∧H2=H) ⟨none,rfl,rfl⟩ (fun i σ H2 _ ⟨_,_,e⟩=>by rw [e];exact SqL.of ha) ?_ ?_⟩
  ·rintro i x σ H2 hi ⟨u,rfl,rfl⟩;obtain ⟨d,hd',hv⟩:=hx.get hi;obtain ⟨b,x0,y0,n,l,vs,zs,rfl,_,hb,rfl,hn,rfl,_,hl,hzl,hvs,_⟩:=zEr hv (all_get eb hd');refine ⟨_,rfl,_,rfl,b,_,_,_,rfl,rfl,SqT.of hb,rfl,l,zs,rfl,.inl (SqL.of hl),_,_,rfl,rfl,.inr ⟨by omega,by omega⟩,⟨some (.ref b),?_,rfl⟩⟩;have e:countD (ds.take (i + 1))=countD (ds.take i) * (zs.length:Int):=by
    rw [Z4,hd'];unfold countD;rw [List.foldl_append];show _ * ((sizeD (.tuple [n,.list vs]):Nat):Int)=_;rw [hvs.length];rfl
   rw [e];rfl
  ·rintro σ H2 ⟨u,rfl,rfl⟩;refine ⟨_,rfl,?_⟩;rw [hx.length,Za];exact k
end
structure FunD (K:PySem.W.Frag) (x qual:Str) (st:Stmt) (dV:Value) (f:Addr) (fd:FuncData):Prop where
 ex:∃ (oc:Value) (od:Option Addr) (kV doc pm:Value) (an:Option Addr) (cdv ct:Value) (osl:Array (Option Value)),
  fd=PySem.W.fnOf x qual (defArgs st) (defBody st) (defScope st) dV kV doc pm an cdv ct∧K.lookup f=some ⟨oc,od,.func fd,osl⟩∧PySem.W.codeIn K cdv qual=true
theorem FunD.okC {P:Program}{w:World}{K:PySem.W.Frag}{mg:Str→Option Value}{base:Heap}{CX:CXT}{x qual:Str}{st:Stmt}{dV:Value}{f:Addr}{fd:FuncData}{N ps:List Str}{k:Nat}{sp:Sp} (F:FunD K x qual st dV f fd) (S:FnScope N ps (defScope st)) (len:∀ vs H Q E,sp vs H Q E→vs.length=ps.length)
  (hbody:∀ (cdv:Value) (A:Around) (outer:List Env) (s:Shared) (H:Hp) (vs:List V) (Q:VK) (E:XK),Room k (A.deeper (PyProof.Rows.envOfC qual (defScope st) s.heap.objs.size f cdv))→sp vs H Q E →
   ∃ t,PSs (cxOf CX P w K mg base N qual (defScope st) f cdv A outer s H E).nox (defBody st) t∧t { nx:=fun _ H'=>Q .non H',rt:=Q } (start N vs) H):FnOk P w K mg base CX (k + 1) f fd ps sp:=by
 obtain ⟨oc,od,kV,doc,pm,an,cdv,ct,osl,rfl,lk,hcd⟩:=F.ex;refine fn_of lk hcd S len fun A outer s H vs Q E hr hsp=>?_;obtain ⟨t,h,q⟩:=hbody cdv A outer s H vs Q E hr hsp;exact ⟨t,h.nox,q⟩
theorem fnf:¬ (("name" : Str) = "fields"):=by decide +kernel
theorem fno:¬ (("name" : Str) = "owner"):=by decide +kernel
theorem ffo:¬ (("fields" : Str) = "owner"):=by decide +kernel
noncomputable def kflds (n f o:V):List (Str×V):=putF "owner" o (putF "fields" f (putF "name" n []))
theorem zDi (n f o:V):(kflds n f o).lookup ("name" : Str)=some n:=by
 unfold kflds;rw [zAm,if_neg fno,zAm,if_neg fnf,zAm,if_pos rfl]
theorem kf_fields (n f o:V):(kflds n f o).lookup ("fields" : Str)=some f:=by
 unfold kflds;rw [zAm,if_neg ffo,zAm,if_pos rfl]
theorem zCd (n f o:V):(kflds n f o).lookup ("owner" : Str)=some o:=by
 unfold kflds;rw [zAm,if_pos rfl]
structure KCls (K:PySem.W.Frag) (mg:Str→Option Value) (C fI:Addr):Prop where
 cl:Cls K C
 nN:NoAttr K C "name"
 nF:NoAttr K C "fields"
 nO:NoAttr K C "owner"
 mgC:mg "Kind" = some (.ref C)
 mkd:Mk K C fI
theorem name_any {G G':Addr→Prop}{H H':Hp}{v:V}{d:PyData} (h:Has G H v d) (e:nameD d=true):Has G' H' v d:=by
 cases h with
 | str x a b=>exact .str x a b
 | non=>cases e
 | bl b=>cases e
 | int i=>cases e
 | lst _ _ _ _=>cases e
 | tup _ _ _ _=>cases e
theorem names_any {G G':Addr→Prop}{H H':Hp}:∀ {xs:List V}{ds:List PyData},HasAll G H xs ds→ds.all nameD=true→HasAll G' H' xs ds
 | _,_,.nil,_=>.nil
 | _,_,.cons h t,e=>by
  rw [Ye,Zu] at e;exact .cons (name_any h e.1) (names_any t e.2)
theorem zDu {ds:List PyData} (h:unlikeB ds=true):ds.all nameD=true:=by
 have z:(ds.all nameD && decide (strsOf ds).Nodup)=true:=h;rw [Zu] at z;exact z.1
noncomputable def ownerD (n:Str):PyData→Bool
 | .none=>true
 | .str o=>nameB o && !decide (o=n)
 | _=>false
noncomputable def spInit (C:Addr):Sp:=fun vs H Q _=>∃ (p dx:Addr) (vf vo:V) (n:Str) (ds:List PyData) (od:PyData),vs=[.ref p,.str n,vf,vo]∧H p=some (.ins C dx [])∧n.length≤1000∧PyData.strOk n=true∧nameB n=true ∧
 Has Any H vf (.list ds)∧fieldsB (.list ds)=true∧Has Any H vo od∧ownerD n od=true∧countD ds≤8 ∧
 ∀ (H':Hp) (l:Addr),H' p=some (.ins C dx (kflds (.str n) (.ref l) vo))→Has (fun a=>H a=none) H' (.ref l) (.list ds)→(∀ b o,H b=some o→b≠p→H' b=some o)→Q .non H'
section
variable {P:Program}{w:World}{K:PySem.W.Frag}{mg:Str→Option Value}{base:Heap}{CX:CXT}
theorem scKi:FnScope ["self", "name", "fields", "owner"] ["self", "name", "fields", "owner"] (defScope sInit):=⟨rfl,rfl,rfl,by decide +kernel,rfl,by decide +kernel,by decide +kernel⟩
theorem k_both {R:Hp→Prop}{H1:Hp}{B:Prop} (t:∀ Hx,Same H1 Hx→R Hx) (h:(∀ Hx,Same H1 Hx→R Hx)→B):B:=h t
theorem ok_init {f C ff fc fp fu fn:Addr}{fd fdf fdc fdp fdu fdn:FuncData}{dV:Value} (hC:Calm CX) (T:Tops K mg) (F:FunD K "__init__" "Kind.__init__" sInit dV f fd) (KC:KCls K mg C f) (DN:Def K mg "is_name" sIsName ["thing"] fn fdn)
  (DU:Def K mg "are_unlike_names" sUnlike ["things"] fu fdu) (DP:Def K mg "is_pair_with_values" sPair ["thing"] fp fdp) (DF:Def K mg "are_fields" sFields ["things"] ff fdf) (DC:Def K mg "count_states" sCount ["fields"] fc fdc) :
  FnOk P w K mg base CX 5 f fd ["self", "name", "fields", "owner"] (spInit C):=by
 have GN:FnOk P w K mg base CX 1 fn fdn ["thing"] spNameD:=zEu DN.fn T;have GF:FnOk P w K mg base CX 4 ff fdf ["things"] spFields:=ok_fields hC T DF.fn DN DU DP;have GC:FnOk P w K mg base CX 1 fc fdc ["fields"] spCount:=ok_count T DC.fn;refine F.okC scKi (fun vs H Q E h=>?_) (fun cdv A outer s H vs Q E hr h=>?_)
 ·obtain ⟨p,dx,vf,vo,n,ds,od,rfl,_⟩:=h;rfl
 ·obtain ⟨p,dx,vf,vo,n,ds,od,rfl,hp,hn1,hn2,hn3,hf,hfb,ho,hob,hc8,k⟩:=h;have hr1:=hr.mono (show 1≤4 by decide);obtain ⟨tm,hmost⟩:=T.mostS
  refine ⟨_,zA4 (zBg (zBe (zBd (zA9 GN hr1 rfl DN.at_ DN.fn.kp DN.bind .nil (passC hC) (zA0 (pv 1) zA3)))) zAs zAl)
   (zA4 (zBg (zBe (zBd (zA9 GF hr rfl DF.at_ DF.fn.kp DF.bind .nil (passC hC) (zA0 (pv 2) zA3)))) zAs zAl)
   (zA4 (zBg (PW.pt (pw_and (zBp (zEq (pv 3))) (zEh (PW.pt (zEg (zBe (zBd (zA9 GN hr1 rfl DN.at_ DN.fn.kp DN.bind .nil (passC hC) (zA0 (pv 3) zA3)))) (zC7 (zAz op_eq (pv 3) (pv 1) (nomark _)))))))) zAs zAl)
   (zA4 (zBg (zAz op_gt (zA9 GC hr1 rfl DC.at_ DC.fn.kp DC.bind .nil (passC hC) (zA0 (pv 2) zA3)) (zCl (v:=.int 8) rfl hmost ⟨_,rfl⟩) (nomark _)) zAs zAl)
   (zA4 (zDz (pv 0) (pv 1) rfl)
   (zA4 (zDz (pv 0) (zAj (T:=["field"]) rfl ScOk.auto (zAb (pv 2)) (fun _ _ _ _=>zA8 (i:=4) (by decide +kernel:(["self", "name", "fields", "owner", "field"]:List Str).Nodup) rfl (Or.inl rfl)) (fun _ _ _ _=>zAt)
    (fun _ _ _ _=>zAw (zA0 (zAu (r:=rIxT K) zBu (pv 4) zA7 (fun _ _=>rfl)) (zA0 (zAx (r:=fun xs H Q=>∃ p ys,xs=[.ref p]∧(SqL K H p ys∨SqT K H p ys)∧∀ l,H l=none→Q (.ref l) (upd H l (.lst ys))) zCt rfl T.list PyProof.Rows.boot_list (zA0 (zAu (r:=rIxT K) zBu (pv 4) zA7 (fun _ _=>rfl)) zA3)) zA3)))) rfl)
   (zA6 (zDz (pv 0) (pv 3) rfl))))))),?_⟩
  refine ⟨_,rfl,_,.str n,rfl,.str n hn1 hn2,fun H1 s1=>⟨_,rfl,?_⟩⟩;rw [show nameD (.str n)=true from hn3];refine iteF ⟨_,rfl,_,.list ds,rfl,hf.mono s1,fun H2 s2=>⟨_,rfl,?_⟩⟩;rw [hfb];have s12:=s1.trans s2;refine iteF ?_;have fb:ds.all pairB=true∧unlikeB (ds.map firstD)=true:=by
   have z:(ds.all pairB && unlikeB (ds.map firstD))=true:=hfb;rw [Zu] at z;exact z
  have sh:vo=V.non∨∃ o,vo=V.str o∧o.length≤1000∧PyData.strOk o=true∧nameB o=true∧¬ o=n:=by
   cases ho with
   | bl b=>cases hob
   | int i=>cases hob
   | lst _ _ _ _=>cases hob
   | tup _ _ _ _=>cases hob
   | non=>exact .inl rfl
   | str o o1 o2 =>
    have z:(nameB o && !decide (o=n))=true:=hob;rw [Zu] at z;exact .inr ⟨o,rfl,o1,o2,z.1,by simpa using z.2⟩
  refine' k_both (H1:=H) _ (fun k2=>_);rotate_left 2
  ·rcases sh with e | ⟨o,e,o1,o2,e1,e2⟩
   ·refine ⟨_,rfl,_,rfl,?_⟩;rw [decide_eq_true e];exact iteF (iteF (k2 H2 s12))
   ·refine ⟨_,rfl,_,rfl,?_⟩;rw [decide_eq_false (show ¬ vo=V.non by rw [e];intro z;cases z)];refine iteT ?_;refine ⟨_,rfl,vo,.str o,rfl,(by rw [e];exact .str o o1 o2),fun H3 s3=>⟨_,rfl,?_⟩⟩;rw [show nameD (.str o)=true from e1];refine iteF ⟨_,rfl,_,rfl,(by rw [e];rfl),_,rfl,?_⟩;rw [decide_eq_false (show ¬ vo=V.str n by rw [e];intro z;injection z with z;exact e2 z)];exact iteF (k2 H3 (s12.trans s3))
  ·intro H3 s3;refine ⟨_,rfl,_,ds,rfl,hf.mono s3,fb.1,_,_,rfl,rfl,_,rfl,?_⟩;refine ite2 (fun h=>absurd (of_decide_eq_true h) (by omega)) (fun _=>?_);refine ⟨_,rfl,_,rfl,p,C,dx,[],rfl,s3 _ _ hp,KC.cl,KC.nN,(by show 0 < 1000;decide),?_⟩;have fr:∀ (H':Hp) (o':HO),(∃ fs,H' p=some (.ins C dx fs))→∀ (a:Addr) (o:HO),Any a→isSeq o→H' a=some o→Any a∧(upd H' p o') a=some o:=by
    rintro H' o' ⟨fs,e⟩ a o _ hs q;refine ⟨trivial,?_⟩;rw [zA5]
    ·exact q
    ·rintro rfl;rw [e] at q;cases q;exact hs
   have hf4:Has Any (upd H3 p (.ins C dx (putF "name" (.str n) []))) vf (.list ds):=(hf.mono s3).frameS (fr _ _ ⟨_,s3 _ _ hp⟩);obtain ⟨a,xs,rfl,_,ha,hz,hx⟩:=hf4.list_inv;have hp4:(upd H3 p (.ins C dx (putF "name" (.str n) []))) p=some (.ins C dx (putF "name" (.str n) [])):=zA1;have k4:∀ b o,H b=some o→b≠p→(upd H3 p (.ins C dx (putF "name" (.str n) []))) b=some o:=fun b o e hb=>by rw [zA5 hb];exact s3 _ _ e
   have n4:∀ b,(upd H3 p (.ins C dx (putF "name" (.str n) []))) b=none→H b=none:=fun b e=>by
    cases q:H b with
    | none=>rfl
    | some o =>
     by_cases hb:b=p
     ·subst hb;rw [hp4] at e;cases e
     ·rw [k4 b o q hb] at e;cases e
   generalize upd H3 p (.ins C dx (putF "name" (.str n) []))=H4 at ha hx hp4 k4 n4 ⊢;refine ⟨_,rfl,a,rfl,⟨xs,SqL.of ha⟩,zAc (xs:=xs) (fun i ys H'=>Same H4 H'∧HasAll (fun a=>H a=none) H' ys (ds.take i)) ⟨Same.refl _,.nil⟩ (fun i ys H' q=>SqL.of (q.1 _ _ ha)) (fun i ys H' hi q=>?_) ?_ ?_⟩
   ·have:=q.2.length;have:=Zw i ds;have:=small1000 hz;have:=hx.length;omega
   ·rintro i x ys H' hi ⟨s5,hy⟩ N hN;obtain ⟨d,hd',hv⟩:=hx.get hi;obtain ⟨b,x0,y0,nd,l,vs,zs,rfl,_,hb,rfl,hnm,rfl,_,hl,hzl,hvs,_,hun⟩:=zEr hv (all_get fb.1 hd');have hnn:nameD nd=true:=by
     have z:=List.all_eq_true.mp (zDu fb.2) nd (List.mem_map.mpr ⟨_,Z3 hd',rfl⟩);exact z
    refine pick ?_;refine ⟨_,rfl,b,_,_,x0,rfl,rfl,SqT.of (s5 _ _ hb),rfl,_,rfl,b,_,_,_,rfl,rfl,SqT.of (s5 _ _ hb),rfl,l,zs,rfl,.inl (SqL.of (s5 _ _ hl)),fun l2 hl2=>⟨by show 2≤sizeLine;decide,fun t ht=>hN _ _ ⟨?_,?_⟩⟩⟩
    ·exact (s5.trans (Same.new hl2)).trans (Same.new ht)
    ·rw [Z4,hd'];have s6:Same H' (upd (upd H' l2 (.lst zs)) t (.tup [x0,.ref l2])):=(Same.new hl2).trans (Same.new ht);refine (hy.mono s6).snoc (.tup ?_ zA1 (by show 2≤1000;decide) (.cons (name_any hnm hnn) (.cons (.lst ?_ ?_ hzl (names_any hvs (zDu hun))) .nil)))
     ·exact n4 _ (s5.free ((Same.new (o:=.lst zs) hl2).free ht))
     ·exact n4 _ (s5.free hl2)
     ·exact (Same.new ht) _ _ zA1
   ·rintro ys H' ⟨s5,hy⟩ l hl;have ll:ys.length≤1000:=by
     have:=hy.length;have:=Zw xs.length ds;have:=hx.length;omega
    rw [hx.length,Za] at hy;have hp5:(upd H' l (.lst ys)) p=some (.ins C dx (putF "name" (.str n) [])):=(Same.new hl) _ _ (s5 _ _ hp4);refine ⟨_,rfl,p,C,dx,_,rfl,hp5,KC.cl,KC.nF,(by show 1 < 1000;decide),?_⟩;refine ⟨_,rfl,_,rfl,p,C,dx,_,rfl,zA1,KC.cl,KC.nO,(by have:=zC3 "fields" (V.ref l) (putF "name" (V.str n) []);have:(putF "name" (V.str n) []).length=1:=rfl;omega),?_⟩;refine k _ l zA1 ?_ fun b o e hb=>?_
    ·have h0:Has (fun a=>H a=none) (upd H' l (.lst ys)) (.ref l) (.list ds):=.lst (n4 _ (s5.free hl)) zA1 ll (hy.mono (Same.new hl));refine h0.frame fun b o g q=>⟨g,?_⟩;have hb:b≠p:=fun z=>by rw [z,hp] at g;cases g
     rw [zA5 hb,zA5 hb];exact q
    ·rw [zA5 hb,zA5 hb];exact (Same.new hl) _ _ (s5 _ _ (k4 b o e hb))
end
end My
namespace L2.W
open PySem My
noncomputable def nameOk (x:Str):Prop:=nameB x=true∧PyData.strOk x=true∧x.length≤8
structure ValsOk (vs:List Str):Prop where
 ne:0 < vs.length
 le:vs.length≤8
 nd:vs.Nodup
 ok:∀ x∈vs,nameOk x
noncomputable def fieldD (f:Str×List Str):PyData:=.tuple [.str f.1,.list (f.2.map .str)]
noncomputable def manyOf (fs:List (Str×List Str)):Nat:=fs.foldl (fun m f=>m * f.2.length) 1
structure FieldsOk (fs:List (Str×List Str)):Prop where
 le:fs.length≤3
 nd:(fs.map (·.1)).Nodup
 ok:∀ f∈fs,nameOk f.1∧ValsOk f.2
 many:manyOf fs≤8
theorem pickT {K:PySem.W.Frag}{A B:St→Hp→Prop}{σ : St}{H:Hp}{i j:Nat}{p:Addr}{x y:V} (hp:SqT K H p [x,y]) (h:A ((σ.set i (some x)).set j (some y)) H) :
  gTup K 2 (gCons (gName i) (gCons (gName j) gNil)) (.ref p) σ H fun σ2 H2=>tYes σ2 H2 fun b H3=>if b=true then A σ2 H3 else B σ2 H3:=by
 refine ⟨p,[x,y],rfl,hp,rfl,x,[y],rfl,y,[],rfl,rfl,?_⟩;show if true=true then A ((σ.set i (some x)).set j (some y)) H else B ((σ.set i (some x)).set j (some y)) H
 rw [if_pos rfl];exact h
theorem zB2 {G:Addr→Prop}{H:Hp}:∀ {ks:List Str},(∀ x∈ks,nameOk x)→HasAll G H (ks.map V.str) (ks.map .str)
 | [],_=>.nil
 | k :: r,h=>.cons (.str k (by have:=(h k Zd).2.2;omega) (h k Zd).2.1) (zB2 fun x hx=>h x (Z5 _ hx))
end L2.W
namespace L2.W
open PySem My
theorem zDw:∀ ks:List Str,strsOf (ks.map PyData.str)=ks
 | []=>rfl
 | k :: r=>by
  show k :: strsOf (r.map PyData.str)=k :: r;rw [zDw r]
theorem zD3 {ks:List Str} (h:∀ x∈ks,nameB x=true) (nd:ks.Nodup):unlikeB (ks.map PyData.str)=true:=by
 unfold unlikeB;rw [zDw,decide_eq_true nd,Bool.and_true,List.all_eq_true];intro d hd;obtain ⟨x,hx,rfl⟩:=List.mem_map.mp hd;exact h x hx
theorem fields_ok {fs:List (Str×List Str)} (ok:FieldsOk fs):fieldsB (.list (fs.map fieldD))=true∧countD (fs.map fieldD)≤8:=by
 constructor
 ·show ((fs.map fieldD).all pairB && unlikeB ((fs.map fieldD).map firstD))=true;have e1:(fs.map fieldD).all pairB=true:=by
   rw [List.all_eq_true];intro d hd;obtain ⟨f,hf,rfl⟩:=List.mem_map.mp hd;obtain ⟨_,v⟩:=ok.ok f hf;show (decide (0 < (f.2.map PyData.str).length) && unlikeB (f.2.map PyData.str))=true;rw [Z0,decide_eq_true v.ne,zD3 (fun x hx=>(v.ok x hx).1) v.nd];rfl
  have e2:(fs.map fieldD).map firstD=(fs.map (·.1)).map PyData.str:=by
   rw [Zo,Zo];rfl
  rw [e1,e2,zD3 _ ok.nd]
  ·rfl
  ·intro x hx;obtain ⟨f,hf,rfl⟩:=List.mem_map.mp hx;exact (ok.ok f hf).1.1
 ·have key:∀ (l:List (Str×List Str)) (m:Nat),(l.map fieldD).foldl (fun (m:Int) d=>m * (sizeD d:Int)) (m:Int)=((l.foldl (fun m f=>m * f.2.length) m:Nat):Int):=by
   intro l
   induction l with
   | nil=>intro m;rfl
   | cons f r ih =>
    intro m;rw [Zr,Y1,Y1,← ih];have:sizeD (fieldD f)=f.2.length:=by
     show (f.2.map PyData.str).length=_;rw [Z0]
    rw [this,Int.natCast_mul]
  have k1:=key fs 1;have k2:=ok.many;unfold countD;unfold manyOf at k2;have k3:((1:Nat):Int)=1:=rfl;rw [k3] at k1;rw [k1];omega
structure Row where
 name:Str
 fields:List (Str×List Str)
 owner:Option Str
structure RowsOk (rs:List Row):Prop where
 ne:0 < rs.length
 le:rs.length≤5
 nd:(rs.map (·.name)).Nodup
 ok:∀ r∈rs,nameOk r.name∧FieldsOk r.fields
 own:∀ (i:Nat) (r:Row) (o:Str),rs[i]? = some r→r.owner=some o→∃ (j:Nat) (r':Row),j < i∧rs[j]? = some r'∧r'.name=o
noncomputable def Ready (done:List Str) (r:Row):Prop:=r.name∉done∧∀ o,r.owner=some o→o∈done
noncomputable def Greedy (M:Row→Prop) (ord:List Str):Prop:=∀ (i:Nat) (n:Str),ord[i]? = some n→(∃ r,M r∧r.name=n∧Ready (ord.take i) r)∧∀ r,M r→Ready (ord.take i) r→¬ ltS r.name n
theorem Greedy.nil {M:Row→Prop}:Greedy M []:=fun i n h=>by simp at h
theorem Greedy.snoc {M:Row→Prop}{ord:List Str}{n:Str} (g:Greedy M ord) (h1:∃ r,M r∧r.name=n∧Ready ord r) (h2:∀ r,M r→Ready ord r→¬ ltS r.name n):Greedy M (ord++[n]):=by
 intro i m e;by_cases hi:i < ord.length
 ·have e':ord[i]? = some m:=by rwa [Zp hi] at e
  have t:(ord++[n]).take i=ord.take i:=List.take_append_of_le_length (Zq hi);rw [t];exact g i m e'
 ·have hi2:i=ord.length:=by
   have:=(List.getElem?_eq_some_iff.mp e).1;simp at this;omega
  subst hi2;have:n=m:=by simpa using e
  subst this;have t:(ord++[n]).take ord.length=ord:=by simp
  rw [t];exact ⟨h1,h2⟩
theorem Greedy.nodup {M:Row→Prop}{ord:List Str} (g:Greedy M ord):ord.Nodup:=by
 suffices h:∀ k,(ord.take k).Nodup by
  have:=h ord.length
  rwa [Za] at this
 intro k
 induction k with
 | zero=>simp
 | succ k ih =>
  cases e:ord[k]? with
  | none=>rw [Z4,e];simpa using ih
  | some n =>
   obtain ⟨⟨r,_,e1,r1⟩,_⟩:=g k n e;rw [Z4,e];refine List.nodup_append.mpr ⟨ih,by simp,fun a ha b hb=>?_⟩;have:b=n:=by simpa using hb
   rw [this];rintro rfl;exact r1.1 (e1 ▸ ha)
theorem Greedy.mem {M:Row→Prop}{ord:List Str} (g:Greedy M ord) {n:Str} (h:n∈ord):∃ r,M r∧r.name=n:=by
 obtain ⟨i,hi,e⟩:=Zv h;obtain ⟨⟨r,m,e1,_⟩,_⟩:=g i n (by rw [Z1 hi,e]);exact ⟨r,m,e1⟩
theorem zEd {α : Type} [DecidableEq α]:∀ {a b:List α},a.Nodup→(∀ x∈a,x∈b)→a.length≤b.length
 | [],_,_,_=>Zm _
 | x :: r,b,nd,h=>by
  have hx:=h x Zd;obtain ⟨n1,n2⟩:=List.nodup_cons.mp nd;have:=zEd (a:=r) (b:=b.erase x) n2 fun y hy=>(List.mem_erase_of_ne (by rintro rfl;exact n1 hy)).mpr (h y (Z5 _ hy));rw [List.length_erase_of_mem hx] at this;have:=List.length_pos_of_mem hx;simp;omega
theorem Greedy.le {rs:List Row}{ord:List Str} (g:Greedy (·∈rs) ord):ord.length≤rs.length:=by
 have:=zEd (b:=rs.map (·.name)) g.nodup fun n hn=>by
  obtain ⟨r,m,e⟩:=g.mem hn;exact List.mem_map.mpr ⟨r,m,e⟩
 rwa [Z0] at this
theorem progress {rs:List Row} (ok:RowsOk rs) {ord:List Str} (h:ord.length < rs.length):∃ r∈rs,Ready ord r:=by
 have ex:∃ (i:Nat) (r:Row),rs[i]? = some r∧r.name∉ord:=Classical.byContradiction fun hn=>by
  have:=zEd (b:=ord) ok.nd fun n hm=>by
   obtain ⟨r,hr,rfl⟩:=List.mem_map.mp hm;obtain ⟨i,hi,e⟩:=Zv hr;exact Classical.byContradiction fun k=>hn ⟨i,r,by rw [Z1 hi,e],k⟩
  rw [Z0] at this;omega
 obtain ⟨i,r,hi,hr⟩:=ex;revert r
 induction i using Nat.strongRecOn with
 | _ i ih =>
  intro r hi hr;by_cases c:∀ o,r.owner=some o→o∈ord
  ·exact ⟨r,Z3 hi,hr,c⟩
  ·have:∃ o,r.owner=some o∧o∉ord:=Classical.byContradiction fun k=>c fun o e=>Classical.byContradiction fun m=>k ⟨o,e,m⟩;obtain ⟨o,e,no⟩:=this;obtain ⟨j,r',hj,e1,e2⟩:=ok.own i r o hi e;exact ih j hj r' e1 (by rw [e2];exact no)
theorem RowsOk.one {rs:List Row} (ok:RowsOk rs) {r r':Row} (h:r∈rs) (h':r'∈rs) (e:r.name=r'.name):r=r':=by
 obtain ⟨i,hi,ei⟩:=Zv h;obtain ⟨j,hj,ej⟩:=Zv h';have a:(rs.map (·.name))[i]? = some r.name:=by simp [Z1 hi,ei]
 have b:(rs.map (·.name))[j]? = some r.name:=by simp [Z1 hj,ej,e]
 have:=zEv ok.nd a b;subst this;rw [← ei,← ej]
theorem RowsOk.owner {rs:List Row} (ok:RowsOk rs) {r:Row}{o:Str} (h:r∈rs) (e:r.owner=some o):nameOk o∧o≠r.name∧∃ r'∈rs,r'.name=o:=by
 obtain ⟨i,hi,ei⟩:=Zv h;have gi:rs[i]? = some r:=by rw [Z1 hi,ei]
 obtain ⟨j,r',hj,e1,rfl⟩:=ok.own i r o gi e;have m:=Z3 e1;refine ⟨(ok.ok r' m).1,fun k=>?_,r',m,rfl⟩;have a:(rs.map (·.name))[i]? = some r.name:=by simp [gi]
 have b:(rs.map (·.name))[j]? = some r.name:=by simp [e1,k]
 have:=zEv ok.nd a b;omega
end L2.W
namespace L2.W
open PySem My
structure KIsi (K:PySem.W.Frag) (C:Addr):Prop where
 ha:PySem.W.findIn K (.ref C) "__class__" = some (some (.builtin "object.__class__"))
 hn:PySem.W.specialIn K (.builtin "object.__class__") "__get__" = some (some (.builtin "getset_descriptor.__get__"))
 htk:PySem.W.takesIn K (.builtin "object.__class__")=some true
 hm:PySem.W.mroIn K C (.type "object")=some true
 one:PySem.W.kitOne K (.ref C) (.ref C)=some true
noncomputable def ownV:Option Str→V
 | none=>.non
 | some o=>.str o
noncomputable def KindO (C:Addr) (H:Hp) (p:Addr) (r:Row):Prop:=∃ dx l,H p=some (.ins C dx (kflds (.str r.name) (.ref l) (ownV r.owner)))
noncomputable abbrev KL (C:Addr) (H:Hp):List Addr→List Row→Prop:=Paired fun p r=>KindO C H p r
theorem zCm {α β : Type}{R : α→β→Prop}:∀ {l:List α}{m:List β}{i:Nat}{a : α},Paired R l m→l[i]? = some a→∃ b,m[i]? = some b∧R a b
 | _,_,_,_,.nil,e=>by simp at e
 | _,_,0,a,.cons r _,e=>by
  simp at e;subst e;exact ⟨_,rfl,r⟩
 | _,_,i + 1,a,.cons _ t,e=>by
  obtain ⟨b,h1,h2⟩:=zCm (i:=i) (a:=a) t (by simpa using e);exact ⟨b,by simpa using h1,h2⟩
theorem KindO.mono {C:Addr}{H H':Hp}{p:Addr}{r:Row} (h:KindO C H p r) (k:∀ b o,H b=some o→(∃ C dx fs,o=.ins C dx fs)→H' b=some o):KindO C H' p r:=by
 obtain ⟨dx,l,e⟩:=h;exact ⟨dx,l,k _ _ e ⟨_,_,_,rfl⟩⟩
noncomputable def RowsP (rs:List Row):Prop:=∃ rs0,RowsOk rs0∧rs.Perm rs0
theorem RowsP.nd {rs:List Row} (h:RowsP rs):(rs.map (·.name)).Nodup:=by
 obtain ⟨r0,ok,p⟩:=h;exact (p.map _).nodup_iff.mpr ok.nd
theorem RowsP.le {rs:List Row} (h:RowsP rs):0 < rs.length∧rs.length≤5:=by
 obtain ⟨r0,ok,p⟩:=h;have:=p.length_eq;have:=ok.ne;have:=ok.le;omega
theorem RowsP.ok {rs:List Row} (h:RowsP rs):∀ r∈rs,nameOk r.name∧FieldsOk r.fields:=by
 obtain ⟨r0,ok,p⟩:=h;exact fun r hr=>ok.ok r (p.mem_iff.mp hr)
theorem RowsP.one {rs:List Row} (h:RowsP rs) {r r':Row} (a:r∈rs) (b:r'∈rs) (e:r.name=r'.name):r=r':=by
 obtain ⟨r0,ok,p⟩:=h;exact ok.one (p.mem_iff.mp a) (p.mem_iff.mp b) e
theorem RowsP.progress {rs:List Row} (h:RowsP rs) {ord:List Str} (hl:ord.length < rs.length):∃ r∈rs,Ready ord r:=by
 obtain ⟨r0,ok,p⟩:=h;obtain ⟨r,hr,q⟩:=L2.W.progress ok (ord:=ord) (by rw [← p.length_eq];exact hl);exact ⟨r,p.mem_iff.mpr hr,q⟩
noncomputable def spAreKinds (C:Addr):Sp:=fun vs H Q _=>∃ (l:Addr) (ps:List Addr) (rs:List Row),vs=[.ref l]∧H l=some (.lst (ps.map V.ref))∧KL C H ps rs∧RowsP rs∧∀ H',Same H H'→Q (.bl true) H'
section
variable {P:Program}{w:World}{K:PySem.W.Frag}{mg:Str→Option Value}{base:Heap}{CX:CXT}
theorem scAk:FnScope ["things"] ["things"] (defScope sAreKinds):=⟨rfl,rfl,rfl,by decide +kernel,rfl,by decide +kernel,by decide +kernel⟩
theorem ok_areKinds {f fu fn C fI:Addr}{fd fdu fdn:FuncData} (hC:Calm CX) (T:Tops K mg) (KC:KCls K mg C fI) (KI:KIsi K C) (F:Fun K "are_kinds" "are_kinds" sAreKinds f fd) (DN:Def K mg "is_name" sIsName ["thing"] fn fdn)
  (DU:Def K mg "are_unlike_names" sUnlike ["things"] fu fdu):FnOk P w K mg base CX 3 f fd ["things"] (spAreKinds C):=by
 have GU:FnOk P w K mg base CX 2 fu fdu ["things"] spUnlike:=zDc hC T DU.fn DN;refine Fun.okC F scAk (fun vs H Q E h=>?_) (fun cdv A outer s H vs Q E hr h=>?_)
 ·obtain ⟨l,ps,rs,rfl,_⟩:=h;rfl
 ·obtain ⟨l,ps,rs,rfl,hl,hk,rp,k⟩:=h
  refine ⟨_,zA4 (zBg (PW.pt (zEg (zBe (zBd (zAd zB4 rfl T.isinst PyProof.Rows.boot_isinstance (zA0 (pv 0) (zA0 (zC1 (v:=.ty "list") rfl T.list PyProof.Rows.boot_list rfl) zA3)))))
    (zC7 (zAz op_eq (zAd zAq rfl T.len PySem.boot_len (zA0 (pv 0) zA3)) zA7 (nomark _))))) (zA6 (zAg zDr)) zAl)
   (zA4 (zBg (zBe (zBd (zAd (zD1 rfl) rfl T.all PyProof.Rows.boot_all (zA0 (zAj (T:=["thing"]) rfl ScOk.auto (zAb (pv 0)) (fun _ _ _ _=>zA8 (i:=1) (by decide +kernel:(["things", "thing"]:List Str).Nodup) rfl (Or.inl rfl)) (fun _ _ _ _=>zAt)
    (fun _ _ _ _=>zAd (call_isinstK (K:=K) rfl) rfl T.isinst PyProof.Rows.boot_isinstance (zA0 (pv 1) (zA0 (zCl (v:=.ref C) rfl KC.mgC rfl) zA3)))) zA3)))) (zA6 (zAg zDr)) zAl)
   (zA6 (zAg (zA9 GU hr rfl DU.at_ DU.fn.kp DU.bind .nil (passC hC) (zA0 (zAj (T:=["kind"]) rfl ScOk.auto (zAb (pv 0)) (fun _ _ _ _=>zA8 (i:=1) (by decide +kernel:(["things", "kind"]:List Str).Nodup) rfl (Or.inl rfl)) (fun _ _ _ _=>zAt)
    (fun _ _ _ _=>zBr (K:=K) rfl (pv 1) rfl)) zA3))))),?_⟩
  have len:ps.length=rs.length:=Paired.length hk;obtain ⟨l0,l5⟩:=rp.le;have small:∀ n:Nat,n≤1000→n≤sizeLine:=fun n h=>Zq (small1000 h);refine ⟨_,rfl,_,_,_,_,_,rfl,.lst hl,rfl,rfl,_,rfl,iteF ?_⟩;refine ⟨_,rfl,l,_,rfl,.inl (SqL.of hl),rfl,_,rfl,?_⟩;rw [decide_eq_false (show ¬ V.int ((ps.map V.ref).length:Int)=V.int 0 by intro z0;injection z0 with z0;rw [Z0] at z0;omega)];refine iteF ?_;refine ⟨_,rfl,l,rfl,⟨_,SqL.of hl⟩,zAc (xs:=ps.map V.ref) (fun i ys H'=>H=H'∧ys=(List.replicate i true).map V.bl) ⟨rfl,rfl⟩ (fun i ys H' p=>by rw [← p.1];exact SqL.of hl) (fun i ys H' hi p=>?_) ?_ ?_⟩
  ·rw [p.2,Z0,List.length_replicate];rw [Z0] at hi;exact small _ (by omega)
  ·rintro i x ys H' hi ⟨rfl,rfl⟩ N hN;rw [Z6] at hi;cases ep:ps[i]? with
   | none=>rw [ep] at hi;cases hi
   | some p =>
    rw [ep] at hi;cases hi;obtain ⟨r,er,dx,lf,e⟩:=zCm hk ep;refine pick ?_;refine ⟨_,rfl,_,_,_,_,_,rfl,.ins e KC.cl KI.ha KI.hn KI.htk KI.hm,rfl,KI.one,hN _ _ ⟨rfl,?_⟩⟩;rw [List.replicate_succ',Z9];rfl
  ·rintro ys H' ⟨rfl,rfl⟩ q hq;rw [Z0];have s1:Same H (upd H q (.lst ((List.replicate ps.length true).map V.bl))):=Same.new hq;refine ⟨q,List.replicate ps.length true,rfl,SqL.of zA1,_,rfl,?_⟩;have ea:(List.replicate ps.length true).all id=true:=by simp
   rw [ea];refine iteF ?_;generalize upd H q (.lst ((List.replicate ps.length true).map V.bl))=H2 at s1 ⊢;refine ⟨_,rfl,l,rfl,⟨_,SqL.of (s1 _ _ hl)⟩,zAc (xs:=ps.map V.ref) (fun i ys H'=>H2=H'∧ys=((rs.take i).map (·.name)).map V.str) ⟨rfl,rfl⟩ (fun i ys H' p=>by rw [← p.1];exact SqL.of (s1 _ _ hl)) (fun i ys H' hi p=>?_) ?_ ?_⟩
   ·rw [p.2,Z0,Z0];have:(rs.take i).length≤rs.length:=by rw [Zt];omega
    exact small _ (by omega)
   ·rintro i x ys H' hi ⟨rfl,rfl⟩ N hN;rw [Z6] at hi;cases ep:ps[i]? with
    | none=>rw [ep] at hi;cases hi
    | some p =>
     rw [ep] at hi;cases hi;obtain ⟨r,er,dx,lf,e⟩:=zCm hk ep;refine pick ?_;refine ⟨_,rfl,p,C,dx,_,_,rfl,s1 _ _ e,KC.cl,KC.nN,zDi _ _ _,hN _ _ ⟨rfl,?_⟩⟩;rw [Z4,er,Z9,Z9];rfl
   ·rintro ys H' ⟨rfl,rfl⟩ q2 hq2;rw [Z0,len,Za];refine ⟨_,(rs.map (·.name)).map PyData.str,rfl,.lst trivial zA1 (by rw [Z0,Z0];omega) (zB2 fun x hx=>?_),fun H4 s4=>?_⟩
    ·obtain ⟨r,hr,rfl⟩:=List.mem_map.mp hx;exact (rp.ok r hr).1
    ·rw [zD3 (fun x hx=>?_) rp.nd]
     ·exact k _ (s1.trans ((Same.new hq2).trans s4))
     ·obtain ⟨r,hr,rfl⟩:=List.mem_map.mp hx;exact (rp.ok r hr).1.1
end
end L2.W
namespace L2.W
open PySem My
noncomputable def lamPos:Pos:=⟨68,31,68,53⟩
noncomputable def lamQ:Str:=(("placed_by_owners" : Str)++".<locals>.")++"<lambda>"
noncomputable def readyB (done:List Str) (r:Row):Bool:=decide (r.name∉done) && (match r.owner with | none=>true | some o=>decide (o∈done))
theorem readyB_iff {done:List Str}{r:Row}:readyB done r=true ↔ Ready done r:=by
 unfold readyB Ready;cases r.owner with
 | none=>simp
 | some o=>simp
noncomputable abbrev Placed (zs:List (Addr×Row)):List Str→List (Key×V)→Prop:=Paired fun n kv=>∃ q∈zs,kv=(Sum.inr n,V.ref q.1)∧q.2.name=n
theorem Placed.val {zs:List (Addr×Row)}:∀ {ord:List Str}{kvs:List (Key×V)},Placed zs ord kvs→∀ n:Str,(valV kvs (Sum.inr n)).isSome=decide (n∈ord)
 | _,_,.nil,n=>by simp [valV]
 | m :: ord,kv :: kvs,.cons r t,n=>by
  obtain ⟨q,_,rfl,e⟩:=r;by_cases c:m=n
  ·rw [zC5 (by rw [c])];simp [c]
  ·rw [zC6 (by intro z;exact c (Sum.inr.inj z)),Placed.val t n];simp [Ne.symm c]
theorem zDa {α β : Type}{R : α→β→Prop}:∀ {l:List α}{m:List β}{a : α}{b : β},Paired R l m→R a b→Paired R (l++[a]) (m++[b])
 | _,_,_,_,.nil,r=>.cons r .nil
 | _,_,_,_,.cons r t,q=>.cons r (zDa t q)
theorem putK_new {kvs:List (Key×V)}{k:Key}{v:V} (h:(valV kvs k).isSome=false):putK kvs k v=kvs++[(k,v)]:=by
 unfold putK;rw [zEa,h];rfl
structure Zs (C:Addr) (H:Hp) (zs:List (Addr×Row)):Prop where
 at_:∀ q∈zs,KindO C H q.1 q.2
 nd:(zs.map fun q=>q.2.name).Nodup
 le:zs.length≤50
theorem Zs.mono {C:Addr}{H H':Hp}{zs:List (Addr×Row)} (z:Zs C H zs) (k:∀ b o,H b=some o→(∃ C dx fs,o=.ins C dx fs)→H' b=some o):Zs C H' zs:=⟨fun q hq=>(z.at_ q hq).mono k,z.nd,z.le⟩
noncomputable def spPlaced (C Pt:Addr):Sp:=fun vs H Q _=>∃ (l:Addr) (zs:List (Addr×Row)),vs=[.ref l]∧H l=some (.lst (zs.map fun q=>V.ref q.1))∧Zs C H zs∧TabOk H Pt lamPos lamQ ∧
 ∀ (d:Addr) (ord:List Str) (kvs:List (Key×V)) (H':Hp),H d=none→H' d=some (.dK kvs)→Placed zs ord kvs→Greedy (·∈zs.map (·.2)) ord→(∀ r∈zs.map (·.2),¬ Ready ord r)→TabOk H' Pt lamPos lamQ→GrownBut Pt H H'→Q (.ref d) H'
theorem _root_.L2.GrownBut.trans {P:Addr}{a b c:Hp} (x:GrownBut P a b) (y:GrownBut P b c):GrownBut P a c:=fun p o e n=>y p o (x p o e n) n
theorem _root_.L2.GrownBut.same {P:Addr}{a b:Hp} (x:Same a b):GrownBut P a b:=fun p o e _=>x p o e
theorem _root_.L2.TabOk.same {H H':Hp}{P:Addr}{pos:Pos}{q:Str} (T:TabOk H P pos q) (k:Same H H'):TabOk H' P pos q:=T.stay k
theorem _root_.L2.TabOk.upd {H:Hp}{P:Addr}{pos:Pos}{q:Str}{p:Addr}{u o:HO} (T:TabOk H P pos q) (hp:H p=some u) (h1:∀ ps,u≠.tbl ps) (h2:∀ f,u≠.ext f):TabOk (upd H p o) P pos q :=
 T.but hp h1 h2 fun b x e nb=>by rw [zA5 nb];exact e
theorem zBm {zs:List (Addr×Row)}{i:Nat}{q:Addr×Row} (p:Addr×Row→Bool) (h:zs[i]? = some q):(zs.take (i + 1)).filter p=if p q=true then (zs.take i).filter p++[q] else (zs.take i).filter p:=by
 rw [Z4,h,Y2];cases e:p q <;> simp [e]
section
variable {P:Program}{w:World}{K:PySem.W.Frag}{mg:Str→Option Value}{base:Heap}{CX:CXT}
theorem scPl:FnScope ["kinds", "placed", "ready", "first"] ["kinds"] (defScope sPlaced):=⟨rfl,rfl,rfl,by decide +kernel,rfl,by decide +kernel,by decide +kernel⟩
theorem ok_placed {f C fI c Pt:Addr}{fd:FuncData} (hC:Calm CX) (T:Tops K mg) (KC:KCls K mg C fI) (LT:LamTxt K mg base c Pt) (F:FunL K "placed_by_owners" "placed_by_owners" sPlaced f fd c):FnOk P w K mg base CX 4 f fd ["kinds"] (spPlaced C Pt):=by
 refine FunL.okC F scPl (fun vs H Q E h=>?_) (fun A outer s H vs Q E hr h=>?_)
 ·obtain ⟨l,zs,rfl,_⟩:=h;rfl
 ·obtain ⟨l,zs,rfl,hl,hz,hT,k⟩:=h;have nd:=scPl.nd;have hr2:=hr.mono (show 2≤3 by decide);have hu:=hu_of hr
  refine ⟨_,zA4 (zAa (i:=1) nd rfl (Or.inr rfl) zEn)
   (zA4 (zB8 (T:=["kind"]) (i:=2) rfl ScOk.auto (zAb (pv 0)) (fun _ _ _ _=>zA8 (i:=4) (by decide +kernel:(["kinds", "placed", "ready", "first", "kind"]:List Str).Nodup) rfl (Or.inl rfl))
    (fun _ _ _ _=>zE0 (zBp (pc_isN (zBr (K:=K) rfl (pv 4) rfl)))) (fun _ _ _ _=>pv 4) nd rfl rfl rfl)
   (zA4 (zCy PassesOwn.never (zEi (pv 2) (fun _=>rfl))
    (zA4 (zAa (i:=3) nd rfl (Or.inl rfl) (zD7 LT rfl hr2 rfl rfl T.min (zA0 (pv 2) zA3) (by exact ⟨rfl,rfl,rfl,by decide +kernel,rfl⟩)))
    (zA4 (ps_dput hu (pv 1) (zBs (pv 3) rfl) (pv 3) rfl)
    (zA6 (zB8 (T:=["kind"]) (i:=2) rfl ScOk.auto (zAb (pv 0)) (fun _ _ _ _=>zA8 (i:=4) (by decide +kernel:(["kinds", "placed", "ready", "first", "kind"]:List Str).Nodup) rfl (Or.inl rfl))
     (fun _ _ _ _=>zE0 (PW.pt (pw_and (zBp (zBt hu (zBr (K:=K) rfl (pv 4) rfl) (pv 1))) (zEh (PW.pt (zEg (zBp (pc_isN (zBr (K:=K) rfl (pv 4) rfl))) (zC7 (zBp (pc_din hu (zBr (K:=K) rfl (pv 4) rfl) (pv 1)))))))))) (fun _ _ _ _=>pv 4) nd rfl rfl rfl)))))
   (zA6 (zAg (pv 1))))),?_⟩
  have small:∀ n:Nat,n≤1000→n≤sizeLine:=fun n h=>Zq (small1000 h);have flen:∀ (p:Addr×Row→Bool) (i:Nat),((zs.take i).filter p).length≤50:=fun p i=>by
   have h1:=Y9 p (zs.take i);have h2:(zs.take i).length≤zs.length:=by rw [Zt];omega
   have:=hz.le;omega
  intro d hd;have g0:Same H (upd H d (.dK [])):=Same.new hd;have e0:(upd H d (.dK [])) d=some (.dK []):=zA1;generalize upd H d (.dK [])=H0 at g0 e0 ⊢;refine ⟨_,rfl,l,rfl,⟨_,SqL.of (g0 _ _ hl)⟩,zAc (xs:=zs.map fun q=>V.ref q.1) (fun i ys H'=>H0=H'∧ys=((zs.take i).filter (fun q=>readyB [] q.2)).map fun q=>V.ref q.1) ⟨rfl,rfl⟩ (fun i ys H' p=>by rw [← p.1];exact SqL.of (g0 _ _ hl)) (fun i ys H' hi p=>?_) ?_ ?_⟩
  ·rw [p.2,Z0];exact small _ (Zk (flen _ i) (by decide))
  ·rintro i x ys H' hi ⟨rfl,rfl⟩ N hN;rw [Z6] at hi;cases ep:zs[i]? with
   | none=>rw [ep] at hi;cases hi
   | some q =>
    rw [ep] at hi;cases hi;obtain ⟨dx,lf,e⟩:=hz.at_ q (Z3 ep);refine ⟨_,rfl,q.1,C,dx,_,_,rfl,g0 _ _ e,KC.cl,KC.nO,zCd _ _ _,_,rfl,?_⟩;cases eo:q.2.owner with
    | none =>
     refine iteT ⟨_,rfl,hN _ _ ⟨rfl,?_⟩⟩;rw [zBm _ ep,if_pos (by simp [readyB,eo]),Z9];rfl
    | some o =>
     refine iteF (hN _ _ ⟨rfl,?_⟩);rw [zBm _ ep,if_neg (by simp [readyB,eo])]
  ·rintro ys H' ⟨rfl,rfl⟩ lr hlr;rw [Z0,Za];have g1:Same H (upd H0 lr (.lst ((zs.filter fun q=>readyB [] q.2).map fun q=>V.ref q.1))):=g0.trans (Same.new hlr);have e1:=(Same.new (o:=.lst ((zs.filter fun q=>readyB [] q.2).map fun q=>V.ref q.1)) hlr) _ _ e0
   refine ⟨fun m σ H2=>∃ ord kvs lr x,m=zs.length - ord.length∧σ = [some (.ref l),some (.ref d),some (.ref lr),x]∧H2 d=some (.dK kvs)∧Placed zs ord kvs∧Greedy (·∈zs.map (·.2)) ord ∧
    H2 lr=some (.lst ((zs.filter fun q=>readyB ord q.2).map fun q=>V.ref q.1))∧TabOk H2 Pt lamPos lamQ∧GrownBut Pt H H2,⟨_,[],[],lr,none,rfl,rfl,e1,.nil,.nil,zA1,hT.same g1,.same g1⟩,?_⟩
   clear g1 e1 hlr e0 g0;rintro m σ H2 ⟨ord,kvs,lr,x,rfl,rfl,hd2,hpl,hgr,hlr,hT2,hG⟩;have hk2:∀ q∈zs,∃ dx lf,H2 q.1=some (.ins C dx (kflds (.str q.2.name) (.ref lf) (ownV q.2.owner))):=fun q hq=>by
    obtain ⟨dx,lf,e⟩:=hz.at_ q hq;exact ⟨dx,lf,hG _ _ e (hT.ne e fun _ z=>nomatch z)⟩
   refine ⟨_,rfl,_,.inl ⟨_,SqL.of hlr,rfl⟩,?_⟩;generalize ets:(zs.filter fun q=>readyB ord q.2)=ts at hlr ⊢;have mts:∀ q,q∈ts ↔ q∈zs∧Ready ord q.2:=fun q=>by rw [← ets,List.mem_filter,readyB_iff]
   by_cases c:ts=[]
   ·subst c;refine iteF ⟨_,rfl,k d ord kvs H2 hd hd2 hpl hgr (fun r hr z=>?_) hT2 hG⟩;obtain ⟨q,hq,rfl⟩:=List.mem_map.mp hr;have:=(mts q).mpr ⟨hq,z⟩;cases this
   ·have pos:0 < ts.length:=List.length_pos_iff.mpr c;rw [show (!(ts.map fun q=>V.ref q.1).isEmpty)=true by cases ts with | nil=>exact absurd rfl c | cons _ _=>rfl];refine iteT ?_
    refine ⟨fun σ' H'=>∃ m',m' < zs.length - ord.length∧∃ ord kvs lr x,m'=zs.length - ord.length∧σ'=[some (.ref l),some (.ref d),some (.ref lr),x]∧H' d=some (.dK kvs)∧Placed zs ord kvs∧Greedy (·∈zs.map (·.2)) ord ∧
     H' lr=some (.lst ((zs.filter fun q=>readyB ord q.2).map fun q=>V.ref q.1))∧TabOk H' Pt lamPos lamQ∧GrownBut Pt H H',fun _ _ h=>h,?_⟩
    refine ⟨_,rfl,lr,_,ts.map (·.2.name),rfl,SqL.of hlr,(by rw [Z0];exact pos),hT2,(by rw [Z0,Z0]),fun i v kx hi hk=>?_,fun i v kx H3 hi hk hbest hT3 hG3=>?_⟩
    ·rw [Z6] at hi hk;cases ep:ts[i]? with
     | none=>rw [ep] at hi;cases hi
     | some q =>
      rw [ep] at hi hk;cases hi;cases hk;obtain ⟨dx,lf,e⟩:=hk2 q ((mts q).mp (Z3 ep)).1;exact ⟨q.1,C,dx,_,rfl,e,KC.cl,KC.nN,zDi _ _ _⟩
    ·rw [Z6] at hi hk;cases ep:ts[i]? with
     | none=>rw [ep] at hi;cases hi
     | some q =>
      rw [ep] at hi hk;cases hi;cases hk;obtain ⟨hq,hrd⟩:=(mts q).mp (Z3 ep);have hG3':=hG.trans hG3;have hk3:∀ q∈zs,∃ dx lf,H3 q.1=some (.ins C dx (kflds (.str q.2.name) (.ref lf) (ownV q.2.owner))):=fun q hq=>by
       obtain ⟨dx,lf,e⟩:=hz.at_ q hq;exact ⟨dx,lf,hG3' _ _ e (hT.ne e fun _ z=>nomatch z)⟩
      obtain ⟨dx,lf,e⟩:=hk3 q hq;have hd3:H3 d=some (.dK kvs):=hG3 _ _ hd2 (hT2.ne hd2 fun _ z=>nomatch z);have kl:kvs.length=ord.length:=(Paired.length hpl).symm;have ol:ord.length≤zs.length:=by have:=hgr.le;rwa [Z0] at this
      refine ⟨_,rfl,_,rfl,_,rfl,q.1,C,dx,_,_,rfl,e,KC.cl,KC.nN,zDi _ _ _,d,_,rfl,DPut.k (k:=Sum.inr q.2.name) hd3 (Yg (Zk (Nat.le_of_eq kl) (Zk ol hz.le)) (small1000 (by decide))),?_⟩;have vn:(valV kvs (Sum.inr q.2.name)).isSome=false:=by rw [hpl.val];simpa using hrd.1
      rw [putK_new vn];have hpl':Placed zs (ord++[q.2.name]) (kvs++[(Sum.inr q.2.name,V.ref q.1)]):=zDa hpl ⟨q,hq,rfl,rfl⟩;have hgr':Greedy (·∈zs.map (·.2)) (ord++[q.2.name]):=hgr.snoc ⟨q.2,List.mem_map.mpr ⟨q,hq,rfl⟩,rfl,hrd⟩ fun r hr hrr=>by
       obtain ⟨q',hq',rfl⟩:=List.mem_map.mp hr;exact hbest _ (List.mem_map.mpr ⟨q',(mts q').mpr ⟨hq',hrr⟩,rfl⟩)
      have ol':(ord++[q.2.name]).length≤zs.length:=by have:=hgr'.le;rwa [Z0] at this
      have lt:zs.length - (ord++[q.2.name]).length < zs.length - ord.length:=by
       rw [Z8] at ol' ⊢;simp at ol' ⊢;omega
      generalize ord++[q.2.name]=ord' at hpl' hgr' lt;have hd4:(upd H3 d (.dK (kvs++[(Sum.inr q.2.name,V.ref q.1)]))) d=some (.dK (kvs++[(Sum.inr q.2.name,V.ref q.1)])):=zA1;have hT4:TabOk (upd H3 d (.dK (kvs++[(Sum.inr q.2.name,V.ref q.1)]))) Pt lamPos lamQ:=hT3.upd hd3 (fun _ z=>nomatch z) (fun _ z=>nomatch z);have hG4:GrownBut Pt H (upd H3 d (.dK (kvs++[(Sum.inr q.2.name,V.ref q.1)]))):=fun b o e n=>by
       rw [zA5 (zA2 e hd)];exact hG3' b o e n
      generalize upd H3 d (.dK (kvs++[(Sum.inr q.2.name,V.ref q.1)]))=H4 at hd4 hT4 hG4 ⊢;generalize kvs++[(Sum.inr q.2.name,V.ref q.1)]=kvs' at hd4 hpl';clear hk2 hk3;have hk4:∀ q∈zs,∃ dx lf,H4 q.1=some (.ins C dx (kflds (.str q.2.name) (.ref lf) (ownV q.2.owner))):=fun q hq=>by
       obtain ⟨dx,lf,e⟩:=hz.at_ q hq;exact ⟨dx,lf,hG4 _ _ e (hT.ne e fun _ z=>nomatch z)⟩
      have hl4:=hG4 _ _ hl (hT.ne hl fun _ z=>nomatch z);refine ⟨_,rfl,l,rfl,⟨_,SqL.of hl4⟩,zAc (xs:=zs.map fun q=>V.ref q.1) (fun i ys H'=>H4=H'∧ys=((zs.take i).filter (fun q=>readyB ord' q.2)).map fun q=>V.ref q.1) ⟨rfl,rfl⟩ (fun i ys H' p=>by rw [← p.1];exact SqL.of hl4) (fun i ys H' hi p=>?_) ?_ ?_⟩
      ·rw [p.2,Z0];exact small _ (Zk (flen _ i) (by decide))
      ·rintro i x ys H' hi ⟨rfl,rfl⟩ N hN;rw [Z6] at hi;cases ep:zs[i]? with
       | none=>rw [ep] at hi;cases hi
       | some q =>
        rw [ep] at hi;cases hi;obtain ⟨dx,lf,e⟩:=hk4 q (Z3 ep);have no:readyB ord' q.2=false→((zs.take i).filter (fun q=>readyB ord' q.2)).map (fun q=>V.ref q.1)=((zs.take (i + 1)).filter (fun q=>readyB ord' q.2)).map fun q=>V.ref q.1:=fun z=>by rw [zBm _ ep,if_neg (by rw [z];simp)]
        have ye:readyB ord' q.2=true→((zs.take i).filter (fun q=>readyB ord' q.2)).map (fun q=>V.ref q.1)++[V.ref q.1]=((zs.take (i + 1)).filter (fun q=>readyB ord' q.2)).map fun q=>V.ref q.1:=fun z=>by rw [zBm _ ep,if_pos z,Z9];rfl
        refine ⟨_,rfl,q.1,C,dx,_,_,rfl,e,KC.cl,KC.nN,zDi _ _ _,_,rfl,d,_,rfl,DGet.k (k:=Sum.inr q.2.name) hd4,_,rfl,?_⟩;rw [hpl'.val];by_cases c1:q.2.name∈ord'
        ·rw [decide_eq_true c1];refine iteF (iteF (hN _ _ ⟨rfl,no ?_⟩));simp [readyB,c1]
        ·rw [decide_eq_false c1];refine iteT ⟨_,rfl,q.1,C,dx,_,_,rfl,e,KC.cl,KC.nO,zCd _ _ _,_,rfl,?_⟩;cases eo:q.2.owner with
         | none =>
          refine iteT (iteT ⟨_,rfl,hN _ _ ⟨rfl,ye ?_⟩⟩);simp [readyB,c1,eo]
         | some o =>
          have ev:(kflds (.str q.2.name) (.ref lf) (ownV q.2.owner)).lookup ("owner" : Str)=some (.str o):=by rw [zCd,eo];rfl
          refine iteF ⟨_,rfl,q.1,C,dx,_,_,rfl,e,KC.cl,KC.nO,ev,_,rfl,d,_,rfl,DGet.k (k:=Sum.inr o) hd4,_,rfl,?_⟩;rw [hpl'.val];by_cases c2:o∈ord'
          ·rw [decide_eq_true c2];refine iteT ⟨_,rfl,hN _ _ ⟨rfl,ye ?_⟩⟩;simp [readyB,c1,eo,c2]
          ·rw [decide_eq_false c2];refine iteF (hN _ _ ⟨rfl,no ?_⟩);simp [readyB,c1,eo,c2]
      ·rintro ys H' ⟨rfl,rfl⟩ lr' hlr';rw [Z0,Za];exact ⟨_,lt,ord',kvs',lr',_,rfl,rfl,(Same.new hlr') _ _ hd4,hpl',hgr',zA1,hT4.same (Same.new hlr'),hG4.trans (.same (Same.new hlr'))⟩
end
end L2.W
namespace L2.W
open PySem My
theorem call_len_dict {X:Cx}:CallR X (.builtin "len") (fun vs H Q=>∃ d kvs,vs=[.ref d]∧Rd H d (.dK kvs)∧Q (.int (kvs.length:Nat)) H):=by
 intro pins s σ H vs us Q I rv h;obtain ⟨d,kvs,rfl,rd,q⟩:=h;obtain ⟨u,rfl,ru⟩:=v1 rv;cases (show u=Value.ref d from ru);exact d_len I rd fun t s' I'=>⟨.int _,H,I',⟨t,rfl⟩,q⟩
structure KsCls (K:PySem.W.Frag) (mg:Str→Option Value) (CK fI fOr fOf fOw:Addr):Prop where
 cl:Cls K CK
 nB:NoAttr K CK "by_name"
 mgC:mg "Kinds" = some (.ref CK)
 mkd:Mk K CK fI
 mOr:Meth K CK "order" fOr
 mOf:Meth K CK "of" fOf
 mOw:Meth K CK "owned" fOw
noncomputable def ksF (d:V):List (Str×V):=putF "by_name" d []
theorem ks_by (d:V):(ksF d).lookup ("by_name" : Str)=some d:=by
 unfold ksF;rw [zAm,if_pos rfl]
theorem ks_no {m:Str} (d:V) (h:¬ m = "by_name"):(ksF d).lookup m=none:=by
 unfold ksF;rw [zAm,if_neg h];rfl
noncomputable def KindsAt (CK:Addr) (H:Hp) (p d:Addr) (kvs:List (Key×V)):Prop:=(∃ dx,H p=some (.ins CK dx (ksF (.ref d))))∧Rd H d (.dK kvs)
theorem KindsAt.mono {CK:Addr}{H H':Hp}{p d:Addr}{kvs:List (Key×V)} (h:KindsAt CK H p d kvs) (k:∀ b o,H b=some o→(∃ C dx fs,o=.ins C dx fs)∨(∃ kvs,o=.dK kvs)∨(∃ x u,o=.frz x u)→H' b=some o):KindsAt CK H' p d kvs:=by
 obtain ⟨⟨dx,e⟩,r⟩:=h;refine ⟨⟨dx,k _ _ e (.inl ⟨_,_,_,rfl⟩)⟩,?_⟩;rcases r with r | ⟨o,r⟩
 ·exact .inl (k _ _ r (.inr (.inl ⟨_,rfl⟩)))
 ·exact .inr ⟨o,k _ _ r (.inr (.inr ⟨_,_,rfl⟩))⟩
noncomputable def spInitKs (CK C Pt:Addr):Sp:=fun vs H Q _=>∃ (p dx l:Addr) (zs:List (Addr×Row)),vs=[.ref p,.ref l]∧H p=some (.ins CK dx [])∧H l=some (.lst (zs.map fun q=>V.ref q.1))∧Zs C H zs∧RowsP (zs.map (·.2))∧TabOk H Pt lamPos lamQ ∧
 ∀ (d:Addr) (ord:List Str) (kvs:List (Key×V)) (H':Hp),H' p=some (.ins CK dx (ksF (.ref d)))→H d=none→H' d=some (.dK kvs)→Placed zs ord kvs→Greedy (·∈zs.map (·.2)) ord→ord.length=zs.length→TabOk H' Pt lamPos lamQ →
  (∀ b o,H b=some o→b≠p→b≠Pt→H' b=some o)→Q .non H'
noncomputable def spOf (CK:Addr):Sp:=fun vs H Q _=>∃ (p d:Addr) (kvs:List (Key×V)) (n:Str) (v:V),vs=[.ref p,.str n]∧nameOk n∧KindsAt CK H p d kvs∧valV kvs (Sum.inr n)=some v∧∀ H',Same H H'→Q v H'
section
variable {P:Program}{w:World}{K:PySem.W.Frag}{mg:Str→Option Value}{base:Heap}{CX:CXT}
theorem scKs:FnScope ["self", "kinds", "placed"] ["self", "kinds"] (defScope sInitKs):=⟨rfl,rfl,rfl,by decide +kernel,rfl,by decide +kernel,by decide +kernel⟩
theorem ok_initKs {f fI fa fp fu fn C CK fIk fOr fOf fOw c Pt:Addr}{fd fda fdp fdu fdn:FuncData} (hC:Calm CX) (T:Tops K mg) (KC:KCls K mg C fI) (KI:KIsi K C) (KS:KsCls K mg CK fIk fOr fOf fOw) (LT:LamTxt K mg base c Pt) (F:Fun K "__init__" "Kinds.__init__" sInitKs f fd)
  (DN:Def K mg "is_name" sIsName ["thing"] fn fdn) (DU:Def K mg "are_unlike_names" sUnlike ["things"] fu fdu) (DA:Def K mg "are_kinds" sAreKinds ["things"] fa fda) (DP:FunL K "placed_by_owners" "placed_by_owners" sPlaced fp fdp c) (DPa:mg "placed_by_owners" = some (.ref fp)) (DPb:Binds K fdp ["kinds"] []) :
  FnOk P w K mg base CX 5 f fd ["self", "kinds"] (spInitKs CK C Pt):=by
 have GA:FnOk P w K mg base CX 3 fa fda ["things"] (spAreKinds C):=ok_areKinds hC T KC KI DA.fn DN DU;have GP:FnOk P w K mg base CX 4 fp fdp ["kinds"] (spPlaced C Pt):=ok_placed hC T KC LT DP;refine Fun.okC F scKs (fun vs H Q E h=>?_) (fun cdv A outer s H vs Q E hr h=>?_)
 ·obtain ⟨p,dx,l,zs,rfl,_⟩:=h;rfl
 ·obtain ⟨p,dx,l,zs,rfl,hp,hl,hz,rp,hT,k⟩:=h;have nd:=scKs.nd;have hr3:=hr.mono (show 3≤4 by decide)
  refine ⟨_,zA4 (zBg (zBe (zBd (zA9 GA hr3 rfl DA.at_ DA.fn.kp DA.bind .nil (passC hC) (zA0 (pv 1) zA3)))) zAs zAl)
   (zA4 (zAa (i:=2) nd rfl (Or.inl rfl) (zA9 GP hr rfl DPa DP.kp DPb .nil (passC hC) (zA0 (pv 1) zA3)))
   (zA4 (zBg (zAz op_lt (zAd call_len_dict rfl T.len PySem.boot_len (zA0 (pv 2) zA3)) (zAd zAq rfl T.len PySem.boot_len (zA0 (pv 1) zA3)) (nomark _)) zAs zAl)
   (zA6 (zDz (pv 0) (pv 2) rfl)))),?_⟩
  have kl:KL C H (zs.map (·.1)) (zs.map (·.2)):=by
   have:=hz.at_;clear hl hz rp k
   induction zs with
   | nil=>exact .nil
   | cons q t ih=>exact .cons (this q Zd) (ih fun q' h=>this q' (Z5 _ h))
  refine ⟨_,rfl,l,zs.map (·.1),zs.map (·.2),rfl,(by rw [Zo];exact hl),kl,rp,fun H1 s1=>⟨_,rfl,iteF ?_⟩⟩;refine ⟨_,rfl,l,zs,rfl,s1 _ _ hl,hz.mono fun b o e _=>s1 _ _ e,hT.same s1,fun d ord kvs H2 hd hd2 hpl hgr hno hT2 hG=>?_⟩;have nT:∀ {b:Addr}{o:HO},H b=some o→(∀ ps,o≠.tbl ps)→H2 b=some o:=fun e h=>hG _ _ (s1 _ _ e) (hT.ne e h);have full:ord.length=zs.length:=by
   have a:=hgr.le;rw [Z0] at a;refine Nat.le_antisymm a (Nat.le_of_not_lt fun lt=>?_);obtain ⟨r,hr,q⟩:=rp.progress (ord:=ord) (by rw [Z0];exact lt);exact hno r hr q
  have hp2:=nT hp fun _ z=>nomatch z;have hl2:=nT hl fun _ z=>nomatch z;refine ⟨_,rfl,d,kvs,rfl,.inl hd2,_,rfl,l,_,rfl,.inl (SqL.of hl2),_,_,rfl,rfl,_,rfl,?_⟩;have kvl:kvs.length=ord.length:=(Paired.length hpl).symm;refine ite2 (fun h=>absurd (of_decide_eq_true h) (by rw [Z0];omega)) (fun _=>?_);refine ⟨_,rfl,_,rfl,p,CK,dx,[],rfl,hp2,KS.cl,KS.nB,(by show 0 < 1000;decide),?_⟩;have dp:d≠p:=Ne.symm (zA2 (s1 _ _ hp) hd);refine k d ord kvs _ zA1 ?_ (by rw [zA5 dp];exact hd2) hpl hgr full (hT2.upd hp2 (fun _ z=>nomatch z) (fun _ z=>nomatch z)) fun b o e n1 n2=>?_
  ·exact s1.free hd
  ·rw [zA5 n1];exact hG _ _ (s1 _ _ e) n2
theorem scOf:FnScope ["self", "name"] ["self", "name"] (defScope sOf):=⟨rfl,rfl,rfl,by decide +kernel,rfl,by decide +kernel,by decide +kernel⟩
theorem rd_same {H H':Hp}{d:Addr}{u:HO} (s:Same H H') (r:Rd H d u):Rd H' d u:=by
 rcases r with r | ⟨o,r⟩
 ·exact .inl (s _ _ r)
 ·exact .inr ⟨o,s _ _ r⟩
theorem ok_of {f fn CK fIk fOr fOf fOw:Addr}{fd fdn:FuncData} (hC:Calm CX) (T:Tops K mg) (KS:KsCls K mg CK fIk fOr fOf fOw) (F:Fun K "of" "Kinds.of" sOf f fd) (DN:Def K mg "is_name" sIsName ["thing"] fn fdn):FnOk P w K mg base CX 2 f fd ["self", "name"] (spOf CK):=by
 have GN:FnOk P w K mg base CX 1 fn fdn ["thing"] spNameD:=zEu DN.fn T;refine Fun.okC F scOf (fun vs H Q E h=>?_) (fun cdv A outer s H vs Q E hr h=>?_)
 ·obtain ⟨p,d,kvs,n,v,rfl,_⟩:=h;rfl
 ·obtain ⟨p,d,kvs,n,v,rfl,nn,⟨⟨dx,hp⟩,rd⟩,hv,k⟩:=h;have hu:=hu_of hr
  refine ⟨_,zA4 (zBg (PW.pt (zEg (zBe (zBd (zA9 GN hr rfl DN.at_ DN.fn.kp DN.bind .nil (passC hC) (zA0 (pv 1) zA3)))) (zC7 (zBp (zBt hu (pv 1) (zBs (pv 0) rfl)))))) zAs zAl)
   (zA6 (zAg (zEo hu (zBs (pv 0) rfl) (pv 1) (fun _ _=>rfl)))),?_⟩
  refine ⟨_,rfl,_,.str n,rfl,.str n (Zk nn.2.2 (by decide)) nn.2.1,fun H1 s1=>⟨_,rfl,?_⟩⟩;rw [show nameD (.str n)=true from nn.1];refine iteF ⟨_,rfl,_,rfl,p,CK,dx,_,_,rfl,s1 _ _ hp,KS.cl,KS.nB,ks_by _,d,_,rfl,.inl ⟨kvs,Sum.inr n,rd_same s1 rd,rfl,rfl⟩,_,rfl,?_⟩;rw [hv];refine iteF ?_;exact ⟨_,rfl,p,CK,dx,_,_,rfl,s1 _ _ hp,KS.cl,KS.nB,ks_by _,_,rfl,d,v,rfl,.inl ⟨kvs,Sum.inr n,rd_same s1 rd,rfl,hv.symm⟩,k _ s1⟩
end
end L2.W
namespace L2.W
open PySem My
noncomputable def ownD:Option Str→PyData
 | none=>.none
 | some o=>.str o
noncomputable def rowD (r:Row):PyData:=.tuple [.str r.name,.list (r.fields.map fieldD),ownD r.owner]
structure RowsI (rs:List Row):Prop where
 ok:∀ r∈rs,nameOk r.name∧FieldsOk r.fields
 own:∀ (i:Nat) (r:Row) (o:Str),rs[i]? = some r→r.owner=some o→∃ (j:Nat) (r':Row),j < i∧rs[j]? = some r'∧r'.name=o
theorem RowsI.snoc {rs:List Row} (h:RowsI rs) {r:Row} (h1:nameOk r.name∧FieldsOk r.fields) (h2:∀ o,r.owner=some o→∃ (j:Nat) (r':Row),rs[j]? = some r'∧r'.name=o):RowsI (rs++[r]):=by
 refine ⟨fun q hq=>?_,fun i q o e eo=>?_⟩
 ·rcases List.mem_append.mp hq with hq | hq
  ·exact h.ok q hq
  ·rw [List.mem_singleton.mp hq];exact h1
 ·by_cases lt:i < rs.length
  ·rw [Zp lt] at e;obtain ⟨j,r',hj,e1,e2⟩:=h.own i q o e eo;exact ⟨j,r',hj,by rw [Zp (by omega)];exact e1,e2⟩
  ·have hi:i=rs.length:=by
    have:=(List.getElem?_eq_some_iff.mp e).1;simp at this;omega
   subst hi;have:r=q:=by simpa using e
   subst this;obtain ⟨j,r',e1,e2⟩:=h2 o eo;have hj:=(List.getElem?_eq_some_iff.mp e1).1;exact ⟨j,r',hj,by rw [Zp hj];exact e1,e2⟩
theorem zEs {G:Addr→Prop}{H:Hp}{o:Option Str} (h:∀ x,o=some x→nameOk x):Has G H (ownV o) (ownD o):=by
 cases o with
 | none=>exact .non
 | some x =>
  have:=h x rfl;exact .str x (Zk this.2.2 (by decide)) this.2.1
end L2.W
namespace L2.W
open PySem My
theorem zCe {G:Addr→Prop}{H:Hp}{v:V}{f:Str×List Str} (h:Has G H v (fieldD f)):∃ a l,v=.ref a∧H a=some (.tup [.str f.1,.ref l])∧H l=some (.lst (f.2.map V.str)):=by
 obtain ⟨a,xs,rfl,_,ha,_,hx⟩:=h.tup_inv;cases hx with
 | cons h1 hx =>
  cases hx with
  | cons h2 hx =>
   cases hx;obtain ⟨rfl,_⟩:=h1.str_inv;obtain ⟨l,ys,rfl,_,hl,_,hy⟩:=h2.list_inv;refine ⟨a,l,rfl,ha,?_⟩;rw [hl]
   congr 2
   clear hl h2 ha h;generalize f.2=vs at hy
   induction vs generalizing ys with
   | nil=>cases hy;rfl
   | cons x r ih =>
    cases hy with
    | cons q t =>
     obtain ⟨rfl,_⟩:=q.str_inv;rw [Zr,ih _ (by simp at *;omega) t]
theorem zBf {G:Addr→Prop}{H:Hp}{v:V}{r:Row} (h:Has G H v (rowD r)):∃ t lf,v=.ref t∧H t=some (.tup [.str r.name,.ref lf,ownV r.owner])∧Has G H (.ref lf) (.list (r.fields.map fieldD)):=by
 obtain ⟨t,xs,rfl,g,e,_,hx⟩:=h.tup_inv;cases hx with
 | cons h1 h2 =>
  cases h2 with
  | cons h3 h4 =>
   cases h4 with
   | @cons x _ _ _ h5 h6 =>
    cases h6;obtain ⟨rfl,_⟩:=h1.str_inv;obtain ⟨lf,ys,rfl,_⟩:=id h3.list_inv;have eo:x=ownV r.owner:=by
     cases er:r.owner with
     | none=>rw [er] at h5;cases h5;rfl
     | some o=>rw [er] at h5;exact h5.str_inv.1
    subst eo;exact ⟨t,lf,rfl,e,h3⟩
theorem init_ownF {C x dx:Addr}{H:Hp}{r:Row}{vf:V}{Q:VK}{E:XK} (hx:H x=none) (hdx:H dx=none) (ne:dx≠x) (hn:nameOk r.name) (hf:Has Any H vf (.list (r.fields.map fieldD))) (ok:FieldsOk r.fields) (ho:∀ o,r.owner=some o→nameOk o∧o≠r.name)
  (k:∀ H' l,Same H H'→H' x=some (.ins C dx (kflds (.str r.name) (.ref l) (ownV r.owner)))→Has (fun a=>H a=none) H' (.ref l) (.list (r.fields.map fieldD))→Q .non H') :
  spInit C (.ref x :: ([.str r.name,vf,ownV r.owner]++[])) (upd (upd H dx (.own x)) x (.ins C dx [])) Q E:=by
 have hx2:(upd H dx (.own x)) x=none:=by rw [zA5 ne.symm];exact hx
 have s:Same H (upd (upd H dx (.own x)) x (.ins C dx [])):=(Same.new hdx).trans (Same.new hx2);refine ⟨x,dx,vf,ownV r.owner,r.name,_,ownD r.owner,rfl,zA1,by have:=hn.2.2;omega,hn.2.1,hn.1,hf.mono s,(fields_ok ok).1,zEs fun o e=>(ho o e).1,?_,(fields_ok ok).2,fun H' l hp hl fr=>k H' l (fun b o e=>fr b o (s _ _ e) (zA2 e hx)) hp (hl.frame fun b o g e=>⟨s.free g,e⟩)⟩;cases eo:r.owner with
 | none=>rfl
 | some o =>
  obtain ⟨h1,h2⟩:=ho o eo;show (nameB o && !decide (o=r.name))=true;rw [h1.1,decide_eq_false h2];rfl
noncomputable def KF (C:Addr) (G:Addr→Prop) (H:Hp) (p:Addr) (r:Row):Prop:=∃ dx l,H p=some (.ins C dx (kflds (.str r.name) (.ref l) (ownV r.owner)))∧Has G H (.ref l) (.list (r.fields.map fieldD))
theorem KF.o {C:Addr}{G:Addr→Prop}{H:Hp}{p:Addr}{r:Row} (h:KF C G H p r):KindO C H p r:=let ⟨dx,l,e,_⟩:=h;⟨dx,l,e⟩
theorem KF.frame {C:Addr}{G G':Addr→Prop}{H H':Hp}{p:Addr}{r:Row} (h:KF C G H p r) (h1:∀ b o,H b=some o→(∃ C dx fs,o=.ins C dx fs)→H' b=some o) (h2:∀ b o,G b→isSeq o→H b=some o→G' b∧H' b=some o):KF C G' H' p r :=
 let ⟨dx,l,e,d⟩:=h
 ⟨dx,l,h1 _ _ e ⟨_,_,_,rfl⟩,d.frameS h2⟩
theorem RowsP.owner {rs:List Row} (h:RowsP rs) {r:Row}{o:Str} (hr:r∈rs) (e:r.owner=some o):nameOk o∧o≠r.name:=by
 obtain ⟨r0,ok,p⟩:=h;obtain ⟨a,b,_⟩:=ok.owner (p.mem_iff.mp hr) e;exact ⟨a,b⟩
noncomputable def spMade (CK C Pt:Addr):Sp:=fun vs H Q _=>∃ (l:Addr) (rs:List Row),vs=[.ref l]∧Has Any H (.ref l) (.list (rs.map rowD))∧RowsP rs∧TabOk H Pt lamPos lamQ ∧
 ∀ (q d:Addr) (ord:List Str) (kvs:List (Key×V)) (zs:List (Addr×Row)) (H':Hp),KindsAt CK H' q d kvs→H q=none→H d=none→Zs C H' zs→(∀ q∈zs,KF C (fun a=>H a=none) H' q.1 q.2)→zs.map (·.2)=rs→Placed zs ord kvs→Greedy (·∈rs) ord→ord.length=rs.length→TabOk H' Pt lamPos lamQ→GrownBut Pt H H'→Q (.ref q) H'
section
variable {P:Program}{w:World}{K:PySem.W.Frag}{mg:Str→Option Value}{base:Heap}{CX:CXT}
theorem scMa:FnScope ["_law_spec", "_law_some", "_law_name", "_law_fields", "_law_owner"] ["_law_spec"] (defScope sMade):=⟨rfl,rfl,rfl,by decide +kernel,rfl,by decide +kernel,by decide +kernel⟩
theorem ok_made {f C fI CK fIk fOr fOf fOw Pt:Addr}{fd fdI fdk:FuncData} (hC:Calm CX) (T:Tops K mg) (KC:KCls K mg C fI) (KS:KsCls K mg CK fIk fOr fOf fOw) (GK:FnOk P w K mg base CX 5 fI fdI ["self", "name", "fields", "owner"] (spInit C)) (bK:Binds K fdI ["self", "name", "fields", "owner"] [])
  (GS:FnOk P w K mg base CX 5 fIk fdk ["self", "kinds"] (spInitKs CK C Pt)) (bS:Binds K fdk ["self", "kinds"] []) (F:Fun K "_law_made" "_law_made" sMade f fd):FnOk P w K mg base CX 7 f fd ["_law_spec"] (spMade CK C Pt):=by
 refine Fun.okC F scMa (fun vs H Q E h=>?_) (fun cdv A outer s H vs Q E hr h=>?_)
 ·obtain ⟨l,rs,rfl,_⟩:=h;rfl
 ·obtain ⟨l,rs,rfl,hl,rp,hT,q⟩:=h;have nd:=scMa.nd
  refine ⟨_,zA4 (zAa (i:=1) nd rfl (Or.inl rfl) (zAe zA3))
   (zA4 (zB5 PassesOwn.never rfl (zAb (pv 0)) (zD6 rfl (zAh (zA8 (i:=2) nd rfl (Or.inl rfl)) (zAh (zA8 (i:=3) nd rfl (Or.inl rfl)) (zAh (zA8 (i:=4) nd rfl (Or.inl rfl)) zBk))))
    (zA6 (zB3 (zCv PySem.F.plainAttrs_list PySem.F.slot_list_append PySem.F.type_list_append zBi (pv 1) (zA0 (zEl KC.mkd GK hr rfl KC.mgC bK .nil (passC hC) (zA0 (pv 2) (zA0
     (zAj (T:=["_law_field", "_law_values"]) rfl ScOk.auto (zAb (pv 3)) (fun _ _ _ _=>zD5 (K:=K) (n:=2) rfl rfl (zAh (zA8 (i:=5) (by decide +kernel:(["_law_spec", "_law_some", "_law_name", "_law_fields", "_law_owner", "_law_field", "_law_values"]:List Str).Nodup) rfl (Or.inl rfl)) (zAh (zA8 (i:=6) (by decide +kernel:(["_law_spec", "_law_some", "_law_name", "_law_fields", "_law_owner", "_law_field", "_law_values"]:List Str).Nodup) rfl (Or.inl rfl)) zBk))) (fun _ _ _ _=>zAt)
      (fun _ _ _ _=>zAw (zA0 (pv 5) (zA0 (zAx (r:=fun xs H Q=>∃ p ys,xs=[.ref p]∧(SqL K H p ys∨SqT K H p ys)∧∀ l,H l=none→Q (.ref l) (upd H l (.lst ys))) zCt rfl T.list PyProof.Rows.boot_list (zA0 (pv 6) zA3)) zA3))))
     (zA0 (pv 4) zA3)))) zA3)))))
   (zA6 (zAg (zEl KS.mkd GS hr rfl KS.mgC bS .nil (passC hC) (zA0 (pv 1) zA3))))),?_⟩
  have small:∀ n:Nat,n≤1000→n≤sizeLine:=fun n h=>Zq (small1000 h);obtain ⟨l',xs,e,_,hl1,hz,hx⟩:=hl.list_inv;cases e;have xl:xs.length=rs.length:=by rw [hx.length,Z0]
  obtain ⟨r0,r5⟩:=rp.le;refine ⟨Zm _,fun lg fg=>?_⟩
  refine ⟨_,rfl,l,rfl,⟨_,SqL.of ((Same.new fg) _ _ hl1)⟩,zAy (K:=K) (a:=l) (xs:=xs) (fun i σ H2=>∃ (zs:List (Addr×Row)) (x2 x3 x4:Option V),σ = [some (.ref l),some (.ref lg),x2,x3,x4]∧H2 lg=some (.lst (zs.map fun q=>V.ref q.1))∧zs.map (·.2)=rs.take i∧(∀ q∈zs,KF C (fun a=>H a=none∧a≠lg) H2 q.1 q.2)∧Same H H2)
   ⟨[],none,none,none,rfl,zA1,rfl,(fun q h=>nomatch h),Same.new fg⟩ (fun i σ H2 _ ⟨_,_,_,_,_,_,_,_,s2⟩=>SqL.of (s2 _ _ hl1)) ?_ ?_⟩
  ·rintro i x σ H2 hi ⟨zs,x2,x3,x4,rfl,hg2,hzs,hk2,s2⟩;obtain ⟨dd,hdd,hv⟩:=hx.get hi;rw [Z6] at hdd;cases er:rs[i]? with
   | none=>rw [er] at hdd;cases hdd
   | some r =>
    rw [er] at hdd;cases hdd;have mr:=Z3 er;obtain ⟨onm,ofs⟩:=rp.ok r mr;obtain ⟨t,lf,rfl,ht,hf⟩:=zBf hv;have hf2:=hf.mono s2;obtain ⟨lf',fs,e,_,hlf,hlz,hfx⟩:=hf2.list_inv;cases e;have zl:zs.length≤i:=by
     have:=congrArg List.length hzs;rw [Z0,Zt] at this;omega
    have il:i < rs.length:=(List.getElem?_eq_some_iff.mp er).1;refine ⟨t,_,rfl,SqT.of (s2 _ _ ht),rfl,_,_,rfl,_,_,rfl,_,_,rfl,rfl,?_⟩;refine ⟨_,rfl,.inl ⟨rfl,_,SqL.of hg2⟩,_,rfl,_,rfl,lf,rfl,⟨_,SqL.of hlf⟩,zAc (xs:=fs) (fun j ys H'=>Same H2 H'∧HasAll Any H' ys ((r.fields.take j).map fieldD)) ⟨Same.refl _,.nil⟩ (fun j ys H' z=>SqL.of (z.1 _ _ hlf)) (fun j ys H' hj z=>?_) ?_ ?_⟩
    ·have:=z.2.length;rw [Z0] at this;have:=Zl j r.fields;have:=ofs.le;exact small _ (by omega)
    ·rintro j y ys H' hj ⟨s6,hy⟩ N hN;obtain ⟨d,hd,hv⟩:=hfx.get hj;rw [Z6] at hd;cases ef:r.fields[j]? with
     | none=>rw [ef] at hd;cases hd
     | some f =>
      rw [ef] at hd;cases hd;obtain ⟨b,lv,rfl,hb,hlv⟩:=zCe hv;refine pickT (SqT.of (s6 _ _ hb)) ?_;obtain ⟨okn,okv⟩:=ofs.ok f (Z3 ef);refine ⟨_,rfl,_,rfl,lv,_,rfl,.inl (SqL.of (s6 _ _ hlv)),fun l3 hl3=>⟨by show 2≤sizeLine;exact small 2 (by decide),fun t ht=>hN _ _ ⟨(s6.trans (Same.new hl3)).trans (Same.new ht),?_⟩⟩⟩;rw [Z4,ef,Z9];refine HasAll.snoc (hy.mono ((Same.new hl3).trans (Same.new ht))) (.tup trivial zA1 (by show 2≤1000;decide) (.cons (.str _ (by have:=okn.2.2;omega) okn.2.1) (.cons (.lst trivial ((Same.new ht) _ _ zA1) ?_ (zB2 okv.ok)) .nil)));rw [Z0];have:=okv.le;omega
    ·rintro ys H' ⟨s6,hy⟩ ln hln;have ex:fs.length=r.fields.length:=by rw [hfx.length,Z0]
     rw [ex,Za] at hy;have s7:Same H2 (upd H' ln (.lst ys)):=s6.trans (Same.new hln);have hf7:Has Any (upd H' ln (.lst ys)) (.ref ln) (.list (r.fields.map fieldD)):=.lst trivial zA1 (by rw [hy.length,Z0];have:=ofs.le;omega) (hy.mono (Same.new hln));generalize upd H' ln (.lst ys)=H7 at s7 hf7 ⊢;refine ⟨_,rfl,?_⟩;intro x dx hx' hdx hne;refine init_ownF hx' hdx hne onm hf7 ofs (fun o e=>rp.owner mr e) fun H8 lf8 s8 e8 d8=>⟨rfl,?_⟩;have s28:=s7.trans s8;have hg8:=s28 _ _ hg2;refine ⟨lg,_,_,rfl,rfl,hg8,by rw [Z0];exact small1000 (by omega),?_⟩;have kk:∀ {p:Addr}{r:Row},KF C (fun a=>H a=none∧a≠lg) H8 p r→KF C (fun a=>H a=none∧a≠lg) (upd H8 lg (.lst ((zs.map fun q=>V.ref q.1)++[V.ref x]))) p r:=fun h=>h.frame (fun b o e ⟨_,_,_,eo⟩=>by rw [zA5 (ne_of e hg8 (by rw [eo];exact fun z=>nomatch z))];exact e) fun b o g _ e=>⟨g,by rw [zA5 g.2];exact e⟩;have kd8:KF C (fun a=>H a=none∧a≠lg) H8 x r:=⟨dx,lf8,e8,d8.frame fun b o g e=>⟨⟨(s2.trans s7).free g,fun z=>(by rw [z,s7 _ _ hg2] at g;cases g)⟩,e⟩⟩;refine ⟨zs++[(x,r)],_,_,_,rfl,by rw [zA1,Z9];rfl,by rw [Z9,hzs,Z4,er];rfl,fun q hq=>?_,fun b o e=>?_⟩
     ·rcases List.mem_append.mp hq with hq | hq
      ·exact kk ((hk2 q hq).frame (fun b o e _=>s28 _ _ e) fun b o g _ e=>⟨g,s28 _ _ e⟩)
      ·rw [List.mem_singleton.mp hq];exact kk kd8
     ·rw [zA5 (zA2 e fg)];exact s28 _ _ (s2 _ _ e)
  ·rintro σ H2 ⟨zs,x2,x3,x4,rfl,hg2,hzs,hk2,s2⟩;rw [xl,Za] at hzs;have zl:zs.length=rs.length:=by rw [← hzs,Z0]
   refine ⟨_,rfl,?_⟩;intro x dx hx' hdx hne;have hx2:(upd H2 dx (.own x)) x=none:=by rw [zA5 hne.symm];exact hx'
   have s3:Same H2 (upd (upd H2 dx (.own x)) x (.ins CK dx [])):=(Same.new hdx).trans (Same.new hx2);refine ⟨x,dx,lg,zs,rfl,zA1,s3 _ _ hg2,⟨fun q hq=>(hk2 q hq).o.mono fun b o e _=>s3 _ _ e,?_,by omega⟩,by rw [hzs];exact rp,(hT.same s2).same s3,fun d ord kvs H' hp' hd' hd2 hpl hgr hlen hT' fr=>⟨rfl,?_⟩⟩
   ·have:=rp.nd;rw [← hzs,Zo] at this;exact this
   ·have fr2:∀ b o,H2 b=some o→b≠Pt→H' b=some o:=fun b o e nb=>fr b o (s3 _ _ e) (zA2 e hx') nb;have hT2:=hT.same s2;rw [hzs] at hgr;refine q x d ord kvs zs H' ⟨⟨dx,hp'⟩,.inl hd2⟩ (s2.free hx') (s2.free (s3.free hd')) ⟨fun q hq=>?_,?_,by omega⟩ (fun q hq=>(hk2 q hq).frame (fun b o e ⟨_,_,_,eo⟩=>fr2 _ _ e (hT2.ne e (by rw [eo];exact fun _ z=>nomatch z))) fun b o g hs e=>⟨g.1,fr2 _ _ e (hT2.ne e (by rintro ps rfl;exact hs))⟩) hzs hpl hgr (by omega) hT' fun b o e nb=>fr2 b o (s2 _ _ e) nb
    ·obtain ⟨dx',l',e⟩:=(hk2 q hq).o;exact ⟨dx',l',fr2 _ _ e (hT2.ne e fun _ z=>nomatch z)⟩
    ·have:=rp.nd;rw [← hzs,Zo] at this;exact this
end
end L2.W
namespace L2.W
open PySem My
noncomputable def atOk (a:Option Str):Prop:=∀ x,a=some x→nameOk x
theorem at_has {G:Addr→Prop}{H:Hp}{a:Option Str} (h:atOk a):Has G H (ownV a) (ownD a):=zEs h
theorem atoms_has {G:Addr→Prop}{H:Hp}:∀ {ks:List (Option Str)},(∀ x∈ks,atOk x)→HasAll G H (ks.map ownV) (ks.map ownD)
 | [],_=>.nil
 | k :: r,h=>.cons (at_has (h k Zd)) (atoms_has fun x hx=>h x (Z5 _ hx))
theorem at_inv {G:Addr→Prop}{H:Hp}{x:V}{a:Option Str} (h:Has G H x (ownD a)):x=ownV a:=by
 cases a with
 | none=>cases h;rfl
 | some s=>exact h.str_inv.1
noncomputable def stepA (acc:List (List (Option Str))) (vs:List (Option Str)):List (List (Option Str)):=acc.flatMap fun st=>vs.map fun v=>st++[v]
noncomputable def allA (fs:List (List (Option Str))):List (List (Option Str)):=fs.foldl (fun acc f=>stepA acc f) [[]]
noncomputable def tupA (st:List (Option Str)):PyData:=.tuple (st.map ownD)
noncomputable def manyA (fs:List (List (Option Str))):Nat:=fs.foldl (fun m f=>m * f.length) 1
noncomputable def picksD (fs:List (List (Option Str))):PyData:=.list ((allA fs).map tupA)
theorem zD4 (acc:List (List (Option Str))) (vs:List (Option Str)):(stepA acc vs).length=acc.length * vs.length:=by
 unfold stepA
 induction acc with
 | nil=>simp
 | cons a r ih=>rw [Zz,Z8,ih,Z0,Zi,Y6,Nat.add_comm]
theorem zCi (fs:List (List (Option Str))) (f:List (Option Str)):allA (fs++[f])=stepA (allA fs) f:=by
 unfold allA;rw [List.foldl_append];rfl
theorem zCo (fs:List (List (Option Str))) (f:List (Option Str)):manyA (fs++[f])=manyA fs * f.length:=by
 unfold manyA;rw [List.foldl_append];rfl
theorem zAo (fs:List (List (Option Str))):(allA fs).length=manyA fs:=by
 suffices h:∀ (n:Nat),(allA (fs.take n)).length=manyA (fs.take n) by
  have:=h fs.length
  rwa [Za] at this
 intro n
 induction n with
 | zero=>rfl
 | succ n ih =>
  cases e:fs[n]? with
  | none=>rw [Z4,e];simpa using ih
  | some f =>
   have e2:fs.take (n + 1)=fs.take n++[f]:=by rw [Z4,e];rfl
   rw [e2,zCi,zCo,zD4,ih]
theorem zF4 {fs:List (List (Option Str))} (ok:∀ f∈fs,∀ x∈f,atOk x):∀ st∈allA fs,st.length=fs.length∧∀ x∈st,atOk x:=by
 suffices h:∀ (n:Nat),∀ st∈allA (fs.take n),st.length=(fs.take n).length∧∀ x∈st,atOk x by
  have:=h fs.length
  rwa [Za] at this
 intro n
 induction n with
 | zero =>
  intro st h;have:st=[]:=by simpa [allA] using h
  subst this;exact ⟨rfl,fun x h=>by simp at h⟩
 | succ n ih =>
  cases e:fs[n]? with
  | none =>
   have e2:fs.take (n + 1)=fs.take n:=by rw [Z4,e];simp
   rw [e2];exact ih
  | some f =>
   have e2:fs.take (n + 1)=fs.take n++[f]:=by rw [Z4,e];rfl
   rw [e2,zCi];intro st h;unfold stepA at h;obtain ⟨a,ha,h⟩:=List.mem_flatMap.mp h;obtain ⟨v,hv,rfl⟩:=List.mem_map.mp h;obtain ⟨h1,h2⟩:=ih a ha;refine ⟨by rw [Z8,Z8,h1];rfl,fun x hx=>?_⟩;rcases List.mem_append.mp hx with hx | hx
   ·exact h2 x hx
   ·have:x=v:=by simpa using hx
    subst this;exact ok f (Z3 e) _ hv
theorem zBx (fs:List (List (Option Str))) (h:∀ f∈fs,0 < f.length) (n:Nat):manyA (fs.take n)≤manyA fs:=by
 have key:∀ (l:List (List (Option Str))) (m:Nat),(∀ f∈l,0 < f.length)→m≤l.foldl (fun m f=>m * f.length) m:=by
  intro l
  induction l with
  | nil=>intro m _;exact Zb _
  | cons f r ih =>
   intro m h;rw [Y1];exact Zk (Nat.le_mul_of_pos_right _ (h f Zd)) (ih _ fun g hg=>h g (Z5 _ hg))
 have e:manyA fs=(fs.drop n).foldl (fun m f=>m * f.length) (manyA (fs.take n)):=by
  unfold manyA;rw [← List.foldl_append,List.take_append_drop]
 rw [e];exact key _ _ fun f hf=>h f (List.mem_of_mem_drop hf)
theorem zEc {G:Addr→Prop}{H:Hp}{a:Addr}{st:List (Option Str)} (g:G a) (h:H a=some (.tup (st.map ownV))) (hl:st.length≤1000) (ok:∀ x∈st,atOk x):Has G H (.ref a) (tupA st) :=
 .tup g h (by rw [Z0];exact hl) (atoms_has ok)
theorem zCh {G:Addr→Prop}{H:Hp}:∀ {xs:List V}{ks:List (Option Str)},HasAll G H xs (ks.map ownD)→xs=ks.map ownV
 | _,[],.nil=>rfl
 | _,k :: r,.cons h t=>by rw [Zr,zCh t,at_inv h]
theorem zEb {G:Addr→Prop}{H:Hp}{v:V}{st:List (Option Str)} (h:Has G H v (tupA st)):∃ a,v=.ref a∧G a∧H a=some (.tup (st.map ownV)):=by
 obtain ⟨a,xs,rfl,g,ha,_,hx⟩:=h.tup_inv;rw [zCh hx] at ha;exact ⟨a,rfl,g,ha⟩
noncomputable def listD (f:List (Option Str)):PyData:=.list (f.map ownD)
noncomputable def spPicks:Sp:=fun vs H Q _=>∃ (l:Addr) (fs:List (List (Option Str))),vs=[.ref l]∧Has Any H (.ref l) (.list (fs.map listD))∧fs.length≤3∧(∀ f∈fs,0 < f.length∧∀ x∈f,atOk x)∧manyA fs≤900 ∧
 ∀ (l:Addr) (H':Hp),Same H H'→H l=none→Has (fun _=>True) H' (.ref l) (picksD fs)→Q (.ref l) H'
section
variable {P:Program}{w:World}{K:PySem.W.Frag}{mg:Str→Option Value}{base:Heap}{CX:CXT}
theorem scPk:FnScope ["lists", "found", "things", "longer", "ahead"] ["lists"] (defScope sPicks):=⟨rfl,rfl,rfl,by decide +kernel,rfl,by decide +kernel,by decide +kernel⟩
set_option maxHeartbeats 1000000 in
theorem ok_picks {f:Addr}{fd:FuncData} (F:Fun K "all_picks" "all_picks" sPicks f fd):FnOk P w K mg base CX 1 f fd ["lists"] spPicks:=by
 refine Fun.okC F scPk (fun vs H Q E h=>?_) (fun cdv A outer s H vs Q E hr h=>?_)
 ·obtain ⟨l,fs,rfl,_⟩:=h;rfl
 ·obtain ⟨l,fs,rfl,hf,le3,okf,many,q⟩:=h;have nd:=scPk.nd
  refine ⟨_,zA4 (zAa (i:=1) nd rfl (Or.inl rfl) (zAe (zA0 (zAw zA3) zA3)))
   (zA4 (zB5 PassesOwn.never rfl (zAb (pv 0)) (zA8 (i:=2) nd rfl (Or.inl rfl))
    (zA4 (zAa (i:=3) nd rfl (Or.inl rfl) (zAe zA3))
    (zA4 (zB5 PassesOwn.never rfl (zAb (pv 1)) (zA8 (i:=4) nd rfl (Or.inr rfl))
     (zA6 (zB3 (zCv PySem.F.plainAttrs_list PySem.F.slot_list_extend PySem.F.type_list_extend zCa (pv 3) (zA0 (zAj (T:=["thing"]) rfl ScOk.auto (zAb (pv 2)) (fun _ _ _ _=>zA8 (i:=5) (by decide +kernel:(["lists", "found", "things", "longer", "ahead", "thing"]:List Str).Nodup) rfl (Or.inl rfl)) (fun _ _ _ _=>zAt)
      (fun _ _ _ _=>zAf (op_cat2 (K:=K) rfl) (pv 4) (zAw (zA0 (pv 5) zA3)))) zA3)))))
    (zA6 (zAa (i:=1) nd rfl (Or.inl rfl) (pv 3))))))
   (zA6 (zAg (pv 1)))),?_⟩
  have small:∀ n:Nat,n≤1000→n≤sizeLine:=fun n h=>Zq (small1000 h);have okv:∀ f∈fs,∀ x∈f,atOk x:=fun f hf=>(okf f hf).2;have pos:∀ f∈fs,0 < f.length:=fun f hf=>(okf f hf).1;obtain ⟨a,xs,e,_,ha,hz,hx⟩:=hf.list_inv;cases e;refine ⟨by show 0≤sizeLine;exact Zm _,fun t0 ht0=>⟨by show 1≤sizeLine;exact small 1 (by decide),fun f0 hf0=>?_⟩⟩;have s0:Same H (upd (upd H t0 (.tup [])) f0 (.lst [.ref t0])):=(Same.new ht0).trans (Same.new hf0);have h0:Has (fun _=>True) (upd (upd H t0 (.tup [])) f0 (.lst [.ref t0])) (.ref f0) (picksD (fs.take 0)):=.lst trivial zA1 (by show 1≤1000;decide) (.cons (.tup trivial ((Same.new hf0) _ _ zA1) (by show 0≤1000;decide) .nil) .nil);have n0:H f0=none:=(Same.new ht0).free hf0;generalize upd (upd H t0 (.tup [])) f0 (.lst [.ref t0])=H0 at s0 h0 ⊢
  refine ⟨_,rfl,l,rfl,⟨xs,SqL.of (s0 _ _ ha)⟩,zAy (K:=K) (a:=l) (xs:=xs)
   (fun i σ H2=>∃ u v x fl,σ = [some (.ref l),some (.ref fl),u,v,x]∧Same H H2∧H fl=none∧Has (fun _=>True) H2 (.ref fl) (picksD (fs.take i))) ⟨none,none,none,f0,rfl,s0,n0,h0⟩ (fun i σ H2 _ ⟨_,_,_,_,_,s2,_⟩=>SqL.of (s2 _ _ ha)) ?_ ?_⟩
  ·rintro i x σ H2 hi ⟨u,v,xo,fl,rfl,s2,nf,hst⟩;obtain ⟨d,hd,hv⟩:=hx.get hi;rw [Z6] at hd;cases ef:fs[i]? with
   | none=>rw [ef] at hd;cases hd
   | some f =>
    rw [ef] at hd;cases hd;have efs:fs.take (i + 1)=fs.take i++[f]:=by rw [Z4,ef];rfl
    have hmf:=Z3 ef;obtain ⟨l2,vs2,rfl,_,hl2,_,hv2⟩:=hv.list_inv;rw [zCh hv2] at hl2;refine ⟨by show 0≤sizeLine;exact Zm _,fun lo hlo=>?_⟩;have s3:Same H2 (upd H2 lo (.lst [])):=Same.new hlo;have e3:(upd H2 lo (.lst [])) lo=some (.lst []):=zA1;obtain ⟨c,ss,ec,_,hc,hcz,hss⟩:=hst.list_inv;cases ec;have lss:ss.length=manyA (fs.take i):=by rw [hss.length,Z0,zAo]
    have mle:manyA (fs.take i)≤900:=Zk (zBx fs pos i) many;have mle2:manyA (fs.take i) * f.length≤900:=by rw [← zCo,← efs];exact Zk (zBx fs pos (i + 1)) many
    refine ⟨_,rfl,fl,rfl,⟨ss,SqL.of (s3 _ _ hc)⟩,zAy (K:=K) (a:=fl) (xs:=ss)
     (fun j σ H4=>∃ x' zs,σ = [some (.ref l),some (.ref fl),some (.ref l2),some (.ref lo),x']∧Same H2 H4∧H4 lo=some (.lst zs)∧HasAll (fun a=>a≠lo) H4 zs ((stepA ((allA (fs.take i)).take j) f).map tupA)) ⟨_,[],rfl,s3,e3,.nil⟩ (fun j σ H4 _ ⟨_,_,_,s4,_⟩=>SqL.of (s4 _ _ hc)) ?_ ?_⟩
    ·rintro j y σ H4 hj ⟨x',zs,rfl,s4,h4,hz4⟩;obtain ⟨d,hd,hy⟩:=hss.get hj;rw [Z6] at hd;cases es:(allA (fs.take i))[j]? with
     | none=>rw [es] at hd;cases hd
     | some st =>
      rw [es] at hd;cases hd;obtain ⟨ya,rfl,_,hya⟩:=zEb hy;obtain ⟨stl,sto⟩:=zF4 (fs:=fs.take i) (fun f hf=>okv f (Ya hf)) st (Z3 es);have stl3:st.length≤3:=by
       have:=Zl i fs;have:=le3;omega
      have jlt:j < manyA (fs.take i):=by
       have:=(List.getElem?_eq_some_iff.mp es).1
       rwa [zAo] at this
      have lzs:zs.length=j * f.length:=by
       rw [hz4.length,Z0,zD4,Zt,zAo,Nat.min_eq_left (Zq jlt)]
      have lz9:zs.length + f.length≤900:=by
       have h1:(j + 1) * f.length≤manyA (fs.take i) * f.length:=Nat.mul_le_mul_right _ jlt;rw [Y6] at h1;omega
      refine ⟨_,rfl,.inl ⟨rfl,zs,SqL.of h4⟩,_,rfl,l2,rfl,⟨_,SqL.of (s4 _ _ (s2 _ _ hl2))⟩,zAc (xs:=f.map ownV)
       (fun k ys H5=>Same H4 H5∧HasAll (fun a=>a≠lo) H5 ys ((f.take k).map fun v=>tupA (st++[v]))) ⟨Same.refl _,.nil⟩ (fun k ys H5 z=>SqL.of (z.1 _ _ (s4 _ _ (s2 _ _ hl2)))) (fun k ys H5 hk z=>?_) ?_ ?_⟩
      ·have:=z.2.length;rw [Z0] at this;have:=Zl k f;exact small _ (by omega)
      ·rintro k w ys H5 hk ⟨s5,hys⟩ N hN;rw [Z6] at hk;cases ew:f[k]? with
       | none=>rw [ew] at hk;cases hk
       | some v =>
        rw [ew] at hk;cases hk;refine pick ?_;refine ⟨_,rfl,_,rfl,by show 1≤sizeLine;exact small 1 (by decide),fun t1 ht1=>?_⟩;refine cat2_by (K:=K) (xs:=st.map ownV) (ys:=[ownV v]) ((Same.new ht1) _ _ (s5 _ _ (s4 _ _ hya))) zA1 (by rw [Z0];exact small _ (by simp;omega)) fun p' H6 s6 h6=>hN _ _ ⟨(s5.trans (Same.new ht1)).trans s6,?_⟩;rw [Z4,ew,Z9];have hlo6:H6 lo=some (.lst zs):=s6 _ _ ((Same.new ht1) _ _ (s5 _ _ h4));refine HasAll.snoc (hys.mono ((Same.new ht1).trans s6)) (zEc (fun z=>?_) (by rw [h6,Z9];rfl) (by simp;omega) fun x hx=>?_)
        ·rw [z,hlo6] at h6;cases h6
        ·rcases List.mem_append.mp hx with hx | hx
         ·exact sto x hx
         ·have:x=v:=by simpa using hx
          subst this;exact okv f hmf _ (Z3 ew)
      ·rintro ys H5 ⟨s5,hys⟩ r hr';rw [Z0,Za] at hys;have lys:ys.length=f.length:=by rw [hys.length,Z0]
       have nr:r≠lo:=(zA2 (s5 _ _ h4) hr').symm;refine ⟨lo,r,zs,ys,rfl,rfl,(Same.new hr') _ _ (s5 _ _ h4),zA1,small _ (by omega),⟨_,zs++ys,rfl,fun b' o' e'=>?_,zA1,?_⟩⟩
       ·rw [zA5 (zA2 e' hlo)];exact (Same.new hr') _ _ (s5 _ _ (s4 _ _ e'))
       ·have eq:stepA ((allA (fs.take i)).take (j + 1)) f=stepA ((allA (fs.take i)).take j) f++f.map fun v=>st++[v]:=by
         rw [Z4,es];unfold stepA;rw [List.flatMap_append];simp
        rw [eq,Z9,Zo];refine HasAll.append ((hz4.mono (s5.trans (Same.new hr'))).frame fun b' o' g' e'=>⟨g',by rw [zA5 g'];exact e'⟩) ((hys.mono (Same.new hr')).frame fun b' o' g' e'=>⟨g',by rw [zA5 g'];exact e'⟩)
    ·rintro σ H4 ⟨x',zs,rfl,s4,h4,hz4⟩;have eq:(allA (fs.take i)).take ss.length=allA (fs.take i):=by rw [lss,← zAo,Za]
     rw [eq,← zCi,← efs] at hz4;have lzs:zs.length≤1000:=by
      rw [hz4.length,Z0,zAo];have:=zBx fs pos (i + 1);have:=many;omega
     exact ⟨_,rfl,_,_,_,lo,rfl,s2.trans s4,s2.free hlo,.lst trivial h4 lzs hz4.any⟩
  ·rintro σ H2 ⟨u,v,xo,fl,rfl,s2,nf,hst⟩;have e:xs.length=fs.length:=by rw [hx.length,Z0]
   rw [e,Za] at hst;exact ⟨_,rfl,q fl H2 s2 nf hst⟩
end
end L2.W
namespace L2.W
open PySem My
noncomputable def stA (fs:List (Str×List Str)):List (List (Option Str)):=fs.map fun f=>f.2.map some
noncomputable def wiA (fs:List (Str×List Str)):List (List (Option Str)):=fs.map fun f=>none :: f.2.map some
noncomputable def optT:Option (List (Option Str))→PyData
 | none=>.none
 | some st=>tupA st
theorem someD (vs:List Str):(vs.map some).map ownD=vs.map .str:=by rw [Zo];rfl
theorem zCc (fs:List (Str×List Str)):manyA (stA fs)=manyOf fs:=by
 unfold manyA manyOf stA;rw [List.foldl_map]
 congr 1
 funext m f;rw [Z0]
theorem many_wiA {fs:List (Str×List Str)} (h:∀ f∈fs,0 < f.2.length):manyA (wiA fs)≤2 ^ fs.length * manyOf fs:=by
 have key:∀ (l:List (Str×List Str)) (m m' c:Nat),(∀ f∈l,0 < f.2.length)→m'≤c * m→l.foldl (fun m f=>m * (f.2.length + 1)) m'≤2 ^ l.length * c * l.foldl (fun m f=>m * f.2.length) m:=by
  intro l
  induction l with
  | nil=>intro m m' c _ hm;simpa using hm
  | cons f r ih =>
   intro m m' c hp hm;rw [Y1,Y1,Zi];have h1:=hp f Zd
   have:=ih (m * f.2.length) (m' * (f.2.length + 1)) (2 * c) (fun g hg=>hp g (Z5 _ hg)) (by
    calc m' * (f.2.length + 1)≤(c * m) * (2 * f.2.length):=Nat.mul_le_mul hm (by omega)
     _=2 * c * (m * f.2.length):=by rw [Nat.mul_comm 2 c,Nat.mul_assoc,Nat.mul_assoc,Nat.mul_left_comm m])
   rw [Nat.pow_succ,Nat.mul_assoc (2 ^ r.length) 2 c];exact this
 have:=key fs 1 1 1 h (by decide);unfold manyA manyOf wiA;rw [List.foldl_map]
 simpa using this
theorem wi_le {fs:List (Str×List Str)} (ok:FieldsOk fs):manyA (wiA fs)≤64:=by
 have h1:=many_wiA (fs:=fs) fun f hf=>(ok.ok f hf).2.ne;have h2:=ok.many;have h3:2 ^ fs.length≤2 ^ 3:=Nat.pow_le_pow_right (by decide) ok.le;have h4:2 ^ fs.length * manyOf fs≤8 * 8:=Nat.mul_le_mul h3 h2;omega
noncomputable def spStates (C:Addr):Sp:=fun vs H Q _=>∃ (p:Addr) (r:Row),vs=[.ref p]∧KF C Any H p r∧FieldsOk r.fields ∧
 ∀ (l:Addr) (H':Hp),Same H H'→H l=none→Has (fun _=>True) H' (.ref l) (picksD (stA r.fields))→Q (.ref l) H'
noncomputable def wishes (fs:List (Str×List Str)):List (Option (List (Option Str))):=none :: (allA (wiA fs)).map some
noncomputable def spWishes (C:Addr):Sp:=fun vs H Q _=>∃ (p:Addr) (r:Row),vs=[.ref p]∧KF C Any H p r∧FieldsOk r.fields ∧
 ∀ (l:Addr) (H':Hp),Same H H'→H l=none→Has (fun _=>True) H' (.ref l) (.list ((wishes r.fields).map optT))→Q (.ref l) H'
section
variable {P:Program}{w:World}{K:PySem.W.Frag}{mg:Str→Option Value}{base:Heap}{CX:CXT}
theorem scSt:FnScope ["kind"] ["kind"] (defScope sStates):=⟨rfl,rfl,rfl,by decide +kernel,rfl,by decide +kernel,by decide +kernel⟩
theorem ok_states {f fA C fI:Addr}{fd fdA:FuncData} (hC:Calm CX) (KC:KCls K mg C fI) (F:Fun K "states" "states" sStates f fd) (DA:Def K mg "all_picks" sPicks ["lists"] fA fdA):FnOk P w K mg base CX 2 f fd ["kind"] (spStates C):=by
 have GA:FnOk P w K mg base CX 1 fA fdA ["lists"] spPicks:=ok_picks DA.fn;refine Fun.okC F scSt (fun vs H Q E h=>?_) (fun cdv A outer s H vs Q E hr h=>?_)
 ·obtain ⟨p,r,rfl,_⟩:=h;rfl
 ·obtain ⟨p,r,rfl,⟨dx,l,hp,hf⟩,ok,q⟩:=h;refine ⟨_,zA6 (zAg (zA9 GA hr rfl DA.at_ DA.fn.kp DA.bind .nil (passC hC) (zA0 (zAj (T:=["field"]) rfl ScOk.auto (zAb (zBs (pv 0) rfl)) (fun _ _ _ _=>zA8 (i:=1) (by decide +kernel:(["kind", "field"]:List Str).Nodup) rfl (Or.inl rfl)) (fun _ _ _ _=>zAt) (fun _ _ _ _=>(zAu (r:=rIxT K) zBu (pv 1) zA7 (fun _ _=>rfl)))) zA3))),?_⟩;have small:∀ n:Nat,n≤1000→n≤sizeLine:=fun n h=>Zq (small1000 h);obtain ⟨a,xs,e,_,ha,hz,hx⟩:=hf.list_inv;cases e;have xl:xs.length=r.fields.length:=by rw [hx.length,Z0]
  have le3:=ok.le;refine ⟨_,rfl,p,C,dx,_,_,rfl,hp,KC.cl,KC.nF,kf_fields _ _ _,l,rfl,⟨xs,SqL.of ha⟩,zAc (xs:=xs) (fun i ys H'=>H=H'∧HasAll Any H ys ((stA (r.fields.take i)).map listD)) ⟨rfl,.nil⟩ (fun i ys H' z=>by rw [← z.1];exact SqL.of ha) (fun i ys H' hi z=>?_) ?_ ?_⟩
  ·have:=z.2.length;rw [Z0] at this;unfold stA at this;rw [Z0] at this;have:=Zl i r.fields;exact small _ (by omega)
  ·rintro i x ys H' hi ⟨rfl,hys⟩ N hN;obtain ⟨d,hd,hv⟩:=hx.get hi;rw [Z6] at hd;cases ef:r.fields[i]? with
   | none=>rw [ef] at hd;cases hd
   | some f =>
    rw [ef] at hd;cases hd;obtain ⟨b,l2,rfl,hb,hl2⟩:=zCe hv;have okf:=(ok.ok f (Z3 ef)).2;refine pick ⟨_,rfl,b,_,((1:Nat):Int),_,rfl,rfl,SqT.of hb,zAr rfl,hN _ _ ⟨rfl,?_⟩⟩;unfold stA at hys ⊢;rw [Z4,ef,Z9,Z9];refine HasAll.snoc hys (.lst trivial hl2 (by rw [Z0];have:=okf.le;omega) ?_);rw [someD];exact zB2 okf.ok
  ·rintro ys H' ⟨rfl,hys⟩ lc hlc;rw [xl,Za] at hys;have s1:Same H (upd H lc (.lst ys)):=Same.new hlc;refine ⟨lc,stA r.fields,rfl,.lst trivial zA1 (by rw [hys.length,Z0];unfold stA;rw [Z0];omega) (hys.mono s1),by unfold stA;rw [Z0];exact le3,fun f hf=>?_,by rw [zCc];have:=ok.many;omega,fun l' H' s2 n2 h2=>q l' H' (s1.trans s2) (s1.free n2) h2⟩;unfold stA at hf;obtain ⟨g,hg,rfl⟩:=List.mem_map.mp hf;refine ⟨by rw [Z0];exact (ok.ok g hg).2.ne,fun x hx y e=>?_⟩;subst e;obtain ⟨z,hz,e⟩:=List.mem_map.mp hx;exact (Zj e) ▸ (ok.ok g hg).2.ok z hz
theorem scWi:FnScope ["kind"] ["kind"] (defScope sAllWished):=⟨rfl,rfl,rfl,by decide +kernel,rfl,by decide +kernel,by decide +kernel⟩
theorem ok_wishes {f fA C fI:Addr}{fd fdA:FuncData} (hC:Calm CX) (KC:KCls K mg C fI) (F:Fun K "all_wished" "all_wished" sAllWished f fd) (DA:Def K mg "all_picks" sPicks ["lists"] fA fdA):FnOk P w K mg base CX 2 f fd ["kind"] (spWishes C):=by
 have GA:FnOk P w K mg base CX 1 fA fdA ["lists"] spPicks:=ok_picks DA.fn;refine Fun.okC F scWi (fun vs H Q E h=>?_) (fun cdv A outer s H vs Q E hr h=>?_)
 ·obtain ⟨p,r,rfl,_⟩:=h;rfl
 ·obtain ⟨p,r,rfl,⟨dx,l,hp,hf⟩,ok,q⟩:=h;refine ⟨_,zA6 (zAg (zAf zBz (zAe (zA0 zB7 zA3)) (zA9 GA hr rfl DA.at_ DA.fn.kp DA.bind .nil (passC hC) (zA0 (zAj (T:=["field"]) rfl ScOk.auto (zAb (zBs (pv 0) rfl)) (fun _ _ _ _=>zA8 (i:=1) (by decide +kernel:(["kind", "field"]:List Str).Nodup) rfl (Or.inl rfl)) (fun _ _ _ _=>zAt) (fun _ _ _ _=>(zAf zBz (zAe (zA0 zB7 zA3)) (zAu (r:=rIxT K) zBu (pv 1) zA7 (fun _ _=>rfl))))) zA3)))),?_⟩;have small:∀ n:Nat,n≤1000→n≤sizeLine:=fun n h=>Zq (small1000 h);obtain ⟨a,xs,e,_,ha,hz,hx⟩:=hf.list_inv;cases e;have xl:xs.length=r.fields.length:=by rw [hx.length,Z0]
  have le3:=ok.le;refine ⟨by show 1≤sizeLine;exact small 1 (by decide),fun l0 hl0=>?_⟩;have s0:Same H (upd H l0 (.lst [.non])):=Same.new hl0;have e0:(upd H l0 (.lst [.non])) l0=some (.lst [.non]):=zA1;generalize upd H l0 (.lst [.non])=H0 at s0 e0 ⊢;refine ⟨_,rfl,p,C,dx,_,_,rfl,s0 _ _ hp,KC.cl,KC.nF,kf_fields _ _ _,l,rfl,⟨xs,SqL.of (s0 _ _ ha)⟩,zAc (xs:=xs) (fun i ys H'=>Same H0 H'∧HasAll Any H' ys ((wiA (r.fields.take i)).map listD)) ⟨Same.refl _,.nil⟩ (fun i ys H' z=>SqL.of (z.1 _ _ (s0 _ _ ha))) (fun i ys H' hi z=>?_) ?_ ?_⟩
  ·have:=z.2.length;rw [Z0] at this;unfold wiA at this;rw [Z0] at this;have:=Zl i r.fields;exact small _ (by omega)
  ·rintro i x ys H' hi ⟨s1,hys⟩ N hN;obtain ⟨d,hd,hv⟩:=hx.get hi;rw [Z6] at hd;cases ef:r.fields[i]? with
   | none=>rw [ef] at hd;cases hd
   | some f =>
    rw [ef] at hd;cases hd;obtain ⟨b,l2,rfl,hb,hl2⟩:=zCe hv;have okf:=(ok.ok f (Z3 ef)).2;have fl:=okf.le;refine pick ⟨by show 1≤sizeLine;exact small 1 (by decide),fun l3 hl3=>?_⟩;have sA:=(s0.trans s1).trans (Same.new (o:=.lst [.non]) hl3);refine ⟨_,rfl,b,_,((1:Nat):Int),_,rfl,rfl,SqT.of (sA _ _ hb),zAr rfl,?_⟩;refine ⟨l3,l2,_,_,rfl,rfl,zA1,sA _ _ hl2,by rw [Z0];exact small _ (by simp;omega),fun l4 hl4=>hN _ _ ⟨(s1.trans (Same.new hl3)).trans (Same.new hl4),?_⟩⟩;unfold wiA at hys ⊢;rw [Z4,ef,Z9,Z9];refine HasAll.snoc (hys.mono ((Same.new hl3).trans (Same.new hl4))) (.lst trivial zA1 (by simp;omega) ?_);refine .cons .non ?_;rw [someD];exact zB2 okf.ok
  ·rintro ys H' ⟨s1,hys⟩ lc hlc;rw [xl,Za] at hys;have s2:Same H0 (upd H' lc (.lst ys)):=s1.trans (Same.new hlc);refine ⟨lc,wiA r.fields,rfl,.lst trivial zA1 (by rw [hys.length,Z0];unfold wiA;rw [Z0];omega) (hys.mono (Same.new hlc)),by unfold wiA;rw [Z0];exact le3,fun f hf=>?_,by have:=wi_le ok;omega,fun l' H3 s3 n3 h3=>?_⟩
   ·unfold wiA at hf;obtain ⟨g,hg,rfl⟩:=List.mem_map.mp hf;refine ⟨by simp,fun x hx y e=>?_⟩;subst e;rcases List.mem_cons.mp hx with e | hx
    ·cases e
    ·obtain ⟨z,hz,e⟩:=List.mem_map.mp hx;exact (Zj e) ▸ (ok.ok g hg).2.ok z hz
   ·obtain ⟨l5,zs,e5,_,h5,_,hz5⟩:=h3.list_inv;cases e5;have zl:zs.length≤64:=by rw [hz5.length,Z0,zAo];exact wi_le ok
    refine ⟨l0,l',_,_,rfl,rfl,s3 _ _ (s2 _ _ e0),h5,small _ (by simp;omega),fun l6 hl6=>?_⟩;refine q l6 _ ((s0.trans s2).trans (s3.trans (Same.new hl6))) ((s0.trans (s2.trans s3)).free hl6) (.lst trivial zA1 (by simp;omega) (.cons .non ?_));have:=hz5.mono (Same.new (o:=.lst ([V.non]++zs)) hl6);rw [Zo];exact this
end
end L2.W
namespace L2.W
open PySem My
theorem zB6 {α β : Type}{R : α→β→Prop}:∀ {l:List α}{m:List β}{i:Nat}{a : α},Paired R l m→l[i]? = some a→∃ b,m[i]? = some b∧R a b
 | _,_,_,_,.nil,h=>by simp at h
 | _,_,0,_,.cons r _,h=>⟨_,rfl,by simp at h;rw [← h];exact r⟩
 | _,_,i + 1,_,.cons _ t,h=>by
  obtain ⟨b,e,r⟩:=zB6 (i:=i) t (by simpa using h);exact ⟨b,by simpa using e,r⟩
noncomputable def Kd (CK C:Addr) (H:Hp) (q:Addr) (rs:List Row):Prop:=∃ (d:Addr) (kvs:List (Key×V)) (zs:List (Addr×Row)),KindsAt CK H q d kvs∧zs.map (·.2)=rs∧(∀ z∈zs,KF C Any H z.1 z.2∧valV kvs (Sum.inr z.2.name)=some (.ref z.1))∧∀ n,n∉rs.map (·.name)→valV kvs (Sum.inr n)=none
theorem KF.same {C:Addr}{H H':Hp}{p:Addr}{r:Row} (h:KF C Any H p r) (s:Same H H'):KF C Any H' p r:=h.frame (fun _ _ e _=>s _ _ e) fun _ _ _ _ e=>⟨trivial,s _ _ e⟩
theorem KindsAt.same {CK:Addr}{H H':Hp}{p d:Addr}{kvs:List (Key×V)} (h:KindsAt CK H p d kvs) (s:Same H H'):KindsAt CK H' p d kvs:=h.mono fun _ _ e _=>s _ _ e
theorem Kd.same {CK C:Addr}{H H':Hp}{q:Addr}{rs:List Row} (h:Kd CK C H q rs) (s:Same H H'):Kd CK C H' q rs:=by
 obtain ⟨d,kvs,zs,h1,h2,h3,h4⟩:=h;exact ⟨d,kvs,zs,h1.same s,h2,fun z hz=>⟨(h3 z hz).1.same s,(h3 z hz).2⟩,h4⟩
theorem Kd.kind {CK C:Addr}{H:Hp}{q:Addr}{rs:List Row} (h:Kd CK C H q rs) {r:Row} (hr:r∈rs):∃ d kvs p,KindsAt CK H q d kvs∧valV kvs (Sum.inr r.name)=some (.ref p)∧KF C Any H p r:=by
 obtain ⟨d,kvs,zs,h1,h2,h3,h4⟩:=h;rw [← h2] at hr;obtain ⟨z,hz,rfl⟩:=List.mem_map.mp hr;exact ⟨d,kvs,z.1,h1,(h3 z hz).2,(h3 z hz).1⟩
noncomputable def fieldsOf (rs:List Row) (o:Str):List (Str×List Str):=((rs.find? fun r=>decide (r.name=o)).map (·.fields)).getD []
theorem fieldsOf_eq {rs:List Row} (h:RowsP rs) {r:Row} (hr:r∈rs):fieldsOf rs r.name=r.fields:=by
 unfold fieldsOf;cases e:rs.find? fun q=>decide (q.name=r.name) with
 | none=>exact absurd (List.find?_eq_none.mp e r hr) (by simp)
 | some q =>
  have h1:q.name=r.name:=by simpa using List.find?_some e
  have h2:=h.one (List.mem_of_find?_eq_some e) hr h1;rw [h2];rfl
noncomputable def ownS (rs:List Row) (r:Row):List (Option (List (Option Str))):=match r.owner with
 | none=>[none]
 | some o=>(allA (stA (fieldsOf rs o))).map some
noncomputable def OptAt (H:Hp) (x:V) (w:Option (List (Option Str))):Prop:=match w with
 | none=>x=.non
 | some st=>∃ a,x=.ref a∧H a=some (.tup (st.map ownV))
noncomputable def optOk (w:Option (List (Option Str))):Prop:=∀ st,w=some st→st.length≤3∧∀ x∈st,atOk x
theorem OptAt.has {G:Addr→Prop}{H:Hp}{x:V}{w:Option (List (Option Str))} (h:OptAt H x w) (ok:optOk w) (g:∀ a xs,H a=some (.tup xs)→G a):Has G H x (optT w):=by
 cases w with
 | none=>rw [show x=.non from h];exact .non
 | some st =>
  obtain ⟨a,rfl,ha⟩:=h;obtain ⟨h1,h2⟩:=ok st rfl;exact zEc (g _ _ ha) ha (by omega) h2
theorem OptAt.of {G:Addr→Prop}{H:Hp}{x:V}{w:Option (List (Option Str))} (h:Has G H x (optT w)):OptAt H x w:=by
 cases w with
 | none=>cases h;rfl
 | some st =>
  obtain ⟨a,rfl,_,ha⟩:=zEb h;exact ⟨a,rfl,ha⟩
theorem OptAt.keep {H H':Hp}{x:V}{w:Option (List (Option Str))} (h:OptAt H x w) (k:∀ b xs,H b=some (.tup xs)→H' b=some (.tup xs)):OptAt H' x w:=by
 cases w with
 | none=>exact h
 | some st =>
  obtain ⟨a,rfl,ha⟩:=h;exact ⟨a,rfl,k _ _ ha⟩
theorem st_ok {fs:List (Str×List Str)} (ok:FieldsOk fs):∀ w∈(allA (stA fs)).map some,optOk w:=by
 intro w hw st e;subst e;obtain ⟨st',h,e⟩:=List.mem_map.mp hw;cases e
 obtain ⟨h1,h2⟩:=zF4 (fs:=stA fs) (fun f hf x hx y e=>by
  subst e;obtain ⟨g,hg,rfl⟩:=List.mem_map.mp hf;obtain ⟨z,hz,e⟩:=List.mem_map.mp hx
  exact (Zj e) ▸ (ok.ok g hg).2.ok z hz) st h
 refine ⟨?_,h2⟩;rw [h1];unfold stA;rw [Z0];exact ok.le
theorem wi_ok {fs:List (Str×List Str)} (ok:FieldsOk fs):∀ w∈wishes fs,optOk w:=by
 intro w hw st e;subst e;rcases List.mem_cons.mp hw with e | hw
 ·cases e
 obtain ⟨st',h,e⟩:=List.mem_map.mp hw;cases e
 obtain ⟨h1,h2⟩:=zF4 (fs:=wiA fs) (fun f hf x hx y e=>by
  subst e;obtain ⟨g,hg,rfl⟩:=List.mem_map.mp hf;rcases List.mem_cons.mp hx with e | hx
  ·cases e
  obtain ⟨z,hz,e⟩:=List.mem_map.mp hx
  exact (Zj e) ▸ (ok.ok g hg).2.ok z hz) st h
 refine ⟨?_,h2⟩;rw [h1];unfold wiA;rw [Z0];exact ok.le
noncomputable def nowS (r:Row):List (Option (List (Option Str))):=none :: (allA (stA r.fields)).map some
noncomputable def sitD (n:Str) (w o s:Option (List (Option Str))):PyData:=.tuple [.str n,optT w,optT o,optT s]
noncomputable def rowS (r:Row) (w o:Option (List (Option Str))):List PyData:=(nowS r).map (sitD r.name w o)
noncomputable def colS (rs:List Row) (r:Row) (w:Option (List (Option Str))):List PyData:=(ownS rs r).flatMap (rowS r w)
noncomputable def sitsOf (rs:List Row) (r:Row):List PyData:=(wishes r.fields).flatMap (colS rs r)
theorem zBy {α β : Type}{l:List α}{f : α→List β}{n:Nat} (h:∀ x∈l,(f x).length=n):(l.flatMap f).length=l.length * n:=by
 induction l with
 | nil=>simp
 | cons a t ih=>rw [Zz,Z8,h a Zd,ih fun x hx=>h x (Z5 _ hx),Zi,Y6,Nat.add_comm]
theorem zEf (r:Row) (w o:Option (List (Option Str))):(rowS r w o).length=(nowS r).length:=by unfold rowS;rw [Z0]
theorem zF1 (rs:List Row) (r:Row) (w:Option (List (Option Str))):(colS rs r w).length=(ownS rs r).length * (nowS r).length:=zBy fun o _=>zEf r w o
theorem zCx (rs:List Row) (r:Row):(sitsOf rs r).length=(wishes r.fields).length * ((ownS rs r).length * (nowS r).length):=zBy fun w _=>zF1 rs r w
noncomputable def OwnIn (rs:List Row):Prop:=∀ r∈rs,∀ o,r.owner=some o→∃ r'∈rs,r'.name=o
theorem RowsP.ownIn {rs:List Row} (h:RowsP rs):OwnIn rs:=by
 obtain ⟨rs0,ok,p⟩:=h;intro r hr o e;obtain ⟨i,hi,ei⟩:=Zv (p.mem_iff.mp hr);obtain ⟨j,r',_,h1,h2⟩:=ok.own i r o (by rw [Z1 hi,ei]) e;exact ⟨r',p.mem_iff.mpr (Z3 h1),h2⟩
theorem zB9 {rs:List Row}{r:Row} (e:r.owner=none):ownS rs r=[none]:=by unfold ownS;rw [e]
theorem zBh {rs:List Row} (h:RowsP rs) {r r':Row} (h1:r'∈rs) (e:r.owner=some r'.name):ownS rs r=(allA (stA r'.fields)).map some:=by
 unfold ownS;rw [e];show (allA (stA (fieldsOf rs r'.name))).map some=_;rw [fieldsOf_eq h h1]
theorem own_ok {rs:List Row} (h:RowsP rs) {r:Row} (hr:r∈rs):∀ w∈ownS rs r,optOk w:=by
 intro w hw;cases e:r.owner with
 | none =>
  rw [zB9 e] at hw;rw [List.mem_singleton.mp hw];intro st z;cases z
 | some o =>
  obtain ⟨r',h1,rfl⟩:=h.ownIn r hr o e;rw [zBh h h1 e] at hw;exact st_ok (h.ok r' h1).2 w hw
theorem zCu {fs:List (Str×List Str)} (ok:FieldsOk fs):(allA (stA fs)).length≤8:=by rw [zAo,zCc];exact ok.many
theorem now_ok {r:Row} (ok:FieldsOk r.fields):∀ w∈nowS r,optOk w:=by
 intro w hw;rcases List.mem_cons.mp hw with e | hw
 ·intro st z;rw [e] at z;cases z
 ·exact st_ok ok w hw
noncomputable def spOwnSt (CK C:Addr):Sp:=fun vs H Q _=>∃ (q p:Addr) (rs:List Row) (r:Row),vs=[.ref q,.ref p]∧Kd CK C H q rs∧RowsP rs∧r∈rs∧KF C Any H p r ∧
 ∀ (l:Addr) (xs:List V) (H':Hp),Same H H'→H l=none→H' l=some (.lst xs)→Paired (OptAt H') xs (ownS rs r)→Q (.ref l) H'
theorem zC2 {G:Addr→Prop}{H:Hp}:∀ {xs:List V}{ws:List (Option (List (Option Str)))},HasAll G H xs (ws.map optT)→Paired (OptAt H) xs ws
 | _,[],.nil=>.nil
 | _,_ :: _,.cons h t=>.cons (OptAt.of h) (zC2 t)
section
variable {P:Program}{w:World}{K:PySem.W.Frag}{mg:Str→Option Value}{base:Heap}{CX:CXT}
theorem scOs:FnScope ["kinds", "kind"] ["kinds", "kind"] (defScope sOwnerStates):=⟨rfl,rfl,rfl,by decide +kernel,rfl,by decide +kernel,by decide +kernel⟩
theorem ok_ownSt {f fS C fI CK fIk fOr fOf fOw:Addr}{fd fdS fdO:FuncData} (hC:Calm CX) (KC:KCls K mg C fI) (KS:KsCls K mg CK fIk fOr fOf fOw) (F:Fun K "owner_states" "owner_states" sOwnerStates f fd) (DS:Def K mg "states" sStates ["kind"] fS fdS)
  (GS:FnOk P w K mg base CX 2 fS fdS ["kind"] (spStates C)) (GO:FnOk P w K mg base CX 2 fOf fdO ["self", "name"] (spOf CK)) (bO:Binds K fdO ["self", "name"] []):FnOk P w K mg base CX 3 f fd ["kinds", "kind"] (spOwnSt CK C):=by
 refine Fun.okC F scOs (fun vs H Q E h=>?_) (fun cdv A outer s H vs Q E hr h=>?_)
 ·obtain ⟨q,p,rs,r,rfl,_⟩:=h;rfl
 ·obtain ⟨q,p,rs,r,rfl,kd,rp,mr,⟨dx,l,hp,hf⟩,k⟩:=h;refine ⟨_,zA6 (zAg (zEm (zBp (pc_isN (zBs (pv 1) rfl))) (zAe (zA0 zB7 zA3)) (zA9 GS hr rfl DS.at_ DS.fn.kp DS.bind .nil (passC hC) (zA0 (zD8 (pv 0) KS.cl KS.mOf GO hr bO .nil (passC hC) (zA0 (zBs (pv 1) rfl) zA3)) zA3)))),?_⟩;have small:∀ n:Nat,n≤1000→n≤sizeLine:=fun n h=>Zq (small1000 h);refine ⟨_,rfl,p,C,dx,_,_,rfl,hp,KC.cl,KC.nO,zCd _ _ _,_,rfl,?_⟩;cases e:r.owner with
  | none =>
   rw [zB9 e] at k;refine iteT ⟨by show 1≤sizeLine;exact small 1 (by decide),fun l0 hl0=>k l0 _ _ (Same.new hl0) hl0 zA1 (.cons rfl .nil)⟩
  | some o =>
   obtain ⟨r',h1,rfl⟩:=rp.ownIn r mr o e;rw [zBh rp h1 e] at k;obtain ⟨d,kvs,p',ka,vv,kf⟩:=kd.kind h1;refine iteF ?_;obtain ⟨⟨dxk,hq⟩,rd⟩:=id ka;refine ⟨_,rfl,q,dxk,_,rfl,hq,ks_no _ (by decide),_,rfl,p,C,dx,_,_,rfl,hp,KC.cl,KC.nO,zCd _ _ _,q,d,kvs,r'.name,.ref p',by rw [e];rfl,(rp.ok r' h1).1,ka,vv,fun H1 s1=>⟨p',r',rfl,kf.same s1,(rp.ok r' h1).2,fun l2 H2 s2 n2 h2=>?_⟩⟩;obtain ⟨l3,xs,e3,_,h3,_,hx⟩:=h2.list_inv;cases e3;exact k l2 xs H2 (s1.trans s2) (s1.free n2) h3 (zC2 (by rw [Zo];exact hx))
noncomputable def ButL (l:Addr) (H H':Hp):Prop:=∀ b o,H b=some o→b≠l→H' b=some o
theorem ButL.tup {l:Addr}{H H':Hp}{xs:List V} (b:ButL l H H') (h:H l=some (.lst xs)):∀ c ys,H c=some (.tup ys)→H' c=some (.tup ys):=fun c ys e=>b _ _ e (by rintro rfl;rw [h] at e;cases e)
noncomputable def spSits (CK C:Addr):Sp:=fun vs H Q _=>∃ (q:Addr) (rs:List Row) (r:Row),vs=[.ref q,.str r.name]∧Kd CK C H q rs∧RowsP rs∧r∈rs∧(sitsOf rs r).length≤1000 ∧
 ∀ (l:Addr) (xs:List V) (H':Hp),Same H H'→H l=none→H' l=some (.lst xs)→HasAll (fun a=>∃ ys,H' a=some (.tup ys)) H' xs (sitsOf rs r)→Q (.ref l) H'
theorem scSi:FnScope ["kinds", "kind", "of_kind", "own_states", "found", "wished", "owner_state"] ["kinds", "kind"] (defScope sSits):=⟨rfl,rfl,rfl,by decide +kernel,rfl,by decide +kernel,by decide +kernel⟩
theorem ok_sits {f fS fW fX C fI CK fIk fOr fOf fOw:Addr}{fd fdS fdW fdX fdO:FuncData} (hC:Calm CX) (KC:KCls K mg C fI) (KS:KsCls K mg CK fIk fOr fOf fOw) (F:Fun K "situations" "situations" sSits f fd) (DS:Def K mg "states" sStates ["kind"] fS fdS) (DW:Def K mg "all_wished" sAllWished ["kind"] fW fdW) (DX:Def K mg "owner_states" sOwnerStates ["kinds", "kind"] fX fdX)
  (GS:FnOk P w K mg base CX 2 fS fdS ["kind"] (spStates C)) (GW:FnOk P w K mg base CX 2 fW fdW ["kind"] (spWishes C)) (GX:FnOk P w K mg base CX 3 fX fdX ["kinds", "kind"] (spOwnSt CK C)) (GO:FnOk P w K mg base CX 2 fOf fdO ["self", "name"] (spOf CK)) (bO:Binds K fdO ["self", "name"] []) :
  FnOk P w K mg base CX 4 f fd ["kinds", "kind"] (spSits CK C):=by
 refine Fun.okC F scSi (fun vs H Q E h=>?_) (fun cdv A outer s H vs Q E hr h=>?_)
 ·obtain ⟨q,rs,r,rfl,_⟩:=h;rfl
 ·obtain ⟨q,rs,r,rfl,kd,rp,mr,small9,k⟩:=h;have nd:=scSi.nd;have hr2:=hr.mono (show 2≤3 by decide)
  refine ⟨_,zA4 (zAa (i:=2) nd rfl (Or.inr rfl) (zD8 (pv 0) KS.cl KS.mOf GO hr2 bO .nil (passC hC) (zA0 (pv 1) zA3)))
     (zA4 (zAa (i:=3) nd rfl (Or.inl rfl) (zAf zBz (zAe (zA0 zB7 zA3)) (zA9 GS hr2 rfl DS.at_ DS.fn.kp DS.bind .nil (passC hC) (zA0 (pv 2) zA3))))
     (zA4 (zAa (i:=4) nd rfl (Or.inl rfl) (zAe zA3))
     (zA4 (zB5 PassesOwn.never rfl (zAb (zA9 GW hr2 rfl DW.at_ DW.fn.kp DW.bind .nil (passC hC) (zA0 (pv 2) zA3))) (zA8 (i:=5) nd rfl (Or.inr rfl))
     (zA6 (zB5 PassesOwn.never rfl (zAb (zA9 GX hr rfl DX.at_ DX.fn.kp DX.bind .nil (passC hC) (zA0 (pv 0) (zA0 (pv 2) zA3)))) (zA8 (i:=6) nd rfl (Or.inr rfl))
     (zA6 (zB3 (zCv PySem.F.plainAttrs_list PySem.F.slot_list_extend PySem.F.type_list_extend zCa (pv 4) (zA0 (zAj (T:=["state"]) rfl ScOk.auto (zAb (pv 3)) (fun _ _ _ _=>zA8 (i:=7) (by decide +kernel:(["kinds", "kind", "of_kind", "own_states", "found", "wished", "owner_state", "state"]:List Str).Nodup) rfl (Or.inl rfl)) (fun _ _ _ _=>zAt) (fun _ _ _ _=>(zAw (zA0 (zBr (K:=K) rfl (pv 2) rfl) (zA0 (pv 5) (zA0 (pv 6) (zA0 (pv 7) zA3))))))) zA3)))))))
     (zA6 (zAg (pv 4)))))),?_⟩
  have small:∀ n:Nat,n≤1000→n≤sizeLine:=fun n h=>Zq (small1000 h);have okr:=rp.ok r mr;obtain ⟨d,kvs,p,ka,vv,kf⟩:=kd.kind mr;obtain ⟨⟨dxk,hq⟩,rd⟩:=id ka;refine ⟨_,rfl,q,dxk,_,rfl,hq,ks_no _ (by decide),_,rfl,q,d,kvs,r.name,.ref p,rfl,okr.1,ka,vv,fun H1 s1=>?_⟩;refine ⟨by show 1≤sizeLine;exact small 1 (by decide),fun l0 hl0=>⟨_,rfl,p,r,rfl,kf.same (s1.trans (Same.new hl0)),okr.2,fun l2 H2 s2 n2 h2=>?_⟩⟩;obtain ⟨l3,ss,e3,_,h3,_,hss⟩:=h2.list_inv;cases e3;have ssl:ss.length≤8:=by rw [hss.length,Z0];exact zCu okr.2
  refine ⟨l0,l2,_,_,rfl,rfl,s2 _ _ zA1,h3,small _ (by simp;omega),fun ls hls=>?_⟩;have sA:Same H (upd H2 ls (.lst ([V.non]++ss))):=(s1.trans (Same.new hl0)).trans (s2.trans (Same.new hls));have eS:(upd H2 ls (.lst ([V.non]++ss))) ls=some (.lst ([V.non]++ss)):=zA1;have pS:Paired (OptAt (upd H2 ls (.lst ([V.non]++ss)))) ([V.non]++ss) (nowS r):=.cons rfl (zC2 (by rw [Zo];exact hss.mono (Same.new hls)));generalize upd H2 ls (.lst ([V.non]++ss))=HA at sA eS pS ⊢;generalize hns:[V.non]++ss=ns at eS pS ⊢;have nsl:ns.length≤9:=by rw [← hns];simp;omega
  refine ⟨Zm _,fun lf hlf=>?_⟩;have sF:Same HA (upd HA lf (.lst [])):=Same.new hlf;have eF:(upd HA lf (.lst [])) lf=some (.lst []):=zA1;generalize upd HA lf (.lst [])=HF at sF eF ⊢;refine ⟨_,rfl,p,r,rfl,kf.same (sA.trans sF),okr.2,fun lw HW sW nW hW=>?_⟩;obtain ⟨lw',wv,e,_,hlw,_,hwv⟩:=hW.list_inv;cases e;have pW:Paired (OptAt HW) wv (wishes r.fields):=zC2 hwv;have wl:wv.length=(wishes r.fields).length:=pW.length;have eW:HW lf=some (.lst []):=sW _ _ eF;have nlw:lw≠lf:=fun z=>by rw [z,eF] at nW;cases nW
  have nls:ls≠lf:=fun z=>by rw [z,hlf] at eS;cases eS
  have sL:sitsOf rs r=(wishes r.fields).flatMap (colS rs r):=rfl;rw [zCx] at small9
  refine ⟨lw,rfl,⟨_,SqL.of hlw⟩,zAy (K:=K) (a:=lw) (xs:=wv) (fun i σ H2=>∃ (x5 x6:Option V) (zs:List V),σ = [some (.ref q),some (.str r.name),some (.ref p),some (.ref ls),some (.ref lf),x5,x6]∧ButL lf HW H2∧H2 lf=some (.lst zs)∧HasAll (fun a=>∃ ys,H2 a=some (.tup ys)) H2 zs (((wishes r.fields).take i).flatMap (colS rs r)))
   ⟨none,none,[],rfl,fun _ _ e _=>e,eW,.nil⟩ (fun i σ H2 _ ⟨_,_,_,_,b2,_⟩=>SqL.of (b2 _ _ hlw nlw)) ?_ ?_⟩
  ·rintro i x σ H2 hi ⟨x5,x6,zs,rfl,b2,h2,hz⟩;obtain ⟨wO,ew,hw⟩:=zB6 pW hi;have il:i < (wishes r.fields).length:=(List.getElem?_eq_some_iff.mp ew).1;have sH2:Same H H2:=fun b o e=>b2 _ _ (sW _ _ (sF _ _ (sA _ _ e))) (zA2 (sA _ _ e) hlf);refine ⟨_,rfl,_,rfl,q,p,rs,r,rfl,kd.same sH2,rp,mr,kf.same sH2,fun lo xo H3 s3 n3 h3 hpo=>?_⟩;have ol:xo.length=(ownS rs r).length:=hpo.length;have nlo:lo≠lf:=fun z=>by rw [z,h2] at n3;cases n3
   have h3f:=s3 _ _ h2;have tG:∀ {H4:Hp},ButL lf H3 H4→∀ c ys,H3 c=some (.tup ys)→H4 c=some (.tup ys):=fun b=>b.tup h3f
   refine ⟨lo,rfl,⟨_,SqL.of h3⟩,zAy (K:=K) (a:=lo) (xs:=xo) (fun j σ H4=>∃ (x6:Option V) (zs4:List V),σ = [some (.ref q),some (.str r.name),some (.ref p),some (.ref ls),some (.ref lf),some x,x6]∧ButL lf H3 H4∧H4 lf=some (.lst zs4)∧HasAll (fun a=>∃ ys,H4 a=some (.tup ys)) H4 zs4 (((wishes r.fields).take i).flatMap (colS rs r)++((ownS rs r).take j).flatMap (rowS r wO)))
    ⟨_,zs,rfl,fun _ _ e _=>e,h3f,?_⟩ (fun j σ H4 _ ⟨_,_,_,b4,_⟩=>SqL.of (b4 _ _ h3 nlo)) ?_ ?_⟩
   ·rw [List.take_zero,List.flatMap_nil,List.append_nil];exact hz.frame fun b o ⟨ys,g⟩ e=>⟨⟨ys,s3 _ _ g⟩,s3 _ _ e⟩
   ·rintro j y σ H4 hj ⟨x6',zs4,rfl,b4,h4,hz4⟩;obtain ⟨oO,eo,ho⟩:=zB6 hpo hj;have jl:j < (ownS rs r).length:=(List.getElem?_eq_some_iff.mp eo).1;have zl:zs4.length=i * ((ownS rs r).length * (nowS r).length) + j * (nowS r).length:=by
     rw [hz4.length,Z8,zBy (n:=(ownS rs r).length * (nowS r).length) (fun w _=>zF1 rs r w),zBy (n:=(nowS r).length) (fun o _=>zEf r wO o),Zt,Zt,Nat.min_eq_left (by omega),Nat.min_eq_left (by omega)]
    have b1:j * (nowS r).length + (nowS r).length≤(ownS rs r).length * (nowS r).length:=by
     have:=Nat.mul_le_mul_right (nowS r).length (show j + 1≤(ownS rs r).length from jl)
     rwa [Y6] at this
    have b2':i * ((ownS rs r).length * (nowS r).length) + (ownS rs r).length * (nowS r).length≤(wishes r.fields).length * ((ownS rs r).length * (nowS r).length):=by
     have:=Nat.mul_le_mul_right ((ownS rs r).length * (nowS r).length) (show i + 1≤(wishes r.fields).length from il)
     rwa [Y6] at this
    have nl:ns.length=(nowS r).length:=pS.length;have sAF:∀ b o,HA b=some o→H4 b=some o:=fun b o e=>b4 _ _ (s3 _ _ (b2 _ _ (sW _ _ (sF _ _ e)) (zA2 e hlf))) (zA2 e hlf);have eS4:=sAF _ _ eS;have hw4:OptAt H4 x wO:=(hw.keep (b2.tup eW)).keep fun b xs e=>tG b4 _ _ (s3 _ _ e);have ho4:OptAt H4 y oO:=ho.keep (tG b4);obtain ⟨dx,lfi,hp,_⟩:=id kf;have hp4:=sAF _ _ (sA _ _ hp);refine ⟨_,rfl,.inl ⟨rfl,zs4,SqL.of h4⟩,_,rfl,ls,rfl,⟨_,SqL.of eS4⟩,zAc (xs:=ns) (fun k ys H5=>Same H4 H5∧HasAll (fun a=>∃ zs,H5 a=some (.tup zs)) H5 ys (((nowS r).take k).map (sitD r.name wO oO))) ⟨Same.refl _,.nil⟩ (fun k ys H5 z=>SqL.of (z.1 _ _ eS4)) (fun k ys H5 hk z=>?_) ?_ ?_⟩
    ·have:=z.2.length;rw [Z0] at this;have:=Zl k (nowS r);exact small _ (by omega)
    ·rintro k' v ys H5 hk ⟨s5,hys⟩ N hN;obtain ⟨sO,es,hs⟩:=zB6 pS hk;refine pick ⟨_,rfl,p,C,dx,_,_,rfl,s5 _ _ hp4,KC.cl,KC.nN,zDi _ _ _,_,rfl,_,rfl,_,rfl,by show 4≤sizeLine;exact small 4 (by decide),fun t ht=>hN _ _ ⟨s5.trans (Same.new ht),?_⟩⟩;rw [Z4,es,Z9];refine HasAll.snoc (hys.frame fun b o ⟨zs,g⟩ e=>⟨⟨zs,(Same.new ht) _ _ g⟩,(Same.new ht) _ _ e⟩) ?_;have up:∀ {u:V}{w:Option (List (Option Str))},OptAt H4 u w→OptAt (upd H5 t (.tup [.str r.name,x,y,v])) u w:=fun h=>h.keep fun b xs e=>(Same.new ht) _ _ (s5 _ _ e);have hs4:OptAt H4 v sO:=hs.keep fun b xs e=>sAF _ _ e
     exact .tup ⟨_,zA1⟩ zA1 (by show 4≤1000;decide) (.cons (.str _ (Zk okr.1.2.2 (by decide)) okr.1.2.1) (.cons ((up hw4).has (wi_ok okr.2 wO (Z3 ew)) fun a xs e=>⟨xs,e⟩)
      (.cons ((up ho4).has (own_ok rp mr oO (Z3 eo)) fun a xs e=>⟨xs,e⟩) (.cons ((up hs4).has (now_ok okr.2 sO (Z3 es)) fun a xs e=>⟨xs,e⟩) .nil))))
    ·rintro ys H5 ⟨s5,hys⟩ lc hlc;rw [nl,Za] at hys;have lys:ys.length=(nowS r).length:=by rw [hys.length,Z0]
     have hf5:=s5 _ _ h4;have ncf:lc≠lf:=(zA2 hf5 hlc).symm;refine ⟨lf,lc,zs4,ys,rfl,rfl,(Same.new hlc) _ _ hf5,zA1,small _ (by omega),⟨_,zs4++ys,rfl,fun b' o' e' n'=>?_,zA1,?_⟩⟩
     ·rw [zA5 n'];exact (Same.new hlc) _ _ (s5 _ _ (b4 _ _ e' n'))
     ·have fin:∀ b xs,H5 b=some (.tup xs)→(upd (upd H5 lc (.lst ys)) lf (.lst (zs4++ys))) b=some (.tup xs):=fun b xs e=>by
       have nb:b≠lf:=by rintro rfl;rw [hf5] at e;cases e
       rw [zA5 nb];exact (Same.new hlc) _ _ e
      rw [Z4,eo,List.flatMap_append,← List.append_assoc];refine HasAll.append (hz4.frame fun b o ⟨zs,g⟩ e=>?_) ?_
      ·rw [g] at e;cases e;exact ⟨⟨_,fin _ _ (s5 _ _ g)⟩,fin _ _ (s5 _ _ g)⟩
      ·have e1:(Option.toList (some oO)).flatMap (rowS r wO)=(nowS r).map (sitD r.name wO oO):=by
        show [oO].flatMap (rowS r wO)=_;rw [Zz,List.flatMap_nil,List.append_nil];rfl
       rw [e1];refine hys.frame fun b o ⟨zs,g⟩ e=>?_;rw [g] at e;cases e;exact ⟨⟨_,fin _ _ g⟩,fin _ _ g⟩
   ·rintro σ H4 ⟨x6',zs4,rfl,b4,h4,hz4⟩;rw [ol,Za] at hz4;refine ⟨some x,x6',zs4,rfl,fun b o e n=>b4 _ _ (s3 _ _ (b2 _ _ e n)) n,h4,?_⟩;rw [Z4,ew,List.flatMap_append];have e1:(Option.toList (some wO)).flatMap (colS rs r)=(ownS rs r).flatMap (rowS r wO):=by
     show [wO].flatMap (colS rs r)=_;rw [Zz,List.flatMap_nil,List.append_nil];rfl
    rw [e1];exact hz4
  ·rintro σ H2 ⟨x5,x6,zs,rfl,b2,h2,hz⟩;rw [wl,Za] at hz;exact ⟨_,rfl,k lf zs H2 (fun b o e=>b2 _ _ (sW _ _ (sF _ _ (sA _ _ e))) (zA2 (sA _ _ e) hlf)) (sA.free hlf) h2 hz⟩
end
end L2.W
namespace L2.W
open PySem My
structure XTop (K:PySem.W.Frag) (mg:Str→Option Value) (x:Str) (CN:Addr):Prop where
 at_:mg x=some (.ref CN)
 cl:PySem.W.excIn K CN [.type "ValueError",.type "Exception",.type "BaseException",.type "object"] "ValueError.__new__" = true
inductive NoNm (K:PySem.W.Frag) (H:Hp) (kvs:List (Key×V)):V→Prop where
 | ty {v:V}{t:Value} (h:TyOf K H v t) (e:PySem.W.kitOne K t (.type "str")=some false):NoNm K H kvs v
 | st {n:Str} (l:n.length≤1000) (h:nameB n=false):NoNm K H kvs (.str n)
 | out {n:Str} (l:n.length≤1000) (h:nameB n=true) (e:valV kvs (Sum.inr n)=none):NoNm K H kvs (.str n)
noncomputable def Refused (C1:Addr) (H:Hp) (E:XK):Prop:=∀ (e:Addr) (H':Hp),H e=none→H' e=some (XO C1 e)→Same H H'→E (.ref C1) (some e) H'
noncomputable def spOfNo (K:PySem.W.Frag) (CK C1:Addr):Sp:=fun vs H _ E=>∃ (p d:Addr) (kvs:List (Key×V)) (v:V),vs=[.ref p,v]∧NoNm K H kvs v∧KindsAt CK H p d kvs∧Refused C1 H E
section
variable {P:Program}{w:World}{K:PySem.W.Frag}{mg:Str→Option Value}{base:Heap}
theorem ok_ofNo {f fn CK C1 fIk fOr fOf fOw:Addr}{fd fdn:FuncData} (T:Tops K mg) (XN:XTop K mg "NoName" C1) (KS:KsCls K mg CK fIk fOr fOf fOw) (F:Fun K "of" "Kinds.of" sOf f fd) (DN:Def K mg "is_name" sIsName ["thing"] fn fdn):FnOk P w K mg base (CXM P w) 2 f fd ["self", "name"] (spOfNo K CK C1):=by
 have GN:FnOk P w K mg base (CXM P w) 1 fn fdn ["thing"] (spIsName K):=ok_isName DN.fn T;refine Fun.okX F scOf (fun vs H Q E h=>?_) (fun cdv A outer s H vs Q E hr h=>?_)
 ·obtain ⟨p,d,kvs,v,rfl,_⟩:=h;rfl
 ·obtain ⟨p,d,kvs,v,rfl,bad,⟨⟨dx,hp⟩,rd⟩,k⟩:=h;have hu:=hu_of hr
  refine ⟨_,zA4 (zBg (PW.pt (zEg (zBe (zBd (zA9 GN hr rfl DN.at_ DN.fn.kp DN.bind .nil (passC calmM) (zA0 (pv 1) zA3)))) (zC7 (zBp (zBt hu (pv 1) (zBs (pv 0) rfl)))))) (zA6 (zEj (C:=C1) (W:=fun _ e H'=>E (.ref C1) (some e) H') XN.cl rfl XN.at_ rfl (zA0 zAi zA3) (fun pins σ H s e I he fr w=>xe_new I he (.inl fr) w))) zAl)
   zAs,?_⟩
  have raised:∀ H1:Hp,Same H H1→1≤sizeLine∧∀ e,H1 e=none→E (.ref C1) (some e) (upd H1 e (XO C1 e)):=fun H1 s1=>⟨Zq (small1000 (by decide)),fun e he=>k e _ (s1.free he) zA1 (s1.trans (Same.new he))⟩;cases bad with
  | ty h e=>exact ⟨_,rfl,.inr ⟨_,_,rfl,h,e,_,rfl,iteT (raised _ (Same.refl _))⟩⟩
  | @st n l h =>
   refine ⟨_,rfl,.inl ⟨n,rfl,l,fun H1 s1=>⟨_,rfl,?_⟩⟩⟩;rw [h];exact iteT (raised _ s1)
  | @out n l h e =>
   refine ⟨_,rfl,.inl ⟨n,rfl,l,fun H1 s1=>⟨_,rfl,?_⟩⟩⟩;rw [h];refine iteF ⟨_,rfl,_,rfl,p,CK,dx,_,_,rfl,s1 _ _ hp,KS.cl,KS.nB,ks_by _,d,_,rfl,.inl ⟨kvs,Sum.inr n,rd_same s1 rd,rfl,rfl⟩,_,rfl,?_⟩;rw [e];exact iteT (raised _ s1)
end
end L2.W
namespace L2.W
open PySem My
noncomputable def spSitsNo (K:PySem.W.Frag) (CK C1:Addr):Sp:=fun vs H _ E=>∃ (q d:Addr) (kvs:List (Key×V)) (v:V),vs=[.ref q,v]∧NoNm K H kvs v∧KindsAt CK H q d kvs∧Refused C1 H E
structure NoN (K:PySem.W.Frag) (mg:Str→Option Value) (CN:Addr):Prop where
 no:XTop K mg "NoName" CN
 exm:PySem.W.exmOne K (.ref CN) (.ref CN)=some true
noncomputable def spStrange (K:PySem.W.Frag) (CK:Addr):Sp:=fun vs H Q _=>∃ (q d:Addr) (kvs:List (Key×V)) (v:V),vs=[.ref q,v]∧NoNm K H kvs v∧KindsAt CK H q d kvs∧∀ H',Same H H'→Q (.bl true) H'
section
variable {P:Program}{w:World}{K:PySem.W.Frag}{mg:Str→Option Value}{base:Heap}
theorem ok_sitsNo {f C1 CK fIk fOr fOf fOw:Addr}{fd fdO:FuncData} (KS:KsCls K mg CK fIk fOr fOf fOw) (F:Fun K "situations" "situations" sSits f fd) (GO:FnOk P w K mg base (CXM P w) 2 fOf fdO ["self", "name"] (spOfNo K CK C1)) (bO:Binds K fdO ["self", "name"] []) :
  FnOk P w K mg base (CXM P w) 4 f fd ["kinds", "kind"] (spSitsNo K CK C1):=by
 refine Fun.okX F scSi (fun vs H Q E h=>?_) (fun cdv A outer s H vs Q E hr h=>?_)
 ·obtain ⟨q,d,kvs,v,rfl,_⟩:=h;rfl
 ·obtain ⟨q,d,kvs,v,rfl,bad,ka,k⟩:=h;have nd:=scSi.nd;have hr2:=hr.mono (show 2≤3 by decide)
  refine ⟨_,zA4 (zAa (i:=2) nd rfl (Or.inr rfl) (zD8 (pv 0) KS.cl KS.mOf GO hr2 bO .nil pass_on (zA0 (pv 1) zA3)))
     zAs,?_⟩
  obtain ⟨⟨dxk,hq⟩,rd⟩:=id ka;exact ⟨_,rfl,q,dxk,_,rfl,hq,ks_no _ (by decide),_,rfl,q,d,kvs,v,rfl,bad,ka,k⟩
theorem scSg:FnScope ["_law_kinds_here", "_law_name", "_law_word"] ["_law_kinds_here", "_law_name"] (defScope sStrange):=⟨rfl,rfl,rfl,by decide +kernel,rfl,by decide +kernel,by decide +kernel⟩
theorem ok_strange {f fg CK CN:Addr}{fd fdg:FuncData} (N:NoN K mg CN) (F:Fun K "_law_strange" "_law_strange" sStrange f fd) (DG:Def K mg "situations" sSits ["kinds", "kind"] fg fdg) (GG:FnOk P w K mg base (CXM P w) 4 fg fdg ["kinds", "kind"] (spSitsNo K CK CN)):FnOk P w K mg base (CXM P w) 5 f fd ["_law_kinds_here", "_law_name"] (spStrange K CK):=by
 refine Fun.okX F scSg (fun vs H Q E h=>?_) (fun cdv A outer s H vs Q E hr h=>?_)
 ·obtain ⟨q,d,kvs,v,rfl,_⟩:=h;rfl
 ·obtain ⟨q,d,kvs,v,rfl,bad,ka,k⟩:=h;have nd:=scSg.nd
  refine ⟨_,zA4 (zAa (i:=2) nd rfl (Or.inl rfl) zDr)
     (zA4 (ps_tryN (B:=CN) rfl rfl rfl rfl N.no.at_ (fun pins W=>zA6 (zB3 (zA9 GG hr rfl DG.at_ DG.fn.kp DG.bind .nil (pass_try rfl) (zA0 (pv 0) (zA0 (pv 1) zA3))))) (fun e=>zA6 (zAa (i:=2) nd rfl (Or.inl rfl) zDr)))
     (zA6 (zAg (pv 2)))),?_⟩
  refine ⟨fun σ' e C' H'=>C'=CN∧σ'=[some (.ref q),some v,some (.bl false)]∧Same H H',?_,?_⟩
  ·exact ⟨_,rfl,_,rfl,q,d,kvs,v,rfl,bad,ka,fun e H' _ _ s'=>⟨e,CN,rfl,rfl,rfl,rfl,s'⟩⟩
  ·rintro σ' e C' H' he ⟨rfl,rfl,s0⟩;exact ⟨N.exm,_,rfl,k H' s0⟩
end
end L2.W
namespace L2.W
open PySem My
noncomputable def gD (g:Str×List (Option Str)):PyData:=.tuple [.str g.1,.list (g.2.map ownD)]
theorem g_inv {G:Addr→Prop}{H:Hp}{v:V}{g:Str×List (Option Str)} (h:Has G H v (gD g)):∃ a l,v=.ref a∧H a=some (.tup [.str g.1,.ref l])∧H l=some (.lst (g.2.map ownV)):=by
 obtain ⟨a,xs,rfl,_,ha,_,hx⟩:=h.tup_inv;cases hx with
 | cons h1 hx =>
  cases hx with
  | cons h2 hx =>
   cases hx;obtain ⟨rfl,_⟩:=h1.str_inv;obtain ⟨l,ys,rfl,_,hl,_,hy⟩:=h2.list_inv;rw [zCh hy] at hl;exact ⟨a,l,rfl,ha,hl⟩
noncomputable def spLst:Sp:=fun vs H Q _=>∃ (l:Addr) (gs:List (Str×List (Option Str))),vs=[.ref l]∧Has Any H (.ref l) (.list (gs.map gD))∧gs.length≤3∧(∀ f∈gs.map (·.2),0 < f.length∧∀ x∈f,atOk x)∧manyA (gs.map (·.2))≤900 ∧
 ∀ (l:Addr) (H':Hp),Same H H'→H l=none→Has (fun _=>True) H' (.ref l) (picksD (gs.map (·.2)))→Q (.ref l) H'
section
variable {P:Program}{w:World}{K:PySem.W.Frag}{mg:Str→Option Value}{base:Heap}{CX:CXT}
theorem scLs:FnScope ["_law_fields", "_law_found", "_law_field", "_law_values", "_law_longer", "_law_some"] ["_law_fields"] (defScope sLStates):=⟨rfl,rfl,rfl,by decide +kernel,rfl,by decide +kernel,by decide +kernel⟩
set_option maxHeartbeats 1000000 in
theorem ok_lst {f:Addr}{fd:FuncData} (F:Fun K "_law_states" "_law_states" sLStates f fd):FnOk P w K mg base CX 1 f fd ["_law_fields"] spLst:=by
 refine Fun.okC F scLs (fun vs H Q E h=>?_) (fun cdv A outer s H vs Q E hr h=>?_)
 ·obtain ⟨l,gs,rfl,_⟩:=h;rfl
 ·obtain ⟨l,gs,rfl,hf,le3',okf,many,q⟩:=h;obtain ⟨fs,hfs⟩:∃ fs,fs=gs.map (·.2):=⟨_,rfl⟩;have le3:fs.length≤3:=by rw [hfs,Z0];exact le3'
  rw [← hfs] at okf many q;have nd:=scLs.nd
  refine ⟨_,zA4 (zAa (i:=1) nd rfl (Or.inl rfl) (zAe (zA0 (zAw zA3) zA3)))
     (zA4 (zB5 PassesOwn.never rfl (zAb (pv 0)) (zD6 rfl (zAh (zA8 (i:=2) nd rfl (Or.inl rfl)) (zAh (zA8 (i:=3) nd rfl (Or.inl rfl)) zBk)))
     (zA4 (zAa (i:=4) nd rfl (Or.inl rfl) (zAe zA3))
     (zA4 (zB5 PassesOwn.never rfl (zAb (pv 1)) (zA8 (i:=5) nd rfl (Or.inr rfl))
     (zA6 (zB3 (zCv PySem.F.plainAttrs_list PySem.F.slot_list_extend PySem.F.type_list_extend zCa (pv 4) (zA0 (zAj (T:=["_law_value"]) rfl ScOk.auto (zAb (pv 3)) (fun _ _ _ _=>zA8 (i:=6) (by decide +kernel:(["_law_fields", "_law_found", "_law_field", "_law_values", "_law_longer", "_law_some", "_law_value"]:List Str).Nodup) rfl (Or.inl rfl)) (fun _ _ _ _=>zAt) (fun _ _ _ _=>(zAf (op_cat2 (K:=K) rfl) (pv 5) (zAw (zA0 (pv 6) zA3))))) zA3)))))
     (zA6 (zAa (i:=1) nd rfl (Or.inl rfl) (pv 4))))))
     (zA6 (zAg (pv 1)))),?_⟩
  have small:∀ n:Nat,n≤1000→n≤sizeLine:=fun n h=>Zq (small1000 h);have okv:∀ f∈fs,∀ x∈f,atOk x:=fun f hf=>(okf f hf).2;have pos:∀ f∈fs,0 < f.length:=fun f hf=>(okf f hf).1;obtain ⟨a,xs,e,_,ha,hz,hx⟩:=hf.list_inv;cases e;refine ⟨by show 0≤sizeLine;exact Zm _,fun t0 ht0=>⟨by show 1≤sizeLine;exact small 1 (by decide),fun f0 hf0=>?_⟩⟩;have s0:Same H (upd (upd H t0 (.tup [])) f0 (.lst [.ref t0])):=(Same.new ht0).trans (Same.new hf0);have h0:Has (fun _=>True) (upd (upd H t0 (.tup [])) f0 (.lst [.ref t0])) (.ref f0) (picksD (fs.take 0)):=.lst trivial zA1 (by show 1≤1000;decide) (.cons (.tup trivial ((Same.new hf0) _ _ zA1) (by show 0≤1000;decide) .nil) .nil);have n0:H f0=none:=(Same.new ht0).free hf0;generalize upd (upd H t0 (.tup [])) f0 (.lst [.ref t0])=H0 at s0 h0 ⊢
  refine ⟨_,rfl,l,rfl,⟨xs,SqL.of (s0 _ _ ha)⟩,zAy (K:=K) (a:=l) (xs:=xs)
   (fun i σ H2=>∃ u0 u v x fl,σ = [some (.ref l),some (.ref fl),u0,u,v,x]∧Same H H2∧H fl=none∧Has (fun _=>True) H2 (.ref fl) (picksD (fs.take i))) ⟨none,none,none,none,f0,rfl,s0,n0,h0⟩ (fun i σ H2 _ ⟨_,_,_,_,_,_,s2,_⟩=>SqL.of (s2 _ _ ha)) ?_ ?_⟩
  ·rintro i x σ H2 hi ⟨u0,u,v,xo,fl,rfl,s2,nf,hst⟩;obtain ⟨d,hd,hv⟩:=hx.get hi;rw [Z6] at hd;cases eg:gs[i]? with
   | none=>rw [eg] at hd;cases hd
   | some g =>
    rw [eg] at hd;cases hd;obtain ⟨f,hfg⟩:∃ f,f=g.2:=⟨_,rfl⟩;have ef:fs[i]? = some f:=by rw [hfs,Z6,eg,hfg];rfl
    have efs:fs.take (i + 1)=fs.take i++[f]:=by rw [Z4,ef];rfl
    have hmf:=Z3 ef;obtain ⟨tt,l2,rfl,htt,hl2⟩:=g_inv hv;rw [← hfg] at hl2;refine ⟨tt,_,rfl,SqT.of (s2 _ _ htt),rfl,_,_,rfl,_,_,rfl,rfl,?_⟩;refine ⟨by show 0≤sizeLine;exact Zm _,fun lo hlo=>?_⟩;have s3:Same H2 (upd H2 lo (.lst [])):=Same.new hlo;have e3:(upd H2 lo (.lst [])) lo=some (.lst []):=zA1;obtain ⟨c,ss,ec,_,hc,hcz,hss⟩:=hst.list_inv;cases ec;have lss:ss.length=manyA (fs.take i):=by rw [hss.length,Z0,zAo]
    have mle:manyA (fs.take i)≤900:=Zk (zBx fs pos i) many;have mle2:manyA (fs.take i) * f.length≤900:=by rw [← zCo,← efs];exact Zk (zBx fs pos (i + 1)) many
    refine ⟨_,rfl,fl,rfl,⟨ss,SqL.of (s3 _ _ hc)⟩,zAy (K:=K) (a:=fl) (xs:=ss)
     (fun j σ H4=>∃ x' zs,σ = [some (.ref l),some (.ref fl),some (.str g.1),some (.ref l2),some (.ref lo),x']∧Same H2 H4∧H4 lo=some (.lst zs)∧HasAll (fun a=>a≠lo) H4 zs ((stepA ((allA (fs.take i)).take j) f).map tupA)) ⟨_,[],rfl,s3,e3,.nil⟩ (fun j σ H4 _ ⟨_,_,_,s4,_⟩=>SqL.of (s4 _ _ hc)) ?_ ?_⟩
    ·rintro j y σ H4 hj ⟨x',zs,rfl,s4,h4,hz4⟩;obtain ⟨d,hd,hy⟩:=hss.get hj;rw [Z6] at hd;cases es:(allA (fs.take i))[j]? with
     | none=>rw [es] at hd;cases hd
     | some st =>
      rw [es] at hd;cases hd;obtain ⟨ya,rfl,_,hya⟩:=zEb hy;obtain ⟨stl,sto⟩:=zF4 (fs:=fs.take i) (fun f hf=>okv f (Ya hf)) st (Z3 es);have stl3:st.length≤3:=by
       have:=Zl i fs;have:=le3;omega
      have jlt:j < manyA (fs.take i):=by
       have:=(List.getElem?_eq_some_iff.mp es).1
       rwa [zAo] at this
      have lzs:zs.length=j * f.length:=by
       rw [hz4.length,Z0,zD4,Zt,zAo,Nat.min_eq_left (Zq jlt)]
      have lz9:zs.length + f.length≤900:=by
       have h1:(j + 1) * f.length≤manyA (fs.take i) * f.length:=Nat.mul_le_mul_right _ jlt;rw [Y6] at h1;omega
      refine ⟨_,rfl,.inl ⟨rfl,zs,SqL.of h4⟩,_,rfl,l2,rfl,⟨_,SqL.of (s4 _ _ (s2 _ _ hl2))⟩,zAc (xs:=f.map ownV)
       (fun k ys H5=>Same H4 H5∧HasAll (fun a=>a≠lo) H5 ys ((f.take k).map fun v=>tupA (st++[v]))) ⟨Same.refl _,.nil⟩ (fun k ys H5 z=>SqL.of (z.1 _ _ (s4 _ _ (s2 _ _ hl2)))) (fun k ys H5 hk z=>?_) ?_ ?_⟩
      ·have:=z.2.length;rw [Z0] at this;have:=Zl k f;exact small _ (by omega)
      ·rintro k w ys H5 hk ⟨s5,hys⟩ N hN;rw [Z6] at hk;cases ew:f[k]? with
       | none=>rw [ew] at hk;cases hk
       | some v =>
        rw [ew] at hk;cases hk;refine pick ?_;refine ⟨_,rfl,_,rfl,by show 1≤sizeLine;exact small 1 (by decide),fun t1 ht1=>?_⟩;refine cat2_by (K:=K) (xs:=st.map ownV) (ys:=[ownV v]) ((Same.new ht1) _ _ (s5 _ _ (s4 _ _ hya))) zA1 (by rw [Z0];exact small _ (by simp;omega)) fun p' H6 s6 h6=>hN _ _ ⟨(s5.trans (Same.new ht1)).trans s6,?_⟩;rw [Z4,ew,Z9];have hlo6:H6 lo=some (.lst zs):=s6 _ _ ((Same.new ht1) _ _ (s5 _ _ h4));refine HasAll.snoc (hys.mono ((Same.new ht1).trans s6)) (zEc (fun z=>?_) (by rw [h6,Z9];rfl) (by simp;omega) fun x hx=>?_)
        ·rw [z,hlo6] at h6;cases h6
        ·rcases List.mem_append.mp hx with hx | hx
         ·exact sto x hx
         ·have:x=v:=by simpa using hx
          subst this;exact okv f hmf _ (Z3 ew)
      ·rintro ys H5 ⟨s5,hys⟩ r hr';rw [Z0,Za] at hys;have lys:ys.length=f.length:=by rw [hys.length,Z0]
       have nr:r≠lo:=(zA2 (s5 _ _ h4) hr').symm;refine ⟨lo,r,zs,ys,rfl,rfl,(Same.new hr') _ _ (s5 _ _ h4),zA1,small _ (by omega),⟨_,zs++ys,rfl,fun b' o' e'=>?_,zA1,?_⟩⟩
       ·rw [zA5 (zA2 e' hlo)];exact (Same.new hr') _ _ (s5 _ _ (s4 _ _ e'))
       ·have eq:stepA ((allA (fs.take i)).take (j + 1)) f=stepA ((allA (fs.take i)).take j) f++f.map fun v=>st++[v]:=by
         rw [Z4,es];unfold stepA;rw [List.flatMap_append];simp
        rw [eq,Z9,Zo];refine HasAll.append ((hz4.mono (s5.trans (Same.new hr'))).frame fun b' o' g' e'=>⟨g',by rw [zA5 g'];exact e'⟩) ((hys.mono (Same.new hr')).frame fun b' o' g' e'=>⟨g',by rw [zA5 g'];exact e'⟩)
    ·rintro σ H4 ⟨x',zs,rfl,s4,h4,hz4⟩;have eq:(allA (fs.take i)).take ss.length=allA (fs.take i):=by rw [lss,← zAo,Za]
     rw [eq,← zCi,← efs] at hz4;have lzs:zs.length≤1000:=by
      rw [hz4.length,Z0,zAo];have:=zBx fs pos (i + 1);have:=many;omega
     exact ⟨_,rfl,_,_,_,_,lo,rfl,s2.trans s4,s2.free hlo,.lst trivial h4 lzs hz4.any⟩
  ·rintro σ H2 ⟨u0,u,v,xo,fl,rfl,s2,nf,hst⟩;have e:xs.length=fs.length:=by rw [hx.length,Z0,hfs,Z0]
   rw [e,Za] at hst;exact ⟨_,rfl,q fl H2 s2 nf hst⟩
end
end L2.W
namespace L2.W
open PySem My
noncomputable def rdyB (found:List Row) (r:Row):Bool:=match r.owner with
 | none=>true
 | some o=>decide (o∈found.map (·.name))
noncomputable def ordGo:Nat→List Row→List Row→List Row
 | 0,_,found=>found
 | k + 1,left,found=>match left.filter (rdyB found) with
  | []=>found
  | r :: _=>ordGo k (left.filter fun q=>!decide (q.name=r.name)) (found++[r])
noncomputable def sortR (rs:List Row):List Row:=(byName (rs.map (·.name))).filterMap fun i=>rs[i]?
noncomputable def ordR (rs:List Row):List Row:=ordGo rs.length (sortR rs) []
theorem zEz {α : Type}:∀ (l pre:List α),(List.range' pre.length l.length).filterMap (fun i=>(pre++l)[i]?)=l
 | [],pre=>rfl
 | a :: t,pre=>by
  rw [Zi,List.range'_succ,Zy];have e:(pre++a :: t)[pre.length]? = some a:=by simp
  rw [e];have:=zEz t (pre++[a]);rw [Z8,List.length_singleton,List.append_assoc] at this;exact congrArg (a :: ·) this
theorem zDx {rs:List Row} (h:rs.length≤4):(sortR rs).Perm rs:=by
 have hp:=(zBb (ks:=rs.map (·.name)) (by rw [Z0];exact h)).filterMap fun i=>rs[i]?;rw [Z0] at hp;refine hp.trans (List.Perm.of_eq ?_);have:=zEz rs []
 rwa [List.nil_append,Yf,← List.range_eq_range'] at this
theorem but_perm {r:Row}:∀ {l:List Row},(l.map (·.name)).Nodup→r∈l→l.Perm (r :: l.filter fun q=>!decide (q.name=r.name))
 | [],_,h=>nomatch h
 | a :: t,nd,h=>by
  rw [Zr,List.nodup_cons] at nd;by_cases e:a.name=r.name
  ·have hr:r=a:=by
    rcases List.mem_cons.mp h with h | h
    ·exact h
    ·exact absurd (by rw [e];exact List.mem_map_of_mem h) nd.1
   subst hr;have:(r :: t).filter (fun q=>!decide (q.name=r.name))=t:=by
    rw [List.filter_cons_of_neg (by simp)];refine List.filter_eq_self.mpr fun q hq=>?_;have:q.name≠r.name:=fun z=>nd.1 (by rw [← z];exact List.mem_map_of_mem hq);simp [this]
   rw [this]
  ·rw [List.filter_cons_of_pos (by simp [e])];have ht:r∈t:=(List.mem_cons.mp h).resolve_left fun z=>e (by rw [z]);exact ((but_perm nd.2 ht).cons a).trans (List.Perm.swap _ _ _)
structure OrdAt (rs:List Row) (m:Nat) (left found:List Row):Prop where
 go:ordGo m left found=ordR rs
 pm:(found++left).Perm rs
 len:left.length=m
theorem OrdAt.nd {rs:List Row} (rp:RowsP rs) {m:Nat}{left found:List Row} (h:OrdAt rs m left found):((found++left).map (·.name)).Nodup:=(h.pm.map _).nodup_iff.mpr rp.nd
theorem OrdAt.first {rs:List Row} (rp:RowsP rs) {m:Nat}{left found:List Row} (h:OrdAt rs (m + 1) left found):∃ r t,left.filter (rdyB found)=r :: t∧r∈left∧OrdAt rs m (left.filter fun q=>!decide (q.name=r.name)) (found++[r]):=by
 have hl:=h.len;have pl:=h.pm.length_eq;rw [Z8] at pl;obtain ⟨r0,m0,n0,o0⟩:=rp.progress (ord:=found.map (·.name)) (by rw [Z0];omega);have ml:r0∈left:=by
  rcases List.mem_append.mp (h.pm.mem_iff.mpr m0) with z | z
  ·exact absurd (List.mem_map_of_mem z) n0
  ·exact z
 have rb:rdyB found r0=true:=by
  unfold rdyB;cases e:r0.owner with
  | none=>rfl
  | some o=>exact decide_eq_true (o0 o e)
 cases ef:left.filter (rdyB found) with
 | nil =>
  have:=List.mem_filter.mpr ⟨ml,rb⟩;rw [ef] at this;cases this
 | cons r t =>
  have mr:r∈left:=by
   have:r∈left.filter (rdyB found):=by rw [ef];exact Zd
   exact (List.mem_filter.mp this).1
  have nd:=h.nd rp;rw [Z9] at nd;have bp:=but_perm (List.nodup_append.mp nd).2.1 mr;refine ⟨r,t,rfl,mr,?_,?_,?_⟩
  ·rw [← h.go,ordGo,ef]
  ·rw [List.append_assoc];exact (List.Perm.append_left found bp.symm).trans h.pm
  ·have:=bp.length_eq;rw [Zi] at this;omega
theorem ord_start {rs:List Row} (h:rs.length≤4):OrdAt rs rs.length (sortR rs) []:=⟨rfl,zDx h,(zDx h).length_eq⟩
theorem in_own (o:Option Str) (ks:List Str):inV (ownV o) (.non :: ks.map V.str)=(match o with | none=>true | some o=>decide (o∈ks)):=by
 cases o with
 | none=>rfl
 | some o =>
  show (eqV .non (.str o) || (ks.map V.str).any fun y=>eqV y (.str o))=decide (o∈ks);rw [show eqV .non (.str o)=false from rfl,Bool.false_or,List.any_map];rw [Y7,List.any_eq_true,decide_eq_true_eq];constructor
  ·rintro ⟨x,hx,e⟩;have:x=o:=eq_of_beq (show (x == o)=true from e);rw [← this];exact hx
  ·exact fun h=>⟨o,h,beq_self_eq_true o⟩
theorem row_eqv {G:Addr→Prop}{H:Hp}{v:V}{rs:List Row} (rp:RowsP rs) {r q:Row} (hr:r∈rs) (hq:q∈rs) (hv:Has G H v (rowD r)):PyData.eqv (rowD r) (rowD q)=decide (r.name=q.name):=by
 by_cases e:r.name=q.name
 ·rw [rp.one hr hq e] at hv ⊢;rw [hv.eqv,decide_eq_true rfl]
 ·rw [decide_eq_false e];unfold rowD;rw [PyData.eqv,PyData.eqvAll];have:PyData.eqv (.str r.name) (.str q.name)=false:=by
   rw [PyData.eqv]
   simpa using e
  rw [this];rfl
theorem rows_left {G:Addr→Prop}{H:Hp}{xs:List V}{rs:List Row} (h:HasAll G H xs (rs.map rowD)):∀ l:List Nat,(∀ i∈l,i < rs.length)→HasAll G H (l.map fun i=>xs.getD i .non) ((l.filterMap fun i=>rs[i]?).map rowD)
 | [],_=>.nil
 | i :: t,hl=>by
  have hi:=hl i Zd;have xl:xs.length=rs.length:=by rw [h.length,Z0]
  obtain ⟨d,hd,hx⟩:=h.get (i:=i) (x:=xs[i]) (Z1 (by omega));rw [Z6,Z1 hi] at hd;cases hd;have e1:xs.getD i .non=xs[i]:=by simp [List.getD,Z1 (show i < xs.length by omega)]
  rw [Zr,e1,Zy,Z1 hi];exact .cons hx (rows_left h t fun j hj=>hl j (Z5 _ hj))
end L2.W
namespace L2.W
open PySem My
theorem zE6:∀ ks:List Str,PyData.depthAll (ks.map PyData.str)≤1
 | []=>by decide
 | k :: r=>by
  have:=zE6 r;show max (PyData.depth (.str k)) (PyData.depthAll (r.map PyData.str))≤1;have h1:PyData.depth (.str k)≤1:=by first | decide | (show 0≤1;decide) | (show 1≤1;decide) | simp [PyData.depth]
  omega
theorem zCs:∀ fs:List (Str×List Str),PyData.depthAll (fs.map fieldD)≤4
 | []=>by decide
 | f :: r=>by
  have h2:=zCs r;have h1:=zE6 f.2;show max (PyData.depth (fieldD f)) (PyData.depthAll (r.map fieldD))≤4;have h3:PyData.depth (fieldD f)≤4:=by
   show max (PyData.depth (.str f.1)) (max (PyData.depthAll (f.2.map PyData.str) + 1) (PyData.depthAll [])) + 1≤4;have h4:PyData.depth (.str f.1)≤1:=by simp [PyData.depth]
   have h5:PyData.depthAll []≤1:=by decide
   omega
  omega
theorem zCf (o:Option Str):PyData.depth (ownD o)≤1:=by
 cases o with
 | none=>show PyData.depth .none≤1;first | decide | simp [PyData.depth]
 | some x=>show PyData.depth (.str x)≤1;first | decide | (show 0≤1;decide) | (show 1≤1;decide) | simp [PyData.depth]
theorem zDn (r:Row):PyData.depth (rowD r)≤8:=by
 have h1:=zCs r.fields;have h2:=zCf r.owner;show max (PyData.depth (.str r.name)) (max (PyData.depthAll (r.fields.map fieldD) + 1) (max (PyData.depth (ownD r.owner)) 0)) + 1≤8;have h3:PyData.depth (.str r.name)≤1:=by first | decide | (show 0≤1;decide) | (show 1≤1;decide) | simp [PyData.depth]
 omega
theorem zE7:∀ rs:List Row,PyData.depthAll (rs.map rowD)≤8
 | []=>by show 0≤8;decide
 | r :: t=>by
  have h1:=zDn r;have h2:=zE7 t;show max (PyData.depth (rowD r)) (PyData.depthAll (t.map rowD))≤8;omega
theorem depth_rlist (rs:List Row):PyData.depth (.list (rs.map rowD))≤64:=by
 have:=zE7 rs;show PyData.depthAll (rs.map rowD) + 1≤64;omega
noncomputable def spOrd:Sp:=fun vs H Q _=>∃ (G:Addr→Prop) (l:Addr) (rs:List Row),vs=[.ref l]∧Has G H (.ref l) (.list (rs.map rowD))∧RowsP rs∧rs.length≤4 ∧
 ∀ (lo:Addr) (ys:List V) (H':Hp),Same H H'→H lo=none→H' lo=some (.lst ys)→HasAll G H ys ((ordR rs).map rowD)→Q (.ref lo) H'
theorem heads_of {G:Addr→Prop}{H:Hp}{xs:List V}{rs:List Row} (h:HasAll G H xs (rs.map rowD)):Heads H xs (rs.map (·.name)):=by
 refine ⟨by rw [h.length,Z0,Z0],fun i x k e1 e2=>?_⟩;obtain ⟨d,hd,hx⟩:=h.get e1;rw [Z6] at hd e2;cases er:rs[i]? with
 | none=>rw [er] at hd;cases hd
 | some r =>
  rw [er] at hd e2;cases hd;cases e2;obtain ⟨t,lf,rfl,ht,_⟩:=zBf hx;exact ⟨t,_,rfl,ht⟩
section
variable {P:Program}{w:World}{K:PySem.W.Frag}{mg:Str→Option Value}{base:Heap}{CX:CXT}
theorem scOd:FnScope ["_law_spec", "_law_left", "_law_found", "_law_done", "_law_some"] ["_law_spec"] (defScope sLOrder):=⟨rfl,rfl,rfl,by decide +kernel,rfl,by decide +kernel,by decide +kernel⟩
theorem ok_ord {f:Addr}{fd:FuncData} (T:Tops K mg) (F:Fun K "_law_order" "_law_order" sLOrder f fd):FnOk P w K mg base CX 1 f fd ["_law_spec"] spOrd:=by
 refine Fun.okC F scOd (fun vs H Q E h=>?_) (fun cdv A outer s H vs Q E hr h=>?_)
 ·obtain ⟨G,l,rs,rfl,_⟩:=h;rfl
 ·obtain ⟨G,l,rs,rfl,hl,rp,l4,k⟩:=h;have nd:=scOd.nd
  refine ⟨_,zA4 (zAa (i:=1) nd rfl (Or.inl rfl) (zAd (zCw (K:=K) rfl) rfl T.sorted PyProof.Rows.boot_sorted (zA0 (pv 0) zA3)))
     (zA4 (zAa (i:=2) nd rfl (Or.inl rfl) (zAe zA3))
     (zA4 (zCy PassesOwn.never (zAz (op_neD hr.units) (pv 1) (zAe zA3) (nomark _))
     (zA4 (zAa (i:=3) nd rfl (Or.inr rfl) (zAf zBz (zAe (zA0 zB7 zA3)) (zAj (T:=["_law_one"]) rfl ScOk.auto (zAb (pv 2)) (fun _ _ _ _=>zA8 (i:=5) (by decide +kernel:(["_law_spec", "_law_left", "_law_found", "_law_done", "_law_some", "_law_one"]:List Str).Nodup) rfl (Or.inl rfl)) (fun _ _ _ _=>zAt) (fun _ _ _ _=>(zAu (r:=rIxT K) zBu (pv 5) zA7 (fun _ _=>rfl))))))
     (zA4 (zAa (i:=4) nd rfl (Or.inr rfl) (zAj (T:=["_law_one"]) rfl ScOk.auto (zAb (pv 1)) (fun _ _ _ _=>zA8 (i:=5) (by decide +kernel:(["_law_spec", "_law_left", "_law_found", "_law_done", "_law_some", "_law_one"]:List Str).Nodup) rfl (Or.inl rfl)) (fun _ _ _ _=>zE0 (zAz (r:=rIn K false) op_in_seq (zAu (r:=rIxT K) zBu (pv 5) zA7 (fun _ _=>rfl)) (pv 3) rfl)) (fun _ _ _ _=>(pv 5))))
     (zA4 (zB3 (zCv PySem.F.plainAttrs_list PySem.F.slot_list_append PySem.F.type_list_append zBi (pv 2) (zA0 (zAu zAp (pv 4) zA7 (fun _ _=>rfl)) zA3)))
     (zA6 (zB8 (T:=["_law_one"]) (i:=1) rfl ScOk.auto (zAb (pv 1)) (fun _ _ _ _=>zA8 (i:=5) (by decide +kernel:(["_law_spec", "_law_left", "_law_found", "_law_done", "_law_some", "_law_one"]:List Str).Nodup) rfl (Or.inl rfl)) (fun _ _ _ _=>zE0 (zAz (op_neD hr.units) (pv 5) (zAu (r:=rIxL K) zAp (pv 4) zA7 (fun _ _=>rfl)) (nomark _))) (fun _ _ _ _=>(pv 5)) nd rfl rfl rfl))))))
     (zA6 (zAg (pv 2))))),?_⟩
  have small:∀ n:Nat,n≤1000→n≤sizeLine:=fun n h=>Zq (small1000 h);obtain ⟨l',xs,e,_,hl1,hz,hx⟩:=hl.list_inv;cases e;have pm:=zBb (ks:=rs.map (·.name)) (by rw [Z0];exact l4);rw [Z0] at pm;have hs:=rows_left hx (byName (rs.map (·.name))) fun i hi=>List.mem_range.mp (pm.mem_iff.mp hi);refine ⟨_,rfl,l,xs,rs.map (·.name),rfl,SqL.of hl1,heads_of hx,rp.nd,by rw [Z0];exact l4,fun la hla=>?_⟩;generalize hxs:(byName (rs.map (·.name))).map (fun i=>xs.getD i .non)=xL at hs ⊢;have s1:Same H (upd H la (.lst xL)):=Same.new hla;have x1:(upd H la (.lst xL)) la=some (.lst xL):=zA1;generalize upd H la (.lst xL)=H1 at s1 x1 ⊢;refine ⟨Zm _,fun lf hlf=>?_⟩;have s2:Same H1 (upd H1 lf (.lst [])):=Same.new hlf;have x2:(upd H1 lf (.lst [])) lf=some (.lst []):=zA1;generalize upd H1 lf (.lst [])=H2 at s2 x2 ⊢
  refine ⟨fun m σ H'=>∃ (la:Addr) (x3 x4:Option V) (xL yF:List V) (left found:List Row),σ = [some (.ref l),some (.ref la),some (.ref lf),x3,x4]∧Same H H'∧la≠lf∧H' la=some (.lst xL)∧H' lf=some (.lst yF)∧HasAll G H xL (left.map rowD)∧HasAll G H yF (found.map rowD)∧OrdAt rs m left found,
   ⟨rs.length,la,none,none,xL,[],sortR rs,[],rfl,s1.trans s2,zA2 x1 hlf,s2 _ _ x1,x2,hs,.nil,ord_start l4⟩,?_⟩
  rintro m σ H3 ⟨la,x3,x4,xL,yF,left,found,rfl,s3,nlf,ea,ef,hL,hF,oa⟩;have plen:=oa.pm.length_eq;rw [Z8] at plen;have xl:xL.length=left.length:=by rw [hL.length,Z0]
  have yl:yF.length=found.length:=by rw [hF.length,Z0]
  refine ⟨_,rfl,Zm _,fun le hle=>⟨.list (left.map rowD),.list [],.lst trivial ((Same.new hle) _ _ ea) (by omega) (hL.any.mono (s3.trans (Same.new hle))),.lst trivial zA1 (Zm _) .nil,depth_rlist _,by decide,_,rfl,?_⟩⟩;have s4:Same H3 (upd H3 le (.lst [])):=Same.new hle;generalize upd H3 le (.lst [])=H4 at s4 ⊢;cases m with
  | zero =>
   have e0:left=[]:=List.length_eq_zero_iff.mp oa.len;subst e0;rw [show (!PyData.eqv (.list (([]:List Row).map rowD)) (.list []))=false by decide];refine iteF ⟨_,rfl,k lf yF H4 (s3.trans s4) ?_ (s4 _ _ ef) ?_⟩
   ·exact (s1.free hlf)
   ·rw [← show found=ordR rs from oa.go];exact hF
  | succ m =>
   obtain ⟨r,t,ft,mr,oa2⟩:=oa.first rp
   have ne:(!PyData.eqv (.list (left.map rowD)) (.list []))=true:=by
    cases left with
    | nil=>cases mr
    | cons a b =>
     rw [Zr,PyData.eqv];show (!PyData.eqvAll (rowD a :: b.map rowD) [])=true;rw [PyData.eqvAll];rfl
     all_goals (intros;first | contradiction | simp_all)
   rw [ne];have s34:=s3.trans s4;have ea4:=s4 _ _ ea;have ef4:=s4 _ _ ef;refine iteT ⟨fun σ' H'=>∃ (la:Addr) (x3 x4:Option V) (xL yF:List V) (left found:List Row),σ'=[some (.ref l),some (.ref la),some (.ref lf),x3,x4]∧Same H H'∧la≠lf∧H' la=some (.lst xL)∧H' lf=some (.lst yF)∧HasAll G H xL (left.map rowD)∧HasAll G H yF (found.map rowD)∧OrdAt rs m left found,fun σ' H' h=>⟨m,Yb m,h⟩,?_⟩;refine ⟨by show 1≤sizeLine;exact small 1 (by decide),fun l0 hl0=>?_⟩;have s5:Same H4 (upd H4 l0 (.lst [.non])):=Same.new hl0;have x5:(upd H4 l0 (.lst [.non])) l0=some (.lst [.non]):=zA1;generalize upd H4 l0 (.lst [.non])=H5 at s5 x5 ⊢;refine ⟨_,rfl,lf,rfl,⟨_,SqL.of (s5 _ _ ef4)⟩,zAc (xs:=yF) (fun i ys H'=>H'=H5∧ys=(found.take i).map fun q=>V.str q.name) ⟨rfl,rfl⟩ (fun i ys H' z=>by rw [z.1];exact SqL.of (s5 _ _ ef4)) (fun i ys H' hi z=>?_) ?_ ?_⟩
   ·rw [z.2,Z0];have:=Zl i found;exact small _ (by omega)
   ·rintro i x ys H' hi ⟨rfl,rfl⟩ N hN;obtain ⟨d,hd,hv⟩:=hF.get hi;rw [Z6] at hd;cases er:found[i]? with
    | none=>rw [er] at hd;cases hd
    | some q =>
     rw [er] at hd;cases hd;obtain ⟨tt,lq,rfl,ht,_⟩:=zBf hv;refine pick ⟨_,rfl,tt,_,((0:Nat):Int),_,rfl,rfl,SqT.of (s5 _ _ (s34 _ _ ht)),zAr rfl,hN _ _ ⟨rfl,?_⟩⟩;rw [Z4,er,Z9];rfl
   ·rintro ys H' ⟨rfl,rfl⟩ lc hlc;rw [yl,Za];refine ⟨l0,lc,_,_,rfl,rfl,(Same.new hlc) _ _ x5,zA1,small _ (by simp;omega),fun ld hld=>?_⟩;have nms:(found.map fun q=>V.str q.name)=(found.map (·.name)).map V.str:=by rw [Zo];rfl
    rw [nms] at hld ⊢;have s6:=s5.trans ((Same.new (o:=.lst ((found.map (·.name)).map V.str)) hlc).trans (Same.new (o:=.lst ([.non]++(found.map (·.name)).map V.str)) hld));have x6:(upd (upd H' lc (.lst ((found.map (·.name)).map V.str))) ld (.lst ([.non]++(found.map (·.name)).map V.str))) ld=some (.lst ([.non]++(found.map (·.name)).map V.str)):=zA1;generalize upd (upd H' lc (.lst ((found.map (·.name)).map V.str))) ld (.lst ([.non]++(found.map (·.name)).map V.str))=H6 at s6 x6 ⊢;have ea6:=s6 _ _ ea4;have ef6:=s6 _ _ ef4;have s36:=s34.trans s6;refine ⟨_,rfl,la,rfl,⟨_,SqL.of ea6⟩,zAc (xs:=xL) (fun i ys H'=>H'=H6∧HasAll G H ys (((left.take i).filter (rdyB found)).map rowD)) ⟨rfl,.nil⟩ (fun i ys H' z=>by rw [z.1];exact SqL.of ea6) (fun i ys H' hi z=>?_) ?_ ?_⟩
    ·have:=z.2.length;rw [Z0] at this;have:=Y9 (rdyB found) (left.take i);have:=Zl i left;exact small _ (by omega)
    ·rintro i x ys H' hi ⟨rfl,hys⟩ N hN;obtain ⟨d,hd,hv⟩:=hL.get hi;rw [Z6] at hd;cases er:left[i]? with
     | none=>rw [er] at hd;cases hd
     | some q =>
      rw [er] at hd;cases hd;obtain ⟨tt,lq,rfl,ht,_⟩:=id (zBf hv);have fl:flatV (ownV q.owner)=true:=by cases q.owner <;> rfl
      have fa:([V.non]++(found.map (·.name)).map V.str).all flatV=true:=by
       rw [List.all_eq_true];intro y hy;rcases List.mem_append.mp hy with z | z
       ·rw [List.mem_singleton.mp z];rfl
       ·obtain ⟨n,_,rfl⟩:=List.mem_map.mp z;rfl
      refine ⟨_,rfl,tt,_,((2:Nat):Int),_,rfl,rfl,SqT.of (s36 _ _ ht),zAr rfl,_,rfl,ld,_,rfl,.inl (SqL.of x6),fl,fa,_,rfl,?_⟩;show if inV (ownV q.owner) ([V.non]++(found.map (·.name)).map V.str)=true then _ else _
      rw [show inV (ownV q.owner) ([V.non]++(found.map (·.name)).map V.str)=rdyB found q from in_own q.owner _];have tk:left.take (i + 1)=left.take i++[q]:=by rw [Z4,er];rfl
      by_cases c:rdyB found q=true
      ·rw [if_pos c];refine ⟨_,rfl,hN _ _ ⟨rfl,?_⟩⟩;rw [tk,Y2,Z9,List.filter_cons_of_pos c];exact hys.snoc hv
      ·rw [if_neg c];refine hN _ _ ⟨rfl,?_⟩;rw [tk,Y2,List.filter_cons_of_neg c,List.filter_nil,List.append_nil];exact hys
    ·rintro ys H' ⟨rfl,hys⟩ lm hlm;rw [xl,Za,ft,Zr] at hys;obtain ⟨v0,vr,rfl⟩:∃ v0 vr,ys=v0 :: vr:=by
      cases hys with
      | cons a b=>exact ⟨_,_,rfl⟩
     have hv0:Has G H v0 (rowD r):=by
      cases hys with
      | cons a b=>exact a
     have s7:Same H' (upd H' lm (.lst (v0 :: vr))):=Same.new hlm;have x7:(upd H' lm (.lst (v0 :: vr))) lm=some (.lst (v0 :: vr)):=zA1;generalize upd H' lm (.lst (v0 :: vr))=H7 at s7 x7 ⊢;have ef7:=s7 _ _ ef6;refine ⟨_,rfl,.inl ⟨rfl,yF,SqL.of ef7⟩,_,rfl,lm,_,((0:Nat):Int),v0,rfl,rfl,SqL.of x7,zAr rfl,lf,yF,v0,rfl,rfl,ef7,small1000 (by omega),?_⟩;have hlfH:H lf=none:=s1.free hlf;have s8:Same H (upd H7 lf (.lst (yF++[v0]))):=fun b o e=>by rw [zA5 (zA2 e hlfH)];exact s7 _ _ (s36 _ _ e)
     have ea8:(upd H7 lf (.lst (yF++[v0]))) la=some (.lst xL):=by rw [zA5 nlf];exact s7 _ _ ea6
     have ef8:(upd H7 lf (.lst (yF++[v0]))) lf=some (.lst (yF++[v0])):=zA1;have nml:lm≠lf:=(zA2 ef6 hlm).symm;have em8:(upd H7 lf (.lst (yF++[v0]))) lm=some (.lst (v0 :: vr)):=by rw [zA5 nml];exact x7
     generalize upd H7 lf (.lst (yF++[v0]))=H8 at s8 ea8 ef8 em8 ⊢;refine ⟨_,rfl,la,rfl,⟨_,SqL.of ea8⟩,zAc (xs:=xL) (fun i ys H'=>H'=H8∧HasAll G H ys (((left.take i).filter fun q=>!decide (q.name=r.name)).map rowD)) ⟨rfl,.nil⟩ (fun i ys H' z=>by rw [z.1];exact SqL.of ea8) (fun i ys H' hi z=>?_) ?_ ?_⟩
     ·have:=z.2.length;rw [Z0] at this;have:=Y9 (fun q:Row=>!decide (q.name=r.name)) (left.take i);have:=Zl i left;exact small _ (by omega)
     ·rintro i x ys H' hi ⟨rfl,hys⟩ N hN;obtain ⟨d,hd,hv⟩:=hL.get hi;rw [Z6] at hd;cases er:left[i]? with
      | none=>rw [er] at hd;cases hd
      | some q =>
       rw [er] at hd;cases hd;have mq:q∈rs:=oa.pm.mem_iff.mp (Zn _ (Z3 er));have mr':r∈rs:=oa.pm.mem_iff.mp (Zn _ mr);refine ⟨_,rfl,_,rfl,lm,_,((0:Nat):Int),v0,rfl,rfl,SqL.of em8,zAr rfl,rowD q,rowD r,hv.any.mono s8,hv0.any.mono s8,Zk (zDn q) (by decide),Zk (zDn r) (by decide),_,rfl,?_⟩;rw [row_eqv rp mq mr' hv];show if (!decide (q.name=r.name))=true then _ else _
       have tk:left.take (i + 1)=left.take i++[q]:=by rw [Z4,er];rfl
       by_cases c:(!decide (q.name=r.name))=true
       ·rw [if_pos c];refine ⟨_,rfl,hN _ _ ⟨rfl,?_⟩⟩;rw [tk,Y2,Z9,List.filter_cons_of_pos (p:=fun q:Row=>!decide (q.name=r.name)) c];exact hys.snoc hv
       ·rw [if_neg c];refine hN _ _ ⟨rfl,?_⟩;rw [tk,Y2,List.filter_cons_of_neg (p:=fun q:Row=>!decide (q.name=r.name)) c,List.filter_nil,List.append_nil];exact hys
     ·rintro ys H' ⟨rfl,hys⟩ ln hln;rw [xl,Za] at hys;refine ⟨ln,_,_,ys,yF++[v0],_,found++[r],rfl,s8.trans (Same.new hln),(zA2 ef8 hln).symm,zA1,(Same.new hln) _ _ ef8,hys,?_,oa2⟩;rw [Z9];exact hF.snoc hv0
end
end L2.W
namespace L2.W
open PySem My
noncomputable def gst (fs:List (Str×List Str)):List (Str×List (Option Str)):=fs.map fun f=>(f.1,f.2.map some)
noncomputable def gwi (fs:List (Str×List Str)):List (Str×List (Option Str)):=fs.map fun f=>(f.1,none :: f.2.map some)
theorem gst2 (fs:List (Str×List Str)):(gst fs).map (·.2)=stA fs:=by unfold gst stA;rw [Zo];rfl
theorem gwi2 (fs:List (Str×List Str)):(gwi fs).map (·.2)=wiA fs:=by unfold gwi wiA;rw [Zo];rfl
theorem gstD (fs:List (Str×List Str)):(gst fs).map gD=fs.map fieldD:=by
 unfold gst;rw [Zo];refine List.map_congr_left fun f _=>?_;show gD (f.1,f.2.map some)=fieldD f;unfold gD fieldD;rw [someD]
theorem st_good {fs:List (Str×List Str)} (ok:FieldsOk fs):(gst fs).length≤3∧(∀ f∈(gst fs).map (·.2),0 < f.length∧∀ x∈f,atOk x)∧manyA ((gst fs).map (·.2))≤900:=by
 refine ⟨by unfold gst;rw [Z0];exact ok.le,fun f hf=>?_,by rw [gst2,zCc];have:=ok.many;omega⟩;rw [gst2] at hf;unfold stA at hf;obtain ⟨g,hg,rfl⟩:=List.mem_map.mp hf;refine ⟨by rw [Z0];exact (ok.ok g hg).2.ne,fun x hx y e=>?_⟩;subst e;obtain ⟨z,hz,e⟩:=List.mem_map.mp hx;exact (Zj e) ▸ (ok.ok g hg).2.ok z hz
theorem wi_good {fs:List (Str×List Str)} (ok:FieldsOk fs):(gwi fs).length≤3∧(∀ f∈(gwi fs).map (·.2),0 < f.length∧∀ x∈f,atOk x)∧manyA ((gwi fs).map (·.2))≤900:=by
 refine ⟨by unfold gwi;rw [Z0];exact ok.le,fun f hf=>?_,by rw [gwi2];have:=wi_le ok;omega⟩;rw [gwi2] at hf;unfold wiA at hf;obtain ⟨g,hg,rfl⟩:=List.mem_map.mp hf;refine ⟨by simp,fun x hx y e=>?_⟩;subst e;rcases List.mem_cons.mp hx with e | hx
 ·cases e
 ·obtain ⟨z,hz,e⟩:=List.mem_map.mp hx;exact (Zj e) ▸ (ok.ok g hg).2.ok z hz
theorem pickT3 {K:PySem.W.Frag}{A B:St→Hp→Prop}{σ : St}{H:Hp}{i j m:Nat}{p:Addr}{x y z:V} (hp:SqT K H p [x,y,z]) (h:A (((σ.set i (some x)).set j (some y)).set m (some z)) H) :
  gTup K 3 (gCons (gName i) (gCons (gName j) (gCons (gName m) gNil))) (.ref p) σ H fun σ2 H2=>tYes σ2 H2 fun b H3=>if b=true then A σ2 H3 else B σ2 H3:=by
 refine ⟨p,[x,y,z],rfl,hp,rfl,x,[y,z],rfl,y,[z],rfl,z,[],rfl,rfl,?_⟩;show if true=true then A (((σ.set i (some x)).set j (some y)).set m (some z)) H else B (((σ.set i (some x)).set j (some y)).set m (some z)) H
 rw [if_pos rfl];exact h
theorem zE9 {k:Key}{v:V}:∀ {kvs:List (Key×V)},(kvs.map (·.1)).Nodup→(k,v)∈kvs→valV kvs k=some v
 | [],_,h=>nomatch h
 | (a,b) :: t,nd,h=>by
  rw [Zr,List.nodup_cons] at nd;rcases List.mem_cons.mp h with e | h
  ·cases e;exact zC5 rfl
  ·have ne:a≠k:=fun z=>nd.1 (by rw [show (a,b).1=k from z];exact List.mem_map.mpr ⟨_,h,rfl⟩);rw [zC6 ne];exact zE9 nd.2 h
noncomputable def tabF (rs:List Row) (lfs:List Addr):List (Key×V):=(rs.zip lfs).map fun p=>(Sum.inr p.1.name,V.ref p.2)
theorem tabF_keys {rs:List Row}{lfs:List Addr} (h:lfs.length=rs.length):(tabF rs lfs).map (·.1)=rs.map fun r=>(Sum.inr r.name:Key):=by
 unfold tabF;rw [Zo];show (rs.zip lfs).map (fun p=>(Sum.inr p.1.name:Key))=_;rw [show (fun p:Row×Addr=>(Sum.inr p.1.name:Key))=(fun r:Row=>(Sum.inr r.name:Key)) ∘ Prod.fst from rfl,← Zo,List.map_fst_zip (by omega)]
theorem tabF_nd {rs:List Row}{lfs:List Addr} (h:lfs.length=rs.length) (nd:(rs.map (·.name)).Nodup):((tabF rs lfs).map (·.1)).Nodup:=by
 rw [tabF_keys h,show (fun r:Row=>(Sum.inr r.name:Key))=Sum.inr ∘ (fun r:Row=>r.name) from rfl,← Zo];exact List.pairwise_map.mpr (nd.imp fun h e=>h (Sum.inr.inj e))
theorem k_ownA {R F:Addr→Hp→Prop}{B:Prop} (t:∀ l Hx,F l Hx→R l Hx) (h:(∀ l Hx,F l Hx→R l Hx)→B):B:=h t
noncomputable def TupG (H:Hp):Addr→Prop:=fun a=>∃ ys,H a=some (.tup ys)
theorem zB1 {H H':Hp}{xs:List V}{ds:List PyData} (h:HasAll (TupG H) H xs ds) (k:∀ b ys,H b=some (.tup ys)→H' b=some (.tup ys)):HasAll (TupG H') H' xs ds:=h.frame fun b o ⟨ys,g⟩ e=>by
 rw [g] at e;cases e;exact ⟨⟨_,k _ _ g⟩,k _ _ g⟩
noncomputable def allSits (rs:List Row):List PyData:=(ordR rs).flatMap (sitsOf rs)
theorem zE2 {rs:List Row} (rp:RowsP rs):∀ (m:Nat) (left found:List Row),OrdAt rs m left found→(ordR rs).Perm rs
 | 0,left,found,h=>by
  have e0:left=[]:=List.length_eq_zero_iff.mp h.len;have:=h.pm;rw [e0,List.append_nil] at this;rw [← h.go];exact this
 | m + 1,left,found,h=>by
  obtain ⟨r,t,_,_,h2⟩:=h.first rp
  exact zE2 rp m _ _ h2
theorem zDb {rs:List Row} (rp:RowsP rs) (h:rs.length≤4):(ordR rs).Perm rs:=zE2 rp _ _ _ (ord_start h)
theorem zCr {α β : Type} (l:List α) (f : α→List β) (n:Nat):((l.take n).flatMap f).length≤(l.flatMap f).length:=by
 have e:l.flatMap f=(l.take n).flatMap f++(l.drop n).flatMap f:=by rw [← List.flatMap_append,List.take_append_drop]
 rw [e,Z8];omega
noncomputable def spLSits:Sp:=fun vs H Q _=>∃ (l:Addr) (rs:List Row),vs=[.ref l]∧Has Any H (.ref l) (.list (rs.map rowD))∧RowsP rs∧rs.length≤4∧(allSits rs).length≤1000 ∧
 ∀ (lo:Addr) (ys:List V) (H':Hp),Same H H'→H lo=none→H' lo=some (.lst ys)→HasAll (TupG H') H' ys (allSits rs)→Q (.ref lo) H'
noncomputable abbrev nLsi:List Str:=["_law_spec", "_law_fields", "_law_found", "_law_name", "_law_some", "_law_owner", "_law_owners", "_law_all_wished", "_law_wished", "_law_one"]
noncomputable abbrev nLsj:List Str:=["_law_spec", "_law_fields", "_law_found", "?a", "?b", "?c", "_law_owners", "_law_all_wished", "_law_wished", "_law_one"]
theorem sameLs:sameN nLsi nLsj [3,4,5]:=by unfold sameN;decide +kernel
theorem ndLsj:(nLsj:List Str).Nodup:=by decide +kernel
theorem ndLs3:(nLsj++(["_law_name", "_law_some", "_law_owner"]:List Str)).Nodup:=by decide +kernel
section
variable {P:Program}{w:World}{K:PySem.W.Frag}{mg:Str→Option Value}{base:Heap}{CX:CXT}
theorem scLsi:FnScope nLsi ["_law_spec"] (defScope sLSits):=⟨rfl,rfl,rfl,by decide +kernel,rfl,by decide +kernel,by decide +kernel⟩
theorem ok_lsits {f fo fl:Addr}{fd fdo fdl:FuncData} (hC:Calm CX) (T:Tops K mg) (F:Fun K "_law_situations" "_law_situations" sLSits f fd) (DO:Def K mg "_law_order" sLOrder ["_law_spec"] fo fdo) (GO:FnOk P w K mg base CX 1 fo fdo ["_law_spec"] spOrd)
  (DL:Def K mg "_law_states" sLStates ["_law_fields"] fl fdl) (GL:FnOk P w K mg base CX 1 fl fdl ["_law_fields"] spLst):FnOk P w K mg base CX 2 f fd ["_law_spec"] spLSits:=by
 refine Fun.okC F scLsi (fun vs H Q E h=>?_) (fun cdv A outer s H vs Q E hr h=>?_)
 ·obtain ⟨l,rs,rfl,_⟩:=h;rfl
 ·obtain ⟨l,rs,rfl,hl,rp,l4,small9,k⟩:=h;have nd:=scLsi.nd;have hu:=hu_of hr
  refine ⟨_,zA4 (ps_re nLsj [3,4,5] sameLs (zAa (i:=1) ndLsj rfl (Or.inl rfl) (zAx (zDq (K:=K) rfl) rfl T.dict PyProof.Rows.boot_dict (zA0 (zAj (T:=["_law_name", "_law_some", "_law_owner"]) rfl ScOk.auto (zAb (pv 0)) (fun _ _ _ _=>zD5 (K:=K) (n:=3) rfl rfl (zAh (zA8 (i:=10) ndLs3 rfl (Or.inl rfl)) (zAh (zA8 (i:=11) ndLs3 rfl (Or.inl rfl)) (zAh (zA8 (i:=12) ndLs3 rfl (Or.inl rfl)) zBk)))) (fun _ _ _ _=>zAt) (fun _ _ _ _=>zAw (zA0 (pv 10) (zA0 (pv 11) zA3)))) zA3))))
     (zA4 (zAa (i:=2) nd rfl (Or.inl rfl) (zAe zA3))
     (zA4 (zB5 PassesOwn.never rfl (zAb (zA9 GO hr rfl DO.at_ DO.fn.kp DO.bind .nil (passC hC) (zA0 (pv 0) zA3))) (zD6 rfl (zAh (zA8 (i:=3) nd rfl (Or.inr rfl)) (zAh (zA8 (i:=4) nd rfl (Or.inl rfl)) (zAh (zA8 (i:=5) nd rfl (Or.inl rfl)) zBk))))
     (zA4 (zAa (i:=6) nd rfl (Or.inl rfl) (zAe (zA0 zB7 zA3)))
     (zA4 (zBg (zBp (zEq (pv 5)))
     (zA6 (zAa (i:=6) nd rfl (Or.inl rfl) (zA9 GL hr rfl DL.at_ DL.fn.kp DL.bind .nil (passC hC) (zA0 (zEo hu (pv 1) (pv 5) (fun _ _=>rfl)) zA3)))) zAl)
     (zA4 (zAa (i:=7) nd rfl (Or.inl rfl) (zAf zBz (zAe (zA0 zB7 zA3)) (zA9 GL hr rfl DL.at_ DL.fn.kp DL.bind .nil (passC hC) (zA0 (zAj (T:=["_law_field", "_law_values"]) rfl ScOk.auto (zAb (pv 4)) (fun _ _ _ _=>zD5 (K:=K) (n:=2) rfl rfl (zAh (zA8 (i:=10) (by decide +kernel:(["_law_spec", "_law_fields", "_law_found", "_law_name", "_law_some", "_law_owner", "_law_owners", "_law_all_wished", "_law_wished", "_law_one", "_law_field", "_law_values"]:List Str).Nodup) rfl (Or.inl rfl)) (zAh (zA8 (i:=11) (by decide +kernel:(["_law_spec", "_law_fields", "_law_found", "_law_name", "_law_some", "_law_owner", "_law_owners", "_law_all_wished", "_law_wished", "_law_one", "_law_field", "_law_values"]:List Str).Nodup) rfl (Or.inl rfl)) zBk))) (fun _ _ _ _=>zAt) (fun _ _ _ _=>(zAw (zA0 (pv 10) (zA0 (zAf zBz (zAe (zA0 zB7 zA3)) (pv 11)) zA3))))) zA3))))
     (zA6 (zB5 PassesOwn.never rfl (zAb (pv 7)) (zA8 (i:=8) nd rfl (Or.inr rfl))
     (zA6 (zB5 PassesOwn.never rfl (zAb (pv 6)) (zA8 (i:=9) nd rfl (Or.inr rfl))
     (zA6 (zB3 (zCv PySem.F.plainAttrs_list PySem.F.slot_list_extend PySem.F.type_list_extend zCa (pv 2) (zA0 (zAj (T:=["_law_state"]) rfl ScOk.auto (zAb (zAf zBz (zAe (zA0 zB7 zA3)) (zA9 GL hr rfl DL.at_ DL.fn.kp DL.bind .nil (passC hC) (zA0 (pv 4) zA3)))) (fun _ _ _ _=>zA8 (i:=10) (by decide +kernel:(["_law_spec", "_law_fields", "_law_found", "_law_name", "_law_some", "_law_owner", "_law_owners", "_law_all_wished", "_law_wished", "_law_one", "_law_state"]:List Str).Nodup) rfl (Or.inl rfl)) (fun _ _ _ _=>zAt) (fun _ _ _ _=>(zAw (zA0 (pv 3) (zA0 (pv 8) (zA0 (pv 9) (zA0 (pv 10) zA3))))))) zA3))))))))))))
     (zA6 (zAg (pv 2))))),?_⟩
  have small:∀ n:Nat,n≤1000→n≤sizeLine:=fun n h=>Zq (small1000 h);obtain ⟨l',xs,e,_,hl1,hz,hx⟩:=hl.list_inv;cases e;have xl:xs.length=rs.length:=by rw [hx.length,Z0]
  refine ⟨_,rfl,l,rfl,⟨_,SqL.of hl1⟩,zAc (xs:=xs) (fun i ys H'=>Same H H'∧∃ ts lfs:List Addr,ys=ts.map V.ref∧ts.length=i∧lfs.length=i∧∀ (j:Nat) (t lf:Addr) (r:Row),ts[j]? = some t→lfs[j]? = some lf→rs[j]? = some r→H' t=some (.tup [.str r.name,.ref lf])∧Has Any H (.ref lf) (.list (r.fields.map fieldD)))
   ⟨Same.refl _,[],[],rfl,rfl,rfl,fun j t lf r e=>by simp at e⟩ (fun i ys H' z=>SqL.of (z.1 _ _ hl1)) (fun i ys H' hi z=>?_) ?_ ?_⟩
  ·obtain ⟨_,ts,lfs,e,e2,_⟩:=z;rw [e,Z0,e2];exact small _ (by omega)
  ·rintro i x ys H' hi ⟨s1,ts,lfs,rfl,tl,fl,ht⟩ N hN;obtain ⟨d,hd,hv⟩:=hx.get hi;rw [Z6] at hd;cases er:rs[i]? with
   | none=>rw [er] at hd;cases hd
   | some r =>
    rw [er] at hd;cases hd;obtain ⟨tt,lf,rfl,hT,hlf⟩:=zBf hv;refine pickT3 (SqT.of (s1 _ _ hT)) ⟨_,rfl,_,rfl,by show 2≤sizeLine;exact small 2 (by decide),fun t1 ht1=>hN _ _ ⟨s1.trans (Same.new ht1),ts++[t1],lfs++[lf],by rw [Z9];rfl,by simp [tl],by simp [fl],fun j t lf' r' e1 e2 e3=>?_⟩⟩;by_cases c:j < i
    ·rw [Zp (by omega)] at e1 e2;obtain ⟨a,b⟩:=ht j t lf' r' e1 e2 e3;exact ⟨(Same.new ht1) _ _ a,b⟩
    ·have ej:j=i:=by
      have:=(List.getElem?_eq_some_iff.mp e1).1;rw [Z8,List.length_singleton] at this;omega
     subst ej;rw [er] at e3;cases e3;rw [Zx (by omega),tl,Nat.sub_self] at e1;rw [Zx (by omega),fl,Nat.sub_self] at e2;cases e1;cases e2;exact ⟨zA1,hlf⟩
  ·rintro ys H' ⟨s1,ts,lfs,rfl,tl,fl,ht⟩ lc hlc;rw [xl] at tl fl;have ndT:=tabF_nd fl rp.nd;refine ⟨lc,ts,tabF rs lfs,rfl,SqL.of zA1,rfl,ndT,by unfold tabF;rw [Z0,List.length_zip];omega,fun i t kk v e1 e2=>?_,fun dd hdd=>?_⟩
   ·unfold tabF at e2;rw [Z6] at e2;cases ez:(rs.zip lfs)[i]? with
    | none=>rw [ez] at e2;cases e2
    | some p =>
     rw [ez] at e2;cases e2;have:=List.getElem?_zip_eq_some.mp ez;exact (Same.new hlc) _ _ (ht i t p.2 p.1 e1 this.2 this.1).1
   ·have vF:∀ r∈rs,∃ lf,valV (tabF rs lfs) (Sum.inr r.name)=some (.ref lf)∧Has Any H (.ref lf) (.list (r.fields.map fieldD)):=fun r hr=>by
     obtain ⟨i,hi,ei⟩:=Zv hr;have e1:rs[i]? = some r:=by rw [Z1 hi,ei]
     have e2:ts[i]? = some ts[i]:=Z1 (by omega);have e3:lfs[i]? = some lfs[i]:=Z1 (by omega);refine ⟨lfs[i],zE9 ndT ?_,(ht i _ _ r e2 e3 e1).2⟩;refine List.mem_map.mpr ⟨(r,lfs[i]),?_,rfl⟩;exact Z3 (List.getElem?_zip_eq_some.mpr ⟨e1,e3⟩)
    have s2:Same H (upd (upd H' lc (.lst (ts.map V.ref))) dd (.dK (tabF rs lfs))):=s1.trans ((Same.new hlc).trans (Same.new hdd));have eD:(upd (upd H' lc (.lst (ts.map V.ref))) dd (.dK (tabF rs lfs))) dd=some (.dK (tabF rs lfs)):=zA1;generalize upd (upd H' lc (.lst (ts.map V.ref))) dd (.dK (tabF rs lfs))=HD at s2 eD ⊢;generalize tabF rs lfs=kvs at vF eD ⊢;dsimp only [gName,Ends.hid,hide,List.set];refine ⟨Zm _,fun lf hlf=>?_⟩;have s3:Same HD (upd HD lf (.lst [])):=Same.new hlf;have eF:(upd HD lf (.lst [])) lf=some (.lst []):=zA1;generalize upd HD lf (.lst [])=HF at s3 eF ⊢;refine ⟨_,rfl,fun a=>∃ o,H a=some o,l,rs,rfl,hl.frame (fun b o _ e=>⟨⟨o,e⟩,s3 _ _ (s2 _ _ e)⟩),rp,l4,fun lo xo H0 s0 n0 h0 hxo=>?_⟩;have op:=zDb rp l4;have ol:xo.length=(ordR rs).length:=by rw [hxo.length,Z0]
    have eF0:=s0 _ _ eF;have nlo:lo≠lf:=fun z=>by rw [z,eF] at n0;cases n0
    have hHlf:H lf=none:=s2.free hlf;have keepG:∀ {H2:Hp},ButL lf H0 H2→∀ b o,(∃ o,H b=some o)→HF b=some o→H2 b=some o:=fun b2 b o ⟨o',e'⟩ e=>b2 _ _ (s0 _ _ e) (zA2 e' hHlf)
    refine ⟨lo,rfl,⟨_,SqL.of h0⟩,zAy (K:=K) (a:=lo) (xs:=xo) (fun a σ H2=>∃ (x3 x4 x5 x6 x7 x8 x9:Option V) (zs:List V),σ = [some (.ref l),some (.ref dd),some (.ref lf),x3,x4,x5,x6,x7,x8,x9]∧ButL lf H0 H2∧H2 lf=some (.lst zs)∧HasAll (TupG H2) H2 zs (((ordR rs).take a).flatMap (sitsOf rs)))
     ⟨_,_,_,_,_,_,_,[],rfl,fun _ _ e _=>e,eF0,.nil⟩ (fun i σ H2 _ ⟨_,_,_,_,_,_,_,_,_,b2,_⟩=>SqL.of (b2 _ _ h0 nlo)) ?_ ?_⟩
    ·rintro a x σ H2 ha ⟨x3,x4,x5,x6,x7,x8,x9,zs,rfl,b2,h2,hzs⟩;obtain ⟨d,hd,hv⟩:=hxo.get ha;rw [Z6] at hd;cases er:(ordR rs)[a]? with
     | none=>rw [er] at hd;cases hd
     | some r =>
      rw [er] at hd;cases hd;have mr:r∈rs:=op.mem_iff.mp (Z3 er);have okr:=rp.ok r mr;obtain ⟨tt,lq,rfl,hT,hq⟩:=zBf (hv.frame fun b o g e=>⟨trivial,keepG b2 b o g e⟩);refine ⟨tt,_,rfl,SqT.of hT,rfl,_,_,rfl,_,_,rfl,_,_,rfl,rfl,?_⟩;refine ⟨by show 1≤sizeLine;exact small 1 (by decide),fun l1 hl1'=>?_⟩;have s4:Same H2 (upd H2 l1 (.lst [.non])):=Same.new hl1';have e4:(upd H2 l1 (.lst [.non])) l1=some (.lst [.non]):=zA1;have n1:l1≠lf:=(zA2 h2 hl1').symm;generalize upd H2 l1 (.lst [.non])=H4 at s4 e4 ⊢;refine' k_ownA (F:=fun lw Hx=>∃ ov,Same H2 Hx∧lw≠lf∧Hx lw=some (.lst ov)∧Paired (OptAt Hx) ov (ownS rs r)) _ (fun go=>_);rotate_left 2
      ·refine ⟨_,rfl,_,rfl,?_⟩;have ho:r.owner=none∨∃ o,r.owner=some o:=by cases r.owner with | none=>exact .inl rfl | some o=>exact .inr ⟨o,rfl⟩
       rcases ho with e | ⟨o,e⟩;rotate_left
       ·obtain ⟨r',m',rfl⟩:=rp.ownIn r mr o e;obtain ⟨lF,vv,hF'⟩:=vF r' m';have okr':=rp.ok r' m';have sH2:Same H H2:=fun b o e=>b2 _ _ (s0 _ _ (s3 _ _ (s2 _ _ e))) (zA2 e hHlf);have eD4:H4 dd=some (.dK kvs):=s4 _ _ (b2 _ _ (s0 _ _ (s3 _ _ eD)) (zA2 eD hlf));rw [show (!decide (ownV r.owner=V.non))=true by rw [e];rfl];obtain ⟨g1,g2,g3⟩:=st_good okr'.2;refine iteT ⟨_,rfl,_,rfl,dd,.ref lF,rfl,.inl ⟨kvs,Sum.inr r'.name,.inl eD4,by rw [e];rfl,vv.symm⟩,lF,gst r'.fields,rfl,by rw [gstD];exact hF'.mono (sH2.trans s4),g1,g2,g3,fun l5 H5 s5 n5 h5=>go l5 H5 ?_⟩;obtain ⟨l5',ov,e5,_,h5',_,hov⟩:=h5.list_inv;cases e5;refine ⟨ov,s4.trans s5,fun z=>?_,h5',?_⟩
        ·rw [z,s4 _ _ h2] at n5;cases n5
        ·rw [zBh rp m' e];rw [gst2] at hov;exact zC2 (G:=fun _=>True) (by rw [Zo];exact hov)
       ·rw [show (!decide (ownV r.owner=V.non))=false by rw [e];rfl];exact iteF (go l1 H4 ⟨_,s4,n1,e4,by rw [zB9 e];exact .cons rfl .nil⟩)
      ·rintro lw Hx ⟨ov,sx,nw,ew,po⟩;have hfx':=sx _ _ h2;have hqx:=hq.mono sx;obtain ⟨lq',fq,eq',_,hlq,_,hfq⟩:=hqx.list_inv;cases eq';have fql:fq.length=r.fields.length:=by rw [hfq.length,Z0]
       have le3:=okr.2.le;refine ⟨by show 1≤sizeLine;exact small 1 (by decide),fun l6 hl6=>?_⟩;have s6:Same Hx (upd Hx l6 (.lst [.non])):=Same.new hl6;have e6:(upd Hx l6 (.lst [.non])) l6=some (.lst [.non]):=zA1;generalize upd Hx l6 (.lst [.non])=H6 at s6 e6 ⊢;refine ⟨_,rfl,lq,rfl,⟨_,SqL.of (s6 _ _ hlq)⟩,zAc (xs:=fq) (fun i ys H'=>Same H6 H'∧HasAll Any H' ys (((gwi r.fields).take i).map gD)) ⟨Same.refl _,.nil⟩ (fun i ys H' z=>SqL.of (z.1 _ _ (s6 _ _ hlq))) (fun i ys H' hi z=>?_) ?_ ?_⟩
       ·have:=z.2.length;rw [Z0] at this;have:=Zl i (gwi r.fields);have:(gwi r.fields).length=r.fields.length:=by unfold gwi;rw [Z0]
        exact small _ (by omega)
       ·rintro i y ys H' hi ⟨s7,hys⟩ N hN;obtain ⟨d,hd,hv'⟩:=hfq.get hi;rw [Z6] at hd;cases ef:r.fields[i]? with
        | none=>rw [ef] at hd;cases hd
        | some fl' =>
         rw [ef] at hd;cases hd;obtain ⟨b,lv,rfl,hb,hlv⟩:=zCe hv';have okf:=okr.2.ok fl' (Z3 ef);have ole:=okf.2.le;have sA:=s6.trans s7;refine pickT (SqT.of (sA _ _ hb)) ⟨_,rfl,by show 1≤sizeLine;exact small 1 (by decide),fun l7 hl7=>⟨_,rfl,l7,lv,_,_,rfl,rfl,zA1,(Same.new hl7) _ _ (sA _ _ hlv),by rw [Z0];exact small _ (by simp;omega),fun l8 hl8=>⟨by show 2≤sizeLine;exact small 2 (by decide),fun t9 ht9=>hN _ _ ⟨s7.trans ((Same.new hl7).trans ((Same.new hl8).trans (Same.new ht9))),?_⟩⟩⟩⟩;have eg:(gwi r.fields)[i]? = some (fl'.1,none :: fl'.2.map some):=by unfold gwi;rw [Z6,ef];rfl
         rw [Z4,eg,Z9];refine HasAll.snoc (hys.mono ((Same.new hl7).trans ((Same.new hl8).trans (Same.new ht9)))) (.tup trivial zA1 (by show 2≤1000;decide) (.cons (.str _ (Zk okf.1.2.2 (by decide)) okf.1.2.1) (.cons (.lst trivial ((Same.new ht9) _ _ zA1) (by simp;omega) (.cons .non ?_)) .nil)));rw [someD];exact zB2 okf.2.ok
       ·rintro ys H' ⟨s7,hys⟩ lc' hlc';have gl:(gwi r.fields).length=r.fields.length:=by unfold gwi;rw [Z0]
        rw [fql,← gl,Za] at hys;obtain ⟨g1,g2,g3⟩:=wi_good okr.2;refine ⟨lc',gwi r.fields,rfl,.lst trivial zA1 (by rw [hys.length,Z0];omega) (hys.mono (Same.new hlc')),g1,g2,g3,fun l9 H9 s9 n9 h9=>?_⟩;obtain ⟨l9',wv0,e9,_,h9',_,hwv⟩:=h9.list_inv;cases e9;rw [gwi2] at hwv;have wv0l:wv0.length≤64:=by rw [hwv.length,Z0,zAo];exact wi_le okr.2
        refine ⟨l6,l9,_,_,rfl,rfl,s9 _ _ ((Same.new hlc') _ _ (s7 _ _ e6)),h9',small _ (by simp;omega),fun lW hlW=>?_⟩;have sW:Same Hx (upd H9 lW (.lst ([V.non]++wv0))):=s6.trans (s7.trans ((Same.new hlc').trans (s9.trans (Same.new hlW))));have eW:(upd H9 lW (.lst ([V.non]++wv0))) lW=some (.lst ([V.non]++wv0)):=zA1;have pW:Paired (OptAt (upd H9 lW (.lst ([V.non]++wv0)))) ([V.non]++wv0) (wishes r.fields):=.cons rfl (zC2 (G:=fun _=>True) (by rw [Zo];exact hwv.mono (Same.new hlW)));have nlW:lW≠lf:=(zA2 (s9 _ _ ((Same.new hlc') _ _ (s7 _ _ (s6 _ _ hfx')))) hlW).symm;generalize upd H9 lW (.lst ([V.non]++wv0))=HW at sW eW pW ⊢;generalize [V.non]++wv0=wv at eW pW ⊢;have hfW:=sW _ _ hfx';have tak:((ordR rs).take (a + 1)).flatMap (sitsOf rs)=((ordR rs).take a).flatMap (sitsOf rs)++(wishes r.fields).flatMap (colS rs r):=by
         rw [Z4,er,List.flatMap_append]
         congr 1
         show [r].flatMap (sitsOf rs)=_;rw [Zz,List.flatMap_nil,List.append_nil];rfl
        have tot:(((ordR rs).take a).flatMap (sitsOf rs)).length + (wishes r.fields).length * ((ownS rs r).length * (nowS r).length)≤1000:=by
         have h1:=zCr (ordR rs) (sitsOf rs) (a + 1);rw [tak,Z8,show (wishes r.fields).flatMap (colS rs r)=sitsOf rs r from rfl,zCx] at h1;exact Zk h1 small9
        have wl:wv.length=(wishes r.fields).length:=pW.length;have ovl:ov.length=(ownS rs r).length:=po.length;generalize hpre:((ordR rs).take a).flatMap (sitsOf rs)=pre at hzs tak tot ⊢
        refine ⟨_,rfl,lW,rfl,⟨_,SqL.of eW⟩,zAy (K:=K) (a:=lW) (xs:=wv) (fun i σ H3=>∃ (x8 x9:Option V) (zs3:List V),σ = [some (.ref l),some (.ref dd),some (.ref lf),some (.str r.name),some (.ref lq),some (ownV r.owner),some (.ref lw),some (.ref lW),x8,x9]∧ButL lf HW H3∧H3 lf=some (.lst zs3)∧HasAll (TupG H3) H3 zs3 (pre++((wishes r.fields).take i).flatMap (colS rs r)))
         ⟨_,_,zs,rfl,fun _ _ e _=>e,hfW,?_⟩ (fun i σ H3 _ ⟨_,_,_,_,b3,_⟩=>SqL.of (b3 _ _ eW nlW)) ?_ ?_⟩
        ·rw [List.take_zero,List.flatMap_nil,List.append_nil];exact zB1 hzs fun b ys e=>sW _ _ (sx _ _ e)
        ·rintro i x σ H3 hi ⟨x8,x9,zs3,rfl,b3,h3,hz3⟩;obtain ⟨wO,ew',hw⟩:=zB6 pW hi;have il:i < (wishes r.fields).length:=(List.getElem?_eq_some_iff.mp ew').1;have ew3:=b3 _ _ (sW _ _ ew) nw
         refine ⟨_,rfl,lw,rfl,⟨_,SqL.of ew3⟩,zAy (K:=K) (a:=lw) (xs:=ov) (fun j σ H4=>∃ (x9:Option V) (zs4:List V),σ = [some (.ref l),some (.ref dd),some (.ref lf),some (.str r.name),some (.ref lq),some (ownV r.owner),some (.ref lw),some (.ref lW),some x,x9]∧ButL lf H3 H4∧H4 lf=some (.lst zs4)∧HasAll (TupG H4) H4 zs4 ((pre++((wishes r.fields).take i).flatMap (colS rs r))++((ownS rs r).take j).flatMap (rowS r wO)))
          ⟨_,zs3,rfl,fun _ _ e _=>e,h3,?_⟩ (fun j σ H4 _ ⟨_,_,_,b4,_⟩=>SqL.of (b4 _ _ ew3 nw)) ?_ ?_⟩
         ·rw [List.take_zero,List.flatMap_nil,List.append_nil];exact hz3
         ·rintro j y σ H4 hj ⟨x9',zs4,rfl,b4,h4,hz4⟩;obtain ⟨oO,eo,ho⟩:=zB6 po hj;have jl:j < (ownS rs r).length:=(List.getElem?_eq_some_iff.mp eo).1;have zl:zs4.length=pre.length + i * ((ownS rs r).length * (nowS r).length) + j * (nowS r).length:=by
           rw [hz4.length,Z8,Z8,zBy (n:=(ownS rs r).length * (nowS r).length) (fun w _=>zF1 rs r w),zBy (n:=(nowS r).length) (fun o _=>zEf r wO o),Zt,Zt,Nat.min_eq_left (by omega),Nat.min_eq_left (by omega)]
          have c1:j * (nowS r).length + (nowS r).length≤(ownS rs r).length * (nowS r).length:=by
           have:=Nat.mul_le_mul_right (nowS r).length (show j + 1≤(ownS rs r).length from jl)
           rwa [Y6] at this
          have c2:i * ((ownS rs r).length * (nowS r).length) + (ownS rs r).length * (nowS r).length≤(wishes r.fields).length * ((ownS rs r).length * (nowS r).length):=by
           have:=Nat.mul_le_mul_right ((ownS rs r).length * (nowS r).length) (show i + 1≤(wishes r.fields).length from il)
           rwa [Y6] at this
          have bx:ButL lf Hx H4:=fun b o e n=>b4 _ _ (b3 _ _ (sW _ _ e) n) n;have hw4:OptAt H4 x wO:=(hw.keep (b3.tup hfW)).keep (b4.tup h3);have ho4:OptAt H4 y oO:=ho.keep (bx.tup hfx');have hq4:Has Any H4 (.ref lq) (.list (r.fields.map fieldD)):=by
           have:=zBf (hv.frame (G':=Any) (H':=H4) fun b o ⟨o',g⟩ e=>⟨trivial,bx _ _ (sx _ _ (keepG b2 b o ⟨o',g⟩ e)) (zA2 g hHlf)⟩);obtain ⟨tt',lq2,et,hT',hq'⟩:=this;cases et;have hT4:=bx.tup hfx' _ _ (sx _ _ hT);rw [hT4] at hT';cases hT';exact hq'
          obtain ⟨g1,g2,g3⟩:=st_good okr.2;refine ⟨_,rfl,.inl ⟨rfl,zs4,SqL.of h4⟩,by show 1≤sizeLine;exact small 1 (by decide),fun la hla=>⟨_,rfl,lq,gst r.fields,rfl,by rw [gstD];exact hq4.mono (Same.new hla),g1,g2,g3,fun lb Hb sb nb hb=>?_⟩⟩;obtain ⟨lb',ss,eb,_,hb',_,hss⟩:=hb.list_inv;cases eb;rw [gst2] at hss;have ssl:ss.length≤8:=by rw [hss.length,Z0];exact zCu okr.2
          refine ⟨la,lb,_,_,rfl,rfl,sb _ _ zA1,hb',small _ (by simp;omega),fun ls hls=>?_⟩;have sS:Same H4 (upd Hb ls (.lst ([V.non]++ss))):=(Same.new hla).trans (sb.trans (Same.new hls));have eS:(upd Hb ls (.lst ([V.non]++ss))) ls=some (.lst ([V.non]++ss)):=zA1;have pS:Paired (OptAt (upd Hb ls (.lst ([V.non]++ss)))) ([V.non]++ss) (nowS r):=.cons rfl (zC2 (G:=fun _=>True) (by rw [Zo];exact hss.mono (Same.new hls)));generalize upd Hb ls (.lst ([V.non]++ss))=HS at sS eS pS ⊢;generalize [V.non]++ss=ns at eS pS ⊢;have nl:ns.length=(nowS r).length:=pS.length;refine ⟨ls,rfl,⟨_,SqL.of eS⟩,zAc (xs:=ns) (fun k ys H5=>Same HS H5∧HasAll (TupG H5) H5 ys (((nowS r).take k).map (sitD r.name wO oO))) ⟨Same.refl _,.nil⟩ (fun k ys H5 z=>SqL.of (z.1 _ _ eS)) (fun k ys H5 hk z=>?_) ?_ ?_⟩
          ·have:=z.2.length;rw [Z0] at this;have:=Zl k (nowS r);exact small _ (by omega)
          ·rintro k' v ys H5 hk ⟨s5,hys⟩ N hN;obtain ⟨sO,es,hs⟩:=zB6 pS hk;refine pick ⟨_,rfl,_,rfl,_,rfl,_,rfl,by show 4≤sizeLine;exact small 4 (by decide),fun t ht=>hN _ _ ⟨s5.trans (Same.new ht),?_⟩⟩;rw [Z4,es,Z9];refine HasAll.snoc (zB1 hys fun b ys e=>(Same.new ht) _ _ e) ?_;have up:∀ {u:V}{w:Option (List (Option Str))},OptAt HS u w→OptAt (upd H5 t (.tup [.str r.name,x,y,v])) u w:=fun h=>h.keep fun b xs e=>(Same.new ht) _ _ (s5 _ _ e)
           exact .tup ⟨_,zA1⟩ zA1 (by show 4≤1000;decide) (.cons (.str _ (Zk okr.1.2.2 (by decide)) okr.1.2.1) (.cons ((up (hw4.keep fun b xs e=>sS _ _ e)).has (wi_ok okr.2 wO (Z3 ew')) fun a xs e=>⟨xs,e⟩)
            (.cons ((up (ho4.keep fun b xs e=>sS _ _ e)).has (own_ok rp mr oO (Z3 eo)) fun a xs e=>⟨xs,e⟩) (.cons ((up hs).has (now_ok okr.2 sO (Z3 es)) fun a xs e=>⟨xs,e⟩) .nil))))
          ·rintro ys H5 ⟨s5,hys⟩ lc2 hlc2;rw [nl,Za] at hys;have lys:ys.length=(nowS r).length:=by rw [hys.length,Z0]
           have hf5:=s5 _ _ (sS _ _ h4);refine ⟨lf,lc2,zs4,ys,rfl,rfl,(Same.new hlc2) _ _ hf5,zA1,small _ (by omega),⟨_,zs4++ys,rfl,fun b' o' e' n'=>?_,zA1,?_⟩⟩
           ·rw [zA5 n'];exact (Same.new hlc2) _ _ (s5 _ _ (sS _ _ (b4 _ _ e' n')))
           ·have fin:∀ b xs,H5 b=some (.tup xs)→(upd (upd H5 lc2 (.lst ys)) lf (.lst (zs4++ys))) b=some (.tup xs):=fun b xs e=>by
             have nb:b≠lf:=by rintro rfl;rw [hf5] at e;cases e
             rw [zA5 nb];exact (Same.new hlc2) _ _ e
            rw [Z4,eo,List.flatMap_append,← List.append_assoc];refine HasAll.append (zB1 hz4 fun b xs e=>fin _ _ (s5 _ _ (sS _ _ e))) ?_;have e1:(Option.toList (some oO)).flatMap (rowS r wO)=(nowS r).map (sitD r.name wO oO):=by
             show [oO].flatMap (rowS r wO)=_;rw [Zz,List.flatMap_nil,List.append_nil];rfl
            rw [e1];exact zB1 hys fin
         ·rintro σ H4 ⟨x9',zs4,rfl,b4,h4,hz4⟩;rw [ovl,Za] at hz4;refine ⟨some x,x9',zs4,rfl,fun b o e n=>b4 _ _ (b3 _ _ e n) n,h4,?_⟩;rw [Z4,ew',List.flatMap_append,← List.append_assoc];have e1:(Option.toList (some wO)).flatMap (colS rs r)=(ownS rs r).flatMap (rowS r wO):=by
           show [wO].flatMap (colS rs r)=_;rw [Zz,List.flatMap_nil,List.append_nil];rfl
          rw [e1];exact hz4
        ·rintro σ H3 ⟨x8,x9,zs3,rfl,b3,h3,hz3⟩;rw [wl,Za] at hz3;refine ⟨_,_,_,_,_,_,_,zs3,rfl,fun b o e n=>b3 _ _ (sW _ _ (sx _ _ (b2 _ _ e n))) n,h3,?_⟩;rw [tak];exact hz3
    ·rintro σ H2 ⟨x3,x4,x5,x6,x7,x8,x9,zs,rfl,b2,h2,hzs⟩;rw [ol,Za] at hzs;exact ⟨_,rfl,k lf zs H2 (fun b o e=>b2 _ _ (s0 _ _ (s3 _ _ (s2 _ _ e))) (zA2 e hHlf)) hHlf h2 hzs⟩
end
end L2.W
namespace L2.W
open PySem My
theorem perm_sum {l m:List Nat} (p:l.Perm m):l.sum=m.sum:=by
 induction p with
 | nil=>rfl
 | cons x _ ih=>rw [Yn,Yn,ih]
 | swap x y l=>simp only [Yn];omega
 | trans _ _ a b=>rw [a,b]
theorem zC4 {rs:List Row} (rp:RowsP rs) (h:rs.length≤4):(allSits rs).length=(rs.map fun r=>(sitsOf rs r).length).sum:=by
 unfold allSits;rw [List.length_flatMap];exact perm_sum ((zDb rp h).map _)
theorem zDt (fs:List (Str×List Str)):(wishes fs).length=manyA (wiA fs) + 1:=by
 unfold wishes;rw [Zi,Z0,zAo]
theorem now_len (r:Row):(nowS r).length=manyOf r.fields + 1:=by
 unfold nowS;rw [Zi,Z0,zAo,zCc]
theorem ownS_le {rs:List Row} (rp:RowsP rs) {m:Nat} (h1:1≤m) (hm:∀ r∈rs,manyOf r.fields≤m) {r:Row} (hr:r∈rs):(ownS rs r).length≤m:=by
 cases e:r.owner with
 | none=>rw [zB9 e];exact h1
 | some o =>
  obtain ⟨r',h2,rfl⟩:=rp.ownIn r hr o e;rw [zBh rp h2 e,Z0,zAo,zCc];exact hm r' h2
theorem sits_le {rs:List Row} (rp:RowsP rs) {m a b:Nat} (h1:1≤m) (hm:∀ r∈rs,manyOf r.fields≤m) {r:Row} (hr:r∈rs) (ha:manyA (wiA r.fields)≤a) (hb:manyOf r.fields≤b):(sitsOf rs r).length≤(a + 1) * (m * (b + 1)):=by
 rw [zCx,zDt,now_len];exact Nat.mul_le_mul (by omega) (Nat.mul_le_mul (ownS_le rp h1 hm hr) (by omega))
noncomputable def tails:List Str:=("" : Str) :: letters.cps.toList.map fun c=>⟨#[c]⟩
noncomputable def nmB (x:Str):Bool:=nameB x && PyData.strOk x && decide (x.length≤8)
theorem nmB_ok {x:Str} (h:nmB x=true):nameOk x:=by
 unfold nmB at h;simp only [Zu,decide_eq_true_eq] at h;exact ⟨h.1.1,h.1.2,h.2⟩
noncomputable def names4 (t:Str):List Str:=[("box" : Str)++t,("lid" : Str)++t,("a" : Str)++t,("boxes" : Str)++t]
noncomputable def vals3 (t:Str):List Str:=["on", "off",("wish" : Str)++t]
noncomputable def told (t:Str) (b:Bool):List Str:=if b then ["meets",("f" : Str)++t] else [("f" : Str)++t, "meets"]
noncomputable def goodT (t:Str):Bool:=(names4 t).all nmB && decide (names4 t).Nodup && !decide (("zed" : Str)∈names4 t) && (vals3 t).all nmB && decide (vals3 t).Nodup && (told t true).all nmB && decide (told t true).Nodup && decide (told t false).Nodup &&
 [("off" : Str)++t, "on", "f",("meets" : Str)++t, "is"].all nmB && decide (["on",("off" : Str)++t]:List Str).Nodup && decide (["f",("meets" : Str)++t, "is"]:List Str).Nodup && decide (t.length≤1)
theorem tails_good:tails.all goodT=true:=by decide +kernel
structure Drawn (H H':Hp) (l:Addr) (rs:List Row):Prop where
 has:Has (fun a=>H a=none) H' (.ref l) (.list (rs.map rowD))
 ok:RowsOk rs
 le:rs.length≤4
 fit:(allSits rs).length≤1000
 zed:("zed" : Str)∉rs.map (·.name)
end L2.W
namespace L2.W
open PySem My
theorem good_of {t:Str} (h:t∈tails):goodT t=true:=List.all_eq_true.mp tails_good t h
structure TailOk (t:Str):Prop where
 n4:∀ x∈names4 t,nameOk x
 nd4:(names4 t).Nodup
 zed:("zed" : Str)∉names4 t
 v3:∀ x∈vals3 t,nameOk x
 nd3:(vals3 t).Nodup
 tl:∀ x∈told t true,nameOk x
 ndt:(told t true).Nodup
 ndf:(told t false).Nodup
 five:∀ x∈([("off" : Str)++t, "on", "f",("meets" : Str)++t, "is"]:List Str),nameOk x
 nd2:(["on",("off" : Str)++t]:List Str).Nodup
 ndo:(["f",("meets" : Str)++t, "is"]:List Str).Nodup
 len:t.length≤1
theorem tail_ok {t:Str} (h:t∈tails):TailOk t:=by
 have g:=good_of h;unfold goodT at g;simp only [Zu,decide_eq_true_eq,Bool.not_eq_true',decide_eq_false_iff_not] at g;obtain ⟨⟨⟨⟨⟨⟨⟨⟨⟨⟨⟨a,b⟩,c⟩,d⟩,e⟩,f⟩,g⟩,h⟩,i⟩,j⟩,k⟩,l⟩:=g;exact ⟨fun x hx=>nmB_ok (List.all_eq_true.mp a x hx),b,c,fun x hx=>nmB_ok (List.all_eq_true.mp d x hx),e,fun x hx=>nmB_ok (List.all_eq_true.mp f x hx),g,h,fun x hx=>nmB_ok (List.all_eq_true.mp i x hx),j,k,l⟩
noncomputable def two (t:Str):List Str:=["on",("off" : Str)++t]
theorem zDv {t:Str} (h:TailOk t):ValsOk (two t):=⟨by show 0 < 2;decide,by show 2≤8;decide,h.nd2,fun x hx=>h.five x (by simp [two] at hx ⊢;rcases hx with e | e <;> simp [e])⟩
noncomputable def box3 (t:Str):Row:=⟨("box" : Str)++t,[("f",two t),(("meets" : Str)++t,two t),("is",two t)],none⟩
noncomputable def rowK (t:Str) (b:Bool) (j:Nat):Row:=⟨(names4 t).getD j "",if b then [("f",two t)] else [],if j=0 then none else some ((names4 t).getD (j - 1) "")⟩
noncomputable def mkRows (t:Str) (bs:List Bool):List Row:=bs.mapIdx fun j b=>rowK t b j
theorem mk_snoc (t:Str) (bs:List Bool) (b:Bool):mkRows t (bs++[b])=mkRows t bs++[rowK t b bs.length]:=by unfold mkRows;simp
theorem zCb (t:Str) (bs:List Bool):(mkRows t bs).length=bs.length:=by unfold mkRows;simp
theorem zDd {t:Str}{j:Nat} (hj:j < 4):(names4 t).getD j ""∈names4 t:=by
 match j,hj with
 | 0,_=>exact Zd
 | 1,_=>exact Z5 _ Zd
 | 2,_=>exact Z5 _ (Z5 _ Zd)
 | 3,_=>exact Z5 _ (Z5 _ (Z5 _ Zd))
theorem mk_get {t:Str}{bs:List Bool}{i:Nat}{r:Row} (e:(mkRows t bs)[i]? = some r):∃ b,bs[i]? = some b∧r=rowK t b i:=by
 unfold mkRows at e;rw [List.getElem?_mapIdx] at e;cases eb:bs[i]? with
 | none=>rw [eb] at e;cases e
 | some b=>rw [eb] at e;exact ⟨b,rfl,(Zj e).symm⟩
theorem rowK_ok {t:Str} (h:TailOk t) {b:Bool}{j:Nat} (hj:j < 4):nameOk (rowK t b j).name∧FieldsOk (rowK t b j).fields:=by
 refine ⟨h.n4 _ (zDd hj),?_⟩;cases b with
 | false=>exact ⟨by show 0≤3;decide,List.nodup_nil,(fun f hf=>nomatch hf),by show 1≤8;decide⟩
 | true =>
  refine ⟨by show 1≤3;decide,List.pairwise_singleton _ _,fun f hf=>?_,by show 2≤8;decide⟩;rw [List.mem_singleton.mp hf];exact ⟨h.five "f" (by simp),zDv h⟩
theorem mk_ok {t:Str} (h:TailOk t) {bs:List Bool} (hl:bs.length=4):RowsOk (mkRows t bs)∧("zed" : Str)∉(mkRows t bs).map (·.name):=by
 have nm:(mkRows t bs).map (·.name)=names4 t:=by
  unfold mkRows
  match bs,hl with
  | [a,b,c,d],_=>rfl
 refine ⟨⟨by rw [zCb];omega,by rw [zCb];omega,by rw [nm];exact h.nd4,fun r hr=>?_,fun i r o e eo=>?_⟩,by rw [nm];exact h.zed⟩
 ·obtain ⟨i,e⟩:=List.mem_iff_getElem?.mp hr;obtain ⟨b,eb,rfl⟩:=mk_get e;exact rowK_ok h (by have:=(List.getElem?_eq_some_iff.mp eb).1;omega)
 ·obtain ⟨b,eb,rfl⟩:=mk_get e;have hi:=(List.getElem?_eq_some_iff.mp eb).1;unfold rowK at eo;by_cases c:i=0
  ·rw [if_pos c] at eo;cases eo
  ·rw [if_neg c] at eo;cases eo;have hi2:i - 1 < bs.length:=by omega
   refine ⟨i - 1,rowK t bs[i - 1] (i - 1),by omega,?_,rfl⟩;unfold mkRows;rw [List.getElem?_mapIdx,Z1 hi2];rfl
theorem mk_fit {t:Str} (h:TailOk t) {bs:List Bool} (hl:bs.length=4):(allSits (mkRows t bs)).length≤1000:=by
 have rp:RowsP (mkRows t bs):=⟨_,(mk_ok h hl).1,List.Perm.refl _⟩;have l4:(mkRows t bs).length=4:=by rw [zCb,hl]
 have each:∀ r∈mkRows t bs,manyOf r.fields≤2∧manyA (wiA r.fields)≤3:=fun r hr=>by
  obtain ⟨i,e⟩:=List.mem_iff_getElem?.mp hr;obtain ⟨b,eb,rfl⟩:=mk_get e;cases b
  ·exact ⟨by show 1≤2;decide,by show 1≤3;decide⟩
  ·exact ⟨by show 2≤2;decide,by show 3≤3;decide⟩
 rw [zC4 rp (by omega)];have key:∀ l:List Row,(∀ r∈l,(sitsOf (mkRows t bs) r).length≤24)→(l.map fun r=>(sitsOf (mkRows t bs) r).length).sum≤24 * l.length:=by
  intro l
  induction l with
  | nil=>intro _;simp
  | cons a r ih =>
   intro hh;have h1:=hh a Zd;have h2:=ih fun x hx=>hh x (Z5 _ hx);simp only [Zr,Yn,Zi];omega
 have:=key (mkRows t bs) fun r hr=>sits_le rp (m:=2) (a:=3) (b:=2) (by decide) (fun q hq=>(each q hq).1) hr (each r hr).2 (each r hr).1;omega
theorem box_ok {t:Str} (h:TailOk t):RowsOk [box3 t]∧("zed" : Str)∉[box3 t].map (·.name)∧(allSits [box3 t]).length≤1000:=by
 have hz:("zed" : Str)∉[box3 t].map (·.name):=fun z=>h.zed (by
  rw [List.mem_singleton.mp z]
  exact Zd)
 have ok:RowsOk [box3 t]:=by
  refine ⟨by show 0 < 1;decide,by show 1≤5;decide,List.pairwise_singleton _ _,fun r hr=>?_,fun i r o e eo=>?_⟩
  ·rw [List.mem_singleton.mp hr];refine ⟨h.n4 _ Zd,⟨by show 3≤3;decide,h.ndo,fun f hf=>?_,by show 8≤8;decide⟩⟩;have hf':f=(("f" : Str),two t)∨f=(("meets" : Str)++t,two t)∨f=(("is" : Str),two t):=by simpa [box3] using hf
   rcases hf' with rfl | rfl | rfl
   ·exact ⟨h.five "f" (by simp),zDv h⟩
   ·exact ⟨h.five (("meets" : Str)++t) (by simp),zDv h⟩
   ·exact ⟨h.five "is" (by simp),zDv h⟩
  ·have:r=box3 t:=List.mem_singleton.mp (Z3 e);rw [this] at eo;cases eo
 refine ⟨ok,hz,?_⟩;have rp:RowsP [box3 t]:=⟨_,ok,List.Perm.refl _⟩;rw [zC4 rp (by show 1≤4;decide)];show (sitsOf [box3 t] (box3 t)).length + 0≤1000;rw [zCx,zDt,now_len,zB9 rfl];have e1:manyA (wiA (box3 t).fields)=27:=rfl;have e2:manyOf (box3 t).fields=8:=rfl;rw [e1,e2]
 decide
end L2.W
namespace L2.W
open PySem My
theorem _root_.My.Src.nw {H:Hp}{p b:Addr}{k:Int} (S:Src H p k) (h:H b=none):b≠p:=by obtain ⟨_,_,_,e,_⟩:=S;exact Ne.symm (zA2 e h)
theorem _root_.My.Src.up {H H':Hp}{p:Addr}{k:Int} (S:Src H p k) (s:Same H H'):Src H' p k:=by obtain ⟨a,c,i,e,r⟩:=S;exact ⟨a,c,i,s _ _ e,r⟩
theorem _root_.My.Src.le {H:Hp}{p:Addr}{k m:Int} (S:Src H p k) (h:k≤m):Src H p m:=by obtain ⟨a,c,i,e,r1,r2⟩:=S;exact ⟨a,c,i,e,r1,Int.le_trans r2 h⟩
noncomputable def ButS (p:Addr) (H H':Hp):Prop:=∀ b o,H b=some o→b≠p→H' b=some o
noncomputable def spOdd:Sp:=fun vs H Q _=>∃ (p:Addr) (k:Int) (t:Str),vs=[.ref p,.str t]∧t∈tails∧Src H p k∧k≤900000 ∧
 ∀ (l:Addr) (rs:List Row) (H':Hp),Drawn H H' l rs→Src H' p (k + 10)→ButS p H H'→Q (.ref l) H'
section
variable {P:Program}{w:World}{K:PySem.W.Frag}{mg:Str→Option Value}{base:Heap}{CX:CXT}
theorem scOk:FnScope ["_law_source", "_law_tail", "_law_two", "_law_fields", "_law_found", "_law_k", "_law_owner"] ["_law_source", "_law_tail"] (defScope sOddKinds):=⟨rfl,rfl,rfl,by decide +kernel,rfl,by decide +kernel,by decide +kernel⟩
theorem ok_odd {f fn:Addr}{fd fdn:FuncData} (hC:Calm CX) (T:Tops K mg) (F:Fun K "_law_odd_kinds" "_law_odd_kinds" sOddKinds f fd) (Dn:Def K mg "_law_next" sNext ["_law_source", "_law_many"] fn fdn) (Gn:FnOk P w K mg base CX 2 fn fdn ["_law_source", "_law_many"] spNext):FnOk P w K mg base CX 3 f fd ["_law_source", "_law_tail"] spOdd:=by
 refine Fun.okC F scOk (fun vs H Q E h=>?_) (fun cdv A outer s H vs Q E hr h=>?_)
 ·obtain ⟨p,k,t,rfl,_⟩:=h;rfl
 ·obtain ⟨p,k,t,rfl,ht,S0,k9,q⟩:=h;have nd:=scOk.nd
  refine ⟨_,zA4 (zAa (i:=2) nd rfl (Or.inl rfl) (zAe (zA0 zAi (zA0 (zAf zB0 zAi (pv 1)) zA3))))
     (zA4 (zBg (zAz op_eq (zA9 Gn hr rfl Dn.at_ Dn.fn.kp Dn.bind .nil (passC hC) (zA0 (pv 0) (zA0 zA7 zA3))) zA7 (nomark _))
     (zA6 (zAg (zAe (zA0 (zAw (zA0 (zAf zB0 zAi (pv 1)) (zA0 (zAe (zA0 (zAw (zA0 zAi (zA0 (pv 2) zA3))) (zA0 (zAw (zA0 (zAf zB0 zAi (pv 1)) (zA0 (pv 2) zA3))) (zA0 (zAw (zA0 zAi (zA0 (pv 2) zA3))) zA3)))) (zA0 zB7 zA3)))) zA3)))) zAl)
     (zA4 (zAa (i:=3) nd rfl (Or.inl rfl) (zAe (zA0 (zAe zA3) (zA0 (zAe (zA0 (zAw (zA0 zAi (zA0 (pv 2) zA3))) zA3)) zA3))))
     (zA4 (zAa (i:=4) nd rfl (Or.inl rfl) (zAe zA3))
     (zA4 (zB5 PassesOwn.never rfl (zBq rfl T.range (zA0 zA7 zA3)) (zA8 (i:=5) nd rfl (Or.inl rfl))
     (zA4 (zAa (i:=6) nd rfl (Or.inl rfl) (zAu zAp (zAf zBz (zAe (zA0 zB7 zA3)) (zAj (T:=["_law_one"]) rfl ScOk.auto (zAb (pv 4)) (fun _ _ _ _=>zA8 (i:=7) (by decide +kernel:(["_law_source", "_law_tail", "_law_two", "_law_fields", "_law_found", "_law_k", "_law_owner", "_law_one"]:List Str).Nodup) rfl (Or.inl rfl)) (fun _ _ _ _=>zAt) (fun _ _ _ _=>(zAu (r:=rIxT K) zBu (pv 7) zA7 (fun _ _=>rfl))))) (pe_un un_neg zA7) (fun _ _=>rfl)))
     (zA6 (zB3 (zCv PySem.F.plainAttrs_list PySem.F.slot_list_append PySem.F.type_list_append zBi (pv 4) (zA0 (zAw (zA0 (zAf zB0 (zAu zAp (zAe (zA0 zAi (zA0 zAi (zA0 zAi (zA0 zAi zA3))))) (pv 5) (fun _ _=>rfl)) (pv 1)) (zA0 (zAu zAp (pv 3) (zAd (call_max2 rfl) rfl T.max PyProof.Rows.boot_max (zA0 (zAx zDp rfl T.int PyProof.Rows.boot_int (zA0 (zBl op_gt (pv 5) zA7 (nomark _)) zA3)) (zA0 (zA9 Gn hr rfl Dn.at_ Dn.fn.kp Dn.bind .nil (passC hC) (zA0 (pv 0) (zA0 zA7 zA3))) zA3))) (fun _ _=>rfl)) (zA0 (pv 6) zA3)))) zA3))))))
     (zA6 (zAg (pv 4))))))),?_⟩
  have small:∀ n:Nat,n≤1000→n≤sizeLine:=fun n h=>Zq (small1000 h);have tk:=tail_ok ht;have tl:=tk.len;have sz:∀ x:Str,x.length≤8→x.length + t.length≤sizeLine:=fun x hx=>small _ (by omega);refine ⟨_,rfl,_,_,rfl,rfl,sz _ (by decide),by show 2≤sizeLine;exact small 2 (by decide),fun l2 hl2=>?_⟩;rw [show ([.str "on",.str (("off" : Str)++t)]:List V)=(two t).map V.str from rfl];have s1:Same H (upd H l2 (.lst ((two t).map V.str))):=Same.new hl2;have x1:(upd H l2 (.lst ((two t).map V.str))) l2=some (.lst ((two t).map V.str)):=zA1;have n2:l2≠p:=S0.nw hl2;have S1:=S0.up s1;generalize upd H l2 (.lst ((two t).map V.str))=H1 at s1 x1 S1 ⊢;refine ⟨_,rfl,p,2,k,rfl,S1,by omega,by decide,by decide,fun r0 H2 a0 a1 S2 k2=>⟨rfl,_,rfl,?_⟩⟩;have b1:ButS p H H2:=fun b o e n=>by rw [k2 b n];exact s1 _ _ e
  have x2:H2 l2=some (.lst ((two t).map V.str)):=by rw [k2 l2 n2];exact x1
  have hp:H p≠none:=by obtain ⟨_,_,_,e,_⟩:=S0;rw [e];exact fun z=>nomatch z
  have fresh:∀ {H':Hp},ButS p H H'→Src H' p (k + 1)→∀ {b:Addr},H' b=none→H b=none:=fun {H'} bs S b hb=>by
   by_cases c:b=p
   ·subst c;exact absurd hb (by obtain ⟨_,_,_,e,_⟩:=S;rw [e];exact fun z=>nomatch z)
   ·cases e:H b with
    | none=>rfl
    | some o=>rw [bs b o e c] at hb;cases hb
  have twoH:∀ {H':Hp},H' l2=some (.lst ((two t).map V.str))→Has (fun a=>H a=none) H' (.ref l2) (.list ((two t).map .str)):=fun e=>.lst hl2 e (by show 2≤1000;decide) (zB2 (zDv tk).ok);have sH:∀ {x:Str}{G:Addr→Prop}{H':Hp},nameOk x→Has G H' (.str x) (.str x):=fun h=>.str _ (Zk h.2.2 (by decide)) h.2.1;refine ite2 (fun _=>?_) (fun _=>?_)
  ·refine ⟨_,rfl,_,_,rfl,rfl,sz _ (by decide),_,rfl,small 2 (by decide),fun t1 ht1=>⟨_,rfl,_,_,rfl,rfl,sz _ (by decide),_,rfl,small 2 (by decide),fun t2 ht2=>⟨_,rfl,small 2 (by decide),fun t3 ht3=>⟨small 3 (by decide),fun lf hlf=>⟨small 3 (by decide),fun tr htr=>⟨small 1 (by decide),fun ll hll=>?_⟩⟩⟩⟩⟩⟩;have u1:=Same.new (o:=.tup [.str "f",.ref l2]) ht1;have u2:=Same.new (o:=.tup [.str (("meets" : Str)++t),.ref l2]) ht2;have u3:=Same.new (o:=.tup [.str "is",.ref l2]) ht3;have u4:=Same.new (o:=.lst [.ref t1,.ref t2,.ref t3]) hlf;have u5:=Same.new (o:=.tup [.str (("box" : Str)++t),.ref lf,.non]) htr;have u6:=Same.new (o:=.lst [.ref tr]) hll;have fr:∀ {H':Hp},Same H2 H'→∀ {b:Addr},H' b=none→H b=none:=fun s b hb=>fresh b1 S2 (s.free hb);have a2:=u1.trans u2;have a3:=a2.trans u3;have a4:=a3.trans u4;have a5:=a4.trans u5;have a6:=a5.trans u6;have c5:=u5.trans u6;have c4:=u4.trans c5;have c3:=u3.trans c4;have c2:=u2.trans c3;obtain ⟨o1,o2,o3⟩:=box_ok tk;have tw:=twoH (a6 _ _ x2)
   refine q ll [box3 t] _ ⟨.lst (fr a5 hll) zA1 (by show 1≤1000;decide) (.cons (.tup (fr a4 htr) (u6 _ _ zA1) (by show 3≤1000;decide) (.cons (sH (tk.n4 _ Zd)) (.cons (.lst (fr a3 hlf) (c5 _ _ zA1) (by show 3≤1000;decide)
    (.cons (.tup (fr (Same.refl _) ht1) (c2 _ _ zA1) (by show 2≤1000;decide) (.cons (sH (tk.five "f" (by simp))) (.cons tw .nil)))
    (.cons (.tup (fr u1 ht2) (c3 _ _ zA1) (by show 2≤1000;decide) (.cons (sH (tk.five (("meets" : Str)++t) (by simp))) (.cons tw .nil)))
    (.cons (.tup (fr a2 ht3) (c4 _ _ zA1) (by show 2≤1000;decide) (.cons (sH (tk.five "is" (by simp))) (.cons tw .nil))) .nil)))) (.cons .non .nil)))) .nil),o1,(by show 1≤4;decide),o3,o2⟩ ((S2.up a6).le (by omega)) fun b o e n=>a6 _ _ (b1 _ _ e n)
  ·refine ⟨Zm _,fun e0 he0=>⟨_,rfl,small 2 (by decide),fun t1 ht1=>⟨small 1 (by decide),fun e1 he1=>⟨small 2 (by decide),fun lF hlF=>⟨Zm _,fun lg hlg=>?_⟩⟩⟩⟩⟩;have u1:=Same.new (o:=.lst []) he0;have u2:=Same.new (o:=.tup [.str "f",.ref l2]) ht1;have u3:=Same.new (o:=.lst [.ref t1]) he1;have u4:=Same.new (o:=.lst [.ref e0,.ref e1]) hlF;have u5:=Same.new (o:=.lst []) hlg;have fr:∀ {H':Hp},Same H2 H'→∀ {b:Addr},H' b=none→H b=none:=fun s b hb=>fresh b1 S2 (s.free hb);have a2:=u1.trans u2;have a3:=a2.trans u3;have a4:=a3.trans u4;have a5:=a4.trans u5;have c4:=u4.trans u5;have c3:=u3.trans c4;have c2:=u2.trans c3;have y0:=c2 _ _ (zA1 (H:=H2) (a:=e0) (o:=.lst []));have y1:=c3 _ _ (zA1 (a:=t1) (o:=.tup [.str "f",.ref l2]));have y2:=c4 _ _ (zA1 (a:=e1) (o:=.lst [.ref t1]));have y3:=u5 _ _ (zA1 (a:=lF) (o:=.lst [.ref e0,.ref e1]));have y4:(upd (upd (upd (upd (upd H2 e0 (.lst [])) t1 (.tup [.str "f",.ref l2])) e1 (.lst [.ref t1])) lF (.lst [.ref e0,.ref e1])) lg (.lst [])) lg=some (.lst []):=zA1;have f0:=fr (Same.refl _) he0;have f1:=fr u1 ht1;have f2:=fr a2 he1;have f3:=fr a3 hlF;have f4:=fr a4 hlg;have d0:e0≠lg:=zA2 ((u2.trans (u3.trans u4)) _ _ (zA1 (H:=H2) (a:=e0) (o:=.lst []))) hlg;have d1:t1≠lg:=zA2 ((u3.trans u4) _ _ (zA1 (a:=t1) (o:=.tup [.str "f",.ref l2]))) hlg;have d2:e1≠lg:=zA2 (u4 _ _ (zA1 (a:=e1) (o:=.lst [.ref t1]))) hlg;have d3:lF≠lg:=zA2 (zA1 (a:=lF) (o:=.lst [.ref e0,.ref e1])) hlg;have d4:l2≠lg:=zA2 (a4 _ _ x2) hlg;have z2:=a5 _ _ x2;have S5:=S2.up a5;have b5:ButS p H (upd (upd (upd (upd (upd H2 e0 (.lst [])) t1 (.tup [.str "f",.ref l2])) e1 (.lst [.ref t1])) lF (.lst [.ref e0,.ref e1])) lg (.lst [])):=fun b o e n=>a5 _ _ (b1 _ _ e n);have np:lF≠p∧lg≠p∧e0≠p∧e1≠p∧t1≠p:=⟨(S2.up a3).nw hlF,(S2.up a4).nw hlg,S2.nw he0,(S2.up a2).nw he1,(S2.up u1).nw ht1⟩;clear a5 c2 c3 c4 u5 a4 a3 a2 u1 u2 u3 u4;generalize upd (upd (upd (upd (upd H2 e0 (.lst [])) t1 (.tup [.str "f",.ref l2])) e1 (.lst [.ref t1])) lF (.lst [.ref e0,.ref e1])) lg (.lst [])=H5 at y0 y1 y2 y3 y4 z2 S5 b5 ⊢;have keep:∀ {H':Hp},(∀ b o,H5 b=some o→b≠p→b≠lg→H' b=some o)→Has (fun a=>H a=none∧a≠lg) H' (.ref e0) (.list [])∧Has (fun a=>H a=none∧a≠lg) H' (.ref e1) (.list [fieldD ("f",two t)]):=fun {H'} g=>by
    refine ⟨.lst ⟨f0,d0⟩ (g _ _ y0 np.2.2.1 d0) (Zm _) .nil,.lst ⟨f2,d2⟩ (g _ _ y2 np.2.2.2.1 d2) (by show 1≤1000;decide) (.cons (.tup ⟨f1,d1⟩ (g _ _ y1 np.2.2.2.2 d1) (by show 2≤1000;decide) (.cons (sH (tk.five "f" (by simp))) (.cons ?_ .nil))) .nil)⟩;exact .lst ⟨hl2,d4⟩ (g _ _ z2 n2 d4) (by show 2≤1000;decide) (zB2 (zDv tk).ok)
   refine ⟨4,rfl,by decide,by decide,zDm (n:=4) (fun i σ H'=>∃ (x5 x6:Option V) (bs:List Bool) (zs:List V),σ = [some (.ref p),some (.str t),some (.ref l2),some (.ref lF),some (.ref lg),x5,x6]∧bs.length=i∧(∀ b o,H5 b=some o→b≠p→b≠lg→H' b=some o)∧Src H' p (k + 1 + i)∧H' lg=some (.lst zs)∧HasAll (fun a=>H a=none∧a≠lg) H' zs ((mkRows t bs).map rowD))
    ⟨_,_,[],[],rfl,rfl,fun _ _ e _ _=>e,S5.le (by omega),y4,.nil⟩ ?_ ?_⟩
   ·rintro i σ H6 hi ⟨x5,x6,bs,zs,rfl,bl,g6,S6,h6,hz6⟩;have zl:zs.length=i:=by rw [hz6.length,Z0,zCb,bl]
    rw [Int.zero_add];refine ⟨small 1 (by decide),fun l0 hl0=>?_⟩;have v0:=Same.new (o:=.lst [.non]) hl0;have w0:(upd H6 l0 (.lst [.non])) l0=some (.lst [.non]):=zA1;have S7:=S6.up v0;generalize upd H6 l0 (.lst [.non])=H7 at v0 w0 S7 ⊢;refine ⟨_,rfl,lg,rfl,⟨_,SqL.of (v0 _ _ h6)⟩,zAc (xs:=zs) (fun j ys H'=>H'=H7∧ys=((mkRows t bs).take j).map fun r=>V.str r.name) ⟨rfl,rfl⟩ (fun j ys H' z=>by rw [z.1];exact SqL.of (v0 _ _ h6)) (fun j ys H' hj z=>?_) ?_ ?_⟩
    ·rw [z.2,Z0];have:=Zl j (mkRows t bs);rw [zCb] at this;exact small _ (by omega)
    ·rintro j x ys H' hj ⟨rfl,rfl⟩ N hN;obtain ⟨d,hd,hv⟩:=hz6.get hj;rw [Z6] at hd;cases er:(mkRows t bs)[j]? with
     | none=>rw [er] at hd;cases hd
     | some r =>
      rw [er] at hd;cases hd;obtain ⟨tt,lq,rfl,ht',_⟩:=zBf hv;refine pick ⟨_,rfl,tt,_,((0:Nat):Int),_,rfl,rfl,SqT.of (v0 _ _ ht'),zAr rfl,hN _ _ ⟨rfl,?_⟩⟩;rw [Z4,er,Z9];rfl
    ·rintro ys H' ⟨rfl,rfl⟩ lc hlc;have tke:(mkRows t bs).take zs.length=mkRows t bs:=List.take_of_length_le (by rw [zCb];omega);rw [tke];have vl:atI ([V.non]++(mkRows t bs).map fun r=>V.str r.name) (-1)=some (ownV (rowK t false i).owner):=by
      rcases List.eq_nil_or_concat bs with e | ⟨bt,b,e⟩
      ·rw [e] at bl;rw [← bl,e];rfl
      ·rw [List.concat_eq_append] at e;rw [e,mk_snoc,Z9,← List.append_assoc];rw [e,Z8,List.length_singleton] at bl;rw [show ([rowK t b bt.length].map fun r=>V.str r.name)=[V.str (rowK t b bt.length).name] from rfl,atI_last];rw [← bl];show _=some (ownV (if bt.length + 1=0 then none else some ((names4 t).getD (bt.length + 1 - 1) "")));rw [if_neg (by omega),Nat.add_sub_cancel];rfl
     refine ⟨l0,lc,_,_,rfl,rfl,(Same.new hlc) _ _ w0,zA1,small _ (by rw [Z0,zCb];show 1 + bs.length≤1000;omega),fun l3 hl3=>⟨1,rfl,l3,_,-1,_,rfl,rfl,SqL.of zA1,vl,?_⟩⟩;have v1:=v0.trans ((Same.new (o:=.lst ((mkRows t bs).map fun r=>V.str r.name)) hlc).trans (Same.new (o:=.lst ([V.non]++(mkRows t bs).map fun r=>V.str r.name)) hl3));have S8:=S6.up v1;generalize upd (upd H' lc (.lst ((mkRows t bs).map fun r=>V.str r.name))) l3 (.lst ([V.non]++(mkRows t bs).map fun r=>V.str r.name))=H8 at v1 S8 ⊢;obtain ⟨wd,hw,hwt,hwl⟩:∃ wd:Str,([.str "box",.str "lid",.str "a",.str "boxes"]:List V)[i]? = some (.str wd)∧(names4 t).getD i "" = wd++t∧wd.length≤8:=by
      match i,hi with
      | 0,_=>exact ⟨"box",rfl,rfl,by decide⟩
      | 1,_=>exact ⟨"lid",rfl,rfl,by decide⟩
      | 2,_=>exact ⟨"a",rfl,rfl,by decide⟩
      | 3,_=>exact ⟨"boxes",rfl,rfl,by decide⟩
     refine ⟨_,rfl,.inl ⟨rfl,zs,SqL.of (v1 _ _ h6)⟩,small 4 (by decide),fun ln hln=>⟨_,rfl,ln,_,((i:Nat):Int),_,rfl,rfl,SqL.of zA1,zAr hw,_,rfl,wd,t,rfl,rfl,sz _ hwl,_,rfl,_,rfl,(i:Int),1,rfl,rfl,.inr ⟨_,rfl,?_⟩⟩⟩;have v2:=v1.trans (Same.new (o:=.lst [.str "box",.str "lid",.str "a",.str "boxes"]) hln);have S9:=S6.up v2;generalize upd H8 ln (.lst [.str "box",.str "lid",.str "a",.str "boxes"])=H9 at v2 S9 ⊢;refine ⟨_,rfl,p,2,_,rfl,S9,by omega,by decide,by decide,fun r1 H10 a0 a1 S10 k10=>⟨_,_,rfl,?_⟩⟩;obtain ⟨b,hb⟩:∃ b:Bool,(if r1 > (if decide ((1:Int) < (i:Int))=true then 1 else 0) then r1 else (if decide ((1:Int) < (i:Int))=true then (1:Int) else 0))=(((if b then 1 else 0):Nat):Int):=by
      have:r1=0∨r1=1:=by omega
      by_cases c:(1:Int) < (i:Int)
      ·rw [decide_eq_true c];rcases this with e | e <;> exact ⟨true,by rw [e];rfl⟩
      ·rw [decide_eq_false c];rcases this with e | e
       ·exact ⟨false,by rw [e];rfl⟩
       ·exact ⟨true,by rw [e];rfl⟩
     rw [hb];have g10:∀ b o,H6 b=some o→b≠p→H10 b=some o:=fun b o e n=>by rw [k10 b n];exact v2 _ _ e
     have hF10:=g10 _ _ (g6 _ _ y3 np.1 d3) np.1;have hg10:=g10 _ _ h6 np.2.1;refine ⟨lF,_,_,.ref (if b then e1 else e0),rfl,rfl,SqL.of hF10,zAr (by cases b <;> rfl),_,rfl,small 3 (by decide),fun tr htr=>⟨lg,zs,.ref tr,rfl,rfl,(Same.new htr) _ _ hg10,small1000 (by omega),?_⟩⟩;have ntr:tr≠lg:=(zA2 hg10 htr).symm;refine ⟨_,_,bs++[b],zs++[.ref tr],rfl,by rw [Z8,bl];rfl,fun c o e n1 n2=>?_,?_,zA1,?_⟩
     ·rw [zA5 n2];exact (Same.new htr) _ _ (g10 _ _ (g6 _ _ e n1 n2) n1)
     ·obtain ⟨a',c',j',e',r'⟩:=S10.up (Same.new (o:=.tup [.str (wd++t),.ref (if b then e1 else e0),ownV (rowK t false i).owner]) htr);refine ⟨a',c',j',by rw [zA5 np.2.1.symm];exact e',r'.1,by have:=r'.2;push_cast;omega⟩
     ·have gF:∀ c o,H5 c=some o→c≠p→c≠lg→(upd (upd H10 tr (.tup [.str (wd++t),.ref (if b then e1 else e0),ownV (rowK t false i).owner])) lg (.lst (zs++[.ref tr]))) c=some o:=fun c o e n1 n2=>by
       rw [zA5 n2];exact (Same.new htr) _ _ (g10 _ _ (g6 _ _ e n1 n2) n1)
      have er:rowD (rowK t b bs.length)=.tuple [.str (wd++t),.list ((if b=true then [(("f" : Str),two t)] else []).map fieldD),ownD (rowK t false i).owner]:=by
       rw [bl];show PyData.tuple [.str ((names4 t).getD i ""),_,_]=_;rw [hwt];rfl
      have ftr:H tr=none:=by
       have np':tr≠p:=S10.nw htr;cases e:H tr with
       | none=>rfl
       | some o =>
        have:=g10 _ _ (g6 _ _ (b5 _ _ e np') np' ntr) np';rw [htr] at this;cases this
      obtain ⟨k0,k1⟩:=keep gF;rw [mk_snoc,Z9,show [rowK t b bs.length].map rowD=[rowD (rowK t b bs.length)] from rfl,er];refine HasAll.snoc (hz6.frame fun c o g e=>⟨g,?_⟩) (.tup ⟨ftr,ntr⟩ (by rw [zA5 ntr];exact zA1) (by show 3≤1000;decide) (.cons (sH ?_) (.cons ?_ (.cons (zEs fun x e=>?_) .nil))))
      ·rw [zA5 g.2];exact (Same.new htr) _ _ (g10 _ _ e fun z=>hp (z ▸ g.1))
      ·rw [← hwt];exact tk.n4 _ (zDd hi)
      ·cases b
       ·exact k0
       ·exact k1
      ·unfold rowK at e;by_cases c:i=0
       ·rw [if_pos c] at e;cases e
       ·rw [if_neg c] at e;cases e;exact tk.n4 _ (zDd (by omega))
   ·rintro σ H6 ⟨x5,x6,bs,zs,rfl,bl,g6,S6,h6,hz6⟩;obtain ⟨o1,o2⟩:=mk_ok tk bl;refine ⟨_,rfl,q lg (mkRows t bs) H6 ⟨.lst f4 h6 (by rw [hz6.length,Z0,zCb];omega) (hz6.frame fun b o g e=>⟨g.1,e⟩),o1,by rw [zCb];omega,mk_fit tk bl,o2⟩ (S6.le (by omega)) fun b o e n=>g6 _ _ (b5 _ _ e n) n (zA2 e f4)⟩
end
end L2.W
namespace L2.W
open PySem My
noncomputable def mkF (t:Str) (b:Bool) (n:Nat):List (Str×List Str):=[((told t b).getD 0 "",(vals3 t).take n),((told t b).getD 1 "",(vals3 t).take 2)]
theorem told_ok {t:Str} (h:TailOk t) (b:Bool):(∀ x∈told t b,nameOk x)∧(told t b).Nodup:=by
 cases b with
 | true=>exact ⟨h.tl,h.ndt⟩
 | false =>
  refine ⟨fun x hx=>h.tl x ?_,h.ndf⟩;have:x=("f" : Str)++t∨x = "meets":=by simpa [told] using hx
  rcases this with rfl | rfl <;> simp [told]
theorem vals_ok {t:Str} (h:TailOk t) {n:Nat} (h2:2≤n) (h3:n≤3):ValsOk ((vals3 t).take n):=by
 have l:((vals3 t).take n).length=n:=by rw [Zt];show min n 3=n;omega
 exact ⟨by omega,by omega,h.nd3.sublist (List.take_sublist n _),fun x hx=>h.v3 x (Ya hx)⟩
theorem told_in {t:Str}{b:Bool}{j:Nat} (hj:j < 2):(told t b).getD j ""∈told t b:=by
 match j,hj with
 | 0,_=>cases b <;> exact Zd
 | 1,_=>cases b <;> exact Z5 _ Zd
theorem mkF_ok {t:Str} (h:TailOk t) (b:Bool) {n m:Nat} (h2:2≤n) (h3:n≤3) (hm:m≤2):FieldsOk ((mkF t b n).take m)∧(m≤1→manyOf ((mkF t b n).take m)≤3∧manyA (wiA ((mkF t b n).take m))≤4)∧manyOf ((mkF t b n).take m)≤6∧manyA (wiA ((mkF t b n).take m))≤12:=by
 obtain ⟨o1,o2⟩:=told_ok h b;have l1:((vals3 t).take n).length=n:=by rw [Zt];show min n 3=n;omega
 have l2:((vals3 t).take 2).length=2:=rfl;have okf:∀ f∈mkF t b n,nameOk f.1∧ValsOk f.2:=fun f hf=>by
  have:f=((told t b).getD 0 "",(vals3 t).take n)∨f=((told t b).getD 1 "",(vals3 t).take 2):=by simpa [mkF] using hf
  rcases this with rfl | rfl
  ·exact ⟨o1 _ (told_in (by decide)),vals_ok h h2 h3⟩
  ·exact ⟨o1 _ (told_in (by decide)),vals_ok h (Zb _) (by decide)⟩
 have nm:(mkF t b n).map (·.1)=told t b:=by cases b <;> rfl
 have ndm:(((mkF t b n).take m).map (·.1)).Nodup:=by rw [List.map_take,nm];exact o2.sublist (List.take_sublist m _)
 have e0:manyOf [((told t b).getD 0 "",(vals3 t).take n)]=n:=by show 1 * ((vals3 t).take n).length=n;rw [l1];omega
 have e1:manyA (wiA [((told t b).getD 0 "",(vals3 t).take n)])=n + 1:=by show 1 * (none :: ((vals3 t).take n).map some).length=n + 1;rw [Zi,Z0,l1];omega
 have e2:manyOf (mkF t b n)=n * 2:=by show 1 * ((vals3 t).take n).length * 2=n * 2;rw [l1];omega
 have e3:manyA (wiA (mkF t b n))=(n + 1) * 3:=by show 1 * (none :: ((vals3 t).take n).map some).length * 3=(n + 1) * 3;rw [Zi,Z0,l1];omega
 match m,hm with
 | 0,_=>exact ⟨⟨by show 0≤3;decide,List.nodup_nil,(fun f hf=>nomatch hf),by show 1≤8;decide⟩,fun _=>⟨by show 1≤3;decide,by show 1≤4;decide⟩,by show 1≤6;decide,by show 1≤12;decide⟩
 | 1,_ =>
  have et:(mkF t b n).take 1=[((told t b).getD 0 "",(vals3 t).take n)]:=rfl;rw [et] at ndm ⊢;rw [e0,e1];exact ⟨⟨by show 1≤3;decide,ndm,fun f hf=>okf f (by rw [List.mem_singleton.mp hf];exact Zd),by rw [e0];omega⟩,fun _=>⟨by omega,by omega⟩,by omega,by omega⟩
 | 2,_ =>
  have et:(mkF t b n).take 2=mkF t b n:=rfl;rw [et] at ndm ⊢;rw [e2,e3];exact ⟨⟨by show 2≤3;decide,ndm,okf,by rw [e2];omega⟩,fun c=>absurd c (by decide),by omega,by omega⟩
structure DrawI (t:Str) (wide:Nat) (rs:List Row):Prop where
 row:RowsI rs
 nm:rs.map (·.name)=(names4 t).take rs.length
 bd:∀ (j:Nat) (r:Row),rs[j]? = some r→manyOf r.fields≤6∧manyA (wiA r.fields)≤12∧(j≠wide→manyOf r.fields≤3∧manyA (wiA r.fields)≤4)
theorem DrawI.done {t:Str}{wide:Nat}{rs:List Row} (h:TailOk t) (d:DrawI t wide rs) (h1:1≤rs.length) (h3:rs.length≤3):RowsOk rs∧(allSits rs).length≤1000∧("zed" : Str)∉rs.map (·.name):=by
 have ok:RowsOk rs:=⟨by omega,by omega,by rw [d.nm];exact h.nd4.sublist (List.take_sublist _ _),d.row.ok,d.row.own⟩;have rp:RowsP rs:=⟨_,ok,List.Perm.refl _⟩;refine ⟨ok,?_,fun z=>h.zed (by rw [d.nm] at z;exact Ya z)⟩;rw [zC4 rp (by omega)];have m6:∀ r∈rs,manyOf r.fields≤6:=fun r hr=>by
  obtain ⟨i,e⟩:=List.mem_iff_getElem?.mp hr;exact (d.bd i r e).1
 have one:∀ j r,rs[j]? = some r→(sitsOf rs r).length≤546∧(j≠wide→(sitsOf rs r).length≤120):=fun j r e=>by
  obtain ⟨b1,b2,b3⟩:=d.bd j r e;have hr:=Z3 e;exact ⟨sits_le rp (m:=6) (a:=12) (b:=6) (by decide) m6 hr b2 b1,fun c=>sits_le rp (m:=6) (a:=4) (b:=3) (by decide) m6 hr (b3 c).2 (b3 c).1⟩
 clear ok rp m6 d;generalize hf:(fun r=>(sitsOf rs r).length)=F at one ⊢;have one':∀ j r,rs[j]? = some r→F r≤546∧(j≠wide→F r≤120):=fun j r e=>by rw [← hf];exact one j r e
 clear one hf
 match rs,h1,h3 with
 | [a],_,_ =>
  have:=(one' 0 a rfl).1;show F a + 0≤1000;omega
 | [a,b],_,_ =>
  have p0:=one' 0 a rfl;have p1:=one' 1 b rfl;show F a + (F b + 0)≤1000;by_cases c:wide=0
  ·have:=p1.2 (by omega);omega
  ·have:=p0.2 (by omega);omega
 | [a,b,c'],_,_ =>
  have p0:=one' 0 a rfl;have p1:=one' 1 b rfl;have p2:=one' 2 c' rfl;show F a + (F b + (F c' + 0))≤1000;by_cases c:wide=0
  ·have:=p1.2 (by omega);have:=p2.2 (by omega);omega
  ·have:=p0.2 (by omega);by_cases c2:wide=1
   ·have:=p2.2 (by omega);omega
   ·have:=p1.2 (by omega);omega
end L2.W
namespace L2.W
open PySem My
noncomputable def spKinds:Sp:=fun vs H Q _=>∃ (p:Addr) (k:Int),vs=[.ref p]∧Src H p k∧k≤800000 ∧
 ∀ (l:Addr) (rs:List Row) (H':Hp),Drawn H H' l rs→Src H' p (k + 60)→ButS p H H'→Q (.ref l) H'
theorem cut_takeN {xs:List V}{j:Nat} (h:j≤xs.length):cutV xs none (some (j:Int))=xs.take j:=by
 have n:¬ ((j:Int) < 0):=by omega
 unfold cutV HT.sIx;simp [n,Nat.min_eq_left h]
theorem told_at {t:Str}{b:Bool}{j:Nat} (hj:j < 2):((told t b).map V.str)[j]? = some (.str ((told t b).getD j "")):=by
 match j,hj with
 | 0,_=>cases b <;> rfl
 | 1,_=>cases b <;> rfl
theorem mkF_step {t:Str}{b:Bool}{n nn j:Nat} (hj:j < 2) (h:j≠0→nn=2):(mkF t b (if j=0 then nn else n)).take (j + 1)=(mkF t b n).take j++[((told t b).getD j "",(vals3 t).take nn)]:=by
 match j,hj,h with
 | 0,_,_=>rfl
 | 1,_,h=>rw [h (by decide)];rfl
theorem names_at {t:Str}{i:Nat} (h:i < 4):(names4 t)[i]? = some ((names4 t).getD i ""):=by
 match i,h with
 | 0,_=>rfl
 | 1,_=>rfl
 | 2,_=>rfl
 | 3,_=>rfl
theorem DrawI.snoc {t:Str}{wide:Nat}{rs:List Row} (h:TailOk t) (d:DrawI t wide rs) (hl:rs.length < 4) {fs:List (Str×List Str)}{o:Option Str} (fo:FieldsOk fs) (b1:manyOf fs≤6) (b2:manyA (wiA fs)≤12) (b3:rs.length≠wide→manyOf fs≤3∧manyA (wiA fs)≤4)
  (ho:∀ x,o=some x→∃ (j:Nat) (r':Row),rs[j]? = some r'∧r'.name=x):DrawI t wide (rs++[⟨(names4 t).getD rs.length "",fs,o⟩]):=by
 refine ⟨d.row.snoc ⟨h.n4 _ (zDd hl),fo⟩ ho,?_,fun j r e=>?_⟩
 ·rw [Z9,d.nm,Z8,List.length_singleton,Z4,names_at hl];rfl
 ·by_cases c:j < rs.length
  ·rw [Zp c] at e;exact d.bd j r e
  ·have ej:j=rs.length:=by
    have:=(List.getElem?_eq_some_iff.mp e).1;rw [Z8,List.length_singleton] at this;omega
   subst ej;rw [Zx (Zb _),Nat.sub_self] at e;cases e;exact ⟨b1,b2,b3⟩
theorem tail_let {i:Nat} (h:i < 26):∃ c,letters.cps.toList[i]? = some c∧(⟨#[c]⟩:Str)∈tails:=by
 have l26:letters.cps.toList.length=26:=by decide +kernel
 refine ⟨letters.cps.toList[i],Z1 (by omega),Z5 _ ?_⟩;exact List.mem_map.mpr ⟨_,List.getElem_mem _,rfl⟩
section
variable {P:Program}{w:World}{K:PySem.W.Frag}{mg:Str→Option Value}{base:Heap}{CX:CXT}
theorem scKi:FnScope ["_law_source", "_law_tail", "_law_names", "_law_wide", "_law_found", "_law_k", "_law_fields", "_law_told", "_law_j", "_law_values", "_law_owner"] ["_law_source"] (defScope sKinds):=⟨rfl,rfl,rfl,by decide +kernel,rfl,by decide +kernel,by decide +kernel⟩
set_option maxHeartbeats 2000000 in
theorem ok_kinds51 {f fn fo:Addr}{fd fdn fdo:FuncData} (hC:Calm CX) (T:Tops K mg) (F:Fun K "_law_kinds" "_law_kinds" sKinds f fd) (Dn:Def K mg "_law_next" sNext ["_law_source", "_law_many"] fn fdn) (Gn:FnOk P w K mg base CX 2 fn fdn ["_law_source", "_law_many"] spNext)
  (Do:Def K mg "_law_odd_kinds" sOddKinds ["_law_source", "_law_tail"] fo fdo) (Go:FnOk P w K mg base CX 3 fo fdo ["_law_source", "_law_tail"] spOdd):FnOk P w K mg base CX 4 f fd ["_law_source"] spKinds:=by
 refine Fun.okC F scKi (fun vs H Q E h=>?_) (fun cdv A outer s H vs Q E hr h=>?_)
 ·obtain ⟨p,k,rfl,_⟩:=h;rfl
 ·obtain ⟨p,k,rfl,S0,k9,q⟩:=h;have nd:=scKi.nd;have hr2:=hr.mono (show 2≤3 by decide)
  refine ⟨_,zA4 (zAa (i:=1) nd rfl (Or.inr rfl) (zAu zAp (zAe (zA0 zAi (zA0 (zAu ix_str zAi (zA9 Gn hr2 rfl Dn.at_ Dn.fn.kp Dn.bind .nil (passC hC) (zA0 (pv 0) (zA0 zA7 zA3))) (fun _ _=>rfl)) zA3))) (zA9 Gn hr2 rfl Dn.at_ Dn.fn.kp Dn.bind .nil (passC hC) (zA0 (pv 0) (zA0 zA7 zA3))) (fun _ _=>rfl)))
     (zA4 (zBg (zAz op_eq (zA9 Gn hr2 rfl Dn.at_ Dn.fn.kp Dn.bind .nil (passC hC) (zA0 (pv 0) (zA0 zA7 zA3))) zA7 (nomark _))
     (zA6 (zAg (zA9 Go hr rfl Do.at_ Do.fn.kp Do.bind .nil (passC hC) (zA0 (pv 0) (zA0 (pv 1) zA3))))) zAl)
     (zA4 (zB8 (T:=["_law_word"]) (i:=2) rfl ScOk.auto (zAb (zAe (zA0 zAi (zA0 zAi (zA0 zAi (zA0 zAi zA3)))))) (fun _ _ _ _=>zA8 (i:=11) (by decide +kernel:(["_law_source", "_law_tail", "_law_names", "_law_wide", "_law_found", "_law_k", "_law_fields", "_law_told", "_law_j", "_law_values", "_law_owner", "_law_word"]:List Str).Nodup) rfl (Or.inl rfl)) (fun _ _ _ _=>zAt) (fun _ _ _ _=>(zAf zB0 (pv 11) (pv 1))) nd rfl rfl rfl)
     (zA4 (zAa (i:=3) nd rfl (Or.inl rfl) (zA9 Gn hr2 rfl Dn.at_ Dn.fn.kp Dn.bind .nil (passC hC) (zA0 (pv 0) (zA0 zA7 zA3))))
     (zA4 (zAa (i:=4) nd rfl (Or.inl rfl) (zAe zA3))
     (zA4 (zB5 PassesOwn.never rfl (zBq rfl T.range (zA0 (zAf zBn zA7 (zA9 Gn hr2 rfl Dn.at_ Dn.fn.kp Dn.bind .nil (passC hC) (zA0 (pv 0) (zA0 zA7 zA3)))) zA3)) (zA8 (i:=5) nd rfl (Or.inl rfl))
     (zA4 (zAa (i:=6) nd rfl (Or.inl rfl) (zAe zA3))
     (zA4 (zAa (i:=7) nd rfl (Or.inl rfl) (zAu zAp (zAe (zA0 (zAe (zA0 (zAf zB0 zAi (pv 1)) (zA0 zAi zA3))) (zA0 (zAe (zA0 zAi (zA0 (zAf zB0 zAi (pv 1)) zA3))) zA3))) (zA9 Gn hr2 rfl Dn.at_ Dn.fn.kp Dn.bind .nil (passC hC) (zA0 (pv 0) (zA0 zA7 zA3))) (fun _ _=>rfl)))
     (zA4 (zB5 PassesOwn.never rfl (zBq rfl T.range (zA0 (zAd (call_min2 rfl) rfl T.min PyProof.Rows.boot_min (zA0 (zAu zAp (zAe (zA0 zA7 (zA0 zA7 (zA0 zA7 (zA0 zA7 zA3))))) (zA9 Gn hr2 rfl Dn.at_ Dn.fn.kp Dn.bind .nil (passC hC) (zA0 (pv 0) (zA0 zA7 zA3))) (fun _ _=>rfl)) (zA0 (zAf zBn zA7 (zAx zDp rfl T.int PyProof.Rows.boot_int (zA0 (zBl op_eq (pv 5) (pv 3) (nomark _)) zA3))) zA3))) zA3)) (zA8 (i:=8) nd rfl (Or.inl rfl))
     (zA4 (zAa (i:=9) nd rfl (Or.inl rfl) (zCz sl_list (zAe (zA0 zAi (zA0 zAi (zA0 (zAf zB0 zAi (pv 1)) zA3)))) po_none (zEk (zAf zBn zA7 (zAf zCq (zA9 Gn hr2 rfl Dn.at_ Dn.fn.kp Dn.bind .nil (passC hC) (zA0 (pv 0) (zA0 zA7 zA3))) (zAx zDp rfl T.int PyProof.Rows.boot_int (zA0 (zBl op_eq (pv 8) zA7 (nomark _)) zA3)))))))
     (zA6 (zB3 (zCv PySem.F.plainAttrs_list PySem.F.slot_list_append PySem.F.type_list_append zBi (pv 6) (zA0 (zAw (zA0 (zAu zAp (pv 7) (pv 8) (fun _ _=>rfl)) (zA0 (pv 9) zA3))) zA3))))))
     (zA4 (zAa (i:=10) nd rfl (Or.inl rfl) (zAu zAp (zAf zBz (zAe (zA0 zB7 zA3)) (zAj (T:=["_law_one"]) rfl ScOk.auto (zAb (pv 4)) (fun _ _ _ _=>zA8 (i:=11) (by decide +kernel:(["_law_source", "_law_tail", "_law_names", "_law_wide", "_law_found", "_law_k", "_law_fields", "_law_told", "_law_j", "_law_values", "_law_owner", "_law_one"]:List Str).Nodup) rfl (Or.inl rfl)) (fun _ _ _ _=>zAt) (fun _ _ _ _=>(zAu (r:=rIxT K) zBu (pv 11) zA7 (fun _ _=>rfl))))) (zA9 Gn hr2 rfl Dn.at_ Dn.fn.kp Dn.bind .nil (passC hC) (zA0 (pv 0) (zA0 (zAf zBn (pv 5) zA7) zA3))) (fun _ _=>rfl)))
     (zA6 (zB3 (zCv PySem.F.plainAttrs_list PySem.F.slot_list_append PySem.F.type_list_append zBi (pv 4) (zA0 (zAw (zA0 (zAu zAp (pv 2) (pv 5) (fun _ _=>rfl)) (zA0 (pv 6) (zA0 (pv 10) zA3)))) zA3)))))))))
     (zA6 (zAg (pv 4)))))))),?_⟩
  have small:∀ n:Nat,n≤1000→n≤sizeLine:=fun n h=>Zq (small1000 h);have hp:H p≠none:=by obtain ⟨_,_,_,e,_⟩:=S0;rw [e];exact fun z=>nomatch z
  have fresh:∀ {H':Hp}{j:Int},ButS p H H'→Src H' p j→∀ {b:Addr},H' b=none→H b=none:=fun {H' j} bs S b hb=>by
   by_cases c:b=p
   ·subst c;exact absurd hb (by obtain ⟨_,_,_,e,_⟩:=S;rw [e];exact fun z=>nomatch z)
   ·cases e:H b with
    | none=>rfl
    | some o=>rw [bs b o e c] at hb;cases hb
  have sH:∀ {x:Str}{G:Addr→Prop}{H':Hp},nameOk x→Has G H' (.str x) (.str x):=fun h=>.str _ (Zk h.2.2 (by decide)) h.2.1;refine ⟨_,rfl,p,26,k,rfl,S0,by omega,by decide,by decide,fun r0 H1 a0 a1 S1 k1=>?_⟩;obtain ⟨n0,rfl⟩:∃ j:Nat,r0=(j:Int):=⟨r0.toNat,by omega⟩;obtain ⟨c,hc,hct⟩:=tail_let (i:=n0) (by omega);refine ⟨letters,(n0:Int),c,rfl,rfl,small _ (by decide +kernel),zAr hc,small 2 (by decide),fun ll hll=>?_⟩;have B1:ButS p H H1:=fun b o e n=>by rw [k1 b n];exact e
  have s2:=Same.new (o:=HO.lst [V.str "",V.str ⟨#[c]⟩]) hll;have x2:(upd H1 ll (.lst [.str "",.str ⟨#[c]⟩])) ll=some (.lst [.str "",.str ⟨#[c]⟩]):=zA1;have nll:ll≠p:=S1.nw hll;have S2:=S1.up s2;have B2:ButS p H (upd H1 ll (.lst [.str "",.str ⟨#[c]⟩])):=fun b o e n=>s2 _ _ (B1 _ _ e n);generalize upd H1 ll (.lst [.str "",.str ⟨#[c]⟩])=H2 at s2 x2 S2 B2 ⊢;refine ⟨_,rfl,p,2,_,rfl,S2,by omega,by decide,by decide,fun r1 H3 c0 c1 S3 k3=>?_⟩;obtain ⟨n1,rfl⟩:∃ j:Nat,r1=(j:Int):=⟨r1.toNat,by omega⟩;obtain ⟨t,ht,hti⟩:∃ t∈tails,([.str "",.str ⟨#[c]⟩]:List V)[n1]? = some (.str t):=by
   match n1,(show n1 < 2 by omega) with
   | 0,_=>exact ⟨"",Zd,rfl⟩
   | 1,_=>exact ⟨_,hct,rfl⟩
  have tk:=tail_ok ht;have tl:=tk.len;have sz:∀ x:Str,x.length≤8→x.length + t.length≤sizeLine:=fun x hx=>small _ (by omega);refine ⟨ll,_,(n1:Int),_,rfl,rfl,SqL.of (by rw [k3 ll nll];exact x2),zAr hti,?_⟩;have B3:ButS p H H3:=fun b o e n=>by rw [k3 b n];exact B2 _ _ e n
  refine ⟨_,rfl,p,8,_,rfl,S3,by omega,by decide,by decide,fun r2 H4 d0 d1 S4 k4=>⟨rfl,_,rfl,?_⟩⟩;have B4:ButS p H H4:=fun b o e n=>by rw [k4 b n];exact B3 _ _ e n
  refine ite2 (fun _=>?_) (fun _=>?_)
  ·exact ⟨_,rfl,_,rfl,p,_,t,rfl,ht,S4,by omega,fun l rs H' dr S B=>q l rs H' ⟨dr.has.frame fun a o g e=>⟨fresh B4 S4 g,e⟩,dr.ok,dr.le,dr.fit,dr.zed⟩ (S.le (by omega)) fun b o e n=>B _ _ (B4 _ _ e n) n⟩
  ·refine ⟨small 4 (by decide),fun lw hlw=>?_⟩;have s5:=Same.new (o:=HO.lst [V.str "box",V.str "lid",V.str "a",V.str "boxes"]) hlw;have x5:(upd H4 lw (.lst [.str "box",.str "lid",.str "a",.str "boxes"])) lw=some (.lst [.str "box",.str "lid",.str "a",.str "boxes"]):=zA1;have S5:=S4.up s5;generalize upd H4 lw (.lst [.str "box",.str "lid",.str "a",.str "boxes"])=H5 at s5 x5 S5 ⊢;have wds:∀ (i:Nat) (v:V),([.str "box",.str "lid",.str "a",.str "boxes"]:List V)[i]? = some v→∃ wd:Str,v=.str wd∧(names4 t)[i]? = some (wd++t)∧wd.length≤8:=fun i v e=>by
    match i,e with
    | 0,e=>cases e;exact ⟨"box",rfl,rfl,by decide⟩
    | 1,e=>cases e;exact ⟨"lid",rfl,rfl,by decide⟩
    | 2,e=>cases e;exact ⟨"a",rfl,rfl,by decide⟩
    | 3,e=>cases e;exact ⟨"boxes",rfl,rfl,by decide⟩
    | i + 4,e=>simp at e
   refine ⟨lw,rfl,⟨_,SqL.of x5⟩,zAc (xs:=[V.str "box",V.str "lid",V.str "a",V.str "boxes"]) (fun j ys H'=>H'=H5∧ys=((names4 t).take j).map V.str) ⟨rfl,rfl⟩ (fun j ys H' z=>by rw [z.1];exact SqL.of x5) (fun j ys H' hj z=>?_) ?_ ?_⟩
   ·rw [z.2,Z0];have:=Zl j (names4 t);have:(names4 t).length=4:=rfl;exact small _ (by omega)
   ·rintro j x ys H' hj ⟨rfl,rfl⟩ N hN;obtain ⟨wd,rfl,hn,hl8⟩:=wds j x hj;refine pick ⟨_,rfl,_,rfl,wd,t,rfl,rfl,sz _ hl8,hN _ _ ⟨rfl,?_⟩⟩;rw [Z4,hn,Z9];rfl
   ·rintro ys H' ⟨rfl,rfl⟩ ln hln;rw [show (names4 t).take ([.str "box",.str "lid",.str "a",.str "boxes"]:List V).length=names4 t from rfl];have s6:=Same.new (o:=.lst ((names4 t).map V.str)) hln;have x6:(upd H' ln (.lst ((names4 t).map V.str))) ln=some (.lst ((names4 t).map V.str)):=zA1;have nln:ln≠p:=S5.nw hln;have S6:=S5.up s6;have B6:ButS p H (upd H' ln (.lst ((names4 t).map V.str))):=fun b o e n=>s6 _ _ (s5 _ _ (B4 _ _ e n));generalize upd H' ln (.lst ((names4 t).map V.str))=H6 at s6 x6 S6 B6 ⊢;refine ⟨_,rfl,p,3,_,rfl,S6,by omega,by decide,by decide,fun r3 H7 e0 e1 S7 k7=>?_⟩;obtain ⟨wide,rfl⟩:∃ j:Nat,r3=(j:Int):=⟨r3.toNat,by omega⟩;have B7:ButS p H H7:=fun b o e n=>by rw [k7 b n];exact B6 _ _ e n
    have x7:H7 ln=some (.lst ((names4 t).map V.str)):=by rw [k7 ln nln];exact x6
    refine ⟨Zm _,fun lg hlg=>?_⟩;have s8:=Same.new (o:=.lst []) hlg;have x8:(upd H7 lg (.lst [])) lg=some (.lst []):=zA1;have nlg:lg≠p:=S7.nw hlg;have flg:H lg=none:=fresh B7 S7 hlg;have ngn:ln≠lg:=zA2 x7 hlg;have S8:=S7.up s8;have B8:ButS p H (upd H7 lg (.lst [])):=fun b o e n=>s8 _ _ (B7 _ _ e n);have x8n:=s8 _ _ x7;generalize upd H7 lg (.lst [])=H8 at s8 x8 S8 B8 x8n ⊢;refine ⟨_,rfl,p,3,_,rfl,S8,by omega,by decide,by decide,fun r4 H9 f0 f1 S9 k9'=>⟨_,_,rfl,rfl,?_⟩⟩;obtain ⟨n4,rfl⟩:∃ j:Nat,r4=(j:Int):=⟨r4.toNat,by omega⟩;have B9:ButS p H H9:=fun b o e n=>by rw [k9' b n];exact B8 _ _ e n
    have x9n:H9 ln=some (.lst ((names4 t).map V.str)):=by rw [k9' ln nln];exact x8n
    have x9g:H9 lg=some (.lst []):=by rw [k9' lg nlg];exact x8
    refine ⟨((n4 + 1:Nat):Int),congrArg (fun z:Int=>[V.int z]) (show (1:Int) + (n4:Int)=((n4 + 1:Nat):Int) by omega),by omega,by omega,zDm (n:=n4 + 1) (fun i σ H'=>∃ (x5 x6 x7 x8 x9 x10:Option V) (rs:List Row) (zs:List V),σ = [some (.ref p),some (.str t),some (.ref ln),some (.int (wide:Nat)),some (.ref lg),x5,x6,x7,x8,x9,x10]∧rs.length=i∧DrawI t wide rs∧(∀ b o,H9 b=some o→b≠p→b≠lg→H' b=some o)∧Src H' p (k + 5 + 10 * i)∧H' lg=some (.lst zs)∧HasAll (fun a=>H a=none∧a≠lg) H' zs (rs.map rowD))
     ⟨_,_,_,_,_,_,[],[],rfl,rfl,⟨⟨(fun r h=>nomatch h),fun i r o e=>by simp at e⟩,rfl,fun j r e=>by simp at e⟩,fun _ _ e _ _=>e,S9.le (by omega),x9g,.nil⟩ ?_ ?_⟩
    ·rintro i σ H10 hi ⟨y5,y6,y7,y8,y9,y10,rs,zs,rfl,rl,dI,g10,S10,h10,hz10⟩;rw [Int.zero_add];have i3:i < 3:=by omega
     refine ⟨Zm _,fun lfl hlfl=>⟨_,rfl,_,_,rfl,rfl,sz _ (by decide),small 2 (by decide),fun la hla=>⟨_,rfl,_,_,rfl,rfl,sz _ (by decide),small 2 (by decide),fun lb hlb=>⟨small 2 (by decide),fun lo hlo=>?_⟩⟩⟩⟩;have u1:=Same.new (o:=HO.lst []) hlfl;have u2:=Same.new (o:=HO.lst [.str (("f" : Str)++t),.str "meets"]) hla;have u3:=Same.new (o:=HO.lst [.str "meets",.str (("f" : Str)++t)]) hlb;have u4:=Same.new (o:=HO.lst [.ref la,.ref lb]) hlo;have w1:=(u2.trans (u3.trans u4)) _ _ (zA1 (H:=H10) (a:=lfl) (o:=.lst []));have w2:=(u3.trans u4) _ _ (zA1 (a:=la) (o:=.lst [.str (("f" : Str)++t),.str "meets"]));have w3:=u4 _ _ (zA1 (a:=lb) (o:=.lst [.str "meets",.str (("f" : Str)++t)]));have U:=u1.trans (u2.trans (u3.trans u4));have Bt:∀ {Hy:Hp},Same H10 Hy→ButS p H Hy:=fun s b o e n=>s _ _ (g10 _ _ (B9 _ _ e n) n (zA2 e flg));have F1:H lfl=none:=fresh (Bt (Same.refl _)) S10 hlfl;have nfl:lfl≠p∧lfl≠lg∧la≠lfl∧lb≠lfl:=⟨S10.nw hlfl,(zA2 h10 hlfl).symm,(zA2 (zA1 (H:=H10) (a:=lfl) (o:=.lst [])) hla).symm,(zA2 (u2 _ _ (zA1 (H:=H10) (a:=lfl) (o:=.lst []))) hlb).symm⟩;have w4:(upd (upd (upd (upd H10 lfl (.lst [])) la (.lst [.str (("f" : Str)++t),.str "meets"])) lb (.lst [.str "meets",.str (("f" : Str)++t)])) lo (.lst [.ref la,.ref lb])) lo=some (.lst [.ref la,.ref lb]):=zA1;have S11:=S10.up U;have nab:la≠p∧lb≠p∧lo≠p:=⟨(S10.up u1).nw hla,(S10.up (u1.trans u2)).nw hlb,(S10.up (u1.trans (u2.trans u3))).nw hlo⟩;clear u2 u3 u4;generalize upd (upd (upd (upd H10 lfl (.lst [])) la (.lst [.str (("f" : Str)++t),.str "meets"])) lb (.lst [.str "meets",.str (("f" : Str)++t)])) lo (.lst [.ref la,.ref lb])=H11 at w1 w2 w3 w4 U S11 ⊢;refine ⟨_,rfl,p,2,_,rfl,S11,by omega,by decide,by decide,fun r5 H12 a5 b5 S12 k12=>?_⟩;obtain ⟨b,lt,hlt,hat,nlt⟩:∃ (b:Bool) (lt:Addr),H12 lt=some (.lst ((told t b).map V.str))∧atI [V.ref la,V.ref lb] r5=some (.ref lt)∧lt≠p∧lt≠lfl:=by
      have:r5=0∨r5=1:=by omega
      rcases this with rfl | rfl
      ·exact ⟨false,la,by rw [k12 la nab.1];exact w2,rfl,nab.1,nfl.2.2.1⟩
      ·exact ⟨true,lb,by rw [k12 lb nab.2.1];exact w3,rfl,nab.2.1,nfl.2.2.2⟩
     refine ⟨lo,_,r5,_,rfl,rfl,SqL.of (by rw [k12 lo nab.2.2];exact w4),hat,?_⟩;have g12:∀ b o,H10 b=some o→b≠p→H12 b=some o:=fun b o e n=>by rw [k12 b n];exact U _ _ e
     have z12:H12 lfl=some (.lst []):=by rw [k12 lfl nfl.1];exact w1
     refine ⟨small 4 (by decide),fun lm hlm=>?_⟩;have u5:=Same.new (o:=HO.lst [.int 1,.int 2,.int 1,.int 0]) hlm;have w5:(upd H12 lm (.lst [.int 1,.int 2,.int 1,.int 0])) lm=some (.lst [.int 1,.int 2,.int 1,.int 0]):=zA1;have nlm:lm≠p:=S12.nw hlm;have S13:=S12.up u5;generalize upd H12 lm (.lst [.int 1,.int 2,.int 1,.int 0])=H13 at u5 w5 S13 ⊢;refine ⟨_,rfl,p,4,_,rfl,S13,by omega,by decide,by decide,fun r6 H14 a6 b6 S14 k14=>?_⟩;obtain ⟨m0,hm0,hm2⟩:∃ m0:Nat,atI [V.int 1,V.int 2,V.int 1,V.int 0] r6=some (.int (m0:Nat))∧m0≤2:=by
      have:r6=0∨r6=1∨r6=2∨r6=3:=by omega
      rcases this with rfl | rfl | rfl | rfl
      ·exact ⟨1,rfl,by decide⟩
      ·exact ⟨2,rfl,by decide⟩
      ·exact ⟨1,rfl,by decide⟩
      ·exact ⟨0,rfl,by decide⟩
     obtain ⟨m,hm,mle,mw⟩:∃ m:Nat,(if (1:Int) + (if decide (V.int (i:Int)=V.int (wide:Int))=true then 1 else 0) < (m0:Int) then (1:Int) + (if decide (V.int (i:Int)=V.int (wide:Int))=true then 1 else 0) else (m0:Int))=(m:Int)∧m≤2∧(i≠wide→m≤1):=by
      by_cases c:i=wide
      ·rw [decide_eq_true (by rw [c])];refine ⟨m0,?_,hm2,fun z=>absurd c z⟩;rw [if_pos rfl,if_neg (by omega)]
      ·rw [decide_eq_false (fun z=>c (by have:=V.int.inj z;omega))];by_cases c2:(1:Int) < (m0:Int)
       ·exact ⟨1,by rw [if_neg Zh,if_pos (by omega)];rfl,by decide,fun _=>by decide⟩
       ·exact ⟨m0,by rw [if_neg Zh,if_neg (by omega)],hm2,fun _=>by omega⟩
     have g14:∀ b o,H10 b=some o→b≠p→H14 b=some o:=fun b o e n=>by rw [k14 b n];exact u5 _ _ (g12 _ _ e n)
     have z14:H14 lfl=some (.lst []):=by rw [k14 lfl nfl.1];exact u5 _ _ z12
     have t14:H14 lt=some (.lst ((told t b).map V.str)):=by rw [k14 lt nlt.1];exact u5 _ _ hlt
     refine ⟨lm,_,r6,_,rfl,rfl,SqL.of (by rw [k14 lm nlm];exact w5),hm0,_,rfl,_,rfl,rfl,.inr ⟨_,rfl,_,_,rfl,rfl,_,_,rfl,(m:Int),congrArg (fun z:Int=>[V.int z]) hm,by omega,by omega,zDm (n:=m) (fun j σ H'=>∃ (x8 x9:Option V) (n:Nat) (fz:List V),σ = [some (.ref p),some (.str t),some (.ref ln),some (.int (wide:Nat)),some (.ref lg),some (.int (i:Nat)),some (.ref lfl),some (.ref lt),x8,x9,y10]∧2≤n∧n≤3∧(∀ b o,H14 b=some o→b≠p→b≠lfl→H' b=some o)∧Src H' p (k + 5 + 10 * i + 2 + j)∧H' lfl=some (.lst fz)∧HasAll (fun a=>H a=none∧a≠lg∧a≠lfl) H' fz (((mkF t b n).take j).map fieldD))
      ⟨_,_,2,[],rfl,by decide,by decide,fun _ _ e _ _=>e,S14.le (by omega),z14,.nil⟩ ?_ ?_⟩⟩
     ·rintro j σ H15 hj ⟨z8,z9,n,fz,rfl,n2,n3,g15,S15,h15,hf15⟩;rw [Int.zero_add];refine ⟨_,rfl,_,_,rfl,rfl,sz _ (by decide),small 3 (by decide),fun lv hlv=>?_⟩;have u6:=Same.new (o:=HO.lst [.str "on",.str "off",.str (("wish" : Str)++t)]) hlv;have w6:(upd H15 lv (.lst [.str "on",.str "off",.str (("wish" : Str)++t)])) lv=some (.lst [.str "on",.str "off",.str (("wish" : Str)++t)]):=zA1;have nlv:lv≠p:=S15.nw hlv;have S16:=S15.up u6;generalize upd H15 lv (.lst [.str "on",.str "off",.str (("wish" : Str)++t)])=H16 at u6 w6 S16 ⊢;refine ⟨_,rfl,p,2,_,rfl,S16,by omega,by decide,by decide,fun r7 H17 a7 b7 S17 k17=>?_⟩;refine ⟨_,rfl,rfl,.inr ⟨_,rfl,_,_,rfl,rfl,?_,_,_,rfl,rfl,_,rfl,lv,_,rfl,SqL.of (by rw [k17 lv nlv];exact w6),fun l9 hl9=>?_⟩⟩
      ·have:r7 < 2:=by omega
       exact .inl ⟨by omega,by omega⟩
      obtain ⟨nn,hnn,nn2,nn3,nnj⟩:∃ nn:Nat,(2:Int) + r7 * (if decide (V.int (j:Int)=V.int 0)=true then 1 else 0)=(nn:Int)∧2≤nn∧nn≤3∧(j≠0→nn=2):=by
       by_cases c:j=0
       ·rw [decide_eq_true (by rw [c];rfl),if_pos rfl];exact ⟨(2 + r7).toNat,by omega,by omega,by omega,fun z=>absurd c z⟩
       ·rw [decide_eq_false (fun z=>c (by have:=V.int.inj z;omega)),if_neg Zh];exact ⟨2,by omega,by decide,by decide,fun _=>rfl⟩
      have hcut:cutV [V.str "on",V.str "off",V.str (("wish" : Str)++t)] none (some ((2:Int) + r7 * (if decide (V.int (j:Int)=V.int 0)=true then 1 else 0)))=((vals3 t).take nn).map V.str:=by
       rw [hnn,cut_takeN (by show nn≤3;exact nn3),List.map_take];rfl
      rw [hcut];have j2:j < 2:=by omega
      have B17:∀ b o,H15 b=some o→b≠p→H17 b=some o:=fun b o e n=>by rw [k17 b n];exact u6 _ _ e
      have u7:=Same.new (o:=HO.lst (((vals3 t).take nn).map V.str)) hl9;have w7:(upd H17 l9 (.lst (((vals3 t).take nn).map V.str))) l9=some (.lst (((vals3 t).take nn).map V.str)):=zA1;have S18:=S17.up u7;have nl9:l9≠p∧l9≠lfl∧l9≠lg:=⟨S17.nw hl9,(zA2 (B17 _ _ h15 nfl.1) hl9).symm,(zA2 (B17 _ _ (g15 _ _ (g14 _ _ h10 nlg) nlg nfl.2.1.symm) nlg) hl9).symm⟩;have Bn:∀ {Hy:Hp},(∀ b o,H17 b=some o→Hy b=some o)→ButS p H Hy:=fun s b o e n=>s _ _ (B17 _ _ (g15 _ _ (g14 _ _ (g10 _ _ (B9 _ _ e n) n (zA2 e flg)) n) n (zA2 e F1)) n);have F9:H l9=none:=fresh (Bn fun _ _ e=>e) S17 hl9;generalize upd H17 l9 (.lst (((vals3 t).take nn).map V.str))=H18 at u7 w7 S18 ⊢;have h18:=u7 _ _ (B17 _ _ h15 nfl.1);have t18:=u7 _ _ (B17 _ _ (g15 _ _ t14 nlt.1 nlt.2) nlt.1);have hnm:=told_at (t:=t) (b:=b) j2;generalize hnmD:(told t b).getD j "" = nm at hnm;have fzl:fz.length≤2:=by rw [hf15.length,Z0];have:=Zl j (mkF t b n);have:(mkF t b n).length=2:=rfl;omega
      refine ⟨_,rfl,.inl ⟨rfl,fz,SqL.of h18⟩,_,rfl,_,rfl,lt,_,((j:Nat):Int),_,rfl,rfl,SqL.of t18,zAr hnm,_,rfl,small 2 (by decide),fun tr htr=>⟨lfl,fz,.ref tr,rfl,rfl,(Same.new htr) _ _ h18,small1000 (by omega),?_⟩⟩;have ntr:tr≠p∧tr≠lfl∧tr≠lg:=⟨S18.nw htr,(zA2 h18 htr).symm,(zA2 (u7 _ _ (B17 _ _ (g15 _ _ (g14 _ _ h10 nlg) nlg nfl.2.1.symm) nlg)) htr).symm⟩;have Ftr:H tr=none:=fresh (Bn u7) S18 htr;have gE:∀ c o,H15 c=some o→c≠p→c≠lfl→(upd (upd H18 tr (.tup [.str nm,.ref l9])) lfl (.lst (fz++[.ref tr]))) c=some o:=fun c o e n1 n2=>by
       rw [zA5 n2];exact (Same.new htr) _ _ (u7 _ _ (B17 _ _ e n1))
      refine ⟨_,_,if j=0 then nn else n,fz++[.ref tr],rfl,by split <;> omega,by split <;> omega,fun c o e n1 n2=>gE _ _ (g15 _ _ e n1 n2) n1 n2,?_,zA1,?_⟩
      ·obtain ⟨a',c',j',e',r'⟩:=S18.up (Same.new (o:=HO.tup [.str nm,.ref l9]) htr);exact ⟨a',c',j',by rw [zA5 nfl.1.symm];exact e',r'.1,by have:=r'.2;push_cast;omega⟩
      ·have et:=mkF_step (t:=t) (b:=b) (n:=n) (nn:=nn) j2 nnj;rw [hnmD] at et;rw [et,Z9];refine HasAll.snoc (hf15.frame fun c o g e=>⟨g,gE _ _ e (fun z=>hp (z ▸ g.1)) g.2.2⟩) ?_;exact .tup ⟨Ftr,ntr.2.2,ntr.2.1⟩ (by rw [zA5 ntr.2.1];exact zA1) (by show 2≤1000;decide) (.cons (sH (by rw [← hnmD];exact (told_ok tk b).1 _ (told_in j2))) (.cons (.lst ⟨F9,nl9.2.2,nl9.2.1⟩ (by rw [zA5 nl9.2.1];exact (Same.new htr) _ _ w7) (by rw [Z0,Zt];omega) (zB2 (vals_ok tk nn2 nn3).ok)) .nil))
     ·rintro σ H15 ⟨z8,z9,n,fz,rfl,n2,n3,g15,S15,h15,hf15⟩;obtain ⟨fok,fm1,fm2,fm3⟩:=mkF_ok tk b n2 n3 mle;generalize (mkF t b n).take m=fs at hf15 fok fm1 fm2 fm3;have hg15:H15 lg=some (.lst zs):=g15 _ _ (g14 _ _ h10 nlg) nlg nfl.2.1.symm;have zl:zs.length=i:=by rw [hz10.length,Z0,rl]
      have hz15:HasAll (fun a=>H a=none∧a≠lg) H15 zs (rs.map rowD):=hz10.frame fun c o g e=>⟨g,g15 _ _ (g14 _ _ e fun z=>hp (z ▸ g.1)) (fun z=>hp (z ▸ g.1)) fun z=>by
       rw [z,hlfl] at e
       cases e⟩
      refine ⟨small 1 (by decide),fun l0 hl0=>?_⟩;have u6:=Same.new (o:=HO.lst [.non]) hl0;have w6:(upd H15 l0 (.lst [.non])) l0=some (.lst [.non]):=zA1;generalize upd H15 l0 (.lst [.non])=H16 at u6 w6 ⊢;refine ⟨_,rfl,lg,rfl,⟨_,SqL.of (u6 _ _ hg15)⟩,zAc (xs:=zs) (fun j ys H'=>H'=H16∧ys=(rs.take j).map fun r=>V.str r.name) ⟨rfl,rfl⟩ (fun j ys H' z=>by rw [z.1];exact SqL.of (u6 _ _ hg15)) (fun j ys H' hj z=>?_) ?_ ?_⟩
      ·rw [z.2,Z0];have:=Zl j rs;exact small _ (by omega)
      ·rintro j x ys H' hj ⟨rfl,rfl⟩ N hN;obtain ⟨d,hd,hv⟩:=hz15.get hj;rw [Z6] at hd;cases er:rs[j]? with
       | none=>rw [er] at hd;cases hd
       | some r =>
        rw [er] at hd;cases hd;obtain ⟨tt,lq,rfl,ht',_⟩:=zBf hv;refine pick ⟨_,rfl,tt,_,((0:Nat):Int),_,rfl,rfl,SqT.of (u6 _ _ ht'),zAr rfl,hN _ _ ⟨rfl,?_⟩⟩;rw [Z4,er,Z9];rfl
      ·rintro ys H' ⟨rfl,rfl⟩ lc hlc;have tke:rs.take zs.length=rs:=List.take_of_length_le (by omega);rw [tke];refine ⟨l0,lc,_,_,rfl,rfl,(Same.new hlc) _ _ w6,zA1,small _ (by rw [Z0];show 1 + rs.length≤1000;omega),fun l3 hl3=>?_⟩;have u7:=u6.trans ((Same.new (o:=HO.lst (rs.map fun r=>V.str r.name)) hlc).trans (Same.new (o:=HO.lst ([V.non]++rs.map fun r=>V.str r.name)) hl3));have w7:(upd (upd H' lc (.lst (rs.map fun r=>V.str r.name))) l3 (.lst ([V.non]++rs.map fun r=>V.str r.name))) l3=some (.lst ([V.non]++rs.map fun r=>V.str r.name)):=zA1;have S17:=S15.up u7;have nl3:l3≠p:=(S15.up (u6.trans (Same.new (o:=HO.lst (rs.map fun r=>V.str r.name)) hlc))).nw hl3;generalize upd (upd H' lc (.lst (rs.map fun r=>V.str r.name))) l3 (.lst ([V.non]++rs.map fun r=>V.str r.name))=H17 at u7 w7 S17 ⊢;refine ⟨_,rfl,_,rfl,_,_,rfl,rfl,p,(i:Int) + 1,_,rfl,S17,by omega,by omega,by omega,fun r8 H18 a8 b8 S18 k18=>?_⟩;obtain ⟨o,hov,hown⟩:∃ o:Option Str,atI ([V.non]++rs.map fun r=>V.str r.name) r8=some (ownV o)∧∀ x,o=some x→∃ (j:Nat) (r':Row),rs[j]? = some r'∧r'.name=x:=by
        obtain ⟨n8,rfl⟩:∃ j:Nat,r8=(j:Int):=⟨r8.toNat,by omega⟩;cases n8 with
        | zero=>exact ⟨none,zAr (j:=0) rfl,fun x e=>by cases e⟩
        | succ n8 =>
         have lt:n8 < rs.length:=by omega
         refine ⟨some rs[n8].name,zAr ?_,fun x e=>⟨n8,rs[n8],Z1 lt,Zj e⟩⟩;show ((rs.map fun r=>V.str r.name))[n8]? = _;rw [Z6,Z1 lt];rfl
       refine ⟨l3,_,r8,_,rfl,rfl,SqL.of (by rw [k18 l3 nl3];exact w7),hov,?_⟩;have g18:∀ b o,H15 b=some o→b≠p→H18 b=some o:=fun b o e n=>by rw [k18 b n];exact u7 _ _ e
       have hln18:H18 ln=some (.lst ((names4 t).map V.str)):=g18 _ _ (g15 _ _ (g14 _ _ (g10 _ _ x9n nln ngn) nln) nln fun z=>by
        have:=g10 _ _ x9n nln ngn;rw [z,hlfl] at this
        cases this) nln
       have hg18:=g18 _ _ hg15 nlg;have h18:=g18 _ _ h15 nfl.1;have hnm:((names4 t).map V.str)[i]? = some (.str ((names4 t).getD i "")):=by rw [Z6,names_at (by omega)];rfl
       refine ⟨_,rfl,.inl ⟨rfl,zs,SqL.of hg18⟩,_,rfl,_,rfl,ln,_,((i:Nat):Int),_,rfl,rfl,SqL.of hln18,zAr hnm,_,rfl,_,rfl,small 3 (by decide),fun tr htr=>⟨lg,zs,.ref tr,rfl,rfl,(Same.new htr) _ _ hg18,small1000 (by omega),?_⟩⟩;have ntr:tr≠p∧tr≠lg:=⟨S18.nw htr,(zA2 hg18 htr).symm⟩;have B18:ButS p H H18:=fun b o e n=>g18 _ _ (g15 _ _ (g14 _ _ (g10 _ _ (B9 _ _ e n) n (zA2 e flg)) n) n (zA2 e F1)) n;have Ftr:H tr=none:=fresh B18 S18 htr;have gE:∀ c o',H15 c=some o'→c≠p→c≠lg→(upd (upd H18 tr (.tup [.str ((names4 t).getD i ""),.ref lfl,ownV o])) lg (.lst (zs++[.ref tr]))) c=some o':=fun c o' e n1 n2=>by
        rw [zA5 n2];exact (Same.new htr) _ _ (g18 _ _ e n1)
       have dI2:=dI.snoc tk (by omega) (fs:=fs) (o:=o) fok fm2 fm3 (fun z=>fm1 (mw (by omega))) hown;rw [rl] at dI2;refine ⟨_,_,_,_,_,_,rs++[⟨(names4 t).getD i "",fs,o⟩],zs++[.ref tr],rfl,by rw [Z8,rl];rfl,dI2,fun c o' e n1 n2=>?_,?_,zA1,?_⟩
       ·by_cases c2:c=lfl
        ·have:=g10 _ _ e n1 n2;rw [c2,hlfl] at this;cases this
        ·exact gE _ _ (g15 _ _ (g14 _ _ (g10 _ _ e n1 n2) n1) n1 c2) n1 n2
       ·obtain ⟨a',c',j',e',r'⟩:=S18.up (Same.new (o:=HO.tup [.str ((names4 t).getD i ""),.ref lfl,ownV o]) htr);exact ⟨a',c',j',by rw [zA5 nlg.symm];exact e',r'.1,by have:=r'.2;push_cast;omega⟩
       ·rw [Z9];refine HasAll.snoc (hz15.frame fun c o' g e=>⟨g,gE _ _ e (fun z=>hp (z ▸ g.1)) g.2⟩) ?_;refine .tup ⟨Ftr,ntr.2⟩ (by rw [zA5 ntr.2];exact zA1) (by show 3≤1000;decide) (.cons (sH (tk.n4 _ (zDd (by omega)))) (.cons (.lst ⟨F1,nfl.2.1⟩ (by rw [zA5 nfl.2.1];exact (Same.new htr) _ _ h18) (by rw [hf15.length,Z0];have:=fok.le;omega) ?_) (.cons (zEs fun x e=>?_) .nil)))
        ·exact hf15.frame fun c o' g e=>⟨⟨g.1,g.2.1⟩,gE _ _ e (fun z=>hp (z ▸ g.1)) g.2.1⟩
        ·obtain ⟨j',r',e1,e2⟩:=hown x e;rw [← e2];exact (dI.row.ok r' (Z3 e1)).1
    ·rintro σ H10 ⟨y5,y6,y7,y8,y9,y10,rs,zs,rfl,rl,dI,g10,S10,h10,hz10⟩;obtain ⟨o1,o2,o3⟩:=dI.done tk (by omega) (by omega);exact ⟨_,rfl,q lg rs H10 ⟨.lst flg h10 (by rw [hz10.length,Z0];omega) (hz10.frame fun b o g e=>⟨g.1,e⟩),o1,by omega,o2,o3⟩ (S10.le (by omega)) fun b o e n=>g10 _ _ (B9 _ _ e n) n (zA2 e flg)⟩
end
end L2.W
namespace L2.W
open PySem My
noncomputable def sortLam:Stmt→Expr
 | .Assign _ (.Call _ [.ListComp _ [⟨_,.Call _ _ [⟨_,l,_⟩] _,_,_⟩] _ _] _ _) _=>l
 | _=>.Constant .none 0 ⟨0,0,0,0⟩
noncomputable def lamP:Expr→Arguments
 | .Lambda p _ _ _=>p
 | _=>⟨[],[],none,[],[],none,[]⟩
noncomputable def lamB:Expr→Expr
 | .Lambda _ b _ _=>b
 | _=>.Constant .none 0 ⟨0,0,0,0⟩
noncomputable def lamS:Expr→Scope
 | .Lambda _ _ s _=>s
 | _=>default
noncomputable abbrev lamX:Expr:=sortLam ((defBody sLaw).getD 2 (.Pass ⟨0,0,0,0⟩))
noncomputable def lawQ:Str:=(("law" : Str)++".<locals>.")++"<lambda>"
noncomputable abbrev lamNX:List Str:=["_law_source"]
theorem scLamX:LScope1 "_law_k" lamNX (lamS lamX):=⟨by decide +kernel,by decide +kernel,rfl,rfl,rfl,by decide +kernel⟩
noncomputable def spLamX (ws:List V) (v:V) (H:Hp) (Q:VK) (_:XK):Prop:=∃ (p:Addr) (i k:Int),ws=[.ref p]∧v=.int i∧Src H p k∧k≤999998∧∀ (z:Int) (H':Hp),Src H' p (k + 1)→(∀ b,b≠p→H' b=H b)→Q (.int z) H'
section
variable {P:Program}{w:World}{K:PySem.W.Frag}{mg:Str→Option Value}{base:Heap}
theorem ok_lamX {fn f c':Addr}{fdn:FuncData}{cl:List (Str×Addr)}{ws:List V} (Dn:Def K mg "_law_next" sNext ["_law_source", "_law_many"] fn fdn) (Gn:FnOk P w K mg base (CXM P w) 2 fn fdn ["_law_source", "_law_many"] spNext) :
  LamOk1 P w K mg base (CXM P w) 3 f c' lawQ (lamP lamX) (lamB lamX) (lamS lamX) cl lamNX ws (spLamX ws):=by
 refine lam_of1 scLamX (fun _ _ _=>rfl) fun A outer s H v Q E hr h=>?_;refine ⟨_,zAf zC9 (zAf zBn (pv 0) (zA9 Gn hr rfl Dn.at_ Dn.fn.kp Dn.bind .nil (passC calmM) (zA0 (pv 1) (zA0 zA7 zA3)))) zA7,?_⟩;obtain ⟨p,i,k,rfl,rfl,S,k9,q⟩:=h;exact ⟨_,rfl,_,rfl,p,3,k,rfl,S,k9,by decide,by decide,fun r H' _ _ S' k'=>⟨_,_,rfl,rfl,_,_,rfl,rfl,(show (0:Int) < 3 by decide),q _ H' S' k'⟩⟩
end
theorem cellX:∀ z∈lamNX,(defScope sLaw).names.lookup z=some .cell:=by decide +kernel
theorem freeX:∀ z,(lamS lamX).names.lookup z=some .free→z∈lamNX:=fun z h=>(by decide +kernel:∀ p∈(lamS lamX).names,p.2=.free→p.1∈lamNX) (z,.free) (PySem.mem_of_lookup h) rfl
theorem inX:∀ z∈(["_law_source"]:List Str),z∈lamNX:=by decide +kernel
theorem ownS_perm {rs rt:List Row} (h1:RowsP rs) (h2:RowsP rt) (p:rt.Perm rs) {r:Row} (hr:r∈rs):ownS rt r=ownS rs r:=by
 cases e:r.owner with
 | none=>rw [zB9 e,zB9 e]
 | some o =>
  obtain ⟨r',m,rfl⟩:=h1.ownIn r hr o e;rw [zBh h1 m e,zBh h2 (p.mem_iff.mpr m) e]
theorem sits_perm {rs rt:List Row} (h1:RowsP rs) (h2:RowsP rt) (p:rt.Perm rs) {r:Row} (hr:r∈rs):sitsOf rt r=sitsOf rs r:=by
 unfold sitsOf colS;rw [ownS_perm h1 h2 p hr]
noncomputable def pickR (rs:List Row) (out:List Int):List Row:=out.filterMap fun z=>rs[z.toNat]?
theorem pickR_perm {rs:List Row}{out:List Int} (h:out.Perm ((List.range rs.length).map fun (i:Nat)=>(i:Int))):(pickR rs out).Perm rs:=by
 have hp:=h.filterMap fun z=>rs[z.toNat]?;refine hp.trans (List.Perm.of_eq ?_);rw [List.filterMap_map];have:=zEz rs []
 rwa [List.nil_append,Yf,← List.range_eq_range'] at this
theorem RowsP.move {rs rt:List Row} (h:RowsP rs) (p:rt.Perm rs):RowsP rt:=by
 obtain ⟨r0,ok,q⟩:=h;exact ⟨r0,ok,p.trans q⟩
theorem fit_one {rs:List Row} (h:(allSits rs).length≤1000) {r:Row} (hr:r∈ordR rs):(sitsOf rs r).length≤1000:=by
 refine Zk ?_ h;unfold allSits;rw [List.length_flatMap];have:∀ (l:List Row),r∈l→(sitsOf rs r).length≤(l.map fun q=>(sitsOf rs q).length).sum:=by
  intro l
  induction l with
  | nil=>intro z;cases z
  | cons a t ih =>
   intro z;rw [Zr,Yn];rcases List.mem_cons.mp z with rfl | z
   ·omega
   ·have:=ih z;omega
 exact this _ hr
theorem kd_of {CK C:Addr}{H:Hp}{q d:Addr}{kvs:List (Key×V)}{zs:List (Addr×Row)}{ord:List Str}{G:Addr→Prop} (ka:KindsAt CK H q d kvs) (nd:(zs.map fun z=>z.2.name).Nodup) (kf:∀ z∈zs,KF C G H z.1 z.2) (pl:Placed zs ord kvs) (op:ord.Perm (zs.map fun z=>z.2.name)):Kd CK C H q (zs.map (·.2)):=by
 have keys:kvs.map (·.1)=ord.map Sum.inr:=by
  clear op ka
  induction pl with
  | nil=>rfl
  | cons r _ ih =>
   obtain ⟨q,_,e,_⟩:=r;rw [Zr,Zr,ih,e]
 have ndk:(kvs.map (·.1)).Nodup:=by
  rw [keys];exact List.pairwise_map.mpr ((op.nodup_iff.mpr nd).imp fun h e=>h (Sum.inr.inj e))
 refine ⟨d,kvs,zs,ka,rfl,fun z hz=>⟨(kf z hz).frame (fun _ _ e _=>e) fun _ _ _ _ e=>⟨trivial,e⟩,?_⟩,fun n hn=>?_⟩
 ·have hm:z.2.name∈ord:=op.mem_iff.mpr (List.mem_map_of_mem hz);obtain ⟨i,hi,ei⟩:=Zv hm;obtain ⟨kv,ek,w,hw,e1,e2⟩:=zB6 pl (i:=i) (by rw [Z1 hi,ei]);have:w=z:=by
   have:∀ (l:List (Addr×Row)),(l.map fun z=>z.2.name).Nodup→∀ a∈l,∀ b∈l,a.2.name=b.2.name→a=b:=by
    intro l
    induction l with
    | nil=>intro _ a ha;cases ha
    | cons x t ih =>
     intro nd a ha b hb e;rw [Zr,List.nodup_cons] at nd;rcases List.mem_cons.mp ha with rfl | ha' <;> rcases List.mem_cons.mp hb with rfl | hb'
     ·rfl
     ·exact absurd (by rw [e];exact List.mem_map_of_mem (f:=fun z:Addr×Row=>z.2.name) hb') nd.1
     ·exact absurd (by rw [← e];exact List.mem_map_of_mem (f:=fun z:Addr×Row=>z.2.name) ha') nd.1
     ·exact ih nd.2 a ha' b hb' e
   exact this zs nd w hw z hz e2
  rw [this] at e1;refine zE9 ndk ?_;rw [← e1];exact Z3 ek
 ·cases e:valV kvs (Sum.inr n) with
  | none=>rfl
  | some v =>
   exfalso;unfold valV at e;cases ef:kvs.find? fun kv=>decide (kv.1=Sum.inr n) with
   | none=>rw [ef] at e;cases e
   | some kv =>
    have h1:kv.1=Sum.inr n:=by simpa using List.find?_some ef
    have h2:(Sum.inr n:Key)∈kvs.map (·.1):=by rw [← h1];exact List.mem_map_of_mem (List.mem_of_find?_eq_some ef)
    rw [keys] at h2;obtain ⟨m,hm,em⟩:=List.mem_map.mp h2;cases em;have:=op.mem_iff.mp hm;rw [Zo] at hn;exact hn this
end L2.W
namespace L2.W
open PySem My
noncomputable def spCellAt (K:PySem.W.Frag):Sp:=fun vs H Q _=>∃ (a:Addr) (ns:List Int),vs=[.ref a,.int 0]∧SqL K H a (ns.map V.int)∧∀ z:Int,Q (.int z) H
section
variable {P:Program}{w:World}{K:PySem.W.Frag}{mg:Str→Option Value}{base:Heap}{CX:CXT}
theorem scCa:FnScope ["_law_script", "_law_k"] ["_law_script", "_law_k"] (defScope sCellAt):=⟨rfl,rfl,rfl,by decide +kernel,rfl,by decide +kernel,by decide +kernel⟩
theorem ok_cellAt {f:Addr}{fd:FuncData} (T:Tops K mg) (F:Fun K "_law_cell_at" "_law_cell_at" sCellAt f fd):FnOk P w K mg base CX 1 f fd ["_law_script", "_law_k"] (spCellAt K):=by
 refine Fun.okC F scCa (fun vs H Q E h=>?_) (fun cdv A outer s H vs Q E hr h=>?_)
 ·obtain ⟨a,ns,rfl,_⟩:=h;rfl
 ·obtain ⟨a,ns,rfl,ha,k⟩:=h
  refine ⟨_,zA4 (zBg (zAz op_lt (pv 1) (zAd zAq rfl T.len PySem.boot_len (zA0 (pv 0) zA3)) (nomark _))
     (zA6 (zAg (zAu zAp (pv 0) (pv 1) (fun _ _=>rfl)))) zAl)
     (zA6 (zAg zA7)),?_⟩
  refine ⟨_,rfl,_,rfl,a,_,rfl,.inl ha,_,_,rfl,rfl,_,rfl,?_⟩;refine ite2 (fun c=>?_) (fun c=>k 0);have c':=of_decide_eq_true c;cases ns with
  | nil=>exact absurd c' (by decide)
  | cons z t=>exact ⟨_,rfl,_,rfl,a,_,((0:Nat):Int),_,rfl,rfl,ha,zAr rfl,k z⟩
end
end L2.W
namespace L2.W
open PySem My
theorem has_grown {G:Addr→Prop}{H H':Hp}{v:V}{d:PyData}{Pt:Addr}{pos:Pos}{q:Str} (h:Has G H v d) (T:TabOk H Pt pos q) (g:GrownBut Pt H H'):Has G H' v d :=
 h.frameS fun a o ga hs e=>⟨ga,g a o e (T.ne e (by rintro ps rfl;exact hs))⟩
theorem _root_.L2.TabOk.gen {H H':Hp}{P:Addr}{pos:Pos}{q:Str} (T:TabOk H P pos q) (k:∀ b o,H b=some o→b=P∨(∃ f,o=.ext f)→H' b=some o):TabOk H' P pos q:=by
 rcases T with z | ⟨c,z,y⟩
 ·exact .inl (k _ _ z (.inl rfl))
 ·exact .inr ⟨c,k _ _ z (.inl rfl),k _ _ y (.inr ⟨_,rfl⟩)⟩
theorem _root_.L2.TabM.gen {H H':Hp}{P:Addr}{q:Str} (T:TabM H P q) (k:∀ b o,H b=some o→b=P∨(∃ f,o=.ext f)→H' b=some o):TabM H' P q:=by
 obtain ⟨ps,z,t,c⟩:=T.ex;exact ⟨ps,k _ _ z (.inl rfl),t,fun pos v e=>let ⟨a,e1,e2⟩:=c pos v e;⟨a,e1,k _ _ e2 (.inr ⟨_,rfl⟩)⟩⟩
theorem _root_.L2.TabM.tb {H:Hp}{P:Addr}{q:Str} (T:TabM H P q):∃ ps,H P=some (.tbl ps):=let ⟨ps,z,_⟩:=T.ex;⟨ps,z⟩
theorem TabOk.tb {H:Hp}{P:Addr}{pos:Pos}{q:Str} (T:TabOk H P pos q):∃ ps,H P=some (.tbl ps):=by
 rcases T with z | ⟨c,z,_⟩
 ·exact ⟨_,z⟩
 ·exact ⟨_,z⟩
theorem cut_m1 {xs:List V} (h:1≤xs.length):cutV xs none (some (-1))=xs.take (xs.length - 1):=by
 unfold cutV HT.sIx;have e:((-1:Int) + (xs.length:Int)).toNat=xs.length - 1:=by omega
 simp [e]
theorem ne_same {G G':Addr→Prop}{H:Hp}{x y:V}{Q:VK}{d:PyData} (hx:Has G H x d) (hy:Has G' H y d) (hd:d.depth≤64) (q:Q (.bl false) H):rNeD x y H Q:=⟨d,d,hx.any,hy.any,hd,hd,by rw [hx.eqv];exact q⟩
theorem eq_same {G G':Addr→Prop}{H:Hp}{x y:V}{Q:VK}{d:PyData} (hx:Has G H x d) (hy:Has G' H y d) (hd:d.depth≤64) (q:Q (.bl true) H):rEqD x y H Q:=⟨d,d,hx.any,hy.any,hd,hd,by rw [hx.eqv];exact q⟩
theorem depth_ats:∀ l:List (Option Str),PyData.depthAll (l.map ownD)≤1
 | []=>by decide
 | a :: t=>by
  have h1:=zCf a;have h2:=depth_ats t;show max (PyData.depth (ownD a)) (PyData.depthAll (t.map ownD))≤1;omega
theorem zDo (w:Option (List (Option Str))):PyData.depth (optT w)≤2:=by
 cases w with
 | none=>show PyData.depth .none≤2;have:=zCf none;exact Zk this (by decide)
 | some l =>
  have:=depth_ats l;show PyData.depthAll (l.map ownD) + 1≤2;omega
theorem depth_sit (n:Str) (w o s:Option (List (Option Str))):PyData.depth (sitD n w o s)≤4:=by
 have h1:=zDo w;have h2:=zDo o;have h3:=zDo s;have h4:PyData.depth (.str n)≤1:=zCf (some n);show max (PyData.depth (.str n)) (max (PyData.depth (optT w)) (max (PyData.depth (optT o)) (max (PyData.depth (optT s)) 0))) + 1≤4;omega
theorem depth_all:∀ {ds:List PyData},(∀ d∈ds,PyData.depth d≤4)→PyData.depth (.list ds)≤64:=by
 intro ds h;have:PyData.depthAll ds≤4:=by
  induction ds with
  | nil=>decide
  | cons a t ih =>
   have h1:=h a Zd;have h2:=ih fun d hd=>h d (Z5 _ hd);show max (PyData.depth a) (PyData.depthAll t)≤4;omega
 show PyData.depthAll ds + 1≤64;omega
theorem zDy {rs:List Row}{r:Row}:∀ d∈sitsOf rs r,PyData.depth d≤4:=by
 intro d hd;obtain ⟨w,_,hd⟩:=List.mem_flatMap.mp hd;obtain ⟨o,_,hd⟩:=List.mem_flatMap.mp hd;obtain ⟨s,_,rfl⟩:=List.mem_map.mp hd;exact depth_sit _ _ _ _
theorem zF3 {rs:List Row}:∀ d∈allSits rs,PyData.depth d≤4:=by
 intro d hd;obtain ⟨r,_,hd⟩:=List.mem_flatMap.mp hd;exact zDy d hd
theorem ord_perm {rt:List Row}{ord:List Str} (g:Greedy (·∈rt) ord) (h:ord.length=rt.length) (nd:(rt.map (·.name)).Nodup):ord.Perm (rt.map (·.name)):=by
 refine (List.perm_ext_iff_of_nodup g.nodup nd).mpr fun n=>⟨fun hn=>?_,fun hn=>?_⟩
 ·obtain ⟨r,m,e⟩:=g.mem hn;exact List.mem_map.mpr ⟨r,m,e⟩
 ·refine Classical.byContradiction fun hno=>?_;have:=zEd (a:=n :: ord) (b:=rt.map (·.name)) (List.nodup_cons.mpr ⟨hno,g.nodup⟩) fun x hx=>by
   rcases List.mem_cons.mp hx with e | hx
   ·rw [e];exact hn
   ·obtain ⟨r',m',e⟩:=g.mem hx;exact List.mem_map.mpr ⟨r',m',e⟩
  rw [Zi,Z0] at this;omega
noncomputable def spLaw51 (K:PySem.W.Frag) (Pt Pl:Addr):Sp:=fun vs H Q _=>∃ (a:Addr) (ns:List Int),vs=[.ref a]∧SqL K H a (ns.map V.int)∧ns.length≤63∧TabOk H Pt lamPos lamQ∧TabM H Pl lawQ∧Pl≠Pt∧∀ H',Q (.bl true) H'
structure Asks51 (P:Program) (w:World) (K:PySem.W.Frag) (mg:Str→Option Value) (base:Heap) (C CK fc fd fn fk fm fs fo fq fx cL Pt Pl:Addr) (dc dd dn dk dm ds do_ dq dx:FuncData):Prop where
 T:Tops K mg
 Dc:Def K mg "_law_cell_at" sCellAt ["_law_script", "_law_k"] fc dc
 Gc:FnOk P w K mg base (CXM P w) 1 fc dc ["_law_script", "_law_k"] (spCellAt K)
 Dd:Def K mg "_law_digits" sDigits ["_law_cell"] fd dd
 Gd:FnOk P w K mg base (CXM P w) 1 fd dd ["_law_cell"] spDigits
 Dn:Def K mg "_law_next" sNext ["_law_source", "_law_many"] fn dn
 Gn:FnOk P w K mg base (CXM P w) 2 fn dn ["_law_source", "_law_many"] spNext
 Dk:Def K mg "_law_kinds" sKinds ["_law_source"] fk dk
 Gk:FnOk P w K mg base (CXM P w) 4 fk dk ["_law_source"] spKinds
 Dm:Def K mg "_law_made" sMade ["_law_spec"] fm dm
 Gm:FnOk P w K mg base (CXM P w) 7 fm dm ["_law_spec"] (spMade CK C Pt)
 Ds:Def K mg "_law_situations" sLSits ["_law_spec"] fs ds
 Gs:FnOk P w K mg base (CXM P w) 2 fs ds ["_law_spec"] spLSits
 Do:Def K mg "_law_order" sLOrder ["_law_spec"] fo do_
 Go:FnOk P w K mg base (CXM P w) 1 fo do_ ["_law_spec"] spOrd
 Dq:Def K mg "situations" sSits ["kinds", "kind"] fq dq
 Gq:FnOk P w K mg base (CXM P w) 4 fq dq ["kinds", "kind"] (spSits CK C)
 Dx:Def K mg "_law_strange" sStrange ["_law_kinds_here", "_law_name"] fx dx
 Gx:FnOk P w K mg base (CXM P w) 5 fx dx ["_law_kinds_here", "_law_name"] (spStrange K CK)
 LL:LamTxt K mg base cL Pl
noncomputable abbrev nL51:List Str:=["_law_script", "_law_source", "_law_spec", "_law_kinds_here", "_law_due", "_law_told", "_law_name", "_law_fields", "_law_owner", "_law_some", "_law_wrong"]
section
variable {P:Program}{w:World}{K:PySem.W.Frag}{mg:Str→Option Value}{base:Heap}
theorem scL51:FnScope nL51 ["_law_script"] (defScope sLaw):=⟨rfl,rfl,rfl,by decide +kernel,rfl,by decide +kernel,by decide +kernel⟩
set_option maxHeartbeats 4000000 in
theorem ok_law51 {f C CK fc fd fn fk fm fs fo fq fx cL Pt Pl:Addr}{fdl dc dd dn dk dm ds do_ dq dx:FuncData} (F:FunL K "law" "law" sLaw f fdl cL) (A:Asks51 P w K mg base C CK fc fd fn fk fm fs fo fq fx cL Pt Pl dc dd dn dk dm ds do_ dq dx):FnOk P w K mg base (CXM P w) 8 f fdl ["_law_script"] (spLaw51 K Pt Pl):=by
 have T:=A.T;have hC:Calm (CXM P w):=calmM;have GX:∀ f c' cl ws,LamOk1 P w K mg base (CXM P w) 3 f c' lawQ (lamP lamX) (lamB lamX) (lamS lamX) cl lamNX ws (spLamX ws):=fun f c' cl ws=>ok_lamX A.Dn A.Gn;refine FunL.okC F scL51 (fun vs H Q E h=>?_) (fun Ar outer s H vs Q E hr h=>?_)
 ·obtain ⟨a,ns,rfl,_⟩:=h;rfl
 ·obtain ⟨a,nums,rfl,hS,hlen,hT,hM,hne,k⟩:=h;have nd:=scL51.nd;have hr1:=hr.mono (show 1≤7 by decide);have hr2:=hr.mono (show 2≤7 by decide);have hr4:=hr.mono (show 4≤7 by decide);have hr5:=hr.mono (show 5≤7 by decide)
  refine ⟨_,zA4 (zAa (i:=1) nd rfl (Or.inr rfl) (zA9 A.Gd hr1 rfl A.Dd.at_ A.Dd.fn.kp A.Dd.bind .nil (passC hC) (zA0 (zA9 A.Gc hr1 rfl A.Dc.at_ A.Dc.fn.kp A.Dc.bind .nil (passC hC) (zA0 (pv 0) (zA0 zA7 zA3))) zA3)))
     (zA4 (zAa (i:=2) nd rfl (Or.inr rfl) (zA9 A.Gk hr4 rfl A.Dk.at_ A.Dk.fn.kp A.Dk.bind .nil (passC hC) (zA0 (pv 1) zA3)))
     (zA4 (zAa (i:=3) nd rfl (Or.inl rfl) (zA9 A.Gm hr rfl A.Dm.at_ A.Dm.fn.kp A.Dm.bind .nil (passC hC) (zA0 (zAj (T:=["_law_k"]) rfl ScOk.auto (zAb (zC0 (ix:=[1]) (N:=lamNX) hC GX hr5 rfl rfl T.sorted A.LL rfl (zA0 (zAx call_rng rfl T.range PyProof.Rows.boot_range (zA0 (zAd zAq rfl T.len PySem.boot_len (zA0 (pv 2) zA3)) zA3)) zA3) rfl rfl rfl rfl cellX freeX inX (by intro z hz;simp only [Ym,Yc,or_false] at hz;rcases hz with rfl;rfl))) (fun _ _ _ _=>zA8 (i:=11) (by decide +kernel:(["_law_script", "_law_source", "_law_spec", "_law_kinds_here", "_law_due", "_law_told", "_law_name", "_law_fields", "_law_owner", "_law_some", "_law_wrong", "_law_k"]:List Str).Nodup) rfl (Or.inl rfl)) (fun _ _ _ _=>zAt) (fun _ _ _ _=>(zAu (r:=rIxL K) zAp (pv 2) (pv 11) (fun _ _=>rfl)))) zA3)))
     (zA4 (zAa (i:=4) nd rfl (Or.inl rfl) (zA9 A.Gs hr2 rfl A.Ds.at_ A.Ds.fn.kp A.Ds.bind .nil (passC hC) (zA0 (pv 2) zA3)))
     (zA4 (zAa (i:=5) nd rfl (Or.inl rfl) (zAe zA3))
     (zA4 (zB5 PassesOwn.never rfl (zAb (zA9 A.Go hr1 rfl A.Do.at_ A.Do.fn.kp A.Do.bind .nil (passC hC) (zA0 (pv 2) zA3))) (zD6 rfl (zAh (zA8 (i:=6) nd rfl (Or.inl rfl)) (zAh (zA8 (i:=7) nd rfl (Or.inl rfl)) (zAh (zA8 (i:=8) nd rfl (Or.inl rfl)) zBk))))
     (zA4 (zAa (i:=9) nd rfl (Or.inl rfl) (zA9 A.Gq hr4 rfl A.Dq.at_ A.Dq.fn.kp A.Dq.bind .nil (passC hC) (zA0 (pv 3) (zA0 (pv 6) zA3))))
     (zA4 (zAa (i:=5) nd rfl (Or.inl rfl) (zAf zBz (pv 5) (pv 9)))
     (zA4 (zB3 (zCv PySem.F.plainAttrs_list PySem.F.slot_list_append PySem.F.type_list_append zBi (pv 9) (zA0 zB7 zA3)))
     (zA6 (zBg (zAz (op_neD hr.units) (zA9 A.Gq hr4 rfl A.Dq.at_ A.Dq.fn.kp A.Dq.bind .nil (passC hC) (zA0 (pv 3) (zA0 (pv 6) zA3))) (zCz sl_list (pv 9) po_none (zEk (pe_un un_neg zA7))) (nomark _))
     (zA6 (zAg zDr)) zAl))))))
     (zA4 (zAa (i:=10) nd rfl (Or.inl rfl) (zAu zAp (zAe (zA0 zAi (zA0 zAi (zA0 zB7 (zA0 zA7 (zA0 (zAw (zA0 zAi zA3)) (zA0 zAi zA3))))))) (zA9 A.Gn hr2 rfl A.Dn.at_ A.Dn.fn.kp A.Dn.bind .nil (passC hC) (zA0 (pv 1) (zA0 zA7 zA3))) (fun _ _=>rfl)))
     (zA6 (zAg (zD9 (zBl (op_eqD hr.units) (pv 5) (pv 4) (nomark _)) (zE1 (zA9 A.Gx hr5 rfl A.Dx.at_ A.Dx.fn.kp A.Dx.bind .nil (passC hC) (zA0 (pv 3) (zA0 (pv 10) zA3))))))))))))),?_⟩
  have small:∀ n:Nat,n≤1000→n≤sizeLine:=fun n h=>Zq (small1000 h);refine ⟨_,rfl,a,nums,rfl,hS,fun z0=>⟨z0,rfl,fun q H1 hq S1 s1 k1=>?_⟩⟩;refine ⟨_,rfl,q,0,rfl,S1,by decide,fun l rs H2 dr S2 B2=>?_⟩;have rp:RowsP rs:=⟨_,dr.ok,List.Perm.refl _⟩;have le4:=dr.le;have hT1:=hT.same s1;have hM1:TabM H1 Pl lawQ:=hM.gen fun b o e _=>s1 _ _ e;have noq:∀ {Hx:Hp}{j:Int},Src Hx q j→∀ {b:Addr}{o:HO},Hx b=some o→(∀ xs,o≠.lst xs)→b≠q:=fun S b o e h z=>by
   obtain ⟨_,_,_,e',_⟩:=S;rw [z,e'] at e;exact h _ (Zj e).symm
  have qtab:∀ {Hx Hy:Hp}{j:Int},Src Hx q j→TabOk Hx Pt lamPos lamQ→(∀ b o,Hx b=some o→b≠q→Hy b=some o)→TabOk Hy Pt lamPos lamQ:=fun S T g=>T.gen fun b o e h=>g b o e (noq S e (by
   rcases h with h | ⟨f,h⟩
   ·obtain ⟨ps,ep⟩:=TabOk.tb T;rw [h,ep] at e;cases e;exact fun _ z=>nomatch z
   ·rw [h];exact fun _ z=>nomatch z))
  have qtabM:∀ {Hx Hy:Hp}{j:Int},Src Hx q j→TabM Hx Pl lawQ→(∀ b o,Hx b=some o→b≠q→Hy b=some o)→TabM Hy Pl lawQ:=fun S T g=>T.gen fun b o e h=>g b o e (noq S e (by
   rcases h with h | ⟨f,h⟩
   ·obtain ⟨ps,ep⟩:=T.tb;rw [h,ep] at e;cases e;exact fun _ z=>nomatch z
   ·rw [h];exact fun _ z=>nomatch z))
  have hT2:=qtab S1 hT1 B2;have hM2:=qtabM S1 hM1 B2;have hq1:H1 q≠none:=by obtain ⟨_,_,_,e,_⟩:=S1;rw [e];exact fun z=>nomatch z
  have hl2:Has (fun a=>a≠q) H2 (.ref l) (.list (rs.map rowD)):=dr.has.frame fun b o g e=>⟨fun z=>hq1 (z ▸ g),e⟩;obtain ⟨l',xs,e,nlq,hlx,_,hx⟩:=hl2.list_inv;cases e;have xl:xs.length=rs.length:=by rw [hx.length,Z0]
  refine ⟨_,rfl,l,_,rfl,.inl (SqL.of hlx),xs.length,rfl,fun r hr'=>?_⟩;have s3:=Same.new (o:=HO.rng 0 (xs.length:Nat)) hr';have x3:(upd H2 r (.rng 0 (xs.length:Nat))) r=some (.rng 0 (xs.length:Nat)):=zA1;have S3:=S2.up s3;have hT3:=hT2.same s3;have hM3:TabM (upd H2 r (.rng 0 (xs.length:Nat))) Pl lawQ:=hM2.gen fun b o e _=>s3 _ _ e;have hl3:=hl2.mono s3;generalize upd H2 r (.rng 0 (xs.length:Nat))=H3 at s3 x3 S3 hT3 hM3 hl3 ⊢;refine ⟨r,xs.length,[.ref q],rfl,x3,by omega,rfl,hM3,fun fL c' cl H4 M4 g4 hc4 hf4=>?_⟩;have keep4:∀ {b:Addr}{o:HO},H3 b=some o→(∀ ps,o≠.tbl ps)→H4 b=some o:=fun e h=>g4 _ _ e (hM3.ne e h);have S4:Src H4 q (0 + 60):=by obtain ⟨a',c'',j',e',r'⟩:=S3;exact ⟨a',c'',j',keep4 e' (fun _ z=>nomatch z),r'⟩
  have hT4:TabOk H4 Pt lamPos lamQ:=hT3.gen fun b o e h=>g4 _ _ e (by
   rintro rfl;rcases h with h | ⟨f,h⟩
   ·exact hne h
   ·obtain ⟨ps,ep⟩:=hM3.tb;rw [ep] at e;cases e
    cases h)
  have hl4:Has (fun a=>a≠q) H4 (.ref l) (.list (rs.map rowD)):=hl3.frameS fun b o ga hs e=>⟨ga,keep4 e (by rintro ps rfl;exact hs)⟩;have nc:c'≠q:=noq S4 hc4 fun _ z=>nomatch z;have hq4:H4 q≠none:=by obtain ⟨_,_,_,e,_⟩:=S4;rw [e];exact fun z=>nomatch z
  refine ⟨fun i Hi=>Src Hi q (60 + i)∧∀ b o,H4 b=some o→b≠q→Hi b=some o,⟨S4.le (by omega),fun _ _ e _=>e⟩,fun i Hi a' o ⟨R1,R2⟩ ha=>⟨?_,fun b o' e n=>?_⟩,fun i Hi ⟨_,R2⟩=>R2 _ _ hc4 nc,fun i Hi hi ⟨R1,R2⟩=>?_,fun Hn p out ⟨R1,R2⟩ hp perm=>?_⟩
  ·have na:a'≠q:=fun z=>hq4 (z ▸ ha);obtain ⟨a1,c1,j1,e1,r1⟩:=R1;exact ⟨a1,c1,j1,by rw [zA5 na.symm];exact e1,r1⟩
  ·rw [zA5 (zA2 e ha)];exact R2 _ _ e n
  ·refine ⟨q,_,_,rfl,rfl,R1,by omega,fun z Hj Sj kj=>⟨z,rfl,⟨Sj.le (by push_cast;omega),fun b o e n=>by rw [kj b n];exact R2 _ _ e n⟩,fun b o e hb=>?_⟩⟩;rw [kj b fun z=>hq4 (z ▸ hb)];exact e
  ·rw [xl] at perm;have hT5:TabOk Hn Pt lamPos lamQ:=qtab S4 hT4 R2;have hl5:Has (fun a=>a≠q) Hn (.ref l) (.list (rs.map rowD)):=hl4.frame fun b o ga e=>⟨ga,R2 _ _ e ga⟩;obtain ⟨l5',xs5,e5,_,hlx5,_,hx5⟩:=hl5.list_inv;cases e5;have xl5:xs5.length=rs.length:=by rw [hx5.length,Z0]
   have hpn:Hn p=none∨True:=.inr trivial;have nlp:l≠p:=by
    obtain ⟨_,_,_,_,h4',_⟩:=id hl4.list_inv;exact fun z=>by
     obtain ⟨l6,xs6,e6,_,h6,_⟩:=hl4.list_inv;cases e6;rw [z,hp] at h6;cases h6
   have nqp:q≠p:=fun z=>hq4 (z ▸ hp);have keepP:∀ {b:Addr}{o:HO},H4 b=some o→b≠q→(upd Hn p (.lst (out.map V.int))) b=some o:=fun e n=>by
    rw [zA5 (zA2 e hp)];exact R2 _ _ e n
   have hl6:Has (fun a=>a≠q) (upd Hn p (.lst (out.map V.int))) (.ref l) (.list (rs.map rowD)):=hl4.frame fun b o ga e=>⟨ga,keepP e ga⟩;have x6:(upd Hn p (.lst (out.map V.int))) p=some (.lst (out.map V.int)):=zA1;have S6:Src (upd Hn p (.lst (out.map V.int))) q (60 + xs.length):=by
    obtain ⟨a1,c1,j1,e1,r1⟩:=R1;exact ⟨a1,c1,j1,by rw [zA5 nqp];exact e1,r1⟩
   have hT6:TabOk (upd Hn p (.lst (out.map V.int))) Pt lamPos lamQ:=qtab S4 hT4 fun b o e n=>keepP e n;generalize upd Hn p (.lst (out.map V.int))=H6 at hl6 x6 S6 hT6 ⊢;clear hT5 hl5 hlx5 hx5 xl5 hpn keepP;obtain ⟨l6',xs6,e6,_,hlx6,_,hx6⟩:=hl6.list_inv;cases e6;have xl6:xs6.length=rs.length:=by rw [hx6.length,Z0]
   have ol:out.length=rs.length:=by rw [perm.length_eq,Z0,List.length_range]
   refine ⟨p,rfl,⟨_,SqL.of x6⟩,zAc (xs:=out.map V.int) (fun j ys H'=>H'=H6∧HasAll (fun a=>a≠q) H6 ys ((pickR rs (out.take j)).map rowD)) ⟨rfl,.nil⟩ (fun j ys H' z=>by rw [z.1];exact SqL.of x6) (fun j ys H' hj z=>?_) ?_ ?_⟩
   ·have:=z.2.length;rw [Z0] at this;have h2:(pickR rs (out.take j)).length≤(out.take j).length:=List.length_filterMap_le _ _;have:=Zl j out;exact small _ (by omega)
   ·rintro j x ys H' hj ⟨rfl,hys⟩ N hN;rw [Z6] at hj;cases eo:out[j]? with
    | none=>rw [eo] at hj;cases hj
    | some z =>
     rw [eo] at hj;cases hj;obtain ⟨i,hi,rfl⟩:∃ i:Nat,i < rs.length∧z=(i:Int):=by
      have:=perm.mem_iff.mp (Z3 eo);obtain ⟨i,h1,h2⟩:=List.mem_map.mp this;exact ⟨i,List.mem_range.mp h1,h2.symm⟩
     have ev:xs6[i]? = some xs6[i]:=Z1 (by omega);obtain ⟨d,hd,hv⟩:=hx6.get ev;rw [Z6,Z1 hi] at hd;cases hd;refine pick ⟨_,rfl,_,rfl,l,_,((i:Nat):Int),_,rfl,rfl,SqL.of hlx6,zAr ev,hN _ _ ⟨rfl,?_⟩⟩;have:pickR rs (out.take (j + 1))=pickR rs (out.take j)++[rs[i]]:=by
      unfold pickR;rw [Z4,eo,List.filterMap_append]
      congr 1
      show List.filterMap (fun z:Int=>rs[z.toNat]?) [(i:Int)]=_;rw [Zy,Int.toNat_natCast,Z1 hi];rfl
     rw [this,Z9];exact hys.snoc hv
   ·rintro ys H' ⟨rfl,hys⟩ lk hlk;rw [Z0,Za] at hys;have pp:=pickR_perm perm;generalize pickR rs out=rt at hys pp;have rpt:=rp.move pp;have s7:=Same.new (o:=HO.lst ys) hlk;have h7:Has Any (upd H' lk (.lst ys)) (.ref lk) (.list (rt.map rowD)):=.lst trivial zA1 (by rw [hys.length,Z0,pp.length_eq];omega) (hys.any.mono s7);have hT7:=hT6.same s7;have S7:=S6.up s7;have hl7:=hl6.mono s7;generalize upd H' lk (.lst ys)=H7 at s7 h7 hT7 S7 hl7 ⊢;refine ⟨lk,rt,rfl,h7,rpt,hT7,fun kq d ord kvs zs H8 ka nq8 nd8 hzs kf zr pl gr ol8 T8 g8=>?_⟩;have op:ord.Perm (zs.map fun z=>z.2.name):=by
     have:=ord_perm gr ol8 rpt.nd;rw [← zr,Zo] at this;exact this
    have ndz:(zs.map fun z=>z.2.name).Nodup:=by
     have:=rpt.nd;rw [← zr,Zo] at this;exact this
    have kd:Kd CK C H8 kq rt:=by
     have:=kd_of ka ndz kf pl op;rw [zr] at this;exact this
    have hl8:=has_grown hl7 hT7 g8;have S8:Src H8 q (60 + xs.length):=by
     obtain ⟨a1,c1,j1,e1,r1⟩:=S7;exact ⟨a1,c1,j1,g8 _ _ e1 (hT7.ne e1 fun _ z=>nomatch z),r1⟩
    clear hT7 S7 hl7 g8 T8 pl gr ka kf hzs;refine ⟨_,rfl,l,rs,rfl,hl8.any,rp,le4,dr.fit,fun ld ys9 H9 s9 n9 h9 hy9=>⟨Zm _,fun lt0 hlt0=>?_⟩⟩;have s10:=Same.new (o:=HO.lst []) hlt0;have x10:(upd H9 lt0 (.lst [])) lt0=some (.lst []):=zA1;generalize upd H9 lt0 (.lst [])=H10 at s10 x10 ⊢;have s8a:=s9.trans s10;refine ⟨_,rfl,Any,l,rs,rfl,(hl8.any).mono s8a,rp,le4,fun lo xo H11 s11 n11 h11 hxo=>?_⟩;have s8b:=s8a.trans s11;have op2:=zDb rp le4;have xol:xo.length=(ordR rs).length:=by rw [hxo.length,Z0]
    refine ⟨lo,rfl,⟨_,SqL.of h11⟩,zAy (K:=K) (a:=lo) (xs:=xo) (fun i σ H'=>∃ (x6 x7 x8 x9:Option V) (lt:Addr) (ts:List V),σ = [some (.ref a),some (.ref q),some (.ref l),some (.ref kq),some (.ref ld),some (.ref lt),x6,x7,x8,x9,none]∧Same H11 H'∧lt≠q∧H' lt=some (.lst ts)∧HasAll (TupG H') H' ts (((ordR rs).take i).flatMap (sitsOf rs)))
     ⟨_,_,_,_,lt0,[],rfl,Same.refl _,(S8.up s9).nw hlt0,s11 _ _ x10,.nil⟩ (fun i σ H' _ ⟨_,_,_,_,_,_,_,s,_⟩=>SqL.of (s _ _ h11)) ?_ ?_⟩
    ·rintro i x σ H12 hi ⟨x6',x7',x8',x9',lt,ts,rfl,s12,nltq,ht12,hts⟩;obtain ⟨d',hd',hv⟩:=hxo.get hi;rw [Z6] at hd';cases er:(ordR rs)[i]? with
     | none=>rw [er] at hd';cases hd'
     | some r1 =>
      rw [er] at hd';cases hd';have mo:r1∈ordR rs:=Z3 er;have mr:r1∈rs:=op2.mem_iff.mp mo;have mt:r1∈rt:=pp.mem_iff.mpr mr;have esit:=sits_perm rp rpt pp mr;have fit1:=fit_one dr.fit mo;obtain ⟨tt,lq,rfl,hTt,_⟩:=zBf hv;refine ⟨tt,_,rfl,SqT.of (s12 _ _ (s11 _ _ hTt)),rfl,_,_,rfl,_,_,rfl,_,_,rfl,rfl,?_⟩;refine ⟨_,rfl,_,rfl,kq,rt,r1,rfl,kd.same (s8b.trans s12),rpt,mt,by rw [esit];exact fit1,fun ls vs13 H13 s13 n13 h13 hv13=>?_⟩;rw [esit] at hv13;have vl:vs13.length=(sitsOf rs r1).length:=hv13.length;have tl':ts.length + vs13.length≤1000:=by
       have h1:=zCr (ordR rs) (sitsOf rs) (i + 1);have h2:=dr.fit;have e1:((ordR rs).take (i + 1)).flatMap (sitsOf rs)=((ordR rs).take i).flatMap (sitsOf rs)++sitsOf rs r1:=by
        rw [Z4,er,List.flatMap_append]
        congr 1
        show [r1].flatMap (sitsOf rs)=_;rw [Zz,List.flatMap_nil,List.append_nil]
       rw [e1,Z8] at h1;unfold allSits at h2;rw [hts.length];omega
      refine ⟨_,rfl,_,rfl,lt,ls,ts,vs13,rfl,rfl,s13 _ _ ht12,h13,small _ tl',fun lt2 hlt2=>?_⟩;have s14:=Same.new (o:=HO.lst (ts++vs13)) hlt2;have x14:(upd H13 lt2 (.lst (ts++vs13))) lt2=some (.lst (ts++vs13)):=zA1;have n14:lt2≠ls:=(zA2 h13 hlt2).symm;generalize upd H13 lt2 (.lst (ts++vs13))=H14 at s14 x14 ⊢;have h14:=s14 _ _ h13;refine ⟨_,rfl,.inl ⟨rfl,vs13,SqL.of h14⟩,ls,vs13,.non,rfl,rfl,h14,small1000 (by omega),?_⟩;have fls:H12 ls=none:=n13;have s15:Same H12 (upd H14 ls (.lst (vs13++[.non]))):=fun b o e=>by rw [zA5 (zA2 e fls)];exact s14 _ _ (s13 _ _ e)
      have x15:(upd H14 ls (.lst (vs13++[.non]))) ls=some (.lst (vs13++[.non])):=zA1;have y15:(upd H14 ls (.lst (vs13++[.non]))) lt2=some (.lst (ts++vs13)):=by rw [zA5 n14];exact x14
      have tup15:∀ b ys,H13 b=some (.tup ys)→(upd H14 ls (.lst (vs13++[.non]))) b=some (.tup ys):=fun b ys e=>by
       have nb:b≠ls:=by rintro rfl;rw [h13] at e;cases e
       rw [zA5 nb];exact s14 _ _ e
      have v15:=zB1 hv13 tup15;have t15:=zB1 (zB1 hts fun b ys e=>s13 _ _ e) tup15;generalize upd H14 ls (.lst (vs13++[.non]))=H15 at s15 x15 y15 tup15 v15 t15 ⊢;refine ⟨_,rfl,_,rfl,kq,rt,r1,rfl,kd.same (s8b.trans (s12.trans s15)),rpt,mt,by rw [esit];exact fit1,fun ls2 vs16 H16 s16 n16 h16 hv16=>?_⟩;rw [esit] at hv16;refine ⟨_,rfl,_,rfl,_,rfl,ls,_,rfl,SqL.of (s16 _ _ x15),fun l5 hl5=>?_⟩;have hcut:cutV (vs13++[V.non]) none (some (-1))=vs13:=by rw [cut_m1 (by simp)];simp
      rw [hcut];have s17:=Same.new (o:=HO.lst vs13) hl5;have v16:=zB1 hv16 fun b ys e=>s17 _ _ e;have v17:=zB1 (zB1 v15 fun b ys e=>s16 _ _ e) fun b ys e=>s17 _ _ e;have t17:=zB1 (zB1 t15 fun b ys e=>s16 _ _ e) fun b ys e=>s17 _ _ e;have l16:vs16.length≤1000:=by rw [hv16.length];exact fit1
      refine ne_same (d:=.list (sitsOf rs r1)) (G:=Any) (G':=Any) (.lst trivial (s17 _ _ h16) l16 v16.any) (.lst trivial zA1 (by omega) v17.any) (depth_all zDy) ⟨_,rfl,iteF ?_⟩;refine ⟨_,_,_,_,lt2,ts++vs13,rfl,s12.trans (s15.trans (s16.trans s17)),(S8.up (s8b.trans (s12.trans s13))).nw hlt2,s17 _ _ (s16 _ _ y15),?_⟩;have e1:((ordR rs).take (i + 1)).flatMap (sitsOf rs)=((ordR rs).take i).flatMap (sitsOf rs)++sitsOf rs r1:=by
       rw [Z4,er,List.flatMap_append]
       congr 1
       show [r1].flatMap (sitsOf rs)=_;rw [Zz,List.flatMap_nil,List.append_nil]
      rw [e1];exact HasAll.append t17 v17
    ·rintro σ H12 ⟨x6',x7',x8',x9',lt,ts,rfl,s12,nltq,ht12,hts⟩;rw [xol,Za] at hts;have s812:=s8b.trans s12;refine ⟨small 1 (by decide),fun tb htb=>⟨small 6 (by decide),fun lw hlw=>?_⟩⟩;have s13:=(Same.new (o:=HO.tup [.str "box"]) htb).trans (Same.new (o:=HO.lst [.str "",.str "zed",.non,.int 5,.ref tb,.str "Box"]) hlw);have xb:(upd (upd H12 tb (.tup [.str "box"])) lw (.lst [.str "",.str "zed",.non,.int 5,.ref tb,.str "Box"])) tb=some (.tup [.str "box"]):=(Same.new hlw) _ _ zA1;have xw:(upd (upd H12 tb (.tup [.str "box"])) lw (.lst [.str "",.str "zed",.non,.int 5,.ref tb,.str "Box"])) lw=some (.lst [.str "",.str "zed",.non,.int 5,.ref tb,.str "Box"]):=zA1;have S13:=S8.up (s812.trans s13);have nlw:lw≠q:=(S8.up (s812.trans (Same.new (o:=HO.tup [.str "box"]) htb))).nw hlw;have ntb:tb≠q:=(S8.up s812).nw htb;generalize upd (upd H12 tb (.tup [.str "box"])) lw (.lst [.str "",.str "zed",.non,.int 5,.ref tb,.str "Box"])=H13 at s13 xb xw S13 ⊢;refine ⟨_,rfl,q,6,_,rfl,S13,by omega,by decide,by decide,fun r9 H14 a9 b9 S14 k14=>?_⟩;have g14:∀ b o,H12 b=some o→b≠q→H14 b=some o:=fun b o e n=>by rw [k14 b n];exact s13 _ _ e
     have gT:∀ b ys,H12 b=some (.tup ys)→H14 b=some (.tup ys):=fun b ys e=>g14 _ _ e (noq (S8.up s812) e fun _ z=>nomatch z);obtain ⟨dk',kvs',zs',ka',_,_,none'⟩:=kd.same s812;have ka14:KindsAt CK H14 kq dk' kvs':=ka'.mono fun b o e hs=>g14 _ _ e (noq (S8.up s812) e (by rcases hs with ⟨_,_,_,rfl⟩ | ⟨_,rfl⟩ | ⟨_,_,rfl⟩ <;> exact fun _ z=>nomatch z));have hz:valV kvs' (Sum.inr "zed")=none:=none' "zed" fun z=>dr.zed ((pp.map _).mem_iff.mp z);have xb14:H14 tb=some (.tup [.str "box"]):=by rw [k14 tb ntb];exact xb
     obtain ⟨v,hv,bad⟩:∃ v,atI [V.str "",V.str "zed",V.non,V.int 5,V.ref tb,V.str "Box"] r9=some v∧NoNm K H14 kvs' v:=by
      have:r9=0∨r9=1∨r9=2∨r9=3∨r9=4∨r9=5:=by omega
      rcases this with rfl | rfl | rfl | rfl | rfl | rfl
      ·exact ⟨.str "",rfl,.st (by decide) (by decide +kernel)⟩
      ·exact ⟨.str "zed",rfl,.out (by decide) (by decide +kernel) hz⟩
      ·exact ⟨.non,rfl,.ty .non rfl⟩
      ·exact ⟨.int 5,rfl,.ty (.int 5) rfl⟩
      ·exact ⟨.ref tb,rfl,.ty (.tup xb14) rfl⟩
      ·exact ⟨.str "Box",rfl,.st (by decide) (by decide +kernel)⟩
     refine ⟨lw,_,r9,v,rfl,rfl,SqL.of (by rw [k14 lw nlw];exact xw),hv,?_⟩;have ndq:ld≠q:=S8.nw n9;have hd12:=s12 _ _ (s11 _ _ (s10 _ _ h9));have y14:=zB1 hy9 fun b ys e=>gT _ _ (s12 _ _ (s11 _ _ (s10 _ _ e)));have t14:=zB1 hts gT;have fitA:=dr.fit;refine ⟨_,rfl,_,rfl,eq_same (d:=.list (allSits rs)) (G:=Any) (G':=Any) (.lst trivial (g14 _ _ ht12 nltq) (by rw [hts.length];exact fitA) t14.any) (.lst trivial (g14 _ _ hd12 ndq) (by rw [hy9.length];exact fitA) y14.any) (depth_all zF3) ⟨_,rfl,iteT ⟨_,rfl,_,rfl,kq,dk',kvs',v,rfl,bad,ka14,fun H' _=>k H'⟩⟩⟩
end
end L2.W
namespace L2.W
open PySem My
theorem len1 {α : Type}{us:List α} (h:us.length=1):∃ a,us=[a]:=List.length_eq_one_iff.mp h
theorem len2 {α : Type}{us:List α} (h:us.length=2):∃ a0 a1,us=[a0,a1]:=by
 cases us with
 | nil=>cases h
 | cons a0 r=>obtain ⟨a1,rfl⟩:=len1 (show r.length=1 from Nat.succ.inj h);exact ⟨a0,a1,rfl⟩
theorem len3 {α : Type}{us:List α} (h:us.length=3):∃ a0 a1 a2,us=[a0,a1,a2]:=by
 cases us with
 | nil=>cases h
 | cons a0 r=>obtain ⟨a1,a2,rfl⟩:=len2 (show r.length=2 from Nat.succ.inj h);exact ⟨a0,a1,a2,rfl⟩
theorem len4 {α : Type}{us:List α} (h:us.length=4):∃ a0 a1 a2 a3,us=[a0,a1,a2,a3]:=by
 cases us with
 | nil=>cases h
 | cons a0 r=>obtain ⟨a1,a2,a3,rfl⟩:=len3 (show r.length=3 from Nat.succ.inj h);exact ⟨a0,a1,a2,a3,rfl⟩
structure DL (K:PySem.W.Frag) (x:Str) (st:Stmt) (f:Addr) (fd:FuncData):Prop where
 a:PySem.W.nsIn K mainGlobals x=some (some (.ref f))
 F:Fun K x x st f fd
structure ML (K:PySem.W.Frag) (C:Addr) (x q:Str) (st:Stmt) (f:Addr) (fd:FuncData):Prop where
 a:PySem.W.findIn K (.ref C) x=some (some (.ref f))
 i:PySem.W.isFn K (.ref f)=true
 F:Fun K x q st f fd
theorem mkD {K:PySem.W.Frag}{h:Heap}{mg:Str→Option Value}{x:Str}{st:Stmt}{f:Addr}{fd:FuncData}{ps:List Str} (X:K.In h) (G:h.Ns mainGlobals mg) (D:DL K x st f fd) (hb:∀ (kV doc pm:Value) (an:Option Addr) (cdv ct:Value) (us:List Value),us.length=ps.length→bindArgs (PySem.W.fnOf x x (defArgs st) (defBody st) (defScope st) .none kV doc pm an cdv ct) ⟨us,[]⟩=pure (ps.zip us)):Def K mg x st ps f fd:=⟨D.F,PySem.W.mg_of X G D.a,D.F.binds hb⟩
theorem zBc {K:PySem.W.Frag}{x:Str}{st:Stmt}{f:Addr}{oc:Value}{od an:Option Addr}{osl:Array (Option Value)}{kV doc pm cdv ct:Value} (a:PySem.W.nsIn K mainGlobals x=some (some (.ref f))) (l:K.lookup f=some ⟨oc,od,.func (PySem.W.fnOf x x (defArgs st) (defBody st) (defScope st) .none kV doc pm an cdv ct),osl⟩)
  (c:PySem.W.codeIn K cdv x=true) (k:PySem.W.keepIn K (.ref f)=true):DL K x st f (PySem.W.fnOf x x (defArgs st) (defBody st) (defScope st) .none kV doc pm an cdv ct):=⟨a,fun_mk l c k⟩
theorem ml_mk {K:PySem.W.Frag}{C:Addr}{x q:Str}{st:Stmt}{f:Addr}{oc:Value}{od an:Option Addr}{osl:Array (Option Value)}{kV doc pm cdv ct:Value} (a:PySem.W.findIn K (.ref C) x=some (some (.ref f))) (i:PySem.W.isFn K (.ref f)=true) (l:K.lookup f=some ⟨oc,od,.func (PySem.W.fnOf x q (defArgs st) (defBody st) (defScope st) .none kV doc pm an cdv ct),osl⟩)
  (c:PySem.W.codeIn K cdv q=true) (k:PySem.W.keepIn K (.ref f)=true):ML K C x q st f (PySem.W.fnOf x q (defArgs st) (defBody st) (defScope st) .none kV doc pm an cdv ct):=⟨a,i,fun_mk l c k⟩
theorem all_mk {l:PySem.W.OpenLaw}{w:World}{K:PySem.W.Frag}{h:Heap}{mg:Str→Option Value}{fx:Addr} (X:K.In h) (G:h.Ns mainGlobals mg) (hfa:mg "law" = some (.ref fx))
  {fN fU fP fF fCt fA fPk fSt fWi fOs fSq fca fm fd fn fok flk flm fls fli flo flx fIk fOr fOf fOw:Addr}{ts:List Addr}{dN dU dP dF dCt dA dPk dSt dWi dOs dSq dca dm dd dn dok dlk dlm dls dli dlo dlx dIk dOr dOf dOw:FuncData}{C CK CN fI TD c cL Pt Pl:Addr}{ocI kVI dcI pmI cdI ctI:Value}{odI anI:Option Addr}{slI:Array (Option Value)}{ocT:Value}{odT:Option Addr}{slT:Array (Option Value)}{nT:Nat}{t0 t1 t2:Tok}
  {fp:Addr}{ocp kVp dcp pmp ctp:Value}{odp anp:Option Addr}{slp:Array (Option Value)}
  {fL:Addr}{ocL kVL dcL pmL ctL:Value}{odL anL:Option Addr}{slL:Array (Option Value)}
  (aC:PySem.W.nsIn K mainGlobals "Kind" = some (some (.ref C)))
  (aCK:PySem.W.nsIn K mainGlobals "Kinds" = some (some (.ref CK)))
  (aCN:PySem.W.nsIn K mainGlobals "NoName" = some (some (.ref CN)))
  (xN:DL K "is_name" sIsName fN dN)
  (xU:DL K "are_unlike_names" sUnlike fU dU)
  (xP:DL K "is_pair_with_values" sPair fP dP)
  (xF:DL K "are_fields" sFields fF dF)
  (xCt:DL K "count_states" sCount fCt dCt)
  (xA:DL K "are_kinds" sAreKinds fA dA)
  (xPk:DL K "all_picks" sPicks fPk dPk)
  (xSt:DL K "states" sStates fSt dSt)
  (xWi:DL K "all_wished" sAllWished fWi dWi)
  (xOs:DL K "owner_states" sOwnerStates fOs dOs)
  (xSq:DL K "situations" sSits fSq dSq)
  (xca:DL K "_law_cell_at" sCellAt fca dca)
  (xm:DL K "_law_mixed" sMixed fm dm)
  (xd:DL K "_law_digits" sDigits fd dd)
  (xn:DL K "_law_next" sNext fn dn)
  (xok:DL K "_law_odd_kinds" sOddKinds fok dok)
  (xlk:DL K "_law_kinds" sKinds flk dlk)
  (xlm:DL K "_law_made" sMade flm dlm)
  (xls:DL K "_law_states" sLStates fls dls)
  (xli:DL K "_law_situations" sLSits fli dli)
  (xlo:DL K "_law_order" sLOrder flo dlo)
  (xlx:DL K "_law_strange" sStrange flx dlx)
  (xIk:ML K CK "__init__" "Kinds.__init__" sInitKs fIk dIk)
  (xOr:ML K CK "order" "Kinds.order" sOrder fOr dOr)
  (xOf:ML K CK "of" "Kinds.of" sOf fOf dOf)
  (xOw:ML K CK "owned" "Kinds.owned" sOwned fOw dOw)
  (xap:PySem.W.nsIn K mainGlobals "placed_by_owners" = some (some (.ref fp))) (xlp:K.lookup fp=some ⟨ocp,odp,.func (PySem.W.fnOf "placed_by_owners" "placed_by_owners" (defArgs sPlaced) (defBody sPlaced) (defScope sPlaced) .none kVp dcp pmp anp (.ref c) ctp),slp⟩) (xcp:PySem.W.codeIn K (.ref c) "placed_by_owners" = true) (xkp:PySem.W.keepIn K (.ref fp)=true)
  (xaL:PySem.W.nsIn K mainGlobals "law" = some (some (.ref fL))) (xlL:K.lookup fL=some ⟨ocL,odL,.func (PySem.W.fnOf "law" "law" (defArgs sLaw) (defBody sLaw) (defScope sLaw) .none kVL dcL pmL anL (.ref cL) ctL),slL⟩) (xcL:PySem.W.codeIn K (.ref cL) "law" = true) (xkL:PySem.W.keepIn K (.ref fL)=true)
  (aI:PySem.W.findIn K (.ref C) "__init__" = some (some (.ref fI))) (iI:PySem.W.isFn K (.ref fI)=true)
  (lI:K.lookup fI=some ⟨ocI,odI,.func (PySem.W.fnOf "__init__" "Kind.__init__" (defArgs sInit) (defBody sInit) (defScope sInit) (.ref TD) kVI dcI pmI anI cdI ctI),slI⟩) (cI:PySem.W.codeIn K cdI "Kind.__init__" = true)
  (lT:K.lookup TD=some ⟨ocT,odT,.seq #[.none] nT,slT⟩)
  (kpg:PySem.W.plainGet K C Str.empty=true) (khd:PySem.W.hasDictIn K C=true) (kpo:PySem.W.plainOver K C=true) (ksa:PySem.W.findIn K (.ref C) "__setattr__" = some (some (.builtin "object.__setattr__"))) (kmk:PySem.W.makesIn K C=true) (kkc:PySem.W.keepIn K (.ref C)=true) (kno0:PySem.W.findIn K (.ref C) "name" = some none) (kno1:PySem.W.findIn K (.ref C) "fields" = some none) (kno2:PySem.W.findIn K (.ref C) "owner" = some none)
  (gpg:PySem.W.plainGet K CK Str.empty=true) (ghd:PySem.W.hasDictIn K CK=true) (gpo:PySem.W.plainOver K CK=true) (gsa:PySem.W.findIn K (.ref CK) "__setattr__" = some (some (.builtin "object.__setattr__"))) (gmk:PySem.W.makesIn K CK=true) (gkc:PySem.W.keepIn K (.ref CK)=true) (gno0:PySem.W.findIn K (.ref CK) "by_name" = some none)
  (hn:PySem.W.specialIn K (.builtin "object.__class__") "__get__" = some (some (.builtin "getset_descriptor.__get__"))) (htk:PySem.W.takesIn K (.builtin "object.__class__")=some true)
  (iha:PySem.W.findIn K (.ref C) "__class__" = some (some (.builtin "object.__class__"))) (ihm:PySem.W.mroIn K C (.type "object")=some true) (ihki:PySem.W.kitOne K (.ref C) (.ref C)=some true)
  (hts:ts=[Pt,Pl])
  (hcdp:PySem.W.codeHdIn K c Pt=true) (houtp:K.lookup Pt=none)
  (hcdL:PySem.W.codeHdIn K cL Pl=true) (houtL:K.lookup Pl=none)
  (hnePlPt:Pl≠Pt)
  (c0:PySem.W.nsIn K mainGlobals "LETTERS" = some (some (.str letters t0)))
  (c1:PySem.W.nsIn K mainGlobals "MOST_LETTERS" = some (some (.int 8 t1)))
  (c2:PySem.W.nsIn K mainGlobals "MOST_STATES" = some (some (.int 8 t2)))
  (xexN:PySem.W.excIn K CN [.type "ValueError",.type "Exception",.type "BaseException",.type "object"] "ValueError.__new__" = true)
  (xemN:PySem.W.exmOne K (.ref CN) (.ref CN)=some true)
  (z_isinstance:PySem.W.nsIn K mainGlobals "isinstance" = some none)
  (z_len:PySem.W.nsIn K mainGlobals "len" = some none)
  (z_all:PySem.W.nsIn K mainGlobals "all" = some none)
  (z_set:PySem.W.nsIn K mainGlobals "set" = some none)
  (z_range:PySem.W.nsIn K mainGlobals "range" = some none)
  (z_str:PySem.W.nsIn K mainGlobals "str" = some none)
  (z_list:PySem.W.nsIn K mainGlobals "list" = some none)
  (z_tuple:PySem.W.nsIn K mainGlobals "tuple" = some none)
  (z_dict:PySem.W.nsIn K mainGlobals "dict" = some none)
  (z_min:PySem.W.nsIn K mainGlobals "min" = some none)
  (z_sorted:PySem.W.nsIn K mainGlobals "sorted" = some none)
  (z_int:PySem.W.nsIn K mainGlobals "int" = some none)
  (z_max:PySem.W.nsIn K mainGlobals "max" = some none) :
  ∃ fd:FuncData,(∀ (s:Shared) (v:Value),BindsTo s fd ⟨[v],[]⟩ [("_law_script",v)])∧(∀ T∈ts,(K).lookup T=none∧∃ c,PySem.W.codeHdIn (K) c T=true)∧∃ Pt Pl:Addr,Pt∈ts∧Pl∈ts∧Pl≠Pt∧∀ base:Heap,(K).In base→base.Ns mainGlobals mg→BltAt mg base→FnOk l.prog w (K) mg base CX0 8 fx fd ["_law_script"] (spLaw51 K Pt Pl):=by
 have e:=hfa.symm.trans (PySem.W.mg_of X G xaL);cases e;have T:Tops K mg:=⟨PySem.W.mg_none_of X G z_isinstance,PySem.W.mg_none_of X G z_len,PySem.W.mg_none_of X G z_all,PySem.W.mg_none_of X G z_set,PySem.W.mg_none_of X G z_range,PySem.W.mg_none_of X G z_str,PySem.W.mg_none_of X G z_list,PySem.W.mg_none_of X G z_tuple,PySem.W.mg_none_of X G z_dict,PySem.W.mg_none_of X G z_min,PySem.W.mg_none_of X G z_sorted,PySem.W.mg_none_of X G z_int,PySem.W.mg_none_of X G z_max,⟨_,PySem.W.mg_of X G c0⟩,⟨_,PySem.W.mg_of X G c1⟩,⟨_,PySem.W.mg_of X G c2⟩⟩;have DN:=mkD X G xN (ps:=["thing"]) fun _ _ _ _ _ _ us hl=>by obtain ⟨z0,rfl⟩:=len1 hl;rfl
 have DU:=mkD X G xU (ps:=["things"]) fun _ _ _ _ _ _ us hl=>by obtain ⟨z0,rfl⟩:=len1 hl;rfl
 have DP:=mkD X G xP (ps:=["thing"]) fun _ _ _ _ _ _ us hl=>by obtain ⟨z0,rfl⟩:=len1 hl;rfl
 have DF:=mkD X G xF (ps:=["things"]) fun _ _ _ _ _ _ us hl=>by obtain ⟨z0,rfl⟩:=len1 hl;rfl
 have DCt:=mkD X G xCt (ps:=["fields"]) fun _ _ _ _ _ _ us hl=>by obtain ⟨z0,rfl⟩:=len1 hl;rfl
 have DA:=mkD X G xA (ps:=["things"]) fun _ _ _ _ _ _ us hl=>by obtain ⟨z0,rfl⟩:=len1 hl;rfl
 have DPk:=mkD X G xPk (ps:=["lists"]) fun _ _ _ _ _ _ us hl=>by obtain ⟨z0,rfl⟩:=len1 hl;rfl
 have DSt:=mkD X G xSt (ps:=["kind"]) fun _ _ _ _ _ _ us hl=>by obtain ⟨z0,rfl⟩:=len1 hl;rfl
 have DWi:=mkD X G xWi (ps:=["kind"]) fun _ _ _ _ _ _ us hl=>by obtain ⟨z0,rfl⟩:=len1 hl;rfl
 have DOs:=mkD X G xOs (ps:=["kinds", "kind"]) fun _ _ _ _ _ _ us hl=>by obtain ⟨z0,z1,rfl⟩:=len2 hl;rfl
 have DSq:=mkD X G xSq (ps:=["kinds", "kind"]) fun _ _ _ _ _ _ us hl=>by obtain ⟨z0,z1,rfl⟩:=len2 hl;rfl
 have Dca:=mkD X G xca (ps:=["_law_script", "_law_k"]) fun _ _ _ _ _ _ us hl=>by obtain ⟨z0,z1,rfl⟩:=len2 hl;rfl
 have Dm:=mkD X G xm (ps:=["_law_cell", "_law_k"]) fun _ _ _ _ _ _ us hl=>by obtain ⟨z0,z1,rfl⟩:=len2 hl;rfl
 have Dd:=mkD X G xd (ps:=["_law_cell"]) fun _ _ _ _ _ _ us hl=>by obtain ⟨z0,rfl⟩:=len1 hl;rfl
 have Dn:=mkD X G xn (ps:=["_law_source", "_law_many"]) fun _ _ _ _ _ _ us hl=>by obtain ⟨z0,z1,rfl⟩:=len2 hl;rfl
 have Dok:=mkD X G xok (ps:=["_law_source", "_law_tail"]) fun _ _ _ _ _ _ us hl=>by obtain ⟨z0,z1,rfl⟩:=len2 hl;rfl
 have Dlk:=mkD X G xlk (ps:=["_law_source"]) fun _ _ _ _ _ _ us hl=>by obtain ⟨z0,rfl⟩:=len1 hl;rfl
 have Dlm:=mkD X G xlm (ps:=["_law_spec"]) fun _ _ _ _ _ _ us hl=>by obtain ⟨z0,rfl⟩:=len1 hl;rfl
 have Dls:=mkD X G xls (ps:=["_law_fields"]) fun _ _ _ _ _ _ us hl=>by obtain ⟨z0,rfl⟩:=len1 hl;rfl
 have Dli:=mkD X G xli (ps:=["_law_spec"]) fun _ _ _ _ _ _ us hl=>by obtain ⟨z0,rfl⟩:=len1 hl;rfl
 have Dlo:=mkD X G xlo (ps:=["_law_spec"]) fun _ _ _ _ _ _ us hl=>by obtain ⟨z0,rfl⟩:=len1 hl;rfl
 have Dlx:=mkD X G xlx (ps:=["_law_kinds_here", "_law_name"]) fun _ _ _ _ _ _ us hl=>by obtain ⟨z0,z1,rfl⟩:=len2 hl;rfl
 obtain ⟨xaIk,xiIk,FIk⟩:=xIk;have bIk:=FIk.binds (ps:=["self", "kinds"]) fun _ _ _ _ _ _ us hl=>by obtain ⟨z0,z1,rfl⟩:=len2 hl;rfl
 obtain ⟨xaOr,xiOr,FOr⟩:=xOr;obtain ⟨xaOf,xiOf,FOf⟩:=xOf;have bOf:=FOf.binds (ps:=["self", "name"]) fun _ _ _ _ _ _ us hl=>by obtain ⟨z0,z1,rfl⟩:=len2 hl;rfl
 obtain ⟨xaOw,xiOw,FOw⟩:=xOw;have Fp:FunL K "placed_by_owners" "placed_by_owners" sPlaced fp _ c:=⟨⟨ocp,odp,kVp,dcp,pmp,anp,ctp,slp,rfl,xlp,xcp⟩,xkp⟩;have bp:=Fp.fn.binds (ps:=["kinds"]) fun _ _ _ _ _ _ us hl=>by obtain ⟨z0,rfl⟩:=len1 hl;rfl
 have FL:FunL K "law" "law" sLaw _ _ cL:=⟨⟨ocL,odL,kVL,dcL,pmL,anL,ctL,slL,rfl,xlL,xcL⟩,xkL⟩;have FI:FunD K "__init__" "Kind.__init__" sInit (.ref TD) fI _:=⟨⟨ocI,odI,kVI,dcI,pmI,anI,cdI,ctI,slI,rfl,lI,cI⟩⟩;have bK:Binds K (PySem.W.fnOf "__init__" "Kind.__init__" (defArgs sInit) (defBody sInit) (defScope sInit) (.ref TD) kVI dcI pmI anI cdI ctI) ["self", "name", "fields", "owner"] []:=by
  intro s us hK hl;rw [List.append_nil] at hl ⊢;obtain ⟨a,n,f,o,rfl⟩:=len4 hl;exact PySem.W.binds_K hK rfl lT rfl (by rfl) (by rfl)
 have KC:KCls K mg C fI:=⟨⟨kpg,khd,kpo,ksa⟩,kno0,kno1,kno2,PySem.W.mg_of X G aC,⟨kmk,aI,iI,kkc⟩⟩;have KS:KsCls K mg CK fIk fOr fOf fOw:=⟨⟨gpg,ghd,gpo,gsa⟩,gno0,PySem.W.mg_of X G aCK,⟨gmk,xaIk,xiIk,gkc⟩,⟨xaOr,xiOr,FOr.kp⟩,⟨xaOf,xiOf,FOf.kp⟩,⟨xaOw,xiOw,FOw.kp⟩⟩;have XN:XTop K mg "NoName" CN:=⟨PySem.W.mg_of X G aCN,xexN⟩;subst hts;refine ⟨PySem.W.fnOf "law" "law" (defArgs sLaw) (defBody sLaw) (defScope sLaw) .none kVL dcL pmL anL (.ref cL) ctL,fun s v=>.of_eq rfl,fun T hT=>?_,Pt,Pl,.head _,.tail _ (.head _),hnePlPt,fun base _ _ bl=>?_⟩
 ·simp only [Ym,Yc,or_false] at hT;rcases hT with rfl | rfl
  ·exact ⟨houtp,c,hcdp⟩
  ·exact ⟨houtL,cL,hcdL⟩
 ·have Lp:LamTxt K mg base c Pt:=⟨hcdp,bl⟩;have LL:LamTxt K mg base cL Pl:=⟨hcdL,bl⟩;have hC:Calm (CXM l.prog w):=calmM;have GK:=ok_init (P:=l.prog) (w:=w) (base:=base) hC T FI KC DN DU DP DF DCt;have GIk:=ok_initKs (P:=l.prog) (w:=w) (base:=base) hC T KC ⟨iha,hn,htk,ihm,ihki⟩ KS Lp FIk DN DU DA Fp (PySem.W.mg_of X G xap) bp;have Gn:=ok_next (P:=l.prog) (w:=w) (base:=base) hC Dn.fn Dm;have GSt:=ok_states (P:=l.prog) (w:=w) (base:=base) hC KC DSt.fn DPk;have GWi:=ok_wishes (P:=l.prog) (w:=w) (base:=base) hC KC DWi.fn DPk;have GOf:=ok_of (P:=l.prog) (w:=w) (base:=base) hC T KS FOf DN;have GOs:=ok_ownSt (P:=l.prog) (w:=w) (base:=base) hC KC KS DOs.fn DSt GSt GOf bOf;have GSq:=ok_sits (P:=l.prog) (w:=w) (base:=base) hC KC KS DSq.fn DSt DWi DOs GSt GWi GOs GOf bOf;have GNo:=ok_ofNo (P:=l.prog) (w:=w) (base:=base) T XN KS FOf DN;have GSn:=ok_sitsNo (P:=l.prog) (w:=w) (base:=base) KS DSq.fn GNo bOf;have Glx:=ok_strange (P:=l.prog) (w:=w) (base:=base) ⟨XN,xemN⟩ Dlx.fn DSq GSn;have Gok:=ok_odd (P:=l.prog) (w:=w) (base:=base) hC T Dok.fn Dn Gn;have Glk:=ok_kinds51 (P:=l.prog) (w:=w) (base:=base) hC T Dlk.fn Dn Gn Dok Gok;have Glm:=ok_made (P:=l.prog) (w:=w) (base:=base) hC T KC KS GK bK GIk bIk Dlm.fn;have Gls:=ok_lst (P:=l.prog) (w:=w) (base:=base) (mg:=mg) (CX:=CXM l.prog w) Dls.fn;have Glo:=ok_ord (P:=l.prog) (w:=w) (base:=base) (CX:=CXM l.prog w) T Dlo.fn;have Gli:=ok_lsits (P:=l.prog) (w:=w) (base:=base) hC T Dli.fn Dlo Glo Dls Gls;exact (ok_law51 FL ⟨T,Dca,ok_cellAt T Dca.fn,Dd,ok_digits Dd.fn,Dn,Gn,Dlk,Glk,Dlm,Glm,Dli,Gli,Dlo,Glo,DSq,GSq,Dlx,Glx,LL⟩).calm calmM
theorem walk {l:PySem.W.OpenLaw}{q:Program}{loose:List Str}{XP:(Str→Option Value)→Heap→Prop}{YP:World→Heap→Prop}{d:DefRec}{K:Params→PySem.W.Frag}{ts:List Addr} (hn:l.most=some 63) (hdf:d.params.defaults=[])
  (hY:∀ (w:World) (h:Heap),YP w h→(K w.params).In h∧∀ T∈ts,h.get? T=some (PySem.W.tabObj #[]))
  (F:∀ (w:World) (mg:Str→Option Value) (fa:Addr) (h:Heap),(K w.params).In h→h.Ns mainGlobals mg→mg d.name=some (.ref fa) →
   ∃ fd:FuncData,(∀ (s:Shared) (v:Value),BindsTo s fd ⟨[v],[]⟩ [("_law_script",v)])∧(∀ T∈ts,(K w.params).lookup T=none∧∃ c,PySem.W.codeHdIn (K w.params) c T=true)∧∃ Pt Pl:Addr,Pt∈ts∧Pl∈ts∧Pl≠Pt∧∀ base:Heap,(K w.params).In base→base.Ns mainGlobals mg→BltAt mg base→FnOk l.prog w (K w.params) mg base CX0 8 fa fd ["_law_script"] (spLaw51 (K w.params) Pt Pl)) :
  PySem.W.WalkO q loose XP YP l.row.toRowW d [] (fun f vs=>PySem.call f vs):=by
 refine Att.attach_call hn hdf fun w s₀ s₁ mg mb fa o pm cd doc a vs ns G Y ho hd hcd hmg hobj hints hlen hg=>?_;obtain ⟨KX,hT⟩:=hY w _ Y;obtain ⟨fd,hb,hall,Pt,Pl,m0,m1,hnePlPt,hF⟩:=F w mg fa _ KX G.T.g hmg;exact law_callTs KX G.T.g G.T.b G.T.builtins G.T.nolimit hg (blt_of G.T) hT (fun T h=>(hall T h).1) (fun T h=>(hall T h).2) hobj hints (Zk hlen (by decide)) ⟨rfl,by decide,by decide⟩ hF hb (fun H hO hS=>⟨a,ns,rfl,hS,hlen,.inl (hO.1 Pt m0),⟨⟨#[],hO.1 Pl m1,trivial,fun _ _ e=>nomatch e⟩⟩,hnePlPt,fun _=>rfl⟩) fun _ _ _ z=>z
end L2.W
theorem PySem.W.Fast.tw12094786658122544407:True:=trivial
theorem PySem.W.Fast.tw4708594614134346350:True:=trivial
theorem PySem.W.Fast.tw16033188184016795923:True:=trivial
theorem PySem.W.Fast.tw11883511597736870497:True:=trivial
theorem PySem.W.Fast.tw7891193295019798786:True:=trivial
theorem PySem.W.Fast.tw5605388665977411136:True:=trivial
theorem PySem.W.Fast.tw6798182476987061399:True:=trivial
theorem PySem.W.Fast.tw2705514765565320715:True:=trivial
theorem PySem.W.Fast.tw12850080423747710798:True:=trivial
theorem PySem.W.Fast.tw9648952852885636093:True:=trivial
theorem PySem.W.Fast.tw11629789979390452167:True:=trivial
theorem PySem.W.Fast.tw12562387550253999737:True:=trivial
theorem PySem.W.Fast.tw6104914101067294497:True:=trivial
theorem PySem.W.Fast.tw18420772928128229688:True:=trivial
theorem PySem.W.Fast.tw2081421835023282691:True:=trivial
theorem PySem.W.Fast.tw17746380089027209963:True:=trivial
theorem PySem.W.Fast.tw1645393512817294431:True:=trivial
theorem PySem.W.Fast.tw11141459046427497954:True:=trivial
theorem PySem.W.Fast.tw5596380979546497614:True:=trivial
theorem PySem.W.Fast.tw11609152770148478658:True:=trivial
theorem PySem.W.Fast.tw4919337462249667783:True:=trivial
theorem PySem.W.Fast.tw13164947146003166652:True:=trivial
theorem PySem.W.Fast.tw13634422053378705276:True:=trivial
theorem PySem.W.Fast.tw3114423840759859727:True:=trivial
theorem PySem.W.Fast.tw12756069354952641813:True:=trivial
theorem PySem.W.Fast.tw17581767446660390534:True:=trivial
theorem PySem.W.Fast.tw2590451337784818851:True:=trivial
theorem PySem.W.Fast.tw11198603328049754876:True:=trivial
theorem PySem.W.Fast.tw12853100623314371203:True:=trivial
theorem PySem.W.Fast.tw16231940428694929946:True:=trivial
theorem PySem.W.Fast.tw1436385678110599723:True:=trivial
theorem PySem.W.Fast.tw14527491095942303285:True:=trivial
theorem PySem.W.Fast.tw10021603423527974814:True:=trivial
theorem PySem.W.Fast.tw16065898277131031294:True:=trivial
theorem PySem.W.Fast.tw6381070442055784009:True:=trivial
theorem PySem.W.Fast.tw2206095133893221528:True:=trivial
theorem PySem.W.Fast.tw8329372769341767919:True:=trivial
theorem PySem.W.Fast.tw16755479685575379588:True:=trivial
theorem PySem.W.Fast.tw16229212599264921623:True:=trivial
theorem PySem.W.Fast.tw9118386000848181437:True:=trivial
theorem PySem.W.Fast.tw5688693434237117221:True:=trivial
theorem PySem.W.Fast.tw4069286872852639770:True:=trivial
theorem PySem.W.Fast.tw14097533360513987177:True:=trivial
theorem PySem.W.Fast.tw17018296447175851911:True:=trivial
theorem PySem.W.Fast.tw8879981206087294081:True:=trivial
theorem PySem.W.Fast.tw10733836756071941411:True:=trivial
theorem PySem.W.Fast.tw16578161267016225389:True:=trivial
theorem PySem.W.Fast.tw1029475295629116112:True:=trivial
theorem PySem.W.Fast.tw14316241670327603429:True:=trivial
theorem PySem.W.Fast.tw9904143611550817676:True:=trivial
theorem PySem.W.Fast.tw12638095463625443494:True:=trivial
theorem PySem.W.Fast.tw15859886676374202710:True:=trivial
theorem PySem.W.Fast.tw798978101497505317:True:=trivial
theorem PySem.W.Fast.tw15604843372117998161:True:=trivial
theorem PySem.W.Fast.tw7919735496444448885:True:=trivial
theorem PySem.W.Fast.tw740643932079322954:True:=trivial
theorem PySem.W.Fast.tw15934893974715354101:True:=trivial
theorem PySem.W.Fast.tw14764594949190015952:True:=trivial
theorem PySem.W.Fast.tw9117322650718030922:True:=trivial
theorem PySem.W.Fast.tw6395093346409703980:True:=trivial
open PySem PySem.W PyProof.Rows
set_option maxRecDepth 100000 in
set_option maxHeartbeats 0 in
theorem PySem.Challenge.cw_cometorest_k51_situations_told_holds : PySem.Challenge.rw_cometorest_k51_situations_told.Holds := by
 w_on;o_law;k_head;(case hw=>w_witness2)
 k_fill
 refine L2.W.walk (l:=PySem.Challenge.rw_cometorest_k51_situations_told) rfl rfl (fun w h Y=>⟨PySem.W.km_in_of Y,PySem.W.km_tabs_of Y⟩) ?F
 case F =>
  intro w mg fa h KX G hmg;refine' L2.W.all_mk KX G hmg ?aC ?aCK ?aCN ?xN ?xU ?xP ?xF ?xCt ?xA ?xPk ?xSt ?xWi ?xOs ?xSq ?xca ?xm ?xd ?xn ?xok ?xlk ?xlm ?xls ?xli ?xlo ?xlx ?xIk ?xOr ?xOf ?xOw ?xap ?xlp ?xcp ?xkp ?xaL ?xlL ?xcL ?xkL ?aI ?iI ?lI ?cI ?lT ?kpg ?khd ?kpo ?ksa ?kmk ?kkc ?kno0 ?kno1 ?kno2 ?gpg ?ghd ?gpo ?gsa ?gmk ?gkc ?gno0 ?hn ?htk ?iha ?ihm ?ihki ?hts ?hcdp ?houtp ?hcdL ?houtL ?hnePlPt ?c0 ?c1 ?c2 ?xexN ?xemN ?z_isinstance ?z_len ?z_all ?z_set ?z_range ?z_str ?z_list ?z_tuple ?z_dict ?z_min ?z_sorted ?z_int ?z_max
  (case aC=>k_is)
  (case aCK=>k_is)
  (case aCN=>k_is)
  (case xN=>apply L2.W.zBc;iterate 4 k_is)
  (case xU=>apply L2.W.zBc;iterate 4 k_is)
  (case xP=>apply L2.W.zBc;iterate 4 k_is)
  (case xF=>apply L2.W.zBc;iterate 4 k_is)
  (case xCt=>apply L2.W.zBc;iterate 4 k_is)
  (case xA=>apply L2.W.zBc;iterate 4 k_is)
  (case xPk=>apply L2.W.zBc;iterate 4 k_is)
  (case xSt=>apply L2.W.zBc;iterate 4 k_is)
  (case xWi=>apply L2.W.zBc;iterate 4 k_is)
  (case xOs=>apply L2.W.zBc;iterate 4 k_is)
  (case xSq=>apply L2.W.zBc;iterate 4 k_is)
  (case xca=>apply L2.W.zBc;iterate 4 k_is)
  (case xm=>apply L2.W.zBc;iterate 4 k_is)
  (case xd=>apply L2.W.zBc;iterate 4 k_is)
  (case xn=>apply L2.W.zBc;iterate 4 k_is)
  (case xok=>apply L2.W.zBc;iterate 4 k_is)
  (case xlk=>apply L2.W.zBc;iterate 4 k_is)
  (case xlm=>apply L2.W.zBc;iterate 4 k_is)
  (case xls=>apply L2.W.zBc;iterate 4 k_is)
  (case xli=>apply L2.W.zBc;iterate 4 k_is)
  (case xlo=>apply L2.W.zBc;iterate 4 k_is)
  (case xlx=>apply L2.W.zBc;iterate 4 k_is)
  (case xIk=>apply L2.W.ml_mk;iterate 5 k_is)
  (case xOr=>apply L2.W.ml_mk;iterate 5 k_is)
  (case xOf=>apply L2.W.ml_mk;iterate 5 k_is)
  (case xOw=>apply L2.W.ml_mk;iterate 5 k_is)
  (case xap=>k_is)
  (case xlp=>k_is)
  (case xcp=>k_is)
  (case xkp=>k_is)
  (case xaL=>k_is)
  (case xlL=>k_is)
  (case xcL=>k_is)
  (case xkL=>k_is)
  (case aI=>k_is)
  (case iI=>k_is)
  (case lI=>k_is)
  (case cI=>k_is)
  (case lT=>k_is)
  (case kpg=>k_is)
  (case khd=>k_is)
  (case kpo=>k_is)
  (case ksa=>k_is)
  (case kmk=>k_is)
  (case kkc=>k_is)
  (case kno0=>k_is)
  (case kno1=>k_is)
  (case kno2=>k_is)
  (case gpg=>k_is)
  (case ghd=>k_is)
  (case gpo=>k_is)
  (case gsa=>k_is)
  (case gmk=>k_is)
  (case gkc=>k_is)
  (case gno0=>k_is)
  (case hn=>k_is)
  (case htk=>k_is)
  (case iha=>k_is)
  (case ihm=>k_is)
  (case ihki=>first | k_is | rfl | kernel_rfl | decide +kernel)
  (case hts=>rfl)
  (case hcdp=>first | k_is | rfl | kernel_rfl | decide +kernel)
  (case houtp=>first | k_is | rfl | kernel_rfl | decide +kernel)
  (case hcdL=>first | k_is | rfl | kernel_rfl | decide +kernel)
  (case houtL=>first | k_is | rfl | kernel_rfl | decide +kernel)
  (case hnePlPt=>decide)
  (case c0=>k_is)
  (case c1=>k_is)
  (case c2=>k_is)
  (case xexN=>first | k_is | rfl | kernel_rfl | decide +kernel)
  (case xemN=>first | k_is | rfl | kernel_rfl | decide +kernel)
  (case z_isinstance=>k_is)
  (case z_len=>k_is)
  (case z_all=>k_is)
  (case z_set=>k_is)
  (case z_range=>k_is)
  (case z_str=>k_is)
  (case z_list=>k_is)
  (case z_tuple=>k_is)
  (case z_dict=>k_is)
  (case z_min=>k_is)
  (case z_sorted=>k_is)
  (case z_int=>k_is)
  (case z_max=>k_is)
