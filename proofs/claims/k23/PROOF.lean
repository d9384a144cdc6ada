import PyProof.Rows.All
import Wide.All
import OpenK.AllK
import Wide.FinOn
import Lean
import PyProof.EqAt
import PyProof.EqKinds
import PyProof.TupleCall
import PySem.Challenge.RW_cometorest_k23_old_ones_and_other_wishin
import KE.KMinKey
import KE.KLam
import KE.KNestM
import KE.KDictList
import PyProof.EnumMake
import PyProof.EnumFor
import PyProof.EnumStmt
import PyProof.AttrMissHeap
import KE.KDictOf
import PyProof.StrLawsChain
import PyProof.StrLawsTight
import PyProof.Rows.StrItems
import PyProof.Rows.StrSplitCount
import PyProof.FString
import KE.KIntText
import KE.KTryMore
import PyProof.NsDelKeeps
import PyProof.ExcClass3
import PyProof.ExcBaseAll.ValueError
import PyProof.ExcAttrAll.ValueError
import PyProof.NeKinds
import PyProof.FactsAll.dict
import KE.KDictSum
import PyProof.DictItems
import KE.KPairComp
import KE.KxWritten
import PyProof.SumAny
import PyProof.Rows.StrLen
import PyProof.CallStr
import PyProof.StrCalls6
import PyProof.Rows.StrCase
import OpenK.KMake
import KE.KSortTup
set_option Elab.async false
set_option linter.all false
set_option maxRecDepth 100000
abbrev Z0:=@PySem.Heap.get?_push_of_some
abbrev Z1:=@List.length_map
abbrev Z2:=@Nat.le_refl
abbrev Z3:=@List.size_toArray
abbrev Z4:=@List.getElem?_eq_getElem
abbrev Z5:=@PySem.Heap.lt_size
abbrev Z6:=@PySem.Heap.get?_push_size
abbrev Z7:=@Nat.lt_of_lt_of_le
abbrev Z8:=@Bool.false_ne_true
abbrev Z9:=@Nat.ne_of_lt
abbrev Za:=@Nat.le_trans
abbrev Zb:=@List.mem_cons_of_mem
abbrev Zc:=@List.length_append
abbrev Zd:=@Nat.le_of_lt
abbrev Ze:=@List.mem_of_getElem?
abbrev Zf:=@List.getElem?_map
abbrev Zg:=@List.length_cons
abbrev Zh:=@Option.some.inj
abbrev Zi:=@List.length_replicate
abbrev Zj:=@Bool.and_eq_true
abbrev Zk:=@List.take_add_one
abbrev Zl:=@Nat.zero_le
abbrev Zm:=@List.take_length
abbrev Zn:=@List.mem_cons_self
abbrev Zo:=@List.mem_append_right
abbrev Zp:=@List.length_take_le
abbrev Zq:=@List.not_mem_nil
abbrev Zr:=@List.getElem?_append_left
abbrev Zt:=@List.map_cons
abbrev Zu:=@List.map_append
abbrev Zv:=@List.mem_cons
abbrev Zw:=@Array.length_toList
abbrev Zx:=@List.replicate_succ
abbrev Zy:=@List.length_take
abbrev Zz:=@List.lookup_cons
abbrev Y0:=@Nat.lt_irrefl
abbrev Y1:=@List.filterMap_cons
abbrev Y2:=@PySem.Heap.size_push
abbrev Y3:=@List.getElem?_append_right
abbrev Y4:=@PySem.Heap.get?_none_of_le
abbrev Y5:=@Nat.lt_succ_self
abbrev Y6:=@List.filterMap_map
abbrev Y7:=@List.foldl_cons
abbrev Y8:=@List.find?_cons
abbrev Y9:=@List.all_cons
abbrev Ya:=@Nat.lt_succ_of_lt
abbrev Yb:=@List.mem_append_left
abbrev Yc:=@List.getElem_of_mem
abbrev Yd:=@Bool.eq_iff_iff
abbrev Ye:=@Int.emod_lt_of_pos
abbrev Yf:=@List.flatten_cons
abbrev Yg:=@List.all_map
abbrev Yh:=@List.map_map
abbrev Yi:=@List.any_cons
namespace L2
open PySem PySem.Spec PyProof.Rows
noncomputable abbrev Key:=Sum Int Str
noncomputable def keyIs:Key→Value→Bool
 | .inl k,v=>Value.isInt k v
 | .inr x,v=>Value.isStrOf x v
noncomputable def keyH (w:World):Key→Int
 | .inl k=>hashInt k
 | .inr x=>hashStr w x
theorem zB0:∀ {k:Key}{v:Value},keyIs k v=true→(∃ i t,k=Sum.inl i∧v=Value.int i t)∨(∃ x t,k=Sum.inr x∧v=Value.str x t)
 | .inl i,v,h=>by
  obtain ⟨t,e⟩:=Value.isInt_shape (k:=i) (v:=v) h;exact .inl ⟨i,t,rfl,e⟩
 | .inr x,v,h=>by
  obtain ⟨t,e⟩:=Value.isStrOf_shape (x:=x) (v:=v) h;exact .inr ⟨x,t,rfl,e⟩
theorem keyIs_int (i:Int) (t:Tok):keyIs (.inl i) (.int i t)=true:=by simp [keyIs,Value.isInt]
theorem keyIs_str (x:Str) (t:Tok):keyIs (.inr x) (.str x t)=true:=by simp [keyIs,Value.isStrOf]
theorem key_ll (a b:Int):decide ((Sum.inl a:Key)=Sum.inl b)=(a == b):=by
 by_cases e:a=b
 ·subst e;simp
 ·have h:¬ (Sum.inl a:Key)=Sum.inl b:=fun q=>e (Sum.inl.inj q);rw [decide_eq_false h];exact (beq_eq_false_iff_ne.mpr e).symm
theorem key_rr (a b:Str):decide ((Sum.inr a:Key)=Sum.inr b)=decide (a=b):=by
 by_cases e:a=b
 ·subst e;simp
 ·have h:¬ (Sum.inr a:Key)=Sum.inr b:=fun q=>e (Sum.inr.inj q);rw [decide_eq_false h,decide_eq_false e]
theorem key_lr (a:Int) (b:Str):decide ((Sum.inl a:Key)=Sum.inr b)=false:=decide_eq_false (fun q=>nomatch q)
theorem key_rl (a:Str) (b:Int):decide ((Sum.inr a:Key)=Sum.inl b)=false:=decide_eq_false (fun q=>nomatch q)
noncomputable def mixKind (prog:Program) (w:World):PySem.KeyKind prog w Key where
 is:=keyIs
 hash:=keyH w
 inj:=fun v a b ha hb=>by
  rcases zB0 ha with ⟨i,t,rfl,rfl⟩ | ⟨x,t,rfl,rfl⟩
  ·rcases zB0 hb with ⟨j,u,rfl,e⟩ | ⟨y,u,rfl,e⟩
   ·injection e with e1 _;rw [e1]
   ·exact nomatch e
  ·rcases zB0 hb with ⟨j,u,rfl,e⟩ | ⟨y,u,rfl,e⟩
   ·exact nomatch e
   ·injection e with e1 _;rw [e1]
 byValue:=fun k v h=>by
  rcases zB0 h with ⟨i,t,rfl,rfl⟩ | ⟨x,t,rfl,rfl⟩ <;> rfl
 pyHash:=fun hv h=>by
  rcases zB0 hv with ⟨i,t,rfl,rfl⟩ | ⟨x,t,rfl,rfl⟩
  ·exact wpAny_pyHash_int h
  ·exact wpAny_pyHash_str h
 eqBool:=fun hu hv h=>by
  rcases zB0 hu with ⟨i,t,rfl,rfl⟩ | ⟨x,t,rfl,rfl⟩
  ·rcases zB0 hv with ⟨j,u,rfl,rfl⟩ | ⟨y,u,rfl,rfl⟩
   ·rw [key_ll] at h;exact wpAny_eqBool_int h
   ·rw [key_lr] at h;exact SeqAt.EqAt.int_str i t y u _ _ _ _ h
  ·rcases zB0 hv with ⟨j,u,rfl,rfl⟩ | ⟨y,u,rfl,rfl⟩
   ·rw [key_rl] at h;exact SeqAt.EqAt.str_int x t j u _ _ _ _ h
   ·rw [key_rr] at h;exact wpAny_eqBool_str h
 «strs»:=fun k x t v h=>by
  rcases zB0 h with ⟨i,u,rfl,e⟩ | ⟨y,u,rfl,e⟩
  ·exact nomatch e
  ·injection e with e1 _;subst e1;cases v <;> rfl
theorem mixKind_int (prog:Program) (w:World) (i:Int) (t:Tok):(mixKind prog w).is (.inl i) (.int i t)=true:=keyIs_int i t
theorem mixKind_str (prog:Program) (w:World) (x:Str) (t:Tok):(mixKind prog w).is (.inr x) (.str x t)=true:=keyIs_str x t
end L2
namespace L2
open PySem PySem.Spec PyProof.Rows
inductive V where
 | non | bl (b:Bool) | int (i:Int) | str (x:Str) | byt (b:Array UInt8) | flt (b:UInt64) | ref (a:Addr) | ty (n:String)
 deriving DecidableEq
noncomputable def RelV:V→Value→Prop
 | .non,u=>u=Value.none
 | .bl b,u=>u=Value.bool b
 | .int i,u=>∃ t,u=Value.int i t
 | .str x,u=>∃ t,u=Value.str x t
 | .byt b,u=>∃ t,u=Value.bytes b t
 | .flt b,u=>∃ t,u=Value.float b t
 | .ref a,u=>u=Value.ref a
 | .ty n,u=>u=Value.type n
noncomputable abbrev Vals:List V→List Value→Prop:=Paired RelV
theorem Vals.length {xs:List V}{us:List Value} (r:Vals xs us):xs.length=us.length:=Paired.length r
theorem Vals.get:∀ {xs:List V}{us:List Value}{i:Nat}{x:V},Vals xs us→xs[i]? = some x→∃ u,us[i]? = some u∧RelV x u
 | _,_,_,_,.nil,e=>by simp at e
 | _,_,0,_,.cons r _,e=>by simp at e;subst e;exact ⟨_,rfl,r⟩
 | _,_,i + 1,x,.cons _ t,e=>by
  obtain ⟨u,h1,h2⟩:=Vals.get (i:=i) (x:=x) t (by simpa using e);exact ⟨u,by simpa using h1,h2⟩
theorem Vals.set {x:V}{u:Value} (r:RelV x u):∀ {xs:List V}{us:List Value} (i:Nat),Vals xs us→Vals (xs.set i x) (us.set i u)
 | _,_,_,.nil=>.nil
 | _,_,0,.cons _ t=>.cons r t
 | _,_,i + 1,.cons q t=>.cons q (Vals.set r i t)
theorem Vals.append:∀ {xs ys:List V}{us ws:List Value},Vals xs us→Vals ys ws→Vals (xs++ys) (us++ws)
 | _,_,_,_,.nil,s=>s
 | _,_,_,_,.cons r t,s=>.cons r (Vals.append t s)
theorem Vals.take:∀ {xs:List V}{us:List Value} (n:Nat),Vals xs us→Vals (xs.take n) (us.take n)
 | _,_,0,_=>.nil
 | _,_,_ + 1,.nil=>.nil
 | _,_,n + 1,.cons r t=>.cons r (Vals.take n t)
theorem Vals.drop:∀ {xs:List V}{us:List Value} (n:Nat),Vals xs us→Vals (xs.drop n) (us.drop n)
 | _,_,0,r=>r
 | _,_,_ + 1,.nil=>.nil
 | _,_,n + 1,.cons _ t=>Vals.drop n t
noncomputable def RelO:Option V→Option Value→Prop
 | some v,some u=>RelV v u
 | none,none=>True
 | _,_=>False
noncomputable def KV {κ : Type}:List (κ×V)→List (κ×Value)→Prop:=Paired fun (p : κ×V) (q : κ×Value)=>p.1=q.1∧RelV p.2 q.2
noncomputable def kV:Key→V
 | .inl i=>.int i
 | .inr x=>.str x
inductive HO where
 | lst (xs:List V)
 | tup (xs:List V)
 | dK (kvs:List (Key×V)) | dT (kvs:List (List Key×V))
 | set (S:Int→Bool) (n:Nat)
 | ins (C dx:Addr) (fs:List (Str×V))
 | own (x:Addr)
 | xd (fs:List (Str×V))
 | met (f x:Addr)
 | rng (lo hi:Int)
 | frz (o:Obj) (u:HO)
 | tbl (ps:Array Value)
 | ext (φ : Heap→Prop)
noncomputable abbrev Hp:=Addr→Option HO
noncomputable def upd (H:Hp) (a:Addr) (o:HO):Hp:=fun b=>if b=a then some o else H b
theorem zA1 {H:Hp}{a:Addr}{o:HO}:upd H a o a=some o:=by unfold upd;rw [if_pos rfl]
theorem zA6 {H:Hp}{a b:Addr}{o:HO} (h:b≠a):upd H a o b=H b:=by unfold upd;rw [if_neg h]
theorem zCr {H:Hp}{a:Addr}{o u:HO}:upd (upd H a o) a u=upd H a u:=by
 funext b;unfold upd;split <;> rfl
theorem ne_of {H:Hp}{a b:Addr}{o u:HO} (h:H a=some o) (h':H b=some u) (d:o≠u):a≠b:=by
 intro e;subst e;rw [h] at h';exact d (Zh h')
theorem zA5 {H:Hp}{a b:Addr}{o:HO} (h:H a=some o) (h':H b=none):a≠b:=by
 intro e;subst e;rw [h] at h';cases h'
section
variable (P:Program) (w:World)
noncomputable def ObjOk (H:Hp) (h:Heap) (a:Addr):HO→Prop
 | .lst xs=>xs.length≤sizeLine∧∃ (its:List Value) (n:Nat),Vals xs its∧h.get? a=some { cls:=.type "list",data:=.seq its.toArray n }
 | .tup xs=>xs.length≤sizeLine∧∃ its:List Value,Vals xs its∧IsTup h a its.toArray
 | .dK kvs=>kvs.length≤sizeLine∧(a == sysModules)=false∧∃ vs,KV kvs vs∧h.DictOf (mixKind P w) a vs
 | .dT kvs=>kvs.length≤sizeLine∧(a == sysModules)=false∧∃ xs:List (List Key×Addr×Value),
   Paired (fun (p:List Key×V) (q:List Key×Addr×Value)=>p.1=q.1∧H q.2.1=some (.tup (p.1.map kV))∧RelV p.2 q.2.2) kvs xs ∧
   ∃ o es ep,h.get? a=some o∧o.ExactDict∧o.data=.dict es ep∧es.toList=xs.map (entryOfKey (tupleKind (mixKind P w)))∧(xs.map (·.1)).Nodup
 | .set S n=>h.SetOf (intKind P w) a S n
 | .ins C dx fs=>H dx=some (.own a)∧fs.length≤1000∧dx≠a∧h.get? a=some (PySem.W.instObj C dx) ∧
   ∃ mA,h.Ns1 dx mA∧(∀ f,RelO (fs.lookup f) (mA f))∧PySem.Within mA (fs.map (·.1))
 | .own _=>∃ o,h.get? a=some o
 | .xd fs=>∃ mA,h.Ns1 a mA∧∀ f,RelO (fs.lookup f) (mA f)
 | .rng lo hi=>∃ t u v,h.get? a=some { cls:=.type "range",data:=.fields #[.int lo t,.int hi u,.int 1 v] }
 | .frz o u=>h.get? a=some o∧ObjOk H h a u
 | .tbl ps=>h.get? a=some { cls:=.none,data:=.fields ps }
 | .met f x=>h.get? a=some (PySem.W.methodObj (.ref f) (.ref x))
 | .ext φ=>φ h∧(∃ o,h.get? a=some o)∧∀ h1 h2:Heap,φ h1→(∀ o,h1.get? a=some o→h2.get? a=some o)→φ h2
noncomputable def HOk (H:Hp) (h:Heap):Prop:=∀ a o,H a=some o→ObjOk P w H h a o
end
section
variable {P:Program}{w:World}{H H':Hp}{h h':Heap}{a:Addr}{o:HO}
theorem ObjOk.lt (x:ObjOk P w H h a o):a < h.objs.size:=by
 cases o with
 | lst xs=>obtain ⟨_,_,_,_,e⟩:=x;exact Z5 e
 | tup xs=>obtain ⟨_,_,_,p⟩:=x;exact p.lt
 | dK kvs=>obtain ⟨_,_,_,_,o,_,_,e,_⟩:=x;exact Z5 e
 | dT kvs=>obtain ⟨_,_,_,_,o,_,_,e,_⟩:=x;exact Z5 e
 | set S n=>obtain ⟨o,_,_,_,e,_⟩:=x;exact Z5 e
 | ins C dx fs=>obtain ⟨_,_,_,e,_⟩:=x;exact Z5 e
 | own y=>obtain ⟨_,e⟩:=x;exact Z5 e
 | xd fs=>obtain ⟨_,⟨_,_,_,e,_⟩,_⟩:=x;exact Z5 e
 | rng lo hi=>obtain ⟨_,_,_,e⟩:=x;exact Z5 e
 | frz ob u=>obtain ⟨e,_⟩:=x;exact Z5 e
 | tbl ps=>exact Z5 (show h.get? a=some _ from x)
 | met f y=>exact Z5 (show h.get? a=some _ from x)
 | ext φ=>obtain ⟨_,⟨_,e⟩,_⟩:=x;exact Z5 e
theorem Paired.mapP {α β : Type}{F G : α→β→Prop}:∀ {l₁ : List α}{l₂ : List β},Paired F l₁ l₂→(∀ a b,F a b→G a b)→Paired G l₁ l₂
 | _,_,.nil,_=>.nil
 | _,_,.cons r t,f=>.cons (f _ _ r) (Paired.mapP t f)
theorem ObjOk.stay (x:ObjOk P w H h a o) (k:∀ b u,(b=a∨H b=some (.own a))→h.get? b=some u→h'.get? b=some u)
  (ho:∀ b,H b=some (.own a)→H' b=some (.own a)) (ht:∀ b xs,H b=some (.tup xs)→H' b=some (.tup xs)):ObjOk P w H' h' a o:=by
 induction o with
 | lst xs=>obtain ⟨z,its,n,r,e⟩:=x;exact ⟨z,its,n,r,k _ _ (.inl rfl) e⟩
 | tup xs=>obtain ⟨z,its,r,ob,e,c⟩:=x;exact ⟨z,its,r,ob,k _ _ (.inl rfl) e,c⟩
 | dK kvs=>obtain ⟨z,y,vs,r,ob,es,ep,e,c⟩:=x;exact ⟨z,y,vs,r,ob,es,ep,k _ _ (.inl rfl) e,c⟩
 | dT kvs =>
  obtain ⟨z,y,xs,r,ob,es,ep,e,c⟩:=x;exact ⟨z,y,xs,Paired.mapP r fun p q z=>⟨z.1,ht _ _ z.2.1,z.2.2⟩,ob,es,ep,k _ _ (.inl rfl) e,c⟩
 | set S n=>obtain ⟨ob,es,ep,t,e,c⟩:=x;exact ⟨ob,es,ep,t,k _ _ (.inl rfl) e,c⟩
 | ins C dx fs =>
  obtain ⟨d,z,ne,e,mA,⟨od,es,ep,e2,c⟩,r⟩:=x;exact ⟨ho _ d,z,ne,k _ _ (.inl rfl) e,mA,⟨od,es,ep,k _ _ (.inr d) e2,c⟩,r⟩
 | own y=>obtain ⟨ob,e⟩:=x;exact ⟨ob,k _ _ (.inl rfl) e⟩
 | xd fs=>obtain ⟨mA,⟨od,es,ep,e,c⟩,r⟩:=x;exact ⟨mA,⟨od,es,ep,k _ _ (.inl rfl) e,c⟩,r⟩
 | rng lo hi=>obtain ⟨t,u,v,e⟩:=x;exact ⟨t,u,v,k _ _ (.inl rfl) e⟩
 | frz ob u ih=>obtain ⟨e,q⟩:=x;exact ⟨k _ _ (.inl rfl) e,ih q⟩
 | tbl ps =>
  have e:h.get? a=some { cls:=.none,data:=.fields ps }:=x;show h'.get? a=some { cls:=.none,data:=.fields ps };exact k a _ (.inl rfl) e
 | met f y =>
  have e:h.get? a=some (PySem.W.methodObj (.ref f) (.ref y)):=x;show h'.get? a=some (PySem.W.methodObj (.ref f) (.ref y));exact k a _ (.inl rfl) e
 | ext φ=>obtain ⟨p,⟨o,e⟩,st⟩:=x;exact ⟨st _ _ p fun o q=>k _ _ (.inl rfl) q,⟨o,k _ _ (.inl rfl) e⟩,st⟩
theorem HOk.lt (x:HOk P w H h) (e:H a=some o):a < h.objs.size:=(x a o e).lt
theorem HOk.fresh (x:HOk P w H h) (e:h.objs.size≤a):H a=none:=by
 cases q:H a with
 | none=>rfl
 | some u=>exact absurd (Z7 (x.lt q) e) (Y0 _)
theorem HOk.kept (x:HOk P w H h) (k:∀ b u,h.get? b=some u→h'.get? b=some u):HOk P w H h':=fun a o e =>
 (x a o e).stay (fun b u _ q=>k b u q) (fun _ q=>q) fun _ _ q=>q
theorem HOk.laid (x:HOk P w H h) (k:∀ b u,h.get? b=some u→h'.get? b=some u) (hp:h.objs.size≤a) (new:ObjOk P w (upd H a o) h' a o):HOk P w (upd H a o) h':=fun b u e=>by
 have hn:=x.fresh hp;by_cases hb:b=a
 ·subst hb;rw [zA1] at e;cases e;exact new
 ·rw [zA6 hb] at e;exact (x b u e).stay (fun c v _ q=>k c v q) (fun c q=>by rw [zA6 (zA5 q hn)];exact q) fun c xs q=>by rw [zA6 (zA5 q hn)];exact q
end
noncomputable def Rd (H:Hp) (a:Addr) (u:HO):Prop:=H a=some u∨∃ o,H a=some (.frz o u)
theorem Rd.ok {P:Program}{w:World}{H:Hp}{h:Heap}{a:Addr}{u:HO} (r:Rd H a u) (x:HOk P w H h):ObjOk P w H h a u:=by
 rcases r with r | ⟨o,r⟩
 ·exact x a u r
 ·obtain ⟨_,q⟩:=x a _ r;exact q
noncomputable def Mut:Option HO→Prop
 | some (.lst _)=>True
 | some (.dK _)=>True
 | some (.dT _)=>True
 | some (.set _ _)=>True
 | some (.ins _ _ _)=>True
 | some (.ext _)=>True
 | _=>False
section
variable {P:Program}{w:World}{H:Hp}{h h':Heap}{x e:Addr}{o':HO}
theorem HOk.write (ok:HOk P w H h) (mu:Mut (H x)) (he:e=x∨H e=some (.own x)) (k:∀ b u,b≠e→h.get? b=some u→h'.get? b=some u) (heo:∃ u,h'.get? e=some u)
  (new:ObjOk P w (upd H x o') h' x o'):HOk P w (upd H x o') h':=fun b u q=>by
 have nown:∀ c y,H c=some (.own y)→c≠x:=fun c y r z=>by subst z;rw [r] at mu;exact mu
 have ntup:∀ c xs,H c=some (.tup xs)→c≠x:=fun c xs r z=>by subst z;rw [r] at mu;exact mu
 by_cases hb:b=x
 ·subst hb;rw [zA1] at q;cases q;exact new
 ·rw [zA6 hb] at q;by_cases hbe:b=e
  ·have q':H b=some (.own x):=by
    rcases he with z | z
    ·exact absurd (hbe.trans z) hb
    ·rw [hbe];exact z
   rw [q] at q';cases q';obtain ⟨v,hv⟩:=heo;exact ⟨v,by rw [hbe];exact hv⟩
  ·refine (ok b u q).stay (fun c v hc r=>k c v ?_ r) (fun c r=>by rw [zA6 (nown c b r)];exact r) fun c xs r=>by rw [zA6 (ntup c xs r)];exact r
   rcases hc with rfl | hc
   ·exact hbe
   ·rintro rfl;rcases he with z | z
    ·exact nown c b hc z
    ·rw [hc] at z;cases z;exact hb rfl
end
structure Un (fs ex:List Addr) (H H':Hp) (h h':Heap):Prop where
 keep:∀ b o,h.get? b=some o→H b=none→b∉fs→b∉ex→h'.get? b=some o
 slot:∀ b o,h.get? b=some o→H b=none→b∈fs→b∉ex→∃ sl,h'.get? b=some { o with slots:=sl }
 free:∀ b o,h.get? b=some o→H b=none→b∉ex→H' b=none
 there:∀ b o,h.get? b=some o→b∉ex→∃ o',h'.get? b=some o'
 tups:∀ b xs,H b=some (.tup xs)→H' b=some (.tup xs)
 frzs:∀ b o u,H b=some (.frz o u)→H' b=some (.frz o u)
 tbls:∀ b ps,H b=some (.tbl ps)→∃ more,H' b=some (.tbl (ps++more))
section
variable {fs fs' ex ex':List Addr}{H H1 H2:Hp}{h h1 h2 h':Heap}{a x e:Addr}{o:HO}
theorem Un.any (u:Un fs ex H H1 h h1) {b:Addr}{ob:Obj} (q:h.get? b=some ob) (n:H b=none) (hx:b∉ex):∃ sl,h1.get? b=some { ob with slots:=sl }:=by
 by_cases hb:b∈fs
 ·exact u.slot b ob q n hb hx
 ·exact ⟨ob.slots,u.keep b ob q n hb hx⟩
theorem Un.trans (a:Un fs ex H H1 h h1) (b:Un fs ex H1 H2 h1 h2):Un fs ex H H2 h h2 where
 keep:=fun c ob q n hc hx=>b.keep c ob (a.keep c ob q n hc hx) (a.free c ob q n hx) hc hx
 slot:=fun c ob q n hc hx=>by
  obtain ⟨sl,e1⟩:=a.slot c ob q n hc hx;obtain ⟨sl',e2⟩:=b.slot c _ e1 (a.free c ob q n hx) hc hx;exact ⟨sl',e2⟩
 free:=fun c ob q n hx=>by
  obtain ⟨o',e1⟩:=a.there c ob q hx;exact b.free c o' e1 (a.free c ob q n hx) hx
 there:=fun c ob q hx=>by
  obtain ⟨o',e1⟩:=a.there c ob q hx;exact b.there c o' e1 hx
 tups:=fun c xs q=>b.tups c xs (a.tups c xs q)
 frzs:=fun c ob xs q=>b.frzs c ob xs (a.frzs c ob xs q)
 tbls:=fun c ps q=>by
  obtain ⟨m1,e1⟩:=a.tbls c ps q;obtain ⟨m2,e2⟩:=b.tbls c _ e1;exact ⟨m1++m2,by rw [e2,Array.append_assoc]⟩
theorem Un.kept (k:∀ b u,h.get? b=some u→h'.get? b=some u):Un fs ex H H h h' :=
 ⟨fun b ob q _ _ _=>k b ob q,fun b ob q _ _ _=>⟨ob.slots,k b ob q⟩,fun _ _ _ n _=>n,fun b ob q _=>⟨ob,k b ob q⟩,fun _ _ q=>q,fun _ _ _ q=>q,fun _ ps q=>⟨#[],by rw [q];simp⟩⟩
theorem Un.refl:Un fs ex H H h h:=Un.kept fun _ _ q=>q
theorem Un.laid (k:∀ b u,h.get? b=some u→h'.get? b=some u) (hp:h.objs.size≤a) (hn:H a=none):Un fs ex H (upd H a o) h h' where
 keep:=fun b u q _ _ _=>k b u q
 slot:=fun b u q _ _ _=>⟨u.slots,k b u q⟩
 free:=fun b u q n _=>by rw [zA6 (Z9 (Z7 (Z5 q) hp))];exact n
 there:=fun b u q _=>⟨u,k b u q⟩
 tups:=fun b xs q=>by rw [zA6 (zA5 q hn)];exact q
 frzs:=fun b u xs q=>by rw [zA6 (zA5 q hn)];exact q
 tbls:=fun b ps q=>⟨#[],by rw [zA6 (zA5 q hn),q];simp⟩
theorem Un.write (mu:Mut (H x)) (he:e=x∨H e=some (.own x)) (k:∀ b u,b≠e→h.get? b=some u→h'.get? b=some u) (heo:∃ u,h'.get? e=some u):Un fs ex H (upd H x o) h h':=by
 have hx:∀ b,H b=none→b≠x:=fun b n z=>by subst z;rw [n] at mu;exact mu
 have hb:∀ b,H b=none→b≠e:=fun b n z=>by
  subst z;rcases he with r | r
  ·exact hx b n r
  ·rw [n] at r;cases r
 have hm:∀ b u,H b=some u→¬ Mut (some u)→b≠x:=fun b u q nm z=>by subst z;rw [q] at mu;exact nm mu
 refine ⟨fun b u q n _ _=>k b u (hb b n) q,fun b u q n _ _=>⟨u.slots,k b u (hb b n) q⟩,fun b u q n _=>by rw [zA6 (hx b n)];exact n,fun b u q _=>?_,
  fun b xs q=>by rw [zA6 (hm b _ q fun z=>z)];exact q,fun b u xs q=>by rw [zA6 (hm b _ q fun z=>z)];exact q,fun b ps q=>⟨#[],by rw [zA6 (hm b _ q fun z=>z),q];simp⟩⟩
 by_cases hbe:b=e
 ·subst hbe;exact heo
 ·exact ⟨u,k b u hbe q⟩
end
noncomputable def trk (h:Heap) (H:Hp):List Addr:=(List.range h.objs.size).filter fun a=>(H a).isSome
noncomputable def hidT (h:Heap) (H:Hp):Heap:=PySem.W.hideAll h (trk h H)
theorem hidT_size (h:Heap) (H:Hp):(hidT h H).objs.size=h.objs.size:=PySem.W.hideAll_size _ _
theorem hidT_get {h:Heap}{H:Hp}{b:Addr}{o:Obj} (e:h.get? b=some o) (n:H b=none):(hidT h H).get? b=some o :=
 PySem.W.hideAll_get _ e fun hm=>by
  have q:(H b).isSome=true:=(List.mem_filter.mp hm).2;rw [n] at q;simp at q
theorem of_hidT {h:Heap}{H:Hp}{b:Addr}{o:Obj} (e:(hidT h H).get? b=some o):h.get? b=some o∧H b=none:=by
 have e':h.get? b=some o:=PySem.W.of_hideAll (trk h H) e;refine ⟨e',?_⟩;cases q:H b with
 | none=>rfl
 | some x =>
  have hm:b∈trk h H:=List.mem_filter.mpr ⟨List.mem_range.mpr (Z5 e'),by simp [q]⟩;have z:(hidT h H).get? b=none:=PySem.W.hideAll_none (trk h H) hm;rw [z] at e;cases e
noncomputable def allNews (g h:Heap) (L:Addr):List (Addr×Obj):=(List.range h.objs.size).filterMap fun a=>if a=L∨(g.get? a).isSome=true then none else (h.get? a).map fun o=>(a,o)
noncomputable def rest (g h:Heap) (L d:Addr):List (Addr×Obj):=(allNews g h L).filter fun p=>decide (p.1≠d)
end L2
namespace L2
open PySem PySem.Spec PyProof.Rows
structure Mod (K:PySem.W.Frag) (mg:Str→Option Value) (base:Heap):Prop where
 kin:K.In base
 glob:base.Ns mainGlobals mg
 blt:∃ mb,base.Ns builtinsNs mb∧∀ x:Str,x≠"__name__"→mb x=bootBuiltins x
 nolimit:base.NoLimit
structure Cx where
 prog:Program
 w:World
 K:PySem.W.Frag
 mg:Str→Option Value
 base:Heap
 A:Around
 N:List Str
 s₀ : Shared
 H₀ : Hp
 env:Env
 outer:List Env
 stack:List Env
 ex:List Addr
 fn:Str→Bool
 calm:Bool
 pn:List (Addr×Obj)
 xe:Value→Shared→Prop
noncomputable def frs (l:List Env):List Addr:=l.filterMap (·.frame)
noncomputable abbrev Cx.fs (X:Cx):List Addr:=frs X.outer
noncomputable def Vis (sc:Scope) (x:Str):Prop:=sc.names.lookup x=some .local∨sc.names.lookup x=some .cell∨sc.names.lookup x=some .free
noncomputable def Loc (sc:Scope) (x:Str):Prop:=sc.names.lookup x=some .local∨sc.names.lookup x=some .cell
noncomputable def Look (env:Env) (h:Heap) (m:Str→Option Value) (x:Str) (u:Value):Prop :=
 (env.kindOf x=some .local∧m x=some u)∨((env.kindOf x=some .cell∨env.kindOf x=some .free)∧∃ c,env.cells.lookup x=some c∧h.IsCell c (some u))
structure Cx.Ok (X:Cx):Prop where
 mod:Mod X.K X.mg X.base
 kind:X.env.scope.kind=.function
 glob:X.env.globals=mainGlobals
 blt:X.env.builtins=builtinsNs
 above:X.s₀.heap.objs.size≤X.env.locals
 inj:∀ x y c,X.env.cells.lookup x=some c→X.env.cells.lookup y=some c→x=y
 has:∀ x,(X.env.kindOf x=some .cell∨X.env.kindOf x=some .free)→∃ c,X.env.cells.lookup x=some c
 cab:∀ x c,X.fn x=true→X.env.cells.lookup x=some c→X.s₀.heap.objs.size≤c
 hd:X.calm=true→X.A.handled=none
 frames:X.A.frames=some X.stack
 stk:X.stack=X.outer∨(X.stack=X.env :: X.outer∧X.env.frame=some X.env.locals)
 exf:∀ b∈X.ex,b≠X.env.locals∧∀ x c,X.env.cells.lookup x=some c→c≠b
 bs:∀ b o,X.base.get? b=some o→X.s₀.heap.get? b=some o∧X.H₀ b=none
 bsz:X.base.objs.size≤X.s₀.heap.objs.size
 noex:∀ b o,X.base.get? b=some o→b∉X.ex
 exfs:∀ b∈X.ex,b∉X.fs
 funs:X.s₀.heap.FunFrames X.base X.outer
 frf:∀ b∈X.fs,X.H₀ b=none
structure Inv (X:Cx) (pins:List (Addr×Obj)) (σ : List (Option V)) (H:Hp) (s:Shared):Prop where
 ok:X.Ok
 os:s.os=X.s₀.os
 bare:AllBare s.gens
 base:Un X.fs X.ex X.H₀ H X.s₀.heap s.heap
 loc:∃ m,s.heap.Ns X.env.locals m∧∀ (i:Nat) (x:Str) (v:V),X.N[i]? = some x→σ[i]? = some (some v)→Vis X.env.scope x→∃ u,RelV v u∧Look X.env s.heap m x u
 cell:∀ x c,X.env.cells.lookup x=some c→∃ v,s.heap.IsCell c v
 free:H X.env.locals=none
 freeC:∀ x c,X.env.cells.lookup x=some c→H c=none
 pin:∀ p∈X.pn++pins,s.heap.get? p.1=some p.2∧H p.1=none∧p.1≠X.env.locals∧p.1∉X.fs∧∀ v,p.2.data≠.cell v
 hok:HOk X.prog X.w H s.heap
 len : σ.length=X.N.length
section
variable {X:Cx}{pins:List (Addr×Obj)}{σ : List (Option V)}{H H':Hp}{s:Shared}{h':Heap}
theorem Cx.Ok.nofr (ok:X.Ok) {b:Addr}{o:Obj} (e:X.base.get? b=some o):b∉X.fs:=fun hb=>by
 have:=(ok.funs.mem hb).1;rw [e] at this;cases this
theorem Inv.bs (I:Inv X pins σ H s):∀ b o,X.base.get? b=some o→s.heap.get? b=some o∧H b=none:=fun b o e =>
 ⟨I.base.keep b o (I.ok.bs b o e).1 (I.ok.bs b o e).2 (I.ok.nofr e) (I.ok.noex b o e),I.base.free b o (I.ok.bs b o e).1 (I.ok.bs b o e).2 (I.ok.noex b o e)⟩
theorem Inv.bk (I:Inv X pins σ H s):∀ b o,X.base.get? b=some o→s.heap.get? b=some o:=fun b o e=>(I.bs b o e).1
theorem Inv.mod (I:Inv X pins σ H s):Mod X.K X.mg X.base:=I.ok.mod
theorem Inv.kIn (I:Inv X pins σ H s):X.K.In s.heap:=I.ok.mod.kin.keeps I.bk
theorem Inv.nolimit (I:Inv X pins σ H s):s.heap.NoLimit:=I.ok.mod.nolimit.keeps I.bk
theorem Inv.lt (I:Inv X pins σ H s):X.env.locals < s.heap.objs.size:=let ⟨_,hn,_⟩:=I.loc;hn.lt
theorem Inv.sz (I:Inv X pins σ H s):X.s₀.heap.objs.size≤s.heap.objs.size:=Za I.ok.above (Zd I.lt)
theorem Inv.nofs (I:Inv X pins σ H s) {a:Addr} (h:s.heap.objs.size≤a):a∉X.fs:=fun hb=>by
 obtain ⟨_,o,ho,_⟩:=I.ok.funs.mem hb;exact absurd (Z7 (Z5 ho) (Za I.sz h)) (Y0 _)
theorem Inv.cne (I:Inv X pins σ H s):∀ x c,X.env.cells.lookup x=some c→c≠X.env.locals:=fun x c e z=>by
 obtain ⟨v,o,ho,hd⟩:=I.cell x c e;obtain ⟨m,⟨o',es,ep,ho',hd',_⟩,_⟩:=I.loc;rw [z,ho'] at ho;cases ho;rw [hd'] at hd;cases hd
theorem Inv.funs (I:Inv X pins σ H s):s.heap.FunFrames X.base X.outer:=by
 have all:∀ (l:List Env),(∀ b∈frs l,b∈X.fs)→X.s₀.heap.FunFrames X.base l→s.heap.FunFrames X.base l:=by
  intro l
  induction l with
  | nil=>intro _ _;trivial
  | cons env r ih =>
   intro hs hl;obtain ⟨hk,⟨L,o,hf,hn,ho,hd⟩,hr⟩:=hl;have hL:L∈X.fs:=hs L (by unfold frs;rw [Y1,hf];exact Zn);obtain ⟨sl,e⟩:=I.base.slot L o ho (I.ok.frf L hL) hL fun z=>I.ok.exfs L z hL;exact ⟨hk,⟨L,_,hf,hn,e,hd⟩,ih (fun b hb=>hs b (by unfold frs;rw [Y1,hf];exact Zb _ hb)) hr⟩
 exact all X.outer (fun _ hb=>hb) I.ok.funs
theorem Inv.stack (I:Inv X pins σ H s):s.heap.FunFrames X.base X.stack:=by
 rcases I.ok.stk with e | ⟨e,hf⟩
 ·rw [e];exact I.funs
 ·rw [e];obtain ⟨m,hn,_⟩:=I.loc;refine .cons (by rw [I.ok.kind];decide) hf hn ?_ I.funs;exact Y4 (Za I.ok.bsz I.ok.above)
theorem Inv.stkSub (I:Inv X pins σ H s):∀ b∈frs X.stack,b∈X.env.locals :: X.fs:=fun b hb=>by
 rcases I.ok.stk with e | ⟨e,hf⟩
 ·rw [e] at hb;exact Zb _ hb
 ·rw [e] at hb;unfold frs at hb;rw [Y1,hf] at hb;exact hb
theorem Inv.stkFree (I:Inv X pins σ H s):∀ b∈frs X.stack,H b=none:=fun b hb=>by
 rcases List.mem_cons.mp (I.stkSub b hb) with e | hb
 ·rw [e];exact I.free
 ·obtain ⟨_,o,ho,_⟩:=I.ok.funs.mem hb;exact I.base.free b o ho (I.ok.frf b hb) fun z=>I.ok.exfs b z hb
theorem Inv.step {g':Array GenState}{t':Nat}{d':Drawn}{ch:List Addr} (I:Inv X pins σ H s)
  (hch:∀ b∈ch,(b∈X.ex∨X.s₀.heap.get? b=none)∧b≠X.env.locals∧(∀ x c,X.env.cells.lookup x=some c→c≠b)∧∀ p∈X.pn++pins,p.1≠b)
  (keep:∀ b o,b≠X.env.locals→b∉X.fs→b∉ch→s.heap.get? b=some o→H b=none→h'.get? b=some o)
  (slot:∀ b o,b≠X.env.locals→b∈X.fs→b∉ch→s.heap.get? b=some o→H b=none→∃ sl,h'.get? b=some { o with slots:=sl }) (free:∀ b o,b∉ch→s.heap.get? b=some o→H b=none→H' b=none)
  (there:∀ b o,b∉ch→s.heap.get? b=some o→∃ o',h'.get? b=some o')
  (tups:∀ b xs,H b=some (.tup xs)→H' b=some (.tup xs)) (frzs:∀ b o u,H b=some (.frz o u)→H' b=some (.frz o u)) (tbls:∀ b ps,H b=some (.tbl ps)→∃ more,H' b=some (.tbl (ps++more)))
  (ns:∀ m,s.heap.Ns X.env.locals m→h'.Ns X.env.locals m) (hok:HOk X.prog X.w H' h') (hg:AllBare g') :
  Inv X pins σ H' { s with heap:=h',gens:=g',drawn:=d',toks:=t' }:=by
 have neL:∀ b o,X.s₀.heap.get? b=some o→b≠X.env.locals:=fun b o e=>Z9 (Z7 (Z5 e) I.ok.above);have neC:∀ b o,X.s₀.heap.get? b=some o→b∉X.ex→b∉ch:=fun b o e hx hb=>by
  rcases (hch b hb).1 with z | z
  ·exact hx z
  ·rw [z] at e;cases e
 have cellK:∀ x c,X.env.cells.lookup x=some c→∀ v,s.heap.IsCell c v→h'.IsCell c v:=fun x c e v ⟨o,ho,hd⟩=>by
  have nch:c∉ch:=fun z=>(hch c z).2.2.1 x c e rfl;by_cases hc:c∈X.fs
  ·obtain ⟨sl,q⟩:=slot c o (I.cne x c e) hc nch ho (I.freeC x c e);exact ⟨_,q,hd⟩
  ·exact ⟨o,keep c o (I.cne x c e) hc nch ho (I.freeC x c e),hd⟩
 refine ⟨I.ok,I.os,hg,⟨fun b o e n hb hx=>?_,fun b o e n hb hx=>?_,fun b o e n hx=>?_,fun b o e hx=>?_,fun b xs e=>tups b xs (I.base.tups b xs e),fun b o xs e=>frzs b o xs (I.base.frzs b o xs e),fun b ps e=>?_⟩,?_,fun x c e=>?_,?_,fun x c e=>?_,fun p hp=>?_,hok,I.len⟩
 ·exact keep b o (neL b o e) hb (neC b o e hx) (I.base.keep b o e n hb hx) (I.base.free b o e n hx)
 ·obtain ⟨sl,e1⟩:=I.base.slot b o e n hb hx;obtain ⟨sl',e2⟩:=slot b _ (neL b o e) hb (neC b o e hx) e1 (I.base.free b o e n hx);exact ⟨sl',e2⟩
 ·obtain ⟨o',e1⟩:=I.base.there b o e hx;exact free b o' (neC b o e hx) e1 (I.base.free b o e n hx)
 ·obtain ⟨o',e1⟩:=I.base.there b o e hx;exact there b o' (neC b o e hx) e1
 ·obtain ⟨m1,e1⟩:=I.base.tbls b ps e;obtain ⟨m2,e2⟩:=tbls b _ e1;exact ⟨m1++m2,by rw [e2,Array.append_assoc]⟩
 ·obtain ⟨m,hn,hl⟩:=I.loc;refine ⟨m,ns m hn,fun i x v e1 e2 e3=>?_⟩;obtain ⟨u,r,l⟩:=hl i x v e1 e2 e3;refine ⟨u,r,?_⟩;rcases l with l | ⟨k,c,e,z⟩
  ·exact .inl l
  ·exact .inr ⟨k,c,e,cellK x c e _ z⟩
 ·obtain ⟨v,z⟩:=I.cell x c e;exact ⟨v,cellK x c e v z⟩
 ·obtain ⟨m,⟨o,_,_,ho,_⟩,_⟩:=I.loc;exact free _ o (fun z=>(hch _ z).2.1 rfl) ho I.free
 ·obtain ⟨v,o,ho,hd⟩:=I.cell x c e;exact free c o (fun z=>(hch c z).2.2.1 x c e rfl) ho (I.freeC x c e)
 ·obtain ⟨e,n,ne,nf,d⟩:=I.pin p hp;have nch:p.1∉ch:=fun z=>(hch p.1 z).2.2.2 p hp rfl;exact ⟨keep p.1 p.2 ne nf nch e n,free p.1 p.2 nch e n,ne,nf,d⟩
theorem Inv.un {t':Nat} (I:Inv X pins σ H s) (u:Un X.fs [] H H' s.heap h') (hok:HOk X.prog X.w H' h'):Inv X pins σ H' { s with heap:=h',toks:=t' }:=by
 obtain ⟨m,⟨o,es,ep,ho,r⟩,_⟩:=id I.loc;obtain ⟨sl,hL⟩:=u.any ho I.free (by simp)
 exact I.step (g':=s.gens) (d':=s.drawn) (ch:=[]) (fun _ z=>nomatch z) (fun b o _ hb _ e n=>u.keep b o e n hb (by simp)) (fun b o _ hb _ e n=>u.slot b o e n hb (by simp)) (fun b o _ e n=>u.free b o e n (by simp)) (fun b o _ e=>u.there b o e (by simp)) u.tups u.frzs u.tbls (fun m' hm=>by
  obtain ⟨o',es',ep',ho',r'⟩:=hm;rw [ho] at ho';cases ho'
  exact ⟨_,es',ep',hL,r'⟩) hok I.bare
theorem Inv.call {g':Array GenState}{t':Nat}{d':Drawn}{ch:List Addr} (I:Inv X pins σ H s) (u:Un (frs X.stack) ch H H' s.heap h') (hok:HOk X.prog X.w H' h') (hg:AllBare g')
  (hch:∀ b∈ch,(b∈X.ex∨X.s₀.heap.objs.size≤b)∧b≠X.env.locals∧(∀ x c,X.env.cells.lookup x=some c→c≠b)∧∀ p∈X.pn++pins,p.1≠b) :
  Inv X pins σ H' { s with heap:=h',gens:=g',drawn:=d',toks:=t' }:=by
 obtain ⟨m,⟨o,es,ep,ho,r⟩,_⟩:=id I.loc;obtain ⟨sl,hL⟩:=u.any ho I.free fun z=>(hch _ z).2.1 rfl
 exact I.step (ch:=ch) (fun b hb=>⟨(hch b hb).1.imp_right fun z=>Y4 z,(hch b hb).2⟩) (fun b o hL hb hc e n=>u.keep b o e n (fun z=>(List.mem_cons.mp (I.stkSub b z)).elim hL hb) hc) (fun b o _ _ hc e n=>u.any e n hc) (fun b o hc e n=>u.free b o e n hc) (fun b o hc e=>u.there b o e hc) u.tups u.frzs u.tbls (fun m' hm=>by
  obtain ⟨o',es',ep',ho',r'⟩:=hm;rw [ho] at ho';cases ho'
  exact ⟨_,es',ep',hL,r'⟩) hok hg
theorem Inv.turned {t':Nat}{it:Addr} (I:Inv X pins σ H s) (k:∀ b o,b≠it→s.heap.get? b=some o→h'.get? b=some o) (hn:H it=none) (hL:it≠X.env.locals)
  (h1:it∈X.ex∨X.s₀.heap.objs.size≤it) (h2:∀ x c,X.env.cells.lookup x=some c→c≠it) (h3:∀ p∈X.pn++pins,p.1≠it):Inv X pins σ H { s with heap:=h',toks:=t' }:=by
 have nit:∀ b u,H b=some u→b≠it:=fun b u e z=>by rw [z,hn] at e;cases e
 refine I.step (g':=s.gens) (d':=s.drawn) (ch:=[it]) (fun b hb=>?_) (fun b o _ _ hc e _=>k b o (fun z=>hc (by simp [z])) e) (fun b o _ _ hc e _=>⟨o.slots,k b o (fun z=>hc (by simp [z])) e⟩) (fun _ _ _ _ n=>n)
  (fun b o hc e=>⟨o,k b o (fun z=>hc (by simp [z])) e⟩) (fun _ _ e=>e) (fun _ _ _ e=>e) (fun b ps e=>⟨#[],by rw [e];simp⟩) (fun m hm=>?_) (fun b u e=>?_) I.bare
 ·have e:b=it:=by simpa using hb
  subst e;exact ⟨h1.imp_right fun z=>Y4 z,hL,h2,h3⟩
 ·obtain ⟨o,es,ep,ho,r⟩:=hm;exact ⟨o,es,ep,k _ o (Ne.symm hL) ho,r⟩
 ·refine (I.hok b u e).stay (fun c v hc q=>k c v ?_ q) (fun _ q=>q) fun _ _ q=>q;rcases hc with z | z
  ·rw [z];exact nit b u e
  ·exact nit c _ z
theorem Inv.tok (I:Inv X pins σ H s) (t:Nat):Inv X pins σ H { s with toks:=t }:=I.un (h':=s.heap) (t':=t) Un.refl I.hok
theorem Inv.kept {t':Nat} (I:Inv X pins σ H s) (k:∀ b u,s.heap.get? b=some u→h'.get? b=some u):Inv X pins σ H { s with heap:=h',toks:=t' }:=I.un (Un.kept k) (I.hok.kept k)
theorem Inv.laid {a:Addr}{o:HO}{t':Nat} (I:Inv X pins σ H s) (k:∀ b u,s.heap.get? b=some u→h'.get? b=some u) (hp:s.heap.objs.size≤a) (new:ObjOk X.prog X.w (upd H a o) h' a o) :
  Inv X pins σ (upd H a o) { s with heap:=h',toks:=t' }:=I.un (Un.laid k hp (I.hok.fresh hp)) (I.hok.laid k hp new)
theorem Inv.write {x e:Addr}{o:HO}{t':Nat} (I:Inv X pins σ H s) (mu:Mut (H x)) (he:e=x∨H e=some (.own x)) (k:∀ b u,b≠e→s.heap.get? b=some u→h'.get? b=some u) (heo:∃ u,h'.get? e=some u)
  (new:ObjOk X.prog X.w (upd H x o) h' x o):Inv X pins σ (upd H x o) { s with heap:=h',toks:=t' }:=I.un (Un.write mu he k heo) (I.hok.write mu he k heo new)
theorem Inv.pins_of {pins':List (Addr×Obj)} (I:Inv X pins σ H s) (h:∀ p∈pins',s.heap.get? p.1=some p.2∧H p.1=none∧p.1≠X.env.locals∧p.1∉X.fs∧∀ v,p.2.data≠.cell v):Inv X pins' σ H s :=
 ⟨I.ok,I.os,I.bare,I.base,I.loc,I.cell,I.free,I.freeC,fun p hp=>(List.mem_append.mp hp).elim (fun z=>I.pin p (Yb _ z)) (h p),I.hok,I.len⟩
theorem nodup_ix {N:List Str} (hN:N.Nodup) {i j:Nat}{x:Str} (a:N[i]? = some x) (b:N[j]? = some x):i=j:=by
 obtain ⟨h1,e1⟩:=List.getElem?_eq_some_iff.mp a;obtain ⟨h2,e2⟩:=List.getElem?_eq_some_iff.mp b;exact (List.getElem_inj hN).mp (e1.trans e2.symm)
theorem store_ok2 {M:Model}{A:Around}{E:Value→Shared→Prop}{i:Nat}{x:Str}{v:V}{u:Value}{Q:Unit→Shared→Prop} (I:Inv X pins σ H s) (hN:X.N.Nodup) (hi:X.N[i]? = some x) (hx:Loc X.env.scope x) (r:RelV v u)
  (h:∀ s',Inv X pins (σ.set i (some v)) H s'→(∃ a,Heap.SameBut a s.heap s'.heap∧(a=X.env.locals∨X.env.cells.lookup x=some a))→Q () s') (hf:X.fn x=true∨X.env.scope.names.lookup x=some .local:=by first | exact .inl rfl | exact .inr rfl | assumption):wpAny M A (storeName X.env x u) Q E s:=by
 obtain ⟨m,hn,hl⟩:=id I.loc;have hcls:(X.env.scope.kind == .class || (X.env.scope.kind == .module && X.env.locals != X.env.globals))=false:=by rw [I.ok.kind];rfl
 have hiσ : i < σ.length:=by rw [I.len];exact (List.getElem?_eq_some_iff.mp hi).1
 have cne:=I.cne;have tracked:∀ {a:Addr}{h':Heap},(∃ o,s.heap.get? a=some o∧H a=none)→Heap.SameBut a s.heap h'→HOk X.prog X.w H h':=fun {a h'} ha hs b ob e=>by
  obtain ⟨_,_,hfree⟩:=ha;refine (I.hok b ob e).stay (fun c w' hc q=>(hs.2 c ?_).trans q) (fun _ q=>q) fun _ _ q=>q;rintro rfl;rcases hc with rfl | hc
  ·rw [hfree] at e;cases e
  ·rw [hfree] at hc;cases hc
 rcases hx with hk | hk
 ·refine wpAny_storeName_local hk hn (fun h' hn' hs=>?_) hcls;obtain ⟨oL,_,_,hoL,_⟩:=id hn;refine h _ ⟨I.ok,I.os,I.bare,⟨fun b o e n hb hx=>?_,fun b o e n hb hx=>?_,I.base.free,fun b o e hx=>?_,I.base.tups,I.base.frzs,I.base.tbls⟩,⟨_,hn',fun j y v' e1 e2 e3=>?_⟩,fun y c e=>?_,I.free,I.freeC,fun p hp=>?_,tracked ⟨oL,hoL,I.free⟩ hs,by simpa using I.len⟩ ⟨_,hs,.inl rfl⟩
  ·exact (hs.2 b (Z9 (Z7 (Z5 e) I.ok.above))).trans (I.base.keep b o e n hb hx)
  ·obtain ⟨sl,e1⟩:=I.base.slot b o e n hb hx;exact ⟨sl,(hs.2 b (Z9 (Z7 (Z5 e) I.ok.above))).trans e1⟩
  ·obtain ⟨o',e1⟩:=I.base.there b o e hx;exact ⟨o',(hs.2 b (Z9 (Z7 (Z5 e) I.ok.above))).trans e1⟩
  ·by_cases hj:j=i
   ·subst hj;rw [hi] at e1;cases e1;rw [List.getElem?_set_self hiσ] at e2;cases e2;exact ⟨u,r,.inl ⟨hk,by simp⟩⟩
   ·rw [List.getElem?_set_ne (Ne.symm hj)] at e2;obtain ⟨u',r',q⟩:=hl j y v' e1 e2 e3;refine ⟨u',r',?_⟩;rcases q with ⟨k,e⟩ | ⟨k,c,e,z⟩
    ·refine .inl ⟨k,?_⟩;have:y≠x:=fun e=>hj (nodup_ix hN e1 (e ▸ hi));simp [this,e]
    ·exact .inr ⟨k,c,e,z.sameBut hs (cne y c e)⟩
  ·obtain ⟨w',z⟩:=I.cell y c e;exact ⟨w',z.sameBut hs (cne y c e)⟩
  ·obtain ⟨e,n,ne,nf,d⟩:=I.pin p hp;exact ⟨(hs.2 p.1 ne).trans e,n,ne,nf,d⟩
 ·have hfn:X.fn x=true:=by
   rcases hf with z | z
   ·exact z
   ·rw [z] at hk;cases hk
  obtain ⟨c,hc⟩:=I.ok.has x (.inl hk);obtain ⟨w',z⟩:=I.cell x c hc;refine wpAny_storeName_cell I.ok.kind hk hc z (fun h' hc' hs=>?_);obtain ⟨oc,hoc,hocd⟩:=id z;refine h { s with heap:=h' } ⟨I.ok,I.os,I.bare,⟨fun b o e n hb hx=>?_,fun b o e n hb hx=>?_,I.base.free,fun b o e hx=>?_,I.base.tups,I.base.frzs,I.base.tbls⟩,⟨m,hn.sameBut hs (Ne.symm (cne x c hc)),fun j y v' e1 e2 e3=>?_⟩,fun y c' e=>?_,I.free,I.freeC,fun p hp=>?_,tracked ⟨oc,hoc,I.freeC x c hc⟩ hs,by simpa using I.len⟩ ⟨c,hs,.inr hc⟩
  ·exact (hs.2 b (Z9 (Z7 (Z5 e) (I.ok.cab x c hfn hc)))).trans (I.base.keep b o e n hb hx)
  ·obtain ⟨sl,e1⟩:=I.base.slot b o e n hb hx;exact ⟨sl,(hs.2 b (Z9 (Z7 (Z5 e) (I.ok.cab x c hfn hc)))).trans e1⟩
  ·obtain ⟨o',e1⟩:=I.base.there b o e hx;exact ⟨o',(hs.2 b (Z9 (Z7 (Z5 e) (I.ok.cab x c hfn hc)))).trans e1⟩
  ·by_cases hj:j=i
   ·subst hj;rw [hi] at e1;cases e1;rw [List.getElem?_set_self hiσ] at e2;cases e2;exact ⟨u,r,.inr ⟨.inl hk,c,hc,hc'⟩⟩
   ·rw [List.getElem?_set_ne (Ne.symm hj)] at e2;obtain ⟨u',r',q⟩:=hl j y v' e1 e2 e3;refine ⟨u',r',?_⟩;rcases q with q | ⟨k,c',e,z'⟩
    ·exact .inl q
    ·refine .inr ⟨k,c',e,z'.sameBut hs ?_⟩;rintro rfl;exact hj (nodup_ix hN e1 (I.ok.inj _ _ _ e hc ▸ hi))
  ·by_cases hcc:c'=c
   ·subst hcc;exact ⟨_,hc'⟩
   ·obtain ⟨w2,z2⟩:=I.cell y c' e;exact ⟨w2,z2.sameBut hs hcc⟩
  ·obtain ⟨e,n,ne,nf,d⟩:=I.pin p hp;refine ⟨(hs.2 p.1 ?_).trans e,n,ne,nf,d⟩;intro q;rw [q,hoc] at e;have q':oc=p.2:=Zh e;exact d w' (by rw [← q'];exact hocd)
theorem store_ok {M:Model}{A:Around}{E:Value→Shared→Prop}{i:Nat}{x:Str}{v:V}{u:Value}{Q:Unit→Shared→Prop} (I:Inv X pins σ H s) (hN:X.N.Nodup) (hi:X.N[i]? = some x) (hx:Loc X.env.scope x) (r:RelV v u)
  (h:∀ s',Inv X pins (σ.set i (some v)) H s'→Q () s') (hf:X.fn x=true∨X.env.scope.names.lookup x=some .local:=by first | exact .inl rfl | exact .inr rfl | assumption):wpAny M A (storeName X.env x u) Q E s :=
 store_ok2 I hN hi hx r (fun s' I' _=>h s' I') hf
theorem Inv.call' {s':Shared}{ch:List Addr} (I:Inv X pins σ H s) (ho:s'.os=s.os) (u:Un (frs X.stack) ch H H' s.heap s'.heap) (hok:HOk X.prog X.w H' s'.heap) (hg:AllBare s'.gens)
  (hch:∀ b∈ch,(b∈X.ex∨X.s₀.heap.objs.size≤b)∧b≠X.env.locals∧(∀ x c,X.env.cells.lookup x=some c→c≠b)∧∀ p∈X.pn++pins,p.1≠b):Inv X pins σ H' s':=by
 obtain ⟨h',g',d',t',o'⟩:=s';have e:o'=s.os:=ho;subst e;exact I.call (g':=g') (t':=t') (d':=d') u hok hg hch
end
noncomputable abbrev XK:=Value→Option Addr→Hp→Prop
noncomputable abbrev St:=List (Option V)
noncomputable abbrev VK:=V→Hp→Prop
noncomputable abbrev TE:=St→Hp→VK→Prop
noncomputable abbrev TT:=St→Hp→(Bool→Hp→Prop)→Prop
noncomputable abbrev TA:=St→Hp→(List V→Hp→Prop)→Prop
structure Ends where
 nx:St→Hp→Prop
 rt:VK
 bk:St→Hp→Prop:=fun _ _=>False
 ct:St→Hp→Prop:=fun _ _=>False
noncomputable abbrev TS:=Ends→St→Hp→Prop
noncomputable def EP (X:Cx) (pins:List (Addr×Obj)) (σ : St) (Q:VK) (u:Value) (s':Shared):Prop:=∃ v H',Inv X pins σ H' s'∧RelV v u∧Q v H'
noncomputable def TP (X:Cx) (pins:List (Addr×Obj)) (σ : St) (Q:Bool→Hp→Prop) (b:Bool) (s':Shared):Prop:=∃ H',Inv X pins σ H' s'∧Q b H'
noncomputable def AP (X:Cx) (pins:List (Addr×Obj)) (σ : St) (Q:List V→Hp→Prop) (us:List Value) (s':Shared):Prop:=∃ vs H',Inv X pins σ H' s'∧Vals vs us∧Q vs H'
noncomputable def SP (X:Cx) (pins:List (Addr×Obj)) (D:Ends) (f:Flow) (s':Shared):Prop :=
 match f with
 | .next=>∃ σ' H',Inv X pins σ' H' s'∧D.nx σ' H'
 | .brk=>∃ σ' H',Inv X pins σ' H' s'∧D.bk σ' H'
 | .cont=>∃ σ' H',Inv X pins σ' H' s'∧D.ct σ' H'
 | .ret u=>∃ v σ' H',Inv X pins σ' H' s'∧RelV v u∧D.rt v H'
noncomputable def PE (X:Cx) (e:Expr) (t:TE):Prop :=
 ∀ (pins:List (Addr×Obj)) (s:Shared) (σ : St) (H:Hp) (Q:VK),Inv X pins σ H s→t σ H Q→wpAny (model X.prog X.w) X.A (eval e X.env) (EP X pins σ Q) X.xe s
noncomputable def PT (X:Cx) (e:Expr) (t:TT):Prop :=
 ∀ (pins:List (Addr×Obj)) (s:Shared) (σ : St) (H:Hp) (Q:Bool→Hp→Prop),Inv X pins σ H s→t σ H Q→wpAny (model X.prog X.w) X.A (isTrue e X.env (eval e X.env)) (TP X pins σ Q) X.xe s
noncomputable def PW (X:Cx) (e:Expr) (t:TT):Prop :=
 ∀ (whole:Sem Value) (pins:List (Addr×Obj)) (s:Shared) (σ : St) (H:Hp) (Q:Bool→Hp→Prop),Inv X pins σ H s→t σ H Q→wpAny (model X.prog X.w) X.A (isTrue e X.env whole) (TP X pins σ Q) X.xe s
theorem PW.pt {X:Cx}{e:Expr}{t:TT} (h:PW X e t):PT X e t:=h _
noncomputable def PA (X:Cx) (es:List Expr) (t:TA):Prop :=
 ∀ (pos:Pos) (pins:List (Addr×Obj)) (s:Shared) (σ : St) (H:Hp) (Q:List V→Hp→Prop),Inv X pins σ H s→t σ H Q→wpAny (model X.prog X.w) X.A (spliced (backTo pos (starEach es X.env))) (AP X pins σ Q) X.xe s
noncomputable def PS (X:Cx) (st:Stmt) (t:TS):Prop :=
 ∀ (pins:List (Addr×Obj)) (s:Shared) (σ : St) (H:Hp) (D:Ends),Inv X pins σ H s→t D σ H→wpAny (model X.prog X.w) X.A (exec st X.env) (SP X pins D) X.xe s
noncomputable def PSs (X:Cx) (st:List Stmt) (t:TS):Prop :=
 ∀ (pins:List (Addr×Obj)) (s:Shared) (σ : St) (H:Hp) (D:Ends),Inv X pins σ H s→t D σ H→wpAny (model X.prog X.w) X.A (execs st X.env) (SP X pins D) X.xe s
theorem thn {α : Type}{t:Sem α}{Q Q' : α→Shared→Prop}{M:Model}{A:Around}{E:Value→Shared→Prop}{s:Shared} (h:wpAny M A t Q E s) (hQ:∀ a s,Q a s→Q' a s):wpAny M A t Q' E s:=wpAny_mono h hQ fun _ _ x=>x
end L2
namespace L2
open PySem PySem.Spec PyProof.Rows
section
variable {X:Cx}
theorem bin {a b:Expr}{ta tb:TE} (ha:PE X a ta) (hb:PE X b tb) {pins:List (Addr×Obj)}{s:Shared}{σ : St}{H:Hp}{R:V→V→Hp→Prop} (I:Inv X pins σ H s) (h:ta σ H fun x H1=>tb σ H1 fun y H2=>R x y H2)
  {α : Type}{Q : α→Shared→Prop}{f:Value→Value→Sem α}
  (hf:∀ v u s2 x y H2,Inv X pins σ H2 s2→RelV x v→RelV y u→R x y H2→wpAny (model X.prog X.w) X.A (f v u) Q X.xe s2) :
  wpAny (model X.prog X.w) X.A (eval a X.env) (fun v s₁=>wpAny (model X.prog X.w) X.A (eval b X.env) (fun u s₂=>wpAny (model X.prog X.w) X.A (f v u) Q X.xe s₂) X.xe s₁) X.xe s:=by
 refine thn (ha pins s σ H _ I h) fun v s1 ⟨x,H1,I1,r1,q1⟩=>?_;refine thn (hb pins s1 σ H1 _ I1 q1) fun u s2 ⟨y,H2,I2,r2,q2⟩=>?_;exact hf v u s2 x y H2 I2 r1 r2 q2
noncomputable def tVar (i:Nat):TE:=fun σ H Q=>∃ v,σ[i]? = some (some v)∧Q v H
noncomputable def tC (v:V):TE:=fun _ H Q=>Q v H
theorem pe_var {i:Nat}{x:Str}{pos:Pos} (hN:X.N[i]? = some x) (hv:Vis X.env.scope x) (hd:(x == ("__debug__" : Str))=false:=by decide) (hcd:(x == ("__classdict__" : Str))=false:=by decide):PE X (.Name x pos) (tVar i):=by
 intro pins s σ H Q I h;obtain ⟨v,e,h⟩:=h;obtain ⟨m,hn,hl⟩:=I.loc;obtain ⟨u,r,l⟩:=hl i x v hN e hv;have fin:EP X pins σ Q u s:=⟨v,H,I,r,h⟩;rcases l with ⟨hk,hm⟩ | ⟨hk,c,hc,hcell⟩
 ·exact wpAny_Name (wpAny_loadName_local I.ok.kind hk hn hm fin) hd
 ·rcases hk with hk | hk
  ·exact wpAny_Name (wpAny_loadName_cell I.ok.kind hk hc hcell fin) hd
  ·exact wpAny_Name (wpAny_loadName_free I.ok.kind hk hc hcell fin hcd) hd
theorem zA7 {i j pos}:PE X (.Constant (.int i) j pos) (tC (.int i)):=fun _ _ _ H _ I h=>wpAny_Constant_int ⟨.int i,H,I.tok _,⟨_,rfl⟩,h⟩
theorem zBq {b j pos}:PE X (.Constant (.bool b) j pos) (tC (.bl b)):=fun _ _ _ H _ I h=>Constant_bool ⟨.bl b,H,I,rfl,h⟩
theorem zBp {j pos}:PE X (.Constant .none j pos) (tC .non):=fun _ _ _ H _ I h=>Constant_none ⟨.non,H,I,rfl,h⟩
theorem zAi {x j pos}:PE X (.Constant (.str x) j pos) (tC (.str x)):=fun _ _ _ H _ I h=>Calls.Constant_str ⟨.str x,H,I.tok _,⟨_,rfl⟩,h⟩
noncomputable def Gl (X:Cx) (x:Str):Prop:=X.env.kindOf x=some .globalImplicit
theorem zF8 {E:Value→Shared→Prop}{pins:List (Addr×Obj)}{s:Shared}{σ : St}{H:Hp}{x:Str}{u:Value}{pos:Pos}{Q:Value→Shared→Prop} (I:Inv X pins σ H s) (hg:Gl X x) (hm:X.mg x=some u) (h:Q u s)
  (hd:(x == ("__debug__" : Str))=false:=by decide):wpAny (model X.prog X.w) X.A (eval (.Name x pos) X.env) Q E s :=
 Calls.Name_function_global I.ok.kind hg (Calls.loadGlobal_global (by rw [I.ok.glob];exact I.mod.glob.keeps I.bk) hm h) hd
theorem ld_blt {E:Value→Shared→Prop}{pins:List (Addr×Obj)}{s:Shared}{σ : St}{H:Hp}{x:Str}{u:Value}{pos:Pos}{Q:Value→Shared→Prop} (I:Inv X pins σ H s) (hg:Gl X x) (hm:X.mg x=none) (hv:bootBuiltins x=some u) (h:Q u s)
  (hn:x≠"__name__":=by decide) (hd:(x == ("__debug__" : Str))=false:=by decide):wpAny (model X.prog X.w) X.A (eval (.Name x pos) X.env) Q E s:=by
 obtain ⟨mb,h1,h2⟩:=I.mod.blt;exact Calls.Name_function_global I.ok.kind hg (Calls.loadGlobal_builtin (by rw [I.ok.glob];exact I.mod.glob.keeps I.bk) hm (by rw [I.ok.blt];exact h1.keeps I.bk) ((h2 x hn).trans hv) h) hd
theorem zBc {x:Str}{v:V}{u:Value}{pos:Pos} (hg:Gl X x) (hm:X.mg x=some u) (r:RelV v u) (hd:(x == ("__debug__" : Str))=false:=by decide):PE X (.Name x pos) (tC v) :=
 fun _ _ _ H _ I h=>zF8 I hg hm ⟨v,H,I,r,h⟩ hd
theorem zB2 {x:Str}{v:V}{u:Value}{pos:Pos} (hg:Gl X x) (hm:X.mg x=none) (hv:bootBuiltins x=some u) (r:RelV v u) (hn:x≠"__name__":=by decide) (hd:(x == ("__debug__" : Str))=false:=by decide):PE X (.Name x pos) (tC v) :=
 fun _ _ _ H _ I h=>ld_blt I hg hm hv ⟨v,H,I,r,h⟩ hn hd
variable {a b:Expr}{ta tb:TE}{pos:Pos}
noncomputable def PC (X:Cx) (op:CmpOp) (a b:Expr) (t:TE):Prop :=
 ∀ (pins:List (Addr×Obj)) (s:Shared) (σ : St) (H:Hp) (Q:VK),Inv X pins σ H s→t σ H Q →
  wpAny (model X.prog X.w) X.A (eval a X.env) (fun v s₁=>wpAny (model X.prog X.w) X.A (eval b X.env) (fun u s₂=>wpAny (model X.prog X.w) X.A (compareOp op v u) (EP X pins σ Q) X.xe s₂) X.xe s₁) X.xe s
theorem nobehind (b:Expr) {op:CmpOp} (h:op≠.In) (h2:op≠.NotIn):behindInMarks op b=false:=by
 have e1:(op == CmpOp.In)=false:=by cases op <;> first | rfl | exact absurd rfl h
 have e2:(op == CmpOp.NotIn)=false:=by cases op <;> first | rfl | exact absurd rfl h2
 cases b <;> simp [behindInMarks,e1,e2]
noncomputable def tIsN (ta:TE):TE:=fun σ H Q=>ta σ H fun x H1=>Q (.bl (decide (x=.non))) H1
noncomputable def tNotN (ta:TE):TE:=fun σ H Q=>ta σ H fun x H1=>Q (.bl (!decide (x=.non))) H1
theorem RelV.none_iff {x:V}{v:Value} (r:RelV x v):(v == Value.none)=decide (x=.non):=by
 cases x with
 | non=>cases r;rfl
 | bl _=>cases r;rfl
 | int _=>obtain ⟨t,rfl⟩:=r;rfl
 | str _=>obtain ⟨t,rfl⟩:=r;rfl
 | byt _=>obtain ⟨t,rfl⟩:=r;rfl
 | flt _=>obtain ⟨t,rfl⟩:=r;rfl
 | ref _=>cases r;rfl
 | ty _=>cases r;rfl
theorem zBx {j pos'} (ha:PE X a ta):PC X .Is a (.Constant .none j pos') (tIsN ta):=by
 intro pins s σ H Q I h;refine thn (ha pins s σ H _ I h) fun v s1 ⟨x,H1,I1,r1,q1⟩=>?_;exact Constant_none (is_none_gen ⟨.bl _,H1,I1,by rw [r1.none_iff];rfl,q1⟩)
theorem zCf {j pos'} (ha:PE X a ta):PC X .IsNot a (.Constant .none j pos') (tNotN ta):=by
 intro pins s σ H Q I h;refine thn (ha pins s σ H _ I h) fun v s1 ⟨x,H1,I1,r1,q1⟩=>?_;exact Constant_none (isnot_none_gen ⟨.bl _,H1,I1,by rw [r1.none_iff];rfl,q1⟩)
noncomputable def tB (t:TE):TT:=fun σ H Q=>t σ H fun x H1=>∃ c,x=.bl c∧Q c H1
theorem zB8 {op:CmpOp}{t:TE} (h:PC X op a b t) (h1:behindInMarks op b=false:=by first | exact nobehind _ (by decide) (by decide) | rfl):PT X (.Compare a [op] [b] pos) (tB t):=by
 intro pins s σ H Q I hw;refine wpAny_isTrue_Compare1 (thn (h pins s σ H _ I hw) fun v s1 h1=>thn h1 fun u s2 h2=>thn h2 fun c s3 ⟨x,H1,I1,r1,q1⟩=>?_) h1;obtain ⟨d,rfl,q⟩:=q1;cases r1;exact wpAny_truthy_bool ⟨H1,I1,q⟩
theorem zAk {e:Expr}{t:TE} (h:PE X e t) (he:∀ whole,isTrue e X.env whole=(do let v ← whole;standAt e.pos;holding [v] (truthy v)):=by intro _;rfl):PT X e (tB t):=by
 intro pins s σ H Q I hw;refine isTrue_plain (thn (h pins s σ H _ I hw) fun v s1 ⟨x,H1,I1,r1,q1⟩=>?_) (he _);obtain ⟨d,rfl,q⟩:=q1;cases r1;exact wpAny_truthy_bool ⟨H1,I1,q⟩
variable {tA tB':TT}{rest:List Expr}
noncomputable def tAnd (t u:TT):TT:=fun σ H Q=>t σ H fun c H1=>if c=true then u σ H1 Q else Q false H1
noncomputable def tOr (t u:TT):TT:=fun σ H Q=>t σ H fun c H1=>if c=true then Q true H1 else u σ H1 Q
noncomputable def tNot (t:TT):TT:=fun σ H Q=>t σ H fun c H1=>Q (!c) H1
theorem zC4 (ha:PT X a tA):PW X (.BoolOp .And [a] pos) tA:=by
 intro wh pins s σ H Q I h;refine isTrue_and (thn (ha pins s σ H Q I h) fun c s1 e=>?_);cases c with
 | true=>exact isTrue_and_nil e
 | false=>exact e
theorem zBo (ha:PT X a tA):PW X (.BoolOp .Or [a] pos) tA:=by
 intro wh pins s σ H Q I h;refine isTrue_or (thn (ha pins s σ H Q I h) fun c s1 e=>?_);cases c with
 | false=>exact isTrue_or_nil e
 | true=>exact e
theorem zCz (ha:PT X a tA) (hb:PW X (.BoolOp .And (b :: rest) pos) tB'):PW X (.BoolOp .And (a :: b :: rest) pos) (tAnd tA tB'):=by
 intro wh pins s σ H Q I h;refine isTrue_and (thn (ha pins s σ H _ I h) fun c s1 ⟨H1,I1,q1⟩=>?_);cases c with
 | true=>exact hb wh pins s1 σ H1 Q I1 q1
 | false=>exact ⟨H1,I1,q1⟩
theorem zCc (ha:PT X a tA) (hb:PW X (.BoolOp .Or (b :: rest) pos) tB'):PW X (.BoolOp .Or (a :: b :: rest) pos) (tOr tA tB'):=by
 intro wh pins s σ H Q I h;refine isTrue_or (thn (ha pins s σ H _ I h) fun c s1 ⟨H1,I1,q1⟩=>?_);cases c with
 | true=>exact ⟨H1,I1,q1⟩
 | false=>exact hb wh pins s1 σ H1 Q I1 q1
theorem zAm (ha:PT X a tA):PT X (.UnaryOp .Not a pos) (tNot tA):=by
 intro pins s σ H Q I h;exact isTrue_not (ha pins s σ H (fun c H1=>Q (!c) H1) I h)
noncomputable def tAndV (ta tb:TE):TE:=fun σ H Q=>ta σ H fun x H1=>∃ c,x=.bl c∧if c=true then tb σ H1 Q else Q (.bl false) H1
noncomputable def tNotV (ta:TE):TE:=fun σ H Q=>ta σ H fun x H1=>∃ c,x=.bl c∧Q (.bl (!c)) H1
theorem zCe {op}{t:TE} (h:PE X a t):PE X (.BoolOp op [a] pos) t:=fun pins s σ H Q I hw=>BoolOp_one (h pins s σ H Q I hw)
theorem zC1 (ha:PE X a ta) (hb:PE X (.BoolOp .And (b :: rest) pos) tb):PE X (.BoolOp .And (a :: b :: rest) pos) (tAndV ta tb):=by
 intro pins s σ H Q I h;refine BoolOp_and (thn (ha pins s σ H _ I h) fun v s1 ⟨x,H1,I1,r1,q1⟩=>?_);obtain ⟨c,rfl,q1⟩:=q1;cases r1;refine wpAny_truthy_bool ?_;cases c with
 | true=>exact hb pins s1 σ H1 Q I1 q1
 | false=>exact ⟨.bl false,H1,I1,rfl,q1⟩
theorem pe_not (ha:PE X a ta):PE X (.UnaryOp .Not a pos) (tNotV ta):=by
 intro pins s σ H Q I h;refine UnaryOp_ (thn (ha pins s σ H _ I h) fun v s1 ⟨x,H1,I1,r1,q1⟩=>?_);obtain ⟨c,rfl,q1⟩:=q1;cases r1;exact not_of (wpAny_truthy_bool ⟨.bl (!c),H1,I1,rfl,q1⟩)
noncomputable def tIf (t:TT) (ta tb:TE):TE:=fun σ H Q=>t σ H fun c H1=>if c=true then ta σ H1 Q else tb σ H1 Q
theorem zBe {c:Expr} (hc:PT X c tA) (ha:PE X a ta) (hb:PE X b tb):PE X (.IfExp c a b pos) (tIf tA ta tb):=by
 intro pins s σ H Q I h;refine wpAny_IfExp (thn (hc pins s σ H _ I h) fun d s1 ⟨H1,I1,q1⟩=>?_);cases d with
 | true=>exact ha pins s1 σ H1 Q I1 q1
 | false=>exact hb pins s1 σ H1 Q I1 q1
end
end L2
namespace L2
open PySem PySem.Spec PyProof.Rows
noncomputable def SqL (K:PySem.W.Frag) (H:Hp) (a:Addr) (xs:List V):Prop :=
 Rd H a (.lst xs) ∨
  ∃ (o:Obj) (its:Array Value) (n:Nat),K.lookup a=some o∧o.cls=.type "list"∧o.dict=none∧o.data=.seq its n∧its.size≤sizeLine∧Vals xs its.toList
noncomputable def SqT (K:PySem.W.Frag) (H:Hp) (a:Addr) (xs:List V):Prop :=
 Rd H a (.tup xs) ∨
  ∃ (o:Obj) (its:Array Value) (n:Nat),K.lookup a=some o∧o.cls=.type "tuple"∧o.data=.seq its n∧its.size≤sizeLine∧Vals xs its.toList
noncomputable def absV:Value→Option V
 | .none=>some .non
 | .bool b=>some (.bl b)
 | .int i _=>some (.int i)
 | .str x _=>some (.str x)
 | .bytes b _=>some (.byt b)
 | .float b _=>some (.flt b)
 | .ref a=>some (.ref a)
 | .type n=>some (.ty n)
 | _=>none
theorem RelV.abs {x:V}{u:Value} (r:RelV x u):absV u=some x:=by
 cases x with
 | non=>cases r;rfl
 | bl _=>cases r;rfl
 | int _=>obtain ⟨t,rfl⟩:=r;rfl
 | str _=>obtain ⟨t,rfl⟩:=r;rfl
 | byt _=>obtain ⟨t,rfl⟩:=r;rfl
 | flt _=>obtain ⟨t,rfl⟩:=r;rfl
 | ref _=>cases r;rfl
 | ty _=>cases r;rfl
theorem RelV.inj {x y:V}{u:Value} (r:RelV x u) (q:RelV y u):x=y:=Zh (r.abs.symm.trans q.abs)
theorem Vals.inj:∀ {xs ys:List V}{us:List Value},Vals xs us→Vals ys us→xs=ys
 | _,_,_,.nil,.nil=>rfl
 | _,_,_,.cons r t,.cons r' t'=>by rw [r.inj r',Vals.inj t t']
section
variable {X:Cx}{pins:List (Addr×Obj)}{σ : St}{H:Hp}{s:Shared}{a:Addr}{xs ys:List V}
theorem SqL.of {K:PySem.W.Frag} (h:H a=some (.lst xs)):SqL K H a xs:=.inl (.inl h)
theorem SqT.of {K:PySem.W.Frag} (h:H a=some (.tup xs)):SqT K H a xs:=.inl (.inl h)
theorem Inv.list (I:Inv X pins σ H s) (h:SqL X.K H a xs):∃ its:List Value,Vals xs its∧PlainL s.heap a its.toArray∧xs.length≤sizeLine:=by
 rcases h with h | ⟨o,its,n,hk,hc,hd,hs,hz,r⟩
 ·obtain ⟨z,its,n,r,e⟩:=h.ok I.hok;exact ⟨its,r,⟨_,n,e,rfl,rfl,rfl⟩,z⟩
 ·refine ⟨its.toList,r,⟨o,n,I.kIn a o hk,hc,hd,by simpa using hs⟩,?_⟩;have e:=r.length;simp only [Zw] at e;omega
theorem Inv.tuple (I:Inv X pins σ H s) (h:SqT X.K H a xs):∃ its:List Value,Vals xs its∧IsTup s.heap a its.toArray∧xs.length≤sizeLine:=by
 rcases h with h | ⟨o,its,n,hk,hc,hs,hz,r⟩
 ·obtain ⟨z,its,r,p⟩:=h.ok I.hok;exact ⟨its,r,p,z⟩
 ·refine ⟨its.toList,r,⟨o,I.kIn a o hk,hc,n,by simpa using hs⟩,?_⟩;have e:=r.length;simp only [Zw] at e;omega
theorem Inv.list_inj (I:Inv X pins σ H s) (h:SqL X.K H a xs) (h':SqL X.K H a ys):xs=ys:=by
 obtain ⟨its,r,⟨o,n,e,_,_,d⟩,_⟩:=I.list h;obtain ⟨its',r',⟨o',n',e',_,_,d'⟩,_⟩:=I.list h';rw [e] at e';cases e';rw [d] at d';injection d' with d1 _;have:its=its':=by simpa using congrArg Array.toList d1
 subst this;exact r.inj r'
theorem Inv.tuple_inj (I:Inv X pins σ H s) (h:SqT X.K H a xs) (h':SqT X.K H a ys):xs=ys:=by
 obtain ⟨its,r,⟨o,e,_,n,d⟩,_⟩:=I.tuple h;obtain ⟨its',r',⟨o',e',_,n',d'⟩,_⟩:=I.tuple h';rw [e] at e';cases e';rw [d] at d';injection d' with d1 _;have:its=its':=by simpa using congrArg Array.toList d1
 subst this;exact r.inj r'
end
noncomputable abbrev Cx.wish (X:Cx) (E:Value→Shared→Prop):Cx:={ X with xe:=E }
noncomputable abbrev Cx.nox (X:Cx):Cx:=X.wish fun _ _=>False
theorem Cx.Ok.wish {X:Cx} (ok:X.Ok) (E:Value→Shared→Prop):(X.wish E).Ok :=
 ⟨ok.mod,ok.kind,ok.glob,ok.blt,ok.above,ok.inj,ok.has,ok.cab,ok.hd,ok.frames,ok.stk,ok.exf,ok.bs,ok.bsz,ok.noex,ok.exfs,ok.funs,ok.frf⟩
theorem Cx.Ok.unwish {X:Cx}{E:Value→Shared→Prop} (ok:(X.wish E).Ok):X.Ok :=
 ⟨ok.mod,ok.kind,ok.glob,ok.blt,ok.above,ok.inj,ok.has,ok.cab,ok.hd,ok.frames,ok.stk,ok.exf,ok.bs,ok.bsz,ok.noex,ok.exfs,ok.funs,ok.frf⟩
section
variable {X:Cx}{pins:List (Addr×Obj)}{σ : St}{H:Hp}{s:Shared}{E:Value→Shared→Prop}
theorem Inv.wish (I:Inv X pins σ H s) (E:Value→Shared→Prop):Inv (X.wish E) pins σ H s:=⟨I.ok.wish E,I.os,I.bare,I.base,I.loc,I.cell,I.free,I.freeC,I.pin,I.hok,I.len⟩
theorem Inv.unwish (I:Inv (X.wish E) pins σ H s):Inv X pins σ H s:=⟨I.ok.unwish,I.os,I.bare,I.base,I.loc,I.cell,I.free,I.freeC,I.pin,I.hok,I.len⟩
theorem SP.unwish {D:Ends}{f:Flow}{s':Shared} (h:SP (X.wish E) pins D f s'):SP X pins D f s':=by
 cases f with
 | next=>obtain ⟨σ',H',I,q⟩:=h;exact ⟨σ',H',I.unwish,q⟩
 | brk=>obtain ⟨σ',H',I,q⟩:=h;exact ⟨σ',H',I.unwish,q⟩
 | cont=>obtain ⟨σ',H',I,q⟩:=h;exact ⟨σ',H',I.unwish,q⟩
 | ret u=>obtain ⟨v,σ',H',I,r,q⟩:=h;exact ⟨v,σ',H',I.unwish,r,q⟩
theorem PE.nox {e:Expr}{t:TE} (h:PE X.nox e t):PE X e t:=fun pins s σ H Q I hw =>
 wpAny_mono (h pins s σ H Q (I.wish _) hw) (fun _ _ ⟨v,H',I',r,q⟩=>⟨v,H',I'.unwish,r,q⟩) fun _ _ z=>False.elim z
theorem PT.nox {e:Expr}{t:TT} (h:PT X.nox e t):PT X e t:=fun pins s σ H Q I hw =>
 wpAny_mono (h pins s σ H Q (I.wish _) hw) (fun _ _ ⟨H',I',q⟩=>⟨H',I'.unwish,q⟩) fun _ _ z=>False.elim z
theorem PSs.nox {st:List Stmt}{t:TS} (h:PSs X.nox st t):PSs X st t:=fun pins s σ H D I hw =>
 wpAny_mono (h pins s σ H D (I.wish _) hw) (fun _ _ q=>q.unwish) fun _ _ z=>False.elim z
end
section
variable {X:Cx}{st:Stmt}{rest:List Stmt}{t u:TS}{e:Expr}{te:TE}{pos:Pos}
noncomputable def tNext:TS:=fun D σ H=>D.nx σ H
noncomputable def tSeq (t u:TS):TS:=fun D σ H=>t { D with nx:=u D } σ H
theorem zAa:PSs X [] tNext:=fun _ _ σ H _ I h=>wpAny_execs_nil ⟨σ,H,I,h⟩
theorem zA2 (h1:PS X st t) (h2:PSs X rest u):PSs X (st :: rest) (tSeq t u):=by
 intro pins s σ H D I h;refine wpAny_execs_cons (thn (h1 pins s σ H { D with nx:=u D } I h) fun f s1 q=>?_);cases f with
 | next =>
  obtain ⟨σ',H',I',q⟩:=q;exact h2 pins s1 σ' H' D I' q
 | ret v=>exact q
 | brk=>exact q
 | cont=>exact q
theorem zA4 (h1:PS X st t):PSs X [st] t:=by
 intro pins s σ H D I h;refine wpAny_execs_cons (thn (h1 pins s σ H D I h) fun f s1 q=>?_);cases f with
 | next=>exact wpAny_execs_nil q
 | ret v=>exact q
 | brk=>exact q
 | cont=>exact q
theorem Inv.quiet {pins:List (Addr×Obj)}{σ : St}{H:Hp}{s:Shared} (I:Inv X pins σ H s):interactive X.env=false:=by simp [interactive,I.ok.kind]
noncomputable def tDrop (te:TE):TS:=fun D σ H=>te σ H fun _ H1=>D.nx σ H1
theorem zB6 (he:PE X e te) (hs:swapsWith e none pos.line X.env=pure false:=by rfl):PS X (.Expr e pos) (tDrop te):=by
 intro pins s σ H D I h;exact wpAny_Expr_any (thn (he pins s σ H _ I h) fun v s1 ⟨x,H1,I1,r1,q1⟩=>⟨σ,H1,I1,q1⟩) I.quiet hs
noncomputable def tRet (te:TE):TS:=fun D σ H=>te σ H D.rt
theorem zAb (he:PE X e te):PS X (.Return (some e) pos) (tRet te):=by
 intro pins s σ H D I h;exact wpAny_Return_some (thn (he pins s σ H _ I h) fun v s1 ⟨x,H1,I1,r1,q1⟩=>⟨x,σ,H1,I1,r1,q1⟩)
noncomputable def tIfS (c:TT) (t u:TS):TS:=fun D σ H=>c σ H fun b H1=>if b=true then t D σ H1 else u D σ H1
theorem zAj {c:Expr}{a b:List Stmt}{tc:TT} (hc:PT X c tc) (ha:PSs X a t) (hb:PSs X b u):PS X (.If c a b pos) (tIfS tc t u):=by
 intro pins s σ H D I h;refine wpAny_If (thn (hc pins s σ H _ I h) fun d s1 ⟨H1,I1,q1⟩=>?_);cases d with
 | true=>exact ha pins s1 σ H1 D I1 q1
 | false=>exact hb pins s1 σ H1 D I1 q1
noncomputable def tNever:TS:=fun _ _ _=>False
theorem zAc {sts:List Stmt}:PSs X sts tNever:=fun _ _ _ _ _ _ h=>h.elim
end
noncomputable abbrev TG:=V→St→Hp→(St→Hp→Prop)→Prop
noncomputable abbrev TGs:=List V→St→Hp→(St→Hp→Prop)→Prop
noncomputable def PG (X:Cx) (target:Expr) (t:TG):Prop :=
 ∀ (pins:List (Addr×Obj)) (s:Shared) (σ : St) (H:Hp) (v:V) (u:Value) (Q:St→Hp→Prop),Inv X pins σ H s→RelV v u→t v σ H Q →
  wpAny (model X.prog X.w) X.A (assign target X.env u) (fun _ s'=>∃ σ' H',Inv X pins σ' H' s'∧Q σ' H') X.xe s
noncomputable def PGs (X:Cx) (ts:List Expr) (t:TGs):Prop :=
 ∀ (pins:List (Addr×Obj)) (s:Shared) (σ : St) (H:Hp) (vs:List V) (us:List Value) (Q:St→Hp→Prop),Inv X pins σ H s→Vals vs us→t vs σ H Q →
  wpAny (model X.prog X.w) X.A (assignInOrder ((assignEach ts X.env).map (·.2)) us) (fun _ s'=>∃ σ' H',Inv X pins σ' H' s'∧Q σ' H') X.xe s
noncomputable abbrev TSet:=V→V→V→Hp→(Hp→Prop)→Prop
noncomputable def PSet (X:Cx) (t:TSet):Prop :=
 ∀ (pins:List (Addr×Obj)) (s:Shared) (σ : St) (H:Hp) (o i v:V) (ov iv u:Value) (Q:Hp→Prop),Inv X pins σ H s→RelV o ov→RelV i iv→RelV v u→t o i v H Q →
  wpAny (model X.prog X.w) X.A (setItem ov iv u) (fun _ s'=>∃ H',Inv X pins σ H' s'∧Q H') X.xe s
section
variable {X:Cx}{pos:Pos}
noncomputable def gName (i:Nat):TG:=fun v σ H Q=>Q (σ.set i (some v)) H
theorem zAf {i:Nat}{x:Str} (hN:X.N.Nodup) (hi:X.N[i]? = some x) (hx:Loc X.env.scope x) (hf:X.fn x=true∨X.env.scope.names.lookup x=some .local:=by first | exact .inl rfl | exact .inr rfl | assumption):PG X (.Name x pos) (gName i):=by
 intro pins s σ H v u Q I r h;exact wpAny_assign_Name (store_ok I hN hi hx r (fun s' I'=>⟨_,H,I',h⟩) hf)
noncomputable def gNil:TGs:=fun vs σ H Q=>vs=[]∧Q σ H
noncomputable def gCons (t:TG) (u:TGs):TGs:=fun vs σ H Q=>∃ v r,vs=v :: r∧t v σ H fun σ' H'=>u r σ' H' Q
theorem zDw:PGs X [] gNil:=by
 intro pins s σ H vs us Q I r h;obtain ⟨e,h⟩:=h;subst e;cases r;exact assignInOrder_nil ⟨σ,H,I,h⟩
theorem zBl {e:Expr}{es:List Expr}{t:TG}{u:TGs} (h1:PG X e t) (h2:PGs X es u)
  (hs:(assignEach (e :: es) X.env).map (·.2)=assign e X.env :: (assignEach es X.env).map (·.2):=by rfl):PGs X (e :: es) (gCons t u):=by
 intro pins s σ H vs us Q I r h;obtain ⟨v,vr,e1,h⟩:=h;subst e1;cases r with
 | cons r rr =>
  rw [hs];refine assignInOrder_cons (thn (h1 pins s σ H _ _ _ I r h) fun _ s1 ⟨σ1,H1,I1,q1⟩=>?_);exact h2 pins s1 σ1 H1 _ _ Q I1 rr q1
noncomputable def gTup (K:PySem.W.Frag) (n:Nat) (t:TGs):TG:=fun v σ H Q=>∃ a xs,v=.ref a∧SqT K H a xs∧xs.length=n∧t xs σ H Q
theorem pg_tup {es:List Expr}{k:Nat}{t:TGs}{n:Nat} (hc:X.calm=true) (h:PGs X es t)
  (hn:(assignEach es X.env).length=n:=by rfl) (hst:(assignEach es X.env).findIdx? (·.1)=none:=by rfl):PG X (.Tuple es k pos) (gTup X.K n t):=by
 intro pins s σ H v u Q I r hw;obtain ⟨a,xs,e1,hq,hl,hw⟩:=hw;subst e1;cases r;obtain ⟨its,rv,ht,hz⟩:=I.tuple hq;refine assign_Tuple_tuple (I.ok.hd hc) ht (by simp [hn,← hl,rv.length]) hst fun h' hx=>?_;have I1:Inv X pins σ H { s with heap:=h' }:=I.kept (t':=s.toks) fun b o e=>hx b o (Z9 (Z5 e)) e;exact h pins _ σ H xs _ Q I1 (by simpa using rv) hw
noncomputable def gSub (to ti:TE) (t:TSet):TG:=fun v σ H Q=>to σ H fun o H1=>ti σ H1 fun i H2=>t o i v H2 fun H3=>Q σ H3
theorem pg_sub {o i:Expr}{to ti:TE}{t:TSet} (ho:PE X o to) (hi:PE X i ti) (hs:PSet X t)
  (ha:∀ v,assign (.Subscript o i pos) X.env v=(do
   let ov ← holding [v] (eval o X.env)
   let iv ← holding [v,ov] (eval i X.env)
   standAt pos
   holding [v,ov,iv] (setItem ov iv v)
   release [v,ov,iv] []):=by intro _;rfl):PG X (.Subscript o i pos) (gSub to ti t):=by
 intro pins s σ H v u Q I r h;rw [ha];refine wpAny_bind (wpAny_holding (thn (ho pins s σ H _ I h) fun ov s1 ⟨x,H1,I1,r1,q1⟩=>?_));refine wpAny_bind (wpAny_holding (thn (hi pins s1 σ H1 _ I1 q1) fun iv s2 ⟨y,H2,I2,r2,q2⟩=>?_));refine wpAny_bind (wpAny_standAt (wpAny_bind (wpAny_holding (thn (hs pins s2 σ H2 x y v ov iv u _ I2 r1 r2 r q2) fun _ s3 ⟨H3,I3,q3⟩=>?_))));exact wpAny_release ⟨σ,H3,I3,q3⟩
noncomputable def tAsg (te:TE) (g:TG):TS:=fun D σ H=>te σ H fun x H1=>g x σ H1 D.nx
theorem zEp {tg e:Expr}{te:TE}{g:TG} (he:PE X e te) (hg:PG X tg g) (hs:swapsWithSole [tg] e pos.line X.env=pure false:=by rfl) (hw:swappedStores [tg] e X.env=pure none:=by rfl)
  (h1:(assignEach [tg] X.env).map (·.2)=[assign tg X.env]:=by rfl):PS X (.Assign [tg] e pos) (tAsg te g):=by
 intro pins s σ H D I h;refine wpAny_Assign_stores (thn (he pins s σ H _ I h) fun v s1 ⟨x,H1,I1,r1,q1⟩=>?_) hs hw;rw [h1];exact thn (hg pins s1 σ H1 x v _ I1 r1 q1) fun _ s2 q=>q
theorem zAd {i:Nat}{x:Str}{e:Expr}{te:TE}{pos':Pos} (hN:X.N.Nodup) (hi:X.N[i]? = some x) (hx:Loc X.env.scope x) (he:PE X e te) (hs:swapsWith e (some (.Name x pos')) pos.line X.env=pure false:=by rfl) (hf:X.fn x=true∨X.env.scope.names.lookup x=some .local:=by first | exact .inl rfl | exact .inr rfl | assumption) :
  PS X (.Assign [.Name x pos'] e pos) (tAsg te (gName i)):=by
 intro pins s σ H D I h;refine wpAny_Assign_Name (thn (he pins s σ H _ I h) fun v s1 ⟨y,H1,I1,r1,q1⟩=>?_) hs;exact store_ok I1 hN hi hx r1 (fun s2 I2=>⟨_,H1,I2,q1⟩) hf
end
section
variable {X:Cx}{pos:Pos}
noncomputable def tWhile (c:TT) (tb:TS):TS:=fun D σ H=>∃ W:Nat→St→Hp→Prop,(∃ m,W m σ H)∧∀ m σ H,W m σ H →
 c σ H fun b H1=>if b=true then ∃ N:St→Hp→Prop,(∀ σ' H',N σ' H'→∃ m',m' < m∧W m' σ' H')∧tb { D with nx:=N,ct:=N,bk:=D.nx } σ H1 else D.nx σ H1
theorem zEy {c:Expr}{body:List Stmt}{tc:TT}{tb:TS} (hp:PassesOwn (model X.prog X.w) X.A X.env X.xe) (hc:PT X c tc) (hb:PSs X body tb):PS X (.While c body [] pos) (tWhile tc tb):=by
 intro pins s σ H D I h;obtain ⟨W,⟨m0,w0⟩,turn⟩:=h;refine wpAny_While (codeAny_whileLoop (fun n s'=>∃ σ' H',Inv X pins σ' H' s'∧W n σ' H') ?_ m0 ⟨σ,H,I,w0⟩);rintro n s1 ⟨σ1,H1,I1,w1⟩;refine wpAny_passesOwn hp (thn (hc pins s1 σ1 H1 _ I1 (turn n σ1 H1 w1)) fun b s2 ⟨H2,I2,q2⟩=>?_);cases b with
 | true =>
  obtain ⟨N,hN,q2⟩:=q2;rw [if_pos rfl];refine wpAny_passesOwn hp (thn (hb pins s2 σ1 H2 _ I2 q2) fun f s3 q3=>?_);cases f with
  | next =>
   obtain ⟨σ3,H3,I3,n3⟩:=q3;obtain ⟨m',hm,w3⟩:=hN σ3 H3 n3;exact ⟨m',hm,σ3,H3,I3,w3⟩
  | cont =>
   obtain ⟨σ3,H3,I3,n3⟩:=q3;obtain ⟨m',hm,w3⟩:=hN σ3 H3 n3;exact ⟨m',hm,σ3,H3,I3,w3⟩
  | brk=>exact q3
  | ret v=>exact q3
 | false =>
  rw [if_neg Z8];exact wpAny_execs_nil ⟨σ1,H2,I2,q2⟩
end
structure It where
 go:Nat→Hp→Prop
 yld:Nat→Hp→V→Hp→Prop
 stop:Nat→Hp→Prop
noncomputable def FpOk (X:Cx) (pins:List (Addr×Obj)) (H:Hp) (b:Addr):Prop :=
 H b=none∧b≠X.env.locals∧b∉X.fs∧(b∈X.ex∨X.s₀.heap.objs.size≤b)∧(∀ x c,X.env.cells.lookup x=some c→c≠b)∧∀ p∈X.pn++pins,p.1≠b
theorem Inv.fpOk {X:Cx}{pins:List (Addr×Obj)}{σ : St}{H H':Hp}{s:Shared}{b:Addr} (I:Inv X pins σ H s) (hb:s.heap.objs.size≤b) (hn:H' b=none):FpOk X pins H' b:=by
 refine ⟨hn,Nat.ne_of_gt (Z7 I.lt hb),I.nofs hb,.inr (Za I.sz hb),fun x c e z=>?_,fun p hp z=>?_⟩
 ·obtain ⟨v,q⟩:=I.cell x c e;exact absurd (Z7 q.lt (by rw [z];exact hb)) (Y0 _)
 ·exact absurd (Z7 (Z5 (I.pin p hp).1) (by rw [z];exact hb)) (Y0 _)
structure TurnP (Φ : Cx→Prop) (P:Program) (w:World) (K:PySem.W.Frag) (tg:Expr) (J:It) (fp:List Addr) (it:Addr) (tn:Nat→Heap→Prop):Prop where
 mem:it∈fp
 obj:∀ i h,tn i h→∀ b∈fp,∃ o,h.get? b=some o∧∀ v,o.data≠.cell v
 keep:∀ i h h',tn i h→(∀ b∈fp,∀ o,h.get? b=some o→h'.get? b=some o)→tn i h'
 item:∀ (X:Cx),X.prog=P→X.w=w→X.K=K→Φ X→∀ (i:Nat) (pins:List (Addr×Obj)) (s:Shared) (σ : St) (H:Hp) (E:Value→Shared→Prop),Inv X pins σ H s→(∀ b∈fp,FpOk X pins H b)→tn i s.heap→J.go i H →
  wpAny (model P w) X.A (pyNext (.ref it)) (fun r s1=>∃ u,r=some u ∧
   wpAny (model P w) X.A (letOwnedTupleGo tg (.ref it) u) (fun _ s2=>∃ x H',Inv X pins σ H' s2∧RelV x u∧J.yld i H x H'∧tn (i + 1) s2.heap∧∀ b∈fp,H' b=none) E s1) E s
 done:∀ (X:Cx),X.prog=P→X.w=w→X.K=K→Φ X→∀ (i:Nat) (pins:List (Addr×Obj)) (s:Shared) (σ : St) (H:Hp) (E:Value→Shared→Prop),Inv X pins σ H s→(∀ b∈fp,FpOk X pins H b)→tn i s.heap→J.stop i H →
  wpAny (model P w) X.A (pyNext (.ref it)) (fun r s1=>r=none∧Inv X pins σ H s1) E s
 self:∀ (A:Around) (i:Nat) (s:Shared) (Q:Value→Shared→Prop) (E:Value→Shared→Prop),tn i s.heap→Q (.ref it) s→wpAny (model P w) A (pyIter (.ref it)) Q E s
noncomputable abbrev Turn:=TurnP fun X=>X.calm=true
noncomputable abbrev TI:=St→Hp→(It→Hp→Prop)→Prop
noncomputable def PIE (X:Cx) (pins:List (Addr×Obj)) (σ : St) (tg:Expr) (R:It→Hp→Prop) (itv:Value) (s2:Shared):Prop :=
 ∃ (it:Addr) (fp:List Addr) (tn:Nat→Heap→Prop) (J:It) (H':Hp),itv=.ref it∧Inv X pins σ H' s2∧Turn X.prog X.w X.K tg J fp it tn∧tn 0 s2.heap∧(∀ b∈fp,FpOk X pins H' b)∧R J H'
noncomputable def PI (X:Cx) (tg iter:Expr) (wi:TI):Prop :=
 ∀ (pins:List (Addr×Obj)) (s:Shared) (σ : St) (H:Hp) (R:It→Hp→Prop),Inv X pins σ H s→wi σ H R →
  wpAny (model X.prog X.w) X.A (eval iter X.env) (fun v s1=>wpAny (model X.prog X.w) X.A (pyIter v) (PIE X pins σ tg R) X.xe s1) X.xe s
theorem go_of {M:Model}{A:Around}{E:Value→Shared→Prop}{s:Shared}{tg:Expr}{it:Addr}{u:Value}{o:Obj}{n:String}{vs:Array Value}{Q:Unit→Shared→Prop} (ho:s.heap.get? it=some o) (hc:o.cls=.type n) (hd:o.data=.fields vs)
  (hn:["enumerate", "zip", "dict_itemiterator", "dict_reverseitemiterator", "odict_iterator", "itertools.zip_longest", "itertools.pairwise"].contains n=false) (hQ:Q () s):wpAny M A (letOwnedTupleGo tg (.ref it) u) Q E s:=by
 unfold letOwnedTupleGo
 cases tg <;> first
  | exact wpAny_pure hQ
  | (cases u <;> first
    | exact wpAny_pure hQ
    | (refine wpAny_bind (wpAny_load ho ?_)
       rw [hc,hd];show wpAny M A (if (["enumerate", "zip", "dict_itemiterator", "dict_reverseitemiterator", "odict_iterator", "itertools.zip_longest", "itertools.pairwise"].contains n && vs[0]? == some (rawInt _))=true then _ else _) Q E s;rw [if_neg (by intro h;rw [hn,Bool.false_and] at h;cases h)]
       exact wpAny_pure hQ))
noncomputable def Itl (K:PySem.W.Frag) (a:Addr):It :=
 ⟨fun i H=>∃ xs x,SqL K H a xs∧xs[i]? = some x,fun i H x H'=>H'=H∧∀ xs,SqL K H a xs→xs[i]? = some x,fun i H=>∃ xs,SqL K H a xs∧xs.length≤i⟩
noncomputable def Itt (K:PySem.W.Frag) (a:Addr):It :=
 ⟨fun i H=>∃ xs x,SqT K H a xs∧xs[i]? = some x,fun i H x H'=>H'=H∧∀ xs,SqT K H a xs→xs[i]? = some x,fun i H=>∃ xs,SqT K H a xs∧xs.length≤i⟩
theorem turn_list {P:Program}{w:World}{K:PySem.W.Frag}{tg:Expr} (a it:Addr):Turn P w K tg (Itl K a) [it] it (fun i h=>h.IsListIter it a i) where
 mem:=by simp
 obj:=fun i h st b hb=>by
  have e:b=it:=by simpa using hb
  subst e;obtain ⟨o,e,c,d⟩:=st;exact ⟨o,e,fun v z=>by rw [d] at z;cases z⟩
 keep:=fun i h h' st k=>st.at fun o e=>k it (by simp) o e
 item:=by
  intro X hP hw hK hc i pins s σ H E I hf st hg;subst hP hw hK;obtain ⟨xs,x,hq,hx⟩:=hg;obtain ⟨its,rv,p,hz⟩:=I.list hq;obtain ⟨u,hu,ru⟩:=rv.get hx;obtain ⟨f0,f1,f2,f3,f4,f5⟩:=hf it (by simp);refine wpAny_pyNext_list_item st p.isList (x:=u) (by simpa using hu) fun h' st' sb=>?_;have I1:Inv X pins σ H { s with heap:=h' }:=I.turned (t':=s.toks) (fun b o hb e=>(sb.2 b hb).trans e) f0 f1 f3 f4 f5;obtain ⟨o,e,c,d⟩:=id st';exact ⟨u,rfl,go_of (s:={ s with heap:=h' }) e c d (by decide) ⟨x,H,I1,ru,⟨rfl,fun ys hy=>by rw [I.list_inj hy hq];exact hx⟩,st',fun b hb=>(hf b hb).1⟩⟩
 done:=by
  intro X hP hw hK hc i pins s σ H E I hf st hg;subst hP hw hK;obtain ⟨xs,hq,hx⟩:=hg;obtain ⟨its,rv,p,hz⟩:=I.list hq;obtain ⟨f0,f1,f2,f3,f4,f5⟩:=hf it (by simp);have hl:=rv.length;exact wpAny_pyNext_list_end (I.ok.hd hc) st p.isList (by simp;omega) fun h' eb=>⟨rfl,I.turned (t':=s.toks) (fun b o hb e=>eb b o hb e) f0 f1 f3 f4 f5⟩
 self:=fun _ _ _ _ _ st h=>wpAny_pyIter_listiter st h
theorem turn_tuple {P:Program}{w:World}{K:PySem.W.Frag}{tg:Expr} (a it:Addr):Turn P w K tg (Itt K a) [it] it (fun i h=>h.IsTupleIter it a i) where
 mem:=by simp
 obj:=fun i h st b hb=>by
  have e:b=it:=by simpa using hb
  subst e;obtain ⟨o,e,c,d⟩:=st;exact ⟨o,e,fun v z=>by rw [d] at z;cases z⟩
 keep:=fun i h h' st k=>st.at fun o e=>k it (by simp) o e
 item:=by
  intro X hP hw hK hc i pins s σ H E I hf st hg;subst hP hw hK;obtain ⟨xs,x,hq,hx⟩:=hg;obtain ⟨its,rv,p,hz⟩:=I.tuple hq;obtain ⟨u,hu,ru⟩:=rv.get hx;obtain ⟨f0,f1,f2,f3,f4,f5⟩:=hf it (by simp);refine wpAny_pyNext_tuple_item st (show s.heap.IsTuple a its.toArray from p) (x:=u) (by simpa using hu) fun h' st' sb=>?_;have I1:Inv X pins σ H { s with heap:=h' }:=I.turned (t':=s.toks) (fun b o hb e=>(sb.2 b hb).trans e) f0 f1 f3 f4 f5;obtain ⟨o,e,c,d⟩:=id st';exact ⟨u,rfl,go_of (s:={ s with heap:=h' }) e c d (by decide) ⟨x,H,I1,ru,⟨rfl,fun ys hy=>by rw [I.tuple_inj hy hq];exact hx⟩,st',fun b hb=>(hf b hb).1⟩⟩
 done:=by
  intro X hP hw hK hc i pins s σ H E I hf st hg;subst hP hw hK;obtain ⟨xs,hq,hx⟩:=hg;obtain ⟨its,rv,p,hz⟩:=I.tuple hq;obtain ⟨f0,f1,f2,f3,f4,f5⟩:=hf it (by simp);have hl:=rv.length;exact wpAny_pyNext_tuple_end (I.ok.hd hc) st (show s.heap.IsTuple a its.toArray from p) (by simp;omega) fun h' eb=>⟨rfl,I.turned (t':=s.toks) (fun b o hb e=>eb b o hb e) f0 f1 f3 f4 f5⟩
 self:=fun _ _ _ _ _ st h=>wpAny_pyIter_tupleiter st h
end L2
namespace L2
open PySem PySem.Spec PyProof.Rows
section
variable {X:Cx}{tg:Expr}
noncomputable def iList (K:PySem.W.Frag) (tl:TE):TI:=fun σ H R=>tl σ H fun x H1=>∃ a,x=.ref a∧(∃ xs,SqL K H1 a xs)∧R (Itl K a) H1
noncomputable def iTup (K:PySem.W.Frag) (tl:TE):TI:=fun σ H R=>tl σ H fun x H1=>∃ a,x=.ref a∧(∃ xs,SqT K H1 a xs)∧R (Itt K a) H1
theorem zAn {l:Expr}{tl:TE} (hl:PE X l tl):PI X tg l (iList X.K tl):=by
 intro pins s σ H R I h;refine thn (hl pins s σ H _ I h) fun v s1 ⟨x,H1,I1,r1,q1⟩=>?_;obtain ⟨a,e,⟨xs,hq⟩,q⟩:=q1;subst e;cases r1;obtain ⟨its,rv,p,hz⟩:=I1.list hq;refine wpAny_pyIter_list p.isList ?_;refine ⟨s1.heap.objs.size,[s1.heap.objs.size],_,_,H1,rfl,I1.kept (t':=s1.toks) fun b o e=>Z0 _ e,turn_list a _,⟨_,Z6 _ rfl,rfl,rfl⟩,fun b hb=>?_,q⟩;have e:b=s1.heap.objs.size:=by simpa using hb
 subst e;exact I1.fpOk (Z2 _) (I1.hok.fresh (Z2 _))
theorem pi_tup {l:Expr}{tl:TE} (hl:PE X l tl):PI X tg l (iTup X.K tl):=by
 intro pins s σ H R I h;refine thn (hl pins s σ H _ I h) fun v s1 ⟨x,H1,I1,r1,q1⟩=>?_;obtain ⟨a,e,⟨xs,hq⟩,q⟩:=q1;subst e;cases r1;obtain ⟨its,rv,p,hz⟩:=I1.tuple hq;refine wpAny_pyIter_tuple (show s1.heap.IsTuple a its.toArray from p) ?_;refine ⟨s1.heap.objs.size,[s1.heap.objs.size],_,_,H1,rfl,I1.kept (t':=s1.toks) fun b o e=>Z0 _ e,turn_tuple a _,⟨_,Z6 _ rfl,rfl,rfl⟩,fun b hb=>?_,q⟩;have e:b=s1.heap.objs.size:=by simpa using hb
 subst e;exact I1.fpOk (Z2 _) (I1.hok.fresh (Z2 _))
noncomputable def tFor (wi:TI) (g:TG) (tb:TS):TS:=fun D σ H=>wi σ H fun J H1=>∃ W:Nat→Nat→St→Hp→Prop,(∃ m,W 0 m σ H1)∧∀ i m σ H,W i m σ H →
 (J.stop i H∧D.nx σ H)∨(J.go i H∧∃ N:St→Hp→Prop,(∀ σ' H',N σ' H'→∃ m',m' < m∧W (i + 1) m' σ' H')∧∀ x H',J.yld i H x H'→g x σ H' fun σ2 H2=>tb { D with nx:=N,ct:=N,bk:=D.nx } σ2 H2)
noncomputable def pinsAt (fp:List Addr) (h:Heap):List (Addr×Obj):=fp.filterMap fun b=>(h.get? b).map fun o=>(b,o)
theorem zDk {fp:List Addr}{h:Heap}{b:Addr}{o:Obj} (hb:b∈fp) (e:h.get? b=some o):(b,o)∈pinsAt fp h:=List.mem_filterMap.mpr ⟨b,hb,by rw [e];rfl⟩
theorem of_pinsAt {fp:List Addr}{h:Heap}{p:Addr×Obj} (hp:p∈pinsAt fp h):p.1∈fp∧h.get? p.1=some p.2:=by
 obtain ⟨b,hb,e⟩:=List.mem_filterMap.mp hp;cases q:h.get? b with
 | none=>rw [q] at e;cases e
 | some o =>
  rw [q] at e;have e':(b,o)=p:=Zh e;subst e';exact ⟨hb,q⟩
theorem Inv.pinned {pins:List (Addr×Obj)}{σ : St}{H:Hp}{s:Shared}{fp:List Addr} (I:Inv X pins σ H s) (hf:∀ b∈fp,FpOk X pins H b) (ho:∀ b∈fp,∃ o,s.heap.get? b=some o∧∀ v,o.data≠.cell v):Inv X (pins++pinsAt fp s.heap) σ H s :=
 I.pins_of fun p hp=>(List.mem_append.mp hp).elim (fun z=>I.pin p (Zo _ z)) fun z=>by
  obtain ⟨hb,e⟩:=of_pinsAt z;obtain ⟨f0,f1,f2,_⟩:=hf p.1 hb;obtain ⟨o,e',d⟩:=ho p.1 hb;rw [e] at e';cases e';exact ⟨e,f0,f1,f2,d⟩
theorem Inv.unpinned {pins pl:List (Addr×Obj)}{σ : St}{H:Hp}{s:Shared} (I:Inv X (pins++pl) σ H s):Inv X pins σ H s:=I.pins_of fun p hp=>I.pin p (Zo _ (Yb _ hp))
theorem zCb {iter:Expr}{body:List Stmt}{wi:TI}{g:TG}{tb:TS}{pos:Pos} (hp:PassesOwn (model X.prog X.w) X.A X.env X.xe) (hc:X.calm=true) (hi:PI X tg iter wi) (hg:PG X tg g) (hb:PSs X body tb)
  (hs:∀ x,foldedSetIterable iter X.env x=pure x:=by intro _;rfl):PS X (.For tg iter body [] pos) (tFor wi g tb):=by
 intro pins s σ H D I h;refine wpAny_For (thn (hi pins s σ H _ I h) fun v s1 h1=>thn h1 fun itv s2 h2=>?_) hs;obtain ⟨it,fp,tn,J,H2,e,I2,T,st2,f2,W,⟨m0,w0⟩,turn⟩:=h2;subst e;have stat:∀ {H':Hp},(∀ b∈fp,H' b=none)→∀ b∈fp,FpOk X pins H' b:=fun hn b hb=>⟨hn b hb,(f2 b hb).2⟩;refine codeAny_forLoop_any (fun n s'=>∃ i σ' H',Inv X pins σ' H' s'∧tn i s'.heap∧(∀ b∈fp,H' b=none)∧W i n σ' H') ?_ m0 ⟨0,σ,H2,I2,st2,fun b hb=>(f2 b hb).1,w0⟩;rintro n s3 ⟨i,σ3,H3,I3,st3,fr3,w3⟩;rcases turn i n σ3 H3 w3 with ⟨stop,qn⟩ | ⟨go,N,hN,step⟩
 ·refine wpAny_passesOwn hp (thn (T.done X rfl rfl rfl hc i pins s3 σ3 H3 X.xe I3 (stat fr3) st3 stop) fun r s4 ⟨hr,I4⟩=>?_);subst hr;exact wpAny_execs_nil ⟨σ3,H3,I4,qn⟩
 ·refine wpAny_passesOwn hp (thn (T.item X rfl rfl rfl hc i pins s3 σ3 H3 X.xe I3 (stat fr3) st3 go) fun r s4 ⟨u,hr,h4⟩=>?_);subst hr;refine wpAny_passesOwn hp (thn h4 fun _ s5 ⟨x,H5,I5,r5,y5,st5,fr5⟩=>?_);have I5':=I5.pinned (stat fr5) (T.obj _ _ st5);refine wpAny_passesOwn hp (thn (hg _ s5 σ3 H5 x u _ I5' r5 (step x H5 y5)) fun _ s6 ⟨σ6,H6,I6,q6⟩=>?_);refine wpAny_passesOwn hp (thn (hb _ s6 σ6 H6 _ I6 q6) fun f s7 q7=>?_);have again:∀ {σ7:St}{H7:Hp},Inv X (pins++pinsAt fp s5.heap) σ7 H7 s7→N σ7 H7→∃ m,m < n∧∃ i σ' H',Inv X pins σ' H' s7∧tn i s7.heap∧(∀ b∈fp,H' b=none)∧W i m σ' H':=fun {σ7 H7} I7 n7=>by
   obtain ⟨m',hm,w7⟩:=hN σ7 H7 n7;refine ⟨m',hm,i + 1,σ7,H7,I7.unpinned,T.keep _ _ _ st5 fun b hb o e=>(I7.pin (b,o) (Zo _ (Zo _ (zDk hb e)))).1,fun b hb=>?_,w7⟩;obtain ⟨o,e,d⟩:=T.obj _ _ st5 b hb;exact (I7.pin (b,o) (Zo _ (Zo _ (zDk hb e)))).2.1
  cases f with
  | next=>obtain ⟨σ7,H7,I7,n7⟩:=q7;exact again I7 n7
  | cont=>obtain ⟨σ7,H7,I7,n7⟩:=q7;exact again I7 n7
  | brk=>obtain ⟨σ7,H7,I7,q7⟩:=q7;exact ⟨σ7,H7,I7.unpinned,q7⟩
  | ret v=>obtain ⟨x7,σ7,H7,I7,r7,q7⟩:=q7;exact ⟨x7,σ7,H7,I7.unpinned,r7,q7⟩
end
theorem zDc {K:PySem.W.Frag}{a:Addr}{xs:List V}{g:TG}{tb:TS}{D:Ends}{σ : St}{H:Hp} (Pv:Nat→St→Hp→Prop) (h0:Pv 0 σ H) (hl:∀ i σ H,i≤xs.length→Pv i σ H→SqL K H a xs)
  (hs:∀ i x σ H,xs[i]? = some x→Pv i σ H→g x σ H fun σ2 H2=>tb { D with nx:=Pv (i + 1),ct:=Pv (i + 1),bk:=D.nx } σ2 H2) (hd:∀ σ H,Pv xs.length σ H→D.nx σ H) :
  ∃ W:Nat→Nat→St→Hp→Prop,(∃ m,W 0 m σ H)∧∀ i m σ H,W i m σ H →
   ((Itl K a).stop i H∧D.nx σ H)∨((Itl K a).go i H∧∃ N:St→Hp→Prop,(∀ σ' H',N σ' H'→∃ m',m' < m∧W (i + 1) m' σ' H')∧∀ x H',(Itl K a).yld i H x H'→g x σ H' fun σ2 H2=>tb { D with nx:=N,ct:=N,bk:=D.nx } σ2 H2):=by
 refine ⟨fun i m σ H=>m=xs.length - i∧i≤xs.length∧Pv i σ H,⟨xs.length,by simp,Zl _,h0⟩,?_⟩;rintro i m σ H ⟨rfl,hi,p⟩;have q:=hl i σ H hi p;by_cases hlt:i < xs.length
 ·refine .inr ⟨⟨xs,xs[i],q,by simp [hlt]⟩,Pv (i + 1),fun σ' H' p'=>⟨xs.length - (i + 1),by omega,rfl,hlt,p'⟩,fun x H' y=>?_⟩;obtain ⟨e,y⟩:=y;subst e;exact hs i x σ _ (y xs q) p
 ·have e:i=xs.length:=by omega
  subst e;exact .inl ⟨⟨xs,q,Z2 _⟩,hd σ H p⟩
end L2
namespace L2
open PySem PySem.Spec PyProof.Rows
noncomputable abbrev R2:=V→V→Hp→VK→Prop
noncomputable def OpR (X:Cx) (f:Value→Value→Sem Value) (r:R2):Prop :=
 ∀ (pins:List (Addr×Obj)) (s:Shared) (σ : St) (H:Hp) (x y:V) (v u:Value) (Q:VK),Inv X pins σ H s→RelV x v→RelV y u→r x y H Q →
  wpAny (model X.prog X.w) X.A (f v u) (EP X pins σ Q) X.xe s
noncomputable def UnR (X:Cx) (f:Value→Sem Value) (r:V→Hp→VK→Prop):Prop :=
 ∀ (pins:List (Addr×Obj)) (s:Shared) (σ : St) (H:Hp) (x:V) (v:Value) (Q:VK),Inv X pins σ H s→RelV x v→r x H Q →
  wpAny (model X.prog X.w) X.A (f v) (EP X pins σ Q) X.xe s
noncomputable def CallR (X:Cx) (f:Value) (r:List V→Hp→VK→Prop):Prop :=
 ∀ (pins:List (Addr×Obj)) (s:Shared) (σ : St) (H:Hp) (xs:List V) (us:List Value) (Q:VK),Inv X pins σ H s→Vals xs us→r xs H Q →
  wpAny (model X.prog X.w) X.A (call f us) (EP X pins σ Q) X.xe s
noncomputable def TruR (X:Cx) (r:V→Hp→(Bool→Hp→Prop)→Prop):Prop :=
 ∀ (pins:List (Addr×Obj)) (s:Shared) (σ : St) (H:Hp) (x:V) (v:Value) (Q:Bool→Hp→Prop),Inv X pins σ H s→RelV x v→r x H Q →
  wpAny (model X.prog X.w) X.A (truthy v) (TP X pins σ Q) X.xe s
noncomputable def tOp (r:R2) (ta tb:TE):TE:=fun σ H Q=>ta σ H fun x H1=>tb σ H1 fun y H2=>r x y H2 Q
noncomputable def tUn (r:V→Hp→VK→Prop) (ta:TE):TE:=fun σ H Q=>ta σ H fun x H1=>r x H1 Q
noncomputable def rI (C:Int→Int→Prop) (g:Int→Int→V):R2:=fun x y H Q=>∃ i j,x=.int i∧y=.int j∧C i j∧Q (g i j) H
noncomputable def rI0 (g:Int→Int→V):R2:=fun x y H Q=>∃ i j,x=.int i∧y=.int j∧Q (g i j) H
noncomputable def rU (g:Int→V):V→Hp→VK→Prop:=fun x H Q=>∃ i,x=.int i∧Q (g i) H
section
variable {X:Cx}{a b c:Expr}{ta tb tc:TE}{pos:Pos}
theorem binT (ha:PE X a ta) (hb:PE X b tb) {pins:List (Addr×Obj)}{s:Shared}{σ : St}{H:Hp}{R:V→V→Hp→Prop} (I:Inv X pins σ H s)
  (h:ta σ H fun x H1=>tb σ H1 fun y H2=>R x y H2) {Q:Value→Shared→Prop}{f:Value→Value→Sem Value}
  (hf:∀ v u s2 x y H2,Inv X pins σ H2 s2→RelV x v→RelV y u→R x y H2→wpAny (model X.prog X.w) X.A (f v u) Q X.xe s2) :
  wpAny (model X.prog X.w) X.A (eval a X.env) (fun v s₁=>wpAny (model X.prog X.w) X.A (eval b X.env) (fun u s₂=>wpAny (model X.prog X.w) X.A (f v u) Q X.xe s₂) X.xe s₁) X.xe s:=by
 refine thn (ha pins s σ H _ I h) fun v s1 ⟨x,H1,I1,r1,q1⟩=>?_;refine thn (hb pins s1 σ H1 _ I1 q1) fun u s2 ⟨y,H2,I2,r2,q2⟩=>?_;exact hf v u s2 x y H2 I2 r1 r2 q2
theorem zAt {op:Operator}{r:R2} (ho:OpR X (binaryOp op) r) (ha:PE X a ta) (hb:PE X b tb):PE X (.BinOp a op b pos) (tOp r ta tb):=by
 intro pins s σ H Q I h;exact wpAny_BinOp (binT ha hb I h fun v u s2 x y H2 I2 rx ry q=>ho pins s2 σ H2 x y v u Q I2 rx ry q)
theorem pe_un {op:UnaryOp}{r:V→Hp→VK→Prop} (ho:UnR X (unaryOp op) r) (ha:PE X a ta):PE X (.UnaryOp op a pos) (tUn r ta):=by
 intro pins s σ H Q I h;exact UnaryOp_ (thn (ha pins s σ H _ I h) fun v s1 ⟨x,H1,I1,r1,q1⟩=>ho pins s1 σ H1 x v Q I1 r1 q1)
theorem opI {f:Value→Value→Sem Value}{C:Int→Int→Prop}{g:Int→Int→Int}
  (rule:∀ (i j:Int) (t u:Tok) (s:Shared) (Q:Value→Shared→Prop) (E:Value→Shared→Prop),C i j→Q (.int (g i j) s.toks) { s with toks:=s.toks + 1 }→wpAny (model X.prog X.w) X.A (f (.int i t) (.int j u)) Q E s) :
  OpR X f (rI C fun i j=>.int (g i j)):=by
 intro pins s σ H x y v u Q I rx ry h;obtain ⟨i,j,rfl,rfl,hc,q⟩:=h;obtain ⟨t,rfl⟩:=rx;obtain ⟨t',rfl⟩:=ry;exact rule i j t t' s _ _ hc ⟨.int (g i j),H,I.tok _,⟨_,rfl⟩,q⟩
theorem opI0 {f:Value→Value→Sem Value}{g:Int→Int→Int}
  (rule:∀ (i j:Int) (t u:Tok) (s:Shared) (Q:Value→Shared→Prop) (E:Value→Shared→Prop),Q (.int (g i j) s.toks) { s with toks:=s.toks + 1 }→wpAny (model X.prog X.w) X.A (f (.int i t) (.int j u)) Q E s) :
  OpR X f (rI0 fun i j=>.int (g i j)):=by
 intro pins s σ H x y v u Q I rx ry h;obtain ⟨i,j,rfl,rfl,q⟩:=h;obtain ⟨t,rfl⟩:=rx;obtain ⟨t',rfl⟩:=ry;exact rule i j t t' s _ _ ⟨.int (g i j),H,I.tok _,⟨_,rfl⟩,q⟩
theorem opB0 {f:Value→Value→Sem Value}{g:Int→Int→Bool}
  (rule:∀ (i j:Int) (t u:Tok) (s:Shared) (Q:Value→Shared→Prop) (E:Value→Shared→Prop),Q (.bool (g i j)) s→wpAny (model X.prog X.w) X.A (f (.int i t) (.int j u)) Q E s) :
  OpR X f (rI0 fun i j=>.bl (g i j)):=by
 intro pins s σ H x y v u Q I rx ry h;obtain ⟨i,j,rfl,rfl,q⟩:=h;obtain ⟨t,rfl⟩:=rx;obtain ⟨t',rfl⟩:=ry;exact rule i j t t' s _ _ ⟨.bl (g i j),H,I,rfl,q⟩
noncomputable def CDiv (i j:Int):Prop:=0 < j∧j < 1073741824
noncomputable def CPow (i j:Int):Prop:=0≤j∧j≤1000000∧i.natAbs < 2 ^ 64
noncomputable def CMul (i j:Int):Prop:=(-(2 ^ 64) < i∧i < 2 ^ 64)∨(-(2 ^ 64) < j∧j < 2 ^ 64)
theorem CMul.ok {i j:Int} (h:CMul i j):IntMulOk i j:=by
 rcases h with ⟨h1,h2⟩ | ⟨h1,h2⟩
 ·exact .of_left (intBits_le_64 h1 h2)
 ·exact .of_right (intBits_le_64 h1 h2)
theorem zBs:OpR X (binaryOp .Add) (rI0 fun i j=>.int (i + j)):=opI0 fun _ _ _ _ _ _ _ q=>add_int q
theorem op_sub:OpR X (binaryOp .Sub) (rI0 fun i j=>.int (i - j)):=opI0 fun _ _ _ _ _ _ _ q=>sub_int q
theorem zDp:OpR X (binaryOp .Mult) (rI CMul fun i j=>.int (i * j)):=opI fun _ _ _ _ _ _ _ hc q=>mul_int q hc.ok
theorem zF6:OpR X (binaryOp .FloorDiv) (rI CDiv fun i j=>.int (i / j)):=opI fun i j _ _ _ _ _ hc q=>by
 have h1:(0:Int) < j:=hc.1;have h2:j < 1073741824:=hc.2;exact floordiv_int (by omega) (by rw [Int.fdiv_eq_ediv_of_nonneg i (by omega)];exact q) (.inl (PyProof.noPylong_small (by omega)))
theorem zD6:OpR X (binaryOp .Mod) (rI (fun _ j=>0 < j) fun i j=>.int (i % j)):=opI fun i j _ _ _ _ _ hc q=>by
 have h1:(0:Int) < j:=hc;exact mod_int' (by omega) (by rw [Int.fmod_eq_emod_of_nonneg i (by omega)];exact q)
theorem op_pow:OpR X (binaryOp .Pow) (rI CPow fun i j=>.int (i ^ j.toNat)):=opI fun _ _ _ _ _ _ _ hc q=>pow_int_small hc.1 hc.2.1 hc.2.2 q
theorem unI {f:Value→Sem Value}{g:Int→Int}
  (rule:∀ (i:Int) (t:Tok) (s:Shared) (Q:Value→Shared→Prop) (E:Value→Shared→Prop),Q (.int (g i) s.toks) { s with toks:=s.toks + 1 }→wpAny (model X.prog X.w) X.A (f (.int i t)) Q E s) :
  UnR X f (rU fun i=>.int (g i)):=by
 intro pins s σ H x v Q I rx h;obtain ⟨i,rfl,q⟩:=h;obtain ⟨t,rfl⟩:=rx;exact rule i t s _ _ ⟨.int (g i),H,I.tok _,⟨_,rfl⟩,q⟩
theorem un_neg:UnR X (unaryOp .USub) (rU fun i=>.int (-i)):=unI fun _ _ _ _ _ q=>neg_int q
end
noncomputable def scal:V→V→Bool
 | .non,.non=>true | .non,.int _=>true | .int _,.non=>true | .non,.bl _=>true | .bl _,.non=>true | .non,.str _=>true | .str _,.non=>true
 | .int _,.int _=>true | .bl _,.bl _=>true | .str _,.str _=>true | .byt _,.byt _=>true
 | .int _,.str _=>true | .str _,.int _=>true | .bl _,.str _=>true | .str _,.bl _=>true
 | _,_=>false
noncomputable def rEq:R2:=fun x y H Q=>scal x y=true∧Q (.bl (decide (x=y))) H
noncomputable def rNe:R2:=fun x y H Q=>scal x y=true∧Q (.bl (!decide (x=y))) H
theorem dec_int {i j:Int}:decide (V.int i=V.int j)=(i == j):=by
 rw [Yd];simp
theorem dec_bl {i j:Bool}:decide (V.bl i=V.bl j)=(i == j):=by
 rw [Yd];simp
theorem dec_str {i j:Str}:decide (V.str i=V.str j)=(i == j):=by
 rw [Yd];simp
theorem dec_byt {i j:Array UInt8}:decide (V.byt i=V.byt j)=(i.toList == j.toList):=by
 rw [Yd];cases i;cases j;simp
section
variable {X:Cx}{a b c:Expr}{ta tb tc:TE}{pos:Pos}
theorem zAw {pins:List (Addr×Obj)}{σ : St}{H:Hp}{s:Shared}{Q:VK}{k k':Bool} (I:Inv X pins σ H s) (q:Q (.bl k) H) (e:k=k'):EP X pins σ Q (.bool k') s:=by
 subst e;exact ⟨.bl k,H,I,rfl,q⟩
theorem zCt:OpR X (compareOp .Eq) rEq:=by
 intro pins s σ H x y v u Q I rx ry h;obtain ⟨hs,q⟩:=h;cases x with
 | non =>
  cases rx;cases y with
  | non=>cases ry;exact PySem.EqNone.eq_none_none (zAw I q (by simp))
  | bl j=>cases ry;exact PySem.EqNone.eq_none_bool (zAw I q (by simp))
  | int j=>obtain ⟨t',rfl⟩:=ry;exact PySem.EqNone.eq_none_int (zAw I q (by simp))
  | str j=>obtain ⟨t',rfl⟩:=ry;exact PySem.EqNone.eq_none_str (zAw I q (by simp))
  | _=>exact absurd (show false=true from hs) Z8
 | bl i =>
  cases rx;cases y with
  | non=>cases ry;exact PySem.EqNone.eq_bool_none (zAw I q (by simp))
  | bl j=>cases ry;exact eq_bool (zAw I q dec_bl)
  | str j=>obtain ⟨t',rfl⟩:=ry;exact PySem.EqMixed.eq_bool_str (zAw I q (by simp))
  | _=>exact absurd (show false=true from hs) Z8
 | int i =>
  obtain ⟨t,rfl⟩:=rx;cases y with
  | non=>cases ry;exact PySem.EqNone.eq_int_none (zAw I q (by simp))
  | int j=>obtain ⟨t',rfl⟩:=ry;exact eq_int (zAw I q dec_int)
  | str j=>obtain ⟨t',rfl⟩:=ry;exact PySem.EqMixed.eq_int_str (zAw I q (by simp))
  | _=>exact absurd (show false=true from hs) Z8
 | str i =>
  obtain ⟨t,rfl⟩:=rx;cases y with
  | non=>cases ry;exact PySem.EqNone.eq_str_none (zAw I q (by simp))
  | bl j=>cases ry;exact PySem.EqMixed.eq_str_bool (zAw I q (by simp))
  | int j=>obtain ⟨t',rfl⟩:=ry;exact PySem.EqMixed.eq_str_int (zAw I q (by simp))
  | str j=>obtain ⟨t',rfl⟩:=ry;exact eq_str (zAw I q dec_str)
  | _=>exact absurd (show false=true from hs) Z8
 | byt i =>
  obtain ⟨t,rfl⟩:=rx;cases y with
  | byt j=>obtain ⟨t',rfl⟩:=ry;exact PySem.W.eq_bytes (zAw I q dec_byt)
  | _=>exact absurd (show false=true from hs) Z8
 | _=>cases y <;> exact absurd (show false=true from hs) Z8
theorem zE2:OpR X (compareOp .NotEq) rNe:=by
 intro pins s σ H x y v u Q I rx ry h;obtain ⟨hs,q⟩:=h;cases x with
 | non =>
  cases rx;cases y with
  | non=>cases ry;exact PySem.EqNone.ne_none_none (zAw I q (by simp))
  | bl j=>cases ry;exact PySem.EqNone.ne_none_bool (zAw I q (by simp))
  | int j=>obtain ⟨t',rfl⟩:=ry;exact PySem.EqNone.ne_none_int (zAw I q (by simp))
  | str j=>obtain ⟨t',rfl⟩:=ry;exact PySem.EqNone.ne_none_str (zAw I q (by simp))
  | _=>exact absurd (show false=true from hs) Z8
 | bl i =>
  cases rx;cases y with
  | non=>cases ry;exact PySem.EqNone.ne_bool_none (zAw I q (by simp))
  | bl j=>cases ry;exact ne_bool (zAw I q (congrArg not dec_bl))
  | str j=>obtain ⟨t',rfl⟩:=ry;exact PySem.EqMixed.ne_bool_str (zAw I q (by simp))
  | _=>exact absurd (show false=true from hs) Z8
 | int i =>
  obtain ⟨t,rfl⟩:=rx;cases y with
  | non=>cases ry;exact PySem.EqNone.ne_int_none (zAw I q (by simp))
  | int j=>obtain ⟨t',rfl⟩:=ry;exact ne_int (zAw I q (congrArg not dec_int))
  | str j=>obtain ⟨t',rfl⟩:=ry;exact PySem.EqMixed.ne_int_str (zAw I q (by simp))
  | _=>exact absurd (show false=true from hs) Z8
 | str i =>
  obtain ⟨t,rfl⟩:=rx;cases y with
  | non=>cases ry;exact PySem.EqNone.ne_str_none (zAw I q (by simp))
  | bl j=>cases ry;exact PySem.EqMixed.ne_str_bool (zAw I q (by simp))
  | int j=>obtain ⟨t',rfl⟩:=ry;exact PySem.EqMixed.ne_str_int (zAw I q (by simp))
  | str j=>obtain ⟨t',rfl⟩:=ry;exact ne_str (zAw I q (congrArg not dec_str))
  | _=>exact absurd (show false=true from hs) Z8
 | byt i =>
  obtain ⟨t,rfl⟩:=rx;cases y with
  | byt j=>obtain ⟨t',rfl⟩:=ry;exact PySem.W.ne_bytes (zAw I q (congrArg not dec_byt))
  | _=>exact absurd (show false=true from hs) Z8
 | _=>cases y <;> exact absurd (show false=true from hs) Z8
theorem op_lt:OpR X (compareOp .Lt) (rI0 fun i j=>.bl (decide (i < j))):=opB0 fun _ _ _ _ _ _ _ q=>lt_int q
theorem zEi:OpR X (compareOp .LtE) (rI0 fun i j=>.bl (decide (i≤j))):=opB0 fun _ _ _ _ _ _ _ q=>le_int q
theorem op_gt:OpR X (compareOp .Gt) (rI0 fun i j=>.bl (decide (j < i))):=opB0 fun _ _ _ _ _ _ _ q=>gt_int q
theorem op_ge:OpR X (compareOp .GtE) (rI0 fun i j=>.bl (decide (j≤i))):=opB0 fun _ _ _ _ _ _ _ q=>ge_int q
theorem op_in_str:OpR X (compareOp .In) (fun x y H Q=>∃ i j,x=.str i∧y=.str j∧Q (.bl (!(Builtin.Str.occurrences j i 0 j.length 1).isEmpty)) H):=by
 intro pins s σ H x y v u Q I rx ry h;obtain ⟨i,j,rfl,rfl,q⟩:=h;obtain ⟨t,rfl⟩:=rx;obtain ⟨t',rfl⟩:=ry;exact in_str (zAw I q rfl)
theorem op_notN:OpR X (compareOp .IsNot) (fun x y H Q=>y=.non∧Q (.bl (!decide (x=.non))) H):=by
 intro pins s σ H x y v u Q I rx ry h;obtain ⟨rfl,q⟩:=h;cases ry;refine isnot_none_gen (zAw I q ?_)
 cases x <;> first
  | (cases rx;rfl)
  | (obtain ⟨t,rfl⟩:=rx;rfl)
theorem nomark (b:Expr) {op:CmpOp} (h:op≠.In:=by decide) (h2:op≠.NotIn:=by decide):behindInMarks op b=false:=by
 have e1:(op == CmpOp.In)=false:=by cases op <;> first | rfl | exact absurd rfl h
 have e2:(op == CmpOp.NotIn)=false:=by cases op <;> first | rfl | exact absurd rfl h2
 cases b <;> simp [behindInMarks,e1,e2]
theorem zBk {op:CmpOp}{r:R2} (ho:OpR X (compareOp op) r) (ha:PE X a ta) (hb:PE X b tb) (hm:behindInMarks op b=false):PE X (.Compare a [op] [b] pos) (tOp r ta tb):=by
 intro pins s σ H Q I h;exact wpAny_Compare1 (binT ha hb I h fun v u s2 x y H2 I2 rx ry q=>ho pins s2 σ H2 x y v u Q I2 rx ry q) hm
noncomputable def tTest (t:TE):TT:=fun σ H Q=>t σ H fun x H'=>∃ k,x=.bl k∧Q k H'
theorem zAh {op:CmpOp}{r:R2} (ho:OpR X (compareOp op) r) (ha:PE X a ta) (hb:PE X b tb) (hm:behindInMarks op b=false):PT X (.Compare a [op] [b] pos) (tTest (tOp r ta tb)):=by
 intro pins s σ H Q I h
 refine wpAny_isTrue_Compare1 (thn (ha pins s σ H _ I h) fun v s1 ⟨x,H1,I1,r1,q1⟩=>thn (hb pins s1 σ H1 _ I1 q1) fun u s2 ⟨y,H2,I2,r2,q2⟩ =>
  thn (ho pins s2 σ H2 x y v u _ I2 r1 r2 q2) fun c s3 ⟨z,H3,I3,r3,k,e,q3⟩=>?_) hm
 subst e;cases r3;exact wpAny_truthy_bool ⟨H3,I3,q3⟩
noncomputable def tChain (r r':R2) (ta tb tc:TE):TE:=fun σ H Q=>ta σ H fun x H1=>tb σ H1 fun y H2=>r x y H2 fun z H3=>∃ k,z=.bl k ∧
 (if k=true then tc σ H3 fun w' H4=>r' y w' H4 Q else Q (.bl false) H3)
theorem zF4 {op op':CmpOp}{r r':R2} (ho:OpR X (compareOp op) r) (ho':OpR X (compareOp op') r') (ha:PE X a ta) (hb:PE X b tb) (hc:PE X c tc)
  (hm:lastMarks [op,op'] [b,c]=false:=by with_unfolding_all rfl):PE X (.Compare a [op,op'] [b,c] pos) (tChain r r' ta tb tc):=by
 intro pins s σ H Q I h
 refine Compare_chain (thn (ha pins s σ H _ I h) fun v s1 ⟨x,H1,I1,r1,q1⟩=>chain_link (thn (hb pins s1 σ H1 _ I1 q1) fun u s2 ⟨y,H2,I2,r2,q2⟩ =>
  thn (ho pins s2 σ H2 x y v u _ I2 r1 r2 q2) fun d s3 ⟨z,H3,I3,r3,k,e,q3⟩=>?_)) hm
 subst e;cases r3;refine wpAny_truthy_bool ?_;cases k with
 | false=>exact ite_ff ⟨.bl false,H3,I3,rfl,q3⟩
 | true=>exact ite_tt (chain_last (thn (hc pins s3 σ H3 _ I3 q3) fun w' s4 ⟨z',H4,I4,r4,q4⟩=>ho' pins s4 σ H4 y z' u w' Q I4 r2 r4 q4))
theorem zD0 {op op':CmpOp}{r r':R2} (ho:OpR X (compareOp op) r) (ho':OpR X (compareOp op') r') (ha:PE X a ta) (hb:PE X b tb) (hc:PE X c tc)
  (hm:lastMarks [op,op'] [b,c]=false:=by with_unfolding_all rfl):PT X (.Compare a [op,op'] [b,c] pos) (tTest (tChain r r' ta tb tc)):=by
 intro pins s σ H Q I h
 refine isTrue_chain (thn (ha pins s σ H _ I h) fun v s1 ⟨x,H1,I1,r1,q1⟩=>test_link (thn (hb pins s1 σ H1 _ I1 q1) fun u s2 ⟨y,H2,I2,r2,q2⟩ =>
  thn (ho pins s2 σ H2 x y v u _ I2 r1 r2 q2) fun d s3 ⟨z,H3,I3,r3,k,e,q3⟩=>?_)) hm
 subst e;cases r3;refine wpAny_truthy_bool ?_;cases k with
 | false =>
  obtain ⟨k',e',q'⟩:=q3;cases e';exact ite_ff ⟨H3,I3,q'⟩
 | true =>
  refine ite_tt (test_last (thn (hc pins s3 σ H3 _ I3 q3) fun w' s4 ⟨z',H4,I4,r4,q4⟩=>thn (ho' pins s4 σ H4 y z' u w' _ I4 r2 r4 q4) fun d' s5 ⟨z2,H5,I5,r5,k2,e2,q5⟩=>?_));subst e2;cases r5;exact wpAny_truthy_bool ⟨H5,I5,q5⟩
noncomputable def TruV (K:PySem.W.Frag) (x:V) (H:Hp) (k:Bool):Prop :=
 match x with
 | .non=>k=false
 | .bl b=>k=b
 | .int i=>k=(i != 0)
 | .str y=>y.length≤sizeLine∧k=((y.length:Int) != 0)
 | .byt y=>y.size≤sizeLine∧k=((y.size:Int) != 0)
 | .ref p=>(∃ xs,SqL K H p xs∧k = !xs.isEmpty)∨(∃ xs,SqT K H p xs∧k = !xs.isEmpty)∨∃ kvs,H p=some (.dK kvs)∧k = !kvs.isEmpty
 | _=>False
theorem isEmpty_kv {κ : Type}{kvs:List (κ×V)}{vs:List (κ×Value)} (r:KV kvs vs):(!vs.isEmpty) = !kvs.isEmpty:=by
 cases r <;> rfl
theorem zEq {xs:List V}{its:List Value} (r:Vals xs its):(!its.toArray.isEmpty) = !xs.isEmpty:=by
 cases r <;> simp
theorem line63:(sizeLine:Nat) < 2 ^ 63:=by rw [sizeLine_eq];decide
theorem tru_ok:TruR X (fun x H Q=>∃ k,TruV X.K x H k∧Q k H):=by
 intro pins s σ H x v Q I rx h;obtain ⟨k,e,q⟩:=h;have hl:=line63;have hs:sizeLine=16777216:=sizeLine_eq;cases x with
 | non =>
  cases rx;have e':k=false:=e;subst e';exact truthy_none ⟨H,I,q⟩
 | bl b =>
  cases rx;have e':k=b:=e;subst e';exact wpAny_truthy_bool ⟨H,I,q⟩
 | int i =>
  obtain ⟨t,rfl⟩:=rx;have e':k=(i != 0):=e;subst e';exact PySem.P.truthy_int ⟨H,I,q⟩
 | str y =>
  obtain ⟨t,rfl⟩:=rx;obtain ⟨hy,e'⟩:y.length≤sizeLine∧k=((y.length:Int) != 0):=e;subst e';exact PySem.P.truthy_str (by omega) ⟨H,I.tok _,q⟩
 | byt y =>
  obtain ⟨t,rfl⟩:=rx;obtain ⟨hy,e'⟩:y.size≤sizeLine∧k=((y.size:Int) != 0):=e;subst e';exact PySem.W.truthy_bytes (by omega) ⟨H,I.tok _,q⟩
 | ref p =>
  cases rx;have e':(∃ xs,SqL X.K H p xs∧k = !xs.isEmpty)∨(∃ xs,SqT X.K H p xs∧k = !xs.isEmpty)∨∃ kvs,H p=some (.dK kvs)∧k = !kvs.isEmpty:=e;rcases e' with ⟨xs,hx,e'⟩ | ⟨xs,hx,e'⟩ | ⟨kvs,hx,e'⟩
  ·subst e';obtain ⟨its,r,pl,hz⟩:=I.list hx;have hlen:=r.length;exact wpAny_truthy_list pl.isList (by simp only [Z3];omega) ⟨H,I.tok _,by rw [zEq r];exact q⟩
  ·subst e';obtain ⟨its,r,pl,hz⟩:=I.tuple hx;have hlen:=r.length;exact truthy_tuple pl (by simp only [Z3];omega) ⟨H,I.tok _,by rw [zEq r];exact q⟩
  ·subst e';obtain ⟨hz,hS,vs,r,m⟩:kvs.length≤sizeLine∧(p == sysModules)=false∧∃ vs,KV kvs vs∧s.heap.DictOf (mixKind X.prog X.w) p vs:=I.hok p _ hx;have hlen:kvs.length=vs.length:=Paired.length r;exact wpAny_truthy_dict hS m (by omega) ⟨H,I.tok _,by rw [isEmpty_kv r];exact q⟩
 | _=>exact (show False from e).elim
theorem zEx (ha:PE X a ta) (he:∀ whole,isTrue a X.env whole=(do let v ← whole;standAt a.pos;holding [v] (truthy v))) :
  PT X a (fun σ H Q=>ta σ H fun x H'=>∃ k,TruV X.K x H' k∧Q k H'):=by
 intro pins s σ H Q I h;exact isTrue_plain (thn (ha pins s σ H _ I h) fun v s1 ⟨x,H1,I1,r1,q1⟩=>tru_ok pins s1 σ H1 x v Q I1 r1 q1) (he _)
theorem vals1 {x:V}{us:List Value} (r:Vals [x] us):∃ u,us=[u]∧RelV x u:=by
 cases r with
 | cons r1 r2=>cases r2;exact ⟨_,rfl,r1⟩
theorem vals2 {x y:V}{us:List Value} (r:Vals [x,y] us):∃ u w',us=[u,w']∧RelV x u∧RelV y w':=by
 cases r with
 | cons r1 r2 =>
  cases r2 with
  | cons r3 r4=>cases r4;exact ⟨_,_,rfl,r1,r3⟩
theorem call_max2 (hc:X.calm=true):CallR X (.builtin "max") (fun xs H Q=>∃ i j,xs=[.int i,.int j]∧Q (.int (if j > i then j else i)) H):=by
 intro pins s σ H xs us Q I r h;obtain ⟨i,j,rfl,q⟩:=h;obtain ⟨u,w',rfl,⟨t,rfl⟩,⟨t',rfl⟩⟩:=vals2 r;refine max_two_ints (I.ok.hd hc) fun h' tk k=>⟨_,H,I.kept k,?_,q⟩;by_cases hj:j > i
 ·rw [if_pos hj,if_pos hj];exact ⟨_,rfl⟩
 ·rw [if_neg hj,if_neg hj];exact ⟨_,rfl⟩
theorem call_min2 (hc:X.calm=true):CallR X (.builtin "min") (fun xs H Q=>∃ i j,xs=[.int i,.int j]∧Q (.int (if j < i then j else i)) H):=by
 intro pins s σ H xs us Q I r h;obtain ⟨i,j,rfl,q⟩:=h;obtain ⟨u,w',rfl,⟨t,rfl⟩,⟨t',rfl⟩⟩:=vals2 r;refine min_two_ints (I.ok.hd hc) fun h' tk k=>⟨_,H,I.kept k,?_,q⟩;by_cases hj:j < i
 ·rw [if_pos hj,if_pos hj];exact ⟨_,rfl⟩
 ·rw [if_neg hj,if_neg hj];exact ⟨_,rfl⟩
end
end L2
namespace L2
open PySem PySem.Spec PyProof.Rows
structure ObjM (h:Heap) (x dx C:Addr) (mA:Str→Option Value):Prop where
 obj:h.get? x=some (PySem.W.instObj C dx)
 ns:h.Ns1 dx mA
 ne:dx≠x
theorem lookIn_ns {h:Heap}{dx:Addr}{mA:Str→Option Value} (n:h.Ns1 dx mA):∃ od,h.get? dx=some od∧∀ name,PySem.W.lookIn name od=some (mA name):=by
 obtain ⟨o,es,ep,ho,hd,hk,_,hm⟩:=n;refine ⟨o,ho,fun name=>?_⟩;have e:=hm name;unfold nsFind findBy at e;rw [← Array.find?_toList] at e;unfold PySem.W.lookIn;rw [hd];dsimp only;split
 ·rename_i y q
  rw [q] at e;exact congrArg some e
 ·rename_i q
  rw [q] at e;have a:es.toList.any (·.refKey)=false:=by
   rw [List.any_eq_false];intro y hy;obtain ⟨z,t,hkey⟩:=hk y (Array.mem_toList_iff.mp hy);simp [DictEntry.refKey,hkey]
  have a':¬ es.toList.any (·.refKey)=true:=by rw [a];exact Z8
  rw [if_neg a'];exact congrArg some e
theorem ObjM.look {h:Heap}{x dx C:Addr}{mA:Str→Option Value} (I:ObjM h x dx C mA):∃ od,PySem.W.InstAt h x (PySem.W.instObj C dx) C (some od)∧∀ name,PySem.W.lookIn name od=some (mA name) :=
 let ⟨od,ho,hl⟩:=lookIn_ns I.ns
 ⟨od,⟨I.obj,rfl,rfl,ho⟩,hl⟩
section
variable {prog:Program}{w:World}{A:Around}{E:Value→Shared→Prop}{s:Shared}{K:PySem.W.Frag}{x dx C f:Addr}{mA:Str→Option Value}{name:Str}{v:Value}
theorem get_map {expr:Bool}{Q:Value→Shared→Prop} (X:K.In s.heap) (I:ObjM s.heap x dx C mA) (hg:PySem.W.plainGet K C name=true) (hh:PySem.W.hasDictIn K C=true)
  (ha:PySem.W.findIn K (.ref C) name=some none) (hv:mA name=some v) (hv':PySem.W.handedIn v=true) (h:Q v { s with toks:=s.toks + 1 }) :
  wpAny (model prog w) A (getAttr (.ref x) name expr) Q E s:=by
 obtain ⟨od,J,hl⟩:=I.look;exact PySem.W.get_value X J (PySem.W.plainGet_of hg).1 (PySem.W.findObj_own hh ha rfl (by rw [hl,hv])) hv' h
theorem get_meth {pl:Sem Bool}{Q:Value×List Value→Shared→Prop} (X:K.In s.heap) (I:ObjM s.heap x dx C mA) (hg:PySem.W.plainGet K C name=true)
  (hf:PySem.W.findIn K (.ref C) name=some (some (.ref f))) (ht:PySem.W.isFn K (.ref f)=true) (hv:mA name=none) (h:Q (.ref f,[.ref x]) s) :
  wpAny (model prog w) A (getMethod (.ref x) name pl) Q E s:=by
 obtain ⟨od,J,hl⟩:=I.look;exact PySem.W.method_fn X J (PySem.W.plainGet_of hg).1 (PySem.W.plainGet_of hg).2 hf (beq_iff_eq.mp ht) (by show (PySem.W.lookIn name od).map (·.isSome)=some false;rw [hl,hv];rfl) h
theorem set_map {ns:List Str}{Q:Unit→Shared→Prop} (X:K.In s.heap) (I:ObjM s.heap x dx C mA)
  (hs:PySem.W.findIn K (.ref C) "__setattr__" = some (some (.builtin "object.__setattr__"))) (hp:PySem.W.plainOver K C=true) (ht:PySem.W.takerIn K C name=some none) (hh:PySem.W.hasDictIn K C=true)
  (hw:PySem.Within mA ns) (hsz:ns.length≤sizeLine)
  (h:∀ h',ObjM h' x dx C (fun y=>if y=name then some v else mA y)→Heap.SameBut dx s.heap h'→Q () { s with heap:=h',toks:=s.toks + 2 }) :
  wpAny (model prog w) A (setAttr (.ref x) name v) Q E s:=by
 obtain ⟨od,J,hl⟩:=I.look;refine PySem.W.set_plain X J hs (PySem.W.osa_open (s:={ s with toks:=s.toks + 1 }) (r:=none) X J hp ht fun b=>?_);obtain ⟨cd,hc,hd'⟩:=PySem.W.any_some hh;have hx:s.heap.get? x=some ⟨.ref C,some dx,.plain,#[]⟩:=I.obj;refine wpAny_bind (wpAny_pure (wpAny_bind (wpAny_bind (wpAny_loadPart hx (wpAny_bind (PySem.W.Looks.here (s:={ s with toks:=s.toks + 1 }) (PySem.W.looks_clsIn X hc) ?_))))));rw [hd'];refine wpAny_pure (a:=some dx) (wpAny_bind (wpAny_pure (wpAny_bind ?_)));refine wpAny_nsSet1 (s:={ s with toks:=s.toks + 1 }) I.ns fun h' hn2 hs2=>?_;obtain ⟨oD,esD,epD,hoD,hdD,hcD⟩:=hn2.count (PySem.Within.cons name v hw);refine wpAny_bind (wpAny_lookBehind hoD (by rw [hdD];exact pastItsLine_dict (Za hcD (by rw [Zg];omega))) ?_);exact wpAny_pure (h _ ⟨(hs2.2 _ (Ne.symm I.ne)).trans I.obj,hn2,I.ne⟩ hs2)
theorem make_map {R:Result→Shared→Prop}{vs:List Value}{kw:List (Str×Value)} (X:K.In s.heap) (hm:PySem.W.makesIn K C=true)
  (hi:PySem.W.findIn K (.ref C) "__init__" = some (some (.ref f))) (hf:PySem.W.typeIn K (.ref f)=some (.type "function"))
  (h:codeAny (model prog w) (A.under (.builtin "type.__call__" ⟨.ref C :: vs,kw⟩)) (.call (.ref f) ⟨.ref (s.heap.objs.size + 1) :: vs,kw⟩) (PySem.W.InitBack (s.heap.objs.size + 1) R)
   { s with heap:=(s.heap.push PySem.W.emptyDict).push (PySem.W.instObj C s.heap.objs.size) }) :
  codeAny (model prog w) A (.call (.ref C) ⟨vs,kw⟩) R s:=by
 obtain ⟨hh,g,d,t,os⟩:=s;exact PySem.W.make_core (PySem.W.makes_of X hm) (PySem.W.looks_findIn X hi) (fun self=>PySem.W.bind_fn X self hf) (.inl rfl) h
end
noncomputable def putF (f:Str) (v:V):List (Str×V)→List (Str×V)
 | []=>[(f,v)]
 | (g,x) :: r=>if g=f then (g,v) :: r else (g,x) :: putF f v r
theorem zAs (f g:Str) (v:V):∀ fs:List (Str×V),(putF f v fs).lookup g=if g=f then some v else fs.lookup g
 | []=>by
  show List.lookup g [(f,v)]=_;by_cases h:g=f
  ·have hb:(g == f)=true:=beq_iff_eq.mpr h;simp only [List.lookup,hb,if_pos h]
  ·have hb:(g == f)=false:=beq_eq_false_iff_ne.mpr h;simp only [List.lookup,hb,if_neg h]
 | (k,x) :: r=>by
  have ih:=zAs f g v r;rw [show putF f v ((k,x) :: r)=(if k=f then (k,v) :: r else (k,x) :: putF f v r) from rfl];by_cases hk:k=f
  ·rw [if_pos hk];by_cases h:g=k
   ·have hb:(g == k)=true:=beq_iff_eq.mpr h;simp only [List.lookup,hb,if_pos (h.trans hk)]
   ·have hb:(g == k)=false:=beq_eq_false_iff_ne.mpr h;simp only [List.lookup,hb,if_neg (fun e:g=f=>h (e.trans hk.symm))]
  ·rw [if_neg hk];by_cases h:g=k
   ·have hb:(g == k)=true:=beq_iff_eq.mpr h;simp only [List.lookup,hb,if_neg (fun e:g=f=>hk (h.symm.trans e))]
   ·have hb:(g == k)=false:=beq_eq_false_iff_ne.mpr h;simp only [List.lookup,hb];exact ih
theorem zE5 (f:Str) (v:V):∀ fs:List (Str×V),f∈(putF f v fs).map (·.1)∧∀ g,g∈fs.map (·.1)→g∈(putF f v fs).map (·.1)
 | []=>⟨by simp [putF],fun g h=>by simp at h⟩
 | (k,x) :: r=>by
  obtain ⟨i1,i2⟩:=zE5 f v r;rw [show putF f v ((k,x) :: r)=(if k=f then (k,v) :: r else (k,x) :: putF f v r) from rfl];by_cases hk:k=f
  ·rw [if_pos hk];subst hk;exact ⟨by simp,fun g h=>by simpa using h⟩
  ·rw [if_neg hk];refine ⟨?_,fun g h=>?_⟩
   ·rw [Zt];exact Zb _ i1
   ·rw [Zt] at h ⊢;rcases List.mem_cons.mp h with e | e
    ·exact List.mem_cons.mpr (.inl e)
    ·exact Zb _ (i2 g e)
theorem zCu (f:Str) (v:V):∀ fs:List (Str×V),(putF f v fs).length≤fs.length + 1
 | []=>by simp [putF]
 | (k,x) :: r=>by
  have ih:=zCu f v r;rw [show putF f v ((k,x) :: r)=(if k=f then (k,v) :: r else (k,x) :: putF f v r) from rfl];by_cases hk:k=f
  ·rw [if_pos hk,Zg,Zg];omega
  ·rw [if_neg hk,Zg,Zg];omega
theorem RelO.some_of {v:V}{o:Option Value} (r:RelO (some v) o):∃ u,o=some u∧RelV v u:=by
 cases o with
 | none=>exact (show False from r).elim
 | some u=>exact ⟨u,rfl,r⟩
theorem RelO.none_of {o:Option Value} (r:RelO none o):o=none:=by
 cases o with
 | none=>rfl
 | some u=>exact (show False from r).elim
theorem handed_of {v:V}{u:Value} (r:RelV v u):PySem.W.handedIn u=true:=by
 cases v with
 | non=>cases (show u=Value.none from r);rfl
 | bl b=>cases (show u=Value.bool b from r);rfl
 | int i=>obtain ⟨t,e⟩:=(show ∃ t,u=Value.int i t from r);cases e;rfl
 | str x=>obtain ⟨t,e⟩:=(show ∃ t,u=Value.str x t from r);cases e;rfl
 | byt b=>obtain ⟨t,e⟩:=(show ∃ t,u=Value.bytes b t from r);cases e;rfl
 | flt b=>obtain ⟨t,e⟩:=(show ∃ t,u=Value.float b t from r);cases e;rfl
 | ref a=>cases (show u=Value.ref a from r);rfl
 | ty n=>cases (show u=Value.type n from r);rfl
section
variable {P:Program}{w:World}{H H':Hp}{h h':Heap}{a C dx:Addr}{fs fs':List (Str×V)}
theorem zE8 (hok:HOk P w H h) (e:H a=some (.ins C dx fs)):∃ mA,ObjM h a dx C mA∧(∀ f,RelO (fs.lookup f) (mA f))∧PySem.Within mA (fs.map (·.1))∧fs.length≤1000∧H dx=some (.own a):=by
 obtain ⟨d,z,ne,ob,mA,n,r,q⟩:=(show ObjOk P w H h a (.ins C dx fs) from hok a _ e);exact ⟨mA,⟨ob,n,ne⟩,r,q,z,d⟩
end
structure Cls (K:PySem.W.Frag) (C:Addr):Prop where
 pg:PySem.W.plainGet K C Str.empty=true
 hd:PySem.W.hasDictIn K C=true
 po:PySem.W.plainOver K C=true
 sa:PySem.W.findIn K (.ref C) "__setattr__" = some (some (.builtin "object.__setattr__"))
theorem Cls.get {K:PySem.W.Frag}{C:Addr} (c:Cls K C) (f:Str):PySem.W.plainGet K C f=true:=c.pg
noncomputable def NoAttr (K:PySem.W.Frag) (C:Addr) (f:Str):Prop:=PySem.W.findIn K (.ref C) f=some none
theorem NoAttr.taker {K:PySem.W.Frag}{C:Addr}{f:Str} (n:NoAttr K C f):PySem.W.takerIn K C f=some none:=by
 unfold PySem.W.takerIn;rw [show PySem.W.findIn K (.ref C) f=some none from n];rfl
structure Meth (K:PySem.W.Frag) (C:Addr) (m:Str) (f:Addr):Prop where
 at_:PySem.W.findIn K (.ref C) m=some (some (.ref f))
 fn:PySem.W.isFn K (.ref f)=true
 kp:PySem.W.keepIn K (.ref f)=true
section
variable {X:Cx}{pins:List (Addr×Obj)}{σ : St}{H:Hp}{s:Shared}{a C dx:Addr}{fs:List (Str×V)}{f:Str}{v:V}{A:Around}{E:Value→Shared→Prop}
theorem getattr_ok {b:Bool}{Q:Value→Shared→Prop} (I:Inv X pins σ H s) (e:H a=some (.ins C dx fs)) (c:Cls X.K C) (n:NoAttr X.K C f) (l:fs.lookup f=some v)
  (h:∀ u s',Inv X pins σ H s'→RelV v u→Q u s'):wpAny (model X.prog X.w) A (getAttr (.ref a) f b) Q E s:=by
 obtain ⟨mA,O,r,_,_,_⟩:=zE8 I.hok e;obtain ⟨u,hu,ru⟩:=RelO.some_of (v:=v) (o:=mA f) (by rw [← l];exact r f);exact get_map I.kIn O (c.get f) c.hd n hu (handed_of ru) (h u _ (I.tok _) ru)
theorem zC2 {m:Str}{g:Addr}{pl:Sem Bool}{Q:Value×List Value→Shared→Prop} (I:Inv X pins σ H s) (e:H a=some (.ins C dx fs)) (c:Cls X.K C) (k:Meth X.K C m g) (l:fs.lookup m=none)
  (h:Q (.ref g,[.ref a]) s):wpAny (model X.prog X.w) A (getMethod (.ref a) m pl) Q E s:=by
 obtain ⟨mA,O,r,_,_,_⟩:=zE8 I.hok e;have hn:mA m=none:=RelO.none_of (by rw [← l];exact r m);exact get_meth I.kIn O (c.get m) k.at_ k.fn hn h
theorem setattr_ok {y:V}{u:Value}{Q:Unit→Shared→Prop} (I:Inv X pins σ H s) (e:H a=some (.ins C dx fs)) (c:Cls X.K C) (n:NoAttr X.K C f) (hl:fs.length < 1000) (ry:RelV y u)
  (h:∀ s',Inv X pins σ (upd H a (.ins C dx (putF f y fs))) s'→Q () s'):wpAny (model X.prog X.w) A (setAttr (.ref a) f u) Q E s:=by
 obtain ⟨mA,O,r,wi,_,ho⟩:=zE8 I.hok e;have hz:(fs.map (·.1)).length≤sizeLine:=by rw [Z1,sizeLine_eq];omega
 refine set_map I.kIn O c.sa c.po n.taker c.hd wi hz fun h' O' sb=>h _ ?_;have hd:∃ o,h'.get? dx=some o:=let ⟨o,_,_,e',_⟩:=O'.ns;⟨o,e'⟩;refine I.write (x:=a) (e:=dx) (by rw [e];exact True.intro) (.inr ho) (fun b q hb z=>(sb.2 b hb).trans z) hd ?_;refine ⟨by rw [zA6 O.ne];exact ho,?_,O.ne,O'.obj,_,O'.ns,fun g=>?_,fun g hg=>?_⟩
 ·have:=zCu f y fs;omega
 ·show RelO ((putF f y fs).lookup g) (if g=f then some u else mA g);rw [zAs];by_cases q:g=f
  ·rw [if_pos q,if_pos q];exact ry
  ·rw [if_neg q,if_neg q];exact r g
 ·by_cases q:g=f
  ·rw [q];exact (zE5 f y fs).1
  ·refine (zE5 f y fs).2 g (wi g fun z=>hg ?_);show (if g=f then some u else mA g)=none;rw [if_neg q];exact z
theorem Inv.made (I:Inv X pins σ H s):Inv X pins σ (upd (upd H s.heap.objs.size (.own (s.heap.objs.size + 1))) (s.heap.objs.size + 1) (.ins C s.heap.objs.size []))
  { s with heap:=(s.heap.push PySem.W.emptyDict).push (PySem.W.instObj C s.heap.objs.size) }:=by
 have e1:(s.heap.push PySem.W.emptyDict).get? s.heap.objs.size=some PySem.W.emptyDict:=Z6 s.heap rfl;have e2:((s.heap.push PySem.W.emptyDict).push (PySem.W.instObj C s.heap.objs.size)).get? (s.heap.objs.size + 1)=some (PySem.W.instObj C s.heap.objs.size):=by
  have:=Z6 (s.heap.push PySem.W.emptyDict) (o:=PySem.W.instObj C s.heap.objs.size) rfl
  rwa [Y2] at this
 have e3:(s.heap.push PySem.W.emptyDict).Ns s.heap.objs.size (fun _=>none):=⟨PySem.W.emptyDict,#[],_,e1,rfl,(fun e he=>absurd he (by simp)),fun _=>rfl⟩;have I1:=I.laid (a:=s.heap.objs.size) (o:=.own (s.heap.objs.size + 1)) (h':=s.heap.push PySem.W.emptyDict) (t':=s.toks) (fun b u q=>Z0 _ q) (Z2 _) ⟨_,e1⟩;refine I1.laid (a:=s.heap.objs.size + 1) (o:=.ins C s.heap.objs.size []) (t':=s.toks) (fun b u q=>Z0 _ q) (Nat.le_of_eq (Y2 _ _)) ?_;have ne:s.heap.objs.size≠s.heap.objs.size + 1:=Z9 (Y5 _);refine ⟨by rw [zA6 ne,zA1],Zl _,ne,e2,fun _=>none,(Heap.Ns1.of_empty e3).at fun o q=>Z0 _ q,fun _=>True.intro,fun y hy=>absurd rfl hy⟩
theorem attr_of {prog:Program}{w:World}{env:Env}{e:Expr}{f:Str}{pos:Pos}{s:Shared}{Q:Value→Shared→Prop} (hb:attributeBase e f env (eval e env)=eval e env)
  (h:wpAny (model prog w) A (eval e env) (fun o s₁=>wpAny (model prog w) A (getAttr o f true) Q E s₁) E s):wpAny (model prog w) A (eval (.Attribute e f pos) env) Q E s :=
 Attribute_any_ h (by rw [arm_eval_Attribute,hb])
end
noncomputable def tFld (K:PySem.W.Frag) (ta:TE) (f:Str):TE:=fun σ H Q=>ta σ H fun x H1=>∃ a C dx fs v,x=.ref a∧H1 a=some (.ins C dx fs)∧Cls K C∧NoAttr K C f∧fs.lookup f=some v∧Q v H1
noncomputable def sFld (K:PySem.W.Frag) (ta tv:TE) (f:Str):TS:=fun D σ H=>tv σ H fun y H1=>ta σ H1 fun x H2=>∃ a C dx fs,x=.ref a∧H2 a=some (.ins C dx fs)∧Cls K C∧NoAttr K C f∧fs.length < 1000 ∧
 D.nx σ (upd H2 a (.ins C dx (putF f y fs)))
section
variable {X:Cx}{o e value:Expr}{f:Str}{pos pos' tpos:Pos}{ta tv:TE}
theorem zAe (he:PE X e ta) (hb:attributeBase e f X.env (eval e X.env)=eval e X.env):PE X (.Attribute e f pos) (tFld X.K ta f):=by
 intro pins s σ H Q I h;refine attr_of hb (thn (he pins s σ H _ I h) fun u s1 ⟨x,H1,I1,rx,a,C,dx,fs,v,ex,ea,c,n,l,q⟩=>?_);subst ex;obtain rfl:u=Value.ref a:=rx;exact getattr_ok I1 ea c n l fun u' s2 I2 ru=>⟨v,H1,I2,ru,q⟩
theorem zAp (ha:PE X o ta) (hv:PE X value tv) (hs:swapsWith value (some (.Attribute o f pos')) pos.line X.env=pure false):PS X (.Assign [.Attribute o f pos'] value pos) (sFld X.K ta tv f):=by
 intro pins s σ H D I h;refine plainObj_wpAny_Assign_Attribute (thn (hv pins s σ H _ I h) fun u s1 ⟨y,H1,I1,ry,q⟩=>thn (ha pins s1 σ H1 _ I1 q) fun ov s2 ⟨x,H2,I2,rx,a,C,dx,fs,ex,ea,c,n,l,q2⟩=>?_) hs;subst ex;obtain rfl:ov=Value.ref a:=rx;exact setattr_ok I2 ea c n l ry fun s3 I3=>⟨σ,_,I3,q2⟩
theorem zE4 {pl:Sem Bool}{m:Str}{apos:Pos}{args:List Expr}{pins:List (Addr×Obj)}{s:Shared}{σ : St}{H:Hp}{Q:Value→Shared→Prop}{te:TE} (he:PE X e te) (I:Inv X pins σ H s)
  (h:te σ H fun x H1=>∃ a C dx fs g,x=.ref a∧H1 a=some (.ins C dx fs)∧Cls X.K C∧Meth X.K C m g∧fs.lookup m=none ∧
   ∀ s1,Inv X pins σ H1 s1→wpAny (model X.prog X.w) X.A (callWith pos (.ref g) [.ref a] (backTo pos (starEach args X.env)) (backToKw pos (keywordEach [] X.env))) Q X.xe s1)
  (ht:eval (.Call (.Attribute e m apos) args [] pos) X.env=(do
   let ov ← eval e X.env
   standAt apos.atName
   let (f,first) ← holding [ov] (getMethod ov m pl)
   callWith pos f first (backTo pos (starEach args X.env)) (backToKw pos (keywordEach [] X.env)))) :
  wpAny (model X.prog X.w) X.A (eval (.Call (.Attribute e m apos) args [] pos) X.env) Q X.xe s:=by
 refine PySem.W.methodCall_KW (pl:=pl) (thn (he pins s σ H _ I h) fun u s1 ⟨x,H1,I1,rx,a,C,dx,fs,g,ex,ea,c,k,l,q⟩=>?_) ht;subst ex;obtain rfl:u=Value.ref a:=rx;exact zC2 I1 ea c k l (q s1 I1)
end
section
variable {X:Cx}{pins:List (Addr×Obj)}{σ : St}{H:Hp}{s:Shared}{A:Around}{E:Value→Shared→Prop}{Q:Value→Shared→Prop}{c:Value}{b:Bool}
inductive TyOf (K:PySem.W.Frag) (H:Hp):V→Value→Prop where
 | non:TyOf K H .non (.type "NoneType")
 | bl (x:Bool):TyOf K H (.bl x) (.type "bool")
 | int (i:Int):TyOf K H (.int i) (.type "int")
 | str (x:Str):TyOf K H (.str x) (.type "str")
 | flt (x:UInt64):TyOf K H (.flt x) (.type "float")
 | lst {a:Addr}{xs:List V} (e:H a=some (.lst xs)):TyOf K H (.ref a) (.type "list")
 | frz {a:Addr}{o:Obj}{xs:List V} (e:H a=some (.frz o (.lst xs))):TyOf K H (.ref a) (.type "list")
 | tup {a:Addr}{xs:List V} (e:H a=some (.tup xs)):TyOf K H (.ref a) (.type "tuple")
 | dK {a:Addr}{kvs:List (Key×V)} (e:H a=some (.dK kvs)):TyOf K H (.ref a) (.type "dict")
 | dT {a:Addr}{kvs:List (List Key×V)} (e:H a=some (.dT kvs)):TyOf K H (.ref a) (.type "dict")
 | ins {a C dx:Addr}{fs:List (Str×V)} (e:H a=some (.ins C dx fs)) (cl:Cls K C) (ha:PySem.W.findIn K (.ref C) "__class__" = some (some (.builtin "object.__class__")))
   (hn:PySem.W.specialIn K (.builtin "object.__class__") "__get__" = some (some (.builtin "getset_descriptor.__get__"))) (htk:PySem.W.takesIn K (.builtin "object.__class__")=some true)
   (hm:PySem.W.mroIn K C (.type "object")=some true):TyOf K H (.ref a) (.ref C)
theorem isinst_ok {x:V}{u t:Value} (I:Inv X pins σ H s) (rx:RelV x u) (ty:TyOf X.K H x t) (e:PySem.W.kitOne X.K t c=some b) (h:∀ tk,Q (.bool b) { s with toks:=tk }) :
  wpAny (model X.prog X.w) A (call (.builtin "isinstance") [u,c]) Q E s:=by
 cases ty with
 | non=>cases (show u=Value.none from rx);exact PySem.W.kia_one PySem.W.kitx_none I.kIn True.intro e (fun z=>nomatch z) h
 | bl y=>cases (show u=Value.bool y from rx);exact PySem.W.kia_one PySem.W.kitx_bool I.kIn True.intro e (fun z=>nomatch z) h
 | int i=>obtain ⟨t,q⟩:=(show ∃ t,u=Value.int i t from rx);cases q;exact PySem.W.kia_one PySem.W.kitx_int I.kIn True.intro e (fun z=>nomatch z) h
 | str y=>obtain ⟨t,q⟩:=(show ∃ t,u=Value.str y t from rx);cases q;exact PySem.W.kia_one PySem.W.kitx_str I.kIn True.intro e (fun z=>nomatch z) h
 | flt y=>obtain ⟨t,q⟩:=(show ∃ t,u=Value.float y t from rx);cases q;exact PySem.W.kia_one PySem.W.kitx_float I.kIn True.intro e (fun z=>nomatch z) h
 | @lst a xs ea =>
  cases (show u=Value.ref a from rx);obtain ⟨_,_,n,_,h1⟩:=(show ObjOk X.prog X.w H s.heap a (.lst xs) from I.hok a _ ea);exact PySem.W.kia_one PySem.W.kitx_list I.kIn ⟨_,h1,rfl⟩ e (fun z=>nomatch z) h
 | @frz a ob xs ea =>
  cases (show u=Value.ref a from rx);obtain ⟨_,_,_,n,_,h1⟩:=(show ObjOk X.prog X.w H s.heap a (.frz ob (.lst xs)) from I.hok a _ ea);exact PySem.W.kia_one PySem.W.kitx_list I.kIn ⟨_,h1,rfl⟩ e (fun z=>nomatch z) h
 | @tup a xs ea =>
  cases (show u=Value.ref a from rx);obtain ⟨_,_,_,p⟩:=(show ObjOk X.prog X.w H s.heap a (.tup xs) from I.hok a _ ea);obtain ⟨o,h1,h2,_⟩:=p;exact PySem.W.kia_one PySem.W.kitx_tuple I.kIn ⟨o,h1,h2⟩ e (fun z=>nomatch z) h
 | @dK a kvs ea =>
  cases (show u=Value.ref a from rx);obtain ⟨_,_,vs,_,p⟩:=(show ObjOk X.prog X.w H s.heap a (.dK kvs) from I.hok a _ ea);obtain ⟨o,es,ep,h1,h2,_⟩:=p;exact PySem.W.kia_one PySem.W.kitx_dict I.kIn ⟨o,h1,h2.1⟩ e (fun z=>nomatch z) h
 | @dT a kvs ea =>
  cases (show u=Value.ref a from rx);obtain ⟨_,_,xs,_,o,es,ep,h1,h2,_⟩:=(show ObjOk X.prog X.w H s.heap a (.dT kvs) from I.hok a _ ea);exact PySem.W.kia_one PySem.W.kitx_dict I.kIn ⟨o,h1,h2.1⟩ e (fun z=>nomatch z) h
 | @ins a C dx fs ea cl ha hn htk hm =>
  cases (show u=Value.ref a from rx);obtain ⟨mA,O,_⟩:=zE8 I.hok ea;obtain ⟨od,J,_⟩:=O.look;exact PySem.W.kia_one (PySem.W.kitx_own (cl.get _) cl.hd ha hn htk hm) I.kIn J e (fun z=>nomatch z) h
end
end L2
namespace L2
open PySem PySem.Spec PyProof.Rows
structure RoomQ (q:Bool) (k:Nat) (A:Around):Prop where
 hd:q=true→A.handled=none
 dp:A.depth + 3 * k + 5 < recursionLimit
 un:A.units + 16 * k + 200 < cLine
noncomputable abbrev Room:=RoomQ true
theorem RoomQ.mono {q:Bool}{j k:Nat}{A:Around} (r:RoomQ q k A) (h:j≤k):RoomQ q j A:=⟨r.hd,by have:=r.dp;omega,by have:=r.un;omega⟩
theorem RoomQ.deeper {q:Bool}{k:Nat}{A:Around} (r:RoomQ q (k + 1) A) (env:Env):RoomQ q k (A.deeper env) :=
 ⟨r.hd,by have:=r.dp;show A.depth + 1 + 3 * k + 5 < _;omega,by have:=r.un;show A.units + 3 + 16 * k + 200 < _;omega⟩
theorem RoomQ.in1 {q:Bool}{k:Nat}{A:Around} (r:RoomQ q (k + 1) A):RoomQ q k A.in1 :=
 ⟨r.hd,by have:=r.dp;show A.depth + 3 * k + 5 < _;omega,by have:=r.un;show A.units + 1 + 16 * k + 200 < _;omega⟩
theorem make_depth {A:Around}{C:Addr}{us:List Value}{kw:List (Str×Value)}:(A.under (.builtin "type.__call__" ⟨.ref C :: us,kw⟩)).depth=A.depth + 1:=by
 first | rfl | simp [Around.under,Code.weight,Code.isCreation,Code.isGuard,Code.isCaller,Code.frames,Code.isFrame,guardIds]
theorem make_units {A:Around}{C:Addr}{us:List Value}{kw:List (Str×Value)}:(A.under (.builtin "type.__call__" ⟨.ref C :: us,kw⟩)).units=A.units + 1:=by
 first | rfl | simp [Around.under,Code.cUnits,Code.frames,Code.isFrame]
theorem RoomQ.make {q:Bool}{k:Nat}{A:Around} (r:RoomQ q (k + 1) A) (C:Addr) (us:List Value) (kw:List (Str×Value)):RoomQ q k (A.under (.builtin "type.__call__" ⟨.ref C :: us,kw⟩)) :=
 ⟨r.hd,by have:=r.dp;rw [make_depth];omega,by have:=r.un;rw [make_units];omega⟩
theorem RoomQ.depth {q:Bool}{k:Nat}{A:Around} (r:RoomQ q k A):A.depth < recursionLimit:=by have:=r.dp;omega
theorem RoomQ.units {q:Bool}{k:Nat}{A:Around} (r:RoomQ q k A):A.units + 64 < cLine:=by have:=r.un;omega
noncomputable def tNil:TA:=fun _ H Q=>Q [] H
noncomputable def tCons (ta:TE) (tr:TA):TA:=fun σ H Q=>ta σ H fun x H1=>tr σ H1 fun xs H2=>Q (x :: xs) H2
section
variable {X:Cx}{e:Expr}{es:List Expr}{te:TE}{t:TA}{pos:Pos}
theorem zA3:PA X [] tNil:=fun _ _ _ _ H Q I h=>Calls.spliced_nil ⟨[],H,I,.nil,h⟩
theorem zA0 (ha:PE X e te) (hr:PA X es t) (hs:starEach (e :: es) X.env=(false,eval e X.env) :: starEach es X.env:=by rfl):PA X (e :: es) (tCons te t):=by
 intro pos pins s σ H Q I h;rw [hs];show wpAny _ _ (spliced ((false,eval e X.env) :: backTo pos (starEach es X.env))) _ _ s;refine Calls.spliced_cons (thn (ha pins s σ H _ I h) fun u s1 ⟨x,H1,I1,r1,q1⟩=>?_);exact thn (hr pos pins s1 σ H1 _ I1 q1) fun us s2 ⟨xs,H2,I2,r2,q2⟩=>⟨x :: xs,H2,I2,.cons r1 r2,q2⟩
noncomputable def tTup (t:TA):TE:=fun σ H Q=>t σ H fun xs H1=>xs.length≤sizeLine∧∀ p,H1 p=none→Q (.ref p) (upd H1 p (.tup xs))
noncomputable def tLst (t:TA):TE:=fun σ H Q=>t σ H fun xs H1=>xs.length≤sizeLine∧∀ p,H1 p=none→Q (.ref p) (upd H1 p (.lst xs))
theorem zBr {x1} (h:PA X es t):PE X (.Tuple es x1 pos) (tTup t):=by
 intro pins s σ H Q I hq;refine wpAny_Tuple_spliced (thn (h pos pins s σ H _ I hq) fun us s1 ⟨xs,H1,I1,r,z,q⟩=>⟨by rw [← r.length];exact z,?_⟩);have hf:H1 s1.heap.objs.size=none:=I1.hok.fresh (Z2 _);refine ⟨.ref s1.heap.objs.size,upd H1 s1.heap.objs.size (.tup xs),I1.laid (t':=s1.toks) (fun b u e=>Z0 _ e) (Z2 _) ?_,rfl,q _ hf⟩;exact ⟨z,us,r,⟨_,Z6 _ rfl,rfl,_,rfl⟩⟩
theorem zB4 (h:PA X es t):PE X (.List es pos) (tLst t):=by
 intro pins s σ H Q I hq;refine wpAny_List_spliced (thn (h pos pins s σ H _ I hq) fun us s1 ⟨xs,H1,I1,r,z,q⟩=>⟨by rw [← r.length];exact z,?_⟩);have hf:H1 s1.heap.objs.size=none:=I1.hok.fresh (Z2 _);refine ⟨.ref s1.heap.objs.size,upd H1 s1.heap.objs.size (.lst xs),I1.laid (t':=s1.toks) (fun b u e=>Z0 _ e) (Z2 _) ?_,rfl,q _ hf⟩;exact ⟨z,us,0,r,Z6 _ rfl⟩
end
noncomputable abbrev Sp:=List V→Hp→VK→XK→Prop
noncomputable abbrev CXT:=List Env→Hp→Shared→XK→Value→Shared→Prop
structure Env0 (P:Program) (w:World) (K:PySem.W.Frag) (mg:Str→Option Value) (base:Heap) (A:Around) (outer:List Env) (s:Shared) (H:Hp):Prop where
 frames:A.frames=some outer
 mod:Mod K mg base
 bs:∀ b o,base.get? b=some o→s.heap.get? b=some o∧H b=none
 bsz:base.objs.size≤s.heap.objs.size
 funs:s.heap.FunFrames base outer
 frf:∀ b∈frs outer,H b=none
 hok:HOk P w H s.heap
 bare:AllBare s.gens
noncomputable def CE (outer:List Env) (P:Program) (w:World) (H:Hp) (s:Shared) (Q:VK) (u:Value) (s':Shared):Prop :=
 ∃ v H',s'.os=s.os∧AllBare s'.gens∧Un (frs outer) [] H H' s.heap s'.heap∧HOk P w H' s'.heap∧RelV v u∧Q v H'
noncomputable def CR (CX:CXT) (outer:List Env) (P:Program) (w:World) (H:Hp) (s:Shared) (Q:VK) (E:XK) (r:Result) (s':Shared):Prop :=
 match r with
 | .ok (.ret u)=>CE outer P w H s Q u s'
 | .ok _=>False
 | .error e=>CX outer H s E e s'
structure FnOkQ (q:Bool) (P:Program) (w:World) (K:PySem.W.Frag) (mg:Str→Option Value) (base:Heap) (CX:CXT) (k:Nat) (f:Addr) (fd:FuncData) (ps:List Str) (sp:Sp):Prop where
 len:∀ vs H Q E,sp vs H Q E→vs.length=ps.length
 run:∀ (A:Around) (outer:List Env) (s:Shared) (H:Hp) (args:Args) (us:List Value) (vs:List V) (Q:VK) (E:XK),RoomQ q k A→Env0 P w K mg base A outer s H→BindsTo s fd args (ps.zip us)→Vals vs us→sp vs H Q E →
  codeAny (model P w) A (.call (.ref f) args) (CR CX outer P w H s Q E) s
noncomputable abbrev FnOk:=FnOkQ true
theorem FnOk.imp {P:Program}{w:World}{K:PySem.W.Frag}{mg:Str→Option Value}{base:Heap}{CX:CXT}{k:Nat}{f:Addr}{fd:FuncData}{ps:List Str}{sp sp':Sp} (F:FnOk P w K mg base CX k f fd ps sp)
  (h:∀ vs H Q E,sp' vs H Q E→sp vs H Q E):FnOk P w K mg base CX k f fd ps sp' :=
 ⟨fun vs H Q E q=>F.len vs H Q E (h _ _ _ _ q),fun A outer s H args us vs Q E hr he hb hv hs=>F.run A outer s H args us vs Q E hr he hb hv (h _ _ _ _ hs)⟩
theorem Env0.make {P:Program}{w:World}{K:PySem.W.Frag}{mg:Str→Option Value}{base:Heap}{A:Around}{outer:List Env}{s:Shared}{H:Hp} (e:Env0 P w K mg base A outer s H) (C:Addr) (us:List Value) (kw:List (Str×Value)) :
  Env0 P w K mg base (A.under (.builtin "type.__call__" ⟨.ref C :: us,kw⟩)) outer s H:=⟨by first | exact e.frames | (simpa [Around.under,Code.envs,Code.isFrame,pushEnvs] using e.frames),e.mod,e.bs,e.bsz,e.funs,e.frf,e.hok,e.bare⟩
section
variable {X:Cx}{pins:List (Addr×Obj)}{σ : St}{H:Hp}{s s':Shared}
theorem Inv.env0 (I:Inv X pins σ H s):Env0 X.prog X.w X.K X.mg X.base X.A X.stack s H :=
 ⟨I.ok.frames,I.ok.mod,I.bs,Za I.ok.bsz I.sz,I.stack,I.stkFree,I.hok,I.bare⟩
theorem Inv.after {Q:VK}{u:Value} (I:Inv X pins σ H s) (h:CE X.stack X.prog X.w H s Q u s'):EP X pins σ Q u s':=by
 obtain ⟨v,H',os,bare,un,hok,r,q⟩:=h;obtain ⟨hh,g,d,t,os'⟩:=s';obtain rfl:os'=s.os:=os;exact ⟨v,H',I.call (h':=hh) (g':=g) (d':=d) (t':=t) (ch:=[]) un hok bare (fun b z=>absurd z (by simp)),r,q⟩
end
noncomputable def tCall (sp:Sp) (dvs:List V) (E:St→XK) (t:TA):TE:=fun σ H Q=>t σ H fun vs H1=>sp (vs++dvs) H1 Q (E σ)
noncomputable def tMeth (C:Addr) (m:Str) (sp:Sp) (dvs:List V) (E:St→XK) (ta:TE) (t:TA):TE:=fun σ H Q=>ta σ H fun x H1=>∃ a dx fs,x=.ref a∧H1 a=some (.ins C dx fs)∧fs.lookup m=none ∧
 t σ H1 fun vs H2=>sp (x :: (vs++dvs)) H2 Q (E σ)
noncomputable def tMake (C:Addr) (sp:Sp) (dvs:List V) (E:St→XK) (t:TA):TE:=fun σ H Q=>t σ H fun vs H1=>∀ x dx,H1 x=none→H1 dx=none→dx≠x →
 sp (.ref x :: (vs++dvs)) (upd (upd H1 dx (.own x)) x (.ins C dx [])) (fun v H2=>v=.non∧Q (.ref x) H2) (E σ)
noncomputable def Binds (K:PySem.W.Frag) (fd:FuncData) (ps:List Str) (ds:List Value):Prop :=
 ∀ (s:Shared) (us:List Value),K.In s.heap→(us++ds).length=ps.length→BindsTo s fd ⟨us,[]⟩ (ps.zip (us++ds))
theorem Binds.all {K:PySem.W.Frag}{fd:FuncData}{ps:List Str} (h:∀ us:List Value,us.length=ps.length→bindArgs fd ⟨us,[]⟩=pure (ps.zip us)):Binds K fd ps []:=fun s us _ hl=>by
 rw [List.append_nil] at hl ⊢;exact .of_eq (h us hl)
noncomputable def Passes (CX:CXT) (X:Cx) (E:St→XK):Prop:=∀ (pins:List (Addr×Obj)) (σ : St) (H:Hp) (s:Shared) (e:Value) (s':Shared),Inv X pins σ H s→CX X.stack H s (E σ) e s'→X.xe e s'
section
variable {X:Cx}{CX:CXT}{k:Nat}{f C:Addr}{fd:FuncData}{ps:List Str}{sp:Sp}{dvs:List V}{ds:List Value}{E:St→XK}{x m:Str}{p pos apos:Pos}{e o:Expr}{es:List Expr}{ta:TE}{t:TA}
theorem zEo {pins:List (Addr×Obj)}{σ : St}{H:Hp}{s:Shared}{Q:VK}{us:List Value}{vs:List V}{q:Bool} (F:FnOkQ q X.prog X.w X.K X.mg X.base CX k f fd ps sp) (hr:RoomQ q k X.A) (hb:Binds X.K fd ps ds) (hd:Vals dvs ds) (hx:Passes CX X E)
  (I:Inv X pins σ H s) (r:Vals vs us) (h:sp (vs++dvs) H Q (E σ)):wpAny (model X.prog X.w) X.A (call (.ref f) us) (EP X pins σ Q) X.xe s:=by
 have r2:Vals (vs++dvs) (us++ds):=r.append hd;have hl:(us++ds).length=ps.length:=by rw [← r2.length];exact F.len _ _ _ _ h
 refine wpAny_call (codeAny_mono (F.run X.A X.stack s H ⟨us,[]⟩ (us++ds) (vs++dvs) Q (E σ) hr I.env0 (hb s us I.kIn hl) r2 h) fun r s' hq=>?_);cases r with
 | error e=>exact hx pins σ H s e s' I hq
 | ok fl =>
  cases fl with
  | ret u=>exact I.after hq
  | next=>exact False.elim hq
  | brk=>exact False.elim hq
  | cont=>exact False.elim hq
theorem zA8 {q:Bool} (F:FnOkQ q X.prog X.w X.K X.mg X.base CX k f fd ps sp) (hr:RoomQ q k X.A) (hg:Gl X x) (hm:X.mg x=some (.ref f)) (hk:PySem.W.keepIn X.K (.ref f)=true) (hb:Binds X.K fd ps ds) (hd:Vals dvs ds) (hx:Passes CX X E)
  (ha:PA X (e :: es) t) (hdb:(x == ("__debug__" : Str))=false:=by decide) (he:starEach (e :: es) X.env=(false,eval e X.env) :: starEach es X.env:=by rfl) (hpl:(backTo pos (starEach es X.env)).any (·.1)=false:=by rfl) :
  PE X (.Call (.Name x p) (e :: es) [] pos) (tCall sp dvs E t):=by
 intro pins s σ H Q I h;refine wpAny_Call_Name_kw (zF8 I hg hm ?_ hdb);refine PySem.W.callWith_K (h₀:=X.base) I.ok.mod.kin hk (thn (ha pos pins s σ H _ I h) fun us s1 ⟨vs,H1,I1,r,q⟩=>⟨I1.kIn,?_⟩) he hpl;exact zEo F hr hb hd hx I1 r q
theorem zAl {pl:Sem Bool} (he:PE X o ta) (c:Cls X.K C) (hm:Meth X.K C m f) (F:FnOk X.prog X.w X.K X.mg X.base CX k f fd ps sp) (hr:Room k X.A) (hb:Binds X.K fd ps ds) (hd:Vals dvs ds) (hx:Passes CX X E) (ha:PA X (e :: es) t)
  (hst:starEach (e :: es) X.env=(false,eval e X.env) :: starEach es X.env:=by rfl) (hpl:(backTo pos (starEach es X.env)).any (·.1)=false:=by rfl)
  (ht:eval (.Call (.Attribute o m apos) (e :: es) [] pos) X.env=(do
   let ov ← eval o X.env
   standAt apos.atName
   let (f,first) ← holding [ov] (getMethod ov m pl)
   callWith pos f first (backTo pos (starEach (e :: es) X.env)) (backToKw pos (keywordEach [] X.env))):=by rfl) :
  PE X (.Call (.Attribute o m apos) (e :: es) [] pos) (tMeth C m sp dvs E ta t):=by
 intro pins s σ H Q I h;refine PySem.W.methodCall_KW (pl:=pl) (thn (he pins s σ H _ I h) fun u s1 ⟨x,H1,I1,rx,a,dx,fs,ex,ea,l,q⟩=>?_) ht;subst ex;obtain rfl:u=Value.ref a:=rx;refine zC2 I1 ea c hm l ?_;refine PySem.W.callWith_K (first:=[.ref a]) (h₀:=X.base) I.ok.mod.kin hm.kp (thn (ha pos pins s1 σ H1 _ I1 q) fun us s2 ⟨vs,H2,I2,r,q2⟩=>⟨I2.kIn,?_⟩) hst hpl;exact zEo (us:=.ref a :: us) (vs:=.ref a :: vs) F hr hb hd hx I2 (.cons rfl r) q2
theorem zBd {pl:Sem Bool} (he:PE X o ta) (c:Cls X.K C) (hm:Meth X.K C m f) (F:FnOk X.prog X.w X.K X.mg X.base CX k f fd ps sp) (hr:Room k X.A) (hb:Binds X.K fd ps ds) (hd:Vals dvs ds) (hx:Passes CX X E)
  (ht:eval (.Call (.Attribute o m apos) [] [] pos) X.env=(do
   let ov ← eval o X.env
   standAt apos.atName
   let (f,first) ← holding [ov] (getMethod ov m pl)
   callWith pos f first (backTo pos (starEach [] X.env)) (backToKw pos (keywordEach [] X.env))):=by rfl) :
  PE X (.Call (.Attribute o m apos) [] [] pos) (tMeth C m sp dvs E ta tNil):=by
 intro pins s σ H Q I h;refine PySem.W.methodCall_KW (pl:=pl) (thn (he pins s σ H _ I h) fun u s1 ⟨x,H1,I1,rx,a,dx,fs,ex,ea,l,q⟩=>?_) ht;subst ex;obtain rfl:u=Value.ref a:=rx;refine zC2 I1 ea c hm l ?_;exact PySem.W.callWith_K0 (first:=[.ref a]) I1.kIn hm.kp (zEo (us:=[.ref a]) (vs:=[.ref a]) F hr hb hd hx I1 (.cons rfl .nil) q)
structure Mk (K:PySem.W.Frag) (C f:Addr):Prop where
 makes:PySem.W.makesIn K C=true
 init:PySem.W.findIn K (.ref C) "__init__" = some (some (.ref f))
 fn:PySem.W.isFn K (.ref f)=true
 kp:PySem.W.keepIn K (.ref C)=true
theorem run_make {pins:List (Addr×Obj)}{σ : St}{H:Hp}{s:Shared}{Q:VK}{us:List Value}{vs:List V} (M:Mk X.K C f) (F:FnOk X.prog X.w X.K X.mg X.base CX k f fd ps sp) (hr:Room (k + 1) X.A) (hb:Binds X.K fd ps ds) (hd:Vals dvs ds)
  (hx:Passes CX X E) (I:Inv X pins σ H s) (r:Vals vs us)
  (h:∀ x dx,H x=none→H dx=none→dx≠x→sp (.ref x :: (vs++dvs)) (upd (upd H dx (.own x)) x (.ins C dx [])) (fun v H2=>v=.non∧Q (.ref x) H2) (E σ)) :
  wpAny (model X.prog X.w) X.A (call (.ref C) us) (EP X pins σ Q) X.xe s:=by
 have hq:=h (s.heap.objs.size + 1) s.heap.objs.size (I.hok.fresh (Nat.le_succ _)) (I.hok.fresh (Z2 _)) (Z9 (Y5 _));have I2:=Inv.made (C:=C) I;have r2:Vals (V.ref (s.heap.objs.size + 1) :: (vs++dvs)) (Value.ref (s.heap.objs.size + 1) :: (us++ds)):=.cons rfl (r.append hd);have hl:(Value.ref (s.heap.objs.size + 1) :: us++ds).length=ps.length:=by
  have e:=r2.length;rw [F.len _ _ _ _ hq] at e;exact e.symm
 refine wpAny_call (make_map (f:=f) I.kIn M.makes M.init (beq_iff_eq.mp M.fn) (codeAny_mono (F.run _ X.stack _ _ ⟨Value.ref (s.heap.objs.size + 1) :: us,[]⟩ (Value.ref (s.heap.objs.size + 1) :: (us++ds)) _ _ (E σ) (hr.make C us [])
  (I2.env0.make C us []) (hb _ (Value.ref (s.heap.objs.size + 1) :: us) I2.kIn hl) r2 hq) fun r s' hq'=>?_))
 cases r with
 | error e=>exact hx pins σ _ _ e s' I2 hq'
 | ok fl =>
  cases fl with
  | ret u =>
   obtain ⟨v,H',I3,rv,ev,q3⟩:=I2.after hq';subst ev;exact ⟨rv,⟨V.ref (s.heap.objs.size + 1),H',I3,rfl,q3⟩⟩
  | next=>exact False.elim hq'
  | brk=>exact False.elim hq'
  | cont=>exact False.elim hq'
theorem zBj (M:Mk X.K C f) (F:FnOk X.prog X.w X.K X.mg X.base CX k f fd ps sp) (hr:Room (k + 1) X.A) (hg:Gl X x) (hm:X.mg x=some (.ref C)) (hb:Binds X.K fd ps ds) (hd:Vals dvs ds) (hx:Passes CX X E)
  (ha:PA X (e :: es) t) (hdb:(x == ("__debug__" : Str))=false:=by decide) (he:starEach (e :: es) X.env=(false,eval e X.env) :: starEach es X.env:=by rfl) (hpl:(backTo pos (starEach es X.env)).any (·.1)=false:=by rfl) :
  PE X (.Call (.Name x p) (e :: es) [] pos) (tMake C sp dvs E t):=by
 intro pins s σ H Q I h;refine wpAny_Call_Name_kw (zF8 I hg hm ?_ hdb);refine PySem.W.callWith_K (h₀:=X.base) I.ok.mod.kin M.kp (thn (ha pos pins s σ H _ I h) fun us s1 ⟨vs,H1,I1,r,q⟩=>⟨I1.kIn,?_⟩) he hpl;exact run_make M F hr hb hd hx I1 r q
end
section
variable {X:Cx}{CX:CXT}{k:Nat}{f C:Addr}{fd:FuncData}{ps ks:List Str}{sp:Sp}{E:St→XK}{x m:Str}{p pos apos kpos:Pos}{e o:Expr}{es:List Expr}{kws:List Keyword}{te ta:TE}{t tk:TA}{nm:Option Str}
variable {g:List Value→List Value→List Value}{gV:List V→List V→List V}
end
structure FnScope (N P:List Str) (sc:Scope):Prop where
 kind:sc.kind=.function
 co:sc.isCoroutine=false
 gen:sc.isGenerator=false
 nd:N.Nodup
 pre:N.take P.length=P
 par:∀ x∈P,sc.names.lookup x=some .local∨sc.names.lookup x=some .cell
 nofree:∀ y∈sc.names,y.2≠.free
theorem bindL_out {kindOf:Str→Option NameKind}{x:Str}:∀ {binds:List (Str×Value)}{m:Str→Option Value},(∀ v,(x,v)∉binds)→bindL kindOf binds m x=m x
 | [],_,_=>rfl
 | (n,v) :: r,m,h=>by
  unfold bindL;rw [bindL_out fun w hw=>h w (Zb _ hw)];split
  ·have:x≠n:=by rintro rfl;exact h v Zn
   simp [this]
  ·rfl
theorem bindC_out {kindOf:Str→Option NameKind}{x:Str}:∀ {binds:List (Str×Value)}{m:Str→Option Value},(∀ v,(x,v)∉binds)→bindC kindOf binds m x=m x
 | [],_,_=>rfl
 | (n,v) :: r,m,h=>by
  unfold bindC;rw [bindC_out fun w hw=>h w (Zb _ hw)];split
  ·rfl
  ·have:x≠n:=by rintro rfl;exact h v Zn
   simp [this]
theorem bindL_get {kindOf:Str→Option NameKind}{x:Str}{v:Value}:∀ {P:List Str}{vs:List Value}{i:Nat}{m:Str→Option Value},P.Nodup→P[i]? = some x→vs[i]? = some v→kindOf x=some .local →
  bindL kindOf (P.zip vs) m x=some v
 | [],_,_,_,_,h,_,_=>by simp at h
 | _ :: _,[],_,_,_,_,h,_=>by simp at h
 | p :: P,w :: vs,0,m,nd,h1,h2,hk=>by
  simp at h1 h2;subst h1;subst h2;show bindL kindOf ((p,w) :: P.zip vs) m p=_;unfold bindL;rw [bindL_out fun v hv=>(List.nodup_cons.mp nd).1 (List.of_mem_zip hv).1,if_pos hk];simp
 | p :: P,w :: vs,i + 1,m,nd,h1,h2,hk=>by
  show bindL kindOf ((p,w) :: P.zip vs) m x=_;unfold bindL;exact bindL_get (i:=i) (List.nodup_cons.mp nd).2 (by simpa using h1) (by simpa using h2) hk
theorem bindC_get {kindOf:Str→Option NameKind}{x:Str}{v:Value}:∀ {P:List Str}{vs:List Value}{i:Nat}{m:Str→Option Value},P.Nodup→P[i]? = some x→vs[i]? = some v→kindOf x≠some .local →
  bindC kindOf (P.zip vs) m x=some v
 | [],_,_,_,_,h,_,_=>by simp at h
 | _ :: _,[],_,_,_,_,h,_=>by simp at h
 | p :: P,w :: vs,0,m,nd,h1,h2,hk=>by
  simp at h1 h2;subst h1;subst h2;show bindC kindOf ((p,w) :: P.zip vs) m p=_;unfold bindC;rw [bindC_out fun v hv=>(List.nodup_cons.mp nd).1 (List.of_mem_zip hv).1,if_neg hk];simp
 | p :: P,w :: vs,i + 1,m,nd,h1,h2,hk=>by
  show bindC kindOf ((p,w) :: P.zip vs) m x=_;unfold bindC;exact bindC_get (i:=i) (List.nodup_cons.mp nd).2 (by simpa using h1) (by simpa using h2) hk
noncomputable def start (N:List Str) (vs:List V):St:=vs.map some++List.replicate (N.length - vs.length) none
noncomputable def cxOfC (q:Bool) (CX:CXT) (P:Program) (w:World) (K:PySem.W.Frag) (mg:Str→Option Value) (base:Heap) (N:List Str) (qual:Str) (scope:Scope) (f:Addr) (cd:Value) (A:Around) (outer:List Env) (s:Shared) (H:Hp) (E:XK):Cx where
 prog:=P
 w:=w
 K:=K
 mg:=mg
 base:=base
 A:=A.deeper (envOfC qual scope s.heap.objs.size f cd)
 N:=N
 s₀:=s
 H₀:=H
 env:=envOfC qual scope s.heap.objs.size f cd
 outer:=outer
 stack:=envOfC qual scope s.heap.objs.size f cd :: outer
 ex:=[]
 calm:=q
 fn:=fun _=>true
 pn:=[]
 xe:=fun e s'=>wpAny (model P w) (A.deeper (envOfC qual scope s.heap.objs.size f cd)) (leaving (envOfC qual scope s.heap.objs.size f cd) e) (fun _ s''=>CX outer H s E e s'') (fun e' s''=>CX outer H s E e' s'') s'
noncomputable abbrev cxOf:=cxOfC true
theorem cell_has {sc:Scope}{n:Nat}{x:Str} (h:sc.names.lookup x=some .cell):∃ c,(cellsFrom n sc.names []).lookup x=some c:=by
 have q:=PySem.W.cellsFrom_some sc.names n [] (.inl h);exact Option.isSome_iff_exists.mp q
theorem inv_start {q:Bool}{CX:CXT}{P:Program}{w:World}{K:PySem.W.Frag}{mg:Str→Option Value}{base:Heap}{N ps:List Str}{qual:Str}{scope:Scope}{f:Addr}{cd:Value}{A:Around}{outer:List Env}{s s1:Shared}{H:Hp}{E:XK}{us:List Value}{vs:List V}
  (S:FnScope N ps scope) (hd:q=true→A.handled=none) (e0:Env0 P w K mg base A outer s H) (hl:vs.length=ps.length) (r:Vals vs us)
  (x:InCallC s s.heap.objs.size (bindL (envOfC qual scope s.heap.objs.size f cd).kindOf (ps.zip us) fun _=>none) (cellsFrom (s.heap.objs.size + 1) scope.names []) (bindC (envOfC qual scope s.heap.objs.size f cd).kindOf (ps.zip us) fun _=>none) s1) :
  Inv (cxOfC q CX P w K mg base N qual scope f cd A outer s H E) [] (start N vs) H s1:=by
 have hpl:ps.length≤N.length:=by have:=congrArg List.length S.pre;rw [Zy] at this;omega
 obtain ⟨h1,tk,rfl,hk⟩:=x.done;have noA:∀ b:Addr,b∉(cxOfC q CX P w K mg base N qual scope f cd A outer s H E).ex:=fun b z=>absurd (show b∈([]:List Addr) from z) (by simp)
 refine ⟨⟨e0.mod,S.kind,rfl,rfl,Z2 _,fun y z c h1 h2=>?_,fun y hy=>?_,fun y c _ h=>?_,hd,Around.frames_deeper e0.frames,.inr ⟨rfl,rfl⟩,fun b z=>absurd z (noA b),e0.bs,e0.bsz,fun b _ _=>noA b,fun b z=>absurd z (noA b),e0.funs,e0.frf⟩,
  rfl,e0.bare,Un.kept hk,⟨_,x.toInCall.ns,fun i y v h1 h2 h3=>?_⟩,fun y c h=>⟨_,x.cell y c h⟩,e0.hok.fresh (Z2 _),fun y c h=>?_,fun p hp=>absurd (show p∈([]:List (Addr×Obj)) from hp) (by simp),e0.hok.kept hk,?_⟩
 ·exact name_of_addr x.apart (PySem.mem_of_lookup h1) (PySem.mem_of_lookup h2)
 ·have hy:scope.names.lookup y=some .cell∨scope.names.lookup y=some .free:=hy;rcases hy with hy | hy
  ·exact cell_has hy
  ·exact absurd rfl (S.nofree _ (PySem.mem_of_lookup hy))
 ·exact Zd (x.above y c (PySem.mem_of_lookup h))
 ·have hi:i < vs.length:=by
   unfold start at h2;by_cases hi:i < vs.length
   ·exact hi
   ·rw [Y3 (by simpa using hi)] at h2;rw [List.getElem?_replicate] at h2;split at h2 <;> cases h2
  have ha:vs[i]? = some v:=by
   unfold start at h2;rw [Zr (by simpa using hi),Zf] at h2;cases e:vs[i]? with
   | none=>rw [e] at h2;cases h2
   | some a=>rw [e] at h2;cases h2;rfl
  obtain ⟨u,hu,rv⟩:=r.get ha;have hp:ps[i]? = some y:=by
   rw [← S.pre,List.getElem?_take_of_lt (by omega)];exact h1
  have ndP:ps.Nodup:=by rw [← S.pre];exact S.nd.sublist (List.take_sublist _ _)
  refine ⟨u,rv,?_⟩;rcases S.par y (Ze hp) with k | k
  ·exact .inl ⟨k,bindL_get ndP hp hu k⟩
  ·obtain ⟨c,e⟩:=cell_has (n:=s.heap.objs.size + 1) k;refine .inr ⟨.inl k,c,e,?_⟩;have q:=x.cell y c e;rw [bindC_get ndP hp hu (by show scope.names.lookup y≠_;rw [k];decide)] at q;exact q
 ·exact e0.hok.fresh (Zd (x.above y c (PySem.mem_of_lookup h)))
 ·unfold start;show _=N.length;rw [Zc,Z1,Zi];omega
theorem fn_of {q:Bool}{CX:CXT}{P:Program}{w:World}{K:PySem.W.Frag}{mg:Str→Option Value}{base:Heap}{k:Nat}{f:Addr}{name qual:Str}{params:Arguments}{body:List Stmt}{scope:Scope}{dV kV doc pm cdv ct oc:Value}{an od:Option Addr}
  {osl:Array (Option Value)}{N ps:List Str}{sp:Sp} (lk:K.lookup f=some ⟨oc,od,.func (PySem.W.fnOf name qual params body scope dV kV doc pm an cdv ct),osl⟩) (hcd:PySem.W.codeIn K cdv qual=true) (S:FnScope N ps scope)
  (len:∀ vs H Q E,sp vs H Q E→vs.length=ps.length)
  (hbody:∀ (A:Around) (outer:List Env) (s:Shared) (H:Hp) (vs:List V) (Q:VK) (E:XK),RoomQ q k (A.deeper (envOfC qual scope s.heap.objs.size f cdv))→sp vs H Q E →
   ∃ t,PSs (cxOfC q CX P w K mg base N qual scope f cdv A outer s H E) body t∧t { nx:=fun _ H'=>Q .non H',rt:=Q } (start N vs) H) :
  FnOkQ q P w K mg base CX (k + 1) f (PySem.W.fnOf name qual params body scope dV kV doc pm an cdv ct) ps sp:=by
 refine ⟨len,fun A outer s H args us vs Q E hr e0 hb r hsp=>?_⟩;have hl:=len _ _ _ _ hsp;have KX:K.In s.heap:=e0.mod.kin.keeps fun b o e=>(e0.bs b o e).1;have lim:s.heap.NoLimit:=e0.mod.nolimit.keeps fun b o e=>(e0.bs b o e).1;have hkind:∀ y∈ps.zip us,scope.names.lookup y.1=some .local∨(scope.names.lookup y.1=some .cell∧((cellsFrom (s.heap.objs.size + 1) scope.names []).lookup y.1).isSome=true):=fun ⟨n,v⟩ hy=>by
  rcases S.par n (List.of_mem_zip hy).1 with q | q
  ·exact .inl q
  ·exact .inr ⟨q,PySem.W.cellsFrom_some _ _ _ (.inl q)⟩
 refine codeAny_call_function hr.depth (KX _ _ lk) rfl S.co S.gen rfl (PySem.W.codeRec_of KX hcd) (hb _ _ _ _ ?_);refine wpAny_newFunctionEnv_cells S.kind hkind fun env he s1 x=>?_;subst he;refine ⟨lim.keeps x.toInCall.keep,codeAny_func ?_⟩;obtain ⟨t,ht,hq⟩:=hbody A outer s H vs Q E (hr.deeper _) hsp;have I:Inv (cxOfC q CX P w K mg base N qual scope f cdv A outer s H E) [] (start N vs) H s1:=inv_start S hr.hd e0 hl r x;refine wpAny_mono (ht [] s1 (start N vs) H _ I hq) (fun fl s' hs=>?_) fun e s' hs=>hs;have fin:∀ {σ':St}{H':Hp}{v:V}{u:Value},Inv (cxOfC q CX P w K mg base N qual scope f cdv A outer s H E) [] σ' H' s'→RelV v u→Q v H'→CE outer P w H s Q u s' :=
  fun {σ' H' v u} J rv z=>⟨v,H',J.os,J.bare,J.base,J.hok,rv,z⟩
 cases fl with
 | ret u =>
  obtain ⟨v,σ',H',J,rv,q⟩:=hs;exact fin J rv q
 | next =>
  obtain ⟨σ',H',J,q⟩:=hs;exact fin (v:=V.non) (u:=Value.none) J rfl q
 | brk =>
  obtain ⟨_,_,_,q⟩:=hs;exact False.elim q
 | cont =>
  obtain ⟨_,_,_,q⟩:=hs;exact False.elim q
end L2
namespace L2
open PySem PySem.Spec PyProof.Rows
section
variable {X:Cx}{x:Str}{p pos:Pos}{e:Expr}{es:List Expr}{t:TA}{id T:String}{r:List V→Hp→VK→Prop}
noncomputable def tCB (r:List V→Hp→VK→Prop) (t:TA):TE:=fun σ H Q=>t σ H fun vs H1=>r vs H1 Q
theorem zA9 (hc:CallR X (.builtin id) r) (hg:Gl X x) (hm:X.mg x=none) (hv:bootBuiltins x=some (.builtin id)) (ha:PA X (e :: es) t) (hn:x≠"__name__":=by decide) (hdb:(x == ("__debug__" : Str))=false:=by decide)
  (he:starEach (e :: es) X.env=(false,eval e X.env) :: starEach es X.env:=by rfl) (hpl:(backTo pos (starEach es X.env)).any (·.1)=false:=by rfl):PE X (.Call (.Name x p) (e :: es) [] pos) (tCB r t):=by
 intro pins s σ H Q I h;refine wpAny_Call_Name_kw (ld_blt I hg hm hv ?_ hn hdb);exact PyProof.Rows.callWith_builtin1 (thn (ha pos pins s σ H _ I h) fun us s1 ⟨vs,H1,I1,r1,q1⟩=>hc pins s1 σ H1 vs us Q I1 r1 q1) he hpl
theorem zB1 (hc:CallR X (.type T) r) (hg:Gl X x) (hm:X.mg x=none) (hv:bootBuiltins x=some (.type T)) (ha:PA X (e :: es) t) (hn:x≠"__name__":=by decide) (hdb:(x == ("__debug__" : Str))=false:=by decide)
  (he:starEach (e :: es) X.env=(false,eval e X.env) :: starEach es X.env:=by rfl) (hpl:(backTo pos (starEach es X.env)).any (·.1)=false:=by rfl):PE X (.Call (.Name x p) (e :: es) [] pos) (tCB r t):=by
 intro pins s σ H Q I h;refine wpAny_Call_Name_kw (ld_blt I hg hm hv ?_ hn hdb);exact PyProof.Rows.callWith_type1 (thn (ha pos pins s σ H _ I h) fun us s1 ⟨vs,H1,I1,r1,q1⟩=>hc pins s1 σ H1 vs us Q I1 r1 q1) he hpl
end
end L2
namespace HT
open PySem PyProof.Rows
section
open PySem.SeqAt
open PySem.AutoSeq1 (wpAny_loadPart')
open PySem.MeetsSeq PySem.MeetsSeq2 PySem.MeetsSeq3
end
section
variable {prog:Program}{w:World}{A:Around}{E:Value→Shared→Prop}{s:Shared}
theorem cat_tup {t b:Addr}{vs ws:List Value}{Q:Value→Shared→Prop} (ht:IsTup s.heap t vs.toArray) (hb:IsTup s.heap b ws.toArray) (hv:vs≠[])
  (h1:ws=[]→Q (.ref t) s) (h2:ws≠[]→Q (.ref s.heap.objs.size) { s with heap:=s.heap.push { cls:=.type "tuple",data:=.seq (vs++ws).toArray } })
  (hsz:vs.length + ws.length≤sizeLine):wpAny (model prog w) A (binaryOp .Add (.ref t) (.ref b)) Q E s:=by
 obtain ⟨⟨cls,dd,data,sl⟩,ho,hc,n,hd⟩:=id ht;obtain ⟨⟨cls2,dd2,data2,sl2⟩,ho2,hc2,n2,hd2⟩:=id hb;simp only at hc hd hc2 hd2;subst hc hd hc2 hd2;have e:vs.toArray++ws.toArray=(vs++ws).toArray:=by simp
 by_cases hw:ws=[]
 ·exact concat_meets ⟨_,ho,rfl⟩ ⟨_,ho2,rfl⟩ noFill_tuple_add seq_tuple_add PySem.F.slot_tuple_add PySem.F.entry_tuple_add (PySem.F.args_tuple_add_2 _ _)
   (tuple_addW1 t b vs.toArray ws.toArray n n2 dd dd2 sl sl2 (by simpa using hv) (by simp [hw])) ⟨ho,ho2,h1 hw⟩
 ·refine concat_meets ⟨_,ho,rfl⟩ ⟨_,ho2,rfl⟩ noFill_tuple_add seq_tuple_add PySem.F.slot_tuple_add PySem.F.entry_tuple_add (PySem.F.args_tuple_add_2 _ _)
   (tuple_addW2 t b vs.toArray ws.toArray n n2 dd dd2 sl sl2 (by simpa using hv) (by simpa using hw) (by rw [Z3,Z3];exact hsz)) ⟨ho,ho2,?_⟩
  rw [e];exact h2 hw
noncomputable def sIx (n d:Nat):Option Int→Nat
 | none=>d
 | some v=>if v < 0 then (v + (n:Int)).toNat else min v.toNat n
theorem sIx_le (n d:Nat) (hd:d≤n) (o:Option Int):sIx n d o≤n:=by
 cases o with
 | none=>exact hd
 | some v =>
  show (if v < 0 then (v + (n:Int)).toNat else min v.toNat n)≤n;by_cases hv:v < 0
  ·rw [if_pos hv];omega
  ·rw [if_neg hv];exact Nat.min_le_right _ _
theorem clip_eq (v:Int) (n d:Nat):(if v < 0 then max (v + (n:Int)) 0 else min v (n:Int))=((sIx n d (some v):Nat):Int):=by
 show (if v < 0 then max (v + (n:Int)) 0 else min v (n:Int))=(((if v < 0 then (v + (n:Int)).toNat else min v.toNat n):Nat):Int);by_cases hv:v < 0
 ·simp only [if_pos hv];omega
 ·simp only [if_neg hv];omega
theorem adjust_gen (lo hi:Option Int) (n:Nat):Builtin.Slice.sliceAdjust lo hi 1 (n:Int)=(((sIx n 0 lo:Nat):Int),((sIx n n hi:Nat):Int)):=by
 have h1:¬ ((1:Int) < 0):=by omega
 unfold Builtin.Slice.sliceAdjust;simp only [h1,if_false];refine Prod.ext ?_ ?_
 ·cases lo with
  | none=>rfl
  | some v=>exact clip_eq v n 0
 ·cases hi with
  | none=>rfl
  | some v=>exact clip_eq v n n
theorem places_gen (i j:Nat):Builtin.Slice.slicePlaces (i:Int) (j:Int) 1=j - i:=by
 unfold Builtin.Slice.slicePlaces;have h1:(1:Int) > 0:=by omega
 simp only [h1,if_true,Int.ediv_one];split <;> omega
theorem zEn {v:Value}{o:Option Int}{Q:Option Int→Shared→Prop} (p:IsPart v o) (h:Q o s):wpAny (model prog w) A (Builtin.Slice.slicePartIndex v) Q E s:=by
 cases p with
 | none=>exact slicePart_none h
 | int i t=>exact slicePart_int h
theorem zDr {sl:Addr}{vl vu:Value}{lo hi:Option Int}{n:Nat}{Q:Int×Int×Nat→Shared→Prop} (hs:s.heap.IsSliceOf sl vl vu .none) (pl:IsPart vl lo) (pu:IsPart vu hi)
  (h:Q (((sIx n 0 lo:Nat):Int),1,sIx n n hi - sIx n 0 lo) s):wpAny (model prog w) A (Builtin.Slice.sliceApplied (.ref sl) (pure (n:Int))) Q E s:=by
 obtain ⟨os,hos,hcs,hds⟩:=id hs;unfold Builtin.Slice.sliceApplied Builtin.Slice.sliceFields;refine wpAny_bind (wpAny_bind (wpAny_field hos hds (x:=vl) rfl (wpAny_bind (wpAny_field hos hds (x:=vu) rfl (wpAny_bind (wpAny_field hos hds (x:=.none) rfl (wpAny_pure ?_)))))));refine wpAny_bind (slicePart_none ?_);show wpAny _ _ (if ((1:Int) == 0)=true then _ else _) _ _ s;rw [if_neg (by decide)];refine wpAny_bind (zEn pl (wpAny_bind (zEn pu (wpAny_bind (wpAny_pure ?_)))));show wpAny _ _ (match Builtin.Slice.sliceAdjust lo hi 1 (n:Int) with | (lo,hi)=>pure (lo,(1:Int),Builtin.Slice.slicePlaces lo hi 1)) _ _ s;rw [adjust_gen lo hi n];show wpAny _ _ (pure (((sIx n 0 lo:Nat):Int),(1:Int),Builtin.Slice.slicePlaces ((sIx n 0 lo:Nat):Int) ((sIx n n hi:Nat):Int) 1)) _ _ s;rw [places_gen];exact wpAny_pure h
theorem pick_gen (xs:Array Value) (i k:Nat):((List.range k).filterMap fun (m:Nat)=>xs[((i:Int) + (m:Int) * 1).toNat]?).toArray=((xs.toList.drop i).take k).toArray:=by
 have e:(fun (m:Nat)=>xs[((i:Int) + (m:Int) * 1).toNat]?)=fun m=>xs[i + m]?:=by
  funext m;have:((i:Int) + (m:Int) * 1).toNat=i + m:=by omega
  rw [this]
 rw [e];have:=pick_run xs i k;rw [Y6] at this;have e2:((fun x=>xs[x]?) ∘ fun x=>i + x)=fun m=>xs[i + m]?:=rfl;rw [e2] at this;rw [this]
theorem getItem_tuple_cut {t sl:Addr}{items:Array Value}{vl vu:Value}{lo hi:Option Int}{Q:Value→Shared→Prop} (ht:IsTup s.heap t items) (hs:s.heap.IsSliceOf sl vl vu .none) (pl:IsPart vl lo) (pu:IsPart vu hi)
  (hw:¬ (sIx items.size 0 lo=0∧sIx items.size items.size hi=items.size))
  (h:Q (.ref s.heap.objs.size) { s with heap:=s.heap.push { cls:=.type "tuple",data:=.seq ((items.toList.drop (sIx items.size 0 lo)).take (sIx items.size items.size hi - sIx items.size 0 lo)).toArray } })
  (hsz:items.size≤sizeLine):wpAny (model prog w) A (getItem (.ref t) (.ref sl)) Q E s:=by
 have htake:sizeOk (.seq ((items.toList.drop (sIx items.size 0 lo)).take (sIx items.size items.size hi - sIx items.size 0 lo)).toArray):=by
  show ((items.toList.drop (sIx items.size 0 lo)).take (sIx items.size items.size hi - sIx items.size 0 lo)).toArray.size≤sizeLine;rw [Z3,Zy,List.length_drop,Zw];omega
 have hj:sIx items.size items.size hi≤items.size:=sIx_le _ _ (Z2 _) hi;obtain ⟨os,hos,hcs,hds⟩:=id hs;have hTs:s.TypeIs (.ref sl) "slice":=⟨os,hos,hcs⟩;unfold getItem
 try with_reducible refine wpAny_holding ?_
 first | refine wpAny_bind (wpAny_pure ?_) | skip
 refine wpAny_bind (wpAny_sequenceKey ht.typeIs (by decide) ?_)
 refine wpAny_bind (wpAny_callSpecial?_slot (name:=Str.ofString "__getitem__") ht.typeIs PyProof.Rows.slot_tuple_getitem
  (wpAny_call_entry PyProof.Rows.slot_tuple_getitem ht.typeIs entry_tuple_getitem ?_ (args_tuple_getitem _ _)))
 show wpAny _ _ (Builtin.Tuple.tupleItemsOf (.ref t) >>= _) _ _ s;refine wpAny_bind (tupleItemsOf_ ht ?_);refine wpAny_bind (wpAny_typeOf hTs ?_);rw [if_pos (by decide)];refine wpAny_bind (zDr hs pl pu ?_);have hno:¬ ((((sIx items.size 0 lo:Nat):Int) == 0 && (1:Int) == 1 && (sIx items.size items.size hi - sIx items.size 0 lo) == items.size)=true):=by
  intro q;rw [Zj,Zj] at q;have q1:((sIx items.size 0 lo:Nat):Int)=0:=eq_of_beq q.1.1;have q2:sIx items.size items.size hi - sIx items.size 0 lo=items.size:=eq_of_beq q.2;exact hw ⟨by omega,by omega⟩
 show wpAny _ _ (if (((sIx items.size 0 lo:Nat):Int) == 0 && (1:Int) == 1 && (sIx items.size items.size hi - sIx items.size 0 lo) == items.size)=true then _ else _) _ _ s;rw [if_neg hno,pick_gen]
 first
  | exact wpAny_bind (m:=Builtin.Tuple.tupleExact _) (wpAny_newObj_type (wpAny_pure ⟨_,rfl,wpAny_pure h⟩) htake)
  | exact wpAny_bind (m:=Builtin.Tuple.tupleExact _) (wpAny_newObj_type (wpAny_bind (wpAny_pure (wpAny_pure ⟨_,rfl,wpAny_pure h⟩))) htake)
  | exact wpAny_bind (wpAny_bind (m:=Builtin.Tuple.tupleExact _) (wpAny_newObj_type (wpAny_pure (wpAny_pure ⟨_,rfl,wpAny_pure h⟩)) htake))
  | exact wpAny_bind (wpAny_bind (m:=Builtin.Tuple.tupleExact _) (wpAny_newObj_type (wpAny_pure ⟨_,rfl,wpAny_pure h⟩) htake))
end
end HT
namespace L2
open PySem PySem.Spec PyProof.Rows
noncomputable abbrev TO:=St→Hp→(Option Int→Hp→Prop)→Prop
noncomputable def PO (X:Cx) (e:Option Expr) (t:TO):Prop :=
 ∀ (pins:List (Addr×Obj)) (s:Shared) (σ : St) (H:Hp) (Q:Option Int→Hp→Prop),Inv X pins σ H s→t σ H Q →
  wpAny (model X.prog X.w) X.A (evalPart e X.env) (fun u s'=>∃ o H',Inv X pins σ H' s'∧IsPart u o∧Q o H') X.xe s
noncomputable def tNoPart:TO:=fun _ H Q=>Q none H
noncomputable def tPart (t:TE):TO:=fun σ H Q=>t σ H fun x H1=>∃ i,x=.int i∧Q (some i) H1
section
variable {X:Cx}{e:Expr}{te:TE}{lo hi:Option Expr}{tl th:TO}{pos p2:Pos}
theorem zEz:PO X none tNoPart:=by
 intro pins s σ H Q I h;rw [evalPart_none];exact wpAny_pure ⟨none,H,I,.none,h⟩
theorem zDh (h:PE X e te):PO X (some e) (tPart te):=by
 intro pins s σ H Q I hw;rw [evalPart_some];refine thn (h pins s σ H _ I hw) fun u s1 ⟨x,H1,I1,r1,q1⟩=>?_;obtain ⟨i,rfl,q⟩:=q1;obtain ⟨t,rfl⟩:=r1;exact ⟨some i,H1,I1,.int i t,q⟩
noncomputable def SlR (X:Cx) (r:V→Option Int→Option Int→Hp→VK→Prop):Prop :=
 ∀ (pins:List (Addr×Obj)) (s:Shared) (σ : St) (H:Hp) (x:V) (v vl vu:Value) (lo hi:Option Int) (sl:Addr) (Q:VK),Inv X pins σ H s→RelV x v→s.heap.IsSliceOf sl vl vu .none→IsPart vl lo→IsPart vu hi→r x lo hi H Q →
  ∃ T id,typeLookup (.type T) "__getitem__" = pure (some (.builtin id))∧s.TypeIs v T∧wpAny (model X.prog X.w) X.A (getItem v (.ref sl)) (EP X pins σ Q) X.xe s
noncomputable def tSl (r:V→Option Int→Option Int→Hp→VK→Prop) (te:TE) (tl th:TO):TE:=fun σ H Q=>te σ H fun x H1=>tl σ H1 fun l H2=>th σ H2 fun u H3=>r x l u H3 Q
theorem zCn {r:V→Option Int→Option Int→Hp→VK→Prop} (hr:SlR X r) (he:PE X e te) (hl:PO X lo tl) (hu:PO X hi th):PE X (.Subscript e (.Slice lo hi none p2) pos) (tSl r te tl th):=by
 intro pins s σ H Q I h;refine Subscript_ (thn (he pins s σ H _ I h) fun v s1 ⟨x,H1,I1,r1,q1⟩=>?_);refine wpAny_Slice (thn (hl pins s1 σ H1 _ I1 q1) fun vl s2 ⟨l,H2,I2,pl,q2⟩=>thn (hu pins s2 σ H2 _ I2 q2) fun vu s3 ⟨u,H3,I3,pu,q3⟩=>?_);rw [evalPart_none];refine wpAny_pure ?_;have I4:Inv X pins σ H3 { s3 with heap:=s3.heap.push { cls:=.type "slice",data:=.fields #[vl,vu,.none] } }:=I3.kept (t':=s3.toks) fun b ob q=>Z0 _ q;obtain ⟨T,id,hT,ht,hg⟩:=hr pins { s3 with heap:=s3.heap.push { cls:=.type "slice",data:=.fields #[vl,vu,.none] } } σ H3 x v vl vu l u s3.heap.objs.size Q I4 r1 (Heap.IsSliceOf.new ..) pl pu q3;show wpAny (model X.prog X.w) X.A (subscriptTail e (.Slice lo hi none p2) v (.ref s3.heap.objs.size)) (EP X pins σ Q) X.xe { s3 with heap:=s3.heap.push { cls:=.type "slice",data:=.fields #[vl,vu,.none] } };exact tail_any (ops:=[.ref s3.heap.objs.size,v]) ht hT hg (by with_unfolding_all rfl)
noncomputable def cutV (xs:List V) (lo hi:Option Int):List V:=(xs.drop (HT.sIx xs.length 0 lo)).take (HT.sIx xs.length xs.length hi - HT.sIx xs.length 0 lo)
theorem zEd (xs:List V) (lo hi:Option Int):(cutV xs lo hi).length≤xs.length:=by
 unfold cutV;rw [Zy,List.length_drop];omega
noncomputable def rSlT (K:PySem.W.Frag):V→Option Int→Option Int→Hp→VK→Prop:=fun x lo hi H Q=>∃ a xs,x=.ref a∧SqT K H a xs ∧
 ¬ (HT.sIx xs.length 0 lo=0∧HT.sIx xs.length xs.length hi=xs.length)∧∀ p,H p=none→Q (.ref p) (upd H p (.tup (cutV xs lo hi)))
theorem sl_tup:SlR X (rSlT X.K):=by
 intro pins s σ H x v vl vu lo hi sl Q I rx hs pl pu h;obtain ⟨a,xs,rfl,hx,hw,q⟩:=h;cases rx;obtain ⟨its,r,ht,hz⟩:=I.tuple hx;have hlen:its.toArray.size=xs.length:=by rw [Z3];exact r.length.symm
 refine ⟨"tuple",_,PyProof.Rows.slot_tuple_getitem.lookup,ht.typeIs,?_⟩;refine HT.getItem_tuple_cut ht hs pl pu (by rw [hlen];exact hw) ?_ (by rw [hlen];exact hz);rw [hlen];refine ⟨.ref s.heap.objs.size,_,I.laid (t':=s.toks) (o:=.tup (cutV xs lo hi)) (fun b ob q=>Z0 _ q) (Z2 _) ?_,rfl,q _ (I.hok.fresh (Z2 _))⟩;exact ⟨Za (zEd xs lo hi) hz,_,(r.drop (HT.sIx xs.length 0 lo)).take (HT.sIx xs.length xs.length hi - HT.sIx xs.length 0 lo),IsTup.new _ _⟩
theorem Vals.nil_iff {xs:List V}{us:List Value} (r:Vals xs us):us=[] ↔ xs=[]:=by
 cases r with
 | nil=>simp
 | cons _ _=>simp
end
end L2
namespace L2
open PySem PySem.Spec PyProof.Rows
noncomputable def ixN (n:Nat) (i:Int):Option Nat:=if 0≤i then (if i < n then some i.toNat else none) else if -(n:Int)≤i then some (i + n).toNat else none
noncomputable def atI {α : Type} (xs:List α) (i:Int):Option α:=(ixN xs.length i).bind fun j=>xs[j]?
theorem ixN_seq {n:Nat}{i:Int}{j:Nat} (h:ixN n i=some j):seqIndex? i n=some j∧j < n∧-(n:Int)≤i∧i < n:=by
 unfold ixN at h;by_cases h0:0≤i
 ·rw [if_pos h0] at h;by_cases h1:i < n
  ·rw [if_pos h1] at h;have e:i.toNat=j:=Zh h;exact ⟨by rw [seqIndex_of h0 h1,e],by omega,by omega,h1⟩
  ·rw [if_neg h1] at h;cases h
 ·rw [if_neg h0] at h;by_cases h1 : -(n:Int)≤i
  ·rw [if_pos h1] at h;have e:(i + n).toNat=j:=Zh h;exact ⟨by rw [seqIndex_neg (by omega) h1,e],by omega,h1,by omega⟩
  ·rw [if_neg h1] at h;cases h
theorem atI_get {α : Type}{xs:List α}{i:Int}{v : α} (h:atI xs i=some v):∃ j,seqIndex? i xs.length=some j∧xs[j]? = some v∧j < xs.length∧-(xs.length:Int)≤i∧i < xs.length:=by
 unfold atI at h;cases e:ixN xs.length i with
 | none=>rw [e] at h;cases h
 | some j =>
  rw [e] at h;obtain ⟨h1,h2,h3,h4⟩:=ixN_seq e;exact ⟨j,h1,h,h2,h3,h4⟩
noncomputable def PlainIx (b:Expr):Prop:=∀ o i,subscripted b false o i=operate [o,i] (getItem o i)
noncomputable def IxR (X:Cx) (r:R2):Prop :=
 ∀ (value slice:Expr) (pins:List (Addr×Obj)) (s:Shared) (σ : St) (H:Hp) (x y:V) (v u:Value) (Q:VK),Inv X pins σ H s→RelV x v→RelV y u→r x y H Q →
  subscripted slice false v u=operate [v,u] (getItem v u)→wpAny (model X.prog X.w) X.A (subscriptTail value slice v u) (EP X pins σ Q) X.xe s
noncomputable def MtR (X:Cx) (id:String) (r:V→List V→Hp→VK→Prop):Prop :=
 ∀ (pins:List (Addr×Obj)) (s:Shared) (σ : St) (H:Hp) (x:V) (xs:List V) (v:Value) (us:List Value) (Q:VK),Inv X pins σ H s→RelV x v→Vals xs us→r x xs H Q →
  wpAny (model X.prog X.w) X.A (call (.builtin id) (v :: us)) (EP X pins σ Q) X.xe s
section
variable {X:Cx}{a b:Expr}{ta tb:TE}{pos:Pos}
theorem zAu {r:R2} (hr:IxR X r) (ha:PE X a ta) (hb:PE X b tb) (hs:PlainIx b):PE X (.Subscript a b pos) (tOp r ta tb):=by
 intro pins s σ H Q I h;exact Subscript_ (binT ha hb I h fun v u s2 x y H2 I2 rx ry q=>hr a b pins s2 σ H2 x y v u Q I2 rx ry q (hs _ _))
noncomputable def rIxL (K:PySem.W.Frag):R2:=fun x y H Q=>∃ p xs i v,x=.ref p∧y=.int i∧SqL K H p xs∧atI xs i=some v∧Q v H
noncomputable def rIxT (K:PySem.W.Frag):R2:=fun x y H Q=>∃ p xs i v,x=.ref p∧y=.int i∧SqT K H p xs∧atI xs i=some v∧Q v H
theorem zBi:IxR X (rIxL X.K):=by
 intro value slice pins s σ H x y v u Q I rx ry h hs;obtain ⟨p,xs,i,z,rfl,rfl,hq,he,q⟩:=h;cases rx;obtain ⟨t,rfl⟩:=ry;obtain ⟨its,r,pl,hz⟩:=I.list hq;obtain ⟨j,h1,h2,h3,h4,h5⟩:=atI_get he;obtain ⟨w,ew,rw'⟩:=r.get h2;have hl:=r.length;have hn:=line63;have fin:EP X pins σ Q w s:=⟨z,H,I,rw',q⟩;by_cases h0:0≤i
 ·have hj:i.toNat=j:=by
   rw [seqIndex_of h0 h5] at h1;exact Zh h1
  exact item_listR pl.isList h0 (by omega) (by rw [hj];simpa using ew) fin hs
 ·have hj:(i + (its.toArray.size:Int)).toNat=j:=by
   rw [seqIndex_neg (by omega) h4] at h1;rw [Z3,← hl];exact Zh h1
  exact subscriptTail_builtinR (x:=w) pl.isList.typeIs slot_list_getitem.lookup
   (wpAny_getItem_list_neg (Q:=fun r s'=>r=w∧EP X pins σ Q r s') pl.isList (by omega) (by rw [Z3] <;> omega) (by omega) (by rw [hj];simpa using ew) ⟨rfl,fin⟩) hs
theorem zAq:IxR X (rIxT X.K):=by
 intro value slice pins s σ H x y v u Q I rx ry h hs;obtain ⟨p,xs,i,z,rfl,rfl,hq,he,q⟩:=h;cases rx;obtain ⟨t,rfl⟩:=ry;obtain ⟨its,r,pl,hz⟩:=I.tuple hq;obtain ⟨j,h1,h2,h3,h4,h5⟩:=atI_get he;obtain ⟨w,ew,rw'⟩:=r.get h2;have hl:=r.length;have hn:=line63;have fin:EP X pins σ Q w s:=⟨z,H,I,rw',q⟩;exact subscriptTail_builtinR (x:=w) pl.typeIs slot_tuple_getitem.lookup
  (getItem_tuple (j:=j) (Q:=fun r s'=>r=w∧EP X pins σ Q r s') pl (by omega) (by omega) (by rw [Z3,← hl];exact h1) (by simpa using ew) ⟨rfl,fin⟩) hs
theorem mapSeq_set (its:List Value) (n j:Nat) (u:Value):Obj.mapSeq (·.setIfInBounds j u) { cls:=.type "list",data:=.seq its.toArray n }={ cls:=.type "list",data:=.seq (its.set j u).toArray n }:=by
 simp [Obj.mapSeq]
theorem Inv.lst {pins:List (Addr×Obj)}{σ : St}{H:Hp}{s:Shared}{p:Addr}{xs:List V} (I:Inv X pins σ H s) (h:H p=some (.lst xs)) :
  ∃ (its:List Value) (n:Nat),Vals xs its∧s.heap.get? p=some { cls:=.type "list",data:=.seq its.toArray n }∧xs.length≤sizeLine:=by
 obtain ⟨z,its,n,r,e⟩:=I.hok p _ h;exact ⟨its,n,r,e,z⟩
theorem Inv.lstUpd {pins:List (Addr×Obj)}{σ : St}{H:Hp}{s:Shared}{p:Addr}{xs ys:List V}{its its':List Value}{n n':Nat}{f:Obj→Obj} (I:Inv X pins σ H s) (h:H p=some (.lst xs))
  (ho:s.heap.get? p=some { cls:=.type "list",data:=.seq its.toArray n }) (hf:f { cls:=.type "list",data:=.seq its.toArray n }={ cls:=.type "list",data:=.seq its'.toArray n' }) (r:Vals ys its') (hz:ys.length≤sizeLine) (t:Nat) :
  Inv X pins σ (upd H p (.lst ys)) { s with heap:=s.heap.update p f,toks:=t }:=by
 have e:(s.heap.update p f).get? p=some { cls:=.type "list",data:=.seq its'.toArray n' }:=by
  rw [Heap.get?_update_self f ho (by rw [hf] <;> rfl),hf]
 refine I.write (x:=p) (e:=p) (by rw [h];trivial) (.inl rfl) (fun b u hb q=>(Heap.get?_update_other _ _ (Ne.symm hb)).trans q) ⟨_,e⟩ ?_;exact ⟨hz,its',n',r,e⟩
noncomputable def rSetL:V→V→V→Hp→(Hp→Prop)→Prop:=fun o i v H Q=>∃ p xs k j,o=.ref p∧i=.int k∧H p=some (.lst xs)∧ixN xs.length k=some j∧Q (upd H p (.lst (xs.set j v)))
theorem set_list:PSet X rSetL:=by
 intro pins s σ H o i v ov iv u Q I ro ri rv h;obtain ⟨p,xs,k,j,rfl,rfl,hp,hj,q⟩:=h;cases ro;obtain ⟨t,rfl⟩:=ri;obtain ⟨its,n,r,ho,hz⟩:=I.lst hp;obtain ⟨h1,h2,h3,h4⟩:=ixN_seq hj;have hl:=r.length;have hn:=line63;have I':Inv X pins σ (upd H p (.lst (xs.set j v))) { s with heap:=s.heap.update p (Obj.mapSeq (·.setIfInBounds j u)) } :=
  I.lstUpd hp ho (mapSeq_set its n j u) (r.set rv j) (by rw [List.length_set];exact hz) s.toks
 by_cases h0:0≤k
 ·have hk:k.toNat=j:=by
   rw [seqIndex_of h0 h4] at h1;exact Zh h1
  exact PySem.W.ki_setAt ho h0 (by omega) (by rw [Z3,← hl];exact h4) (by rw [hk];exact ⟨_,I',q⟩)
 ·have hk:(k + (its.toArray.size:Int)).toNat=j:=by
   rw [seqIndex_neg (by omega) h3] at h1;rw [Z3,← hl];exact Zh h1
  exact PySem.W.ki_setBack ho (by omega) (by rw [Z3,← hl];exact h3) (by omega) (by rw [hk];exact ⟨_,I',q⟩)
theorem slice_bounds (lo hi:Option Int) (n:Nat):(sliceBounds lo hi none n).1=((HT.sIx n 0 lo:Nat):Int)∧(sliceBounds lo hi none n).2.1=((HT.sIx n n hi:Nat):Int)∧(sliceBounds lo hi none n).2.2=1:=by
 refine ⟨?_,?_,rfl⟩
 ·cases lo with
  | none=>simp [sliceBounds,HT.sIx]
  | some i =>
   simp only [sliceBounds,HT.sIx,Option.getD_none,show (1:Int) > 0 by decide,if_true];by_cases h:i < 0
   ·simp only [h,if_true] <;> omega
   ·simp only [h,if_false] <;> omega
 ·cases hi with
  | none=>simp [sliceBounds,HT.sIx]
  | some i =>
   simp only [sliceBounds,HT.sIx,Option.getD_none,show (1:Int) > 0 by decide,if_true];by_cases h:i < 0
   ·simp only [h,if_true] <;> omega
   ·simp only [h,if_false] <;> omega
theorem zEw (its:List Value) (lo hi:Option Int):slicePick its.toArray lo hi none=((its.drop (HT.sIx its.length 0 lo)).take (HT.sIx its.length its.length hi - HT.sIx its.length 0 lo)).toArray:=by
 obtain ⟨h1,h2,h3⟩:=slice_bounds lo hi its.toArray.size;unfold slicePick;rw [h1,h2,h3];simp only [sliceRange_one,pick_run,Z3] <;> rfl
noncomputable def rSlL (K:PySem.W.Frag):V→Option Int→Option Int→Hp→VK→Prop:=fun x lo hi H Q=>∃ a xs,x=.ref a∧SqL K H a xs∧∀ p,H p=none→Q (.ref p) (upd H p (.lst (cutV xs lo hi)))
theorem sl_list:SlR X (rSlL X.K):=by
 intro pins s σ H x v vl vu lo hi sl Q I rx hs pl pu h;obtain ⟨a,xs,rfl,hx,q⟩:=h;cases rx;obtain ⟨its,r,ht,hz⟩:=I.list hx;have hlen:=r.length;refine ⟨"list",_,slot_list_getitem.lookup,ht.isList.typeIs,?_⟩;refine wpAny_getItem_list_slice ht.isList hs pl pu .none (by simp) ?_ (by rw [Z3] <;> omega);rw [zEw,← hlen];refine ⟨.ref s.heap.objs.size,_,I.laid (t':=s.toks) (o:=.lst (cutV xs lo hi)) (fun b ob q=>Z0 _ q) (Z2 _) ?_,rfl,q _ (I.hok.fresh (Z2 _))⟩;exact ⟨Za (zEd xs lo hi) hz,_,0,(r.drop (HT.sIx xs.length 0 lo)).take (HT.sIx xs.length xs.length hi - HT.sIx xs.length 0 lo),Z6 _ rfl⟩
noncomputable def flatV:V→Bool
 | .non=>true
 | .bl _=>true
 | .int _=>true
 | .str _=>true
 | _=>false
noncomputable def eqV:V→V→Bool
 | .non,.non=>true
 | .bl a,.bl b=>a == b
 | .bl a,.int b=>(if a then 1 else 0) == b
 | .int a,.bl b=>a == (if b then 1 else 0)
 | .int a,.int b=>a == b
 | .str a,.str b=>a == b
 | _,_=>false
theorem eqAt_V {A:Around}{s:Shared}{y x:V}{u v:Value} (ry:RelV y u) (rx:RelV x v) (fy:flatV y=true) (fx:flatV x=true):SeqAt.EqAt A s u v (eqV y x):=by
 cases y with
 | non =>
  cases ry;cases x with
  | non=>cases rx;exact SeqAt.EqAt.same _
  | bl b=>cases rx;exact SeqAt.EqAt.none_bool b
  | int b=>obtain ⟨t,rfl⟩:=rx;exact SeqAt.EqAt.none_int b t
  | str b=>obtain ⟨t,rfl⟩:=rx;exact SeqAt.EqAt.none_str b t
  | _=>exact absurd (show false=true from fx) Z8
 | bl a =>
  cases ry;cases x with
  | non=>cases rx;exact SeqAt.EqAt.bool_none a
  | bl b=>cases rx;exact SeqAt.EqAt.bool_bool a b
  | int b=>obtain ⟨t,rfl⟩:=rx;exact SeqAt.EqAt.bool_int a b t
  | str b=>obtain ⟨t,rfl⟩:=rx;exact SeqAt.EqAt.bool_str a b t
  | _=>exact absurd (show false=true from fx) Z8
 | int a =>
  obtain ⟨t',rfl⟩:=ry;cases x with
  | non=>cases rx;exact SeqAt.EqAt.int_none a t'
  | bl b=>cases rx;exact SeqAt.EqAt.int_bool a t' b
  | int b=>obtain ⟨t,rfl⟩:=rx;exact SeqAt.EqAt.int_int a t' b t
  | str b=>obtain ⟨t,rfl⟩:=rx;exact SeqAt.EqAt.int_str a t' b t
  | _=>exact absurd (show false=true from fx) Z8
 | str a =>
  obtain ⟨t',rfl⟩:=ry;cases x with
  | non=>cases rx;exact SeqAt.EqAt.str_none a t'
  | bl b=>cases rx;exact SeqAt.EqAt.str_bool a t' b
  | int b=>obtain ⟨t,rfl⟩:=rx;exact SeqAt.EqAt.str_int a t' b t
  | str b=>obtain ⟨t,rfl⟩:=rx;exact SeqAt.EqAt.str_str a t' b t
  | _=>exact absurd (show false=true from fx) Z8
 | _=>exact absurd (show false=true from fy) Z8
noncomputable def eqU (x:V) (u:Value):Bool:=match u with
 | .none=>eqV .non x
 | .bool b=>eqV (.bl b) x
 | .int i _=>eqV (.int i) x
 | .str z _=>eqV (.str z) x
 | _=>false
theorem eqU_of {x y:V}{u:Value} (r:RelV y u) (f:flatV y=true):eqU x u=eqV y x:=by
 cases y with
 | non=>cases r;rfl
 | bl b=>cases r;rfl
 | int i=>obtain ⟨t,rfl⟩:=r;rfl
 | str z=>obtain ⟨t,rfl⟩:=r;rfl
 | _=>exact absurd (show false=true from f) Z8
theorem zEh {x:V}:∀ {xs:List V}{us:List Value},Vals xs us→xs.all flatV=true→us.any (eqU x)=xs.any fun y=>eqV y x
 | _,_,.nil,_=>rfl
 | y :: xs,u :: us,.cons r t,f=>by
  rw [Y9,Zj] at f;rw [Yi,Yi,eqU_of r f.1,zEh t f.2]
theorem zCo {A:Around}{s:Shared}{x:V}{v:Value} (rx:RelV x v) (fx:flatV x=true):∀ {xs:List V}{us:List Value},Vals xs us→xs.all flatV=true→∀ u∈us,SeqAt.EqAt A s u v (eqU x u)
 | _,_,.nil,_=>fun u hu=>by cases hu
 | y :: xs,u :: us,.cons r t,f=>fun u' hu=>by
  rw [Y9,Zj] at f;rcases List.mem_cons.mp hu with rfl | hu
  ·rw [eqU_of r f.1];exact eqAt_V r rx f.1 fx
  ·exact zCo rx fx t f.2 u' hu
noncomputable def inV (x:V) (xs:List V):Bool:=xs.any fun y=>eqV y x
noncomputable def rIn (K:PySem.W.Frag) (neg:Bool):R2:=fun x y H Q=>∃ p xs,y=.ref p∧(SqL K H p xs∨SqT K H p xs)∧flatV x=true∧xs.all flatV=true∧Q (.bl (if neg then !inV x xs else inV x xs)) H
theorem zE3:OpR X (compareOp .In) (rIn X.K false):=by
 intro pins s σ H x y v u Q I rx ry h;obtain ⟨p,xs,rfl,hq,fx,fs,q⟩:=h;cases ry;rcases hq with hq | hq
 ·obtain ⟨its,r,pl,hz⟩:=I.list hq;refine SeqAt.in_listAt (eqU x) pl.isList (fun w hw=>zCo rx fx r fs w (by simpa using hw)) ⟨.bl _,H,I,rfl,?_⟩;rw [show its.toArray.any (eqU x)=its.any (eqU x) by simp,zEh r fs];exact q
 ·obtain ⟨its,r,pl,hz⟩:=I.tuple hq;refine SeqAt.in_tupleAt (eqU x) pl (fun w hw=>zCo rx fx r fs w (by simpa using hw)) ⟨.bl _,H,I,rfl,?_⟩;rw [show its.toArray.any (eqU x)=its.any (eqU x) by simp,zEh r fs];exact q
theorem op_notIn_seq:OpR X (compareOp .NotIn) (rIn X.K true):=by
 intro pins s σ H x y v u Q I rx ry h;obtain ⟨p,xs,rfl,hq,fx,fs,q⟩:=h;cases ry;rcases hq with hq | hq
 ·obtain ⟨its,r,pl,hz⟩:=I.list hq;refine SeqAt.notIn_listAt (eqU x) pl.isList (fun w hw=>zCo rx fx r fs w (by simpa using hw)) ⟨.bl _,H,I,rfl,?_⟩;rw [show its.toArray.any (eqU x)=its.any (eqU x) by simp,zEh r fs];exact q
 ·obtain ⟨its,r,pl,hz⟩:=I.tuple hq;refine SeqAt.notIn_tupleAt (eqU x) pl (fun w hw=>zCo rx fx r fs w (by simpa using hw)) ⟨.bl _,H,I,rfl,?_⟩;rw [show its.toArray.any (eqU x)=its.any (eqU x) by simp,zEh r fs];exact q
theorem zAv:CallR X (.builtin "len") (fun xs H Q=>∃ p ys,xs=[.ref p]∧(SqL X.K H p ys∨SqT X.K H p ys)∧Q (.int ys.length) H):=by
 intro pins s σ H xs us Q I r h;obtain ⟨p,ys,rfl,hq,q⟩:=h;obtain ⟨u,rfl,rx⟩:=vals1 r;cases rx;have hn:=line63;rcases hq with hq | hq
 ·obtain ⟨its,r',pl,hz⟩:=I.list hq;have hlen:=r'.length;exact Calls.call_len_list pl.isList (by simp only [Z3] <;> omega) ⟨.int ys.length,H,I.tok _,⟨s.toks + 1,by rw [Z3,hlen]⟩,q⟩
 ·obtain ⟨its,r',pl,hz⟩:=I.tuple hq;have hlen:=r'.length;exact len_tuple pl (by simp only [Z3] <;> omega) ⟨.int ys.length,H,I.tok _,⟨s.toks + 1,by rw [Z3,hlen]⟩,q⟩
theorem zCl:CallR X (.builtin "len") (fun xs H Q=>∃ z,xs=[.str z]∧z.length≤sizeLine∧Q (.int z.length) H):=by
 intro pins s σ H xs us Q I r h;obtain ⟨z,rfl,hz,q⟩:=h;obtain ⟨u,rfl,t,rfl⟩:=vals1 r;have hn:=line63;exact len_str (by omega) ⟨.int z.length,H,I.tok _,⟨_,rfl⟩,q⟩
theorem zDq:CallR X (.type "list") (fun xs H Q=>∃ p ys,xs=[.ref p]∧(SqL X.K H p ys∨SqT X.K H p ys)∧∀ l,H l=none→Q (.ref l) (upd H l (.lst ys))):=by
 intro pins s σ H xs us Q I r h;obtain ⟨p,ys,rfl,hq,q⟩:=h;obtain ⟨u,rfl,rx⟩:=vals1 r;cases rx
 have fin:∀ (its:List Value),Vals ys its→ys.length≤sizeLine→∀ (h':Heap) (c':Nat),(∀ b o',s.heap.get? b=some o'→h'.get? b=some o') →
   h'.get? s.heap.objs.size=some { cls:=.type "list",dict:=none,data:=.seq its.toArray c',slots:=#[] }→EP X pins σ Q (.ref s.heap.objs.size) { s with heap:=h' }:=fun its r' hz h' c' kp e =>
  ⟨.ref s.heap.objs.size,_,I.laid (t':=s.toks) kp (Z2 _) (show ObjOk X.prog X.w _ h' _ (.lst ys) from ⟨hz,its,c',r',e⟩),rfl,q _ (I.hok.fresh (Z2 _))⟩
 rcases hq with hq | hq
 ·obtain ⟨its,r',pl,hz⟩:=I.list hq;have hlen:=r'.length;obtain ⟨o,ho,hc,n,hd⟩:=pl.isList;exact call_list_seq p (.inl rfl) ho hc hd (fun h' c' kp e=>fin its r' hz h' c' kp e) (by simp only [Z3] <;> omega)
 ·obtain ⟨its,r',pl,hz⟩:=I.tuple hq;have hlen:=r'.length;obtain ⟨o,ho,hc,n,hd⟩:=pl;exact call_list_seq p (.inr rfl) ho hc hd (fun h' c' kp e=>fin its r' hz h' c' kp e) (by simp only [Z3] <;> omega)
theorem zFb:CallR X (.type "tuple") (fun xs H Q=>∃ p ys,xs=[.ref p]∧((SqL X.K H p ys∧∀ l,H l=none→Q (.ref l) (upd H l (.tup ys)))∨(SqT X.K H p ys∧Q (.ref p) H))):=by
 intro pins s σ H xs us Q I r h;obtain ⟨p,ys,rfl,h⟩:=h;obtain ⟨u,rfl,rx⟩:=vals1 r;cases rx;rcases h with ⟨hq,q⟩ | ⟨hq,q⟩
 ·obtain ⟨its,r',pl,hz⟩:=I.list hq;have hlen:=r'.length;refine call_tuple_list pl.isList (fun h' kp=>?_) (by simp only [Z3] <;> omega);have I1:Inv X pins σ H { s with heap:=h' }:=I.kept (t':=s.toks) kp;have I2:Inv X pins σ (upd H h'.objs.size (.tup ys)) { s with heap:=h'.push { cls:=.type "tuple",data:=.seq its.toArray } } :=
   I1.laid (t':=s.toks) (fun b o e=>Z0 _ e) (Z2 _) (show ObjOk X.prog X.w _ _ _ (.tup ys) from ⟨hz,its,r',IsTup.new _ _⟩)
  exact ⟨.ref h'.objs.size,_,I2,rfl,q _ (I1.hok.fresh (Z2 _))⟩
 ·obtain ⟨its,r',pl,hz⟩:=I.tuple hq;exact call_tuple_same pl ⟨.ref p,H,I,rfl,q⟩
noncomputable def tyV (K:PySem.W.Frag) (T:String) (x:V) (H:Hp):Prop:=match x with
 | .str _=>T = "str"
 | .int _=>T = "int"
 | .ref p=>(T = "list"∧∃ xs,SqL K H p xs)∨(T = "tuple"∧∃ o,K.lookup p=some o∧o.cls=.type "tuple"∧o.dict=none) ∨
   (T = "dict"∧((∃ kvs,H p=some (.dK kvs))∨∃ kvs,H p=some (.dT kvs)))∨(T = "set"∧∃ S n,H p=some (.set S n))
 | _=>False
theorem tyV_is {pins:List (Addr×Obj)}{σ : St}{H:Hp}{s:Shared}{T:String}{x:V}{v:Value} (I:Inv X pins σ H s) (r:RelV x v) (ty:tyV X.K T x H) :
  s.TypeIs v T∧∀ a,v=.ref a→∃ ob,s.heap.get? a=some ob∧ob.dict=none:=by
 cases x with
 | str z =>
  obtain ⟨t,rfl⟩:=r;cases (show T = "str" from ty);exact ⟨typeIs_str s z t,fun _ e=>nomatch e⟩
 | int i =>
  obtain ⟨t,rfl⟩:=r;cases (show T = "int" from ty);exact ⟨typeIs_int s i t,fun _ e=>nomatch e⟩
 | ref p =>
  cases r;rcases ty with ⟨rfl,xs,hq⟩ | ⟨rfl,o,hk,hc,hd⟩ | ⟨rfl,hk⟩ | ⟨rfl,S,n,hk⟩
  ·obtain ⟨its,_,pl,_⟩:=I.list hq;refine ⟨pl.isList.typeIs,fun a e=>?_⟩;cases e;obtain ⟨o,n,e,c,hd,_⟩:=pl;exact ⟨o,e,hd⟩
  ·refine ⟨⟨o,I.kIn p o hk,hc⟩,fun a e=>?_⟩;cases e;exact ⟨o,I.kIn _ o hk,hd⟩
  ·have z:∃ o,s.heap.get? p=some o∧o.ExactDict:=by
    rcases hk with ⟨kvs,hk⟩ | ⟨kvs,hk⟩
    ·obtain ⟨_,_,_,_,o,_,_,e,ex,_⟩:=I.hok p _ hk;exact ⟨o,e,ex⟩
    ·obtain ⟨_,_,_,_,o,_,_,e,ex,_⟩:=I.hok p _ hk;exact ⟨o,e,ex⟩
   obtain ⟨o,e,ex⟩:=z;refine ⟨⟨o,e,ex.1⟩,fun a e2=>?_⟩;cases e2;exact ⟨o,e,ex.2.1⟩
  ·obtain ⟨o,_,_,_,e,ex,_⟩:=I.hok p _ hk;refine ⟨⟨o,e,ex.1⟩,fun a e2=>?_⟩;cases e2;exact ⟨o,e,ex.2.1⟩
 | _=>exact False.elim ty
noncomputable def tBM (K:PySem.W.Frag) (T:String) (r:V→List V→Hp→VK→Prop) (to:TE) (t:TA):TE:=fun σ H Q=>to σ H fun x H1=>tyV K T x H1∧t σ H1 fun xs H2=>r x xs H2 Q
variable {o e:Expr}{es:List Expr}{to:TE}{t:TA}{name:Str}{apos cpos:Pos}{T id:String}{r:V→List V→Hp→VK→Prop}
theorem zE0 (pa:PlainAttrs T) (slot:Slot T name id) (hty:typeOf (.builtin id)=pure (.type "method_descriptor")) (hm:MtR X id r) (ho:PE X o to) (ha:PA X (e :: es) t)
  (hbase:attributeBase o name X.env (eval o X.env)=eval o X.env:=by rfl)
  (hfew:((backTo cpos (starEach (e :: es) X.env)).all (fun x=>!x.1) && (backToKw cpos (keywordEach [] X.env)).all (fun x=>x.1.isSome)
   && decide ((e :: es).length + ([]:List Keyword).length + (if ([]:List Keyword).isEmpty then 0 else 1) < 30))=true:=by rfl)
  (hline:(apos.endLine == cpos.line)=true:=by rfl) (hs:starEach (e :: es) X.env=(false,eval e X.env) :: starEach es X.env:=by rfl) (hplain:(backTo cpos (starEach es X.env)).any (·.1)=false:=by rfl) :
  PE X (.Call (.Attribute o name apos) (e :: es) [] cpos) (tBM X.K T r to t):=by
 intro pins s σ H Q I h;refine wpAny_Call_method_late hbase hfew hline rfl (thn (ho pins s σ H _ I h) fun v s1 ⟨x,H1,I1,r1,ty,q1⟩=>?_);obtain ⟨h1,h2⟩:=tyV_is I1 r1 ty;refine ⟨T,id,pa,slot,hty,h1,h2,?_⟩;have hA:=ha cpos pins s1 σ H1 _ I1 q1;rw [hs] at hA ⊢;refine Calls.callWith_builtin (by show (false || (backTo cpos (starEach es X.env)).any (·.1))=false;rw [hplain] <;> rfl) (Calls.evalArgs_plain ?_);exact thn hA fun us s2 ⟨vs,H2,I2,r2,q2⟩=>hm pins s2 σ H2 x vs v us Q I2 r1 r2 q2
end
end L2
namespace L2
open PySem PySem.Spec PyProof.Rows
noncomputable def MtM (X:Cx) (id:String) (r:V→List V→Hp→VK→Prop):Prop :=
 ∀ (pins:List (Addr×Obj)) (s:Shared) (σ : St) (H:Hp) (x:V) (xs:List V) (v:Value) (us:List Value) (Q:VK),Inv X pins σ H s→RelV x v→Vals xs us→r x xs H Q →
  wpAny (model X.prog X.w) X.A (call (.builtin id) (v :: us)) (EP X pins σ Q) X.xe s
theorem Vals.one:∀ {x:V}{us:List Value},Vals [x] us→∃ u,us=[u]∧RelV x u
 | _,_,.cons r .nil=>⟨_,rfl,r⟩
theorem Vals.dropLast {xs:List V}{us:List Value} (h:Vals xs us):Vals xs.dropLast us.dropLast:=by
 induction h with
 | nil=>exact .nil
 | cons r t ih =>
  cases t with
  | nil=>exact .nil
  | cons q t'=>exact .cons r ih
theorem Vals.eraseIdx:∀ {xs:List V}{us:List Value} (i:Nat),Vals xs us→Vals (xs.eraseIdx i) (us.eraseIdx i)
 | _,_,_,.nil=>.nil
 | _,_,0,.cons _ t=>t
 | _,_,i + 1,.cons r t=>.cons r (Vals.eraseIdx i t)
theorem Vals.rep {xs:List V}{us:List Value} (h:Vals xs us):∀ k:Nat,Vals (List.replicate k xs).flatten (List.replicate k us).flatten
 | 0=>.nil
 | k + 1=>by
  rw [Zx,Zx,Yf,Yf];exact Vals.append h (Vals.rep h k)
theorem erase_last {α : Type} (l:List α):l.eraseIdx (l.length - 1)=l.dropLast:=by
 induction l with
 | nil=>rfl
 | cons a r ih =>
  cases r with
  | nil=>rfl
  | cons b r =>
   have e:(a :: b :: r).length - 1=((b :: r).length - 1) + 1:=by
    have h1:(a :: b :: r).length=r.length + 2:=rfl;have h2:(b :: r).length=r.length + 1:=rfl;omega
   rw [e,List.eraseIdx_cons_succ,ih]
   all_goals rfl
theorem foldl_rep (its:List Value):∀ (k:Nat) (acc:List Value),
  List.foldl (fun x1 x2=>x1++x2) acc.toArray (List.replicate k its.toArray)=(acc++(List.replicate k its).flatten).toArray
 | 0,acc=>by simp
 | k + 1,acc=>by
  have e:acc.toArray++its.toArray=(acc++its).toArray:=by simp
  have e2:(acc++its)++(List.replicate k its).flatten=acc++(List.replicate (k + 1) its).flatten:=by
   rw [Zx,Yf,List.append_assoc]
  rw [← e2,← foldl_rep its k (acc++its),← e,Zx,Y7]
section
variable {X:Cx}{pins:List (Addr×Obj)}{σ : St}{H:Hp}{s:Shared}{l b:Addr}{xs ys zs:List V}
theorem Inv.lset {its its':List Value}{n:Nat}{f:Array Value→Array Value}{t':Nat} (I:Inv X pins σ H s) (hH:H l=some (.lst xs))
  (e:s.heap.get? l=some { cls:=.type "list",data:=.seq its.toArray n }) (hf:f its.toArray=its'.toArray) (hv:Vals ys its') (hz:ys.length≤sizeLine) :
  Inv X pins σ (upd H l (.lst ys)) { s with heap:=s.heap.update l (Obj.mapSeq f),toks:=t' }:=by
 have q:=PySem.IsL.update e f;rw [hf] at q;refine I.write (x:=l) (e:=l) (by rw [hH];exact trivial) (.inl rfl) (fun b' u hb hu=>(Heap.get?_update_other s.heap (Obj.mapSeq f) (Ne.symm hb)).trans hu) ⟨_,q⟩ ?_;exact ⟨hz,its',_,hv,q⟩
theorem Inv.lnew {its:List Value}{t':Nat} (I:Inv X pins σ H s) (hv:Vals ys its) (hz:ys.length≤sizeLine) :
  Inv X pins σ (upd H s.heap.objs.size (.lst ys)) { s with heap:=s.heap.push { cls:=.type "list",data:=.seq its.toArray },toks:=t' } :=
 I.laid (fun _ _ q=>Z0 _ q) (Z2 _) ⟨hz,its,0,hv,Z6 _ rfl⟩
theorem Inv.fresh (I:Inv X pins σ H s):H s.heap.objs.size=none:=I.hok.fresh (Z2 _)
theorem Inv.lstM (I:Inv X pins σ H s) (hH:H l=some (.lst xs)):xs.length≤sizeLine∧∃ (its:List Value) (n:Nat),Vals xs its∧xs.length=its.length∧s.heap.get? l=some { cls:=.type "list",data:=.seq its.toArray n }:=by
 obtain ⟨z,its,n,r,e⟩:=I.hok l _ hH;exact ⟨z,its,n,r,r.length,e⟩
theorem notLongL {n:Nat} (h:n≤sizeLine):Builtin.List.listTooLong n=false:=by
 unfold Builtin.List.listTooLong;exact decide_eq_false (by omega)
end
section
variable {X:Cx}
noncomputable def rAppend:V→List V→Hp→VK→Prop:=fun x vs H Q=>∃ l xs y,x=.ref l∧vs=[y]∧H l=some (.lst xs)∧xs.length < sizeLine∧Q .non (upd H l (.lst (xs++[y])))
theorem mt_append:MtM X "list.append" rAppend:=by
 intro pins s σ H x vs v us Q I rx rv h;obtain ⟨l,xs,y,rfl,rfl,hH,hz,q⟩:=h;cases rx;obtain ⟨u,rfl,ru⟩:=rv.one;obtain ⟨z,its,n,r,hl,e⟩:=I.lstM hH;refine call_meets F.slot_list_append ⟨_,e,rfl⟩ F.entry_list_append (F.args_list_append_2 _ _) (PySem.list_append l its.toArray n u (by rw [Z3];omega)) ⟨e,?_⟩;refine ⟨.non,_,I.lset (its':=its++[u]) hH e (by simp) (r.append (.cons ru .nil)) ?_,rfl,q⟩;rw [Zc,List.length_singleton];omega
noncomputable def rExtend:V→List V→Hp→VK→Prop:=fun x vs H Q=>∃ l b xs zs,x=.ref l∧vs=[.ref b]∧H l=some (.lst xs)∧H b=some (.lst zs)∧xs.length + zs.length≤sizeLine∧Q .non (upd H l (.lst (xs++zs)))
theorem mt_extend:MtM X "list.extend" rExtend:=by
 intro pins s σ H x vs v us Q I rx rv h;obtain ⟨l,b,xs,zs,rfl,rfl,hH,hB,hz,q⟩:=h;cases rx;obtain ⟨u,rfl,ru⟩:=rv.one;cases ru;obtain ⟨z,its,n,r,hl,e⟩:=I.lstM hH;obtain ⟨z2,its2,n2,r2,hl2,e2⟩:=I.lstM hB;have hsz:its.toArray.size + its2.toArray.size≤sizeLine:=by rw [Z3,Z3];omega
 have hlong:¬ (!its.toArray.isEmpty && Builtin.List.listTooLong (its.toArray.size + its2.toArray.size))=true:=by
  rw [notLongL hsz,Bool.and_false];exact Z8
 refine call_meets F.slot_list_extend ⟨_,e,rfl⟩ F.entry_list_extend (F.args_list_extend_2 _ _)
  (AutoSeq1.list_extend_list_list_0 l its.toArray n b its2.toArray n2 hlong (by rw [Z3];omega) (by omega)) ⟨e,e2,?_⟩
 refine ⟨.non,_,I.lset (its':=its++its2) hH e (by simp) (r.append r2) ?_,rfl,q⟩;rw [Zc];omega
noncomputable def rCat:R2:=fun x y H Q=>∃ l b xs zs,x=.ref l∧y=.ref b∧H l=some (.lst xs)∧H b=some (.lst zs)∧xs.length + zs.length≤sizeLine∧∀ p,H p=none→Q (.ref p) (upd H p (.lst (xs++zs)))
theorem op_cat:OpR X (binaryOp .Add) rCat:=by
 intro pins s σ H x y v u Q I rx ry h;obtain ⟨l,b,xs,zs,rfl,rfl,hH,hB,hz,q⟩:=h;cases rx;cases ry;obtain ⟨z,its,n,r,hl,e⟩:=I.lstM hH;obtain ⟨z2,its2,n2,r2,hl2,e2⟩:=I.lstM hB;refine PySem.P.add_list e e2 ?_ (by rw [Z3,Z3];omega);have ea:its.toArray++its2.toArray=(its++its2).toArray:=by simp
 rw [ea];exact ⟨.ref _,_,I.lnew (t':=s.toks) (r.append r2) (by rw [Zc];omega),rfl,q _ I.fresh⟩
noncomputable def rRep:R2:=fun x y H Q=>∃ l k xs,x=.ref l∧y=.int k∧H l=some (.lst xs)∧-(2 ^ 63)≤k∧k < 2 ^ 63∧xs.length * k.toNat≤sizeLine ∧
 ∀ p,H p=none→Q (.ref p) (upd H p (.lst (List.replicate k.toNat xs).flatten))
theorem len_rep {α : Type} (xs:List α) (k:Nat):(List.replicate k xs).flatten.length=k * xs.length:=by
 induction k with
 | zero=>simp
 | succ k ih=>rw [Zx,Yf,Zc,ih,Nat.succ_mul,Nat.add_comm]
theorem op_rep:OpR X (binaryOp .Mult) rRep:=by
 intro pins s σ H x y v u Q I rx ry h;obtain ⟨l,k,xs,rfl,rfl,hH,h1,h2,hz,q⟩:=h;cases rx;obtain ⟨t,rfl⟩:=ry;obtain ⟨z,its,n,r,hl,e⟩:=I.lstM hH;have hlen:its.toArray.size * k.toNat≤sizeLine:=by rw [Z3,← hl];exact hz
 have hcap:¬ its.toArray.size * k.toNat > (2 ^ 63 - 1) / 8:=by
  have:(sizeLine:Nat)≤(2 ^ 63 - 1) / 8:=by decide
  omega
 have hfit:¬ (!Builtin.List.listFitsIndex k)=true:=by
  rw [fitsIndex_both h1 h2];exact Z8
 have hlong:¬ Builtin.List.listTooLong (its.toArray.size * k.toNat)=true:=by
  rw [notLongL hlen];exact Z8
 have hnew:List.foldl (fun x1 x2=>x1++x2) #[] (List.replicate (if its.toArray.isEmpty=true then 0 else k.toNat) its.toArray)=(List.replicate k.toNat its).flatten.toArray:=by
  have f0:∀ m:Nat,List.foldl (fun x1 x2=>x1++x2) #[] (List.replicate m its.toArray)=(List.replicate m its).flatten.toArray:=fun m=>by
   have:=foldl_rep its m [];rw [List.nil_append] at this;exact this
  rw [f0];cases its with
  | nil=>simp
  | cons a r'=>rw [if_neg (by simp)]
 refine wpAny_binaryOp_repeat_ref (T:="list") (U:="int") (by decide) ⟨_,e,rfl⟩ (fun s'=>typeIs_int s' k t) noFill_list_mul F.fills_int_mul F.slot_int_rmul repeat_list F.slot_int_index.lookup
  (call_meets F.slot_int_rmul (typeIs_int s k t) F.entry_int_rmul (F.args_int_rmul_2 _ _) (int___rmul___int_list k t l its.toArray n)
   ⟨e,rfl,⟨_,e,rfl⟩,call_meets F.slot_list_mul ⟨_,e,rfl⟩ F.entry_list_mul (F.args_list_mul_2 _ _) (AutoListH.list___mul___list_int_3 l its.toArray n k t hfit hcap hlong) ⟨e,?_⟩⟩)
 rw [hnew];exact ⟨.ref _,_,I.lnew (t':=s.toks) (r.rep k.toNat) (by rw [len_rep,Nat.mul_comm];exact hz),rfl,q _ I.fresh⟩
end
section
variable {prog:Program}{w:World}{A:Around}{E:Value→Shared→Prop}{s:Shared}
set_option maxRecDepth 100000 in
end
section
variable {X:Cx}
end
end L2
namespace Att
open PySem PySem.W PySem.Calls PyProof.Rows
theorem zE7 {P:Params}{h:Heap}:∀ (ns:List Int) (vs:List Value),WellAll P h vs (ns.map WData.int)→IntsAre vs ns:=by
 intro ns
 induction ns with
 | nil =>
  intro vs w;rw [List.map_nil] at w;cases w;exact .nil
 | cons n ns ih =>
  intro vs w;rw [Zt] at w;cases w with
  | cons a b =>
   cases a;exact .cons _ _ (ih _ b)
theorem script_of {l:OpenLaw}{n:Nat} (hn:l.most=some n) {P:Params}{h:Heap}{args:List WData}{vals:List Value}
  (hpre:l.row.toRowW.claim.pre args=true) (hwl:WellAll P h vals args) :
  ∃ a vs ns,vals=[Value.ref a]∧args=[WData.list (ns.map WData.int)]∧h.get? a=some { cls:=.type "list",data:=.seq vs.toArray }∧IntsAre vs ns∧ns.length≤n:=by
 have hsh:WShape.hasAll [] args [.list .int]=true:=(pre_splitW hpre).1;have hc:l.pre.holds [] { args:=args }=true:=(pre_splitW hpre).2;obtain ⟨d,r,rfl,h1,h2⟩:=hasAllW_cons hsh;obtain rfl:=hasAllW_nil h2;obtain ⟨xs,rfl,h3⟩:=hasW_list h1;obtain ⟨ns,rfl⟩:=items_int h3;have hlen:ns.length≤n:=by
  unfold OpenLaw.pre at hc;have h4:(WTm.not (.lt (.lit (.int (n:Int))) (.len (.arg 0)))).holds [] { args:=[.list (ns.map .int)] }=true:=by
   have h4:=(holds_andW hc).1;rw [hn] at h4;exact h4
  have h5:=condW_of h4 (w_not (w_lt w_lit (w_len_list (w_arg rfl))));rw [Z1] at h5;refine Nat.le_of_not_lt fun q=>?_;have q':(n:Int) < ((ns.length:Nat):Int):=by omega
  first
   | (rw [decide_eq_true q'] at h5;exact absurd h5 (by decide))
   | (simp at h5;omega)
 cases hwl with
 | cons w1 w2 =>
  cases w2;cases w1 with
  | list ho hall=>exact ⟨_,_,ns,rfl,rfl,ho,zE7 ns _ hall,hlen⟩
theorem post_true (l:OpenLaw) (args:List WData):l.row.toRowW.claim.post args (.bool true) args=true :=
 postW_of (r:=l.row.toRowW) (X:=(true == true))
  (show WShape.has [] (.bool true) .bool=true by first | rfl | decide | simp [WShape.has,WShape.arms,WShape.armsAll])
  (show (WTm.eq .res (.lit (.bool true))).value [] { args:=args,res:=some (.bool true),after:=args }=some (.bool (true == true)) from w_eq_bool (w_res rfl) w_lit) rfl
theorem attach_call {l:OpenLaw}{n:Nat}{q:Program}{loose:List Str}{XP:(Str→Option Value)→Heap→Prop}{YP:World→Heap→Prop}{d:DefRec}
  (hn:l.most=some n) (hdf:d.params.defaults=[])
  (call:∀ (w:World) (s₀ s₁ : Shared) (mg mb:Str→Option Value) (fa:Addr) (o:Obj) (pm cd doc:Value) (a:Addr) (vs:List Value) (ns:List Int),
   Ground q loose [] XP w s₀ mg mb s₁.heap→YP w s₁.heap →
   s₁.heap.get? fa=some o→o.data=.func (docDef d.name d.params d.body d.scope pm cd doc)→s₁.heap.CodeRec cd d.name→mg d.name=some (.ref fa) →
   s₁.heap.get? a=some { cls:=.type "list",data:=.seq vs.toArray }→IntsAre vs ns→ns.length≤n→s₁.gens = #[] →
   codeAny (model l.prog w) callerA (.call (.ref fa) ⟨[.ref a],[]⟩) (fun r s'=>r=.ok (.ret (.bool true))∧OldK s₁.heap s'.heap∧s'.os=s₁.os∧AllBare s'.gens) s₁) :
  WalkO q loose XP YP l.row.toRowW d [] (fun f vs=>PySem.call f vs):=by
 intro w s₀ s₁ mg mb G Y fa o pm cd doc dV kV ho hd hcd hD hmg hg args vals as hpre hlay hrd hwl hlo;obtain rfl:dV=.none:=Dflts.none hD hdf;obtain rfl:kV=.none:=Dflts.noKw hD;obtain ⟨a,vs,ns,rfl,rfl,hobj,hints,hlen⟩:=script_of hn hpre hwl;refine enter_call (codeAny_mono (call w s₀ s₁ mg mb fa o pm cd doc a vs ns G Y ho (fd_plain hd) hcd hmg hobj hints hlen hg) fun r s' hq=>?_);obtain ⟨rfl,h2,h3,h4⟩:=hq;exact ⟨.inl ⟨.bool true,.bool true,[],rfl,fun _=>rfl,.bool true,post_true l _,fun _=>⟨List.Pairwise.nil,fun _ hm=>(nomatch hm)⟩⟩,h2,h3,h4⟩
section
variable {prog:Program}{w:World}{A:Around}{E:Value→Shared→Prop}{s:Shared}{K:Frag}
noncomputable def ledger (h:Heap) (L d:Addr):List (Addr×Obj):=(List.range h.objs.size).filterMap fun a=>if a=L∨a=d then none else (h.get? a).map fun o=>(a,o)
end
end Att
namespace L2
open PySem PySem.Spec PyProof.Rows
theorem vals_ints:∀ {vs:List Value}{ns:List Int},IntsAre vs ns→Vals (ns.map V.int) vs
 | _,_,.nil=>.nil
 | _,_,.cons n t h=>.cons ⟨t,rfl⟩ (vals_ints h)
end L2
namespace L2
open PySem PySem.Spec PyProof.Rows
noncomputable abbrev KOf {K:PySem.W.Frag}{h:Heap} (_:K.In h):PySem.W.Frag:=K
end L2
namespace L2
open PySem PySem.Spec PyProof.Rows
noncomputable def inClass (s:Stmt) (j:Nat):Stmt:=match s with
 | .ClassDef _ _ _ body _ _ _ _ _ _ _=>body.getD j (.Pass ⟨0,0,0,0⟩)
 | _=>.Pass ⟨0,0,0,0⟩
noncomputable def defArgs (s:Stmt):Arguments:=match s with
 | .FunctionDef _ a _ _ _ _ _ _ _ _=>a
 | _=>{ posonlyargs:=[],args:=[],vararg:=none,kwonlyargs:=[],kw_defaults:=[],kwarg:=none,defaults:=[] }
noncomputable def defBody (s:Stmt):List Stmt:=match s with
 | .FunctionDef _ _ b _ _ _ _ _ _ _=>b
 | _=>[]
noncomputable def defScope (s:Stmt):Scope:=match s with
 | .FunctionDef _ _ _ _ _ _ sc _ _ _=>sc
 | _=>{ kind:=.function,names:=[],isGenerator:=false,isCoroutine:=false }
noncomputable abbrev CX0:CXT:=fun _ _ _ _ _ _=>False
noncomputable abbrev E0:St→XK:=fun _ _ _ _=>False
structure Fun (K:PySem.W.Frag) (x qual:Str) (st:Stmt) (f:Addr) (fd:FuncData):Prop where
 ex:∃ (oc:Value) (od:Option Addr) (kV doc pm:Value) (an:Option Addr) (cdv ct:Value) (osl:Array (Option Value)),
  fd=PySem.W.fnOf x qual (defArgs st) (defBody st) (defScope st) .none kV doc pm an cdv ct∧K.lookup f=some ⟨oc,od,.func fd,osl⟩∧PySem.W.codeIn K cdv qual=true
 kp:PySem.W.keepIn K (.ref f)=true
section
variable {P:Program}{w:World}{K:PySem.W.Frag}{mg:Str→Option Value}{base:Heap}
theorem Fun.ok {x qual:Str}{st:Stmt}{f:Addr}{fd:FuncData}{N ps:List Str}{k:Nat}{sp:Sp} (F:Fun K x qual st f fd) (S:FnScope N ps (defScope st)) (len:∀ vs H Q E,sp vs H Q E→vs.length=ps.length)
  (hbody:∀ (cdv:Value) (A:Around) (outer:List Env) (s:Shared) (H:Hp) (vs:List V) (Q:VK) (E:XK),Room k (A.deeper (envOfC qual (defScope st) s.heap.objs.size f cdv))→sp vs H Q E →
   ∃ t,PSs (cxOf CX0 P w K mg base N qual (defScope st) f cdv A outer s H E).nox (defBody st) t∧t { nx:=fun _ H'=>Q .non H',rt:=Q } (start N vs) H):FnOk P w K mg base CX0 (k + 1) f fd ps sp:=by
 obtain ⟨oc,od,kV,doc,pm,an,cdv,ct,osl,rfl,lk,hcd⟩:=F.ex;refine fn_of lk hcd S len fun A outer s H vs Q E hr hsp=>?_;obtain ⟨t,h,q⟩:=hbody cdv A outer s H vs Q E hr hsp;exact ⟨t,h.nox,q⟩
theorem Fun.binds {x qual:Str}{st:Stmt}{f:Addr}{fd:FuncData}{ps:List Str} (F:Fun K x qual st f fd)
  (h:∀ (kV doc pm:Value) (an:Option Addr) (cdv ct:Value) (us:List Value),us.length=ps.length→bindArgs (PySem.W.fnOf x qual (defArgs st) (defBody st) (defScope st) .none kV doc pm an cdv ct) ⟨us,[]⟩=pure (ps.zip us)):Binds K fd ps []:=by
 obtain ⟨oc,od,kV,doc,pm,an,cdv,ct,osl,rfl,lk,hcd⟩:=F.ex;exact .all (h kV doc pm an cdv ct)
theorem fun_mk {x qual:Str}{st:Stmt}{f:Addr}{oc:Value}{od an:Option Addr}{osl:Array (Option Value)}{kV doc pm cdv ct:Value} (l:K.lookup f=some ⟨oc,od,.func (PySem.W.fnOf x qual (defArgs st) (defBody st) (defScope st) .none kV doc pm an cdv ct),osl⟩)
  (c:PySem.W.codeIn K cdv qual=true) (k:PySem.W.keepIn K (.ref f)=true):Fun K x qual st f (PySem.W.fnOf x qual (defArgs st) (defBody st) (defScope st) .none kV doc pm an cdv ct):=⟨⟨oc,od,kV,doc,pm,an,cdv,ct,osl,rfl,l,c⟩,k⟩
end
theorem zDb {A:Around}{k:Nat} (hr:Room k A):A.units + 1 < cLine:=Nat.lt_of_le_of_lt (Nat.add_le_add_left (by decide:1≤64) _) hr.units
theorem small1000 {n:Nat} (h:n≤1000):n < sizeLine:=Nat.lt_of_le_of_lt h (by decide)
section
variable {X:Cx}
theorem pv (i:Nat) {x:Str}{pos:Pos} (hN:X.N[i]? = some x:=by rfl) (hv:Vis X.env.scope x:=by first | exact Or.inl rfl | exact Or.inr (Or.inl rfl) | exact Or.inr (Or.inr rfl)) (hd:(x == ("__debug__" : Str))=false:=by decide)
  (hcd:(x == ("__classdict__" : Str))=false:=by decide):PE X (.Name x pos) (tVar i):=pe_var hN hv hd hcd
end
theorem iteF {A B:Prop} (h:B):if false=true then A else B:=by
 rw [if_neg Z8];exact h
theorem iteT {A B:Prop} (h:A):if true=true then A else B:=by
 rw [if_pos rfl];exact h
theorem ite2 {c A B:Prop} [Decidable c] (h1:c→A) (h2:¬ c→B):if c then A else B:=by
 by_cases h:c
 ·rw [if_pos h];exact h1 h
 ·rw [if_neg h];exact h2 h
noncomputable def Same (H H':Hp):Prop:=∀ b o,H b=some o→H' b=some o
theorem Same.refl (H:Hp):Same H H:=fun _ _ h=>h
theorem Same.trans {H H1 H2:Hp} (a:Same H H1) (b:Same H1 H2):Same H H2:=fun c o h=>b c o (a c o h)
theorem Same.free {H H':Hp} (e:Same H H') {l:Addr} (h:H' l=Option.none):H l=Option.none:=by
 cases q:H l with
 | none=>rfl
 | some o =>
  rw [e l o q] at h;cases h
end L2
namespace L2
open PySem PySem.Spec PyProof.Rows
section
variable {κ : Type} [DecidableEq κ]
noncomputable def valV (kvs:List (κ×V)) (k : κ):Option V:=(kvs.find? fun kv=>decide (kv.1=k)).map (·.2)
noncomputable def putK (kvs:List (κ×V)) (k : κ) (v:V):List (κ×V) :=
 if (kvs.any fun kv=>decide (kv.1=k))=true then kvs.map (fun kv=>if kv.1=k then (kv.1,v) else kv) else kvs++[(k,v)]
theorem zAy {p : κ×V}{r:List (κ×V)}{k : κ} (e:p.1=k):valV (p :: r) k=some p.2:=by simp [valV,Y8,e]
theorem zB9 {p : κ×V}{r:List (κ×V)}{k : κ} (e:¬ p.1=k):valV (p :: r) k=valV r k:=by simp [valV,Y8,e]
theorem zCx (k : κ):∀ kvs:List (κ×V),(kvs.any fun kv=>decide (kv.1=k))=(valV kvs k).isSome
 | []=>rfl
 | p :: r=>by
  rw [Yi];by_cases e:p.1=k
  ·simp only [zAy e,decide_eq_true e,Bool.true_or,Option.isSome_some]
  ·rw [zB9 e,decide_eq_false e,Bool.false_or];exact zCx k r
theorem valV_map (k j : κ) (y:V):∀ kvs:List (κ×V),valV (kvs.map fun kv=>if kv.1=k then (kv.1,y) else kv) j=(valV kvs j).map fun x=>if j=k then y else x
 | []=>rfl
 | p :: r=>by
  have ih:=valV_map k j y r;rw [Zt];by_cases h:p.1=k
  ·rw [if_pos h];by_cases e:p.1=j
   ·rw [zAy (p:=(p.1,y)) e,zAy e,Option.map_some,if_pos (e.symm.trans h)]
   ·rw [zB9 (p:=(p.1,y)) e,zB9 e,ih]
  ·rw [if_neg h];by_cases e:p.1=j
   ·rw [zAy (p:=p) e,zAy e,Option.map_some,if_neg (fun z=>h (e.trans z))]
   ·rw [zB9 (p:=p) e,zB9 e,ih]
theorem valV_snoc (k j : κ) (y:V):∀ kvs:List (κ×V),valV kvs k=none→valV (kvs++[(k,y)]) j=if j=k then some y else valV kvs j
 | [],_=>by
  by_cases e:k=j
  ·rw [if_pos e.symm];exact zAy (p:=(k,y)) e
  ·rw [if_neg (fun z=>e z.symm)];exact zB9 (p:=(k,y)) e
 | p :: r,hn=>by
  rw [List.cons_append];have hk:¬ p.1=k:=fun z=>by rw [zAy z] at hn;cases hn
  rw [zB9 hk] at hn;have ih:=valV_snoc k j y r hn;by_cases e:p.1=j
  ·rw [zAy e,zAy e,if_neg (fun z=>hk (e.trans z))]
  ·rw [zB9 e,zB9 e,ih]
theorem zEv (kvs:List (κ×V)) (k j : κ) (y:V):valV (putK kvs k y) j=if j=k then some y else valV kvs j:=by
 unfold putK;by_cases a:(kvs.any fun kv=>decide (kv.1=k))=true
 ·rw [if_pos a,valV_map];rw [zCx] at a;by_cases e:j=k
  ·obtain ⟨x,hx⟩:=Option.isSome_iff_exists.mp a;rw [if_pos e,e,hx,Option.map_some,if_pos rfl]
  ·rw [if_neg e];cases valV kvs j with
   | none=>rfl
   | some x=>rw [Option.map_some,if_neg e]
 ·rw [if_neg a];refine valV_snoc k j y kvs ?_;rw [zCx] at a;cases q:valV kvs k with
  | none=>rfl
  | some x=>rw [q] at a;exact (a rfl).elim
theorem zBv (kvs:List (κ×V)) (k : κ) (v:V):(putK kvs k v).length≤kvs.length + 1:=by
 unfold putK;split
 ·rw [Z1];omega
 ·rw [Zc,Zg,List.length_nil];omega
theorem RelO.isSome_eq {o:Option V}{u:Option Value} (r:RelO o u):o.isSome=u.isSome:=by
 cases o with
 | none=>cases u with
  | none=>rfl
  | some _=>exact (show False from r).elim
 | some _=>cases u with
  | none=>exact (show False from r).elim
  | some _=>rfl
theorem RelO.getD {o:Option V}{u:Option Value}{d:V}{d':Value} (r:RelO o u) (rd:RelV d d'):RelV (o.getD d) (u.getD d'):=by
 cases o with
 | none=>cases u with
  | none=>exact rd
  | some _=>exact (show False from r).elim
 | some _=>cases u with
  | none=>exact (show False from r).elim
  | some _=>exact r
theorem KV.val {kvs:List (κ×V)}{vs:List (κ×Value)} (r:KV kvs vs) (k : κ):RelO (valV kvs k) (valueAt vs k):=by
 unfold KV at r
 induction r with
 | nil=>exact True.intro
 | @cons p q ps qs h t ih =>
  obtain ⟨h1,h2⟩:=h;by_cases e:p.1=k
  ·have e':q.1=k:=h1.symm.trans e;have b:valueAt (q :: qs) k=some q.2:=by simp [valueAt,Y8,e']
   rw [zAy e,b];exact h2
  ·have e':¬ q.1=k:=fun z=>e (h1.trans z);have b:valueAt (q :: qs) k=valueAt qs k:=by simp [valueAt,Y8,e']
   rw [zB9 e,b];exact ih
theorem KV.any {kvs:List (κ×V)}{vs:List (κ×Value)} (r:KV kvs vs) (k : κ):(kvs.any fun kv=>decide (kv.1=k))=vs.any fun kv=>decide (kv.1=k):=by
 unfold KV at r
 induction r with
 | nil=>rfl
 | cons h t ih=>rw [Yi,Yi,ih,h.1]
theorem KV.repl {kvs:List (κ×V)}{vs:List (κ×Value)} (r:KV kvs vs) (k : κ) {y:V}{u:Value} (ry:RelV y u) :
  KV (kvs.map fun kv=>if kv.1=k then (kv.1,y) else kv) (vs.map fun kv=>if kv.1=k then (kv.1,u) else kv):=by
 unfold KV at r ⊢
 induction r with
 | nil=>exact .nil
 | @cons p q ps qs h t ih =>
  rw [Zt,Zt];refine .cons ?_ ih;obtain ⟨h1,h2⟩:=h;by_cases e:p.1=k
  ·rw [if_pos e,if_pos (h1.symm.trans e)];exact ⟨h1,ry⟩
  ·rw [if_neg e,if_neg (fun z=>e (h1.trans z))];exact ⟨h1,h2⟩
theorem KV.put {kvs:List (κ×V)}{vs:List (κ×Value)} (r:KV kvs vs) (k : κ) {y:V}{u:Value} (ry:RelV y u):KV (putK kvs k y) (stored vs k u):=by
 unfold putK stored;rw [r.any k];by_cases e:(vs.any fun kv=>decide (kv.1=k))=true
 ·rw [if_pos e,if_pos e];exact r.repl k ry
 ·rw [if_neg e,if_neg e];exact Paired.snoc r ⟨rfl,ry⟩
theorem KV.length {kvs:List (κ×V)}{vs:List (κ×Value)} (r:KV kvs vs):kvs.length=vs.length:=Paired.length r
end
theorem kV_is {P:Program}{w:World}{k:Key}{u:Value} (r:RelV (kV k) u):(mixKind P w).is k u=true:=by
 cases k with
 | inl i=>obtain ⟨t,e⟩:=(show ∃ t,u=Value.int i t from r);subst e;exact mixKind_int P w i t
 | inr x=>obtain ⟨t,e⟩:=(show ∃ t,u=Value.str x t from r);subst e;exact mixKind_str P w x t
theorem items_are {P:Program}{w:World}:∀ {ks:List Key}{us:List Value},Vals (ks.map kV) us→ItemsAre (mixKind P w) ks us
 | [],_,r=>by rw [List.map_nil] at r;cases r;exact .nil
 | k :: ks,_,r=>by
  rw [Zt] at r;cases r with
  | cons h t=>exact .cons (kV_is h) (items_are t)
noncomputable abbrev KT (H:Hp):List (List Key×V)→List (List Key×Addr×Value)→Prop:=Paired fun p q=>p.1=q.1∧H q.2.1=some (.tup (p.1.map kV))∧RelV p.2 q.2.2
theorem KT.val {H:Hp}{kvs:List (List Key×V)}{xs:List (List Key×Addr×Value)} (r:KT H kvs xs) (k:List Key):RelO (valV kvs k) ((atKey xs k).map (·.2)):=by
 induction r with
 | nil=>exact True.intro
 | @cons p q ps qs h t ih =>
  obtain ⟨h1,_,h2⟩:=h;by_cases e:p.1=k
  ·have e':q.1=k:=h1.symm.trans e;have b:atKey (q :: qs) k=some q.2:=by simp [atKey,Y8,e']
   rw [zAy e,b];exact h2
  ·have e':¬ q.1=k:=fun z=>e (h1.trans z);have b:atKey (q :: qs) k=atKey qs k:=by simp [atKey,Y8,e']
   rw [zB9 e,b];exact ih
theorem KT.repl {H:Hp}{kvs:List (List Key×V)}{xs:List (List Key×Addr×Value)} (r:KT H kvs xs) (k:List Key) {y:V}{u:Value} (ry:RelV y u) :
  KT H (kvs.map fun kv=>if kv.1=k then (kv.1,y) else kv) (xs.map (putAt k u)):=by
 induction r with
 | nil=>exact .nil
 | @cons p q ps qs h t ih =>
  rw [Zt,Zt];refine .cons ?_ ih;obtain ⟨h1,h2,h3⟩:=h;unfold putAt;by_cases e:p.1=k
  ·rw [if_pos e,if_pos (h1.symm.trans e)];exact ⟨h1,h2,ry⟩
  ·rw [if_neg e,if_neg (fun z=>e (h1.trans z))];exact ⟨h1,h2,h3⟩
theorem KT.put {H:Hp}{kvs:List (List Key×V)}{xs:List (List Key×Addr×Value)} (r:KT H kvs xs) (k:List Key) {b:Addr}{y:V}{u:Value} (hb:H b=some (.tup (k.map kV))) (ry:RelV y u) :
  KT H (putK kvs k y) (storedH xs k b u):=by
 have e:(kvs.any fun kv=>decide (kv.1=k))=(atKey xs k).isSome:=by
  rw [zCx,(r.val k).isSome_eq,Option.isSome_map]
 unfold putK storedH;rw [e];by_cases q:(atKey xs k).isSome=true
 ·rw [if_pos q,if_pos q];exact r.repl k ry
 ·rw [if_neg q,if_neg q];exact Paired.snoc r ⟨rfl,hb,ry⟩
theorem KT.keeps {H H':Hp}{kvs:List (List Key×V)}{xs:List (List Key×Addr×Value)} (r:KT H kvs xs) (ht:∀ b ys,H b=some (.tup ys)→H' b=some (.tup ys)):KT H' kvs xs :=
 Paired.mapP r fun _ _ z=>⟨z.1,ht _ _ z.2.1,z.2.2⟩
section
variable {P:Program}{w:World}{H:Hp}{h:Heap}{a:Addr}
theorem rd_of {u:HO} (ok:HOk P w H h) (e:Rd H a u):ObjOk P w H h a u:=e.ok ok
theorem zDd {kvs:List (Key×V)} (ok:HOk P w H h) (e:Rd H a (.dK kvs)):kvs.length≤sizeLine∧(a == sysModules)=false∧∃ vs,KV kvs vs∧h.DictOf (mixKind P w) a vs :=
 show ObjOk P w H h a (.dK kvs) from rd_of ok e
theorem dk_of {kvs:List (Key×V)} (ok:HOk P w H h) (e:H a=some (.dK kvs)):kvs.length≤sizeLine∧(a == sysModules)=false∧∃ vs,KV kvs vs∧h.DictOf (mixKind P w) a vs:=zDd ok (.inl e)
theorem zE6 {ks:List Key} (ok:HOk P w H h) (e:H a=some (.tup (ks.map kV))):(tupleKind (mixKind P w)).is h ks a:=by
 obtain ⟨_,its,r,o,h1,h2,n,h3⟩:=(show ObjOk P w H h a (.tup (ks.map kV)) from ok a _ e);exact ⟨o,its.toArray,n,h1,h2,h3,by simpa using items_are r⟩
theorem dt_rd {kvs:List (List Key×V)} (ok:HOk P w H h) (e:Rd H a (.dT kvs)):kvs.length≤sizeLine∧(a == sysModules)=false ∧
  ∃ xs,KT H kvs xs∧h.DictOfH (tupleKind (mixKind P w)) a xs:=by
 obtain ⟨z,y,xs,r,o,es,ep,h1,h2,h3,h4,h5⟩:=(show ObjOk P w H h a (.dT kvs) from rd_of ok e);refine ⟨z,y,xs,r,o,es,ep,h1,h2,h3,h4,fun x hx=>?_,h5⟩;have all:∀ {l:List (List Key×V)}{m:List (List Key×Addr×Value)},KT H l m→∀ x∈m,(tupleKind (mixKind P w)).is h x.1 x.2.1:=by
  intro l m q
  induction q with
  | nil=>intro x hx;exact nomatch hx
  | @cons p q ps qs hq t ih =>
   intro x hx;rcases List.mem_cons.mp hx with e | hx
   ·subst e;exact zE6 ok (by rw [← hq.1];exact hq.2.1)
   ·exact ih x hx
 exact all r x hx
theorem dt_of {kvs:List (List Key×V)} (ok:HOk P w H h) (e:H a=some (.dT kvs)):kvs.length≤sizeLine∧(a == sysModules)=false ∧
  ∃ xs,KT H kvs xs∧h.DictOfH (tupleKind (mixKind P w)) a xs:=dt_rd ok (.inl e)
end
noncomputable def DGet (H:Hp) (a:Addr) (y:V) (r:Option V):Prop :=
 (∃ kvs k,Rd H a (.dK kvs)∧y=kV k∧r=valV kvs k)∨∃ kvs k b,Rd H a (.dT kvs)∧y=.ref b∧H b=some (.tup (k.map kV))∧r=valV kvs k
noncomputable def DPut (H:Hp) (a:Addr) (y v:V) (H':Hp):Prop :=
 (∃ kvs k,H a=some (.dK kvs)∧y=kV k∧kvs.length < sizeLine∧H'=upd H a (.dK (putK kvs k v))) ∨
 ∃ kvs k b,H a=some (.dT kvs)∧y=.ref b∧H b=some (.tup (k.map kV))∧kvs.length < sizeLine∧H'=upd H a (.dT (putK kvs k v))
theorem DGet.k {H:Hp}{a:Addr}{kvs:List (Key×V)}{k:Key} (e:H a=some (.dK kvs)):DGet H a (kV k) (valV kvs k):=.inl ⟨kvs,k,.inl e,rfl,rfl⟩
theorem DGet.t {H:Hp}{a b:Addr}{kvs:List (List Key×V)}{k:List Key} (e:H a=some (.dT kvs)) (eb:H b=some (.tup (k.map kV))):DGet H a (.ref b) (valV kvs k):=.inr ⟨kvs,k,b,.inl e,rfl,eb,rfl⟩
theorem DPut.k {H:Hp}{a:Addr}{kvs:List (Key×V)}{k:Key}{v:V} (e:H a=some (.dK kvs)) (hl:kvs.length < sizeLine):DPut H a (kV k) v (upd H a (.dK (putK kvs k v))):=.inl ⟨kvs,k,e,rfl,hl,rfl⟩
theorem DPut.t {H:Hp}{a b:Addr}{kvs:List (List Key×V)}{k:List Key}{v:V} (e:H a=some (.dT kvs)) (eb:H b=some (.tup (k.map kV))) (hl:kvs.length < sizeLine) :
  DPut H a (.ref b) v (upd H a (.dT (putK kvs k v))):=.inr ⟨kvs,k,b,e,rfl,eb,hl,rfl⟩
section
variable {X:Cx}{pins:List (Addr×Obj)}{σ : St}{H:Hp}{s:Shared}{a:Addr}{y v:V}{u r:Value}{o:Option V}{A:Around}{E:Value→Shared→Prop}
theorem Inv.big (I:Inv X pins σ H s):sysModules < s.heap.objs.size:=by
 have h:mainGlobals < s.heap.objs.size:=(I.mod.glob.keeps I.bk).lt;exact Nat.lt_trans (by decide) h
theorem d_getItem {Q:Value→Shared→Prop} (hu:A.units + 1 < cLine) (I:Inv X pins σ H s) (g:DGet H a y (some v)) (ry:RelV y u) (h:∀ w' s',Inv X pins σ H s'→RelV v w'→Q w' s') :
  wpAny (model X.prog X.w) A (getItem (.ref a) u) Q E s:=by
 rcases g with ⟨kvs,k,e,ey,l⟩ | ⟨kvs,k,b,e,ey,eb,l⟩
 ·subst ey;obtain ⟨z,hd,vs,rel,dd⟩:=zDd I.hok e;obtain ⟨w',hw,rw'⟩:=RelO.some_of (v:=v) (o:=valueAt vs k) (by rw [l];exact rel.val k);exact wpAny_getItem_of (kV_is ry) dd.mapOf hw (h w' _ (I.tok _) rw')
 ·subst ey;cases (show u=Value.ref b from ry);obtain ⟨z,hd,xs,rel,dd⟩:=dt_rd I.hok e;obtain ⟨w',hw,rw'⟩:=RelO.some_of (v:=v) (o:=(atKey xs k).map (·.2)) (by rw [l];exact rel.val k);obtain ⟨p,hp,hp2⟩:=Option.map_eq_some_iff.mp hw;refine wpAny_getItem_heap (tupleKind_room_in1 hu) (zE6 I.hok eb) dd hp ?_;rw [hp2];exact h w' _ (I.tok _) rw'
theorem d_in {Q:Value→Shared→Prop} (hu:A.units + 1 < cLine) (I:Inv X pins σ H s) (g:DGet H a y o) (ry:RelV y u) (h:∀ s',Inv X pins σ H s'→Q (.bool o.isSome) s') :
  wpAny (model X.prog X.w) A (compareOp .In u (.ref a)) Q E s:=by
 rcases g with ⟨kvs,k,e,ey,l⟩ | ⟨kvs,k,b,e,ey,eb,l⟩
 ·subst ey;obtain ⟨z,hd,vs,rel,dd⟩:=zDd I.hok e;refine wpAny_in_of (kV_is ry) hd dd.mapOf ?_;rw [← (rel.val k).isSome_eq,← l];exact h _ (I.tok _)
 ·subst ey;cases (show u=Value.ref b from ry);obtain ⟨z,hd,xs,rel,dd⟩:=dt_rd I.hok e;refine wpAny_in_heap (tupleKind_room_in1 hu) (zE6 I.hok eb) hd dd ?_;have q:=(rel.val k).isSome_eq;rw [Option.isSome_map] at q;rw [← q,← l];exact h _ (I.tok _)
theorem d_notIn {Q:Value→Shared→Prop} (hu:A.units + 1 < cLine) (I:Inv X pins σ H s) (g:DGet H a y o) (ry:RelV y u) (h:∀ s',Inv X pins σ H s'→Q (.bool (!o.isSome)) s') :
  wpAny (model X.prog X.w) A (compareOp .NotIn u (.ref a)) Q E s:=by
 rcases g with ⟨kvs,k,e,ey,l⟩ | ⟨kvs,k,b,e,ey,eb,l⟩
 ·subst ey;obtain ⟨z,hd,vs,rel,dd⟩:=zDd I.hok e;refine wpAny_notIn_of (kV_is ry) hd dd.mapOf ?_;rw [← (rel.val k).isSome_eq,← l];exact h _ (I.tok _)
 ·subst ey;cases (show u=Value.ref b from ry);obtain ⟨z,hd,xs,rel,dd⟩:=dt_rd I.hok e;refine wpAny_notIn_heap (tupleKind_room_in1 hu) (zE6 I.hok eb) hd dd ?_;have q:=(rel.val k).isSome_eq;rw [Option.isSome_map] at q;rw [← q,← l];exact h _ (I.tok _)
theorem d_write {h':Heap}{t':Nat}{ob:HO} (I:Inv X pins σ H s) (mu:Mut (H a)) (hs:Heap.SameBut a s.heap h') (he:∃ q,h'.get? a=some q) (new:ObjOk X.prog X.w (upd H a ob) h' a ob) :
  Inv X pins σ (upd H a ob) { s with heap:=h',toks:=t' } :=
 I.write (x:=a) (e:=a) mu (.inl rfl) (fun b q hb z=>(hs.2 b hb).trans z) he new
theorem dk_new {P:Program}{w:World}{H':Hp}{h':Heap}{kvs:List (Key×V)}{vs:List (Key×Value)} (z:kvs.length≤sizeLine) (hd:(a == sysModules)=false) (rel:KV kvs vs) (dd:h'.DictOf (mixKind P w) a vs) :
  ObjOk P w H' h' a (.dK kvs):=⟨z,hd,vs,rel,dd⟩
theorem d_setItem {H':Hp}{Q:Unit→Shared→Prop} (hu:A.units + 1 < cLine) (I:Inv X pins σ H s) (g:DPut H a y v H') (ry:RelV y u) (rv:RelV v r) (h:∀ s',Inv X pins σ H' s'→Q () s') :
  wpAny (model X.prog X.w) A (setItem (.ref a) u r) Q E s:=by
 rcases g with ⟨kvs,k,e,ey,l,eH⟩ | ⟨kvs,k,b,e,ey,eb,l,eH⟩
 ·subst ey eH;obtain ⟨z,hd,vs,rel,dd⟩:=dk_of I.hok e;have hz:vs.length≤sizeLine:=by rw [← rel.length];exact z
  have hl:(putK kvs k v).length≤sizeLine:=by have:=zBv kvs k v;omega
  refine wpAny_setItem_pairs (hsz:=hz) (kV_is ry) dd fun h' dd' hs=>h _ ?_;have he:∃ q,h'.get? a=some q:=let ⟨q,_,_,hq,_⟩:=dd';⟨q,hq⟩;exact d_write I (by rw [e];exact True.intro) hs he (dk_new hl hd (rel.put k rv) dd')
 ·subst ey eH;cases (show u=Value.ref b from ry);obtain ⟨z,hd,xs,rel,dd⟩:=dt_of I.hok e;have hz:xs.length≤sizeLine:=by rw [← Paired.length rel];exact z
  have hl:(putK kvs k v).length≤sizeLine:=by have:=zBv kvs k v;omega
  refine wpAny_setItem_heap (hsz:=hz) (tupleKind_room_in1 hu) (zE6 I.hok eb) dd fun h' dd' hs=>h _ ?_;obtain ⟨q,es,ep,hq,h2,h3,h4,_,h5⟩:=dd';refine d_write I (by rw [e];exact True.intro) hs ⟨q,hq⟩ ⟨hl,hd,_,(rel.put k eb rv).keeps fun c ys ec=>?_,q,es,ep,hq,h2,h3,h4,h5⟩;rw [zA6 (ne_of ec e (fun z=>nomatch z))];exact ec
end
section
variable {X:Cx}{pins:List (Addr×Obj)}{σ : St}{H:Hp}{s:Shared}{a:Addr}{kvs:List (Key×V)}{k:Key}{u:Value}{A:Around}{E:Value→Shared→Prop}
theorem d_len {Q:Value→Shared→Prop} (I:Inv X pins σ H s) (e:Rd H a (.dK kvs)) (h:∀ t s',Inv X pins σ H s'→Q (.int kvs.length t) s'):wpAny (model X.prog X.w) A (call (.builtin "len") [.ref a]) Q E s:=by
 obtain ⟨z,hd,vs,rel,dd⟩:=zDd I.hok e;refine call_len_dict hd dd (by rw [← rel.length];rw [sizeLine_eq] at z;omega) ?_;rw [← rel.length];exact h _ _ (I.tok _)
end
noncomputable def NoSl (i:Expr):Prop:=∀ ov iv,subscripted i false ov iv=operate [ov,iv] (getItem ov iv)
theorem subD_of {prog:Program}{w:World}{A:Around}{E:Value→Shared→Prop}{s:Shared}{env:Env}{value slice:Expr}{pos:Pos}{T id:String}{Q:Value→Shared→Prop}
  (hl:typeLookup (.type T) "__getitem__" = pure (some (.builtin id))) (hs:NoSl slice)
  (h:wpAny (model prog w) A (eval value env) (fun o s₁=>wpAny (model prog w) A (eval slice env) (fun i s₂=>s₂.TypeIs o T∧wpAny (model prog w) A (getItem o i) Q E s₂) E s₁) E s) :
  wpAny (model prog w) A (eval (.Subscript value slice pos) env) Q E s:=by
 refine Subscript_ (wpAny_mono h (fun o s₁ h₁=>wpAny_mono h₁ (fun i s₂ h₂=>?_) fun _ _ x=>x) fun _ _ x=>x);obtain ⟨hT,h₂⟩:=h₂;unfold subscriptTail;refine wpAny_bind ?_;rw [getitemInPython_of_ne hT.not_modules];refine wpAny_bind (wpAny_specialOf hT hl ?_);have fin:wpAny (model prog w) A (subscripted slice false o i) (fun r s₃=>wpAny (model prog w) A (letTemporaryGo value o r >>= fun _=>pure r) Q E s₃) E s₂:=by
  rw [hs o i];exact wpAny_operating (wpAny_mono h₂ (fun r s₃ h₃=>wpAny_bind (wpAny_letTemporaryGo (wpAny_pure h₃))) fun _ _ x=>x)
 first
  | exact wpAny_pure (wpAny_bind fin)
  | exact wpAny_bind (wpAny_pure (wpAny_bind fin))
  | exact wpAny_bind fin
theorem dict_typeIs {X:Cx}{pins:List (Addr×Obj)}{σ : St}{H:Hp}{s:Shared}{a:Addr}{y:V}{o:Option V} (I:Inv X pins σ H s) (g:DGet H a y o):s.TypeIs (.ref a) "dict":=by
 rcases g with ⟨kvs,k,e,_,_⟩ | ⟨kvs,k,b,e,_,_,_⟩
 ·obtain ⟨_,_,vs,_,dd⟩:=zDd I.hok e;exact dd.typeIs
 ·obtain ⟨_,_,xs,_,dd⟩:=dt_rd I.hok e;exact dd.typeIs
noncomputable def tDGet (td ty:TE):TE:=fun σ H Q=>td σ H fun x H1=>ty σ H1 fun y H2=>∃ a v,x=.ref a∧DGet H2 a y (some v)∧Q v H2
noncomputable def tDIn (ty td:TE):TE:=fun σ H Q=>ty σ H fun y H1=>td σ H1 fun x H2=>∃ a o,x=.ref a∧DGet H2 a y o∧Q (.bl o.isSome) H2
noncomputable def tDNotIn (ty td:TE):TE:=fun σ H Q=>ty σ H fun y H1=>td σ H1 fun x H2=>∃ a o,x=.ref a∧DGet H2 a y o∧Q (.bl (!o.isSome)) H2
noncomputable def sDPut (td ty tv:TE):TS:=fun D σ H=>tv σ H fun v H1=>td σ H1 fun x H2=>ty σ H2 fun y H3=>∃ a H4,x=.ref a∧DPut H3 a y v H4∧D.nx σ H4
section
variable {X:Cx}{o i e value:Expr}{pos pos' tpos:Pos}{td ty tv:TE}
theorem zBu (hu:X.A.units + 1 < cLine) (ho:PE X o td) (hi:PE X i ty) (hs:NoSl i):PE X (.Subscript o i pos) (tDGet td ty):=by
 intro pins s σ H Q I h;refine subD_of PySem.F.slot_dict_getitem.lookup hs (thn (ho pins s σ H _ I h) fun u s1 ⟨x,H1,I1,rx,q1⟩=>thn (hi pins s1 σ H1 _ I1 q1) fun iv s2 ⟨y,H2,I2,ry,a,v,ex,g,q2⟩=>?_);subst ex;obtain rfl:u=Value.ref a:=rx;exact ⟨dict_typeIs I2 g,d_getItem hu I2 g ry fun w' s3 I3 rw'=>⟨v,H2,I3,rw',q2⟩⟩
theorem pc_din (hu:X.A.units + 1 < cLine) (hi:PE X i ty) (ho:PE X o td):PC X .In i o (tDIn ty td):=by
 intro pins s σ H Q I h;refine thn (hi pins s σ H _ I h) fun iv s1 ⟨y,H1,I1,ry,q1⟩=>thn (ho pins s1 σ H1 _ I1 q1) fun u s2 ⟨x,H2,I2,rx,a,ov,ex,g,q2⟩=>?_;subst ex;obtain rfl:u=Value.ref a:=rx;exact d_in hu I2 g ry fun s3 I3=>⟨.bl ov.isSome,H2,I3,rfl,q2⟩
theorem zD5 (hu:X.A.units + 1 < cLine) (hi:PE X i ty) (ho:PE X o td):PC X .NotIn i o (tDNotIn ty td):=by
 intro pins s σ H Q I h;refine thn (hi pins s σ H _ I h) fun iv s1 ⟨y,H1,I1,ry,q1⟩=>thn (ho pins s1 σ H1 _ I1 q1) fun u s2 ⟨x,H2,I2,rx,a,ov,ex,g,q2⟩=>?_;subst ex;obtain rfl:u=Value.ref a:=rx;exact d_notIn hu I2 g ry fun s3 I3=>⟨.bl (!ov.isSome),H2,I3,rfl,q2⟩
theorem zC6 (hu:X.A.units + 1 < cLine) (ho:PE X o td) (hi:PE X i ty) (hv:PE X value tv) (hs:swapsWith value (some (.Subscript o i pos')) pos.line X.env=pure false) :
  PS X (.Assign [.Subscript o i pos'] value pos) (sDPut td ty tv):=by
 intro pins s σ H D I h;refine wpAny_Assign_Subscript (thn (hv pins s σ H _ I h) fun r s1 ⟨v,H1,I1,rv,q1⟩=>thn (ho pins s1 σ H1 _ I1 q1) fun u s2 ⟨x,H2,I2,rx,q2⟩=>thn (hi pins s2 σ H2 _ I2 q2) fun iv s3 ⟨y,H3,I3,ry,a,H4,ex,g,q3⟩=>?_) hs;subst ex;obtain rfl:u=Value.ref a:=rx;exact d_setItem hu I3 g ry rv fun s4 I4=>⟨σ,H4,I4,q3⟩
end
theorem dk_empty {P:Program}{w:World}{H:Hp} (h:Heap) (hb:sysModules < h.objs.size):ObjOk P w H (h.push { cls:=.type "dict",data:=.dict #[] }) h.objs.size (.dK []) :=
 ⟨Zl _,beq_eq_false_iff_ne.mpr (Ne.symm (Z9 hb)),[],.nil,Heap.DictOf.new h⟩
noncomputable def tDNewK:TE:=fun _ H Q=>∀ p,H p=none→Q (.ref p) (upd H p (.dK []))
section
variable {X:Cx}{pos:Pos}
theorem zBt:PE X (.Dict [] [] pos) tDNewK:=fun pins s σ H Q I h =>
 wpAny_Dict_empty ⟨.ref s.heap.objs.size,_,I.laid (a:=s.heap.objs.size) (o:=.dK []) (t':=s.toks) (fun _ _ q=>Z0 _ q) (Z2 _) (dk_empty s.heap I.big),rfl,h _ (I.hok.fresh (Z2 _))⟩
end
noncomputable def tPairs:List (TE×TE)→St→Hp→(List (V×V)→Hp→Prop)→Prop
 | [],_,H,Q=>Q [] H
 | (tk,tv) :: r,σ,H,Q=>tk σ H fun x H1=>tv σ H1 fun y H2=>tPairs r σ H2 fun ps H3=>Q ((x,y) :: ps) H3
noncomputable abbrev VV:List (V×V)→List (Value×Value)→Prop:=Paired fun p q=>RelV p.1 q.1∧RelV p.2 q.2
noncomputable def PPs (X:Cx) (pos:Pos) (keys:List (Option Expr)) (values:List Expr) (trs:List (TE×TE)):Prop :=
 ∀ (pins:List (Addr×Obj)) (s:Shared) (σ : St) (H:Hp) (Q:List (V×V)→Hp→Prop),Inv X pins σ H s→tPairs trs σ H Q →
  wpAny (model X.prog X.w) X.A (evalPairs (pairTrees keys values X.env pos)) (fun vs s'=>∃ ps H',Inv X pins σ H' s'∧VV ps vs∧Q ps H') X.xe s
theorem pps_nil {X:Cx}{pos:Pos}:PPs X pos [] [] []:=fun pins s σ H Q I h=>pairTrees_nil_walk ⟨[],H,I,.nil,h⟩
theorem zCm {X:Cx}{pos:Pos}{k v:Expr}{ks:List (Option Expr)}{vs:List Expr}{tk tv:TE}{trs:List (TE×TE)} (hk:PE X k tk) (hv:PE X v tv) (hr:PPs X pos ks vs trs) :
  PPs X pos (some k :: ks) (v :: vs) ((tk,tv) :: trs):=fun pins s σ H Q I h =>
 pairTrees_cons_walk (thn (hk pins s σ H _ I h) fun u s1 ⟨x,H1,I1,rx,q1⟩=>thn (hv pins s1 σ H1 _ I1 q1) fun w2 s2 ⟨y,H2,I2,ry,q2⟩ =>
  thn (hr pins s2 σ H2 _ I2 q2) fun ws s3 ⟨ps,H3,I3,rel,q3⟩=>⟨(x,y) :: ps,H3,I3,.cons ⟨rx,ry⟩ rel,q3⟩)
noncomputable def mergeK (kvs more:List (Key×V)):List (Key×V):=more.foldl (fun acc kv=>putK acc kv.1 kv.2) kvs
theorem KV.merge:∀ {more:List (Key×V)}{rs:List (Key×Value)}{kvs:List (Key×V)}{vs:List (Key×Value)},KV more rs→KV kvs vs→KV (mergeK kvs more) (merged vs rs):=by
 intro more rs kvs vs r;unfold KV at r
 induction r generalizing kvs vs with
 | nil=>intro q;exact q
 | @cons p q ps qs h t ih =>
  intro r0;have e:KV (putK kvs p.1 p.2) (stored vs q.1 q.2):=by
   have:=r0.put p.1 h.2;rw [← h.1];exact this
  exact ih e
theorem zD9:∀ (more kvs:List (Key×V)),(mergeK kvs more).length≤kvs.length + more.length
 | [],kvs=>by show kvs.length≤kvs.length + 0;omega
 | p :: r,kvs=>by
  have h1:=zD9 r (putK kvs p.1 p.2);have h2:=zBv kvs p.1 p.2;show (mergeK (putK kvs p.1 p.2) r).length≤_;rw [Zg];omega
theorem zEs {P:Program}{w:World}:∀ {kvs:List (Key×V)}{ws:List (Value×Value)},VV (kvs.map fun kv=>(kV kv.1,kv.2)) ws→∃ rs,Carries (mixKind P w) ws rs∧KV kvs rs
 | [],_,r=>by rw [List.map_nil] at r;cases r;exact ⟨[],True.intro,.nil⟩
 | p :: kvs,_,r=>by
  rw [Zt] at r;cases r with
  | @cons a b as bs h t =>
   obtain ⟨rs,c,q⟩:=zEs (P:=P) (w:=w) t;obtain ⟨b1,b2⟩:=b;exact ⟨(p.1,b2) :: rs,⟨kV_is h.1,rfl,c⟩,.cons ⟨rfl,h.2⟩ q⟩
noncomputable def tDisp (trs:List (TE×TE)):TE:=fun σ H Q=>∀ p,H p=none→tPairs trs σ (upd H p (.dK [])) fun ps H2=>H2 p=some (.dK [])∧∃ kvs:List (Key×V),ps=kvs.map (fun kv=>(kV kv.1,kv.2))∧kvs.length≤15∧Q (.ref p) (upd H2 p (.dK (mergeK [] kvs)))
theorem zF2 {X:Cx}{pos:Pos}{keys:List (Option Expr)}{values:List Expr}{trs:List (TE×TE)} (h:PPs X pos keys values trs) (hall:keys.all (·.isSome)=true) (hl:keys.length=values.length) (h0:keys≠[])
  (h15:keys.length≤15):PE X (.Dict keys values pos) (tDisp trs):=by
 intro pins s σ H Q I q;have hn:=I.hok.fresh (Z2 s.heap.objs.size);have I1:=I.laid (a:=s.heap.objs.size) (o:=.dK []) (h':=s.heap.push { cls:=.type "dict",data:=.dict #[] }) (t':=s.toks) (fun _ _ q=>Z0 _ q) (Z2 _) (dk_empty s.heap I.big);refine wpAny_Dict_walk (knd:=mixKind X.prog X.w) hall hl h0 h15 (thn (h pins _ σ _ _ I1 (q _ hn)) fun ws s2 ⟨ps,H2,I2,rel,e,kvs,ep,lk,q2⟩=>?_);subst ep;obtain ⟨rs,c,rk⟩:=zEs (P:=X.prog) (w:=X.w) rel;obtain ⟨z,hd,vs0,r0,dd⟩:=dk_of I2.hok e;cases r0;refine ⟨rs,c,dd,fun h' dd' hs=>⟨.ref s.heap.objs.size,_,?_,rfl,q2⟩⟩;have hz:(mergeK [] kvs).length≤sizeLine:=by
  have h1:=zD9 kvs [];rw [List.length_nil] at h1;rw [sizeLine_eq];omega
 have he:∃ q,h'.get? s.heap.objs.size=some q:=let ⟨q,_,_,hq,_⟩:=dd';⟨q,hq⟩;exact d_write I2 (by rw [e];exact True.intro) hs he (dk_new hz hd (rk.merge .nil) dd')
structure M1 (X:Cx) (o:Expr) (m:Str) (apos:Pos) (e:Expr) (cpos:Pos):Prop where
 base:attributeBase o m X.env (eval o X.env)=eval o X.env
 few:((backTo cpos (starEach [e] X.env)).all (fun x=>!x.1) && (backToKw cpos (keywordEach [] X.env)).all (fun x=>x.1.isSome)
  && decide (([e]:List Expr).length + ([]:List Keyword).length + (if ([]:List Keyword).isEmpty then 0 else 1) < 30))=true
 line:(apos.endLine == cpos.line)=true
 trees:backTo cpos (starEach [e] X.env)=[(false,eval e X.env)]
structure M2 (X:Cx) (o:Expr) (m:Str) (apos:Pos) (e f:Expr) (cpos:Pos):Prop where
 base:attributeBase o m X.env (eval o X.env)=eval o X.env
 few:((backTo cpos (starEach [e,f] X.env)).all (fun x=>!x.1) && (backToKw cpos (keywordEach [] X.env)).all (fun x=>x.1.isSome)
  && decide (([e,f]:List Expr).length + ([]:List Keyword).length + (if ([]:List Keyword).isEmpty then 0 else 1) < 30))=true
 line:(apos.endLine == cpos.line)=true
 trees:backTo cpos (starEach [e,f] X.env)=[(false,eval e X.env),(false,eval f X.env)]
noncomputable def IsD (H:Hp) (a:Addr):Prop:=(∃ kvs,Rd H a (.dK kvs))∨∃ kvs,Rd H a (.dT kvs)
theorem isD_at {X:Cx}{pins:List (Addr×Obj)}{σ : St}{H:Hp}{s:Shared}{a:Addr} (I:Inv X pins σ H s) (d:IsD H a) :
  s.TypeIs (.ref a) "dict"∧(∀ b,Value.ref a=.ref b→∃ ob,s.heap.get? b=some ob∧ob.dict=none)∧(a == sysModules)=false:=by
 rcases d with ⟨kvs,e⟩ | ⟨kvs,e⟩
 ·obtain ⟨_,hd,vs,_,dd⟩:=zDd I.hok e;refine ⟨dd.typeIs,fun b q=>?_,hd⟩;cases q;obtain ⟨ob,_,_,h1,h2,_⟩:=dd;exact ⟨ob,h1,h2.2.1⟩
 ·obtain ⟨_,hd,xs,_,dd⟩:=dt_rd I.hok e;refine ⟨dd.typeIs,fun b q=>?_,hd⟩;cases q;obtain ⟨ob,_,_,h1,h2,_⟩:=dd;exact ⟨ob,h1,h2.2.1⟩
section
variable {X:Cx}{pins:List (Addr×Obj)}{σ : St}{H:Hp}{s:Shared}{a:Addr}{y d:V}{u r:Value}{o:Option V}{A:Around}{E:Value→Shared→Prop}
theorem d_get1 {Q:Value→Shared→Prop} (hu:A.units + 1 < cLine) (I:Inv X pins σ H s) (g:DGet H a y o) (ry:RelV y u) (h:∀ w' s',Inv X pins σ H s'→RelV (o.getD .non) w'→Q w' s') :
  wpAny (model X.prog X.w) A (call (.builtin "dict.get") [.ref a,u]) Q E s:=by
 rcases g with ⟨kvs,k,e,ey,l⟩ | ⟨kvs,k,b,e,ey,eb,l⟩
 ·subst ey;obtain ⟨z,hd,vs,rel,dd⟩:=zDd I.hok e;refine call_meetsIn PySem.F.slot_dict_get dd.typeIs PySem.F.entry_dict_get (PySem.F.args_dict_get_2 _ _) (meets_dict_get (mixKind X.prog X.w) a (kV_is ry) hd) ⟨_,dd.mapOf,h _ _ (I.tok _) ?_⟩;rw [l];exact (rel.val k).getD rfl
 ·subst ey;cases (show u=Value.ref b from ry);obtain ⟨z,hd,xs,rel,dd⟩:=dt_rd I.hok e;refine call_meetsIn PySem.F.slot_dict_get dd.typeIs PySem.F.entry_dict_get (PySem.F.args_dict_get_2 _ _) (meetsH_dict_get (tupleKind (mixKind X.prog X.w)) a b hd) ⟨tupleKind_room_in1 hu,k,xs,zE6 I.hok eb,dd,h _ _ (I.tok _) ?_⟩;rw [l];exact (rel.val k).getD rfl
theorem d_get2 {Q:Value→Shared→Prop} (hu:A.units + 1 < cLine) (I:Inv X pins σ H s) (g:DGet H a y o) (ry:RelV y u) (rd:RelV d r) (h:∀ w' s',Inv X pins σ H s'→RelV (o.getD d) w'→Q w' s') :
  wpAny (model X.prog X.w) A (call (.builtin "dict.get") [.ref a,u,r]) Q E s:=by
 rcases g with ⟨kvs,k,e,ey,l⟩ | ⟨kvs,k,b,e,ey,eb,l⟩
 ·subst ey;obtain ⟨z,hd,vs,rel,dd⟩:=zDd I.hok e;refine call_meetsIn PySem.F.slot_dict_get dd.typeIs PySem.F.entry_dict_get (PySem.F.args_dict_get_3 _ _ _) (meets_dict_get_default (mixKind X.prog X.w) a (kV_is ry) hd r) ⟨_,dd.mapOf,h _ _ (I.tok _) ?_⟩;rw [l];exact (rel.val k).getD rd
 ·subst ey;cases (show u=Value.ref b from ry);obtain ⟨z,hd,xs,rel,dd⟩:=dt_rd I.hok e;refine call_meetsIn PySem.F.slot_dict_get dd.typeIs PySem.F.entry_dict_get (PySem.F.args_dict_get_3 _ _ _) (meetsH_dict_get_default (tupleKind (mixKind X.prog X.w)) a b hd r) ⟨tupleKind_room_in1 hu,k,xs,zE6 I.hok eb,dd,h _ _ (I.tok _) ?_⟩;rw [l];exact (rel.val k).getD rd
end
noncomputable def tDGet1 (td ty:TE):TE:=fun σ H Q=>td σ H fun x H1=>∃ a,x=.ref a∧IsD H1 a∧ty σ H1 fun y H2=>∃ o,DGet H2 a y o∧Q (o.getD .non) H2
noncomputable def tDGet2 (td ty tx:TE):TE:=fun σ H Q=>td σ H fun x H1=>∃ a,x=.ref a∧IsD H1 a∧ty σ H1 fun y H2=>tx σ H2 fun z H3=>∃ o,DGet H3 a y o∧Q (o.getD z) H3
section
variable {X:Cx}{o e f:Expr}{apos cpos:Pos}{td ty tx:TE}
theorem zC7 (hu:X.A.units + 1 < cLine) (ho:PE X o td) (he:PE X e ty) (m:M1 X o "get" apos e cpos):PE X (.Call (.Attribute o "get" apos) [e] [] cpos) (tDGet1 td ty):=by
 intro pins s σ H Q I h;refine wpAny_Call_method m.base m.few m.line PySem.F.plainAttrs_dict PySem.F.slot_dict_get PySem.F.type_dict_get (thn (ho pins s σ H _ I h) fun u s1 ⟨x,H1,I1,rx,a,ex,d,q1⟩=>?_);subst ex;obtain rfl:u=Value.ref a:=rx;obtain ⟨t1,t2,_⟩:=isD_at I1 d;refine ⟨t1,t2,?_⟩;rw [m.trees];refine Calls.callWith_builtin rfl (Calls.evalArgs_plain (Calls.spliced_cons (thn (he pins s1 σ H1 _ I1 q1) fun iv s2 ⟨y,H2,I2,ry,ov,g,q2⟩=>Calls.spliced_nil ?_)));exact d_get1 hu I2 g ry fun w' s3 I3 rw'=>⟨_,H2,I3,rw',q2⟩
theorem zF3 (hu:X.A.units + 1 < cLine) (ho:PE X o td) (he:PE X e ty) (hf:PE X f tx) (m:M2 X o "get" apos e f cpos):PE X (.Call (.Attribute o "get" apos) [e,f] [] cpos) (tDGet2 td ty tx):=by
 intro pins s σ H Q I h;refine wpAny_Call_method m.base m.few m.line PySem.F.plainAttrs_dict PySem.F.slot_dict_get PySem.F.type_dict_get (thn (ho pins s σ H _ I h) fun u s1 ⟨x,H1,I1,rx,a,ex,d,q1⟩=>?_);subst ex;obtain rfl:u=Value.ref a:=rx;obtain ⟨t1,t2,_⟩:=isD_at I1 d;refine ⟨t1,t2,?_⟩;rw [m.trees]
 refine Calls.callWith_builtin rfl (Calls.evalArgs_plain (Calls.spliced_cons (thn (he pins s1 σ H1 _ I1 q1) fun iv s2 ⟨y,H2,I2,ry,q2⟩ =>
  Calls.spliced_cons (thn (hf pins s2 σ H2 _ I2 q2) fun fv s3 ⟨z,H3,I3,rz,ov,g,q3⟩=>Calls.spliced_nil ?_))))
 exact d_get2 hu I3 g ry rz fun w' s4 I4 rw'=>⟨_,H3,I4,rw',q3⟩
end
section
variable {X:Cx}{pins:List (Addr×Obj)}{σ : St}{H:Hp}{s:Shared}{a:Addr}{kvs:List (Key×V)}{A:Around}{E:Value→Shared→Prop}
theorem d_copyOf {Q:Value→Shared→Prop} (I:Inv X pins σ H s) (e:Rd H a (.dK kvs)) (h:∀ p s',H p=none→Inv X pins σ (upd H p (.dK kvs)) s'→Q (.ref p) s'):wpAny (model X.prog X.w) A (call (.type "dict") [.ref a]) Q E s:=by
 obtain ⟨z,hd,vs,rel,dd⟩:=zDd I.hok e;refine kt_call_dict hd dd (by rw [← rel.length];exact z) fun h' dd' hs=>?_;refine h _ _ (I.hok.fresh (Z2 _)) (I.laid (a:=s.heap.objs.size) (o:=.dK kvs) (t':=s.toks) (fun b q hq=>?_) (Z2 _) (dk_new z (beq_eq_false_iff_ne.mpr (Ne.symm (Z9 I.big))) rel dd'));exact (hs.2 b (Z9 (Z5 hq))).trans (Z0 _ hq)
end
section
variable {X:Cx}{pins:List (Addr×Obj)}{σ : St}{H:Hp}{s:Shared}{a:Addr}{y:V}{u:Value}{A:Around}{E:Value→Shared→Prop}
end
end L2
namespace L2
open PySem PySem.Spec PyProof.Rows
noncomputable def PFs (X:Cx) (ifs:List Expr) (t:TT):Prop :=
 ∀ (pins:List (Addr×Obj)) (s:Shared) (σ : St) (H:Hp) (Q:Bool→Hp→Prop),Inv X pins σ H s→t σ H Q →
  wpAny (model X.prog X.w) X.A (forIn ifs true fun c r=>if r=true then do let ok ← isTrue c X.env (eval c X.env);pure (ForInStep.yield ok) else pure (ForInStep.yield r)) (TP X pins σ Q) X.xe s
noncomputable def tYes:TT:=fun _ H Q=>Q true H
theorem zB3 {X:Cx}:PFs X [] tYes:=fun _ _ _ H _ I h=>wpAny_tests_nil ⟨H,I,h⟩
theorem zDx {X:Cx}{c:Expr}{t:TT} (h:PT X c t):PFs X [c] t:=fun pins s σ H Q I q=>wpAny_tests_one (h pins s σ H Q I q)
section
variable {prog:Program}{w:World}{A:Around}{R:Result→Shared→Prop}
theorem comp_loop {elt tg iter:Expr}{ifs:List Expr}{sc:Scope}{pos:Pos}{it acc:Value}{env:Env} (J:Nat→Shared→Prop) (N:Value→Shared→Prop)
  (hN:N=notedBy (model prog w) A env fun e z=>R (.error e) z)
  (turn:∀ k z,J k z→wpAny (model prog w) A (pyNext it) (fun r z1=>match r with
   | none=>R (.ok .next) z1
   | some v=>wpAny (model prog w) A (letOwnedTupleGo tg it v) (fun _ z2=>wpAny (model prog w) A (assign tg env v) (fun _ z3 =>
     wpAny (model prog w) A (forIn ifs true fun c r=>if r=true then do let ok ← isTrue c env (eval c env);pure (ForInStep.yield ok) else pure (ForInStep.yield r)) (fun ok z4 =>
      if ok=true then wpAny (model prog w) A (eval elt env) (fun y z5=>wpAny (model prog w) A (call (.builtin "list.append") [acc,y]) (fun _ z6=>∃ j,j < k∧J j z6) N z5) N z4
      else ∃ j,j < k∧J j z4) N z3) N z2) N z1) N z)
  {z:Shared} (k:Nat) (h:J k z):codeAny (model prog w) A (.compLoop (.ListComp elt [⟨tg,iter,ifs,0⟩] sc pos) 0 it acc env) R z:=by
 subst hN;refine codeAny_loop rfl J (fun k z hJ=>?_) k h;show wpAny _ A ((compTurn (.ListComp elt [⟨tg,iter,ifs,0⟩] sc pos) 0 it acc env).onRaise (fun x=>do noteFrame x env;theTreesLotGoes x)) _ _ z;refine wpAny_noted ?_;rw [compTurn_list];refine wpAny_bind (wpAny_standAt (wpAny_bind (thn (turn k z hJ) fun r z1 h1=>?_)));cases r with
 | none=>exact wpAny_pure h1
 | some v =>
  refine wpAny_bind (thn h1 fun _ z2 h2=>?_);refine wpAny_bind (thn h2 fun _ z3 h3=>?_);refine wpAny_bind (thn h3 fun ok z4 h4=>?_);cases ok with
  | false=>exact wpAny_pure ⟨rfl,h4⟩
  | true=>exact wpAny_bind (wpAny_bind (thn h4 fun y z5 h5=>wpAny_bind (thn h5 fun _ z6 h6=>wpAny_pure (wpAny_pure ⟨rfl,h6⟩))))
end
noncomputable def cxComp (X:Cx) (sc:Scope) (cl:List (Str×Addr)) (T:List Str) (C:Addr) (s2:Shared) (H2:Hp) (fp:List Addr):Cx where
 prog:=X.prog
 w:=X.w
 K:=X.K
 mg:=X.mg
 base:=X.base
 A:=X.A
 N:=X.N++T
 s₀:=s2
 H₀:=H2
 env:=compEnvC sc cl C X.env
 outer:=X.stack
 stack:=X.stack
 ex:=fp
 fn:=fun _=>false
 calm:=X.calm
 pn:=[]
 xe:=fun _ _=>False
noncomputable def ClOk (X:Cx):List (Str×Addr)→Prop
 | []=>True
 | p :: r=>X.env.cells.lookup p.1=some p.2∧ClOk X r
theorem ClOk.look {X:Cx}:∀ {cl:List (Str×Addr)},ClOk X cl→∀ x c,cl.lookup x=some c→X.env.cells.lookup x=some c
 | [],_,_,_,h=>by cases h
 | p :: r,k,x,c,h=>by
  cases e:x == p.1 with
  | true =>
   rw [Zz,e] at h;have ex:x=p.1:=by simpa using e
   rw [ex,k.1];exact h
  | false =>
   rw [Zz,e] at h;exact ClOk.look k.2 x c h
structure ScOk (X:Cx) (sc:Scope) (cl:List (Str×Addr)) (T:List Str):Prop where
 clos:closureFor sc X.env=pure cl
 cell:∀ y∈sc.names,y.2≠.cell
 kind:sc.kind=.function
 names:∀ x∈sc.names,x.2=.local→sc.names.lookup x.1=some .local
 cls:ClOk X cl
 has:∀ x∈sc.names,x.2=.free→(cl.lookup x.1).isSome=true∧(X.env.scope.names.lookup x.1=some .cell∨X.env.scope.names.lookup x.1=some .free)
 out:∀ x∈X.N,sc.names.lookup x≠some .local
theorem zDg {sc:Scope}{env:Env}{x:Str}{k:NameKind}:∀ {names:List (Str×NameKind)},
  (names.map fun (n,k)=>if (k == NameKind.free && env.scope.kind == .function && env.kindOf n == some .cell) then (n,NameKind.cell) else (n,k)).lookup x=some k →
  ∃ j,(x,j)∈names∧names.lookup x=some j∧(j=k∨(j=.free∧k=.cell))
 | [],h=>by cases h
 | (n,j) :: r,h=>by
  cases e:x == n with
  | true =>
   have ex:x=n:=by simpa using e
   subst ex;refine ⟨j,Zn,by rw [Zz,e],?_⟩;have h':List.lookup x ((if (j == NameKind.free && env.scope.kind == .function && env.kindOf x == some .cell)=true then (x,NameKind.cell) else (x,j)) :: _)=some k:=h;by_cases c:(j == NameKind.free && env.scope.kind == .function && env.kindOf x == some .cell)=true
   ·rw [if_pos c,Zz,e] at h';have c1:(j == NameKind.free)=true:=by
     cases q:(j == NameKind.free) with
     | true=>rfl
     | false=>rw [q] at c;simp at c
    exact .inr ⟨by simpa using c1,(Zh h').symm⟩
   ·rw [if_neg c,Zz,e] at h';exact .inl (Zh h')
  | false =>
   have h':List.lookup x ((if (j == NameKind.free && env.scope.kind == .function && env.kindOf n == some .cell)=true then (n,NameKind.cell) else (n,j)) :: _)=some k:=h;have h2:(List.map (fun (n,k)=>if (k == NameKind.free && env.scope.kind == .function && env.kindOf n == some .cell) then (n,NameKind.cell) else (n,k)) r).lookup x=some k:=by
    by_cases c:(j == NameKind.free && env.scope.kind == .function && env.kindOf n == some .cell)=true
    ·rw [if_pos c,Zz,e] at h';exact h'
    ·rw [if_neg c,Zz,e] at h';exact h'
   obtain ⟨i,m,l,q⟩:=zDg (sc:=sc) (env:=env) h2;exact ⟨i,Zb _ m,by rw [Zz,e];exact l,q⟩
section
variable {X:Cx}{sc:Scope}{cl:List (Str×Addr)}{T:List Str}
theorem ScOk.seen (S:ScOk X sc cl T) {C:Addr}{x:Str} (h:(compEnvC sc cl C X.env).scope.names.lookup x=some .cell∨(compEnvC sc cl C X.env).scope.names.lookup x=some .free) :
  (∃ c,cl.lookup x=some c)∧(X.env.scope.names.lookup x=some .cell∨X.env.scope.names.lookup x=some .free):=by
 have key:∀ k,(k=.cell∨k=.free)→(relabel sc X.env).names.lookup x=some k→(∃ c,cl.lookup x=some c)∧(X.env.scope.names.lookup x=some .cell∨X.env.scope.names.lookup x=some .free):=by
  intro k hk h;obtain ⟨j,m,l,q⟩:=zDg (sc:=sc) (env:=X.env) h;have jf:j=.free:=by
   rcases q with rfl | ⟨q,_⟩
   ·rcases hk with rfl | rfl
    ·exact absurd rfl (S.cell _ m)
    ·rfl
   ·exact q
  subst jf;obtain ⟨a,b⟩:=S.has _ m rfl;exact ⟨Option.isSome_iff_exists.mp a,b⟩
 rcases h with h | h
 ·exact key _ (.inl rfl) h
 ·exact key _ (.inr rfl) h
theorem ScOk.local_out (S:ScOk X sc cl T) {C:Addr}{x:Str} (hx:x∈X.N):(compEnvC sc cl C X.env).scope.names.lookup x≠some .local:=by
 intro h;obtain ⟨j,m,l,q⟩:=zDg (sc:=sc) (env:=X.env) h;rcases q with rfl | ⟨_,q⟩
 ·exact S.out x hx l
 ·cases q
variable {pins:List (Addr×Obj)}{σ : St}{H:Hp}{s:Shared}{fp:List Addr}{C:Addr}
theorem comp_ok (S:ScOk X sc cl T) (I:Inv X pins σ H s) (hf:∀ b∈fp,FpOk X pins H b) (hl:∀ b∈fp,b < s.heap.objs.size) (hC:s.heap.objs.size≤C):(cxComp X sc cl T C s H fp).Ok where
 mod:=I.ok.mod
 kind:=S.kind
 glob:=I.ok.glob
 blt:=I.ok.blt
 above:=hC
 inj:=fun x y c h1 h2=>I.ok.inj x y c (S.cls.look x c h1) (S.cls.look y c h2)
 has:=fun x hx=>(S.seen hx).1
 cab:=fun x c h=>by cases h
 hd:=I.ok.hd
 frames:=I.ok.frames
 stk:=.inl rfl
 exf:=fun b hb=>⟨Z9 (Z7 (hl b hb) hC),fun x c h=>(hf b hb).2.2.2.2.1 x c (S.cls.look x c h)⟩
 bs:=I.bs
 bsz:=Za I.ok.bsz I.sz
 noex:=fun b o e hb=>by
  rcases (hf b hb).2.2.2.1 with z | z
  ·exact I.ok.noex b o e z
  ·exact absurd (Z7 (Z5 e) (Za I.ok.bsz z)) (Y0 _)
 exfs:=fun b hb z=>by
  rcases List.mem_cons.mp (I.stkSub b z) with e | e
  ·exact (hf b hb).2.1 e
  ·exact (hf b hb).2.2.1 e
 funs:=I.stack
 frf:=I.stkFree
theorem comp_inv (S:ScOk X sc cl T) (I:Inv X pins σ H s) (hf:∀ b∈fp,FpOk X pins H b) (hl:∀ b∈fp,b < s.heap.objs.size) (hC:s.heap.objs.size≤C) {h1:Heap}{m:Str→Option Value}{t1:Nat}
  (k:∀ b o,s.heap.get? b=some o→h1.get? b=some o) (hn:h1.Ns C m):Inv (cxComp X sc cl T C s H fp) [] (σ++List.replicate T.length none) H { s with heap:=h1,toks:=t1 } where
 ok:=comp_ok S I hf hl hC
 os:=rfl
 bare:=I.bare
 base:=Un.kept k
 loc:=by
  refine ⟨m,hn,fun i x v e1 e2 e3=>?_⟩;have hi:i < σ.length:=by
   by_cases hi:i < σ.length
   ·exact hi
   ·rw [Y3 (Nat.not_lt.mp hi),List.getElem?_replicate] at e2;split at e2 <;> cases e2
  rw [Zr hi] at e2;have e1':X.N[i]? = some x:=by
   have e:(X.N++T)[i]? = some x:=e1
   rwa [Zr (by rw [← I.len];exact hi)] at e
  have hx:x∈X.N:=Ze e1';have e3':(compEnvC sc cl C X.env).scope.names.lookup x=some .cell∨(compEnvC sc cl C X.env).scope.names.lookup x=some .free:=by
   rcases e3 with z | z | z
   ·exact absurd z (S.local_out hx)
   ·exact .inl z
   ·exact .inr z
  obtain ⟨⟨c,hc⟩,ko⟩:=S.seen e3';obtain ⟨m0,hn0,hl0⟩:=I.loc;obtain ⟨u,r,l⟩:=hl0 i x v e1' e2 (.inr ko);refine ⟨u,r,.inr ⟨e3',c,hc,?_⟩⟩;have hc':=S.cls.look x c hc;rcases l with ⟨kl,_⟩ | ⟨_,c',hc2,z⟩
  ·have kl':X.env.scope.names.lookup x=some .local:=kl;rcases ko with q | q
   ·rw [q] at kl';cases kl'
   ·rw [q] at kl';cases kl'
  ·rw [hc'] at hc2;cases hc2;obtain ⟨o,ho,hd⟩:=z;exact ⟨o,k _ _ ho,hd⟩
 cell:=fun x c hc=>by
  obtain ⟨v,o,ho,hd⟩:=I.cell x c (S.cls.look x c hc);exact ⟨v,o,k _ _ ho,hd⟩
 free:=I.hok.fresh hC
 freeC:=fun x c hc=>I.freeC x c (S.cls.look x c hc)
 pin:=fun p hp=>absurd (show p∈([]:List (Addr×Obj)) from hp) (by simp)
 hok:=I.hok.kept k
 len:=by
  show (σ++List.replicate T.length none).length=(X.N++T).length;rw [Zc,Zc,Zi,I.len]
theorem comp_out (S:ScOk X sc cl T) (I:Inv X pins σ H s) (hf:∀ b∈fp,FpOk X pins H b) {D:Addr} (hD:s.heap.objs.size≤D) (hC:s.heap.objs.size≤C) (hDC:D≠C) {s1:Shared}{H1:Hp}{σ1:St}{p1:List (Addr×Obj)}{ys:List V}{its:List Value}
  (J:Inv (cxComp X sc cl T C s H fp) p1 σ1 H1 s1) (hH:H1 D=none) (rv:Vals ys its) (hz:ys.length≤sizeLine) (hget:s1.heap.get? D=some (LCg.lst its)) :
  Inv X pins σ (upd H1 D (.lst ys)) s1:=by
 have fD:H D=none:=I.hok.fresh hD;have nD:∀ b o,s.heap.get? b=some o→b≠D:=fun b o e=>Z9 (Z7 (Z5 e) hD);refine I.call' (ch:=fp) J.os ⟨fun b o e n hb hx=>J.base.keep b o e n hb hx,fun b o e n hb hx=>J.base.slot b o e n hb hx,fun b o e n hx=>?_,fun b o e hx=>J.base.there b o e hx,fun b xs e=>?_,fun b o u e=>?_,fun b ps e=>?_⟩ (fun b u e=>?_) J.bare fun b hb=>⟨(hf b hb).2.2.2.1,(hf b hb).2.1,(hf b hb).2.2.2.2.1,(hf b hb).2.2.2.2.2⟩
 ·rw [zA6 (nD b o e)];exact J.base.free b o e n hx
 ·rw [zA6 (zA5 e fD)];exact J.base.tups b xs e
 ·rw [zA6 (zA5 e fD)];exact J.base.frzs b o u e
 ·rw [zA6 (zA5 e fD)];exact J.base.tbls b ps e
 ·by_cases hb:b=D
  ·subst hb;rw [zA1] at e;cases e;exact ⟨hz,its,its.length,rv,hget⟩
  ·rw [zA6 hb] at e;exact (J.hok b u e).stay (fun c v _ q=>q) (fun c q=>by rw [zA6 (zA5 q hH)];exact q) fun c xs q=>by rw [zA6 (zA5 q hH)];exact q
end
noncomputable def CompGoal (J:It) (k:Nat) (σ : St) (H1:Hp) (g:TG) (tt:TT) (te:TE) (Q:VK):Prop:=∃ W:Nat→Nat→List V→Hp→Prop,(∃ m,W 0 m [] H1)∧∀ i m ys H,W i m ys H →
 (J.stop i H∧ys.length≤sizeLine∧∀ p,H p=none→Q (.ref p) (upd H p (.lst ys))) ∨
 (J.go i H∧ys.length≤sizeLine∧∀ x H',J.yld i H x H'→g x (σ++List.replicate k none) H' fun σ2 H2=>tt σ2 H2 fun b H3 =>
  if b=true then te σ2 H3 fun y H4=>∃ m',m' < m∧W (i + 1) m' (ys++[y]) H4 else ∃ m',m' < m∧W (i + 1) m' ys H3)
noncomputable def tComp (k:Nat) (wi:TI) (g:TG) (tt:TT) (te:TE):TE:=fun σ H Q=>wi σ H fun J H1=>CompGoal J k σ H1 g tt te Q
section
variable {X:Cx}{elt tg iter:Expr}{ifs:List Expr}{sc:Scope}{pos:Pos}{cl:List (Str×Addr)}{T:List Str}{wi:TI}{g:TG}{tt:TT}{te:TE}
theorem zDt {pins:List (Addr×Obj)}{σ : St}{s2:Shared}{H2:Hp}{Q:VK}{E:Value→Shared→Prop}{R:Value→Addr→Result→Shared→Prop}{it:Addr}{fp:List Addr}{tn:Nat→Heap→Prop}{J:It}
  {Φ : Cx→Prop} (hc:∀ C s H fp,Φ (cxComp X sc cl T C s H fp)) (S:ScOk X sc cl T)
  (hg:∀ C s H fp,PG (cxComp X sc cl T C s H fp) tg g) (hf:∀ C s H fp,PFs (cxComp X sc cl T C s H fp) ifs tt) (he:∀ C s H fp,PE (cxComp X sc cl T C s H fp) elt te)
  (I:Inv X pins σ H2 s2) (TT':TurnP Φ X.prog X.w X.K tg J fp it tn) (st:tn 0 s2.heap) (f2:∀ b∈fp,FpOk X pins H2 b)
  (W:Nat→Nat→List V→Hp→Prop) (m0:Nat) (w0:W 0 m0 [] H2)
  (turn:∀ i m ys H,W i m ys H→(J.stop i H∧ys.length≤sizeLine∧∀ p,H p=none→Q (.ref p) (upd H p (.lst ys))) ∨
   (J.go i H∧ys.length≤sizeLine∧∀ x H',J.yld i H x H'→g x (σ++List.replicate T.length none) H' fun σ2 H2=>tt σ2 H2 fun b H3 =>
    if b=true then te σ2 H3 fun y H4=>∃ m',m' < m∧W (i + 1) m' (ys++[y]) H4 else ∃ m',m' < m∧W (i + 1) m' ys H3))
  (hR:∀ (D C:Addr) (s1:Shared) (H1:Hp) (m:Str→Option Value),Inv X pins σ H1 s1→H1 C=none→C≠X.env.locals→X.s₀.heap.objs.size≤C→(∀ x c,X.env.cells.lookup x=some c→c≠C)→(∀ p∈X.pn++pins,p.1≠C) →
   s1.heap.Ns C m→Q (.ref D) H1→R (.ref D) C (.ok .next) s1) :
  wpAny (model X.prog X.w) X.A (newList []) (fun acc s₃=>wpAny (model X.prog X.w) X.A (newFunctionEnv sc X.env.globals cl [] X.env.qual none .none (some X.env)) (fun cenv s₄ =>
   codeAny (model X.prog X.w) X.A (.compStart (.ListComp elt [⟨tg,iter,ifs,0⟩] sc pos) 0 (.ref it) acc { cenv with scope:=relabel sc X.env }) (R acc cenv.locals) s₄) E s₃) E s2:=by
 refine wpAny_newObj_type (wpAny_newFunctionEnv S.cell (by intro y hy;simp at hy) (fun h1 hn1 sb1=>?_) S.kind);dsimp only at hn1 sb1 ⊢;generalize hH:s2.heap.push { cls:=.type "list",dict:=none,data:=.seq ([]:List Value).toArray }=G at hn1 sb1 ⊢;have hC:G.objs.size=s2.heap.objs.size + 1:=by rw [← hH,Y2]
 have hDC:s2.heap.objs.size≠G.objs.size:=by rw [hC];exact Z9 (Y5 _)
 have hCle:s2.heap.objs.size≤G.objs.size:=by rw [hC];exact Nat.le_succ _
 have old:∀ b o,s2.heap.get? b=some o→h1.get? b=some o:=fun b o e=>by
  exact sb1.extBut b o (Z9 (Z7 (Z5 e) hCle)) (Z0 _ (hH ▸ Z0 _ e))
 have hacc:h1.get? s2.heap.objs.size=some (LCg.lst []):=sb1.extBut _ _ hDC (Z0 _ (hH ▸ Z6 _ rfl));have fl:∀ b∈fp,b < s2.heap.objs.size:=fun b hb=>by
  obtain ⟨o,e,_⟩:=TT'.obj _ _ st b hb;exact Z5 e
 have DS:s2.heap.objs.size∉frs X.stack:=fun z=>by
  rcases List.mem_cons.mp (I.stkSub _ z) with e | e
  ·exact Z9 I.lt e.symm
  ·exact I.nofs (Z2 _) e
 have keepT:∀ (i:Nat) (h h':Heap),tn i h→(∀ b o,b < s2.heap.objs.size→h.get? b=some o→h'.get? b=some o)→tn i h':=fun i h h' z k=>TT'.keep i h h' z fun b hb o e=>k b o (fl b hb) e;have fpo:∀ {H':Hp}{pl:List (Addr×Obj)},(∀ b∈fp,H' b=none)→(∀ p∈pl,s2.heap.objs.size≤p.1)→∀ b∈fp,FpOk (cxComp X sc cl T G.objs.size s2 H2 fp) pl H' b:=fun {H' pl} hn hp b hb=>by
  refine ⟨hn b hb,fun z=>?_,fun z=>?_,.inl hb,fun x c h=>(f2 b hb).2.2.2.2.1 x c (S.cls.look x c h),fun p hp' z=>?_⟩
  ·exact Z9 (Z7 (fl b hb) hCle) z
  ·rcases List.mem_cons.mp (I.stkSub b z) with e | e
   ·exact (f2 b hb).2.1 e
   ·exact (f2 b hb).2.2.1 e
  ·exact Z9 (Z7 (fl b hb) (hp p (show p∈pl from hp'))) z.symm
 let Y:=cxComp X sc cl T G.objs.size s2 H2 fp
 have loop:∀ z:Shared,z={ s2 with heap:=h1,toks:=s2.toks + ([]:List (Str×Value)).length } →
   codeAny (model X.prog X.w) X.A (.compLoop (.ListComp elt [⟨tg,iter,ifs,0⟩] sc pos) 0 (.ref it) (.ref s2.heap.objs.size) (compEnvC sc cl G.objs.size X.env)) (R (.ref s2.heap.objs.size) G.objs.size) z:=by
  rintro z rfl;refine comp_loop (fun n z=>∃ i ys its H',Inv Y [] (σ++List.replicate T.length none) H' z∧tn i z.heap∧(∀ b∈fp,H' b=none)∧H' s2.heap.objs.size=none∧Vals ys its∧z.heap.get? s2.heap.objs.size=some (LCg.lst its)∧W i n ys H') _ rfl ?_ m0
   ⟨0,[],[],H2,comp_inv S I f2 fl hCle old hn1,TT'.keep _ _ _ st fun b hb o e=>old b o e,fun b hb=>(f2 b hb).1,I.hok.fresh (Z2 _),.nil,hacc,w0⟩
  rintro n z ⟨i,ys,its,H',IY,stz,frz,fD,rv,hget,wz⟩;have IP:Inv Y [(s2.heap.objs.size,LCg.lst its)] (σ++List.replicate T.length none) H' z:=IY.pins_of fun p hp=>by
   have e:p=(s2.heap.objs.size,LCg.lst its):=by simpa using hp
   subst e;exact ⟨hget,fD,hDC,DS,fun v q=>by cases (show Data.seq _ _=Data.cell v from q)⟩
  have hpl:∀ p∈[(s2.heap.objs.size,LCg.lst its)],s2.heap.objs.size≤p.1:=fun p hp=>by
   have e:p=(s2.heap.objs.size,LCg.lst its):=by simpa using hp
   subst e;exact Z2 _
  rcases turn i n ys H' wz with ⟨stop,hz,q⟩ | ⟨go,hz,step⟩
  ·refine thn (TT'.done Y rfl rfl rfl (hc _ _ _ _) i _ z _ H' _ IP (fpo frz hpl) stz stop) fun r z1 ⟨hr,I1⟩=>?_;subst hr;have g1:z1.heap.get? s2.heap.objs.size=some (LCg.lst its):=(I1.pin (s2.heap.objs.size,LCg.lst its) (by simp [Y,cxComp])).1;obtain ⟨mC,hnC,_⟩:=I1.loc;have out:=comp_out S I f2 (Z2 _) hCle hDC I1 fD rv hz g1;refine hR _ _ z1 _ mC out ?_ ?_ ?_ ?_ ?_ hnC (q _ fD)
   ·rw [zA6 (Ne.symm hDC)];exact I1.free
   ·exact (Z9 (Z7 I.lt hCle)).symm
   ·exact Za I.sz hCle
   ·intro x c hcc;obtain ⟨v,zc⟩:=I.cell x c hcc;exact Z9 (Z7 zc.lt hCle)
   ·intro p hp;exact Z9 (Z7 (Z5 (I.pin p hp).1) hCle)
  ·refine thn (TT'.item Y rfl rfl rfl (hc _ _ _ _) i _ z _ H' _ IP (fpo frz hpl) stz go) fun r z1 ⟨u,hr,h1'⟩=>?_;subst hr;refine thn h1' fun _ z2 ⟨x,H3,I3,r3,y3,st3,fr3⟩=>?_;have I3':=I3.pinned (fpo fr3 hpl) (TT'.obj _ _ st3);have fin:∀ {H':Hp}{σ':St}{z':Shared},Inv Y ([(s2.heap.objs.size,LCg.lst its)]++pinsAt fp z2.heap) σ' H' z'→tn (i + 1) z'.heap∧(∀ b∈fp,H' b=none)∧H' s2.heap.objs.size=none∧z'.heap.get? s2.heap.objs.size=some (LCg.lst its):=fun {H' σ' z'} I'=>by
    have a1:∀ b∈fp,∀ o,z2.heap.get? b=some o→z'.heap.get? b=some o∧H' b=none:=fun b hb o e =>
     let p:=I'.pin (b,o) (Zo _ (Zo _ (zDk hb e)))
     ⟨p.1,p.2.1⟩
    have a2:=I'.pin (s2.heap.objs.size,LCg.lst its) (Zo _ (by simp))
    exact ⟨TT'.keep _ _ _ st3 fun b hb o e=>(a1 b hb o e).1,fun b hb=>by
     obtain ⟨o,e,_⟩:=TT'.obj _ _ st3 b hb
     exact (a1 b hb o e).2,a2.2.1,a2.1⟩
   have bare:∀ {H':Hp}{σ':St}{z':Shared},Inv Y ([(s2.heap.objs.size,LCg.lst its)]++pinsAt fp z2.heap) σ' H' z'→Inv Y [] σ' H' z':=fun I'=>I'.pins_of fun p hp=>absurd hp (by simp);refine wpAny_mono (hg G.objs.size s2 H2 fp _ z2 _ H3 x u _ I3' r3 (step x H3 y3)) (fun _ z3 ⟨σ4,H4,I4,q4⟩=>?_) fun _ _ e=>e.elim;refine wpAny_mono (hf G.objs.size s2 H2 fp _ z3 _ H4 _ I4 q4) (fun ok z4 ⟨H5,I5,q5⟩=>?_) fun _ _ e=>e.elim;have lenσ : ∀ {H':Hp}{σ':St}{z':Shared}{pl},Inv Y pl σ' H' z'→(σ++List.replicate T.length none).length = σ'.length:=fun I'=>by rw [I'.len];exact IY.len
   have weak:∀ {H':Hp}{z':Shared},Inv Y [] σ4 H' z'→Inv Y [] (σ++List.replicate T.length none) H' z':=fun {H' z'} I'=>by
    have c0:=comp_inv (T:=T) (t1:=z'.toks) S I f2 fl hCle old hn1;obtain ⟨m',hn',hl'⟩:=I'.loc;obtain ⟨_,_,hl0⟩:=I.loc;refine ⟨I'.ok,I'.os,I'.bare,I'.base,⟨m',hn',fun j x v e1 e2 e3=>?_⟩,I'.cell,I'.free,I'.freeC,I'.pin,I'.hok,(lenσ I').trans I'.len⟩;have hj:j < σ.length:=by
     by_cases hj:j < σ.length
     ·exact hj
     ·rw [Y3 (Nat.not_lt.mp hj),List.getElem?_replicate] at e2;split at e2 <;> cases e2
    have e2':=e2;rw [Zr hj] at e2';have e1':X.N[j]? = some x:=by
     have e:(X.N++T)[j]? = some x:=e1
     rwa [Zr (by rw [← I.len];exact hj)] at e
    have hx:x∈X.N:=Ze e1';have e3':(compEnvC sc cl G.objs.size X.env).scope.names.lookup x=some .cell∨(compEnvC sc cl G.objs.size X.env).scope.names.lookup x=some .free:=by
     rcases e3 with z | z | z
     ·exact absurd z (S.local_out hx)
     ·exact .inl z
     ·exact .inr z
    obtain ⟨⟨c,hc'⟩,ko⟩:=S.seen e3';obtain ⟨u,r,l⟩:=hl0 j x v e1' e2' (.inr ko);have hcX:=S.cls.look x c hc';refine ⟨u,r,.inr ⟨e3',c,hc',?_⟩⟩;rcases l with ⟨kl,_⟩ | ⟨_,c',hc2,zc⟩
    ·have kl':X.env.scope.names.lookup x=some .local:=kl;rcases ko with q | q
     ·rw [q] at kl';cases kl'
     ·rw [q] at kl';cases kl'
    ·rw [hcX] at hc2;cases hc2;obtain ⟨o,ho,hd⟩:=zc;have nfp:c∉fp:=fun hb=>(f2 c hb).2.2.2.2.1 x c hcX rfl;obtain ⟨sl,e⟩:=I'.base.any ho (I.freeC x c hcX) nfp;exact ⟨_,e,hd⟩
   cases ok with
   | false =>
    rw [if_neg Z8] at q5 ⊢;obtain ⟨m',hm,w'⟩:=q5;obtain ⟨b1,b2,b3,b4⟩:=fin I5;exact ⟨m',hm,i + 1,ys,its,H5,weak (bare I5),b1,b2,b3,rv,b4,w'⟩
   | true =>
    rw [if_pos rfl] at q5 ⊢;refine wpAny_mono (he G.objs.size s2 H2 fp _ z4 _ H5 _ I5 q5) (fun y z5 ⟨yv,H6,I6,r6,q6⟩=>?_) fun _ _ e=>e.elim;obtain ⟨m',hm,w'⟩:=q6;obtain ⟨b1,b2,b3,b4⟩:=fin I6;refine append_at (hsz:=by show its.toArray.size≤sizeLine;rw [Z3,← rv.length];exact hz) b4 fun h6 sb6 g6=>?_
    have I7:Inv Y [] (σ++List.replicate T.length none) H6 { z5 with heap:=h6 }:=(weak (bare I6)).turned (t':=z5.toks) (it:=s2.heap.objs.size) (fun b o hb e=>(sb6.2 b hb).trans e) b3 hDC (.inr (Z2 _)) (fun x c h=>by
     obtain ⟨v,zc⟩:=I.cell x c (S.cls.look x c h)
     exact Z9 zc.lt) fun p hp=>absurd (show p∈([]:List (Addr×Obj)) from hp) (by simp)
    refine ⟨m',hm,i + 1,ys++[yv],its++[y],H6,I7,keepT _ _ _ b1 fun b o hb e=>(sb6.2 b (Z9 hb)).trans e,b2,b3,rv.append (.cons r6 .nil),g6.trans (congrArg some (LCg.lst_snoc its y)),w'⟩
 exact codeAny_compStart_list (loop _ rfl) (TT'.self _ 0 _ _ _ (TT'.keep _ _ _ st fun b hb o e=>old b o e) (loop _ rfl))
theorem zAr (hc:X.calm=true) (S:ScOk X sc cl T) (hi:PI X tg iter wi)
  (hg:∀ C s H fp,PG (cxComp X sc cl T C s H fp) tg g) (hf:∀ C s H fp,PFs (cxComp X sc cl T C s H fp) ifs tt) (he:∀ C s H fp,PE (cxComp X sc cl T C s H fp) elt te)
  (hs:∀ x,foldedSetIterable iter X.env x=pure x:=by intro _;rfl):PE X (.ListComp elt [⟨tg,iter,ifs,0⟩] sc pos) (tComp T.length wi g tt te):=by
 intro pins s σ H Q I h;rw [eval_ListComp];refine wpAny_comprehension_free (use:=none) rfl hs S.clos S.kind S.names (thn (hi pins s σ H _ I h) fun v s1 h1=>thn h1 fun itv s2 h2=>?_);obtain ⟨it,fp,tn,J,H2,e,I2,TT',st2,f2,W,⟨m0,w0⟩,turn⟩:=h2;subst e;refine zDt (Q:=Q) (fun _ _ _ _=>hc) S hg hf he I2 TT' st2 f2 W m0 w0 turn fun D C z H1 m I1 n1 n2 n3 n4 n5 hn q=>?_;exact ⟨m,hn,fun h' sb=>⟨.ref D,H1,I1.turned (t':=z.toks) (it:=C) (fun b o hb e=>(sb.2 b hb).trans e) n1 n2 (.inr n3) n4 n5,rfl,q⟩⟩
theorem zC0 {i:Nat}{y:Str}{py spos:Pos} (hc:X.calm=true) (S:ScOk X sc cl T) (hi:PI X tg iter wi)
  (hg:∀ C s H fp,PG (cxComp X sc cl T C s H fp) tg g) (hf:∀ C s H fp,PFs (cxComp X sc cl T C s H fp) ifs tt) (he:∀ C s H fp,PE (cxComp X sc cl T C s H fp) elt te)
  (hN:X.N.Nodup) (hix:X.N[i]? = some y) (hx:X.env.scope.names.lookup y=some .local)
  (hsw:swapsWith (.ListComp elt [⟨tg,iter,ifs,0⟩] sc pos) (some (.Name y py)) spos.line X.env=pure true)
  (hs:∀ x,foldedSetIterable iter X.env x=pure x:=by intro _;rfl) :
  PS X (.Assign [.Name y py] (.ListComp elt [⟨tg,iter,ifs,0⟩] sc pos) spos) (tAsg (tComp T.length wi g tt te) (gName i)):=by
 intro pins s σ H D I h;rw [exec_Assign_Name_used _ _ _ _ hsw];refine wpAny_bind (wpAny_standAt (wpAny_bind ?_));show wpAny _ X.A (do let _ ← comprehension (.ListComp elt [⟨tg,iter,ifs,0⟩] sc pos) sc X.env _ (newList []) false (eval iter X.env) (some (assign (.Name y py) X.env))) _ _ s;refine wpAny_bind (thn (wpAny_comprehension_free (use:=some (assign (.Name y py) X.env)) (Q:=fun _ s'=>SP X pins D .next s') rfl hs S.clos S.kind S.names (thn (hi pins s σ H _ I h) fun v s1 h1=>thn h1 fun itv s2 h2=>?_)) fun _ s' hq=>wpAny_pure (wpAny_pure hq));obtain ⟨it,fp,tn,J,H2,e,I2,TT',st2,f2,W,⟨m0,w0⟩,turn⟩:=h2;subst e;refine zDt (Q:=fun x H1=>gName i x σ H1 D.nx) (fun _ _ _ _=>hc) S hg hf he I2 TT' st2 f2 W m0 w0 turn fun A C z H1 m I1 n1 n2 n3 n4 n5 hn q=>?_;show wpAny _ X.A (assign (.Name y py) X.env (.ref A)) _ _ z;refine wpAny_assign_Name (store_ok2 (v:=.ref A) I1 hN hix (.inl hx) rfl (fun z' I' ⟨a,sb,ha⟩=>?_) (.inr hx));have hCa:C≠a:=by
  rcases ha with e | e
  ·rw [e];exact n2
  ·exact (n4 y a e).symm
 refine ⟨m,hn.sameBut sb hCa,fun h' sb'=>⟨_,H1,I'.turned (t':=z'.toks) (it:=C) (fun b o hb e=>(sb'.2 b hb).trans e) n1 n2 (.inr n3) n4 n5,q⟩⟩
end
end L2
namespace L2
open PySem PySem.Spec PyProof.Rows
section
variable {X:Cx}
theorem v1 {x:V}{us:List Value} (r:Vals [x] us):∃ u,us=[u]∧RelV x u:=by
 cases r with
 | cons a b=>cases b;exact ⟨_,rfl,a⟩
theorem v2 {x y:V}{us:List Value} (r:Vals [x,y] us):∃ u v,us=[u,v]∧RelV x u∧RelV y v:=by
 cases r with
 | cons a b =>
  cases b with
  | cons c d=>cases d;exact ⟨_,_,rfl,a,c⟩
theorem zAg:CallR X (.builtin "isinstance") (fun xs H Q=>∃ x c t cv b,xs=[x,c]∧TyOf X.K H x t∧RelV c cv∧PySem.W.kitOne X.K t cv=some b∧Q (.bl b) H):=by
 intro pins s σ H xs us Q I r h;obtain ⟨x,c,t,cv,b,rfl,ty,rc,e,q⟩:=h;obtain ⟨u,v,rfl,ru,rv⟩:=v2 r;have hv:v=cv:=by
  cases c with
  | non=>exact (show v=Value.none from rv).trans (show cv=Value.none from rc).symm
  | bl z=>exact (show v=Value.bool z from rv).trans (show cv=Value.bool z from rc).symm
  | int i =>
   obtain ⟨t1,rfl⟩:=rc;exact absurd e (by unfold PySem.W.kitOne;cases ty <;> simp [PySem.W.kitCls])
  | str i =>
   obtain ⟨t1,rfl⟩:=rc;exact absurd e (by unfold PySem.W.kitOne;cases ty <;> simp [PySem.W.kitCls])
  | byt i =>
   obtain ⟨t1,rfl⟩:=rc;exact absurd e (by unfold PySem.W.kitOne;cases ty <;> simp [PySem.W.kitCls])
  | flt i =>
   obtain ⟨t1,rfl⟩:=rc;exact absurd e (by unfold PySem.W.kitOne;cases ty <;> simp [PySem.W.kitCls])
  | ref a=>exact (show v=Value.ref a from rv).trans (show cv=Value.ref a from rc).symm
  | ty n=>exact (show v=Value.type n from rv).trans (show cv=Value.type n from rc).symm
 subst hv;exact isinst_ok I ru ty e fun tk=>⟨.bl b,H,I.tok tk,rfl,q⟩
theorem bools_get:∀ {bs:List Bool}{us:List Value}{i:Nat}{v:Value},Vals (bs.map V.bl) us→us[i]? = some v→∃ b,bs[i]? = some b∧v=Value.bool b
 | [],_,i,v,.nil,h=>by simp at h
 | b :: r,_,0,v,.cons a t,h=>by
  simp at h;subst h;exact ⟨b,rfl,a⟩
 | b :: r,_,i + 1,v,.cons a t,h=>by
  obtain ⟨b',e,q⟩:=bools_get (bs:=r) (i:=i) t (by simpa using h);exact ⟨b',by simpa using e,q⟩
theorem all_range:∀ (bs:List Bool),((List.range bs.length).all fun i=>(bs[i]?).getD true)=bs.all id
 | []=>rfl
 | b :: r=>by
  rw [Zg,List.range_succ_eq_map,Y9,Yg,Y9];have e:=all_range r;simp only [Function.comp_def,List.getElem?_cons_succ,List.getElem?_cons_zero,Option.getD_some,id] at *;rw [← e]
theorem zBb (hc:X.calm=true):CallR X (.builtin "all") (fun xs H Q=>∃ (p:Addr) (bs:List Bool),xs=[.ref p]∧SqL X.K H p (bs.map V.bl)∧Q (.bl (bs.all id)) H):=by
 intro pins s σ H xs us Q I r h;obtain ⟨p,bs,rfl,hp,q⟩:=h;obtain ⟨u,rfl,ru⟩:=v1 r;cases (show u=Value.ref p from ru);obtain ⟨its,rv,pl,hz⟩:=I.list hp;have hl:=pl.isList;have hlt:p < s.heap.objs.size:=by obtain ⟨_,e,_⟩:=hl;exact Z5 e
 have hlen:its.length=bs.length:=by rw [← rv.length,Z1]
 refine call_all_walk (wpAny_pyIter_list hl ?_)
 refine ⟨s.heap.objs.size,[s.heap.objs.size,p],[s.heap.objs.size],its.toArray.size,_,_,fun i=>(bs[i]?).getD true,rfl,Walks.list (A:=X.A.in1) (I.ok.hd hc) _ p (Z9 hlt) its.toArray,
  ⟨⟨_,Z6 _ rfl,rfl,rfl⟩,hl.push _⟩,fun i v s' Q' E' hP hQ=>?_,fun h' tk hk=>?_⟩
 ·obtain ⟨b,e,rfl⟩:=bools_get rv (by simpa using hP);simp only [e,Option.getD_some] at hQ;exact wpAny_truthy_bool hQ
 ·rw [Z3,hlen,all_range];exact ⟨.bl _,H,I.kept (t':=tk) fun b o e=>hk b o (fun hm=>by rw [List.mem_singleton.mp hm] at e;exact Y0 _ (Z5 e)) (Z0 _ e),rfl,q⟩
noncomputable def Its (x:Str):It:=⟨fun i _=>i < x.length,fun i H v H'=>H'=H∧∃ c,x.cps[i]? = some c∧v=.str ⟨#[c]⟩,fun i _=>x.length≤i⟩
noncomputable def iStr (tl:TE):TI:=fun σ H R=>tl σ H fun v H1=>∃ x,v=.str x∧R (Its x) H1
theorem turn_str {P:Program}{w:World}{K:PySem.W.Frag}{y:Str}{py:Pos}{x:Str}{it:Addr}{St:Nat→Heap→Prop} (ho:∀ i h,St i h→∃ o,h.get? it=some o∧∀ v,o.data≠.cell v)
  (W:∀ A':Around,A'.handled=none→Walks P w A' it [it] [it] x.cps.size (SignAt x) St) (hself:∀ (A:Around) (i:Nat) (s:Shared) (Q:Value→Shared→Prop) (E:Value→Shared→Prop),St i s.heap→Q (.ref it) s→wpAny (model P w) A (pyIter (.ref it)) Q E s)
  (hst:∀ i h,St i h→i≤x.cps.size→True):Turn P w K (.Name y py) (Its x) [it] it (fun i h=>i≤x.cps.size∧St i h) where
 mem:=by simp
 obj:=fun i h st b hb=>by
  have e:b=it:=by simpa using hb
  subst e;exact ho i h st.2
 keep:=fun i h h' st k=>⟨st.1,(W { callerA with handled:=none } rfl).frame i h h' st.2 k⟩
 item:=by
  intro X hP hw hK hc i pins s σ H E I hf st hg;subst hP hw hK;obtain ⟨f0,f1,f2,f3,f4,f5⟩:=hf it (by simp);refine (W X.A (I.ok.hd hc)).item i s _ _ hg st.2 fun v h' tk hv st' kk=>?_;obtain ⟨c,u,hc',rfl⟩:=hv;have I1:Inv X pins σ H { s with heap:=h',toks:=tk }:=I.turned (fun b o hb e=>kk b o (by simpa using hb) e) f0 f1 f3 f4 f5;exact ⟨_,rfl,wpAny_pure ⟨.str ⟨#[c]⟩,H,I1,⟨u,rfl⟩,⟨rfl,c,hc',rfl⟩,⟨hg,st'⟩,fun b hb=>(hf b hb).1⟩⟩
 done:=by
  intro X hP hw hK hc i pins s σ H E I hf st hg;subst hP hw hK;obtain ⟨f0,f1,f2,f3,f4,f5⟩:=hf it (by simp);have e:i=x.cps.size:=Nat.le_antisymm st.1 hg;have st2:=st.2;rw [e] at st2;exact (W X.A (I.ok.hd hc)).done s _ _ st2 fun h' tk kk=>⟨rfl,I.turned (fun b o hb e=>kk b o (by simpa using hb) e) f0 f1 f3 f4 f5⟩
 self:=fun A i s Q E st h=>hself A i s Q E st.2 h
theorem pi_str {y:Str}{py:Pos}{l:Expr}{tl:TE} (hl:PE X l tl):PI X (.Name y py) l (iStr tl):=by
 intro pins s σ H R I h;refine thn (hl pins s σ H _ I h) fun v s1 ⟨x,H1,I1,r1,q1⟩=>?_;obtain ⟨z,rfl,q⟩:=q1;obtain ⟨t,rfl⟩:=r1;have fin:∀ {o:Obj}{St:Nat→Heap→Prop},Turn X.prog X.w X.K (.Name y py) (Its z) [s1.heap.objs.size] s1.heap.objs.size St→St 0 (s1.heap.push o)→PIE X pins σ (.Name y py) R (.ref s1.heap.objs.size) { s1 with heap:=s1.heap.push o }:=fun {o St} T st=>by
  refine ⟨s1.heap.objs.size,[s1.heap.objs.size],St,_,H1,rfl,I1.kept (t':=s1.toks) fun b o e=>Z0 _ e,T,st,fun b hb=>?_,q⟩;have e:b=s1.heap.objs.size:=by simpa using hb
  subst e;exact I1.fpOk (Z2 _) (I1.hok.fresh (Z2 _))
 cases ha:z.cps.all (· < 128)
 ·refine wpAny_pyIter_wide ha (fin (turn_str (fun i h st=>?_) (fun A' hA=>Walks.strWide hA _ z t) (fun A i s Q E st h=>wpAny_pyIter_striter_wide st h) fun _ _ _ _=>trivial) ⟨Zl _,⟨_,Z6 _ rfl,rfl,rfl⟩⟩);obtain ⟨o,e,c,d⟩:=st;exact ⟨o,e,fun v q=>by rw [d] at q;cases q⟩
 ·refine wpAny_pyIter_ascii ha (fin (turn_str (fun i h st=>?_) (fun A' hA=>Walks.strAscii hA _ z t) (fun A i s Q E st h=>wpAny_pyIter_striter_ascii st h) fun _ _ _ _=>trivial) ⟨Zl _,⟨_,Z6 _ rfl,rfl,rfl⟩⟩);obtain ⟨o,e,c,d⟩:=st;exact ⟨o,e,fun v q=>by rw [d] at q;cases q⟩
end
section
variable {X:Cx}{CX:CXT}{k:Nat}{f C:Addr}{fd:FuncData}{ps ks:List Str}{sp:Sp}{E:St→XK}{x:Str}{p pos:Pos}{e:Expr}{es:List Expr}{kws:List Keyword}{t tk:TA}{g:List Value→List Value→List Value}{gV:List V→List V→List V}
end
end L2
namespace L2
open PySem PySem.Spec PyProof.Rows
theorem log2_lt64 {j:Int} (h0:0 < j) (h1:j < 2 ^ 64):j.natAbs.log2 < 9000:=by
 have:j.natAbs < 2 ^ 64:=by omega
 have h:j.natAbs.log2 < 64:=(Nat.log2_lt (by omega)).mpr this;omega
noncomputable def CDivB (i j:Int):Prop:=0 < j∧j < 2 ^ 64
theorem op_fdivB {X:Cx}:OpR X (binaryOp .FloorDiv) (rI CDivB fun i j=>.int (i / j)):=opI fun i j _ _ _ _ _ hc q=>by
 have h1:(0:Int) < j:=hc.1;exact floordiv_int (by omega) (by rw [Int.fdiv_eq_ediv_of_nonneg i (by omega)];exact q) (.inl (PyProof.noPylong_of_log2 (log2_lt64 hc.1 hc.2)))
mutual
inductive Has (G:Addr→Prop) (H:Hp):V→PyData→Prop where
 | non:Has G H .non .none
 | bl (b:Bool):Has G H (.bl b) (.bool b)
 | int (i:Int):Has G H (.int i) (.int i)
 | str (x:Str) (hx:x.length≤1000) (ho:PyData.strOk x=true):Has G H (.str x) (.str x)
 | lst {a:Addr}{xs:List V}{ds:List PyData}:G a→H a=some (.lst xs)→xs.length≤1000→HasAll G H xs ds→Has G H (.ref a) (.list ds)
 | tup {a:Addr}{xs:List V}{ds:List PyData}:G a→H a=some (.tup xs)→xs.length≤1000→HasAll G H xs ds→Has G H (.ref a) (.tuple ds)
inductive HasAll (G:Addr→Prop) (H:Hp):List V→List PyData→Prop where
 | nil:HasAll G H [] []
 | cons {x:V}{xs:List V}{d:PyData}{ds:List PyData}:Has G H x d→HasAll G H xs ds→HasAll G H (x :: xs) (d :: ds)
end
noncomputable abbrev Any:Addr→Prop:=fun _=>True
noncomputable def isSeq:HO→Prop
 | .lst _=>True
 | .tup _=>True
 | _=>False
mutual
theorem Has.frameS {G G':Addr→Prop}{H H':Hp} (e:∀ a o,G a→isSeq o→H a=some o→G' a∧H' a=some o):∀ {v:V}{d:PyData},Has G H v d→Has G' H' v d
 | _,_,.non=>.non
 | _,_,.bl b=>.bl b
 | _,_,.int i=>.int i
 | _,_,.str x hx ho=>.str x hx ho
 | _,_,.lst (xs:=xs) g s z h=>.lst (e _ (.lst xs) g trivial s).1 (e _ (.lst xs) g trivial s).2 z (HasAll.frameS e h)
 | _,_,.tup (xs:=xs) g s z h=>.tup (e _ (.tup xs) g trivial s).1 (e _ (.tup xs) g trivial s).2 z (HasAll.frameS e h)
theorem HasAll.frameS {G G':Addr→Prop}{H H':Hp} (e:∀ a o,G a→isSeq o→H a=some o→G' a∧H' a=some o):∀ {vs:List V}{ds:List PyData},HasAll G H vs ds→HasAll G' H' vs ds
 | _,_,.nil=>.nil
 | _,_,.cons h t=>.cons (Has.frameS e h) (HasAll.frameS e t)
end
theorem Has.frame {G G':Addr→Prop}{H H':Hp}{v:V}{d:PyData} (h:Has G H v d) (e:∀ a o,G a→H a=some o→G' a∧H' a=some o):Has G' H' v d:=h.frameS fun a o g _ q=>e a o g q
theorem HasAll.frame {G G':Addr→Prop}{H H':Hp}{v:List V}{d:List PyData} (h:HasAll G H v d) (e:∀ a o,G a→H a=some o→G' a∧H' a=some o):HasAll G' H' v d:=h.frameS fun a o g _ q=>e a o g q
theorem Has.mono {G:Addr→Prop}{H H':Hp}{v:V}{d:PyData} (h:Has G H v d) (e:Same H H'):Has G H' v d:=h.frame fun a o g q=>⟨g,e a o q⟩
theorem HasAll.mono {G:Addr→Prop}{H H':Hp}{v:List V}{d:List PyData} (h:HasAll G H v d) (e:Same H H'):HasAll G H' v d:=h.frame fun a o g q=>⟨g,e a o q⟩
theorem Has.any {G:Addr→Prop}{H:Hp}{v:V}{d:PyData} (h:Has G H v d):Has Any H v d:=h.frame fun _ _ _ q=>⟨trivial,q⟩
theorem HasAll.any {G:Addr→Prop}{H:Hp}{v:List V}{d:List PyData} (h:HasAll G H v d):HasAll Any H v d:=h.frame fun _ _ _ q=>⟨trivial,q⟩
section
variable {G:Addr→Prop}{H:Hp}
theorem HasAll.length:∀ {xs:List V}{ds:List PyData},HasAll G H xs ds→xs.length=ds.length
 | _,_,.nil=>rfl
 | _,_,.cons _ t=>by rw [Zg,Zg,HasAll.length t]
theorem HasAll.get:∀ {xs:List V}{ds:List PyData}{i:Nat}{x:V},HasAll G H xs ds→xs[i]? = some x→∃ d,ds[i]? = some d∧Has G H x d
 | _,_,i,x,.nil,h=>by simp at h
 | _,_,0,x,.cons a t,h=>by simp at h;subst h;exact ⟨_,rfl,a⟩
 | _,_,i + 1,x,.cons a t,h=>by
  obtain ⟨d,e,q⟩:=HasAll.get (i:=i) t (by simpa using h);exact ⟨d,by simpa using e,q⟩
theorem HasAll.snoc:∀ {xs:List V}{ds:List PyData}{x:V}{d:PyData},HasAll G H xs ds→Has G H x d→HasAll G H (xs++[x]) (ds++[d])
 | _,_,_,_,.nil,h=>.cons h .nil
 | _,_,_,_,.cons a t,h=>.cons a (HasAll.snoc t h)
theorem Has.list_inv {v:V}{ds:List PyData} (h:Has G H v (.list ds)):∃ a xs,v=.ref a∧G a∧H a=some (.lst xs)∧xs.length≤1000∧HasAll G H xs ds:=by
 cases h with
 | lst g s z q=>exact ⟨_,_,rfl,g,s,z,q⟩
theorem Has.tup_inv {v:V}{ds:List PyData} (h:Has G H v (.tuple ds)):∃ a xs,v=.ref a∧G a∧H a=some (.tup xs)∧xs.length≤1000∧HasAll G H xs ds:=by
 cases h with
 | tup g s z q=>exact ⟨_,_,rfl,g,s,z,q⟩
mutual
theorem Has.lay:∀ {v:V}{d:PyData},Has G H v d→d.canLay0=true
 | _,_,.non=>rfl
 | _,_,.bl b=>rfl
 | _,_,.int i=>rfl
 | _,_,.str x _ ho=>ho
 | _,_,.lst _ _ _ h=>HasAll.lay h
 | _,_,.tup _ _ _ h=>HasAll.lay h
theorem HasAll.lay:∀ {vs:List V}{ds:List PyData},HasAll G H vs ds→PyData.canLayAll0 ds=true
 | _,_,.nil=>rfl
 | _,_,.cons h t=>by
  show (PyData.canLay0 _ && PyData.canLayAll0 _)=true;rw [Has.lay h,HasAll.lay t];rfl
end
end
section
variable {X:Cx}{pins:List (Addr×Obj)}{σ : St}{H:Hp}{s:Shared}{G:Addr→Prop}
mutual
theorem Has.reads (I:Inv X pins σ H s):∀ {v:V}{d:PyData}{u:Value},Has G H v d→RelV v u→∃ as,Reads s.heap u d as
 | _,_,u,.non,r=>by cases (show u=Value.none from r);exact ⟨_,.none⟩
 | _,_,u,.bl b,r=>by cases (show u=Value.bool b from r);exact ⟨_,.bool b⟩
 | _,_,u,.int i,r=>by obtain ⟨t,rfl⟩:=(show ∃ t,u=Value.int i t from r);exact ⟨_,.int i t⟩
 | _,_,u,.str x _ _,r=>by obtain ⟨t,rfl⟩:=(show ∃ t,u=Value.str x t from r);exact ⟨_,.str x t⟩
 | _,_,u,.lst (a:=a) _ q _ h,r=>by
  cases (show u=Value.ref a from r);obtain ⟨_,its,n,rv,e⟩:=I.hok a _ q;obtain ⟨as,ra⟩:=HasAll.reads I h rv;exact ⟨_,.list e rfl rfl (by simpa using ra)⟩
 | _,_,u,.tup (a:=a) _ q _ h,r=>by
  cases (show u=Value.ref a from r);obtain ⟨_,its,rv,⟨o,e,c,n,d⟩⟩:=I.hok a _ q;obtain ⟨as,ra⟩:=HasAll.reads I h rv;exact ⟨_,.tuple e c d (by simpa using ra)⟩
theorem HasAll.reads (I:Inv X pins σ H s):∀ {vs:List V}{ds:List PyData}{us:List Value},HasAll G H vs ds→Vals vs us→∃ as,ReadsAll s.heap us ds as
 | _,_,_,.nil,.nil=>⟨_,.nil⟩
 | _,_,_,.cons h t,.cons r rr=>by
  obtain ⟨as,ra⟩:=Has.reads I h r;obtain ⟨bs,rb⟩:=HasAll.reads I t rr;exact ⟨_,.cons ra rb⟩
end
end
theorem Has.shaped {G:Addr→Prop}{H:Hp}{v:V}{d:PyData} (h:Has G H v d) (hd:d.depth≤64):SeqAt.shaped d=true:=by
 unfold SeqAt.shaped;rw [h.lay,decide_eq_true hd];rfl
noncomputable def rNeD:R2:=fun x y H Q=>∃ d e,Has Any H x d∧Has Any H y e∧d.depth≤64∧e.depth≤64∧Q (.bl (!PyData.eqv d e)) H
theorem op_neD {X:Cx} (hu:X.A.units + 64 < cLine):OpR X (compareOp .NotEq) rNeD:=by
 intro pins s σ H x y u v Q I rx ry h;obtain ⟨d,e,hd,he,sd,se,q⟩:=h;obtain ⟨as,ra⟩:=hd.reads I rx;obtain ⟨bs,rb⟩:=he.reads I ry;exact ne_dataH ra rb (hd.shaped sd) (he.shaped se) hu ⟨.bl _,H,I,rfl,q⟩
theorem Has.eqv {G:Addr→Prop}{H:Hp}{v:V}{d:PyData} (h:Has G H v d):PyData.eqv d d=true:=SeqAt.eqv_refl d h.lay
section
variable {κ : Type} [DecidableEq κ]
noncomputable def dstep (acc:List κ) (x : κ):List κ:=if x∈acc then acc else acc++[x]
noncomputable def dl (l:List κ):List κ:=l.foldl dstep []
theorem dl_snoc (l:List κ) (x : κ):dl (l++[x])=dstep (dl l) x:=by unfold dl;rw [List.foldl_append];rfl
theorem zCh:∀ (l acc:List κ) (k : κ),k∈l.foldl dstep acc ↔ k∈acc∨k∈l
 | [],acc,k=>by simp
 | x :: r,acc,k=>by
  rw [Y7,zCh r];unfold dstep;by_cases h:x∈acc
  ·rw [if_pos h];constructor
   ·rintro (a | a)
    ·exact .inl a
    ·exact .inr (Zb _ a)
   ·rintro (a | a)
    ·exact .inl a
    ·rcases List.mem_cons.mp a with rfl | a
     ·exact .inl h
     ·exact .inr a
  ·rw [if_neg h];simp only [List.mem_append,Zv,Zq,or_false];constructor
   ·rintro ((a | a) | a)
    ·exact .inl a
    ·exact .inr (.inl a)
    ·exact .inr (.inr a)
   ·rintro (a | a | a)
    ·exact .inl (.inl a)
    ·exact .inl (.inr a)
    ·exact .inr a
theorem mem_dl {l:List κ}{k : κ}:k∈dl l ↔ k∈l:=by unfold dl;rw [zCh];simp
theorem zBw:∀ (l acc:List κ),(l.foldl dstep acc).length≤acc.length + l.length
 | [],acc=>Z2 _
 | x :: r,acc=>by
  rw [Y7];refine Za (zBw r _) ?_;unfold dstep;split
  ·rw [Zg];omega
  ·simp only [Zc,Zg,List.length_nil];omega
theorem dl_len_le (l:List κ):(dl l).length≤l.length:=by have:=zBw l [];simpa [dl] using this
theorem zC3:∀ (l acc:List κ),(∀ x∈l,x∉acc)→l.Nodup→(l.foldl dstep acc).length=acc.length + l.length
 | [],acc,_,_=>rfl
 | x :: r,acc,h,hn=>by
  obtain ⟨h1,h2⟩:=List.nodup_cons.mp hn;have hx:x∉acc:=h x Zn;rw [Y7,show dstep acc x=acc++[x] from if_neg hx,zC3 r _ (fun y hy m=>?_) h2]
  ·simp;omega
  ·rcases List.mem_append.mp m with m | m
   ·exact h y (Zb _ hy) m
   ·rw [List.mem_singleton.mp m] at hy;exact h1 hy
theorem zCi:∀ (l acc:List κ),((∃ x∈l,x∈acc)∨¬ l.Nodup)→(l.foldl dstep acc).length < acc.length + l.length
 | [],acc,h=>by
  rcases h with ⟨x,hx,_⟩ | h
  ·simp at hx
  ·exact absurd List.nodup_nil h
 | x :: r,acc,h=>by
  rw [Y7];by_cases hx:x∈acc
  ·rw [show dstep acc x=acc from if_pos hx];have:=zBw r acc;simp only [Zg];omega
  ·rw [show dstep acc x=acc++[x] from if_neg hx];have ih:=zCi r (acc++[x]) ?_
   ·simp only [Zc,Zg,List.length_nil] at *;omega
   ·rcases h with ⟨y,hy,ha⟩ | h
    ·rcases List.mem_cons.mp hy with rfl | hy
     ·exact absurd ha hx
     ·exact .inl ⟨y,hy,Yb _ ha⟩
    ·by_cases hr:x∈r
     ·exact .inl ⟨x,hr,by simp⟩
     ·exact .inr fun z=>h (List.nodup_cons.mpr ⟨hr,z⟩)
theorem dl_len_iff (l:List κ):decide ((dl l).length=l.length)=decide l.Nodup:=by
 by_cases h:l.Nodup
 ·have:=zC3 l [] (fun _ _ z=>by simp at z) h;rw [decide_eq_true h,decide_eq_true (by simpa [dl] using this)]
 ·have:=zCi l [] (.inr h);rw [decide_eq_false h,decide_eq_false (by simp [dl] at *;omega)]
variable {prog:Program}{w:World}{A:Around}{R:Result→Shared→Prop}{I:Addr}{fp wr:List Addr}{n:Nat}{P:Nat→Value→Prop}{St:Nat→Heap→Prop}
theorem SetOf_eqv {knd:KeyKind prog w κ}{h:Heap}{a:Addr}{S S' : κ→Bool}{m m':Nat} (x:h.SetOf knd a S m) (e:∀ k,S k=S' k) (em:m=m'):h.SetOf knd a S' m':=by
 have e':S=S':=funext e;subst e' em;exact x
theorem set_loopK (W:Walks prog w A.in1 I fp wr n P St) {D:Addr} (hD:D∉fp) {knd:KeyKind prog w κ}{ks:List κ} (hn:ks.length=n) (hval:∀ i v k,P i v→ks[i]? = some k→knd.is k v=true∧v.scannable=true) (hb:n + 1 < scanBound) :
  ∀ (j i:Nat) (z:Shared),n - i=j→i≤n→St i z.heap→z.heap.SetOf knd D (fun k=>decide (k∈ks.take i)) (dl (ks.take i)).length →
   (∀ h' tk,(∀ b o,b∉D :: wr→z.heap.get? b=some o→h'.get? b=some o)→h'.SetOf knd D (fun k=>decide (k∈ks)) (dl ks).length→R (.ok (.ret .none)) { z with heap:=h',toks:=tk }) →
   codeAny (model prog w) A (.builtin "set.update.loop" ⟨[.ref D,.ref I],[]⟩) R z:=by
 have hDw:D∉wr:=fun h=>hD (W.sub _ h);intro j
 induction j with
 | zero =>
  intro i z hj hi st hS hR;obtain rfl:i=n:=by omega
  refine codeAny_builtin PyProof.Rows.F.entry_set_update_loop ?_;rw [Around.under_plainId PyProof.Rows.F.plain_set_update_loop _];show wpAny _ A.in1 (pyNext (.ref I) >>= _) _ _ z;refine wpAny_bind (W.done z _ _ st fun h' tk kk=>?_);rw [List.take_of_length_le (Nat.le_of_eq hn)] at hS;obtain ⟨o,es,ep,t,ho,more⟩:=hS;exact wpAny_pure (hR h' tk (fun b o hb e=>kk b o (fun m=>hb (Zb _ m)) e) ⟨o,es,ep,t,kk D _ hDw ho,more⟩)
 | succ j ih =>
  intro i z hj hi st hS hR;have lt:i < n:=by omega
  refine codeAny_builtin PyProof.Rows.F.entry_set_update_loop ?_;rw [Around.under_plainId PyProof.Rows.F.plain_set_update_loop _];show wpAny _ A.in1 (pyNext (.ref I) >>= _) _ _ z;refine wpAny_bind (W.item i z _ _ lt st fun v h1 tk1 hP st1 k1=>?_);have hk:ks[i]? = some (ks[i]'(by omega)):=Z4 _;obtain ⟨hv,hs⟩:=hval i v _ hP hk;obtain ⟨o,es,ep,t,ho,more⟩:=hS;have hS1:h1.SetOf knd D (fun k=>decide (k∈ks.take i)) (dl (ks.take i)).length:=⟨o,es,ep,t,k1 D _ hDw ho,more⟩;show wpAny _ A.in1 (holding [v] (setAdd D v) >>= _) _ _ _;refine wpAny_bind (wpAny_holding ?_);unfold setAdd;refine wpAny_holding (wpAny_bind (knd.pyHash hv ?_));have room:(dl (ks.take i)).length + 1 < scanBound:=by
   have a1:=dl_len_le (ks.take i);have a2:(ks.take i).length≤i:=Zp _ _;omega
  refine wpAny_setAddHashed_of (knd:=knd) (s:={ z with heap:=h1,toks:=tk1 + 1 }) hv hs hS1 room fun h2 sb2 hS2=>?_;have et:ks.take (i + 1)=ks.take i++[ks[i]'(by omega)]:=by rw [Zk,hk];rfl
  have hS3:h2.SetOf knd D (fun k=>decide (k∈ks.take (i + 1))) (dl (ks.take (i + 1))).length:=by
   refine SetOf_eqv hS2 (fun k=>?_) ?_
   ·rw [et,Yd];simp only [Bool.or_eq_true,decide_eq_true_eq,List.mem_append,List.mem_singleton]
   ·rw [et,dl_snoc];unfold dstep;by_cases q:ks[i]'(by omega)∈ks.take i
    ·rw [if_pos (by simpa using q),if_pos (mem_dl.mpr q)]
    ·rw [if_neg (by simpa using q),if_neg (fun z=>q (mem_dl.mp z)),Zc,List.length_singleton]
  refine wpAny_pure ⟨plainId_quiet PyProof.Rows.F.plain_set_update_loop _,ih (i + 1) _ (by omega) lt (W.frame _ h1 _ st1 fun b hb o e=>?_) hS3 fun h' tk kk hS'=>hR h' tk (fun b o hb e=>kk b o hb ?_) hS'⟩
  ·rw [sb2.2 b (fun q:b=D=>hD (by rw [← q];exact hb))];exact e
  ·rw [sb2.2 b (fun q:b=D=>hb (by rw [q];exact Zn))];exact k1 b o (fun m=>hb (Zb _ m)) e
end
end L2
namespace L2
open PySem PySem.Spec PyProof.Rows
noncomputable abbrev bareSet (b:Bool):Obj:={ cls:=.type "set",dict:=none,data:=.set #[] 0 (.fresh 0 0 b) }
section
variable {κ : Type} [DecidableEq κ] {prog:Program}{w:World}{A:Around}{E:Value→Shared→Prop}{z:Shared}
noncomputable def SetMade (knd:KeyKind prog w κ) (ks:List κ) (z:Shared) (r:Value) (z':Shared):Prop :=
 r=.none∧∃ h' tk,z'={ z with heap:=h',toks:=tk }∧h'.SetOf knd z.heap.objs.size (fun k=>decide (k∈ks)) (dl ks).length∧∀ b o,b < z.heap.objs.size→z.heap.get? b=some o→h'.get? b=some o
set_option maxHeartbeats 6400000 in
theorem call_setK {knd:KeyKind prog w κ}{l:Addr}{its:Array Value}{ks:List κ}{Q:Value→Shared→Prop} (hh:A.handled=none) (hl:z.heap.IsList l its) (hn:ks.length=its.size)
  (hv:∀ (i:Nat) (v:Value) (k : κ),its[i]? = some v→ks[i]? = some k→knd.is k v=true∧v.scannable=true) (hb:its.size + 1 < scanBound)
  (h:∀ z',SetMade knd ks z .none z'→Q (.ref z.heap.objs.size) z'):wpAny (model prog w) A (call (.type "set") [.ref l]) Q E z:=by
 obtain ⟨mc,mt,m0⟩:=PySem.F.called_set.mro;have m1:=PySem.F.called_set.made;have m2:=PySem.F.called_set.sub;refine wpAny_call (codeAny_of_tree ?_);show wpAny _ _ (callAny (.type "set") _) _ _ _;refine wpAny_pure ⟨Code.quiet_builtin _ (by decide +kernel),codeAny_builtin PySem.F.entry_type_call ?_⟩;rw [Around.under_plain (weight_type_call_type "set" [.ref l] []) rfl];have m3:=PySem.F.called_set.notType;have m4:=PySem.F.called_set.canCreate;have m5:=PySem.F.typeCall_set_1 (.ref l)
 repeat (any_goals (first | assumption | wp_step))
 refine codeAny_mono (code_set_new_1 (.ref l) (E:=E) (Q₁:=fun r z1=>∃ b:Bool,r=.ref z.heap.objs.size∧z1={ z with heap:=z.heap.push (bareSet b) }) fun b=>⟨b,rfl,rfl⟩) fun r z1 hr=>?_;cases r with
 | error e=>exact hr
 | ok fl =>
  cases fl with
  | next=>exact hr.elim
  | brk=>exact hr.elim
  | cont=>exact hr.elim
  | ret r =>
   obtain ⟨b,rfl,rfl⟩:=hr;have g0:(z.heap.push (bareSet b)).get? z.heap.objs.size=some (bareSet b):=Z6 _ rfl;have ty:Shared.TypeIs { z with heap:=z.heap.push (bareSet b) } (.ref z.heap.objs.size) "set":=⟨_,g0,rfl⟩;have i1:=PySem.F.called_set.init.lookup;have i2:=PySem.F.called_set.init.bind (.ref z.heap.objs.size)
   repeat (any_goals (first | assumption | wp_step))
   refine codeAny_mono (codeAny_call_builtin (R:=wants (SetMade knd ks z) E) PySem.F.called_set.init.plain PySem.F.entry_set_init (check_set_init_1 ty ?_)) fun r2 z2 hr2=>?_
   ·obtain ⟨⟨oc,od,odt,osl⟩,ho,c1,nl,d1⟩:=hl;simp only at c1 d1;subst c1 d1;have ho1:(z.heap.push (bareSet b)).get? l=some { cls:=.type "list",dict:=od,data:=.seq its nl,slots:=osl }:=Z0 _ ho;have s1:=PySem.F.sub_list_set;have s2:=PySem.F.sub_list_frozenset;have s3:(Value.type "list" == Value.type "dict")=false:=by decide
    have hl1:(z.heap.push (bareSet b)).IsList l its:=⟨_,ho1,rfl,nl,rfl⟩;unfold Builtin.«set.__init__» noKeywords Builtin.Frozenset.updateFrom;generalize ePI:pyIter=PI
    wp_walk
    subst ePI;refine wpAny_pyIter_list hl1 ?_;refine wpAny_bind (wpAny_runValue ?_);have lt:l < z.heap.objs.size:=Z5 ho;have sz1:(z.heap.push (bareSet b)).objs.size=z.heap.objs.size + 1:=Y2 _ _;have neI:l≠(z.heap.push (bareSet b)).objs.size:=by rw [sz1];exact Z9 (Ya lt)
    have nD:z.heap.objs.size∉[(z.heap.push (bareSet b)).objs.size,l]:=by
     rw [sz1];simp only [Zv,Zq,or_false,not_or];exact ⟨Z9 (Y5 _),Nat.ne_of_gt lt⟩
    refine set_loopK (Walks.list (by simp [hh]) _ l neI its) nD (knd:=knd) (ks:=ks) hn hv hb (its.size - 0) 0 _ (by omega) (Zl _) ⟨⟨_,Z6 _ rfl,rfl,rfl⟩,hl1.push _⟩ ?_ fun h' tk kk hS=>?_
    ·refine SetOf_eqv ((PyProof.Rows.setObjOf_fresh (knd:=knd) b).setOf (Z0 _ g0) (by unfold scanBound;omega)) (fun k=>?_) rfl;simp
    ·show wpAny _ _ _ _ _ _;refine wpAny_pure ?_;show wpAny _ _ (ret Value.none) _ _ _;refine wpAny_pure ⟨rfl,h',tk,rfl,hS,fun c o hc e=>kk c o ?_ (Z0 _ (Z0 _ e))⟩;rw [sz1];simp only [Zv,Zq,or_false,not_or];exact ⟨Z9 hc,Z9 (Ya hc)⟩
   ·cases r2 with
    | error e=>exact hr2
    | ok fl2 =>
     cases fl2 with
     | next=>exact hr2.elim
     | brk=>exact hr2.elim
     | cont=>exact hr2.elim
     | ret r =>
      have hs:=hr2;obtain ⟨rfl,h',tk,rfl,hS,kk⟩:=hr2
      repeat (any_goals (first | assumption | wp_step))
      exact h _ hs
end
noncomputable def SetS (P:Program) (w:World) (p:Addr) (ks:List Str):HO:=.ext fun h=>h.SetOf (strKind P w) p (fun k=>decide (k∈ks)) (dl ks).length
section
variable {X:Cx}
theorem strs_get:∀ {ks:List Str}{us:List Value}{i:Nat}{v:Value}{k:Str},Vals (ks.map V.str) us→us[i]? = some v→ks[i]? = some k→∃ t,v=Value.str k t
 | [],_,i,v,k,.nil,h,_=>by simp at h
 | b :: r,_,0,v,k,.cons a t,h,hk=>by
  simp at h hk;subst h hk;exact a
 | b :: r,_,i + 1,v,k,.cons a t,h,hk=>strs_get (ks:=r) (i:=i) t (by simpa using h) (by simpa using hk)
theorem zFe (hc:X.calm=true):CallR X (.type "set") (fun xs H Q=>∃ (p:Addr) (ks:List Str),xs=[.ref p]∧SqL X.K H p (ks.map V.str)∧ks.length≤4000∧∀ d,H d=none→Q (.ref d) (upd H d (SetS X.prog X.w d ks))):=by
 intro pins s σ H xs us Q I r h;obtain ⟨p,ks,rfl,hp,hz,q⟩:=h;obtain ⟨u,rfl,ru⟩:=v1 r;cases (show u=Value.ref p from ru);obtain ⟨its,rv,pl,_⟩:=I.list hp;have hlen:its.length=ks.length:=by rw [← rv.length,Z1]
 refine call_setK (knd:=strKind X.prog X.w) (ks:=ks) (I.ok.hd hc) pl.isList (by rw [Z3,hlen]) (fun i v k h1 h2=>?_) (by rw [Z3,hlen];unfold scanBound;omega) fun z' hs=>?_
 ·obtain ⟨t,rfl⟩:=strs_get rv (by simpa using h1) h2;exact ⟨strKind_is _ _ _ _,rfl⟩
 ·obtain ⟨_,h',tk,rfl,hS,kk⟩:=hs;refine ⟨.ref s.heap.objs.size,_,I.laid (t':=tk) (a:=s.heap.objs.size) (o:=SetS X.prog X.w s.heap.objs.size ks) (fun b o e=>kk b o (Z5 e) e) (Z2 _) ?_,rfl,q _ (I.hok.fresh (Z2 _))⟩;refine ⟨hS,?_,fun h1 h2 hs1 k12=>?_⟩
  ·obtain ⟨o,_,_,_,e,_⟩:=hS;exact ⟨o,e⟩
  ·obtain ⟨o,es,ep,t,e,more⟩:=hs1;exact ⟨o,es,ep,t,k12 o e,more⟩
theorem zDn:CallR X (.builtin "len") (fun xs H Q=>∃ (d:Addr) (ks:List Str),xs=[.ref d]∧H d=some (SetS X.prog X.w d ks)∧ks.length≤4000∧Q (.int (dl ks).length) H):=by
 intro pins s σ H xs us Q I r h;obtain ⟨d,ks,rfl,hd,hz,q⟩:=h;obtain ⟨u,rfl,ru⟩:=v1 r;cases (show u=Value.ref d from ru);obtain ⟨hS,_,_⟩:=I.hok d _ hd;obtain ⟨o,es,ep,t,e,hex,hdt,_,_,hb,hf,hn⟩:=hS;refine call_len_set e hex hdt hf ?_ ?_
 ·unfold scanBound at hb;omega
 ·rw [hn];exact ⟨.int _,H,I.tok _,⟨_,rfl⟩,q⟩
end
end L2
namespace L2
open PySem PySem.Spec PyProof.Rows
theorem ScOk.auto {X:Cx}{sc:Scope}{cl:List (Str×Addr)}{T:List Str} (h1:closureFor sc X.env=pure cl:=by rfl) (h2:(sc.names.all fun y=>y.2 != .cell)=true:=by rfl) (h3:sc.kind=.function:=by rfl)
  (h4:(sc.names.all fun x=>x.2 != .local || sc.names.lookup x.1 == some .local)=true:=by rfl)
  (h5:ClOk X cl:=by first | exact trivial | exact ⟨rfl,trivial⟩ | exact ⟨rfl,rfl,trivial⟩ | exact ⟨rfl,rfl,rfl,trivial⟩ | exact ⟨rfl,rfl,rfl,rfl,trivial⟩)
  (h6:(sc.names.all fun x=>x.2 != .free || ((cl.lookup x.1).isSome && (X.env.scope.names.lookup x.1 == some .cell || X.env.scope.names.lookup x.1 == some .free)))=true:=by rfl)
  (h7:(X.N.all fun x=>sc.names.lookup x != some .local)=true:=by rfl):ScOk X sc cl T where
 clos:=h1
 cell:=fun y hy=>by have:=List.all_eq_true.mp h2 y hy;simpa using this
 kind:=h3
 names:=fun x hx hl=>by
  have:=List.all_eq_true.mp h4 x hx;rw [hl] at this
  simpa using this
 cls:=h5
 has:=fun x hx hf=>by
  have:=List.all_eq_true.mp h6 x hx;rw [hf] at this
  simpa using this
 out:=fun x hx=>by have:=List.all_eq_true.mp h7 x hx;simpa using this
theorem zEf {J:It}{n k:Nat}{σ : St}{H:Hp}{g:TG}{tt:TT}{te:TE}{Q:VK} (Pv:Nat→List V→Hp→Prop) (h0:Pv 0 [] H) (go:∀ i ys H,i < n→Pv i ys H→J.go i H) (stop:∀ ys H,Pv n ys H→J.stop n H)
  (hz:∀ i ys H,i≤n→Pv i ys H→ys.length≤sizeLine)
  (hs:∀ i ys H x H',i < n→Pv i ys H→J.yld i H x H'→∀ N:List V→Hp→Prop,(∀ ys H,Pv (i + 1) ys H→N ys H)→g x (σ++List.replicate k none) H' fun σ2 H2=>tt σ2 H2 fun b H3=>if b=true then te σ2 H3 fun y H4=>N (ys++[y]) H4 else N ys H3)
  (hd:∀ ys H,Pv n ys H→∀ p,H p=none→Q (.ref p) (upd H p (.lst ys))):CompGoal J k σ H g tt te Q:=by
 refine ⟨fun i m ys H=>m=n - i∧i≤n∧Pv i ys H,⟨n,by simp,Zl _,h0⟩,?_⟩;rintro i m ys H ⟨rfl,hi,p⟩;by_cases lt:i < n
 ·exact .inr ⟨go i ys H lt p,hz _ _ _ hi p,fun x H' y=>hs i ys H x H' lt p y (fun ys' H'=>∃ m',m' < n - i∧m'=n - (i + 1)∧i + 1≤n∧Pv (i + 1) ys' H') fun ys' H' q=>⟨n - (i + 1),by omega,rfl,lt,q⟩⟩
 ·obtain rfl:i=n:=by omega
  exact .inl ⟨stop _ _ p,hz _ _ _ hi p,hd _ _ p⟩
theorem zDl {x:Str}{k:Nat}{σ : St}{H:Hp}{g:TG}{tt:TT}{te:TE}{Q:VK} (p:Nat→Bool) (f:Nat→V) (hz:x.length≤sizeLine)
  (hs:∀ c (Ry:VK) (Rn:Hp→Prop),(p c=true→Ry (f c) H)→(p c=false→Rn H)→g (.str ⟨#[c]⟩) (σ++List.replicate k none) H fun σ2 H2=>tt σ2 H2 fun b H3=>if b=true then te σ2 H3 Ry else Rn H3)
  (hd:∀ q,H q=none→Q (.ref q) (upd H q (.lst ((x.cps.toList.filter p).map f)))):CompGoal (Its x) k σ H g tt te Q:=by
 have hlen:x.cps.toList.length=x.length:=by rw [Zw];rfl
 refine zEf (J:=Its x) (n:=x.length) (fun i ys H'=>H'=H∧ys=((x.cps.toList.take i).filter p).map f) ⟨rfl,rfl⟩ (fun i ys H' lt _=>lt) (fun ys H' _=>Z2 _) (fun i ys H' hi q=>?_) ?_ ?_
 ·obtain ⟨_,rfl⟩:=q;rw [Z1];have a:=List.length_filter_le p (x.cps.toList.take i);have b:=Zp i x.cps.toList;omega
 ·rintro i ys H' v H2 lt ⟨rfl,rfl⟩ ⟨rfl,c,hc,rfl⟩ N hN;have hc':x.cps.toList[i]? = some c:=by rw [Array.getElem?_toList];exact hc
  refine hs c _ _ (fun e=>hN _ _ ⟨rfl,?_⟩) (fun e=>hN _ _ ⟨rfl,?_⟩)
  ·rw [Zk,hc',List.filter_append];simp [e]
  ·rw [Zk,hc',List.filter_append];simp [e]
 ·rintro ys H' ⟨rfl,rfl⟩ q hq;rw [← hlen,Zm];exact hd q hq
theorem zAo {K:PySem.W.Frag}{a:Addr}{xs:List V}{k:Nat}{σ : St}{H:Hp}{g:TG}{tt:TT}{te:TE}{Q:VK} (Pv:Nat→List V→Hp→Prop) (h0:Pv 0 [] H) (hl:∀ i ys H,Pv i ys H→SqL K H a xs)
  (hz:∀ i ys H,i≤xs.length→Pv i ys H→ys.length≤sizeLine)
  (hs:∀ i x ys H,xs[i]? = some x→Pv i ys H→∀ N:List V→Hp→Prop,(∀ ys H,Pv (i + 1) ys H→N ys H)→g x (σ++List.replicate k none) H fun σ2 H2=>tt σ2 H2 fun b H3=>if b=true then te σ2 H3 fun y H4=>N (ys++[y]) H4 else N ys H3)
  (hd:∀ ys H,Pv xs.length ys H→∀ p,H p=none→Q (.ref p) (upd H p (.lst ys))):CompGoal (Itl K a) k σ H g tt te Q:=by
 refine zEf (J:=Itl K a) (n:=xs.length) Pv h0 (fun i ys H lt p=>⟨xs,xs[i],hl i ys H p,Z4 lt⟩) (fun ys H p=>⟨xs,hl _ ys H p,Z2 _⟩) hz ?_ hd;rintro i ys H x H' lt p ⟨rfl,y⟩ N hN;exact hs i x ys _ (y xs (hl _ _ _ p)) p N hN
theorem pick {A B:St→Hp→Prop}{σ : St}{H:Hp}{i:Nat}{x:V} (h:A (σ.set i (some x)) H):gName i x σ H fun σ2 H2=>tYes σ2 H2 fun b H3=>if b=true then A σ2 H3 else B σ2 H3:=by
 show if true=true then A (σ.set i (some x)) H else B (σ.set i (some x)) H
 rw [if_pos rfl];exact h
theorem Fun.okC {P:Program}{w:World}{K:PySem.W.Frag}{mg:Str→Option Value}{base:Heap}{CX:CXT}{x qual:Str}{st:Stmt}{f:Addr}{fd:FuncData}{N ps:List Str}{k:Nat}{sp:Sp} (F:Fun K x qual st f fd) (S:FnScope N ps (defScope st)) (len:∀ vs H Q E,sp vs H Q E→vs.length=ps.length)
  (hbody:∀ (cdv:Value) (A:Around) (outer:List Env) (s:Shared) (H:Hp) (vs:List V) (Q:VK) (E:XK),Room k (A.deeper (envOfC qual (defScope st) s.heap.objs.size f cdv))→sp vs H Q E →
   ∃ t,PSs (cxOf CX P w K mg base N qual (defScope st) f cdv A outer s H E).nox (defBody st) t∧t { nx:=fun _ H'=>Q .non H',rt:=Q } (start N vs) H):FnOk P w K mg base CX (k + 1) f fd ps sp:=by
 obtain ⟨oc,od,kV,doc,pm,an,cdv,ct,osl,rfl,lk,hcd⟩:=F.ex;refine fn_of lk hcd S len fun A outer s H vs Q E hr hsp=>?_;obtain ⟨t,h,q⟩:=hbody cdv A outer s H vs Q E hr hsp;exact ⟨t,h.nox,q⟩
noncomputable def Calm (CX:CXT):Prop:=∀ o H s e s',CX o H s (fun _ _ _=>False) e s'→False
theorem passC {CX:CXT} (h:Calm CX) {X:Cx}:Passes CX X E0:=fun _ _ _ _ _ _ _ q=>(h _ _ _ _ _ q).elim
structure Def (K:PySem.W.Frag) (mg:Str→Option Value) (x:Str) (st:Stmt) (ps:List Str) (f:Addr) (fd:FuncData):Prop where
 fn:Fun K x x st f fd
 at_:mg x=some (.ref f)
 bind:Binds K fd ps []
theorem Same.new {H:Hp}{p:Addr}{o:HO} (h:H p=none):Same H (upd H p o):=fun b u e=>by rw [zA6 (zA5 e h)];exact e
end L2
namespace L2
open PySem PySem.Spec PyProof.Rows
section
variable {X:Cx}{pins:List (Addr×Obj)}{σ : St}{H:Hp}{s:Shared}
theorem Inv.adopt {T:Addr}{o:HO} (I:Inv X pins σ H s) (hn:H T=none) (h1:X.s₀.heap.objs.size≤T) (hL:T≠X.env.locals) (h2:∀ x c,X.env.cells.lookup x=some c→c≠T) (h3:∀ p∈X.pn++pins,p.1≠T)
  (new:ObjOk X.prog X.w (upd H T o) s.heap T o):Inv X pins σ (upd H T o) s:=by
 refine I.step (h':=s.heap) (g':=s.gens) (d':=s.drawn) (t':=s.toks) (ch:=[T]) (fun b hb=>?_) (fun b o _ _ _ e _=>e) (fun b o _ _ _ e _=>⟨o.slots,e⟩) (fun b o hc e n=>?_) (fun b o _ e=>⟨o,e⟩)
  (fun b xs e=>?_) (fun b o u e=>?_) (fun b ps e=>⟨#[],?_⟩) (fun m h=>h) (fun b u e=>?_) I.bare
 ·have e:b=T:=by simpa using hb
  subst e;exact ⟨.inr (Y4 h1),hL,h2,h3⟩
 ·rw [zA6 (fun z=>hc (by simp [z]))];exact n
 ·rw [zA6 (zA5 e hn)];exact e
 ·rw [zA6 (zA5 e hn)];exact e
 ·rw [zA6 (zA5 e hn),e];simp
 ·by_cases hb:b=T
  ·subst hb;rw [zA1] at e;cases e;exact new
  ·rw [zA6 hb] at e;exact (I.hok b u e).stay (fun c v _ q=>q) (fun c q=>by rw [zA6 (zA5 q hn)];exact q) fun c xs q=>by rw [zA6 (zA5 q hn)];exact q
theorem Inv.turns {h':Heap}{t':Nat}{ch:List Addr} (I:Inv X pins σ H s) (k:∀ b o,b∉ch→s.heap.get? b=some o→h'.get? b=some o) (hf:∀ b∈ch,FpOk X pins H b):Inv X pins σ H { s with heap:=h',toks:=t' }:=by
 have nit:∀ b u,H b=some u→b∉ch:=fun b u e z=>by rw [(hf b z).1] at e;cases e
 refine I.step (g':=s.gens) (d':=s.drawn) (ch:=ch) (fun b hb=>⟨(hf b hb).2.2.2.1.imp_right fun z=>Y4 z,(hf b hb).2.1,(hf b hb).2.2.2.2.1,(hf b hb).2.2.2.2.2⟩) (fun b o _ _ hc e _=>k b o hc e) (fun b o _ _ hc e _=>⟨o.slots,k b o hc e⟩) (fun _ _ _ _ n=>n)
  (fun b o hc e=>⟨o,k b o hc e⟩) (fun _ _ e=>e) (fun _ _ _ e=>e) (fun b ps e=>⟨#[],by rw [e];simp⟩) (fun m hm=>?_) (fun b u e=>?_) I.bare
 ·obtain ⟨o,es,ep,ho,r⟩:=hm;exact ⟨o,es,ep,k _ o (fun z=>(hf _ z).2.1 rfl) ho,r⟩
 ·refine (I.hok b u e).stay (fun c v hc q=>k c v ?_ q) (fun _ q=>q) fun _ _ q=>q;rcases hc with z | z
  ·rw [z];exact nit b u e
  ·exact nit c _ z
end
section
variable {X:Cx}
theorem strs_vals:∀ {ks:List Str}{us:List Value},Vals (ks.map V.str) us→∃ l:List (Str×Tok),us=strValues l∧l.map (·.1)=ks
 | [],_,.nil=>⟨[],rfl,rfl⟩
 | k :: r,_,.cons a t=>by
  obtain ⟨tk,rfl⟩:=a;obtain ⟨l,e1,e2⟩:=strs_vals t;exact ⟨(k,tk) :: l,by rw [e1];rfl,by rw [Zt,e2]⟩
theorem mt_join {K:PySem.W.Frag} (hK:X.K=K):MtR X "str.join" (fun x xs H Q=>∃ (z:Str) (p:Addr) (ks:List Str),x=.str z∧xs=[.ref p]∧SqL K H p (ks.map V.str)∧PySem.JoinOk z ks=true∧Q (.str (Txt.join z ks)) H):=by
 subst hK;intro pins s σ H x xs v us Q I rx rs h;obtain ⟨z,p,ks,rfl,rfl,hp,hj,q⟩:=h;obtain ⟨t,rfl⟩:=rx;obtain ⟨u,rfl,ru⟩:=v1 rs;cases (show u=Value.ref p from ru);obtain ⟨its,rv,pl,_⟩:=I.list hp;obtain ⟨l,rfl,el⟩:=strs_vals rv;exact PySem.SC.join pl.isList el hj fun t' k=>⟨.str _,H,I.tok k,⟨t',rfl⟩,q⟩
end
end L2
namespace L2
open PySem PySem.Spec PyProof.Rows
section
variable {X:Cx}{K:PySem.W.Frag}{o e:Expr}{es:List Expr}{to ta tl:TE}{t:TA}{name f:Str}{apos cpos pos:Pos}{T id:String}{r:V→List V→Hp→VK→Prop}{tg:Expr}
theorem zBy (hK:X.K=K) (he:PE X e ta) (hb:attributeBase e f X.env (eval e X.env)=eval e X.env):PE X (.Attribute e f pos) (tFld K ta f):=by
 subst hK;exact zAe he hb
end
end L2
namespace L2
open PySem PySem.Spec PyProof.Rows
end L2
namespace L2
open PySem PySem.Spec PyProof.Rows
section
variable {X:Cx}
noncomputable def rCat2 (K:PySem.W.Frag):R2:=fun x y H Q=>∃ a b xs ys,x=.ref a∧y=.ref b∧SqT K H a xs∧SqT K H b ys∧xs.length + ys.length≤sizeLine ∧
 (xs=[]→Q (.ref b) H)∧(xs≠[]→ys=[]→Q (.ref a) H)∧(xs≠[]→ys≠[]→∀ p,H p=none→Q (.ref p) (upd H p (.tup (xs++ys))))
theorem op_cat2 {K:PySem.W.Frag} (hK:X.K=K):OpR X (binaryOp .Add) (rCat2 K):=by
 subst hK;intro pins s σ H x y v u Q I rx ry h;obtain ⟨a,b,xs,ys,rfl,rfl,ha,hb,hz,q0,q1,q2⟩:=h;cases rx;cases ry;obtain ⟨its,r1,p1,_⟩:=I.tuple ha;obtain ⟨its2,r2,p2,_⟩:=I.tuple hb;by_cases hx:xs=[]
 ·obtain ⟨⟨cls,dd,data,sl⟩,ho,hc,n,hd⟩:=id p1;obtain ⟨⟨cls2,dd2,data2,sl2⟩,ho2,hc2,n2,hd2⟩:=id p2;simp only at hc hd hc2 hd2;subst hc hd hc2 hd2;have hv:its=[]:=r1.nil_iff.mpr hx;exact concat_meets ⟨_,ho,rfl⟩ ⟨_,ho2,rfl⟩ noFill_tuple_add seq_tuple_add PySem.F.slot_tuple_add PySem.F.entry_tuple_add (PySem.F.args_tuple_add_2 _ _)
   (tuple_addW0 a b its.toArray its2.toArray n n2 dd dd2 sl sl2 (by simp [hv])) ⟨ho,ho2,.ref b,H,I,rfl,q0 hx⟩
 ·refine HT.cat_tup p1 p2 (fun z=>hx (r1.nil_iff.mp z)) (fun z=>⟨.ref a,H,I,rfl,q1 hx (r2.nil_iff.mp z)⟩) (fun z=>?_) (by rw [← r1.length,← r2.length];exact hz);refine ⟨.ref s.heap.objs.size,_,I.laid (t':=s.toks) (o:=.tup (xs++ys)) (fun b ob q=>Z0 _ q) (Z2 _) ?_,rfl,q2 hx (fun w=>z (r2.nil_iff.mpr w)) _ (I.hok.fresh (Z2 _))⟩;exact ⟨by rw [Zc];exact hz,_,r1.append r2,IsTup.new _ _⟩
end
end L2
namespace L2
open PySem PySem.Spec PyProof.Rows
noncomputable def Kept (h h':Heap):Prop:=∀ b o,h.get? b=some o→h'.get? b=some o
theorem Kept.trans {a b c:Heap} (x:Kept a b) (y:Kept b c):Kept a c:=fun p o e=>y p o (x p o e)
theorem Kept.push (h:Heap) (o:Obj):Kept h (h.push o):=fun _ _ e=>Z0 _ e
theorem Kept.same {g h h':Heap}{a:Addr} (k:Kept g h) (ha:g.objs.size≤a) (sb:Heap.SameBut a h h'):Kept g h':=fun b o e =>
 (sb.2 b (Z9 (Z7 (Z5 e) ha))).trans (k b o e)
theorem Kept.but {g h h':Heap}{a:Addr} (k:Kept g h) (ha:g.objs.size≤a) (sb:∀ b o,b∉[a]→h.get? b=some o→h'.get? b=some o):Kept g h':=fun b o e =>
 sb b o (fun z=>Z9 (Z7 (Z5 e) ha) (List.mem_singleton.mp z)) (k b o e)
noncomputable def ltS (a b:Str):Prop:=a.cps.toList < b.cps.toList
noncomputable instance (a b:Str):Decidable (ltS a b):=inferInstanceAs (Decidable (a.cps.toList < b.cps.toList))
theorem ltS_trans {a b c:Str} (x:ltS a b) (y:ltS b c):ltS a c:=List.lt_trans x y
section
variable {P:Program}{w:World}{A:Around}{E:Value→Shared→Prop}{z:Shared}{g:Heap}{l q I S:Addr}{vs:List Value}{R:Result→Shared→Prop}
noncomputable def KeyEnd (z:Shared) (h:Heap) (k:Str) (u:Value) (y:Shared):Prop:=∃ (h':Heap) (tk':Nat) (t:Tok),u=.str k t∧y={ z with heap:=h',toks:=tk' }∧Kept h h'
theorem min_loop (ks:Nat→Str) (hh:A.handled=none) (hl:g.IsList l vs.toArray) (hI:g.objs.size≤I) (hS:g.objs.size≤S) (ne:S≠I)
  (turn:∀ i v,vs[i]? = some v→∀ (h:Heap) (tk:Nat),Kept g h→wpAny (model P w) A.in1 (call (.ref q) [v]) (KeyEnd z h (ks i)) (fun _ _=>False) { z with heap:=h,toks:=tk })
  (fin:∀ i v h tk,vs[i]? = some v→(∀ j,j < vs.length→¬ ltS (ks j) (ks i))→Kept g h→R (.ok (.ret v)) { z with heap:=h,toks:=tk }) :
  ∀ (r j i:Nat) (h:Heap) (tk:Nat) (b:Value) (t:Tok) (n:Nat),vs.length - (j + 1)=r→j + 1≤vs.length→Kept g h→h.get? S=some (seqObj "list" #[b,.str (ks i) t] n)→h.IsListIter I l (j + 1) →
   vs[i]? = some b→i≤j→(∀ k,k≤j→¬ ltS (ks k) (ks i))→codeAny (model P w) A (.builtin "min.loop" ⟨[.ref I,.ref q,.ref S],[]⟩) R { z with heap:=h,toks:=tk }:=by
 have nm:(toString "min"++toString ".loop" : String) = "min.loop":=by decide
 have hlI:l≠I:=by
  obtain ⟨o,e,_⟩:=hl;exact Z9 (Z7 (Z5 e) hI)
 have W:=Walks.list (prog:=P) (w:=w) (A:=A.in1) hh I l hlI vs.toArray;have sz:vs.toArray.size=vs.length:=by simp
 have lst:∀ {h},Kept g h→h.IsList l vs.toArray:=fun {h} k=>by
  obtain ⟨o,e,r⟩:=hl;exact ⟨o,k _ _ e,r⟩
 intro r
 induction r with
 | zero =>
  intro j i h tk b t n hr hj k hs it hb hij best;have hin:j + 1=vs.length:=by omega
  refine codeAny_builtin PySem.F.entry_min_loop ?_;rw [Around.under_plainId PySem.F.plain_min_loop _];show wpAny _ A.in1 (seqItems? (Value.ref S) >>= _) _ _ _;refine wpAny_bind (wpAny_seqItems hs rfl ?_);show wpAny _ A.in1 (tryCatch (pyNext (Value.ref I)) _ >>= _) _ _ _;refine wpAny_bind (wpAny_tryCatch (W.done _ _ _ ⟨by rw [sz,← hin];exact it,lst k⟩ fun h1 tk1 k1=>?_));have e1:=k1 S _ (by simpa using ne) hs;show wpAny _ A.in1 (updateSeq S (fun _=>(#[]:Array Value)) >>= _) _ _ _;refine wpAny_bind (wpAny_updateSeq e1 rfl (wpAny_bind (wpAny_letGo (wpAny_pure ?_))));exact fin i b _ _ hb (fun k' hk=>best k' (by omega)) ((k.but hI k1).same hS (Heap.SameBut.update h1 S _))
 | succ r ih =>
  intro j i h tk b t n hr hj k hs it hb hij best;have hlt:j + 1 < vs.length:=by omega
  refine codeAny_builtin PySem.F.entry_min_loop ?_;rw [Around.under_plainId PySem.F.plain_min_loop _];show wpAny _ A.in1 (seqItems? (Value.ref S) >>= _) _ _ _;refine wpAny_bind (wpAny_seqItems hs rfl ?_);show wpAny _ A.in1 (tryCatch (pyNext (Value.ref I)) _ >>= _) _ _ _;refine wpAny_bind (wpAny_tryCatch (W.item (j + 1) _ _ _ (by rw [sz];exact hlt) ⟨it,lst k⟩ fun v h1 tk1 hp st k1=>?_));have hv:vs[j + 1]? = some v:=by simpa using hp
  have e1:=k1 S _ (by simpa using ne) hs;have kg:=k.but hI k1;show wpAny _ A.in1 (tryCatch (holding [v] (call (Value.ref q) [v])) _ >>= _) _ _ _;refine wpAny_bind (wpAny_tryCatch (wpAny_holding (wpAny_mono (turn (j + 1) v hv h1 tk1 kg) (fun u y he=>?_) fun _ _ f=>f.elim)));obtain ⟨h2,tk2,t2,rfl,rfl,k2⟩:=he;have e2:=k2 S _ e1;have it2:h2.IsListIter I l (j + 1 + 1):=st.1.at fun o e=>k2 _ _ e;have kg2:=kg.trans k2;show wpAny _ A.in1 (tryCatch (holding [v,Value.str (ks (j + 1)) t2] (richCompare .Lt (Value.str (ks (j + 1)) t2) (Value.str (ks i) t) >>= _)) _ >>= _) _ _ _;refine wpAny_bind (wpAny_tryCatch (wpAny_holding (wpAny_bind (show wpAny _ _ (compareOp .Lt (Value.str (ks (j + 1)) t2) (Value.str (ks i) t)) _ _ _ from lt_str ?_))));refine wpAny_bind (wpAny_holding (wpAny_truthy_bool ?_));refine wpAny_bind (wpAny_letGo (wpAny_pure ?_));by_cases c:ltS (ks (j + 1)) (ks i)
  ·have c':(ks (j + 1)).cps.toList < (ks i).cps.toList:=c;obtain ⟨n2,g2⟩:∃ n2,(h2.update S (Obj.mapSeq fun _=>#[v,Value.str (ks (j + 1)) t2])).get? S=some (seqObj "list" #[v,Value.str (ks (j + 1)) t2] n2):=⟨_,get?_update_seq e2 fun _=>#[v,Value.str (ks (j + 1)) t2]⟩;have s2:=Heap.SameBut.update h2 S (Obj.mapSeq fun _=>#[v,Value.str (ks (j + 1)) t2]);simp only [c',decide_true,if_true];refine wpAny_bind (wpAny_updateSeq e2 rfl (wpAny_bind (wpAny_letGo ?_)));rw [nm];refine wpAny_pure ⟨plainId_quiet PySem.F.plain_min_loop _,ih (j + 1) (j + 1) _ _ v t2 n2 (by omega) hlt (kg2.same hS s2) g2 (it2.at fun o e=>(s2.2 I (Ne.symm ne)).trans e) hv (Z2 _) fun k' hk=>?_⟩;by_cases e:k'=j + 1
   ·subst e;exact fun z=>List.lt_irrefl _ z
   ·exact fun z=>best k' (by omega) (ltS_trans z c)
  ·have c':¬ (ks (j + 1)).cps.toList < (ks i).cps.toList:=c;simp only [c',decide_false,Bool.false_eq_true,if_false];refine wpAny_bind (wpAny_letGo ?_);rw [nm];refine wpAny_pure ⟨plainId_quiet PySem.F.plain_min_loop _,ih (j + 1) i _ _ b t n (by omega) hlt kg2 e2 it2 hb (by omega) fun k' hk=>?_⟩;by_cases e:k'=j + 1
   ·subst e;exact c
   ·exact best k' (by omega)
theorem min_key {Q:Value→Shared→Prop} (ks:Nat→Str) (hh:A.handled=none) (hl:z.heap.IsList l vs.toArray) (h0:0 < vs.length)
  (turn:∀ i v,vs[i]? = some v→∀ (h:Heap) (tk:Nat),Kept z.heap h→wpAny (model P w) A.in1 (call (.ref q) [v]) (KeyEnd z h (ks i)) (fun _ _=>False) { z with heap:=h,toks:=tk })
  (fin:∀ i v h tk,vs[i]? = some v→(∀ j,j < vs.length→¬ ltS (ks j) (ks i))→Kept z.heap h→Q v { z with heap:=h,toks:=tk }) :
  wpAny (model P w) A (call (.builtin "min") [.ref l] [(Str.ofString "key",.ref q)]) Q E z:=by
 have nm:(toString "min"++toString ".loop" : String) = "min.loop":=by decide
 refine kmk_tree PySem.F.kind_min PySem.F.plain_min PySem.F.entry_min (kmk_min_key _ _) ?_;show wpAny _ A.in1 (Builtin.Builtins.bindParams "min" ["key", "default"] 0 ⟨[],[(Str.ofString "key",Value.ref q)]⟩ >>= _) _ _ z;refine wpAny_bind (wpAny_of_eq (show Builtin.Builtins.bindParams "min" ["key", "default"] 0 ⟨[],[(Str.ofString "key",Value.ref q)]⟩=pure [some (Value.ref q),none] from rfl) ?_);refine wpAny_bind (wpAny_pure (wpAny_bind (wpAny_pyIter_list hl (wpAny_bind (wpAny_newList ?_ (Zl _))))));rw [nm];refine wpAny_pure ⟨plainId_quiet PySem.F.plain_min_loop _,?_⟩
 let oI:Obj:={ cls:=.type "list_iterator",data:=.fields #[.ref l,.int 0 0] }
 have sz1:(z.heap.push oI).objs.size=z.heap.objs.size + 1:=Y2 ..;have gI:((z.heap.push oI).push (seqObj "list" #[] 0)).get? z.heap.objs.size=some oI:=Z0 _ (Z6 _ rfl);have gS:((z.heap.push oI).push (seqObj "list" #[] 0)).get? (z.heap.push oI).objs.size=some (seqObj "list" #[] 0):=Z6 _ rfl;have kk:Kept z.heap ((z.heap.push oI).push (seqObj "list" #[] 0)):=(Kept.push _ _).trans (Kept.push _ _);have hI:z.heap.objs.size≤z.heap.objs.size:=Z2 _;have hS:z.heap.objs.size≤(z.heap.push oI).objs.size:=by rw [sz1];exact Nat.le_succ _
 have ne:(z.heap.push oI).objs.size≠z.heap.objs.size:=by rw [sz1];exact Nat.succ_ne_self _
 have hlI:l≠z.heap.objs.size:=by
  obtain ⟨o,e,_⟩:=hl;exact Z9 (Z5 e)
 have W:=Walks.list (prog:=P) (w:=w) (A:=A.in1) hh z.heap.objs.size l hlI vs.toArray;have sz:vs.toArray.size=vs.length:=by simp
 have lst:∀ {h},Kept z.heap h→h.IsList l vs.toArray:=fun {h} k=>by
  obtain ⟨o,e,r⟩:=hl;exact ⟨o,k _ _ e,r⟩
 refine codeAny_builtin PySem.F.entry_min_loop ?_;rw [Around.under_plainId PySem.F.plain_min_loop _];show wpAny _ A.in1 (seqItems? (Value.ref (z.heap.push oI).objs.size) >>= _) _ _ _;refine wpAny_bind (wpAny_seqItems gS rfl ?_);show wpAny _ A.in1 (tryCatch (pyNext (Value.ref z.heap.objs.size)) _ >>= _) _ _ _;refine wpAny_bind (wpAny_tryCatch (W.item 0 _ _ _ (by rw [sz];exact h0) ⟨⟨_,gI,rfl,rfl⟩,lst kk⟩ fun v h1 tk1 hp st k1=>?_));have hv:vs[0]? = some v:=by simpa using hp
 have e1:=k1 _ _ (by simpa using ne) gS;have kg:=kk.but hI k1;show wpAny _ A.in1 (tryCatch (holding [v] (call (Value.ref q) [v])) _ >>= _) _ _ _;refine wpAny_bind (wpAny_tryCatch (wpAny_holding (wpAny_mono (turn 0 v hv h1 tk1 kg) (fun u y he=>?_) fun _ _ f=>f.elim)));obtain ⟨h2,tk2,t2,rfl,rfl,k2⟩:=he;have e2:=k2 _ _ e1;have s2:=Heap.SameBut.update h2 (z.heap.push oI).objs.size (Obj.mapSeq fun _=>#[v,Value.str (ks 0) t2]);obtain ⟨n2,g2⟩:∃ n2,(h2.update (z.heap.push oI).objs.size (Obj.mapSeq fun _=>#[v,Value.str (ks 0) t2])).get? (z.heap.push oI).objs.size=some (seqObj "list" #[v,Value.str (ks 0) t2] n2):=⟨_,get?_update_seq e2 fun _=>#[v,Value.str (ks 0) t2]⟩;show wpAny _ A.in1 (updateSeq (z.heap.push oI).objs.size (fun _=>#[v,Value.str (ks 0) t2]) >>= _) _ _ _;refine wpAny_bind (wpAny_updateSeq e2 rfl ?_);rw [nm];refine wpAny_pure ⟨plainId_quiet PySem.F.plain_min_loop _,min_loop ks hh hl hI hS ne turn fin _ 0 0 _ _ v t2 n2 rfl h0 ((kg.trans k2).same hS s2) g2 ((st.1.at fun o e=>k2 _ _ e).at fun o e=>(s2.2 _ (Ne.symm ne)).trans e) hv (Z2 _) fun k' hk=>?_⟩;have:k'=0:=by omega
 subst this;exact fun z=>List.lt_irrefl _ z
end
end L2
namespace L2
open PySem PySem.Spec PyProof.Rows
noncomputable def CodeO (c:Addr) (q:Str):HO:=.ext fun h=>h.CodeRec (.ref c) q
noncomputable def TabOk (H:Hp) (P:Addr) (pos:Pos) (q:Str):Prop:=H P=some (.tbl #[])∨∃ c,H P=some (.tbl #[rawInt pos.line,rawInt pos.col,.ref c])∧H c=some (CodeO c q)
noncomputable def GrownBut (P:Addr) (H H':Hp):Prop:=∀ b o,H b=some o→b≠P→H' b=some o
theorem TabOk.ne {H:Hp}{P:Addr}{pos:Pos}{q:Str} (T:TabOk H P pos q) {a:Addr}{o:HO} (e:H a=some o) (h:∀ ps,o≠.tbl ps):a≠P:=by
 rintro rfl;rcases T with z | ⟨c,z,_⟩ <;> rw [e] at z <;> exact h _ (Zh z)
theorem TabOk.stay {H H':Hp}{P:Addr}{pos:Pos}{q:Str} (T:TabOk H P pos q) (k:∀ b o,H b=some o→H' b=some o):TabOk H' P pos q:=by
 rcases T with z | ⟨c,z,y⟩
 ·exact .inl (k _ _ z)
 ·exact .inr ⟨c,k _ _ z,k _ _ y⟩
theorem TabOk.but {H H':Hp}{P:Addr}{pos:Pos}{q:Str}{p:Addr}{u:HO} (T:TabOk H P pos q) (hp:H p=some u) (h1:∀ ps,u≠.tbl ps) (h2:∀ f,u≠.ext f) (k:∀ b o,H b=some o→b≠p→H' b=some o):TabOk H' P pos q:=by
 have n1:=T.ne hp h1;rcases T with z | ⟨c,z,y⟩
 ·exact .inl (k _ _ z (Ne.symm n1))
 ·refine .inr ⟨c,k _ _ z (Ne.symm n1),k _ _ y ?_⟩;rintro rfl;rw [hp] at y;exact h2 _ (Zh y)
noncomputable def BltAt (mg:Str→Option Value) (base:Heap):Prop:=∃ (bm:Addr) (ob:Obj),mg "__builtins__" = some (.ref bm)∧bm≠builtinsNs∧bm≠mainGlobals∧base.get? bm=some ob∧ob.cls=.type "module"∧ob.dict=some builtinsNs∧ob.data=.plain
structure LamTxt (K:PySem.W.Frag) (mg:Str→Option Value) (base:Heap) (c P:Addr):Prop where
 hd:PySem.W.codeHdIn K c P=true
 blt:BltAt mg base
section
variable {X:Cx}{pins:List (Addr×Obj)}{σ : St}{H:Hp}{s:Shared}{A:Around}{E:Value→Shared→Prop}
theorem zCy {c:Addr}{q:Str}:∀ h1 h2:Heap,h1.CodeRec (.ref c) q→(∀ o,h1.get? c=some o→h2.get? c=some o)→h2.CodeRec (.ref c) q:=fun h1 h2 ⟨c',o,vs,t,e,ho,r⟩ k=>by
 cases e;exact ⟨c,o,vs,t,rfl,k o ho,r⟩
theorem lam_made {params:Arguments}{body:Expr}{scope:Scope}{pos:Pos}{c P:Addr}{q:Str}{Q:Value→Shared→Prop} (I:Inv X pins σ H s) (T:LamTxt X.K X.mg X.base c P) (hcode:X.env.code=.ref c) (hq:X.env.qual++"<lambda>" = q)
  (hcl:closureFor scope X.env=pure []) (hdef:defaultsOf params X.env=([],[])) (W:TabOk H P pos q)
  (h:∀ (H':Hp) (s':Shared) (f c':Addr) (pm ctv:Value),Inv X pins σ H' s'→s'.heap.get? f=some (PySem.W.kla_obj "<lambda>" q params body scope [] pm c' ctv)→s'.heap.CodeRec (.ref c') q→TabOk H' P pos q→GrownBut P H H'→Q (.ref f) s') :
  wpAny (model X.prog X.w) A (eval (.Lambda params body scope pos) X.env) Q E s:=by
 subst hq;refine PySem.W.kla_eval hdef ?_;obtain ⟨bm,ob,e1,e3,e4,e2,e5,e6,e7⟩:=T.blt;have hbP:bm≠P:=by
  rintro rfl;have:=(I.bs _ _ e2).2;rcases W with z | ⟨c',z,_⟩ <;> rw [this] at z <;> cases z
 have hb:s.heap.BuiltinsAt X.mg P:=⟨bm,ob,e1,e3,e4,hbP,I.bk _ _ e2,e5,e6,e7⟩;have hg:=I.mod.glob.keeps I.bk;have C:=PySem.W.codeHd_of_K I.kIn T.hd;have tab:∀ {ps},H P=some (.tbl ps)→s.heap.get? P=some (PySem.W.tabObj ps):=fun {ps} e=>I.hok P _ e;have hgP:mainGlobals≠P:=by
  rintro rfl;obtain ⟨o,es,ep,ho,hd,_⟩:=hg;rcases W with z | ⟨c',z,_⟩ <;> (rw [tab z] at ho;cases ho;cases hd)
 rcases W with z | ⟨c',z,y⟩
 ·refine PySem.W.kla_makeFunction hcl I.ok.glob hg hcode C (tab z) trivial rfl hgP hb fun c' ctv h' tk hx hge hlt hrec htb=>?_;have fc:H c'=none:=I.hok.fresh hge;have nP:c'≠P:=Ne.symm (zA5 z fc)
  let H':Hp:=upd (upd H P (.tbl #[rawInt pos.line,rawInt pos.col,.ref c'])) c' (CodeO c' (X.env.qual++"<lambda>"))
  have hP':H' P=some (.tbl #[rawInt pos.line,rawInt pos.col,.ref c']):=by show upd _ _ _ _=_;rw [zA6 (Ne.symm nP),zA1]
  have hc':H' c'=some (CodeO c' (X.env.qual++"<lambda>")):=zA1;have gr:∀ b o,H b=some o→b≠P→H' b=some o:=fun b o e nb=>by
   show upd _ _ _ _=_;rw [zA6 (zA5 e fc),zA6 nb];exact e
  have I1:Inv X pins σ H' { s with heap:=h',toks:=tk }:=by
   refine I.step (g':=s.gens) (d':=s.drawn) (ch:=[]) (fun _ m=>nomatch m) (fun b o _ _ _ e n=>hx b o (Ne.symm (zA5 z n)) e) (fun b o _ _ _ e n=>⟨o.slots,hx b o (Ne.symm (zA5 z n)) e⟩) (fun b o _ e n=>?_) (fun b o _ e=>?_)
    (fun b xs e=>gr b _ e fun k=>by subst k;rw [z] at e;cases e) (fun b o u e=>gr b _ e fun k=>by subst k;rw [z] at e;cases e) (fun b ps e=>?_) (fun m hm=>?_) (fun b u e=>?_) I.bare
   ·show upd _ _ _ _=_;rw [zA6 (Z9 (Z7 (Z5 e) hge)),zA6 (Ne.symm (zA5 z n))];exact n
   ·by_cases k:b=P
    ·subst k;exact ⟨_,htb⟩
    ·exact ⟨o,hx b o k e⟩
   ·by_cases k:b=P
    ·subst k;rw [z] at e;cases e;exact ⟨#[rawInt pos.line,rawInt pos.col,.ref c'],by rw [hP'];rfl⟩
    ·exact ⟨#[],by rw [gr b _ e k];simp⟩
   ·exact hm.extBut hx fun k=>by have:=I.free;rw [k,z] at this;cases this
   ·by_cases k1:b=c'
    ·subst k1;rw [hc'] at e;cases e;obtain ⟨_,o,_,_,e',ho,_⟩:=id hrec;cases e';exact ⟨hrec,⟨o,ho⟩,zCy⟩
    ·by_cases k2:b=P
     ·subst k2;rw [hP'] at e;cases e;exact htb
     ·have e':H b=some u:=by
       have e2:upd (upd H P _) c' _ b=some u:=e
       rwa [zA6 k1,zA6 k2] at e2
      refine (I.hok b u e').stay (fun d v hd' r=>hx d v ?_ r) (fun d r=>gr d _ r ?_) fun d xs r=>gr d _ r ?_
      ·rcases hd' with k | k
       ·rw [k];exact k2
       ·rintro rfl;rw [z] at k;cases k
      ·rintro rfl;rw [z] at r;cases r
      ·rintro rfl;rw [z] at r;cases r
  have I2:Inv X pins σ H' { s with heap:=h'.push _,toks:=tk }:=I1.kept (t':=tk) (h':=h'.push (PySem.W.kla_obj "<lambda>" (X.env.qual++"<lambda>") params body scope [] ((X.mg "__name__").getD .none) c' ctv)) fun b u e=>Z0 _ e;refine h H' _ h'.objs.size c' ((X.mg "__name__").getD .none) ctv I2 (Z6 _ rfl) ?_ (.inr ⟨c',hP',hc'⟩) gr;exact zCy h' _ hrec fun o e=>Z0 _ e
 ·refine PySem.W.kla_makeFunctionHit (cv:=.ref c') hcl I.ok.glob hg hcode C (tab z) trivial ?_ hb fun ctv h' tk kk sz=>?_
  ·simp [codeAmong,rawInt]
  ·have I2:Inv X pins σ H { s with heap:=h'.push _,toks:=tk }:=I.kept (t':=tk) (h':=h'.push (PySem.W.kla_obj "<lambda>" (X.env.qual++"<lambda>") params body scope [] ((X.mg "__name__").getD .none) c' ctv)) fun b u e=>Z0 _ (kk b u e);refine h H _ h'.objs.size c' ((X.mg "__name__").getD .none) ctv I2 (Z6 _ rfl) ?_ (.inr ⟨c',z,y⟩) fun b o e _=>e;obtain ⟨hr,_,_⟩:=I.hok c' _ y;exact zCy s.heap _ hr fun o e=>Z0 _ (kk _ _ e)
end
structure LamSc (scope:Scope) (x:Str):Prop where
 co:scope.isCoroutine=false
 gen:scope.isGenerator=false
 kind:scope.kind=.function
 cell:∀ y∈scope.names,y.2≠.cell
 loc:scope.names.lookup x=some .local
section
variable {P:Program}{w:World}{A:Around}{z:Shared}
theorem lam_fld {f c':Addr}{nm q x fld k:Str}{params:Arguments}{p1 p2:Pos}{scope:Scope}{pm ctv v:Value} (ho:z.heap.get? f=some (PySem.W.kla_obj nm q params (.Attribute (.Name x p1) fld p2) scope [] pm c' ctv)) (hc:z.heap.CodeRec (.ref c') q)
  (hroom:A.depth < recursionLimit) (hlim:z.heap.NoLimit) (hb:bindArgs (PySem.W.kla_fn nm q params (.Attribute (.Name x p1) fld p2) scope [] pm (.ref c') ctv) ⟨[v],[]⟩=pure [(x,v)]) (S:LamSc scope x) (hx:(x == ("__debug__" : Str))=false)
  (hat:∀ env:Env,attributeBase (.Name x p1) fld env (eval (.Name x p1) env)=eval (.Name x p1) env)
  (hget:∀ (A':Around) (E':Value→Shared→Prop) (h:Heap) (tk:Nat),Kept z.heap h→wpAny (model P w) A' (getAttr v fld true) (fun u y=>∃ t tk',u=.str k t∧y={ z with heap:=h,toks:=tk' }) E' { z with heap:=h,toks:=tk }) :
  wpAny (model P w) A (call (.ref f) [v]) (KeyEnd z z.heap k) (fun _ _=>False) z:=by
 refine wpAny_call (PySem.W.kla_callFunE hroom ho rfl S.co S.gen rfl hc ?_);rw [hb];refine wpAny_pure (wpAny_newFunctionEnv S.cell (fun y hy=>by rw [List.mem_singleton.mp hy];exact S.loc) (fun h1 hns hsb=>?_) S.kind);have kk:Kept z.heap h1:=fun b o e=>(hsb.2 b (Z9 (Z5 e))).trans (Z0 _ e);refine ⟨hlim.keeps kk,PySem.W.kla_codeExpr (attr_of (hat _) (wpAny_Name (wpAny_loadName_local S.kind S.loc hns (v:=v) (by simp) ?_) hx))⟩;refine thn (hget _ _ h1 _ kk) fun u y ⟨t,tk',eu,ey⟩=>?_;exact ⟨h1,tk',t,eu,ey,kk⟩
end
noncomputable def tMinKey (K:PySem.W.Frag) (P:Addr) (pos:Pos) (q fld:Str) (ta:TA):TE:=fun σ H Q=>ta σ H fun vs H1=>∃ (l:Addr) (xs:List V) (ks:List Str),vs=[.ref l]∧SqL K H1 l xs∧0 < xs.length∧TabOk H1 P pos q∧ks.length=xs.length ∧
 (∀ (i:Nat) (v:V) (k:Str),xs[i]? = some v→ks[i]? = some k→∃ a C dx fs,v=.ref a∧H1 a=some (.ins C dx fs)∧Cls K C∧NoAttr K C fld∧fs.lookup fld=some (.str k)) ∧
 ∀ (i:Nat) (v:V) (k:Str) (H2:Hp),xs[i]? = some v→ks[i]? = some k→(∀ y∈ks,¬ ltS y k)→TabOk H2 P pos q→GrownBut P H1 H2→Q v H2
section
variable {X:Cx}
theorem zDy {e:Expr}{ta:TA}{x fld q:Str}{params:Arguments}{p p1 p2 lpos kpos pos:Pos}{scope:Scope}{c P:Addr} (T:LamTxt X.K X.mg X.base c P) (hcode:X.env.code=.ref c) (hr:Room 2 X.A) (hcm:X.calm=true) (hg:Gl X "min") (hm:X.mg "min" = none) (ha:PA X [e] ta)
  (S:LamSc scope x) (hq:X.env.qual++"<lambda>" = q:=by rfl) (hcl:closureFor scope X.env=pure []:=by rfl) (hdef:defaultsOf params X.env=([],[]):=by rfl)
  (hb:∀ (pm cd ctv v:Value),bindArgs (PySem.W.kla_fn "<lambda>" q params (.Attribute (.Name x p1) fld p2) scope [] pm cd ctv) ⟨[v],[]⟩=pure [(x,v)]:=by intros;rfl) (hx:(x == ("__debug__" : Str))=false:=by decide)
  (hat:∀ env:Env,attributeBase (.Name x p1) fld env (eval (.Name x p1) env)=eval (.Name x p1) env:=by intros;rfl)
  (he:backTo pos (starEach [e] X.env)=(false,eval e X.env) :: backTo pos (starEach [] X.env):=by rfl) (hpl:(backTo pos (starEach [e] X.env)).any (·.1)=false:=by rfl) :
  PE X (.Call (.Name "min" p) [e] [⟨some "key",.Lambda params (.Attribute (.Name x p1) fld p2) scope lpos,kpos⟩] pos) (tMinKey X.K P lpos q fld ta):=by
 intro pins s σ H Q I h;refine wpAny_Call_Name_kw (ld_blt I hg hm PyProof.Rows.boot_min ?_);refine PyProof.Rows.callWith_kw (thn (ha pos pins s σ H _ I h) fun us s1 ⟨vs,H1,I1,r1,q1⟩=>?_) he hpl rfl rfl;obtain ⟨l,xs,ks,rfl,hl,h0,W,hlen,hat1,fin⟩:=q1;obtain ⟨u,rfl,ru⟩:=v1 r1;cases (show u=Value.ref l from ru);refine PyProof.Rows.evalAll_cons (wpAny_bind (lam_made I1 T hcode hq hcl hdef W fun H2 s2 f c' pm ctv I2 ho hrec W2 gr=>wpAny_bind (wpAny_standAt (wpAny_pure ?_))));refine PyProof.Rows.evalAll_nil ?_;have hlP:SqL X.K H2 l xs:=by
  rcases hl with (z | ⟨o,z⟩) | z
  ·exact .inl (.inl (gr _ _ z (W.ne z (fun _ k=>nomatch k))))
  ·exact .inl (.inr ⟨o,gr _ _ z (W.ne z (fun _ k=>nomatch k))⟩)
  ·exact .inr z
 obtain ⟨its,rv,pl,_⟩:=I2.list hlP;have il:=rv.length;refine min_key (vs:=its) (fun i=>ks.getD i Str.empty) (I2.ok.hd hcm) pl.isList (by omega) (fun i v hv h tk kk=>?_) fun i v h tk hv hbest kk=>?_
 ·have hi:i < its.length:=(List.getElem?_eq_some_iff.mp hv).1;obtain ⟨y,hy⟩:∃ y,xs[i]? = some y:=⟨_,Z4 (by omega)⟩;obtain ⟨k,hk⟩:∃ k,ks[i]? = some k:=⟨_,Z4 (by omega)⟩;obtain ⟨u,hu,ry⟩:=rv.get hy;rw [hv] at hu;cases hu;obtain ⟨a,C,dx,fs,rfl,ea,cc,nn,lf⟩:=hat1 i y k hy hk;cases (show v=Value.ref a from ry);have ek:ks.getD i Str.empty=k:=by simp [hk]
  show wpAny _ _ _ (KeyEnd s2 h (ks.getD i Str.empty)) _ _;rw [ek];have I3:Inv X pins σ H2 { s2 with heap:=h,toks:=tk }:=I2.kept (t':=tk) kk;have ea2:H2 a=some (.ins C dx fs):=gr _ _ ea (W.ne ea (fun _ k=>nomatch k));refine lam_fld (z:={ s2 with heap:=h,toks:=tk }) (kk _ _ ho) (zCy _ _ hrec fun o e=>kk _ _ e) hr.in1.depth I3.nolimit (hb _ _ _ _) S hx hat fun A' E' h2 tk2 k2=>?_;have I4:Inv X pins σ H2 { s2 with heap:=h2,toks:=tk2 }:=I3.kept (t':=tk2) k2;obtain ⟨mA,O,r,_,_,_⟩:=zE8 I4.hok ea2;obtain ⟨w',hw,rw'⟩:=RelO.some_of (v:=V.str k) (o:=mA fld) (by rw [← lf];exact r fld);obtain ⟨t,rfl⟩:=rw';exact get_map I4.kIn O (cc.get fld) cc.hd nn hw rfl ⟨t,_,rfl,rfl⟩
 ·have hi:i < its.length:=(List.getElem?_eq_some_iff.mp hv).1;obtain ⟨y,hy⟩:∃ y,xs[i]? = some y:=⟨_,Z4 (by omega)⟩;obtain ⟨k,hk⟩:∃ k,ks[i]? = some k:=⟨_,Z4 (by omega)⟩;obtain ⟨u,hu,ry⟩:=rv.get hy;rw [hv] at hu;cases hu;have ek:ks.getD i Str.empty=k:=by simp [hk]
  refine ⟨y,H2,I2.kept (t':=tk) kk,ry,fin i y k H2 hy hk (fun y' hy'=>?_) W2 gr⟩;obtain ⟨j,hj,ej⟩:=Yc hy';have:=hbest j (by omega);rw [ek] at this;have e2:ks.getD j Str.empty=y':=by simp [Z4 hj,ej]
  rw [e2] at this;exact this
end
end L2
namespace L2
open PySem PySem.Spec PyProof.Rows
theorem blt_of {p:Program}{loose:List Str}{mean:ExcName→Option Value}{mg mb:Str→Option Value}{h:Heap} (T:PyProof.Rows.Top p loose mean mg mb h):BltAt mg h:=by
 obtain ⟨bm,ob,b1,b2,b3,b4,b5,b6⟩:=T.bmain;refine ⟨bm,ob,b1,b2,fun q=>?_,b3,b4,b5,b6⟩;obtain ⟨o,es,ep,e,hd,_⟩:=T.g;rw [q,e] at b3;cases b3;rw [hd] at b6;cases b6
end L2
namespace L2
open PySem PySem.Spec PyProof.Rows
noncomputable def Ite (K:PySem.W.Frag) (a:Addr):It :=
 ⟨fun i H=>∃ xs x,SqL K H a xs∧xs[i]? = some x,
  fun i H v H'=>∃ p x,v=.ref p∧H p=none∧H'=upd H p (.tup [.int (i:Nat),x])∧∀ xs,SqL K H a xs→xs[i]? = some x,
  fun i H=>∃ xs,SqL K H a xs∧xs.length≤i⟩
theorem turn_enum {P:Program}{w:World}{K:PySem.W.Frag}{es:List Expr}{x1:_}{pos:Pos}{l e it:Addr} (D:e≠it) :
  Turn P w K (.Tuple es x1 pos) (Ite K l) [e,it] e (fun i h=>(∃ old,IsEnum h e it ((i:Nat):Int) old)∧h.IsListIter it l i) where
 mem:=by simp
 obj:=fun i h st b hb=>by
  obtain ⟨⟨old,h1⟩,⟨o4,h4,_,d4⟩⟩:=st;simp only [Zv,Zq,or_false] at hb;rcases hb with rfl | rfl
  ·exact ⟨_,h1,fun v q=>by cases (show Data.fields _=Data.cell v from q)⟩
  ·exact ⟨_,h4,fun v q=>by rw [d4] at q;cases q⟩
 keep:=fun i h h' st k=>by
  obtain ⟨⟨old,h1⟩,h4⟩:=st;exact ⟨⟨old,k e (by simp) _ h1⟩,h4.at fun o q=>k it (by simp) o q⟩
 item:=by
  intro X hP hw hK hc i pins s σ H E I hf st hg;subst hP hw hK;obtain ⟨⟨old,h1⟩,h4⟩:=st;obtain ⟨xs,x,qx,ex⟩:=hg;obtain ⟨its,rx,px,_⟩:=I.list qx;obtain ⟨u,hu,ru⟩:=rx.get ex;refine wpAny_pyNext_enum_item h1 h4 px.isList (x:=u) (by simpa using hu) D fun h' a1 a2 a3 a4 a5=>?_;refine ⟨_,rfl,wpAny_letOwnedTupleGo_enum a1 fun h2' b1 sb=>?_⟩;have ne:s.heap.objs.size≠e:=fun q=>by have:=Z5 h1;rw [← q] at this;exact Y0 _ this
  have J:Inv X pins σ H { s with heap:=h2',toks:=s.toks + 1 }:=I.turns (t':=s.toks + 1) (ch:=[e,it]) (fun b o hb q=>by
   simp only [Zv,Zq,or_false,not_or] at hb
   exact (sb.2 b hb.1).trans (a5 b o hb.1 hb.2 q)) hf
  have gT:h2'.get? s.heap.objs.size=some { cls:=.type "tuple",data:=.seq #[.int (i:Nat) s.toks,u] }:=(sb.2 _ ne).trans a3;have fT:H s.heap.objs.size=none:=I.hok.fresh (Z2 _)
  have J2:Inv X pins σ (upd H s.heap.objs.size (.tup [.int (i:Nat),x])) { s with heap:=h2',toks:=s.toks + 1 }:=J.adopt fT I.sz (Nat.ne_of_gt I.lt) (fun n c q=>by
    obtain ⟨w',q⟩:=I.cell n c q
    exact Z9 q.lt) (fun p hp=>Z9 (Z5 (I.pin p hp).1)) ⟨by show 2≤sizeLine;decide,[.int (i:Nat) s.toks,u],.cons ⟨_,rfl⟩ (.cons ru .nil),⟨_,gT,rfl,_,rfl⟩⟩
  refine ⟨.ref s.heap.objs.size,_,J2,rfl,⟨_,x,rfl,fT,rfl,fun zs hz=>by rw [I.list_inj hz qx];exact ex⟩,⟨⟨u,?_⟩,a2.at fun o q=>(sb.2 _ (Ne.symm D)).trans q⟩,fun b hb=>?_⟩
  ·have:(((i + 1:Nat)):Int)=(i:Int) + 1:=by push_cast;rfl
   rw [this];exact b1
  ·have hb':=(hf b hb).1;have:b≠s.heap.objs.size:=by
    rintro rfl;obtain ⟨o,q⟩:∃ o,s.heap.get? s.heap.objs.size=some o:=by
     simp only [Zv,Zq,or_false] at hb;rcases hb with q | q <;> rw [q]
     ·exact ⟨_,h1⟩
     ·obtain ⟨o,q,_⟩:=h4;exact ⟨o,q⟩
    exact Y0 _ (Z5 q)
   rw [zA6 this];exact hb'
 done:=by
  intro X hP hw hK hc i pins s σ H E I hf st hg;subst hP hw hK;obtain ⟨⟨old,h1⟩,h4⟩:=st;obtain ⟨xs,qx,hend⟩:=hg;obtain ⟨its,rx,px,_⟩:=I.list qx;have e1:=rx.length;refine wpAny_pyNext_enum_end (I.ok.hd hc) h1 h4 px.isList (by simp;omega) fun h' kk=>⟨rfl,I.turns (t':=s.toks) (ch:=[e,it]) (fun b o hb q=>?_) hf⟩;simp only [Zv,Zq,or_false,not_or] at hb;exact kk b o hb.2 q
 self:=fun _ _ _ _ _ st h=>wpAny_pyIter_enum st.1.choose_spec h
noncomputable def iEnum (K:PySem.W.Frag) (ta:TA):TI:=fun σ H R=>ta σ H fun vs H1=>∃ a,vs=[.ref a]∧(∃ xs,SqL K H1 a xs)∧R (Ite K a) H1
section
variable {X:Cx}
theorem pi_enum {es:List Expr}{x1:_}{tp:Pos}{e1:Expr}{ta:TA}{p pos:Pos} (hg:Gl X "enumerate") (hm:X.mg "enumerate" = none) (ha:PA X [e1] ta) (hs:starEach [e1] X.env=[(false,eval e1 X.env)]:=by rfl) :
  PI X (.Tuple es x1 tp) (.Call (.Name "enumerate" p) [e1] [] pos) (iEnum X.K ta):=by
 intro pins s σ H R I h;refine Call_ (ld_blt I hg hm boot_enumerate (PyProof.Rows.callWith_type1 (thn (ha pos pins s σ H _ I h) fun us s1 ⟨vs,H1,I1,r1,q1⟩=>?_) hs rfl));obtain ⟨a,rfl,⟨xs,qx⟩,q⟩:=q1;obtain ⟨u,rfl,ru⟩:=v1 r1;cases (show u=Value.ref a from ru);obtain ⟨its,rx,px,_⟩:=I1.list qx;refine call_enumerate_list px.isList fun h' a1 a2 a3 a4=>wpAny_pyIter_enum a1 ?_;have I2:Inv X pins σ H1 { s1 with heap:=h' }:=I1.kept (t':=s1.toks) a4;refine ⟨s1.heap.objs.size + 1,[s1.heap.objs.size + 1,s1.heap.objs.size],_,_,H1,rfl,I2,turn_enum (Nat.succ_ne_self _),⟨⟨_,a1⟩,a2⟩,fun c hc=>?_,q⟩;have hc':s1.heap.objs.size≤c:=by
  simp only [Zv,Zq,or_false] at hc;rcases hc with q | q
  ·rw [q];exact Nat.le_succ _
  ·rw [q];exact Z2 _
 exact I1.fpOk hc' (I1.hok.fresh hc')
end
noncomputable def Froze (H:Hp) (d:Addr) (kvs:List (Key×V)) (H':Hp):Prop:=∃ o,H'=upd H d (.frz o (.dK kvs))
theorem Froze.at {H H':Hp}{d:Addr}{kvs:List (Key×V)} (z:Froze H d kvs H'):Rd H' d (.dK kvs):=by
 obtain ⟨o,rfl⟩:=z;exact .inr ⟨o,zA1⟩
theorem Froze.ne {H H':Hp}{d:Addr}{kvs:List (Key×V)} (z:Froze H d kvs H') {b:Addr} (h:b≠d):H' b=H b:=by
 obtain ⟨o,rfl⟩:=z;exact zA6 h
section
variable {X:Cx}{pins:List (Addr×Obj)}{σ : St}{H:Hp}{s:Shared}{d:Addr}{kvs:List (Key×V)}
theorem upd_id {H:Hp}{a:Addr}{o:HO} (h:H a=some o):upd H a o=H:=by
 funext b;by_cases e:b=a
 ·subst e;rw [zA1,h]
 ·rw [zA6 e]
theorem Inv.freeze (I:Inv X pins σ H s) (r:Rd H d (.dK kvs)):∃ o es ep,o.data=.dict es ep∧s.heap.get? d=some o∧Inv X pins σ (upd H d (.frz o (.dK kvs))) s:=by
 rcases r with r | ⟨o,r⟩
 ·have ok:=I.hok d _ r;obtain ⟨_,_,_,_,o,es,ep,e,ex,dd,_⟩:=id ok;refine ⟨o,es,ep,dd,e,?_⟩;have tup:∀ b xs,H b=some (.tup xs)→b≠d:=fun b xs q z=>by subst z;rw [r] at q;cases q
  refine I.step (h':=s.heap) (g':=s.gens) (d':=s.drawn) (t':=s.toks) (ch:=[]) (fun _ m=>nomatch m) (fun b o _ _ _ e _=>e) (fun b o _ _ _ e _=>⟨o.slots,e⟩) (fun b o _ q n=>?_) (fun b o _ e=>⟨o,e⟩)
   (fun b xs q=>?_) (fun b o u q=>?_) (fun b ps q=>⟨#[],?_⟩) (fun m h=>h) (fun b u q=>?_) I.bare
  ·rw [zA6 (Ne.symm (zA5 r n))];exact n
  ·rw [zA6 (tup b xs q)];exact q
  ·rw [zA6 (fun z=>by subst z;rw [r] at q;cases q)];exact q
  ·rw [zA6 (fun z=>by subst z;rw [r] at q;cases q),q];simp
  ·by_cases hb:b=d
   ·subst hb;rw [zA1] at q;cases q;exact ⟨e,ok⟩
   ·rw [zA6 hb] at q;exact (I.hok b u q).stay (fun c v _ q=>q) (fun c q=>by rw [zA6 (fun z=>by subst z;rw [r] at q;cases q)];exact q) fun c xs q=>by rw [zA6 (tup c xs q)];exact q
 ·obtain ⟨e,_,_,_,_,o',es,ep,e',ex,dd,_⟩:=I.hok d _ r;rw [e] at e';cases e';exact ⟨o,es,ep,dd,e,by rw [upd_id r];exact I⟩
theorem Inv.dictAt {o:Obj}{es:Array DictEntry}{ep:Nat} (I:Inv X pins σ H s) (e:H d=some (.frz o (.dK kvs))) (hd:o.data=.dict es ep):∃ vs,KV kvs vs∧s.heap.DictAt (mixKind X.prog X.w) d vs ep∧(d == sysModules)=false:=by
 obtain ⟨g,_,lo,vs,kv,o',es',ep',g',ex,hd',r⟩:=I.hok d _ e;rw [g] at g';cases g';rw [hd] at hd';cases hd';exact ⟨vs,kv,⟨o,es,g,ex,hd,r⟩,lo⟩
end
theorem KV.get {κ : Type}:∀ {kvs:List (κ×V)}{vs:List (κ×Value)}{i:Nat}{k : κ}{x:V},KV kvs vs→kvs[i]? = some (k,x)→∃ u,vs[i]? = some (k,u)∧RelV x u
 | _,_,_,_,_,.nil,e=>by simp at e
 | _,_,0,k,x,.cons (b:=b) r _,e=>by
  simp at e;obtain ⟨k',u⟩:=b;subst e;obtain ⟨e1,e2⟩:=r;exact ⟨u,by simp at e1;simp [e1],e2⟩
 | _,_,i + 1,k,x,.cons _ t,e=>by
  obtain ⟨u,h1,h2⟩:=KV.get (i:=i) (k:=k) (x:=x) t (by simpa using e);exact ⟨u,by simpa using h1,h2⟩
theorem KV.len {κ : Type}{kvs:List (κ×V)}{vs:List (κ×Value)} (h:KV kvs vs):kvs.length=vs.length:=Paired.length h
theorem key_rel {k:Key}{v:Value} (h:keyIs k v=true):RelV (kV k) v:=by
 rcases zB0 h with ⟨i,t,rfl,rfl⟩ | ⟨x,t,rfl,rfl⟩
 ·exact ⟨t,rfl⟩
 ·exact ⟨t,rfl⟩
noncomputable def Itk (d:Addr) (kvs:List (Key×V)) (o:Obj):It :=
 ⟨fun i H=>H d=some (.frz o (.dK kvs))∧i < kvs.length,fun i H v H'=>H'=H∧∃ k x,kvs[i]? = some (k,x)∧v=kV k,fun i H=>H d=some (.frz o (.dK kvs))∧kvs.length≤i⟩
noncomputable def Itv (d:Addr) (kvs:List (Key×V)) (o:Obj):It :=
 ⟨fun i H=>H d=some (.frz o (.dK kvs))∧i < kvs.length,fun i H v H'=>H'=H∧∃ k x,kvs[i]? = some (k,x)∧v=x,fun i H=>H d=some (.frz o (.dK kvs))∧kvs.length≤i⟩
theorem turn_keys {P:Program}{w:World}{K:PySem.W.Frag}{tg:Expr}{d it:Addr}{kvs:List (Key×V)}{o:Obj}{es:Array DictEntry}{ep:Nat} (hd:o.data=.dict es ep) :
  Turn P w K tg (Itk d kvs o) [it] it (fun i h=>h.IsKeyIter it d i kvs.length ep) where
 mem:=by simp
 obj:=fun i h st b hb=>by
  have e:b=it:=by simpa using hb
  subst e;obtain ⟨o,e,c,d⟩:=st;exact ⟨o,e,fun v z=>by rw [d] at z;cases z⟩
 keep:=fun i h h' st k=>st.at fun o e=>k it (by simp) o e
 item:=by
  intro X hP hw hK hc i pins s σ H E I hf st hg;subst hP hw hK;obtain ⟨ho,hi⟩:=hg;obtain ⟨vs,kv,da,lo⟩:=I.dictAt ho hd;obtain ⟨⟨k,x⟩,hk⟩:∃ p,kvs[i]? = some p:=⟨_,Z4 hi⟩;obtain ⟨u,hu,ru⟩:=kv.get hk;obtain ⟨f0,f1,f2,f3,f4,f5⟩:=hf it (by simp);have st0:s.heap.IsKeyIter it d i kvs.length ep:=st;rw [kv.len] at st0;refine wpAny_pyNext_dict_item st0 da hu fun key h' hkey st' sb=>?_;have I1:Inv X pins σ H { s with heap:=h' }:=I.turned (t':=s.toks) (fun b o hb e=>(sb.2 b hb).trans e) f0 f1 f3 f4 f5;obtain ⟨o2,e,c,d2⟩:=id st';exact ⟨key,rfl,go_of (s:={ s with heap:=h' }) e c d2 (by decide) ⟨kV k,H,I1,key_rel hkey,⟨rfl,k,x,hk,rfl⟩,by rw [kv.len];exact st',fun b hb=>(hf b hb).1⟩⟩
 done:=by
  intro X hP hw hK hc i pins s σ H E I hf st hg;subst hP hw hK;obtain ⟨ho,hi⟩:=hg;obtain ⟨vs,kv,da,lo⟩:=I.dictAt ho hd;obtain ⟨f0,f1,f2,f3,f4,f5⟩:=hf it (by simp);have st0:s.heap.IsKeyIter it d i kvs.length ep:=st;rw [kv.len] at st0;exact wpAny_pyNext_dict_end (I.ok.hd hc) st0 da (by have:=kv.len;simp;omega) fun h' eb=>⟨rfl,I.turned (t':=s.toks) (fun b o hb e=>eb b o hb e) f0 f1 f3 f4 f5⟩
 self:=fun _ _ _ _ _ st h=>wpAny_pyIter_keyiter st h
theorem turn_vals {P:Program}{w:World}{K:PySem.W.Frag}{tg:Expr}{d it:Addr}{kvs:List (Key×V)}{o:Obj}{es:Array DictEntry}{ep:Nat} (hd:o.data=.dict es ep) :
  Turn P w K tg (Itv d kvs o) [it] it (fun i h=>h.IsValIter it d i kvs.length ep) where
 mem:=by simp
 obj:=fun i h st b hb=>by
  have e:b=it:=by simpa using hb
  subst e;obtain ⟨o,e,c,d⟩:=st;exact ⟨o,e,fun v z=>by rw [d] at z;cases z⟩
 keep:=fun i h h' st k=>st.at fun o e=>k it (by simp) o e
 item:=by
  intro X hP hw hK hc i pins s σ H E I hf st hg;subst hP hw hK;obtain ⟨ho,hi⟩:=hg;obtain ⟨vs,kv,da,lo⟩:=I.dictAt ho hd;obtain ⟨⟨k,x⟩,hk⟩:∃ p,kvs[i]? = some p:=⟨_,Z4 hi⟩;obtain ⟨u,hu,ru⟩:=kv.get hk;obtain ⟨f0,f1,f2,f3,f4,f5⟩:=hf it (by simp);have st0:s.heap.IsValIter it d i kvs.length ep:=st;rw [kv.len] at st0;refine wpAny_pyNext_values_item st0 da hu fun h' st' sb=>?_;have I1:Inv X pins σ H { s with heap:=h' }:=I.turned (t':=s.toks) (fun b o hb e=>(sb.2 b hb).trans e) f0 f1 f3 f4 f5;obtain ⟨o2,e,c,d2⟩:=id st';exact ⟨u,rfl,go_of (s:={ s with heap:=h' }) e c d2 (by decide) ⟨x,H,I1,ru,⟨rfl,k,x,hk,rfl⟩,by rw [kv.len];exact st',fun b hb=>(hf b hb).1⟩⟩
 done:=by
  intro X hP hw hK hc i pins s σ H E I hf st hg;subst hP hw hK;obtain ⟨ho,hi⟩:=hg;obtain ⟨vs,kv,da,lo⟩:=I.dictAt ho hd;obtain ⟨f0,f1,f2,f3,f4,f5⟩:=hf it (by simp);have st0:s.heap.IsValIter it d i kvs.length ep:=st;rw [kv.len] at st0;exact wpAny_pyNext_values_end (I.ok.hd hc) st0 da (by have:=kv.len;simp;omega) fun h' eb=>⟨rfl,I.turned (t':=s.toks) (fun b o hb e=>eb b o hb e) f0 f1 f3 f4 f5⟩
 self:=fun _ _ _ _ _ st h=>wpAny_pyIter_valiter st h
noncomputable def iKeys (tl:TE):TI:=fun σ H R=>tl σ H fun x H1=>∃ d kvs,x=.ref d∧Rd H1 d (.dK kvs)∧∀ o,R (Itk d kvs o) (upd H1 d (.frz o (.dK kvs)))
noncomputable def ViewO (v d:Addr):HO:=.ext fun h=>h.IsValuesView v d
noncomputable def iView (tl:TE):TI:=fun σ H R=>tl σ H fun x H1=>∃ v d kvs,x=.ref v∧H1 v=some (ViewO v d)∧Rd H1 d (.dK kvs)∧∀ o,R (Itv d kvs o) (upd H1 d (.frz o (.dK kvs)))
section
variable {X:Cx}{tg:Expr}
theorem zDv {l:Expr}{tl:TE} (hl:PE X l tl):PI X tg l (iKeys tl):=by
 intro pins s σ H R I h;refine thn (hl pins s σ H _ I h) fun v s1 ⟨x,H1,I1,r1,q1⟩=>?_;obtain ⟨d,kvs,rfl,rd,q⟩:=q1;obtain rfl:v=Value.ref d:=r1;obtain ⟨o,es,ep,hd,g,J⟩:=I1.freeze rd;obtain ⟨vs,kv,da,lo⟩:=J.dictAt zA1 hd;refine wpAny_pyIter_dict lo da ?_;have J2:=J.kept (t':=s1.toks) (h':=s1.heap.push { cls:=.type "dict_keyiterator",data:=.fields #[.ref d,.int 0 0,.int vs.length 0,.int ep 0] }) fun b u e=>Z0 _ e;refine ⟨s1.heap.objs.size,[s1.heap.objs.size],_,_,_,rfl,J2,turn_keys hd,⟨_,Z6 _ rfl,rfl,by rw [kv.len];rfl⟩,fun c hc=>?_,q o⟩;have:c=s1.heap.objs.size:=by simpa using hc
 subst this;exact J.fpOk (Z2 _) (J.hok.fresh (Z2 _))
theorem pi_view {l:Expr}{tl:TE} (hl:PE X l tl):PI X tg l (iView tl):=by
 intro pins s σ H R I h;refine thn (hl pins s σ H _ I h) fun v s1 ⟨x,H1,I1,r1,q1⟩=>?_;obtain ⟨a,d,kvs,rfl,hv,rd,q⟩:=q1;obtain rfl:v=Value.ref a:=r1;obtain ⟨o,es,ep,hd,g,J⟩:=I1.freeze rd;obtain ⟨vs,kv,da,lo⟩:=J.dictAt zA1 hd;obtain ⟨vw,_,_⟩:=I1.hok a _ hv;refine wpAny_pyIter_values (show s1.heap.IsValuesView a d from vw) da ?_;have J2:=J.kept (t':=s1.toks) (h':=s1.heap.push { cls:=.type "dict_valueiterator",data:=.fields #[.ref d,.int 0 0,.int vs.length 0,.int ep 0] }) fun b u e=>Z0 _ e;refine ⟨s1.heap.objs.size,[s1.heap.objs.size],_,_,_,rfl,J2,turn_vals hd,⟨_,Z6 _ rfl,rfl,by rw [kv.len];rfl⟩,fun c hc=>?_,q o⟩;have:c=s1.heap.objs.size:=by simpa using hc
 subst this;exact J.fpOk (Z2 _) (J.hok.fresh (Z2 _))
noncomputable def tValues (td:TE):TE:=fun σ H Q=>td σ H fun x H1=>∃ d kvs,x=.ref d∧Rd H1 d (.dK kvs)∧∀ v,H1 v=none→Q (.ref v) (upd H1 v (ViewO v d))
theorem zD2 {o:Expr}{td:TE}{apos cpos:Pos} (ho:PE X o td) (hbase:attributeBase o "values" X.env (eval o X.env)=eval o X.env:=by rfl) (hline:(apos.endLine == cpos.line)=true:=by rfl) :
  PE X (.Call (.Attribute o "values" apos) [] [] cpos) (tValues td):=by
 intro pins s σ H Q I h;refine wpAny_Call_method0_late hbase hline (thn (ho pins s σ H _ I h) fun v s1 ⟨x,H1,I1,r1,d,kvs,ex,rd,q1⟩=>?_);subst ex;obtain rfl:v=Value.ref d:=r1;obtain ⟨t1,t2,lo⟩:=isD_at I1 (.inl ⟨kvs,rd⟩);obtain ⟨_,_,vs,kv,dd⟩:=zDd I1.hok rd;refine ⟨"dict", "dict.values",PySem.F.plainAttrs_dict,PySem.F.slot_dict_values,PySem.F.type_dict_values,t1,t2,Calls.callWith_builtin rfl (PySem.evalArgs_none ?_)⟩;refine call_meetsIn PySem.F.slot_dict_values t1 PySem.F.entry_dict_values (PySem.F.args_dict_values_1 _) (meets_dict_values (mixKind X.prog X.w) d lo) ⟨⟨vs,dd⟩,?_⟩;have fr:H1 s1.heap.objs.size=none:=I1.hok.fresh (Z2 _);refine ⟨.ref s1.heap.objs.size,_,I1.laid (t':=s1.toks) (a:=s1.heap.objs.size) (o:=ViewO s1.heap.objs.size d) (fun b u e=>Z0 _ e) (Z2 _) ⟨⟨_,Z6 _ rfl,rfl,rfl⟩,⟨_,Z6 _ rfl⟩,fun h1 h2 ⟨o',e,r⟩ k=>⟨o',k _ e,r⟩⟩,rfl,q1 _ fr⟩
theorem zEj:CallR X (.type "list") (fun vs H Q=>∃ d kvs,vs=[.ref d]∧Rd H d (.dK kvs)∧X.calm=true∧∀ p,H p=none→Q (.ref p) (upd H p (.lst (kvs.map fun kv=>kV kv.1)))):=by
 intro pins s σ H vs us Q I rv h;obtain ⟨d,kvs,rfl,rd,hc,q⟩:=h;obtain ⟨u,rfl,ru⟩:=v1 rv;cases (show u=Value.ref d from ru);obtain ⟨hz,lo,ks,kv,dd⟩:=zDd I.hok rd;obtain ⟨o,es,ep,g,ex,hd,r⟩:=id dd;have da:s.heap.DictAt (mixKind X.prog X.w) d ks ep:=⟨o,es,g,ex,hd,r⟩;have kl:=kv.len;refine PySem.W.kdl_call (PySem.W.kdl_dict (knd:=mixKind X.prog X.w) (kvs:=ks) (ep:=ep) lo) (I.ok.hd hc) da (by omega) fun h' tk acc c' kk hS hacc=>?_;have fr:H s.heap.objs.size=none:=I.hok.fresh (Z2 _);refine ⟨.ref s.heap.objs.size,_,I.laid (t':=tk) (a:=s.heap.objs.size) (o:=.lst (kvs.map fun kv=>kV kv.1)) kk (Z2 _) ⟨by rw [Z1];exact hz,acc.toList,c',?_,by rw [Array.toArray_toList];exact hS⟩,rfl,q _ fr⟩;have ln:acc.toList.length=kvs.length:=by rw [Zw,kl];exact hacc.1
 have all:∀ (j:Nat) (v:Value),acc.toList[j]? = some v→∃ k x,kvs[j]? = some (k,x)∧RelV (kV k) v:=fun j v e=>by
  obtain ⟨k,x,e2,hk⟩:=hacc.2 j v (by rw [← Array.getElem?_toList];exact e);have hj:j < kvs.length:=by rw [← ln];exact (List.getElem?_eq_some_iff.mp e).1
  obtain ⟨⟨k',x'⟩,hk'⟩:∃ p,kvs[j]? = some p:=⟨_,Z4 hj⟩;obtain ⟨u',hu',_⟩:=kv.get hk';rw [e2] at hu';cases hu';exact ⟨k,x',hk',key_rel hk⟩
 clear hS hacc hz da dd kk kl kv rd q;generalize acc.toList=ys at ln all
 induction kvs generalizing ys with
 | nil =>
  cases ys with
  | nil=>exact .nil
  | cons a b=>cases ln
 | cons p t ih =>
  cases ys with
  | nil=>cases ln
  | cons a b =>
   refine .cons ?_ (ih b (by simpa using ln) fun j v e=>?_)
   ·obtain ⟨k,x,e,q⟩:=all 0 a rfl;simp at e;subst e;exact q
   ·obtain ⟨k,x,e2,q⟩:=all (j + 1) v (by simpa using e);exact ⟨k,x,by simpa using e2,q⟩
theorem ltCps_iff:∀ (a b:List Nat),ltCps a b=true ↔ a < b
 | [],[]=>by simp [ltCps]
 | [],_ :: _=>by simp [ltCps]
 | _ :: _,[]=>by simp [ltCps]
 | a :: r,b :: t=>by
  rw [List.cons_lt_cons_iff];simp only [ltCps,Bool.or_eq_true,Zj,decide_eq_true_eq,beq_iff_eq,ltCps_iff r t]
theorem leS_trans {a b c:Str} (x:¬ ltS b a) (y:¬ ltS c b):¬ ltS c a:=by
 have h1:a.cps.toList≤b.cps.toList:=x;have h2:b.cps.toList≤c.cps.toList:=y;exact List.le_trans h1 h2
theorem rising_pw:∀ (l:List Str) (a:Str),risingS a l=true→(a :: l).Pairwise (fun x y=>¬ ltS y x)
 | [],a,_=>by simp
 | b :: r,a,h=>by
  have h':(!ltCps b.cps.toList a.cps.toList && risingS b r)=true:=h;simp only [Zj,Bool.not_eq_true'] at h';have ih:=rising_pw r b h'.2;have hab:¬ ltS b a:=fun z=>by
   have:=(ltCps_iff _ _).mpr z;rw [h'.1] at this;cases this
  refine List.pairwise_cons.mpr ⟨fun y hy=>?_,ih⟩;rcases List.mem_cons.mp hy with rfl | hy
  ·exact hab
  ·exact leS_trans hab ((List.pairwise_cons.mp ih).1 y hy)
theorem sorted_pw:∀ (l:List Str),sortedS l=true→l.Pairwise (fun x y=>¬ ltS y x)
 | [],_=>.nil
 | a :: r,h=>rising_pw r a h
theorem strs_are:∀ {ks:List Str}{us:List Value},Vals (ks.map V.str) us→StrsAre us ks
 | [],_,.nil=>.nil
 | k :: r,_,.cons a t=>by
  obtain ⟨tk,rfl⟩:=a;exact .cons k tk (strs_are t)
theorem vals_strs:∀ {ks:List Str}{us:List Value},StrsAre us ks→Vals (ks.map V.str) us
 | _,_,.nil=>.nil
 | _,_,.cons x t r=>.cons ⟨t,rfl⟩ (vals_strs r)
end
end L2
namespace L2
open PySem PySem.Spec PyProof.Rows
theorem lk_list_keys:typeLookup (.type "list") "keys" = pure none:=by rw [typeLookup_type,builtinLookup_eq_fast];kernel_rfl
theorem entry_dul:entryFor table "dict.update.loop" = some Builtin.«dict.update.loop»:=entryFor_of_tree (by kernel_rfl)
theorem zD1:plainId "dict.update.loop" = true:=by decide +kernel
section
variable {P:Program}{w:World}{A:Around}{E:Value→Shared→Prop}
theorem no_keys {s:Shared}{a:Addr}{o:Obj}{xs:Array Value}{k:Nat}{Q:Option Value→Shared→Prop} (hx:s.heap.get? a=some o) (hc:o.cls=.type "list") (hdat:o.data=.seq xs k) (hd:o.dict=none) (hA:A.handled=none)
  (h:∀ h' tk,Kept s.heap h'→Q none { s with heap:=h',toks:=tk }):wpAny (model P w) A (getAttr? (.ref a) "keys") Q E s:=by
 obtain ⟨c,dct,dat,sl⟩:=o;simp only at hc hdat hd;subst hc hdat hd;obtain ⟨hp,g,d,tk,os⟩:=s;have hT:∀ n,(⟨hp,g,d,n,os⟩:Shared).TypeIs (.ref a) "list":=fun _=>⟨_,hx,rfl⟩;have f1:=sub_AttributeError;have f3:=F.slot_list_getattribute.lookup;have f4:=F.slot_list_getattribute.bind (.ref a);have f5:=am_list_getattr_none;unfold getAttr? getAttrBy? getAttrBy
 repeat (any_goals (first | assumption | exact hT _ | ((with_reducible show wpAny _ _ (call (Value.builtin "list.__getattribute__") _ _) _ _ _);refine call_meets F.slot_list_getattribute (hT _) am_entry_list_getattribute (F.args_list_getattribute_2 _ _) (meets_getattribute_miss_list a xs k sl "keys" _ lk_list_keys (by decide) (by size_fits)) ⟨hx,hA,fun h' tk' e hx'=>?_⟩) | wp_step))
 obtain ⟨t',u',he⟩:=hx'.there;show wpAny _ _ (getattributeRaised _ _ _ _ _ _ _) _ _ _;unfold getattributeRaised hookOrError attributeErrorLeaves
 repeat (any_goals (first | assumption | wp_step))
 exact h _ _ hx'.of.keeps
theorem nodup_at {α : Type}{l:List α} (h:l.Nodup) {i j:Nat}{x : α} (a:l[i]? = some x) (b:l[j]? = some x):i=j:=by
 obtain ⟨h1,e1⟩:=List.getElem?_eq_some_iff.mp a;obtain ⟨h2,e2⟩:=List.getElem?_eq_some_iff.mp b;exact (List.getElem_inj h).mp (e1.trans e2.symm)
theorem pairs_loop {z:Shared}{g:Heap}{l I d:Addr}{its:List Value}{ps:List (Key×Value)}{R:Result→Shared→Prop} (hh:A.handled=none) (hl:g.IsList l its.toArray) (hI:g.objs.size≤I) (hd:g.objs.size≤d) (ne:d≠I) (hz:its.length≤sizeLine)
  (len:ps.length=its.length) (nd:(ps.map (·.1)).Nodup) (hp:∀ (i:Nat) (v:Value) (k:Key) (u:Value),its[i]? = some v→ps[i]? = some (k,u)→∃ (t:Addr) (y:Value),v=.ref t∧IsTup g t #[y,u]∧keyIs k y=true)
  (fin:∀ h tk,Kept g h→h.DictOf (mixKind P w) d ps→R (.ok (.ret .none)) { z with heap:=h,toks:=tk }) :
  ∀ (r i:Nat) (h:Heap) (tk:Nat),its.length - i=r→i≤its.length→Kept g h→h.DictOf (mixKind P w) d (ps.take i)→h.IsListIter I l i →
   codeAny (model P w) A (.builtin "dict.update.loop" ⟨[.ref d,.ref I,rawInt (i:Nat),.none],[]⟩) R { z with heap:=h,toks:=tk }:=by
 have hlI:l≠I:=by
  obtain ⟨o,e,_⟩:=hl;exact Z9 (Z7 (Z5 e) hI)
 have W:=Walks.list (prog:=P) (w:=w) (A:=A.in1) hh I l hlI its.toArray;have sz:its.toArray.size=its.length:=by simp
 have lst:∀ {h},Kept g h→h.IsList l its.toArray:=fun {h} k=>by
  obtain ⟨o,e,r⟩:=hl;exact ⟨o,k _ _ e,r⟩
 have dk:∀ {h h':Heap}{q:List (Key×Value)},h.DictOf (mixKind P w) d q→(∀ b o,b∉[I]→h.get? b=some o→h'.get? b=some o)→h'.DictOf (mixKind P w) d q:=fun ⟨o,es,ep,e,r⟩ k=>⟨o,es,ep,k _ _ (by simpa using ne) e,r⟩;intro r
 induction r with
 | zero =>
  intro i h tk hr hi k hm it;have hin:i=its.length:=by omega
  subst hin;refine codeAny_builtin entry_dul ?_;rw [Around.under_plainId zD1 _];show wpAny _ A.in1 (pyNext (Value.ref I) >>= _) _ _ _;refine wpAny_bind (W.done _ _ _ ⟨by rw [sz];exact it,lst k⟩ fun h1 tk1 k1=>?_);show wpAny _ A.in1 (Builtin.Dict.addKeywords d [] >>= _) _ _ _;refine wpAny_bind (wpAny_pure (wpAny_pure ?_));rw [← len,Zm] at hm;exact fin _ _ (k.but hI k1) (dk hm k1)
 | succ r ih =>
  intro i h tk hr hi k hm it;have hlt:i < its.length:=by omega
  refine codeAny_builtin entry_dul ?_;rw [Around.under_plainId zD1 _];show wpAny _ A.in1 (pyNext (Value.ref I) >>= _) _ _ _;refine wpAny_bind (W.item i _ _ _ (by rw [sz];exact hlt) ⟨it,lst k⟩ fun v h1 tk1 hv st k1=>?_);have hv':its[i]? = some v:=by simpa using hv
  obtain ⟨⟨key,u⟩,hk⟩:∃ p,ps[i]? = some p:=⟨_,Z4 (by omega)⟩;obtain ⟨t,y,rfl,ht,hy⟩:=hp i v key u hv' hk;have kg:=k.but hI k1;have ht1:=ht.keeps kg;obtain ⟨o,ho,hc,n,hdt⟩:=id ht1;have hT:({ z with heap:=h1,toks:=tk1 }:Shared).TypeIs (.ref t) "tuple":=⟨o,ho,hc⟩;refine wpAny_bind (wpAny_holding (wpAny_bind (wpAny_tryCatch ?_)));unfold Builtin.Dict.pairItems;refine wpAny_bind (wpAny_typeOf hT ?_);rw [if_pos (by decide)];refine wpAny_bind (wpAny_seqItems ho hdt (wpAny_pure ?_));show wpAny _ A.in1 (holding [y,u] (dictSet d y u)) _ _ _;have hm1:=dk hm k1;have nk:key∉(ps.take i).map (·.1):=fun m=>by
   obtain ⟨q,hq,e⟩:=List.mem_map.mp m;obtain ⟨j,hj,ej⟩:=Yc hq;have hj':j < i:=by simp at hj;omega
   have e1:(ps.map (·.1))[j]? = some key:=by
    have:ps[j]? = some q:=by
     have:=Z4 hj;rw [List.getElem?_take_of_lt hj'] at this;rw [this,ej]
    simp [this,e]
   have e2:(ps.map (·.1))[i]? = some key:=by simp [hk]
   have:=nodup_at nd e1 e2;omega
  have st1:stored (ps.take i) key u=ps.take (i + 1):=by
   have hany:¬ ((ps.take i).any fun kv=>decide (kv.1=key))=true:=by
    rw [List.any_eq_true];rintro ⟨kv,h1,h2⟩;exact nk (List.mem_map.mpr ⟨kv,h1,of_decide_eq_true h2⟩)
   rw [stored,if_neg hany,Zk,hk];rfl
  refine wpAny_holding (wpAny_dictSet_pairs (knd:=mixKind P w) (k:=key) hy hm1 (fun h2 hm2 sb=>?_) (by have:=Zp i ps;omega));rw [st1] at hm2;refine wpAny_pure ⟨plainId_quiet zD1 _,?_⟩;have e3:((i:Nat):Int) + 1=((i + 1:Nat):Int):=by push_cast;rfl
  show codeAny _ A (.builtin "dict.update.loop" ⟨[.ref d,.ref I,rawInt (((i:Nat):Int) + 1),.none],[]⟩) _ _;rw [e3];exact ih (i + 1) h2 _ (by omega) (by omega) (kg.same hd sb) hm2 (st.1.at fun o e=>(sb.2 I (Ne.symm ne)).trans e)
theorem call_pairs {z:Shared}{l:Addr}{its:List Value}{ps:List (Key×Value)}{Q:Value→Shared→Prop} (hh:A.handled=none) (hl:PlainL z.heap l its.toArray) (hz:its.length≤sizeLine)
  (len:ps.length=its.length) (nd:(ps.map (·.1)).Nodup) (hp:∀ (i:Nat) (v:Value) (k:Key) (u:Value),its[i]? = some v→ps[i]? = some (k,u)→∃ (t:Addr) (y:Value),v=.ref t∧IsTup z.heap t #[y,u]∧keyIs k y=true)
  (fin:∀ h tk,Kept z.heap h→h.DictOf (mixKind P w) z.heap.objs.size ps→Q (.ref z.heap.objs.size) { z with heap:=h,toks:=tk }) :
  wpAny (model P w) A (call (.type "dict") [.ref l]) Q E z:=by
 refine callType_codes (Q₁:=fun obj s₁=>obj=.ref z.heap.objs.size∧s₁ = { z with heap:=z.heap.push { cls:=.type "dict",data:=.dict #[] } }) F.kt_called_dict (F.kt_typeCall_dict_1 _) F.entry_dict_init (kt_code_dict_new _ ⟨rfl,rfl⟩) ?_;rintro obj s₁ ⟨rfl,rfl⟩;have hnew:(z.heap.push { cls:=.type "dict",data:=.dict #[] }).DictOf (mixKind P w) z.heap.objs.size []:=Heap.DictOf.new z.heap;have k0:Kept z.heap (z.heap.push { cls:=.type "dict",data:=.dict #[] }):=Kept.push _ _;obtain ⟨ol,n,el,cl,dl,sl⟩:=id hl;refine ⟨hnew.typeIs,F.args_dict_init_2 _ _,?_⟩;unfold Builtin.«dict.__init__»;refine wpAny_bind ?_;unfold Builtin.Dict.selfAndRest;refine wpAny_bind (wpAny_notOrdered_dict hnew.typeIs ?_);show wpAny _ _ (pure (z.heap.objs.size,[Value.ref l])) _ _ _;refine wpAny_pure ?_;show wpAny _ _ (Builtin.Dict.updateFrom "dict.__init__" z.heap.objs.size (.ref l) [] .none) _ _ _;unfold Builtin.Dict.updateFrom;have hT:({ z with heap:=z.heap.push { cls:=.type "dict",data:=.dict #[] } }:Shared).TypeIs (.ref l) "list":=⟨ol,k0 _ _ el,cl⟩;refine wpAny_bind (wpAny_typeOf hT ?_);rw [if_pos (by decide)];refine wpAny_bind (no_keys (k0 _ _ el) cl sl dl hh fun h1 tk1 k1=>?_);simp only [Option.isNone_none,if_true];have hl1:h1.IsList l its.toArray:=by
  obtain ⟨o,e,r⟩:=hl.isList;exact ⟨o,k1 _ _ (k0 _ _ e),r⟩
 refine wpAny_bind (wpAny_rule (wpAny_bind (wpAny_pyIter_list hl1 (wpAny_pure ⟨plainId_quiet zD1 _,?_⟩))));have sz1:z.heap.objs.size + 1≤h1.objs.size:=by
  have:=Z5 (k1 _ _ (Z6 z.heap (o:={ cls:=.type "dict",data:=.dict #[] }) rfl));exact this
 refine pairs_loop (g:=z.heap) (z:=z) (A:=A.in1) hh hl.isList (I:=h1.objs.size) (d:=z.heap.objs.size) (by omega) (Z2 _) (Z9 (by omega)) hz len nd hp (fun h tk kk hm=>⟨rfl,fin h tk kk hm⟩) _ 0 _ _ rfl (Zl _) ((k0.trans k1).trans (Kept.push _ _)) ?_ ⟨_,Z6 _ rfl,rfl,rfl⟩;obtain ⟨o,es,ep,e,r⟩:=hnew;exact ⟨o,es,ep,Z0 _ (k1 _ _ e),r⟩
end
section
variable {X:Cx}
theorem zEg {K:PySem.W.Frag} (hK:X.K=K):CallR X (.type "dict") (fun vs H Q=>∃ (l:Addr) (ts:List Addr) (kvs:List (Key×V)),vs=[.ref l]∧SqL K H l (ts.map V.ref)∧X.calm=true∧(kvs.map (·.1)).Nodup∧kvs.length=ts.length ∧
  (∀ (i:Nat) (t:Addr) (k:Key) (v:V),ts[i]? = some t→kvs[i]? = some (k,v)→H t=some (.tup [kV k,v]))∧∀ p,H p=none→Q (.ref p) (upd H p (.dK kvs))):=by
 subst hK;intro pins s σ H vs us Q I rv h;obtain ⟨l,ts,kvs,rfl,hl,hc,nd,ln,ht,q⟩:=h;obtain ⟨u,rfl,ru⟩:=v1 rv;cases (show u=Value.ref l from ru);obtain ⟨its,rx,pl,hz⟩:=I.list hl;have il:=rx.length;simp only [Z1] at il hz;have one:∀ (i:Nat) (v:Value),its[i]? = some v→∃ (t:Addr) (k:Key) (x:V) (y u:Value),v=.ref t∧kvs[i]? = some (k,x)∧IsTup s.heap t #[y,u]∧keyIs k y=true∧RelV x u:=fun i v e=>by
  have hi:i < its.length:=(List.getElem?_eq_some_iff.mp e).1;obtain ⟨t,et⟩:∃ t,ts[i]? = some t:=⟨_,Z4 (by omega)⟩;obtain ⟨⟨k,x⟩,ek⟩:∃ p,kvs[i]? = some p:=⟨_,Z4 (by omega)⟩;obtain ⟨v',hv',r⟩:=rx.get (i:=i) (x:=.ref t) (by simp [et]);rw [e] at hv';cases hv';cases (show v=Value.ref t from r);obtain ⟨_,is,rr,it⟩:=I.hok t _ (ht i t k x et ek);obtain ⟨y,u,rfl,ry,ru⟩:=v2 rr;refine ⟨t,k,x,y,u,rfl,ek,it,?_,ru⟩;cases k with
  | inl n=>obtain ⟨tk,rfl⟩:=ry;exact keyIs_int n tk
  | inr z=>obtain ⟨tk,rfl⟩:=ry;exact keyIs_str z tk
 obtain ⟨ps,lp,hps⟩:∃ ps:List (Key×Value),ps.length=its.length∧∀ i,i < its.length→∃ (t:Addr) (k:Key) (x:V) (y u:Value),its[i]? = some (.ref t)∧kvs[i]? = some (k,x)∧IsTup s.heap t #[y,u]∧keyIs k y=true∧RelV x u∧ps[i]? = some (k,u):=by
  have:∀ i:Fin its.length,∃ p:Key×Value,∃ (t:Addr) (k:Key) (x:V) (y u:Value),its[i.1]? = some (.ref t)∧kvs[i.1]? = some (k,x)∧IsTup s.heap t #[y,u]∧keyIs k y=true∧RelV x u∧p=(k,u):=fun i=>by
   obtain ⟨v,hv⟩:∃ v,its[i.1]? = some v:=⟨_,Z4 i.2⟩;obtain ⟨t,k,x,y,u,rfl,h2,h3,h4,h5⟩:=one i.1 v hv;exact ⟨(k,u),t,k,x,y,u,hv,h2,h3,h4,h5,rfl⟩
  refine ⟨List.ofFn fun i=>(this i).choose,by simp,fun i hi=>?_⟩;obtain ⟨t,k,x,y,u,a1,a2,a3,a4,a5,a6⟩:=(this ⟨i,hi⟩).choose_spec;exact ⟨t,k,x,y,u,a1,a2,a3,a4,a5,by rw [List.getElem?_ofFn,dif_pos hi,a6]⟩
 have keys:ps.map (·.1)=kvs.map (·.1):=by
  refine List.ext_getElem? fun i=>?_;by_cases hi:i < its.length
  ·obtain ⟨t,k,x,y,u,a1,a2,a3,a4,a5,a6⟩:=hps i hi;simp [a2,a6]
  ·rw [List.getElem?_eq_none (by simp;omega),List.getElem?_eq_none (by simp;omega)]
 have kv:KV kvs ps:=by
  have:∀ (a:List (Key×V)) (b:List (Key×Value)),a.length=b.length→(∀ (i:Nat) (k:Key) (x:V) (k':Key) (u:Value),a[i]? = some (k,x)→b[i]? = some (k',u)→k=k'∧RelV x u)→KV a b:=by
   intro a
   induction a with
   | nil =>
    intro b hb _;cases b with
    | nil=>exact .nil
    | cons _ _=>cases hb
   | cons p t ih =>
    intro b hb hr;cases b with
    | nil=>cases hb
    | cons c d=>exact .cons (hr 0 p.1 p.2 c.1 c.2 rfl rfl) (ih d (by simpa using hb) fun i k x k' u h1 h2=>hr (i + 1) k x k' u (by simpa using h1) (by simpa using h2))
  refine this _ _ (by omega) fun i k x k' u h1 h2=>?_;obtain ⟨t,k2,x2,y,u2,a1,a2,a3,a4,a5,a6⟩:=hps i (by rw [← lp];exact (List.getElem?_eq_some_iff.mp h2).1);rw [h1] at a2;cases a2;rw [h2] at a6;cases a6;exact ⟨rfl,a5⟩
 have fr:H s.heap.objs.size=none:=I.hok.fresh (Z2 _);refine call_pairs (P:=X.prog) (w:=X.w) (ps:=ps) (I.ok.hd hc) pl (by omega) lp (by rw [keys];exact nd) (fun i v k u hv hk=>?_) fun h tk kk hm=>?_
 ·obtain ⟨t,k2,x2,y,u2,a1,a2,a3,a4,a5,a6⟩:=hps i (List.getElem?_eq_some_iff.mp hv).1;rw [hv] at a1;cases a1;rw [hk] at a6;cases a6;exact ⟨t,y,rfl,a3,a4⟩
 ·refine ⟨.ref s.heap.objs.size,_,I.laid (t':=tk) (a:=s.heap.objs.size) (o:=.dK kvs) kk (Z2 _) ⟨by omega,?_,ps,kv,hm⟩,rfl,q _ fr⟩;have:=I.big;exact beq_false_of_ne (Nat.ne_of_gt this)
end
end L2
namespace L2
open PySem PySem.Spec PyProof.Rows
section
variable {X:Cx}
theorem call_isinstK {K:PySem.W.Frag} (hK:X.K=K):CallR X (.builtin "isinstance") (fun xs H Q=>∃ x c t cv b,xs=[x,c]∧TyOf K H x t∧RelV c cv∧PySem.W.kitOne K t cv=some b∧Q (.bl b) H):=by
 subst hK;exact zAg
end
structure FunL (K:PySem.W.Frag) (x qual:Str) (st:Stmt) (f:Addr) (fd:FuncData) (c:Addr):Prop where
 ex:∃ (oc:Value) (od:Option Addr) (kV doc pm:Value) (an:Option Addr) (ct:Value) (osl:Array (Option Value)),
  fd=PySem.W.fnOf x qual (defArgs st) (defBody st) (defScope st) .none kV doc pm an (.ref c) ct∧K.lookup f=some ⟨oc,od,.func fd,osl⟩∧PySem.W.codeIn K (.ref c) qual=true
 kp:PySem.W.keepIn K (.ref f)=true
theorem FunL.fn {K:PySem.W.Frag}{x qual:Str}{st:Stmt}{f c:Addr}{fd:FuncData} (F:FunL K x qual st f fd c):Fun K x qual st f fd:=by
 obtain ⟨oc,od,kV,doc,pm,an,ct,osl,e,lk,hcd⟩:=F.ex;exact ⟨⟨oc,od,kV,doc,pm,an,.ref c,ct,osl,e,lk,hcd⟩,F.kp⟩
theorem FunL.okC {P:Program}{w:World}{K:PySem.W.Frag}{mg:Str→Option Value}{base:Heap}{CX:CXT}{x qual:Str}{st:Stmt}{f c:Addr}{fd:FuncData}{N ps:List Str}{k:Nat}{sp:Sp} (F:FunL K x qual st f fd c) (S:FnScope N ps (defScope st)) (len:∀ vs H Q E,sp vs H Q E→vs.length=ps.length)
  (hbody:∀ (A:Around) (outer:List Env) (s:Shared) (H:Hp) (vs:List V) (Q:VK) (E:XK),Room k (A.deeper (envOfC qual (defScope st) s.heap.objs.size f (.ref c)))→sp vs H Q E →
   ∃ t,PSs (cxOf CX P w K mg base N qual (defScope st) f (.ref c) A outer s H E).nox (defBody st) t∧t { nx:=fun _ H'=>Q .non H',rt:=Q } (start N vs) H):FnOk P w K mg base CX (k + 1) f fd ps sp:=by
 obtain ⟨oc,od,kV,doc,pm,an,ct,osl,rfl,lk,hcd⟩:=F.ex;refine fn_of lk hcd S len fun A outer s H vs Q E hr hsp=>?_;obtain ⟨t,h,q⟩:=hbody A outer s H vs Q E hr hsp;exact ⟨t,h.nox,q⟩
theorem zEe {d:Addr}{kvs:List (Key×V)}{o:Obj}{k:Nat}{σ : St}{H:Hp}{g:TG}{tt:TT}{te:TE}{Q:VK} (Pv:Nat→List V→Hp→Prop) (h0:Pv 0 [] H) (hl:∀ i ys H,Pv i ys H→H d=some (.frz o (.dK kvs)))
  (hz:∀ i ys H,i≤kvs.length→Pv i ys H→ys.length≤sizeLine)
  (hs:∀ i k' x ys H,kvs[i]? = some (k',x)→Pv i ys H→∀ N:List V→Hp→Prop,(∀ ys H,Pv (i + 1) ys H→N ys H)→g (kV k') (σ++List.replicate k none) H fun σ2 H2=>tt σ2 H2 fun b H3=>if b=true then te σ2 H3 fun y H4=>N (ys++[y]) H4 else N ys H3)
  (hd:∀ ys H,Pv kvs.length ys H→∀ p,H p=none→Q (.ref p) (upd H p (.lst ys))):CompGoal (Itk d kvs o) k σ H g tt te Q:=by
 refine zEf (J:=Itk d kvs o) (n:=kvs.length) Pv h0 (fun i ys H lt p=>⟨hl i ys H p,lt⟩) (fun ys H p=>⟨hl _ ys H p,Z2 _⟩) hz ?_ hd;rintro i ys H x H' lt p ⟨rfl,k',x',e,rfl⟩ N hN;exact hs i k' x' ys _ e p N hN
theorem comp_vals {d:Addr}{kvs:List (Key×V)}{o:Obj}{k:Nat}{σ : St}{H:Hp}{g:TG}{tt:TT}{te:TE}{Q:VK} (Pv:Nat→List V→Hp→Prop) (h0:Pv 0 [] H) (hl:∀ i ys H,Pv i ys H→H d=some (.frz o (.dK kvs)))
  (hz:∀ i ys H,i≤kvs.length→Pv i ys H→ys.length≤sizeLine)
  (hs:∀ i k' x ys H,kvs[i]? = some (k',x)→Pv i ys H→∀ N:List V→Hp→Prop,(∀ ys H,Pv (i + 1) ys H→N ys H)→g x (σ++List.replicate k none) H fun σ2 H2=>tt σ2 H2 fun b H3=>if b=true then te σ2 H3 fun y H4=>N (ys++[y]) H4 else N ys H3)
  (hd:∀ ys H,Pv kvs.length ys H→∀ p,H p=none→Q (.ref p) (upd H p (.lst ys))):CompGoal (Itv d kvs o) k σ H g tt te Q:=by
 refine zEf (J:=Itv d kvs o) (n:=kvs.length) Pv h0 (fun i ys H lt p=>⟨hl i ys H p,lt⟩) (fun ys H p=>⟨hl _ ys H p,Z2 _⟩) hz ?_ hd;rintro i ys H x H' lt p ⟨rfl,k',x',e,rfl⟩ N hN;exact hs i k' _ ys _ e p N hN
end L2
namespace L2
open PySem PySem.Spec PyProof.Rows
theorem cut_first {c:Nat}:∀ {p q A B:List Nat},(∀ d∈p,d≠c)→(∀ d∈q,d≠c)→p++c :: A=q++c :: B→p=q∧A=B
 | [],[],_,_,_,_,h=>⟨rfl,by simpa using h⟩
 | [],y :: q,_,_,_,hq,h=>by
  simp at h;exact absurd h.1.symm (hq y (by simp))
 | x :: p,[],_,_,hp,_,h=>by
  simp at h;exact absurd h.1 (hp x (by simp))
 | x :: p,y :: q,_,_,hp,hq,h=>by
  simp at h;obtain ⟨e1,e2⟩:=h;obtain ⟨a,b⟩:=cut_first (fun d hd=>hp d (by simp [hd])) (fun d hd=>hq d (by simp [hd])) e2;exact ⟨by rw [e1,a],b⟩
noncomputable def freeOf (c:Nat) (x:Str):Prop:=∀ d∈x.cps.toList,d≠c
theorem zBz {x y:Str} (h:x.cps.toList=y.cps.toList):x=y:=by
 obtain ⟨⟨a⟩⟩:=x;obtain ⟨⟨b⟩⟩:=y;simp at h;rw [h]
theorem zBg (x y:Str):(x++y).cps.toList=x.cps.toList++y.cps.toList:=by
 show (x.cps++y.cps).toList=_;simp
theorem join_inj {c:Nat}:∀ {ps qs:List Str},(∀ p∈ps,freeOf c p)→(∀ q∈qs,freeOf c q)→ps≠[]→qs≠[]→Str.join ⟨#[c]⟩ ps=Str.join ⟨#[c]⟩ qs→ps=qs
 | [],_,_,_,h,_,_=>absurd rfl h
 | _,[],_,_,_,h,_=>absurd rfl h
 | [p],[q],_,_,_,_,h=>by
  have:p=q:=h;rw [this]
 | [p],q :: q2 :: r,hp,_,_,_,h=>by
  have h':p=q++⟨#[c]⟩++Str.join ⟨#[c]⟩ (q2 :: r):=h;exact absurd rfl (hp p (by simp) c (by rw [h',zBg,zBg];simp))
 | p :: p2 :: r,[q],_,hq,_,_,h=>by
  have h':p++⟨#[c]⟩++Str.join ⟨#[c]⟩ (p2 :: r)=q:=h;exact absurd rfl (hq q (by simp) c (by rw [← h',zBg,zBg];simp))
 | p :: p2 :: r,q :: q2 :: t,hp,hq,_,_,h=>by
  have h':p++⟨#[c]⟩++Str.join ⟨#[c]⟩ (p2 :: r)=q++⟨#[c]⟩++Str.join ⟨#[c]⟩ (q2 :: t):=h;have e:=congrArg (fun x:Str=>x.cps.toList) h';simp only [zBg] at e;have e2:p.cps.toList++c :: (Str.join ⟨#[c]⟩ (p2 :: r)).cps.toList=q.cps.toList++c :: (Str.join ⟨#[c]⟩ (q2 :: t)).cps.toList:=by simpa using e
  obtain ⟨a,b⟩:=cut_first (hp p (by simp)) (hq q (by simp)) e2;rw [zBz a,join_inj (fun x hx=>hp x (Zb _ hx)) (fun x hx=>hq x (Zb _ hx)) (by simp) (by simp) (zBz b)]
theorem split_join {c:Nat}{ws:List Str} (h:∀ w∈ws,freeOf c w) (ne:ws≠[]):Txt.split (Str.join ⟨#[c]⟩ ws) ⟨#[c]⟩=ws:=by
 refine join_inj (fun p hp d hd e=>?_) h ?_ ne (StrLaws.join_split _ _)
 ·exact StrLaws.split_free _ c p hp (e ▸ hd)
 ·intro z;have:=split_pos (Str.join ⟨#[c]⟩ ws) ⟨#[c]⟩;rw [z] at this;simp at this
noncomputable def evens {α : Type}:List α→List α
 | []=>[]
 | [a]=>[a]
 | a :: _ :: r=>a :: evens r
noncomputable def odds {α : Type}:List α→List α
 | []=>[]
 | [_]=>[]
 | _ :: b :: r=>b :: odds r
theorem pick_even {α : Type}:∀ (n:Nat) (l:List α),l.length≤n→(List.range ((l.length + 1) / 2)).filterMap (fun k=>l[2 * k]?)=evens l
 | 0,[],_=>by simp [evens]
 | _ + 1,[],_=>by simp [evens]
 | n + 1,[a],_=>by simp [List.range_succ,evens]
 | n + 1,a :: b :: r,h=>by
  have e:((a :: b :: r).length + 1) / 2=(r.length + 1) / 2 + 1:=by simp;omega
  rw [e,List.range_succ_eq_map,Y1];show a :: _=a :: evens r;have f:((fun k=>(a :: b :: r)[2 * k]?) ∘ Nat.succ)=fun k=>r[2 * k]?:=by
   funext k;show (a :: b :: r)[2 * (k + 1)]? = r[2 * k]?;rw [show 2 * (k + 1)=2 * k + 1 + 1 by omega];rfl
  rw [Y6,← pick_even n r (by simp at h;omega),f]
theorem pick_odd {α : Type}:∀ (n:Nat) (l:List α),l.length≤n→(List.range (l.length / 2)).filterMap (fun k=>l[2 * k + 1]?)=odds l
 | 0,[],_=>by simp [odds]
 | _ + 1,[],_=>by simp [odds]
 | n + 1,[a],_=>by simp [odds]
 | n + 1,a :: b :: r,h=>by
  have e:(a :: b :: r).length / 2=r.length / 2 + 1:=by simp;omega
  rw [e,List.range_succ_eq_map,Y1];show b :: _=b :: odds r;have f:((fun k=>(a :: b :: r)[2 * k + 1]?) ∘ Nat.succ)=fun k=>r[2 * k + 1]?:=by
   funext k;show (a :: b :: r)[2 * (k + 1) + 1]? = r[2 * k + 1]?;rw [show 2 * (k + 1) + 1=2 * k + 1 + 1 + 1 by omega];rfl
  rw [Y6,← pick_odd n r (by simp at h;omega),f]
theorem slice_even (its:List Value):slicePick its.toArray none none (some 2)=(evens its).toArray:=by
 unfold slicePick sliceBounds sliceRange;simp only [Z3];rw [← pick_even its.length its (Z2 _)]
 congr 1
 have hc:(if (2:Int) > 0 then if (0:Int) < (its.length:Int) then ((its.length:Int) - 0 + 2 - 1) / 2 else 0 else if (0:Int) > (its.length:Int) then (0 - (its.length:Int) - 2 - 1) / (-2) else 0).toNat=(its.length + 1) / 2:=by
  rw [if_pos (by decide)];split <;> omega
 show List.filterMap (fun (k:Nat)=>its.toArray[k]?) (List.map _ (List.range (if (2:Int) > 0 then if (0:Int) < (its.length:Int) then ((its.length:Int) - 0 + 2 - 1) / 2 else 0 else if (0:Int) > (its.length:Int) then (0 - (its.length:Int) - 2 - 1) / (-2) else 0).toNat))=_;rw [hc,Y6]
 congr 1
 funext k;show its.toArray[((0:Int) + 2 * (k:Int)).toNat]? = its[2 * k]?;rw [show ((0:Int) + 2 * (k:Int)).toNat=2 * k by omega];simp
theorem bounds_odd (n:Nat) (h:1≤n):sliceBounds (some 1) none (some 2) n=((1:Int),(n:Int),(2:Int)):=by
 unfold sliceBounds;have:max (0:Int) (min 1 (n:Int))=1:=by omega
 simp [this]
theorem slice_odd (its:List Value) (h:1≤its.length):slicePick its.toArray (some 1) none (some 2)=(odds its).toArray:=by
 unfold slicePick;rw [Z3,bounds_odd _ h,← pick_odd its.length its (Z2 _)]
 congr 1
 have hc:(if (2:Int) > 0 then if (1:Int) < (its.length:Int) then ((its.length:Int) - 1 + 2 - 1) / 2 else 0 else if (1:Int) > (its.length:Int) then (1 - (its.length:Int) - 2 - 1) / (-2) else 0).toNat=its.length / 2:=by
  rw [if_pos (by decide)];split <;> omega
 show List.filterMap (fun (k:Nat)=>its.toArray[k]?) (List.map (fun (k:Nat)=>((1:Int) + 2 * (k:Int)).toNat) (List.range (if (2:Int) > 0 then if (1:Int) < (its.length:Int) then ((its.length:Int) - 1 + 2 - 1) / 2 else 0 else if (1:Int) > (its.length:Int) then (1 - (its.length:Int) - 2 - 1) / (-2) else 0).toNat))=_;rw [hc,Y6]
 congr 1
 funext k;show its.toArray[((1:Int) + 2 * (k:Int)).toNat]? = its[2 * k + 1]?;rw [show ((1:Int) + 2 * (k:Int)).toNat=2 * k + 1 by omega];simp
end L2
namespace L2
open PySem PySem.Spec PyProof.Rows
section
variable {X:Cx}
theorem zF7:MtR X "str.startswith" (fun x xs H Q=>∃ z y,x=.str z∧xs=[.str y]∧Q (.bl (Txt.startswith z y)) H):=by
 intro pins s σ H x xs v us Q I rx rs h;obtain ⟨z,y,rfl,rfl,q⟩:=h;obtain ⟨t,rfl⟩:=rx;obtain ⟨u,rfl,ru⟩:=v1 rs;obtain ⟨t',rfl⟩:=ru;exact PySem.SC.startswith ⟨.bl _,H,I,rfl,q⟩
theorem zDo:∀ {l:List (Str×Tok)},Vals ((l.map (·.1)).map V.str) (strValues l)
 | []=>.nil
 | (k,t) :: r=>.cons ⟨t,rfl⟩ zDo
theorem mt_split:MtR X "str.split" (fun x xs H Q=>∃ z y,x=.str z∧xs=[.str y]∧(y.length == 0)=false∧z.length≤100000∧∀ p,H p=none→Q (.ref p) (upd H p (.lst ((Txt.split z y).map V.str)))):=by
 intro pins s σ H x xs v us Q I rx rs h;obtain ⟨z,y,rfl,rfl,hy,hz,q⟩:=h;obtain ⟨t,rfl⟩:=rx;obtain ⟨u,rfl,ru⟩:=v1 rs;obtain ⟨t',rfl⟩:=ru;have sl:z.length + 2≤sizeLine:=by rw [sizeLine_eq];omega
 have hl:=split_le z y;have fr:H s.heap.objs.size=none:=I.hok.fresh (Z2 _);have fin:∀ (l:List (Str×Tok)) (k:Nat),l.map (·.1)=Txt.split z y→EP X pins σ Q (.ref s.heap.objs.size) { s with heap:=s.heap.push { cls:=.type "list",data:=.seq (strValues l).toArray },toks:=k }:=fun l k e=>by
  have vv:Vals ((Txt.split z y).map V.str) (strValues l):=by rw [← e];exact zDo
  exact ⟨.ref _,_,I.laid (t':=k) (a:=s.heap.objs.size) (o:=.lst ((Txt.split z y).map V.str)) (fun b o e=>Z0 _ e) (Z2 _) ⟨by rw [Z1];omega,_,_,vv,Z6 _ rfl⟩,rfl,q _ fr⟩
 have at_:=F.slot_str_split;cases h1:(decide (z.length < y.length) || decide (Builtin.Str.strKind z < Builtin.Str.strKind y)) with
 | true=>exact call_meets at_ (typeIs_str _ _ _) F.entry_str_split (F.args_str_split_2 _ _) (meets_str_split_cannot_occur z y t t' h1) (fin [(z,t)] s.toks (if_pos h1).symm)
 | false =>
  have n1:¬ (decide (z.length < y.length) || decide (Builtin.Str.strKind z < Builtin.Str.strKind y))=true:=by rw [h1];decide
  cases hf:(Builtin.Str.occurrences z y 0 z.length (z.length + 1)).isEmpty with
  | true=>exact call_meets at_ (typeIs_str _ _ _) F.entry_str_split (F.args_str_split_2 _ _) (meets_str_split_not_found z y t t' h1 hy hf) (fin [(z,t)] s.toks ((if_neg n1).trans (if_pos hf)).symm)
  | false =>
   have n2:¬ (Builtin.Str.occurrences z y 0 z.length (z.length + 1)).isEmpty=true:=by rw [hf];decide
   have e:Txt.split z y=Builtin.Str.partsBetween z (Builtin.Str.occurrences z y 0 z.length (z.length + 1)) y.length:=(if_neg n1).trans (if_neg n2);refine call_meets at_ (typeIs_str _ _ _) F.entry_str_split (F.args_str_split_2 _ _) (meets_str_split_sep z y t t' h1 hy hf (by omega) (by rw [← e];omega)) ?_;have:=fin (numbered s.toks (Builtin.Str.partsBetween z (Builtin.Str.occurrences z y 0 z.length (z.length + 1)) y.length)) (s.toks + (Builtin.Str.partsBetween z (Builtin.Str.occurrences z y 0 z.length (z.length + 1)) y.length).length) ((numbered_texts _ _).trans e.symm);rw [← strsFrom_eq] at this;exact this
theorem Vals.evens:∀ {xs:List V}{us:List Value},Vals xs us→Vals (evens xs) (evens us)
 | [],_,h=>by cases h;exact .nil
 | [_],_,h=>by
  cases h with
  | cons a t=>cases t;exact .cons a .nil
 | _ :: _ :: _,_,h=>by
  cases h with
  | cons a t =>
   cases t with
   | cons b t=>exact .cons a (Vals.evens t)
theorem Vals.odds:∀ {xs:List V}{us:List Value},Vals xs us→Vals (odds xs) (odds us)
 | [],_,h=>by cases h;exact .nil
 | [_],_,h=>by
  cases h with
  | cons a t=>cases t;exact .nil
 | _ :: _ :: _,_,h=>by
  cases h with
  | cons a t =>
   cases t with
   | cons b t=>exact .cons b (Vals.odds t)
theorem evens_le {α : Type}:∀ l:List α,(evens l).length≤l.length
 | []=>Z2 _
 | [_]=>Z2 _
 | _ :: _ :: r=>by
  have:=evens_le r;simp [evens];omega
theorem odds_le {α : Type}:∀ l:List α,(odds l).length≤l.length
 | []=>Z2 _
 | [_]=>Zl _
 | _ :: _ :: r=>by
  have:=odds_le r;simp [odds];omega
noncomputable def rEven (K:PySem.W.Frag) (te:TE):TE:=fun σ H Q=>te σ H fun x H1=>∃ a xs,x=.ref a∧SqL K H1 a xs∧∀ p,H1 p=none→Q (.ref p) (upd H1 p (.lst (evens xs)))
noncomputable def rOdd (K:PySem.W.Frag) (te:TE):TE:=fun σ H Q=>te σ H fun x H1=>∃ a xs,x=.ref a∧SqL K H1 a xs∧1≤xs.length∧∀ p,H1 p=none→Q (.ref p) (upd H1 p (.lst (odds xs)))
theorem zF1 {e:Expr}{te:TE}{k:Nat}{p1 p3 pos:Pos} (he:PE X e te):PE X (.Subscript e (.Slice none none (some (.Constant (.int 2) k p1)) p3) pos) (rEven X.K te):=by
 intro pins s σ H Q I h;refine Subscript_ (thn (he pins s σ H _ I h) fun v s1 ⟨x,H1,I1,r1,q1⟩=>?_);obtain ⟨a,xs,rfl,hx,q⟩:=q1;cases r1;refine wpAny_Slice ?_;rw [evalPart_none];refine wpAny_pure (wpAny_pure ?_);rw [evalPart_some];refine thn (zA7 (X:=X) (i:=2) pins s1 σ H1 (fun y H2=>y=.int 2∧H2=H1) I1 ⟨rfl,rfl⟩) fun u s2 ⟨y,H2,I2,r2,ey,eh⟩=>?_;subst ey eh;obtain ⟨t,rfl⟩:=r2;have I4:Inv X pins σ H2 { s2 with heap:=s2.heap.push { cls:=.type "slice",data:=.fields #[.none,.none,.int 2 t] } }:=I2.kept (t':=s2.toks) fun b ob q=>Z0 _ q;obtain ⟨its,r,ht,hz⟩:=I4.list hx;have hlen:=r.length;refine tail_any (ops:=[.ref a,.ref s2.heap.objs.size]) ht.isList.typeIs slot_list_getitem.lookup ?_ (by with_unfolding_all rfl);refine wpAny_getItem_list_slice ht.isList (Heap.IsSliceOf.new ..) .none .none (.int _ _) (by decide) ?_ (by rw [Z3];omega);rw [slice_even];have le:=evens_le xs;exact ⟨.ref _,_,I4.laid (t':=s2.toks) (o:=.lst (evens xs)) (fun b ob q=>Z0 _ q) (Z2 _) ⟨by omega,_,0,r.evens,Z6 _ rfl⟩,rfl,q _ (I4.hok.fresh (Z2 _))⟩
theorem pe_odd {e:Expr}{te:TE}{k k':Nat}{p1 p2 p3 pos:Pos} (he:PE X e te):PE X (.Subscript e (.Slice (some (.Constant (.int 1) k' p2)) none (some (.Constant (.int 2) k p1)) p3) pos) (rOdd X.K te):=by
 intro pins s σ H Q I h;refine Subscript_ (thn (he pins s σ H _ I h) fun v s1 ⟨x,H1,I1,r1,q1⟩=>?_);obtain ⟨a,xs,rfl,hx,h1,q⟩:=q1;cases r1;refine wpAny_Slice ?_;rw [evalPart_some];refine thn (zA7 (X:=X) (i:=1) pins s1 σ H1 (fun y H2=>y=.int 1∧H2=H1) I1 ⟨rfl,rfl⟩) fun u0 s0 ⟨y0,H0,I0,r0,ey0,eh0⟩=>?_;subst ey0 eh0;obtain ⟨t0,rfl⟩:=r0;rw [evalPart_none];refine wpAny_pure ?_;rw [evalPart_some];refine thn (zA7 (X:=X) (i:=2) pins s0 σ H0 (fun y H2=>y=.int 2∧H2=H0) I0 ⟨rfl,rfl⟩) fun u s2 ⟨y,H2,I2,r2,ey,eh⟩=>?_;subst ey eh;obtain ⟨t,rfl⟩:=r2;have I4:Inv X pins σ H2 { s2 with heap:=s2.heap.push { cls:=.type "slice",data:=.fields #[.int 1 t0,.none,.int 2 t] } }:=I2.kept (t':=s2.toks) fun b ob q=>Z0 _ q;obtain ⟨its,r,ht,hz⟩:=I4.list hx;have hlen:=r.length;refine tail_any (ops:=[.ref a,.ref s2.heap.objs.size]) ht.isList.typeIs slot_list_getitem.lookup ?_ (by with_unfolding_all rfl);refine wpAny_getItem_list_slice ht.isList (Heap.IsSliceOf.new ..) (.int _ _) .none (.int _ _) (by decide) ?_ (by rw [Z3];omega);rw [slice_odd _ (by omega)];have le:=odds_le xs;exact ⟨.ref _,_,I4.laid (t':=s2.toks) (o:=.lst (odds xs)) (fun b ob q=>Z0 _ q) (Z2 _) ⟨by omega,_,0,r.odds,Z6 _ rfl⟩,rfl,q _ (I4.hok.fresh (Z2 _))⟩
noncomputable def TJ:=St→Hp→Str→(Str→Hp→Prop)→Prop
noncomputable def PJ (X:Cx) (es:List Expr) (t:TJ):Prop:=∀ (pins:List (Addr×Obj)) (s:Shared) (σ : St) (H:Hp) (acc:Str) (Q:Str→Hp→Prop),Inv X pins σ H s→t σ H acc Q →
 Joins (model X.prog X.w) X.A X.xe (evalEach es X.env) acc (fun out s1=>∃ H1,Inv X pins σ H1 s1∧Q out H1) s
theorem pj_nil:PJ X [] (fun _ H acc Q=>Q acc H):=fun _ _ _ H _ _ I h=>⟨H,I,h⟩
noncomputable def showV:V→Option Str
 | .str x=>some x
 | .int i=>if i.natAbs < 10 ^ 12 then some (Str.ofString (toString i)) else none
 | _=>none
theorem zDu {e:Expr}{es:List Expr}{te:TE}{tj:TJ}{pos:Pos} (he:PE X e te) (hs:PJ X es tj) :
  PJ X (.FormattedValue e (-1) none pos :: es) (fun σ H acc Q=>te σ H fun v H1=>∃ x,showV v=some x∧x.length≤100000∧acc.length≤100000∧tj σ H1 (acc++x) Q):=by
 intro pins s σ H acc Q I h;have big:(200000:Nat)≤sizeLine:=by rw [sizeLine_eq];decide
 have la:∀ x y:Str,(x++y).length=x.length + y.length:=fun x y=>by show (x.cps++y.cps).size=_;simp [Str.length]
 show wpAny _ _ (eval (.FormattedValue e (-1) none pos) X.env) _ _ _;refine wpAny_FormattedValue_plain (thn (he pins s σ H _ I h) fun u s1 ⟨v,H1,I1,r1,x,ex,hx,hac,q⟩=>?_);have fin:∀ (t:Tok) (k:Nat),∃ y t',Value.str x t=.str y t'∧(acc++y).length≤sizeLine∧Joins (model X.prog X.w) X.A X.xe (evalEach es X.env) (acc++y) (fun out s1=>∃ H1,Inv X pins σ H1 s1∧Q out H1) { s1 with toks:=k }:=fun t k =>
  ⟨x,t,rfl,by rw [la];omega,hs pins _ σ H1 _ _ (I1.tok k) q⟩
 cases v with
 | str z =>
  cases ex;obtain ⟨t,rfl⟩:=r1;exact wpAny_formatField_str (fin t s1.toks) (fin _ _) (by omega)
 | int i =>
  obtain ⟨t,rfl⟩:=r1;replace ex:(if i.natAbs < 10 ^ 12 then some (Str.ofString (toString i)) else none)=some x:=ex;by_cases c:i.natAbs < 10 ^ 12
  ·rw [if_pos c] at ex;cases ex;refine wpAny_formatField_int ?_ (fin _ _);have:i.natAbs.log2 < 64:=by
    by_cases z:i.natAbs=0
    ·rw [z];decide
    ·exact (Nat.log2_lt z).mpr (Z7 c (by decide))
   omega
  ·rw [if_neg c] at ex;cases ex
 | _=>cases ex
theorem pj_con {x:Str}{k:Nat}{es:List Expr}{tj:TJ}{pos:Pos} (hs:PJ X es tj) :
  PJ X (.Constant (.str x) k pos :: es) (fun σ H acc Q=>x.length≤100000∧acc.length≤100000∧tj σ H (acc++x) Q):=by
 intro pins s σ H acc Q I h;obtain ⟨hx,hac,q⟩:=h;have big:(200000:Nat)≤sizeLine:=by rw [sizeLine_eq];decide
 have la:∀ x y:Str,(x++y).length=x.length + y.length:=fun x y=>by show (x.cps++y.cps).size=_;simp [Str.length]
 refine thn (zAi (X:=X) (x:=x) pins s σ H (fun y H2=>y=.str x∧H2=H) I ⟨rfl,rfl⟩) fun u s1 ⟨v,H1,I1,r1,ev,eh⟩=>?_;subst ev eh;obtain ⟨t,rfl⟩:=r1;exact ⟨x,t,rfl,by rw [la];omega,hs pins _ σ _ _ _ I1 q⟩
theorem zD3 {v1 v2:Expr}{rest:List Expr}{tj:TJ}{pos:Pos} (h:PJ X (v1 :: v2 :: rest) tj):PE X (.JoinedStr (v1 :: v2 :: rest) pos) (fun σ H Q=>tj σ H Str.empty fun out H1=>out.length≤100000∧Q (.str out) H1):=by
 intro pins s σ H Q I hh;have big:(200000:Nat)≤sizeLine:=by rw [sizeLine_eq];decide
 have mono:∀ (l:List (Sem Value)) (acc:Str) (Q1 Q2:Str→Shared→Prop) (s:Shared),(∀ o s,Q1 o s→Q2 o s)→Joins (model X.prog X.w) X.A X.xe l acc Q1 s→Joins (model X.prog X.w) X.A X.xe l acc Q2 s:=by
  intro l
  induction l with
  | nil=>intro acc Q1 Q2 s h q;exact h _ _ q
  | cons a r ih=>intro acc Q1 Q2 s h q;exact thn q fun v s1 ⟨y,t,e,hl,j⟩=>⟨y,t,e,hl,ih _ _ _ _ h j⟩
 refine wpAny_JoinedStr (mono _ _ _ _ _ (fun out s1 ⟨H1,I1,ho,q⟩=>⟨by omega,.str out,H1,I1.tok _,⟨_,rfl⟩,q⟩) (h pins s σ H _ _ I hh))
theorem zFf:CallR X (.type "int") (fun vs H Q=>∃ n:Int,vs=[.str (Str.ofString (toString n))]∧0≤n∧n < 10 ^ 10∧Q (.int n) H):=by
 intro pins s σ H vs us Q I rv h;obtain ⟨n,rfl,h0,h1,q⟩:=h;obtain ⟨u,rfl,ru⟩:=L2.v1 rv;obtain ⟨t,rfl⟩:=ru;exact PySem.W.KIN.call_num h0 h1 ⟨.int n,H,I.tok _,⟨_,rfl⟩,q⟩
end
end L2
namespace L2
open PySem PySem.Spec PyProof.Rows
noncomputable abbrev OKey:=Option Str
noncomputable def okIs:OKey→Value→Bool
 | none,.none=>true
 | none,_=>false
 | some x,v=>Value.isStrOf x v
noncomputable def okH (w:World):OKey→Int
 | none=>0xFCA86420
 | some x=>hashStr w x
theorem zBa:∀ {k:OKey}{v:Value},okIs k v=true→(k=none∧v=Value.none)∨(∃ x t,k=some x∧v=Value.str x t)
 | none,v,h=>by
  cases v <;> first | exact .inl ⟨rfl,rfl⟩ | exact nomatch h
 | some x,v,h=>by
  obtain ⟨t,e⟩:=Value.isStrOf_shape (x:=x) (v:=v) h;exact .inr ⟨x,t,rfl,e⟩
theorem zDe {prog:Program}{w:World}{A:Around}{E:Value→Shared→Prop}{s:Shared}{Q:Int→Shared→Prop} (h:Q 0xFCA86420 { s with toks:=s.toks + 1 }) :
  wpAny (model prog w) A (pyHash .none) Q E s:=by
 have hT:s.TypeIs .none "NoneType":=rfl;have hv:[Value.none].any Value.onHeap=false:=rfl;show wpAny _ _ (pyHashByItsType .none) Q E s;unfold pyHashByItsType;refine wpAny_bind ?_;rw [cRoomFor,if_neg (by rw [hv];exact Z8)];refine wpAny_pure ?_;refine wpAny_bind (wpAny_specialOf hT F.slot_NoneType_hash.lookup ?_);show wpAny _ _ (if (some (Value.builtin "NoneType.__hash__") == some Value.none)=true then _ else _) Q E s;rw [if_neg (by rw [beq_builtin_none];exact Z8)];refine wpAny_bind (wpAny_specialOf hT F.slot_NoneType_hash.lookup ?_);show wpAny _ _ (callSpecialIfBoundUnlessNone? .none "__hash__" _ >>= _) Q E s
 refine wpAny_bind (wpAny_callSpecialIfBoundUnlessNone?_slot hT F.slot_NoneType_hash
  (wpAny_call_entry F.slot_NoneType_hash hT F.entry_NoneType_hash
   (show wpAny _ _ (do ret (← mkInt 0xFCA86420)) _ _ s from wpAny_ret_mkInt ?_) (F.args_NoneType_hash_1 _)))
 exact wpAny_pure h
noncomputable def optKind (prog:Program) (w:World):PySem.KeyKind prog w OKey where
 is:=okIs
 hash:=okH w
 inj:=fun v a b ha hb=>by
  rcases zBa ha with ⟨rfl,rfl⟩ | ⟨x,t,rfl,rfl⟩
  ·rcases zBa hb with ⟨rfl,e⟩ | ⟨y,u,rfl,e⟩
   ·rfl
   ·exact nomatch e
  ·rcases zBa hb with ⟨rfl,e⟩ | ⟨y,u,rfl,e⟩
   ·exact nomatch e
   ·injection e with e1 _;rw [e1]
 byValue:=fun k v h=>by
  rcases zBa h with ⟨rfl,rfl⟩ | ⟨x,t,rfl,rfl⟩ <;> rfl
 pyHash:=fun hv h=>by
  rcases zBa hv with ⟨rfl,rfl⟩ | ⟨x,t,rfl,rfl⟩
  ·exact zDe h
  ·exact wpAny_pyHash_str h
 eqBool:=fun hu hv h=>by
  rcases zBa hu with ⟨rfl,rfl⟩ | ⟨x,t,rfl,rfl⟩
  ·rcases zBa hv with ⟨rfl,rfl⟩ | ⟨y,u,rfl,rfl⟩
   ·rw [decide_eq_true rfl] at h;unfold eqBool;rw [if_pos (by rfl)];exact wpAny_bind (wpAny_rule (wpAny_pure h))
   ·rw [decide_eq_false (fun q=>nomatch q)] at h;exact SeqAt.EqAt.none_str y u _ _ _ _ h
  ·rcases zBa hv with ⟨rfl,rfl⟩ | ⟨y,u,rfl,rfl⟩
   ·rw [decide_eq_false (fun q=>nomatch q)] at h;exact SeqAt.EqAt.str_none x t _ _ _ _ h
   ·have e:decide ((some x:OKey)=some y)=decide (x=y):=by
     by_cases e:x=y
     ·subst e;simp
     ·rw [decide_eq_false e,decide_eq_false (fun q=>e (Zh q))]
    rw [e] at h;exact wpAny_eqBool_str h
 «strs»:=fun k x t v h=>by
  rcases zBa h with ⟨rfl,e⟩ | ⟨y,u,rfl,e⟩
  ·exact nomatch e
  ·injection e with e1 _;subst e1;cases v <;> rfl
noncomputable def DO (P:Program) (w:World) (a:Addr) (kvs:List (OKey×V)):HO:=.ext fun h=>kvs.length≤sizeLine∧(a == sysModules)=false∧∃ vs,KV kvs vs∧h.DictOf (optKind P w) a vs
section
variable {P:Program}{w:World}{H:Hp}{h:Heap}{a:Addr}{kvs:List (OKey×V)}
end
section
variable {X:Cx}{o i e value:Expr}{pos pos' tpos:Pos}{td ty tv tk:TE}
end
end L2
namespace L2
open PySem PySem.Spec PyProof.Rows
noncomputable def figs (n:Nat):Str:=Str.ofString (toString ((n:Nat):Int))
theorem zEb (n:Nat):(figs n).cps.toList=(Nat.toDigits 10 n).map Char.toNat:=PySem.W.KIN.signs_num n
theorem figs_dig {n c:Nat} (h:c∈(figs n).cps.toList):48≤c∧c≤57:=by
 rw [zEb] at h;obtain ⟨ch,hch,e⟩:=List.mem_map.mp h;have d:=Nat.isDigit_of_mem_toDigits (by decide) (by decide) hch;rw [← e];simp only [Char.isDigit,Zj,decide_eq_true_eq] at d;have d1:(48:Nat)≤ch.val.toNat:=d.1;have d2:ch.val.toNat≤57:=d.2;exact ⟨d1,d2⟩
theorem len_list (x:Str):x.cps.toList.length=x.length:=Zw
theorem dig_ne (n:Nat):Nat.toDigits 10 n≠[]:=by
 by_cases h:n < 10
 ·rw [Nat.toDigits_of_lt_base h];simp
 ·have hm:n % 10 < 10:=Nat.mod_lt n (by decide);have t:Nat.toDigits 10 (n / 10)++Nat.toDigits 10 (n % 10)=Nat.toDigits 10 (10 * (n / 10) + n % 10):=Nat.toDigits_append_toDigits (by decide) (by omega) hm;rw [Nat.div_add_mod,Nat.toDigits_of_lt_base hm] at t;rw [← t];simp
theorem figs_ge (n:Nat):1≤(figs n).length:=by
 rw [← len_list,zEb,Z1];exact List.length_pos_iff.mpr (dig_ne n)
theorem zF9 {n:Nat} (h:n≤999999):(figs n).length≤6:=by
 have e:(10:Int) ^ 6=1000000:=by decide
 exact toString_length_le (by omega) (by decide) (by rw [e];omega)
theorem dig_lead (n:Nat):0 < n→∀ c r,Nat.toDigits 10 n=c :: r→c≠'0':=by
 induction n using Nat.strongRecOn with
 | _ n ih =>
  intro h0 c r e;by_cases h:n < 10
  ·rw [Nat.toDigits_of_lt_base h] at e;injection e with e1 _;rw [← e1];have:∀ d:Nat,d < 10→0 < d→Nat.digitChar d≠'0':=by decide
   exact this n h h0
  ·have hm:n % 10 < 10:=Nat.mod_lt n (by decide);have t:Nat.toDigits 10 (n / 10)++Nat.toDigits 10 (n % 10)=Nat.toDigits 10 (10 * (n / 10) + n % 10):=Nat.toDigits_append_toDigits (by decide) (by omega) hm;rw [Nat.div_add_mod] at t;cases q:Nat.toDigits 10 (n / 10) with
   | nil=>exact absurd q (dig_ne _)
   | cons d s =>
    rw [q,e] at t;injection t with t1 _;rw [← t1];exact ih (n / 10) (by omega) (by omega) d s q
theorem figs_start {n:Nat} (h:1 < (figs n).length):Txt.startswith (figs n) "0" = false:=by
 have h0:0 < n:=by
  rcases Nat.eq_zero_or_pos n with e | e
  ·subst e;exact absurd h (by decide +kernel)
  ·exact e
 cases q:Nat.toDigits 10 n with
 | nil=>exact absurd q (dig_ne n)
 | cons c r =>
  have hc:=dig_lead n h0 c r q;unfold Txt.startswith;rw [StrLaws.subAt_eq,zEb,q];have e1:("0" : Str).cps.toList=[48]:=by decide +kernel
  have e2:("0" : Str).length=1:=by decide +kernel
  rw [e1,e2,List.drop_zero,Zt];have:¬ c.toNat=48:=fun z=>hc (Char.toNat_inj.mp (z.trans (by decide)));simp [this]
theorem dot_eq:("." : Str)=⟨#[46]⟩:=by decide +kernel
noncomputable def wordsP:List (Str×Nat)→List Str
 | []=>[]
 | (k,n) :: t=>k :: figs n :: wordsP t
noncomputable def showP (p:List (Str×Nat)):Str:=Str.join "." (wordsP p)
theorem zDf:∀ p q:List (Str×Nat),wordsP (p++q)=wordsP p++wordsP q
 | [],_=>rfl
 | (k,n) :: t,q=>by show k :: figs n :: wordsP (t++q)=k :: figs n :: (wordsP t++wordsP q);rw [zDf t q]
theorem zB5:∀ p:List (Str×Nat),(wordsP p).length=2 * p.length
 | []=>rfl
 | (k,n) :: t=>by show (wordsP t).length + 1 + 1=2 * (t.length + 1);rw [zB5 t];omega
theorem zCq:∀ p:List (Str×Nat),evens (wordsP p)=p.map (·.1)
 | []=>rfl
 | (k,n) :: t=>by show k :: evens (wordsP t)=_;rw [zCq t];rfl
theorem zEk:∀ p:List (Str×Nat),odds (wordsP p)=p.map fun q=>figs q.2
 | []=>rfl
 | (k,n) :: t=>by show figs n :: odds (wordsP t)=_;rw [zEk t];rfl
theorem zEc {α β : Type} (f : α→β):∀ l:List α,evens (l.map f)=(evens l).map f
 | []=>rfl
 | [_]=>rfl
 | a :: _ :: r=>by show f a :: evens (r.map f)=f a :: (evens r).map f;rw [zEc f r]
theorem odds_map {α β : Type} (f : α→β):∀ l:List α,odds (l.map f)=(odds l).map f
 | []=>rfl
 | [_]=>rfl
 | _ :: b :: r=>by show f b :: odds (r.map f)=f b :: (odds r).map f;rw [odds_map f r]
theorem join_app (s:Str):∀ {ws vs:List Str},ws≠[]→vs≠[]→Str.join s (ws++vs)=Str.join s ws++s++Str.join s vs
 | [],_,h,_=>absurd rfl h
 | _,[],_,h=>absurd rfl h
 | [w],v :: vs,_,_=>rfl
 | w :: w2 :: ws,v :: vs,_,h=>by
  show w++s++Str.join s ((w2 :: ws)++(v :: vs))=w++s++Str.join s (w2 :: ws)++s++Str.join s (v :: vs);rw [join_app s (by simp) h];refine zBz ?_;simp only [zBg,List.append_assoc]
theorem zAz (x y:Str):(x++y).length=x.length + y.length:=by show (x.cps++y.cps).size=_;simp [Str.length]
theorem join_len {s:Str}{m:Nat} (hs:s.length=1):∀ {ws:List Str},(∀ w∈ws,w.length≤m)→(Str.join s ws).length≤ws.length * (m + 1)
 | [],_=>Zl _
 | [w],h=>by
  have:=h w (by simp);show w.length≤1 * (m + 1);omega
 | w :: w2 :: ws,h=>by
  have h1:=h w (by simp);have h2:=join_len (s:=s) (m:=m) hs (ws:=w2 :: ws) fun x hx=>h x (Zb _ hx);show (w++s++Str.join s (w2 :: ws)).length≤_;rw [zAz,zAz,hs];simp only [Zg] at h2 ⊢;have e:(ws.length + 1 + 1) * (m + 1)=(ws.length + 1) * (m + 1) + (m + 1):=Nat.succ_mul _ _;omega
end L2
namespace L2
open PySem PySem.Spec PyProof.Rows
noncomputable def P2 (e:Addr) (h:Heap):Prop:=∃ o vs,h.get? e=some o∧o.data=.fields vs∧vs[2]? = some Value.none
noncomputable def Kp (e:Addr) {α : Type} (t:Sem α):Prop:=∀ (M:Model) (Γ : PySem.Ctx) (Q : α→Pos→Shared→Prop) (E:Value→Pos→Shared→Prop) (p:Pos) (s:Shared),P2 e s.heap→Sem.wp M Γ t Q E p s →
 Sem.wp M Γ t (fun a p' s'=>Q a p' s'∧P2 e s'.heap) (fun v p' s'=>E v p' s'∧P2 e s'.heap) p s
section
variable {e:Addr}{α β : Type}
theorem Kp.pure (a : α):Kp e (Pure.pure a:Sem α):=fun M Γ Q E p s h w=>by
 rw [Sem.wp_pure'] at w ⊢;exact ⟨w,h⟩
theorem Kp.bind {m:Sem α}{f : α→Sem β} (hm:Kp e m) (hf:∀ a,Kp e (f a)):Kp e (m >>= f):=fun M Γ Q E p s h w=>by
 rw [Sem.wp_bind'] at w ⊢;exact Sem.wp_mono M Γ m (fun a p' s' z=>hf a M Γ Q E p' s' z.2 z.1) (fun _ _ _ z=>z) p s (hm M Γ _ E p s h w)
theorem Kp.un (x:String):Kp e (unsupported x:Sem α):=fun M Γ Q E p s h w=>by
 have z:False:=by simpa [unsupported] using w
 exact z.elim
theorem Kp.ld (a:Addr):Kp e (load a):=fun M Γ Q E p s h w=>by
 obtain ⟨o,h1,h2⟩:=(show ∃ o,s.heap.get? a=some o∧Q o p s from w);exact ⟨o,h1,h2,h⟩
theorem Kp.stk:Kp e stack:=fun M Γ Q E p s h w=>⟨w,h⟩
theorem Kp.alc (o:Obj):Kp e (alloc o):=fun M Γ Q E p s ⟨o',vs,h1,h2⟩ w=>⟨w,o',vs,Z0 _ h1,h2⟩
theorem Kp.upt (a:Addr) (f:Obj→Obj) (hf:∀ o vs,o.data=.fields vs→vs[2]? = some Value.none→∃ vs',(f o).data=.fields vs'∧vs'[2]? = some Value.none):Kp e (update a f):=fun M Γ Q E p s ⟨o,vs,h1,h2,h3⟩ ⟨w1,w2⟩=>by
 refine ⟨w1,w2,?_⟩;obtain ⟨vs',h4,h5⟩:=hf o vs h2 h3;by_cases z:a=e
 ·subst z;exact ⟨_,vs',Heap.get?_update_self f h1 (Obj.isFreed_of_fields h4),h4,h5⟩
 ·exact ⟨o,vs,(Heap.get?_update_other _ f z).trans h1,h2,h3⟩
theorem Kp.fld (v:Value) (i:Nat):Kp e (field v i):=by
 unfold field fieldsOf;cases v with
 | ref a =>
  refine .bind (.bind (.ld a) fun o=>?_) fun vs=>?_
  ·split
   ·exact .pure _
   ·exact .un _
  ·split
   ·exact .pure _
   ·exact .un _
 | _=>exact .bind (.un _) fun vs=>by split <;> first | exact .pure _ | exact .un _
theorem Kp.setF (v:Value) (i:Nat) (x:Value) (hi:i≠2):Kp e (setField v i x):=by
 unfold setField;cases v with
 | ref a =>
  unfold updateField;refine .bind (.ld a) fun o=>?_;split
  ·split
   ·refine .upt a _ fun o vs h1 h2=>⟨_,Obj.data_mapFields h1 _,?_⟩;rw [Array.getElem?_setIfInBounds_ne hi];exact h2
   ·exact .un _
  ·exact .un _
 | _=>exact .un _
theorem Kp.ite {c:Prop} [Decidable c] {a b:Sem α} (h1:Kp e a) (h2:Kp e b):Kp e (if c then a else b):=by
 split
 ·exact h1
 ·exact h2
theorem Kp.flt (v:Value) (f:Option Addr):Kp e (setFlight v f):=by
 unfold setFlight;exact .bind (.fld v 1) fun tb=>.ite (.setF _ _ _ (by decide)) (.pure _)
theorem Kp.kept (env:Env) (b:Bool):∀ l,Kp e (keptBack env b l)
 | []=>by
  unfold keptBack underTheClaimsCaller;exact .ite (.pure _) (.bind (.bind .stk fun _=>.pure _) fun b=>by cases b <;> exact .pure _)
 | _ :: _=>.pure _
theorem Kp.ready:∀ l,Kp e (readyFrames l)
 | []=>.pure _
 | env :: outer=>by
  unfold readyFrames;split
  ·refine .bind (.ld _) fun o=>.ite (.pure _) (.bind ?_ fun b=>.bind (.kept _ _ _) fun v=>.bind (.upt _ _ fun o vs h1 h2=>⟨vs,h1,h2⟩) fun _=>Kp.ready outer);unfold behindIsImport;exact .ite (.pure _) (.ite (.pure _) (.bind (.fld _ _) fun _=>.pure _))
  ·exact .un _
theorem Kp.frm (env:Env):Kp e (PySem.frameOf env):=by
 unfold PySem.frameOf frameEnvs;refine .bind (.bind .stk fun _=>.pure _) fun l=>.bind ?_ fun r=>?_
 ·generalize l.dropWhile _=k;cases k with
  | nil=>exact .pure _
  | cons a b=>exact .bind (.ready _) fun _=>.pure _
 ·split
  ·exact .pure _
  ·exact .un _
theorem Kp.place (f:Addr) (b:Bool):Kp e (entryPlaceOf f b):=by
 unfold entryPlaceOf;refine .bind .stk fun l=>?_;split
 ·exact .pure _
 ·exact .pure _
theorem Kp.note (v:Value) (env:Env):Kp e (noteFrame v env):=by
 unfold noteFrame;split
 ·refine .bind (.fld v 1) fun hd=>?_;have rest:Kp e (do setField v 1 (← EntryCells.newEntry hd (← PySem.frameOf env) .none (rawInt ‹Addr›) .none (← entryPlaceOf ‹Addr› (hd != .none)))):=by
   refine .bind (.frm env) fun _=>.bind (.place _ _) fun _=>.bind ?_ fun _=>.setF _ _ _ (by decide);unfold EntryCells.newEntry newFields newObj;have z:∀ d,Kp e (newObjAsIs (.type "traceback") d):=fun d=>.bind (.alc _) fun _=>.pure _;exact .ite (.bind (.un _) fun _=>z _) (z _)
  exact .ite (.bind (.fld hd 3) fun _=>.ite (.pure _) (.bind (.setF _ _ _ (by decide)) fun _=>rest)) rest
 ·exact .un _
theorem zEt {M:Model}{A:Around}{E:Value→Shared→Prop}{s:Shared}{t:Sem α}{Q : α→Shared→Prop} (k:Kp e t) (h:P2 e s.heap) (w:wpAny M A t (fun a s'=>P2 e s'.heap→Q a s') E s):wpAny M A t Q E s:=fun Γ p hΓ =>
 Sem.wp_mono M Γ t (fun _ _ _ z=>z.1 z.2) (fun _ _ _ z=>z.1) p s (k M Γ _ _ p s h (w Γ p hΓ))
end
end L2
namespace L2.W
open PySem PySem.Spec PyProof.Rows
@[irreducible] noncomputable def PE (X:Cx) (e:Expr) (t:TE):Prop:=L2.PE X e t
theorem ePE : @L2.PE = @PE:=by unfold PE;rfl
@[irreducible] noncomputable def PT (X:Cx) (e:Expr) (t:TT):Prop:=L2.PT X e t
theorem ePT : @L2.PT = @PT:=by unfold PT;rfl
@[irreducible] noncomputable def PW (X:Cx) (e:Expr) (t:TT):Prop:=L2.PW X e t
theorem ePW : @L2.PW = @PW:=by unfold PW;rfl
@[irreducible] noncomputable def PA (X:Cx) (es:List Expr) (t:TA):Prop:=L2.PA X es t
theorem ePA : @L2.PA = @PA:=by unfold PA;rfl
@[irreducible] noncomputable def PS (X:Cx) (st:Stmt) (t:TS):Prop:=L2.PS X st t
theorem ePS : @L2.PS = @PS:=by unfold PS;rfl
@[irreducible] noncomputable def PSs (X:Cx) (st:List Stmt) (t:TS):Prop:=L2.PSs X st t
theorem ePSs : @L2.PSs = @PSs:=by unfold PSs;rfl
@[irreducible] noncomputable def PG (X:Cx) (g:Expr) (t:TG):Prop:=L2.PG X g t
theorem ePG : @L2.PG = @PG:=by unfold PG;rfl
@[irreducible] noncomputable def PGs (X:Cx) (ts:List Expr) (t:TGs):Prop:=L2.PGs X ts t
theorem ePGs : @L2.PGs = @PGs:=by unfold PGs;rfl
@[irreducible] noncomputable def PI (X:Cx) (tg iter:Expr) (wi:TI):Prop:=L2.PI X tg iter wi
theorem ePI : @L2.PI = @PI:=by unfold PI;rfl
@[irreducible] noncomputable def PFs (X:Cx) (ifs:List Expr) (t:TT):Prop:=L2.PFs X ifs t
theorem ePFs : @L2.PFs = @PFs:=by unfold PFs;rfl
noncomputable def zAj:=by have h:=@L2.zAj;rw [ePS,ePSs,ePT] at h;exact @h
noncomputable def zAe:=by have h:=@L2.zAe;rw [ePE] at h;exact @h
noncomputable def zAk:=by have h:=@L2.zAk;rw [ePE,ePT] at h;exact @h
noncomputable def zEp:=by have h:=@L2.zEp;rw [ePE,ePS,ePG] at h;exact @h
noncomputable def zB1:=by have h:=@L2.zB1;rw [ePE,ePA] at h;exact @h
noncomputable def zA9:=by have h:=@L2.zA9;rw [ePE,ePA] at h;exact @h
noncomputable def zAb:=by have h:=@L2.zAb;rw [ePE,ePS] at h;exact @h
noncomputable def fn_of:=by have h:=@L2.fn_of;rw [ePSs] at h;exact @h
noncomputable def zBj:=by have h:=@L2.zBj;rw [ePE,ePA] at h;exact @h
noncomputable def zAu:=by have h:=@L2.zAu;rw [ePE] at h;exact @h
noncomputable def pe_un:=by have h:=@L2.pe_un;rw [ePE] at h;exact @h
noncomputable def zE0:=by have h:=@L2.zE0;rw [ePE,ePA] at h;exact @h
noncomputable def zC4:=by have h:=@L2.zC4;rw [ePT,ePW] at h;exact @h
noncomputable def zC1:=by have h:=@L2.zC1;rw [ePE] at h;exact @h
noncomputable def zAt:=by have h:=@L2.zAt;rw [ePE] at h;exact @h
noncomputable def pv:=by have h:=@L2.pv;rw [ePE] at h;exact @h
noncomputable def zAp:=by have h:=@L2.zAp;rw [ePE,ePS] at h;exact @h
noncomputable def zA4:=by have h:=@L2.zA4;rw [ePS,ePSs] at h;exact @h
noncomputable def zBd:=by have h:=@L2.zBd;rw [ePE] at h;exact @h
noncomputable def zB2:=by have h:=@L2.zB2;rw [ePE] at h;exact @h
noncomputable def zDw:=by have h:=@L2.zDw;rw [ePGs] at h;exact @h
noncomputable def pg_tup:=by have h:=@L2.pg_tup;rw [ePG,ePGs] at h;exact @h
noncomputable def zA2:=by have h:=@L2.zA2;rw [ePS,ePSs] at h;exact @h
noncomputable def bin:=by have h:=@L2.bin;rw [ePE] at h;exact @h
noncomputable def zBe:=by have h:=@L2.zBe;rw [ePE,ePT] at h;exact @h
noncomputable def zCf:=by have h:=@L2.zCf;rw [ePE] at h;exact @h
noncomputable def zAc:=by have h:=@L2.zAc;rw [ePSs] at h;exact @h
noncomputable def zBc:=by have h:=@L2.zBc;rw [ePE] at h;exact @h
noncomputable def zBl:=by have h:=@L2.zBl;rw [ePG,ePGs] at h;exact @h
noncomputable def zEy:=by have h:=@L2.zEy;rw [ePS,ePSs,ePT] at h;exact @h
noncomputable def pe_var:=by have h:=@L2.pe_var;rw [ePE] at h;exact @h
noncomputable def zAf:=by have h:=@L2.zAf;rw [ePG] at h;exact @h
noncomputable def zEx:=by have h:=@L2.zEx;rw [ePE,ePT] at h;exact @h
noncomputable def zCb:=by have h:=@L2.zCb;rw [ePS,ePSs,ePG,ePI] at h;exact @h
noncomputable def zAh:=by have h:=@L2.zAh;rw [ePE,ePT] at h;exact @h
noncomputable def zA8:=by have h:=@L2.zA8;rw [ePE,ePA] at h;exact @h
noncomputable def zBx:=by have h:=@L2.zBx;rw [ePE] at h;exact @h
noncomputable def zE4:=by have h:=@L2.zE4;rw [ePE] at h;exact @h
noncomputable def zBo:=by have h:=@L2.zBo;rw [ePT,ePW] at h;exact @h
noncomputable def zBr:=by have h:=@L2.zBr;rw [ePE,ePA] at h;exact @h
noncomputable def zCe:=by have h:=@L2.zCe;rw [ePE] at h;exact @h
noncomputable def binT:=by have h:=@L2.binT;rw [ePE] at h;exact @h
noncomputable def zBk:=by have h:=@L2.zBk;rw [ePE] at h;exact @h
noncomputable def zAa:=by have h:=@L2.zAa;rw [ePSs] at h;exact @h
noncomputable def PW.pt:=by have h:=@L2.PW.pt;rw [ePT,ePW] at h;exact @h
noncomputable def zAl:=by have h:=@L2.zAl;rw [ePE,ePA] at h;exact @h
noncomputable def zCz:=by have h:=@L2.zCz;rw [ePT,ePW] at h;exact @h
noncomputable def zB8:=by have h:=@L2.zB8;rw [ePT] at h;exact @h
noncomputable def zCn:=by have h:=@L2.zCn;rw [ePE] at h;exact @h
noncomputable def zF4:=by have h:=@L2.zF4;rw [ePE] at h;exact @h
noncomputable def zA3:=by have h:=@L2.zA3;rw [ePA] at h;exact @h
noncomputable def zA7:=by have h:=@L2.zA7;rw [ePE] at h;exact @h
noncomputable def zAn:=by have h:=@L2.zAn;rw [ePE,ePI] at h;exact @h
noncomputable def PT.nox:=by have h:=@L2.PT.nox;rw [ePT] at h;exact @h
noncomputable def zAi:=by have h:=@L2.zAi;rw [ePE] at h;exact @h
noncomputable def zAd:=by have h:=@L2.zAd;rw [ePE,ePS] at h;exact @h
noncomputable def zBq:=by have h:=@L2.zBq;rw [ePE] at h;exact @h
noncomputable def zDh:=by have h:=@L2.zDh;rw [ePE] at h;exact @h
noncomputable def Fun.ok:=by have h:=@L2.Fun.ok;rw [ePSs] at h;exact @h
noncomputable def zAm:=by have h:=@L2.zAm;rw [ePT] at h;exact @h
noncomputable def pe_not:=by have h:=@L2.pe_not;rw [ePE] at h;exact @h
noncomputable def pg_sub:=by have h:=@L2.pg_sub;rw [ePE,ePG] at h;exact @h
noncomputable def zBp:=by have h:=@L2.zBp;rw [ePE] at h;exact @h
noncomputable def zB4:=by have h:=@L2.zB4;rw [ePE,ePA] at h;exact @h
noncomputable def PSs.nox:=by have h:=@L2.PSs.nox;rw [ePSs] at h;exact @h
noncomputable def pi_tup:=by have h:=@L2.pi_tup;rw [ePE,ePI] at h;exact @h
noncomputable def zA0:=by have h:=@L2.zA0;rw [ePE,ePA] at h;exact @h
noncomputable def zD0:=by have h:=@L2.zD0;rw [ePE,ePT] at h;exact @h
noncomputable def PE.nox:=by have h:=@L2.PE.nox;rw [ePE] at h;exact @h
noncomputable def zB6:=by have h:=@L2.zB6;rw [ePE,ePS] at h;exact @h
noncomputable def zCc:=by have h:=@L2.zCc;rw [ePT,ePW] at h;exact @h
noncomputable def zF2:=by have h:=@L2.zF2;rw [ePE] at h;exact @h
noncomputable def pc_din:=by have h:=@L2.pc_din;rw [ePE] at h;exact @h
noncomputable def zF3:=by have h:=@L2.zF3;rw [ePE] at h;exact @h
noncomputable def zBt:=by have h:=@L2.zBt;rw [ePE] at h;exact @h
noncomputable def zCm:=by have h:=@L2.zCm;rw [ePE] at h;exact @h
noncomputable def zD5:=by have h:=@L2.zD5;rw [ePE] at h;exact @h
noncomputable def zC7:=by have h:=@L2.zC7;rw [ePE] at h;exact @h
noncomputable def zC6:=by have h:=@L2.zC6;rw [ePE,ePS] at h;exact @h
noncomputable def zBu:=by have h:=@L2.zBu;rw [ePE] at h;exact @h
noncomputable def zDt:=by have h:=@L2.zDt;rw [ePE,ePG,ePFs] at h;exact @h
noncomputable def zC0:=by have h:=@L2.zC0;rw [ePE,ePS,ePG,ePI,ePFs] at h;exact @h
noncomputable def zAr:=by have h:=@L2.zAr;rw [ePE,ePG,ePI,ePFs] at h;exact @h
noncomputable def zDx:=by have h:=@L2.zDx;rw [ePT,ePFs] at h;exact @h
noncomputable def zB3:=by have h:=@L2.zB3;rw [ePFs] at h;exact @h
noncomputable def pi_str:=by have h:=@L2.pi_str;rw [ePE,ePI] at h;exact @h
noncomputable def Fun.okC:=by have h:=@L2.Fun.okC;rw [ePSs] at h;exact @h
noncomputable def zBy:=by have h:=@L2.zBy;rw [ePE] at h;exact @h
noncomputable def zDy:=by have h:=@L2.zDy;rw [ePE,ePA] at h;exact @h
noncomputable def zDv:=by have h:=@L2.zDv;rw [ePE,ePI] at h;exact @h
noncomputable def zD2:=by have h:=@L2.zD2;rw [ePE] at h;exact @h
noncomputable def pi_view:=by have h:=@L2.pi_view;rw [ePE,ePI] at h;exact @h
noncomputable def pi_enum:=by have h:=@L2.pi_enum;rw [ePA,ePI] at h;exact @h
noncomputable def FunL.okC:=by have h:=@L2.FunL.okC;rw [ePSs] at h;exact @h
noncomputable def zD3:=by have h:=@L2.zD3;rw [ePE] at h;exact @h
noncomputable def pe_odd:=by have h:=@L2.pe_odd;rw [ePE] at h;exact @h
noncomputable def zF1:=by have h:=@L2.zF1;rw [ePE] at h;exact @h
noncomputable def zDu:=by have h:=@L2.zDu;rw [ePE] at h;exact @h
end L2.W
namespace L2
open PySem PySem.Spec PyProof.Rows
noncomputable def XO (C a:Addr):HO:=.ext fun h=>∃ o vs,h.get? a=some o∧o.cls=.ref C∧o.data=.fields vs∧vs[2]? = some Value.none
section
variable {P:Program}{w:World}{H:Hp}{h:Heap}{a C:Addr}{o:HO}
theorem xo_ok {ob:Obj}{vs:Array Value} (e:h.get? a=some ob) (c:ob.cls=.ref C) (d:ob.data=.fields vs) (n:vs[2]? = some Value.none):ObjOk P w H h a (XO C a) :=
 ⟨⟨ob,vs,e,c,d,n⟩,⟨ob,e⟩,fun _ _ ⟨o,vs,e,c,d⟩ k=>⟨o,vs,k _ e,c,d⟩⟩
theorem xo_of (ok:HOk P w H h) (e:H a=some (XO C a)):∃ o vs,h.get? a=some o∧o.cls=.ref C∧o.data=.fields vs∧vs[2]? = some Value.none:=(show ObjOk P w H h a (XO C a) from ok a _ e).1
theorem xo_p2 (ok:HOk P w H h) (e:H a=some (XO C a)):P2 a h:=let ⟨o,vs,h1,_,h2⟩:=xo_of ok e;⟨o,vs,h1,h2⟩
theorem ObjOk.ex (x:ObjOk P w H h a o):∃ ob,h.get? a=some ob:=by
 cases o with
 | lst xs=>obtain ⟨_,_,_,_,e⟩:=x;exact ⟨_,e⟩
 | tup xs=>obtain ⟨_,_,_,ob,e,_⟩:=x;exact ⟨_,e⟩
 | dK kvs=>obtain ⟨_,_,_,_,o,_,_,e,_⟩:=x;exact ⟨_,e⟩
 | dT kvs=>obtain ⟨_,_,_,_,o,_,_,e,_⟩:=x;exact ⟨_,e⟩
 | set S n=>obtain ⟨o,_,_,_,e,_⟩:=x;exact ⟨_,e⟩
 | ins C dx fs=>obtain ⟨_,_,_,e,_⟩:=x;exact ⟨_,e⟩
 | own y=>exact x
 | xd fs=>obtain ⟨_,⟨_,_,_,e,_⟩,_⟩:=x;exact ⟨_,e⟩
 | rng lo hi=>obtain ⟨_,_,_,e⟩:=x;exact ⟨_,e⟩
 | frz ob u=>exact ⟨_,x.1⟩
 | tbl ps=>exact ⟨_,x⟩
 | met f y=>exact ⟨_,x⟩
 | ext φ=>exact x.2.1
end
noncomputable def Tr (G:Addr→Prop) (H:Hp) (h:Heap) (e:Addr):Prop:=∃ o vs a0 T oT ts,h.get? e=some o∧o.data=.fields vs∧vs[0]? = some a0∧vs[1]? = some (.ref T)∧G T∧H T=none∧h.get? T=some oT∧oT.data=.fields ts∧ts[3]? = some .none
noncomputable def CXM (P:Program) (w:World):CXT:=fun outer H s E u s'=>∃ e C H',u=.ref e∧s'.os=s.os∧AllBare s'.gens∧Un (frs outer) [] H H' s.heap s'.heap∧HOk P w H' s'.heap∧H' e=some (XO C e)∧Tr (fun T=>s.heap.get? T=none) H' s'.heap e∧E (.ref C) (some e) H'
theorem calmM {P:Program}{w:World}:Calm (CXM P w):=fun _ _ _ _ _ ⟨_,_,_,_,_,_,_,_,_,_,q⟩=>q
structure Mvd (l:List Env) (e T0:Addr) (cls a0 fl:Value) (h h':Heap):Prop where
 keep:∀ b o,h.get? b=some o→b≠e→b≠T0→b∉frs l→h'.get? b=some o
 slot:∀ b o,h.get? b=some o→b∈frs l→∃ sl,h'.get? b=some { o with slots:=sl }
 tr:∃ oe vs T oT ts,h'.get? e=some oe∧oe.cls=cls∧vs[0]? = some a0∧oe.data=.fields vs∧vs[1]? = some (.ref T)∧(T=T0∨h.get? T=none)∧T≠e∧h'.get? T=some oT∧oT.data=.fields ts∧ts[3]? = some fl
 p2:P2 e h'
noncomputable abbrev bas (h:Heap) (l:List Env) (e T0:Addr):Heap:=PySem.W.hideAll h (e :: T0 :: frs l)
section
variable {base h h':Heap}{l:List Env}{e T0:Addr}{cls a0 fl:Value}
theorem moved (hl:h.FunFrames base l) (st:(bas h l e T0).StaysIn h') (ff:h'.FunFrames (bas h l e T0) l) (tr:h'.TracedAtW (bas h l e T0) e cls a0 fl) (up:h.UpToSlots h') (p2:P2 e h'):Mvd l e T0 cls a0 fl h h':=by
 refine ⟨fun b o q n1 n2 n3=>st b o (PySem.W.hideAll_get _ q ?_),fun b o q hb=>?_,?_,p2⟩
 ·intro z;rcases List.mem_cons.mp z with z | z
  ·exact n1 z
  ·rcases List.mem_cons.mp z with z | z
   ·exact n2 z
   ·exact n3 z
 ·obtain ⟨_,o',ho,hn⟩:=hl.mem hb;rw [q] at ho;cases ho;exact up b o q hn
 ·obtain ⟨oe,vs,T,oT,ts,he,⟨hc,h0⟩,hd,h1,hn,hne,hT,hdT,h3⟩:=tr;refine ⟨oe,vs,T,oT,ts,he,hc,h0,hd,h1,?_,hne,hT,hdT,h3⟩;cases q:h.get? T with
  | none=>exact .inr rfl
  | some o =>
   refine .inl (Classical.byContradiction fun nT=>?_);have:(bas h l e T0).get? T=some o:=PySem.W.hideAll_get _ q fun z=>by
    rcases List.mem_cons.mp z with z | z
    ·exact hne z
    ·rcases List.mem_cons.mp z with z | z
     ·exact nT z
     ·obtain ⟨_,o',ho,hnf⟩:=ff.mem z;rw [hT] at ho;cases ho;exact hnf _ hdT
   rw [hn] at this;cases this
theorem fly_of (hl:h.FunFrames base l) {oe oT:Obj}{vs ts:Array Value} (he:h.get? e=some oe) (hd:oe.data=.fields vs) (h0:vs[0]? = some a0) (h1:vs[1]? = some (.ref T0)) (hne:T0≠e) (hT:h.get? T0=some oT) (hdT:oT.data=.fields ts) (h3:ts[3]? = some .none) :
  Heap.FlyingW (bas h l e T0) l e oe.cls a0 h :=
 ⟨fun b o q=>PySem.W.of_hideAll _ q,PySem.W.hideAll_none _ (.head _),PySem.W.funFrames_hide hl fun env he a ea=>.tail _ (.tail _ (List.mem_filterMap.mpr ⟨env,he,ea⟩)),oe,vs,T0,oT,ts,he,⟨rfl,h0⟩,hd,h1,PySem.W.hideAll_none _ (.tail _ (.head _)),hne,hT,hdT,h3⟩
end
section
variable {X:Cx}{pins:List (Addr×Obj)}{σ : St}{H:Hp}{s:Shared}{e C T0:Addr}{h':Heap}{cls a0 fl:Value}
theorem Mvd.ex (m:Mvd X.stack e T0 cls a0 fl s.heap h') (b:Addr) (o:Obj) (q:s.heap.get? b=some o) (h2:b≠T0):∃ o',h'.get? b=some o':=by
 obtain ⟨oe,_,_,_,_,he,_⟩:=m.tr;by_cases h1:b=e
 ·rw [h1];exact ⟨oe,he⟩
 ·by_cases h3:b∈frs X.stack
  ·obtain ⟨sl,z⟩:=m.slot b o q h3;exact ⟨_,z⟩
  ·exact ⟨o,m.keep b o q h1 h2 h3⟩
theorem Mvd.hok (m:Mvd X.stack e T0 (.ref C) a0 fl s.heap h') (I:Inv X pins σ H s) (he:H e=some (XO C e)) (hT:T0=e∨H T0=none):HOk X.prog X.w H h':=fun b u eb=>by
 by_cases h1:b=e
 ·subst h1;rw [he] at eb;cases eb;obtain ⟨oe,vs,_,_,_,h2,h3,_,h4,_⟩:=m.tr;obtain ⟨o',vs',h5,h6,h7⟩:=m.p2;rw [h2] at h5;cases h5;exact xo_ok h2 h3 h6 h7
 ·refine (I.hok b u eb).stay (fun c v hc q=>m.keep c v q ?_ ?_ ?_) (fun _ q=>q) fun _ _ q=>q
  ·rintro rfl;rcases hc with z | z
   ·exact h1 z.symm
   ·rw [he] at z;cases z
  ·rintro rfl;rcases hT with z | z
   ·subst z;rcases hc with z | z
    ·exact h1 z.symm
    ·rw [he] at z;cases z
   ·rcases hc with y | y
    ·rw [← y,z] at eb;cases eb
    ·rw [z] at y;cases y
  ·intro z;have:=I.stkFree c z;rcases hc with y | y
   ·rw [← y,this] at eb;cases eb
   ·rw [this] at y;cases y
theorem Inv.moved {t':Nat} (I:Inv X pins σ H s) (he:H e=some (XO C e)) (hT:H T0=none) (h0:X.s₀.heap.get? T0=none) (hp:∀ p∈X.pn++pins,p.1≠T0) {oT:Obj}{ts:Array Value} (eT:s.heap.get? T0=some oT) (dT:oT.data=.fields ts)
  (m:Mvd X.stack e T0 (.ref C) a0 fl s.heap h'):Inv X pins σ H { s with heap:=h',toks:=t' }:=by
 have nL:T0≠X.env.locals:=by
  rintro rfl;obtain ⟨_,⟨o,es,ep,ho,hd,_⟩,_⟩:=I.loc;rw [ho] at eT;cases eT;rw [hd] at dT;cases dT
 have nC:∀ x c,X.env.cells.lookup x=some c→c≠T0:=by
  rintro x c hc rfl;obtain ⟨v,o,ho,hd⟩:=I.cell x c hc;rw [ho] at eT;cases eT;rw [hd] at dT;cases dT
 have neS:∀ b,H b=none→b≠e:=fun b n z=>by rw [z,he] at n;cases n
 have sub:∀ b,b∈X.fs→b∈frs X.stack:=fun b hb=>by
  rcases I.ok.stk with z | ⟨z,hf⟩
  ·rw [z];exact hb
  ·rw [z];unfold frs;rw [Y1,hf];exact Zb _ hb
 refine I.step (g':=s.gens) (d':=s.drawn) (ch:=[T0]) (fun b hb=>?_) (fun b o n1 n2 n3 q n=>m.keep b o q (neS b n) (fun z=>n3 (by simp [z])) fun z=>(List.mem_cons.mp (I.stkSub b z)).elim n1 n2)
  (fun b o n1 n2 n3 q n=>m.slot b o q (sub b n2)) (fun b o _ _ n=>n) (fun b o n q=>m.ex b o q fun z=>n (by simp [z])) (fun _ _ q=>q) (fun _ _ _ q=>q) (fun b ps q=>⟨#[],by rw [q];simp⟩) (fun mm hm=>?_) (m.hok I he (.inr hT)) I.bare
 ·have:b=T0:=by simpa using hb
  subst this;exact ⟨.inr h0,nL,nC,hp⟩
 ·obtain ⟨o,es,ep,ho,hd,r⟩:=hm;by_cases z:X.env.locals∈frs X.stack
  ·obtain ⟨sl,q⟩:=m.slot _ _ ho z;exact ⟨_,es,ep,q,hd,r⟩
  ·exact ⟨o,es,ep,m.keep _ _ ho (neS _ I.free) (Ne.symm nL) z,hd,r⟩
end
end L2
namespace L2
open PySem PySem.Spec PyProof.Rows
section
variable {X:Cx}{pins:List (Addr×Obj)}{σ : St}{H H':Hp}{s:Shared}{e C:Addr}{h h':Heap}{o:HO}
end
section
variable {P:Program}{w:World}{K:PySem.W.Frag}{mg:Str→Option Value}{base:Heap}{N:List Str}{qual:Str}{scope:Scope}{f:Addr}{cd:Value}{A:Around}{outer:List Env}{s:Shared}{H:Hp}{E:XK}
end
section
variable {X:Cx}{x:Str}{np cpos pos:Pos}{a:Expr}{as:List Expr}{t:TA}{C:Addr}{W:St→Addr→Hp→Prop}
end
end L2
namespace L2
open PySem PySem.Spec PyProof.Rows
noncomputable abbrev TW:=St→Addr→Addr→Hp→Prop
noncomputable def Cx.tri (X:Cx) (pins:List (Addr×Obj)) (W:TW):Cx:={ X with
 pn:=X.pn++pins
 xe:=fun u s'=>∃ e C σ' H',u=.ref e∧Inv X pins σ' H' s'∧H' e=some (XO C e)∧Tr (fun T=>X.s₀.heap.get? T=none∧∀ p∈X.pn++pins,p.1≠T) H' s'.heap e∧W σ' e C H' }
noncomputable def Cx.hnd (X:Cx) (e:Addr):Cx:={ X with
 A:=X.A.mark (some (.ref e))
 calm:=false
 xe:=fun _ _=>False }
section
variable {X:Cx}{pins pins':List (Addr×Obj)}{σ : St}{H:Hp}{s:Shared}{W:TW}{e:Addr}
theorem Cx.Ok.tri (ok:X.Ok):(X.tri pins W).Ok:=⟨ok.mod,ok.kind,ok.glob,ok.blt,ok.above,ok.inj,ok.has,ok.cab,ok.hd,ok.frames,ok.stk,ok.exf,ok.bs,ok.bsz,ok.noex,ok.exfs,ok.funs,ok.frf⟩
theorem Cx.Ok.untri (ok:(X.tri pins W).Ok):X.Ok:=⟨ok.mod,ok.kind,ok.glob,ok.blt,ok.above,ok.inj,ok.has,ok.cab,ok.hd,ok.frames,ok.stk,ok.exf,ok.bs,ok.bsz,ok.noex,ok.exfs,ok.funs,ok.frf⟩
theorem Cx.Ok.hnd (ok:X.Ok):(X.hnd e).Ok:=⟨ok.mod,ok.kind,ok.glob,ok.blt,ok.above,ok.inj,ok.has,ok.cab,(fun z=>Bool.noConfusion (show false=true from z)),ok.frames,ok.stk,ok.exf,ok.bs,ok.bsz,ok.noex,ok.exfs,ok.funs,ok.frf⟩
theorem Inv.tri (I:Inv X pins σ H s):Inv (X.tri pins W) [] σ H s:=⟨I.ok.tri,I.os,I.bare,I.base,I.loc,I.cell,I.free,I.freeC,fun p hp=>I.pin p (by simpa [Cx.tri] using hp),I.hok,I.len⟩
theorem Inv.untri (I:Inv (X.tri pins W) pins' σ H s):Inv X pins σ H s:=⟨I.ok.untri,I.os,I.bare,I.base,I.loc,I.cell,I.free,I.freeC,fun p hp=>I.pin p (Yb _ hp),I.hok,I.len⟩
theorem Inv.hnd (I:Inv X pins σ H s):Inv (X.hnd e) pins σ H s:=⟨I.ok.hnd,I.os,I.bare,I.base,I.loc,I.cell,I.free,I.freeC,I.pin,I.hok,I.len⟩
theorem Inv.unhnd (ok:X.Ok) (I:Inv (X.hnd e) pins σ H s):Inv X pins σ H s:=⟨ok,I.os,I.bare,I.base,I.loc,I.cell,I.free,I.freeC,I.pin,I.hok,I.len⟩
theorem SP.untri {D:Ends}{f:Flow}{s':Shared} (h:SP (X.tri pins W) pins' D f s'):SP X pins D f s':=by
 cases f with
 | next=>obtain ⟨σ',H',I,q⟩:=h;exact ⟨σ',H',I.untri,q⟩
 | brk=>obtain ⟨σ',H',I,q⟩:=h;exact ⟨σ',H',I.untri,q⟩
 | cont=>obtain ⟨σ',H',I,q⟩:=h;exact ⟨σ',H',I.untri,q⟩
 | ret u=>obtain ⟨v,σ',H',I,r,q⟩:=h;exact ⟨v,σ',H',I.untri,r,q⟩
end
noncomputable def Ends.but (D:Ends) (i:Nat):Ends:={ nx:=fun σ H=>D.nx (σ.set i none) H,rt:=D.rt,bk:=fun σ H=>D.bk (σ.set i none) H,ct:=fun σ H=>D.ct (σ.set i none) H }
section
variable {X:Cx}{x n:Str}{np hpos pos:Pos}{body suite:List Stmt}{b₀ : Stmt}{i:Nat}{B:Addr}{tb:TW→TS}{th:Addr→TS}
end
end L2
namespace L2
open PySem PySem.Spec PyProof.Rows PySem.W
section
variable {prog:Program}{w:World}{A:Around}{E:Value→Shared→Prop}{h:Heap}{g:Array GenState}{d:Drawn}{t:Nat}{os:OsState}{a:Addr}{o:Obj}
 {nm q:Str}{C N:Addr}{bs bm:List Value}{hdct:Bool}{sn:List Str}{sub:List Value}{ab:Bool}{col:Option Bool}{dd:Option Addr}{k0 k1 k2 k3 k5:Option Value}{newId:String}
end
section
variable {prog:Program}{w:World}{A:Around}{E:Value→Shared→Prop}{s:Shared}{K:Frag}{x C D:Addr}{ox:Obj}
end
section
variable {X:Cx}
end
end L2
namespace L2
open PySem PySem.Spec PyProof.Rows
namespace W
end W
end L2
namespace L2
open PySem PySem.Spec PyProof.Rows
section
variable {X:Cx}{pins:List (Addr×Obj)}{σ : St}{H:Hp}{s:Shared}{N':List Str}{is:List Nat}{st:Stmt}{t:TS}
end
theorem FnOk.calm {P:Program}{w:World}{K:PySem.W.Frag}{mg:Str→Option Value}{base:Heap}{CX:CXT}{k:Nat}{f:Addr}{fd:FuncData}{ps:List Str}{sp:Sp} (hC:Calm CX) (F:FnOk P w K mg base CX k f fd ps sp):FnOk P w K mg base CX0 k f fd ps (fun vs H Q E=>sp vs H Q fun _ _ _=>False) :=
 ⟨fun vs H Q E h=>F.len vs H Q _ h,fun A outer s H args us vs Q E hr he hb hv h=>by
  have:=F.run A outer s H args us vs Q (fun _ _ _=>False) hr he hb hv h;refine codeAny_mono this fun r s' h'=>?_;cases r with
  | ok c =>
   cases c with
   | ret u=>exact h'
   | _=>exact h'
  | error e=>exact hC _ _ _ _ _ h'⟩
namespace W
end W
end L2
namespace L2
open PySem PySem.Spec PyProof.Rows
structure TabM (H:Hp) (P:Addr) (q:Str):Prop where
 ex:∃ ps:Array Value,H P=some (.tbl ps)∧TriplesOk ps.toList∧∀ (pos:Pos) (v:Value),codeAmong pos ps.toList=some v→∃ a,v=.ref a∧H a=some (CodeO a q)
theorem TabM.ne {H:Hp}{P:Addr}{q:Str} (T:TabM H P q) {a:Addr}{o:HO} (e:H a=some o) (h:∀ ps,o≠.tbl ps):a≠P:=by
 rintro rfl;obtain ⟨ps,z,_⟩:=T.ex;rw [e] at z;exact h _ (Zh z)
theorem TabM.but {H H':Hp}{P P':Addr}{q:Str} (T:TabM H P q) (hn:P≠P') (h':∃ ps,H P'=some (.tbl ps)) (k:GrownBut P' H H'):TabM H' P q:=by
 obtain ⟨ps,z,t,c⟩:=T.ex;refine ⟨ps,k _ _ z hn,t,fun pos v e=>?_⟩;obtain ⟨a,e1,e2⟩:=c pos v e;refine ⟨a,e1,k _ _ e2 ?_⟩;rintro rfl;obtain ⟨ps',h'⟩:=h';rw [e2] at h';cases h'
theorem TabM.upd {H:Hp}{P:Addr}{q:Str}{p:Addr}{u o:HO} (T:TabM H P q) (hp:H p=some u) (h1:∀ ps,u≠.tbl ps) (h2:∀ f,u≠.ext f):TabM (L2.upd H p o) P q:=by
 have n1:=T.ne hp h1;obtain ⟨ps,z,t,c⟩:=T.ex;refine ⟨ps,by rw [zA6 (Ne.symm n1)];exact z,t,fun pos v e=>?_⟩;obtain ⟨a,e1,e2⟩:=c pos v e;refine ⟨a,e1,?_⟩;rw [zA6 ?_]
 ·exact e2
 ·rintro rfl;rw [hp] at e2;exact h2 _ (Zh e2)
section
variable {f c':Addr}{q:Str}{params:Arguments}{body:Expr}{scope:Scope}{cl:List (Str×Addr)}{N:List Str}{ws:List V}{h h':Heap}{H:Hp}
end
section
variable {CX:CXT}{P:Program}{w:World}{K:PySem.W.Frag}{mg:Str→Option Value}{base:Heap}{k:Nat}{f c':Addr}{q:Str}{params:Arguments}{body:Expr}{scope:Scope}{cl:List (Str×Addr)}{N:List Str}{ws:List V}
end
section
variable {X:Cx}{CX:CXT}{k:Nat}{f c':Addr}{q x:Str}{params:Arguments}{body:Expr}{scope:Scope}{cl:List (Str×Addr)}{N:List Str}{ws:List V}{sp:Hp→VK→XK→Prop}{E:St→XK}{i:Nat}{p pos:Pos}
end
section
variable {X:Cx}{pins:List (Addr×Obj)}{σ : St}{H:Hp}{s:Shared}{A:Around}{E:Value→Shared→Prop}
end
section
variable {X:Cx}{CX:CXT}{k:Nat}{fw c P:Addr}{fd:FuncData}{q x y:Str}{params:Arguments}{body:Expr}{scope:Scope}{N:List Str}{ix:List Nat}{sp:Addr→Addr→List (Str×Addr)→List V→Sp}{E:St→XK}{p lpos pos:Pos}
end
namespace W
end W
end L2
namespace PySem.SeqAt
open AutoSeq1 (wpAny_loadPart')
open MeetsSeq
section
variable {A:Around}{s:Shared}
end
end PySem.SeqAt
namespace L2
open PySem PySem.Spec PyProof.Rows
section
variable {X:Cx}{pins:List (Addr×Obj)}{σ : St}{H:Hp}{s:Shared}
end
end L2
namespace L2
open PySem PySem.Spec PyProof.Rows
noncomputable def OnlyTs (ts:List Addr) (H:Hp):Prop:=(∀ T∈ts,H T=some (.tbl #[]))∧∀ b,b∉ts→H b=none∨∃ o xs,H b=some (.frz o (.lst xs))
theorem law_callTs {P:Program}{w:World}{K:PySem.W.Frag}{mg mb:Str→Option Value}{CX:CXT}{k:Nat}{fa a:Addr}{ts:List Addr}{fd:FuncData}{x:Str}{sp:Sp}{s₁ : Shared}{vs:List Value}{ns:List Int}
  (KX:K.In s₁.heap) (hns:s₁.heap.Ns mainGlobals mg) (hb:s₁.heap.Ns builtinsNs mb) (hbb:∀ x:Str,x≠"__name__"→mb x=bootBuiltins x) (hlim:s₁.heap.NoLimit) (hg:s₁.gens = #[]) (hBl:BltAt mg s₁.heap) (hT:∀ T∈ts,s₁.heap.get? T=some (PySem.W.tabObj #[])) (hKT:∀ T∈ts,K.lookup T=none) (hCd:∀ T∈ts,∃ c,PySem.W.codeHdIn K c T=true)
  (ha:s₁.heap.get? a=some { cls:=.type "list",data:=.seq vs.toArray }) (hi:IntsAre vs ns) (hl:ns.length≤sizeLine) (hr:Room k callerA)
  (F:∀ base:Heap,K.In base→base.Ns mainGlobals mg→BltAt mg base→FnOk P w K mg base CX k fa fd [x] sp) (hbind:∀ (s:Shared) (u:Value),BindsTo s fd ⟨[u],[]⟩ [(x,u)])
  (hsp:∀ H:Hp,OnlyTs ts H→SqL K H a (ns.map V.int)→sp [.ref a] H (fun v _=>v=.bl true) fun _ _ _=>False)
  (hCX:∀ H e s',CX [] H s₁ (fun _ _ _=>False) e s'→False) :
  codeAny (model P w) callerA (.call (.ref fa) ⟨[.ref a],[]⟩) (fun r s'=>r=.ok (.ret (.bool true))∧OldK s₁.heap s'.heap∧s'.os=s₁.os∧AllBare s'.gens) s₁:=by
 have rv:=vals_ints hi;have lenV:=hi.length;have aT:a∉ts:=fun h=>by
  have:=hT a h;rw [ha] at this;cases this
 have core:∀ H:Hp,OnlyTs ts H→SqL K H a (ns.map V.int)→HOk P w H s₁.heap→(∀ b,H b≠none→b=a∨b∈ts)→(H a≠none→K.lookup a=none) →
   codeAny (model P w) callerA (.call (.ref fa) ⟨[.ref a],[]⟩) (fun r s'=>r=.ok (.ret (.bool true))∧OldK s₁.heap s'.heap∧s'.os=s₁.os∧AllBare s'.gens) s₁:=by
  intro H hO hS hok hA hK;have base_of:∀ {b:Addr}{o:Obj},s₁.heap.get? b=some o→H b=none→(hidT s₁.heap H).get? b=some o:=fun e n=>hidT_get e n;have noA:∀ {b:Addr}{o:Obj}{es:Array DictEntry}{ep:Nat},s₁.heap.get? b=some o→o.data=.dict es ep→H b=none:=fun {b o es ep} e d=>by
   cases q:H b with
   | none=>rfl
   | some u =>
    rcases hA b (by rw [q];simp) with e' | e'
    ·subst e';rw [ha] at e;cases e;have d':Data.seq vs.toArray _=Data.dict es ep:=d;cases d'
    ·rw [hT b e'] at e;cases e;cases d
  have nsK:∀ {b:Addr}{m:Str→Option Value},s₁.heap.Ns b m→(hidT s₁.heap H).Ns b m:=fun {b m} ⟨o,es,ep,e,d,r⟩=>⟨o,es,ep,base_of e (noA e d),d,r⟩
  have hKb:K.In (hidT s₁.heap H):=fun b o e=>base_of (KX b o e) (by
   cases q:H b with
   | none=>rfl
   | some u =>
    rcases hA b (by rw [q];simp) with e' | e'
    ·subst e';rw [hK (by rw [q];simp)] at e;cases e
    ·rw [hKT b e'] at e;cases e)
  have hBl2:BltAt mg (hidT s₁.heap H):=by
   obtain ⟨bm,ob,e1,e2,e3,e4,e5,e6,e7⟩:=hBl;refine ⟨bm,ob,e1,e2,e3,base_of e4 ?_,e5,e6,e7⟩;cases q:H bm with
   | none=>rfl
   | some u =>
    rcases hA bm (by rw [q];simp) with e' | e'
    ·subst e';rw [ha] at e4;cases e4;exact absurd (show Value.type "list" = Value.type "module" from e5) (by decide)
    ·rw [hT bm e'] at e4;cases e4;exact absurd (show Value.none=Value.type "module" from e5) (by decide)
  have hM:Mod K mg (hidT s₁.heap H):=⟨hKb,nsK hns,⟨mb,nsK hb,hbb⟩,let ⟨mc,h1,h2⟩:=hlim;⟨mc,nsK h1,h2⟩⟩;have e0:Env0 P w K mg (hidT s₁.heap H) callerA [] s₁ H:=⟨rfl,hM,fun b o e=>of_hidT e,Nat.le_of_eq (hidT_size _ _),trivial,fun b hb=>absurd (show b∈([]:List Addr) from hb) (by simp),hok,.of_eq hg⟩;refine codeAny_mono ((F _ hKb (nsK hns) hBl2).run callerA [] s₁ H ⟨[.ref a],[]⟩ [.ref a] [.ref a] _ _ hr e0 (hbind s₁ (.ref a)) (.cons rfl .nil) (hsp H hO hS)) fun r s' h=>?_;cases r with
  | error e=>exact (hCX H e s' h).elim
  | ok fl =>
   cases fl with
   | next=>exact False.elim h
   | brk=>exact False.elim h
   | cont=>exact False.elim h
   | ret u =>
    obtain ⟨v,H',os,bare,un,hok',r',q⟩:=h;have q':v=.bl true:=q;subst q';obtain rfl:u=Value.bool true:=r';have keep:∀ b o,b∉ts→s₁.heap.get? b=some o→s'.heap.get? b=some o:=fun b o nb e=>by
     cases q:H b with
     | none=>exact un.keep b o e q (by intro z;exact absurd (show b∈([]:List Addr) from z) (by simp)) (by simp)
     | some u =>
      rcases hO.2 b nb with z | ⟨ob,xs,z⟩
      ·rw [q] at z;cases z
      ·have z2:=un.frzs b ob _ z;obtain ⟨e1,_⟩:=hok b _ z;obtain ⟨e2,_⟩:=hok' b _ z2;rw [e] at e1;cases e1;exact e2
    have gT:∀ T∈ts,∃ more,s'.heap.get? T=some { cls:=.none,data:=.fields (#[]++more) }:=fun T hm=>by
     obtain ⟨more,eT⟩:=un.tbls T _ (hO.1 T hm);exact ⟨more,hok' T _ eT⟩
    refine ⟨rfl,⟨fun b o e=>?_,fun b o e=>?_⟩,os,bare⟩
    ·by_cases nb:b∈ts
     ·obtain ⟨more,g⟩:=gT b nb;rw [hT b nb] at e;cases e;obtain ⟨c,hc⟩:=hCd b nb;obtain ⟨oc,vsc,_,_,_,_,_,_,_,g1,g2,g3,g4,_⟩:=PySem.W.codeHd_of_K KX hc;exact .inr (.inl ⟨⟨c,oc,vsc,g1,g2,g3,g4⟩,rfl,#[],more,rfl,g⟩)
     ·exact .inl (keep b o nb e)
    ·by_cases nb:b∈ts
     ·obtain ⟨more,g⟩:=gT b nb;exact ⟨_,g⟩
     ·exact ⟨o,keep b o nb e⟩
 cases hk:K.lookup a with
 | some o =>
  have e:=KX a o hk;rw [ha] at e;cases e;refine core (fun b=>if b∈ts then some (.tbl #[]) else none) ⟨fun T hm=>if_pos hm,fun b nb=>.inl (if_neg nb)⟩ (.inr ⟨_,vs.toArray,_,hk,rfl,rfl,rfl,by rw [Z3,lenV];exact hl,by simpa using rv⟩) (fun b u z=>?_) (fun b z=>?_) fun z=>absurd (if_neg aT) z
  ·by_cases nb:b∈ts
   ·have z':=(if_pos nb).symm.trans z;cases z';exact hT b nb
   ·have z':=(if_neg nb).symm.trans z;cases z'
  ·by_cases nb:b∈ts
   ·exact .inr nb
   ·exact absurd (if_neg nb) z
 | none =>
  refine core (fun b=>if b∈ts then some (.tbl #[]) else if b=a then some (.frz { cls:=.type "list",data:=.seq vs.toArray } (.lst (ns.map V.int))) else none) ⟨fun T hm=>if_pos hm,fun b nb=>?_⟩ (.inl (.inr ⟨{ cls:=.type "list",data:=.seq vs.toArray },?_⟩)) (fun b u z=>?_) (fun b z=>?_) fun _=>hk
  ·by_cases hb:b=a
   ·exact .inr ⟨_,_,(if_neg nb).trans (if_pos hb)⟩
   ·exact .inl ((if_neg nb).trans (if_neg hb))
  ·exact (if_neg aT).trans (if_pos rfl)
  ·by_cases nb:b∈ts
   ·have z':=(if_pos nb).symm.trans z;cases z';exact hT b nb
   ·have z':=(if_neg nb).symm.trans z;by_cases hb:b=a
    ·have z2:=(if_pos hb).symm.trans z';cases z2;subst hb;exact ⟨ha,by rw [Z1];exact hl,vs,_,rv,ha⟩
    ·have z2:=(if_neg hb).symm.trans z';cases z2
  ·by_cases nb:b∈ts
   ·exact .inr nb
   ·by_cases hb:b=a
    ·exact .inl hb
    ·exact absurd ((if_neg nb).trans (if_neg hb)) z
end L2
namespace L2
open PySem PySem.Spec PyProof.Rows
theorem zCs (is:List Int):∀ n,n≤is.length→preSum (fun i=>is.getD i 0) n=(is.take n).sum
 | 0,_=>rfl
 | n + 1,h=>by
  show preSum (fun i=>is.getD i 0) n + is.getD n 0=_;have e:is[n]? = some is[n]:=Z4 (by omega);have e2:is.getD n 0=is[n]:=by rw [List.getD_eq_getElem?_getD,e];rfl
  rw [zCs is n (by omega),e2,Zk,e,Option.toList_some,List.sum_append,List.sum_cons,List.sum_nil,Int.add_zero]
section
variable {X:Cx}
theorem mt_lindex {K:PySem.W.Frag} (hK:X.K=K):MtR X "list.index" (fun x xs H Q=>∃ (l:Addr) (ks:List Str) (n:Str) (j:Nat),x=.ref l∧xs=[.str n]∧SqL K H l (ks.map V.str)∧ks[j]? = some n∧(∀ m,m < j→ks[m]?≠some n)∧Q (.int (j:Nat)) H):=by
 subst hK;intro pins s σ H x xs v us Q I rx rv h;obtain ⟨l,ks,n,j,rfl,rfl,hl,hj,hno,q⟩:=h;cases (show v=Value.ref l from rx);obtain ⟨u,rfl,ru⟩:=v1 rv;obtain ⟨its,r,pl,hz⟩:=I.list hl;obtain ⟨⟨cls,dd,data,sl⟩,ho,hc,n',hd⟩:=pl.isList;simp only at hc hd;subst hc hd;have jl:j < ks.length:=(List.getElem?_eq_some_iff.mp hj).1;have ln:=r.length;rw [Z1] at ln hz;have fs:(ks.map V.str).all flatV=true:=by
  rw [List.all_eq_true];intro x hx;obtain ⟨k,_,rfl⟩:=List.mem_map.mp hx;rfl
 have at_:∀ (i:Nat) (hi:i < its.toArray.size) (k:Str),ks[i]? = some k→eqU (.str n) its.toArray[i]=eqV (.str k) (.str n):=fun i hi k e=>by
  obtain ⟨w',hw,rw'⟩:=r.get (i:=i) (x:=.str k) (by rw [Zf,e];rfl);have:its.toArray[i]=w':=by
   have h1:its[i]? = some its.toArray[i]:=by simp
   rw [hw] at h1;exact (Zh h1).symm
  rw [this];exact eqU_of rw' rfl
 have szl:(sizeLine:Nat)=16777216:=sizeLine_eq;refine call_meets PySem.F.slot_list_index ⟨_,ho,rfl⟩ PySem.F.entry_list_index (PySem.F.args_list_index_2 _ _) (SeqAt.list_indexAt l its.toArray n' dd sl u (eqU (.str n)) j (by simp;omega) (by omega) ?_ ?_) ⟨ho,fun y hy=>zCo ru rfl r fs y (by simpa using hy),?_⟩
 ·rw [at_ j (by simp;omega) n hj];simp [eqV]
 ·intro m hm lt;obtain ⟨k,hk⟩:∃ k,ks[m]? = some k:=⟨_,Z4 (by omega)⟩;rw [at_ m hm k hk];have:k≠n:=fun e=>hno m lt (by rw [hk,e]);simp [eqV,this]
 ·exact ⟨.int j,H,I.tok _,⟨_,rfl⟩,q⟩
theorem zFd {K:PySem.W.Frag} (hK:X.K=K):CallR X (.builtin "sum") (fun vs H Q=>∃ (l:Addr) (is:List Int),vs=[.ref l]∧SqL K H l (is.map V.int)∧X.calm=true∧Q (.int is.sum) H):=by
 subst hK;intro pins s σ H vs us Q I rv h;obtain ⟨l,is,rfl,hl,hc,q⟩:=h;obtain ⟨u,rfl,ru⟩:=v1 rv;cases (show u=Value.ref l from ru);obtain ⟨its,r,pl,hz⟩:=I.list hl;have ln:=r.length;rw [Z1] at ln;refine call_sum_walkG (wpAny_pyIter_list pl.isList ?_);have hlI:l≠s.heap.objs.size:=by
  obtain ⟨o,e,_⟩:=pl.isList;exact Z9 (Z5 e)
 refine ⟨s.heap.objs.size,_,_,_,_,_,fun i=>is.getD i 0,rfl,Walks.list (A:=X.A.in1) (I.ok.hd hc) s.heap.objs.size l hlI its.toArray,⟨⟨_,Z6 _ rfl,rfl,rfl⟩,?_⟩,fun b hb=>?_,fun i v hp=>?_,fun h' tk t' hk=>?_⟩
 ·obtain ⟨o,e,r⟩:=pl.isList;exact ⟨o,Z0 _ e,r⟩
 ·show b < (s.heap.push _).objs.size;rw [Y2];rcases List.mem_cons.mp hb with e | hb
  ·rw [e];exact Y5 _
  ·obtain ⟨o,e,_⟩:=pl.isList;rw [List.mem_singleton.mp hb];exact Ya (Z5 e)
 ·have hv:its[i]? = some v:=by simpa using hp
  have hi:i < its.length:=(List.getElem?_eq_some_iff.mp hv).1;obtain ⟨z,ez⟩:∃ z,is[i]? = some z:=⟨_,Z4 (by omega)⟩;obtain ⟨w',hw,rw'⟩:=r.get (i:=i) (x:=.int z) (by rw [Zf,ez];rfl);rw [hv] at hw;cases hw;obtain ⟨t,e⟩:=(show ∃ t,v=Value.int z t from rw');exact ⟨t,by rw [e];simp [ez]⟩
 ·have kk:Kept s.heap h':=fun b o e=>hk b o (fun z=>absurd (Z5 e) (by rw [List.mem_singleton.mp z];exact Y0 _)) (Z0 _ e);refine ⟨.int is.sum,H,I.kept (t':=tk) kk,⟨t',?_⟩,q⟩;have:its.toArray.size=is.length:=by simp;omega
  rw [this,zCs is is.length (Z2 _),Zm]
theorem zFc:CallR X (.builtin "sum") (fun vs H Q=>∃ (v d:Addr) (ks:List Key) (is:List Int),vs=[.ref v]∧H v=some (ViewO v d)∧Rd H d (.dK (ks.zip (is.map V.int)))∧ks.length=is.length∧X.calm=true∧Q (.int is.sum) H):=by
 intro pins s σ H vs us Q I rv h;obtain ⟨v,d,ks,is,rfl,hv,rd,hl,hc,q⟩:=h;obtain ⟨u,rfl,ru⟩:=v1 rv;cases (show u=Value.ref v from ru);obtain ⟨hz,lo,ws,kv,dd⟩:=zDd I.hok rd;obtain ⟨o,es,ep,g,ex,hd,r⟩:=id dd;have da:s.heap.DictAt (mixKind X.prog X.w) d ws ep:=⟨o,es,g,ex,hd,r⟩;obtain ⟨vw,_,_⟩:=I.hok v _ hv;have K:=PySem.W.kdl_values (prog:=X.prog) (w:=X.w) (knd:=mixKind X.prog X.w) (r:=v) (d:=d) (kvs:=ws) (ep:=ep);have hok:(fun h:Heap=>h.IsValuesView v d∧h.DictAt (mixKind X.prog X.w) d ws ep) s.heap:=⟨vw,da⟩;have wl:ws.length=is.length:=by
  have:=kv.len;rw [List.length_zip,Z1] at this;omega
 refine call_sum_walkAnyS ?_;obtain ⟨oI,St,hit,W,st⟩:=K.iter X.A.in1 s (I.ok.hd hc) hok;refine hit _ _ ⟨s.heap.objs.size,_,_,_,ws.length,_,_,fun i=>is.getD i 0,rfl,W.toS,st,fun b hb=>?_,fun i x hx=>?_,fun s' t' hm=>?_⟩
 ·show b < (s.heap.push oI).objs.size;rw [Y2];rcases List.mem_cons.mp hb with e | hb
  ·rw [e];exact Y5 _
  ·rw [List.mem_singleton.mp hb];exact Ya (K.there _ hok).2
 ·obtain ⟨k,hk⟩:=hx;have hi:i < ws.length:=(List.getElem?_eq_some_iff.mp hk).1;obtain ⟨k',ek⟩:∃ k',ks[i]? = some k':=⟨_,Z4 (by omega)⟩;obtain ⟨z,ez⟩:∃ z,is[i]? = some z:=⟨_,Z4 (by omega)⟩;obtain ⟨w',hw,rw'⟩:=kv.get (i:=i) (k:=k') (x:=.int z) (by rw [List.getElem?_zip_eq_some];exact ⟨ek,by rw [Zf,ez];rfl⟩);rw [hk] at hw;cases hw;obtain ⟨t,e⟩:=(show ∃ t,x=Value.int z t from rw');exact ⟨t,by rw [e];simp [ez]⟩
 ·have kk:Kept s.heap s'.heap:=fun b o e=>hm.heap b o (fun hI=>absurd (Z5 e) (by rw [List.mem_singleton.mp hI];exact Y0 _)) (Z0 _ e);rw [Moved.eq_with hm];refine ⟨.int is.sum,H,I.kept (t':=s'.toks) kk,⟨t',?_⟩,q⟩;rw [wl,zCs is is.length (Z2 _),Zm]
theorem zDs:CallR X (.builtin "sorted") (fun vs H Q=>∃ (d:Addr) (kvs:List (Key×V)) (ks:List Str),vs=[.ref d]∧Rd H d (.dK kvs)∧kvs.map (·.1)=ks.map Sum.inr∧ks.length < 64∧X.calm=true ∧
  ∀ p (ks':List Str),H p=none→ks'.Perm ks→ks'.Pairwise (fun a b=>¬ ltS b a)→Q (.ref p) (upd H p (.lst (ks'.map V.str)))):=by
 intro pins s σ H vs us Q I rv h;obtain ⟨d,kvs,ks,rfl,rd,ek,h64,hc,q⟩:=h;obtain ⟨u,rfl,ru⟩:=v1 rv;cases (show u=Value.ref d from ru);obtain ⟨hz,lo,ws,kv,dd⟩:=zDd I.hok rd;obtain ⟨o,es,ep,g,ex,hd,r⟩:=id dd;have da:s.heap.DictAt (mixKind X.prog X.w) d ws ep:=⟨o,es,g,ex,hd,r⟩;have kl:kvs.length=ks.length:=by have:=congrArg List.length ek;rw [Z1,Z1] at this;exact this
 have wl:=kv.len;refine PySem.Calls.call_function_entry kind_sorted plain_sorted entry_sorted (args_sorted1 _) ?_;unfold Builtin.«sorted»;refine wpAny_bind (m:=checkCount "sorted" 1 1 _) (wpAny_pure ?_);refine wpAny_bind (PySem.W.kdu_collect (A:=X.A.in1) (PySem.W.kdl_dict (knd:=mixKind X.prog X.w) (kvs:=ws) (ep:=ep) lo) (I.ok.hd hc) da (by omega) fun h' tk acc hk hacc=>?_);have al:acc.toList.length=ks.length:=by rw [Zw,hacc.1];omega
 have all:∀ (j:Nat) (v:Value) (n:Str),acc.toList[j]? = some v→ks[j]? = some n→∃ t,v=Value.str n t:=fun j v n e en=>by
  obtain ⟨k,x,e2,hk'⟩:=hacc.2 j v (by rw [← Array.getElem?_toList];exact e);have hj:j < kvs.length:=by rw [kl,← al];exact (List.getElem?_eq_some_iff.mp e).1
  obtain ⟨⟨k',x'⟩,hk2⟩:∃ p,kvs[j]? = some p:=⟨_,Z4 hj⟩;obtain ⟨u',hu',_⟩:=kv.get hk2;rw [e2] at hu';cases hu';have e3:=congrArg (fun l=>l[j]?) ek;simp only [Zf,hk2,en,Option.map_some] at e3;cases Zh e3;exact (show RelV (kV (Sum.inr n)) v from key_rel (k:=Sum.inr n) hk')
 have sa:Vals (ks.map V.str) acc.toList:=by
  clear hk hacc hz da dd kl kv rd q ek h64;generalize acc.toList=ys at al all
  induction ks generalizing ys with
  | nil =>
   cases ys with
   | nil=>exact .nil
   | cons a b=>cases al
  | cons p t ih =>
   cases ys with
   | nil=>cases al
   | cons a b=>exact .cons (all 0 a p rfl rfl) (ih b (by simpa using al) fun j v n e en=>all (j + 1) v n (by simpa using e) (by simpa using en))
 have hS:=strs_are sa;refine wpAny_bind (wpAny_newList ?_ (by rw [al,sizeLine_eq];omega));have hoL:(h'.push (seqObj "list" acc.toList.toArray 0)).get? h'.objs.size=some (seqObj "list" acc.toList.toArray 0):=Z6 _ rfl;refine wpAny_bind (wpAny_holding (wpAny_call_entry slot_list_sort ⟨_,hoL,rfl⟩ entry_list_sort (list_sort_treeK strKind_oneLt (vs:=acc.toList) hoL hS.keysOf (fun v₁ v₂ rest e=>keyKind_strs (by rw [← e];exact hS)) (by omega) fun st' hp hs=>⟨_,rfl,?_⟩) (args_list_sort _)));obtain ⟨ss',a1,a2,a3⟩:=sorted_out_str hS hp hs;obtain ⟨e,he⟩:=sortedHeap_at (out:=(arrOf st').map (·.2)) hoL;have J:Inv X pins σ H { s with heap:=h',toks:=tk }:=I.kept (t':=tk) hk;have kk:∀ b o,h'.get? b=some o→(sortedHeap (h'.push (seqObj "list" acc.toList.toArray 0)) h'.objs.size acc.toList ((arrOf st').map (·.2))).get? b=some o:=fun b o hb=>by
  have lt:=Z5 hb;rw [sortedHeap_old (Z9 lt) (by rw [Y2];exact Ya lt)];exact Z0 _ hb
 have fr:H h'.objs.size=none:=J.hok.fresh (Z2 _);refine wpAny_pure ⟨_,rfl,.ref h'.objs.size,_,J.laid (t':=tk) (a:=h'.objs.size) (o:=.lst (ss'.map V.str)) kk (Z2 _) ⟨by rw [Z1,a2.length_eq,sizeLine_eq];omega,((arrOf st').map (·.2)).toList,e,vals_strs a1,by rw [Array.toArray_toList];exact he⟩,rfl,q _ ss' fr a2 (sorted_pw ss' a3)⟩
end
end L2
namespace L2
open PySem PySem.Spec PyProof.Rows
section
variable {X:Cx}
end
namespace W
end W
end L2
namespace L2
open PySem PySem.Spec PyProof.Rows
section
variable {X:Cx}
end
namespace W
end W
end L2
namespace L2
open PySem PySem.Spec PyProof.Rows
section
variable {P:Program}{w:World}{A:Around}{E:Value→Shared→Prop}{s:Shared}
end
section
variable {P:Program}{w:World}{A:Around}{E:Value→Shared→Prop}{s:Shared}
end
end L2
namespace L2.W
open PySem PySem.Spec PyProof.Rows
end L2.W
namespace L2
open PySem PySem.Spec PyProof.Rows
structure ClsFn (K:PySem.W.Frag) (C:Addr) (m:Str) (f:Addr):Prop where
 rd:PySem.W.readsIn K C (.type "type")=true
 at_:PySem.W.findCls K (.ref C) (.type "type") m=some (.val (.ref f))
 hd:PySem.W.handedIn (.ref f)=true
 sp:PySem.W.specialIn K (.ref C) "__getattribute__" = some (some (.builtin "type.__getattribute__"))
 kp:PySem.W.keepIn K (.ref f)=true
section
variable {X:Cx}{CX:CXT}{k:Nat}{f C:Addr}{fd:FuncData}{ps:List Str}{sp:Sp}{dvs:List V}{ds:List Value}{E:St→XK}{x m:Str}{p pos apos:Pos}{e:Expr}{es:List Expr}{t:TA}
theorem zD4 {pl:Sem Bool} (hm:ClsFn X.K C m f) (F:FnOk X.prog X.w X.K X.mg X.base CX k f fd ps sp) (hr:Room k X.A) (hg:Gl X x) (hx':X.mg x=some (.ref C)) (hb:Binds X.K fd ps ds) (hd:Vals dvs ds) (hx:Passes CX X E) (ha:PA X (e :: es) t)
  (hdb:(x == ("__debug__" : Str))=false:=by decide) (hst:starEach (e :: es) X.env=(false,eval e X.env) :: starEach es X.env:=by rfl) (hpl:(backTo pos (starEach es X.env)).any (·.1)=false:=by rfl)
  (ht:eval (.Call (.Attribute (.Name x p) m apos) (e :: es) [] pos) X.env=(do
   let ov ← eval (.Name x p) X.env
   standAt apos.atName
   let (f,first) ← holding [ov] (getMethod ov m pl)
   callWith pos f first (backTo pos (starEach (e :: es) X.env)) (backToKw pos (keywordEach [] X.env))):=by rfl) :
  PE X (.Call (.Attribute (.Name x p) m apos) (e :: es) [] pos) (tCall sp dvs E t):=by
 intro pins s σ H Q I h;refine PySem.W.methodCall_KW (pl:=pl) (thn (zBc (v:=.ref C) hg hx' rfl hdb pins s σ H (fun v H1=>v=.ref C∧H1=H) I ⟨rfl,rfl⟩) fun u s1 ⟨y,H1,I1,ry,ey,eH⟩=>?_) ht;subst ey eH;obtain rfl:u=Value.ref C:=ry;refine PySem.W.method_cls I1.kIn hm.sp (PySem.W.cls_value I1.kIn hm.rd hm.at_ hm.hd ?_);have I2:=I1.tok (s1.toks + 1);refine PySem.W.callWith_K (first:=[]) (h₀:=X.base) I.ok.mod.kin hm.kp (thn (ha pos pins _ σ H1 _ I2 h) fun us s2 ⟨vs,H2,I3,r,q2⟩=>⟨I3.kIn,?_⟩) hst hpl;exact zEo F hr hb hd hx I3 r q2
theorem mt_count:MtR X "str.count" (fun x xs H Q=>∃ z y,x=.str z∧xs=[.str y]∧Q (.int (Txt.count z y:Int)) H):=by
 intro pins s σ H x xs v us Q I rx rs h;obtain ⟨z,y,rfl,rfl,q⟩:=h;obtain ⟨t,rfl⟩:=rx;obtain ⟨u,rfl,ru⟩:=v1 rs;obtain ⟨t',rfl⟩:=ru;exact PySem.W.KXw.count rfl fun t1 k1=>⟨.int _,H,I.tok k1,⟨t1,rfl⟩,q⟩
end
end L2
namespace L2.W
open PySem PySem.Spec PyProof.Rows
noncomputable def zD4:=by have h:=@L2.zD4;rw [ePE,ePA] at h;exact @h
end L2.W
namespace L2
open PySem PySem.Spec PyProof.Rows
end L2
namespace L2.W
open PySem PySem.Spec PyProof.Rows
end L2.W
namespace L2
open PySem PySem.Spec PyProof.Rows
section
variable {prog:Program}{w:World}{A:Around}{R:Result→Shared→Prop}{I:Addr}{fp wr:List Addr}{G:Array GenState→Array GenState→Prop}{n:Nat}{P:Nat→Value→Prop}{St:Nat→Shared→Prop}
end
section
variable {prog:Program}{w:World}{A:Around}{E:Value→Shared→Prop}{s:Shared}
end
section
variable {X:Cx}
end
end L2
namespace L2
open PySem PySem.Spec PyProof.Rows
section
variable {X:Cx}
end
end L2
namespace L2
open PySem PySem.Spec PyProof.Rows
section
variable {X:Cx}{e:Expr}{es:List Expr}{te:TE}{t:TA}
end
end L2
namespace L2.W
open PySem PySem.Spec PyProof.Rows
end L2.W
namespace L2
open PySem PySem.Spec PyProof.Rows
section
variable {X:Cx}{CX:CXT}{k:Nat}{fw c P:Addr}{fd:FuncData}{q x y:Str}{params:Arguments}{body:Expr}{scope:Scope}{N:List Str}{ix:List Nat}{sp:Addr→Addr→List (Str×Addr)→List V→Sp}{E:St→XK}{p lpos pos:Pos}
end
namespace W
end W
end L2
namespace L2
open PySem PySem.Spec PyProof.Rows
section
variable {X:Cx}{x n:Str}{np hpos pos:Pos}{body suite:List Stmt}{b₀ : Stmt}{i:Nat}{B:Addr}{tb:TW→TS}{th:Addr→TS}
theorem ps_tryN (hx:X.ex=[]) (hs:X.stack=X.env :: X.outer) (hf:X.env.frame=some X.env.locals) (hg:Gl X x) (hm:X.mg x=some (.ref B))
  (hb:∀ pins W,PSs (X.tri pins W) body (tb W)) (hh:∀ e,PSs (X.hnd e) (b₀ :: suite) (th e)) (hdb:(x == ("__debug__" : Str))=false:=by decide) :
  PS X (.Try body [.ExceptHandler (some (.Name x np)) none (b₀ :: suite) hpos] [] [] pos) (fun D σ H=>∃ W:TW,tb W D σ H∧∀ σ' e C H',H' e=some (XO C e)→W σ' e C H'→PySem.W.exmOne X.K (.ref C) (.ref B)=some true∧th e D σ' H'):=by
 intro pins s σ H D I ⟨W,hbW,hW⟩;refine wpAny_Try_except (wpAny_mono (hb pins W [] s σ H D I.tri hbW) (fun f s1 h1=>?_) (fun u s1 h1=>?_))
 ·have h1:=h1.untri;cases f with
  | next =>
   obtain ⟨σ',H',I',q⟩:=h1;exact zAa pins s1 σ' H' D I' q
  | brk=>exact h1
  | cont=>exact h1
  | ret u=>exact h1
 ·obtain ⟨e,C,σ',H',rfl,I',he,tr,w⟩:=h1;obtain ⟨oe,vs,a0,T0,oT,ts,h1,h2,h3,h4,⟨g1,g2⟩,nT,h5,h6,h7⟩:=tr;obtain ⟨hK,hT⟩:=hW σ' e C H' he w;have hfr:X.A.frames=some (X.env :: X.outer):=by rw [← hs];exact I.ok.frames
  have hl':s1.heap.FunFrames X.base (X.env :: X.outer):=by rw [← hs];exact I'.stack
  obtain ⟨ox,vx,hox,hcx,hdx⟩:=xo_of I'.hok he;rw [h1] at hox;cases hox;have hne:T0≠e:=fun z=>by rw [z,he] at nT;cases nT
  have F:=fly_of hl' h1 h2 h3 h4 hne h5 h6 h7;rw [hcx] at F;have mv:∀ {h':Heap}{t':Nat},Heap.FlyingW (bas s1.heap (X.env :: X.outer) e T0) (X.env :: X.outer) e (.ref C) a0 h'→s1.heap.UpToSlots h'→P2 e h'→Inv X pins σ' H' { s1 with heap:=h',toks:=t' }:=fun {h'}{t'} F up p2=>by
   have m:=L2.moved (fl:=.none) hl' F.1 F.2.2.1 F.2.2.2 up p2;rw [← hs] at m;exact I'.moved he nT g1 g2 h5 h6 m
  refine zEt (.note _ _) (xo_p2 I'.hok he) (wpAny_looks_onW hfr hf F fun h₄ H4 up4 p4=>?_);refine zEt (.flt _ _) p4 (wpAny_landsW H4 fun h₅ F5 up5 p5=>?_);have I5:=mv (t':=s1.toks) F5 (up4.trans up5) p5;have I5h:=I5.hnd (e:=e);refine wpAny_handleBy_cons (codeAny_handlers_test (zF8 I5h hg hm ?_ hdb)) (by intro q;cases q);obtain ⟨o5,ho5,hc5⟩:=F5.there;have LT:PySem.W.Looks (model X.prog X.w) h₅ (typeOf (.ref e)) (.ref C):=by
   rw [← hc5];exact (PySem.W.Looks.ld ho5).andThen .now
  refine PySem.W.exm_one I5.kIn LT hK _ _ _ _ (fun _ _ q=>q) ?_;refine codeAny_handlers_suite ?_;refine zEt (.flt _ _) p5 (lands_againW F5 fun h₆ F6 up6 p6=>?_);have I6:=(mv (t':=s1.toks) F6 ((up4.trans up5).trans up6) p6).hnd (e:=e);refine wpAny_mono (hh e pins _ _ H' D I6 hT) (fun f s8 h8=>?_) (fun _ _ z=>False.elim z);cases f with
  | next=>obtain ⟨σ8,H8,J,q⟩:=h8;exact ⟨_,_,J.unhnd I.ok,q⟩
  | brk=>obtain ⟨σ8,H8,J,q⟩:=h8;exact ⟨_,_,J.unhnd I.ok,q⟩
  | cont=>obtain ⟨σ8,H8,J,q⟩:=h8;exact ⟨_,_,J.unhnd I.ok,q⟩
  | ret u=>obtain ⟨v,σ8,H8,J,r,q⟩:=h8;exact ⟨v,_,_,J.unhnd I.ok,r,q⟩
end
section
variable {X:Cx}
end
namespace W
noncomputable def ps_tryN:=by have h:=@L2.ps_tryN;rw [ePSs,ePS] at h;exact @h
end W
end L2
namespace L2
open PySem PySem.Spec PyProof.Rows
namespace W
end W
end L2
namespace L2
open PySem PySem.Spec PyProof.Rows
section
variable {P:Program}{w:World}{A:Around}{E:Value→Shared→Prop}{s:Shared}{r:Addr}{n:Nat}
end
section
variable {X:Cx}{pins:List (Addr×Obj)}{σ : St}{H:Hp}{s:Shared}{r f:Addr}{n:Nat}{Q:VK}
end
end L2
namespace L2
open PySem PySem.Spec PyProof.Rows
section
variable {X:Cx}{pins:List (Addr×Obj)}{σ : St}{H:Hp}{s:Shared}{A:Around}{E:Value→Shared→Prop}
end
section
variable {CX:CXT}{P:Program}{w:World}{K:PySem.W.Frag}{mg:Str→Option Value}{base:Heap}{k:Nat}{f c':Addr}{q x:Str}{params:Arguments}{body:Expr}{scope:Scope}{cl:List (Str×Addr)}{N:List Str}{ws:List V}
end
section
variable {X:Cx}{CX:CXT}{k:Nat}{c P:Addr}{q:Str}{params:Arguments}{body:Expr}{scope:Scope}{N:List Str}{ix:List Nat}{sp:Addr→Addr→List (Str×Addr)→List V→V→Hp→VK→XK→Prop}{e:Expr}{ta:TA}{p lpos kpos pos:Pos}
end
namespace W
end W
end L2
namespace L2
open PySem PySem.Spec PyProof.Rows PySem.W
section
variable {prog:Program}{w:World}{A:Around}{E:Value→Shared→Prop}{s:Shared}
end
section
variable {X:Cx}
end
end L2
namespace L2
open PySem PySem.Spec PyProof.Rows
section
variable {prog:Program}{w:World}{A:Around}{E:Value→Shared→Prop}{s:Shared}{it e:Addr}
end
section
variable {X:Cx}{elt tg a:Expr}{ifs:List Expr}{sc:Scope}{p rp pos:Pos}{cl:List (Str×Addr)}{T:List Str}{ta:TA}{g:TG}{tt:TT}{te:TE}{e:Addr}
end
namespace W
end W
end L2
namespace L2
open PySem PySem.Spec PyProof.Rows
section
variable {X:Cx}{y n:Str}{i:Nat}
end
end L2
namespace L2.W
open PySem PySem.Spec PyProof.Rows
end L2.W
namespace L2
open PySem PySem.Spec PyProof.Rows
structure Disp (P:Program) (w:World) (K:PySem.W.Frag) (mg:Str→Option Value) (base:Heap) (CX:CXT) (k:Nat) (m:Str) (ps:List Str) (sp:Sp) (C:Addr):Prop where
 ex:∃ f fd,Cls K C∧Meth K C m f∧FnOk P w K mg base CX k f fd ps sp∧Binds K fd ps []
noncomputable def tMethD (D:Addr→Prop) (m:Str) (sp:Addr→Sp) (E:St→XK) (ta:TE) (t:TA):TE:=fun σ H Q=>ta σ H fun x H1=>∃ a C dx fs,x=.ref a∧H1 a=some (.ins C dx fs)∧D C∧fs.lookup m=none∧t σ H1 fun vs H2=>sp C (x :: vs) H2 Q (E σ)
section
variable {X:Cx}{CX:CXT}{k:Nat}{ps:List Str}{sp:Addr→Sp}{E:St→XK}{m:Str}{pos apos:Pos}{e o:Expr}{es:List Expr}{ta:TE}{t:TA}{D:Addr→Prop}
theorem zF0 {pl:Sem Bool} (he:PE X o ta) (F:∀ C,D C→Disp X.prog X.w X.K X.mg X.base CX k m ps (sp C) C) (hr:Room k X.A) (hx:Passes CX X E) (ha:PA X (e :: es) t)
  (hst:starEach (e :: es) X.env=(false,eval e X.env) :: starEach es X.env:=by rfl) (hpl:(backTo pos (starEach es X.env)).any (·.1)=false:=by rfl)
  (ht:eval (.Call (.Attribute o m apos) (e :: es) [] pos) X.env=(do
   let ov ← eval o X.env
   standAt apos.atName
   let (f,first) ← holding [ov] (getMethod ov m pl)
   callWith pos f first (backTo pos (starEach (e :: es) X.env)) (backToKw pos (keywordEach [] X.env))):=by rfl):PE X (.Call (.Attribute o m apos) (e :: es) [] pos) (tMethD D m sp E ta t):=by
 intro pins s σ H Q I h;refine PySem.W.methodCall_KW (pl:=pl) (thn (he pins s σ H _ I h) fun u s1 ⟨x,H1,I1,rx,a,C,dx,fs,ex,ea,hD,l,q⟩=>?_) ht;obtain ⟨⟨f,fd,c,hm,G,hb⟩⟩:=F C hD;subst ex;obtain rfl:u=Value.ref a:=rx;refine zC2 I1 ea c hm l ?_;refine PySem.W.callWith_K (first:=[.ref a]) (h₀:=X.base) I.ok.mod.kin hm.kp (thn (ha pos pins s1 σ H1 _ I1 q) fun us s2 ⟨vs,H2,I2,r,q2⟩=>⟨I2.kIn,?_⟩) hst hpl;exact zEo (us:=.ref a :: us) (vs:=.ref a :: vs) (dvs:=[]) G hr hb .nil hx I2 (.cons rfl r) (by rw [List.append_nil];exact q2)
end
theorem FnOk.never {P:Program}{w:World}{K:PySem.W.Frag}{mg:Str→Option Value}{base:Heap}{CX:CXT}{k:Nat}{f:Addr}{fd:FuncData}{ps:List Str}{sp:Sp} (h:∀ vs H Q E,¬ sp vs H Q E):FnOk P w K mg base CX k f fd ps sp :=
 ⟨fun vs H Q E z=>(h vs H Q E z).elim,fun _ _ _ H _ _ vs Q E _ _ _ _ z=>(h vs H Q E z).elim⟩
namespace W
noncomputable def zF0:=by have h:=@L2.zF0;rw [ePE,ePA] at h;exact @h
end W
end L2
namespace L2
open PySem PySem.Spec PyProof.Rows
section
variable {P:Program}{w:World}{A:Around}{E:Value→Shared→Prop}{s:Shared}
end
section
variable {P:Program}{w:World}{A:Around}{E:Value→Shared→Prop}{s:Shared}
end
end L2
namespace L2.W
open PySem PySem.Spec PyProof.Rows
end L2.W
namespace L2
open PySem PySem.Spec PyProof.Rows
end L2
namespace L2
open PySem PySem.Spec PyProof.Rows
noncomputable def cutH (S:List Addr) (H:Hp):Hp:=fun a=>if a∈S then none else H a
noncomputable def putH (S:List Addr) (H H':Hp):Hp:=fun a=>if a∈S then H a else H' a
theorem zFa {S:List Addr}{H:Hp}{a:Addr} (h:a∈S):cutH S H a=none:=if_pos h
theorem zCa {S:List Addr}{H:Hp}{a:Addr} (h:a∉S):cutH S H a=H a:=if_neg h
theorem cutH_some {S:List Addr}{H:Hp}{a:Addr}{o:HO} (h:cutH S H a=some o):a∉S∧H a=some o:=by
 by_cases m:a∈S
 ·rw [zFa m] at h;cases h
 ·rw [zCa m] at h;exact ⟨m,h⟩
theorem zCj {S:List Addr}{H:Hp}{a:Addr} (h:H a=none):cutH S H a=none:=by
 by_cases m:a∈S
 ·exact zFa m
 ·rw [zCa m];exact h
theorem putH_in {S:List Addr}{H H':Hp}{a:Addr} (h:a∈S):putH S H H' a=H a:=if_pos h
theorem zC5 {S:List Addr}{H H':Hp}{a:Addr} (h:a∉S):putH S H H' a=H' a:=if_neg h
noncomputable def frS (sp:Sp):Sp:=fun vs H Q _=>∃ S:List Addr,(∀ a∈S,∃ xs,H a=some (.lst xs))∧sp vs (cutH S H) (fun v H'=>(∀ a∈S,H' a=none)→Q v (putH S H H')) (fun _ _ _=>False)
theorem cut_ok {P:Program}{w:World}{S:List Addr}{H:Hp}{h:Heap} (hl:∀ a∈S,∃ xs,H a=some (.lst xs)) (ok:HOk P w H h):HOk P w (cutH S H) h:=fun a o e=>by
 obtain ⟨_,e⟩:=cutH_some e;refine (ok a o e).stay (fun c v _ r=>r) (fun c r=>?_) (fun c xs r=>?_)
 ·rw [zCa]
  ·exact r
  ·intro m;obtain ⟨xs,z⟩:=hl c m;rw [z] at r;cases r
 ·rw [zCa]
  ·exact r
  ·intro m;obtain ⟨ys,z⟩:=hl c m;rw [z] at r;cases r
theorem FnOkQ.frame {q:Bool}{P:Program}{w:World}{K:PySem.W.Frag}{mg:Str→Option Value}{base:Heap}{CX:CXT}{k:Nat}{f:Addr}{fd:FuncData}{ps:List Str}{sp:Sp} (hC:Calm CX) (F:FnOkQ q P w K mg base CX k f fd ps sp):FnOkQ q P w K mg base CX k f fd ps (frS sp):=by
 refine ⟨fun vs H Q E ⟨S,_,h⟩=>F.len _ _ _ _ h,fun A outer s H args us vs Q E hr he hb hv hs=>?_⟩;obtain ⟨S,hl,hs⟩:=hs;have nfr:∀ a∈S,a∉frs outer:=fun a m z=>by obtain ⟨xs,e⟩:=hl a m;rw [he.frf a z] at e;cases e
 refine codeAny_mono (F.run A outer s (cutH S H) args us vs _ _ hr ⟨he.frames,he.mod,fun b o e=>⟨(he.bs b o e).1,zCj (he.bs b o e).2⟩,he.bsz,he.funs,fun b m=>zCj (he.frf b m),cut_ok hl he.hok,he.bare⟩ hb hv hs) fun r s' hq=>?_;cases r with
 | error e=>exact (hC _ _ _ _ _ hq).elim
 | ok fl =>
  cases fl with
  | next=>exact hq
  | brk=>exact hq
  | cont=>exact hq
  | ret u =>
   obtain ⟨v,H',os,bare,un,hok,rv,q⟩:=hq;have ob:∀ a∈S,∃ o,s.heap.get? a=some o:=fun a m=>by obtain ⟨xs,e⟩:=hl a m;obtain ⟨_,its,n,_,e⟩:=he.hok a _ e;exact ⟨_,e⟩
   have fre:∀ a∈S,H' a=none:=fun a m=>by obtain ⟨o,e⟩:=ob a m;exact un.free a o e (zFa m) (fun z=>nomatch z)
   have out:∀ c o,H' c=some o→c∉S:=fun c o e m=>by rw [fre c m] at e;cases e
   refine ⟨v,putH S H H',os,bare,⟨?_,?_,?_,un.there,?_,?_,?_⟩,?_,rv,q fre⟩
   ·exact fun b o e n=>un.keep b o e (zCj n)
   ·exact fun b o e n=>un.slot b o e (zCj n)
   ·intro b o e n x;rw [zC5]
    ·exact un.free b o e (zCj n) x
    ·intro m;obtain ⟨xs,z⟩:=hl b m;rw [z] at n;cases n
   ·intro b xs e;have m:b∉S:=fun m=>by obtain ⟨ys,z⟩:=hl b m;rw [z] at e;cases e
    rw [zC5 m];exact un.tups b xs (by rw [zCa m];exact e)
   ·intro b o u e;have m:b∉S:=fun m=>by obtain ⟨ys,z⟩:=hl b m;rw [z] at e;cases e
    rw [zC5 m];exact un.frzs b o u (by rw [zCa m];exact e)
   ·intro b o e;have m:b∉S:=fun m=>by obtain ⟨ys,z⟩:=hl b m;rw [z] at e;cases e
    obtain ⟨more,z⟩:=un.tbls b o (by rw [zCa m];exact e);exact ⟨more,by rw [zC5 m];exact z⟩
   ·intro a o e;by_cases m:a∈S
    ·rw [putH_in m] at e;obtain ⟨xs,z⟩:=hl a m;rw [z] at e;cases e;obtain ⟨l,its,n,r,g⟩:=he.hok a _ z;exact ⟨l,its,n,r,un.keep a _ g (zFa m) (nfr a m) (fun z=>nomatch z)⟩
    ·rw [zC5 m] at e;refine (hok a o e).stay (fun c v _ r=>r) (fun c r=>?_) (fun c xs r=>?_)
     ·rw [zC5 (out c _ r)];exact r
     ·rw [zC5 (out c _ r)];exact r
end L2
namespace L2.W
open PySem PySem.Spec PyProof.Rows
section
variable {X:Cx}{st:Stmt}{rest:List Stmt}{s:TS}{F:TS→Prop}
theorem zAx (p:PS X st s) (h:∀ S:TS,(∀ D σ H,s D σ H→S D σ H)→∃ t,PSs X rest t∧F (tSeq S t)):∃ t,PSs X (st :: rest) t∧F t :=
 let ⟨_,pt,ft⟩:=h s (fun _ _ _ x=>x);⟨_,zA2 p pt,ft⟩
theorem bd_one (p:PS X st s) (h:∀ S:TS,(∀ D σ H,s D σ H→S D σ H)→F S):∃ t,PSs X [st] t∧F t:=⟨_,zA4 p,h s (fun _ _ _ x=>x)⟩
theorem bd_blk {body:List Stmt}{s:TS→TS} (p:∀ tb,PSs X body tb→PS X st (s tb)) (h:∃ tb,PSs X body tb∧∀ S:TS,(∀ D σ H,s tb D σ H→S D σ H)→∃ t,PSs X rest t∧F (tSeq S t)):∃ t,PSs X (st :: rest) t∧F t :=
 let ⟨tb,pb,hb⟩:=h;zAx (p tb pb) hb
end
end L2.W
namespace L2
open PySem PySem.Spec PyProof.Rows
theorem comp_bits {K:PySem.W.Frag}{a:Addr}{xs:List V}{bs:List Bool}{k i:Nat}{σ : St}{H:Hp}{te:TE}{Q:VK} (hs:H a=some (.lst xs)) (le:xs.length≤1000) (len:bs.length=xs.length)
  (step:∀ (j:Nat) (x:V) (b:Bool) (H':Hp) (N:VK),xs[j]? = some x→bs[j]? = some b→Same H H'→(∀ H'',Same H' H''→N (.bl b) H'')→te ((σ++List.replicate k none).set i (some x)) H' N)
  (done:∀ p H',Same H H'→H' p=some (.lst (bs.map V.bl))→Q (.ref p) H'):CompGoal (Itl K a) k σ H (gName i) tYes te Q:=by
 refine zAo (xs:=xs) (fun j ys H'=>Same H H'∧ys=(bs.take j).map V.bl) ⟨Same.refl _,rfl⟩ (fun j ys H' p=>SqL.of (p.1 _ _ hs)) (fun j ys H' hj p=>?_) ?_ ?_
 ·rw [p.2,Z1,Zy];exact Za (Nat.min_le_right _ _) (by rw [len];exact Zd (small1000 le))
 ·rintro j x ys H' hj ⟨s1,rfl⟩ N hN;have il:=(List.getElem?_eq_some_iff.mp hj).1;have eb:bs[j]? = some bs[j]:=Z4 (by omega);refine pick (step j x _ H' _ hj eb s1 fun H'' s2=>hN _ _ ⟨s1.trans s2,?_⟩);rw [Zk,eb,Zu];rfl
 ·rintro ys H' ⟨s1,rfl⟩ p hp;rw [← len,Zm];exact done p _ (s1.trans (Same.new hp)) zA1
end L2
namespace L2
open PySem PySem.Spec PyProof.Rows
noncomputable def e2 (p:Addr) (b1 b2:Bool):Value→Bool
 | .ref a=>if a=p then b1 else b2
 | _=>b2
noncomputable def rIn2 (K:PySem.W.Frag):R2:=fun x y H Q=>∃ l p1 p2 d d1 d2,y=.ref l∧SqL K H l [.ref p1,.ref p2]∧p1≠p2∧Has Any H (.ref p1) d1∧Has Any H (.ref p2) d2∧Has Any H x d∧d.depth≤60∧d1.depth≤60∧d2.depth≤60∧Q (.bl (PyData.eqv d1 d || PyData.eqv d2 d)) H
theorem op_in2 {X:Cx}{K:PySem.W.Frag} (hK:X.K=K) (hu:X.A.units + 65 < cLine):OpR X (compareOp .In) (rIn2 K):=by
 subst hK;intro pins s σ H x y u v Q I rx ry h;obtain ⟨l,p1,p2,d,d1,d2,rfl,hl,ne,h1,h2,hx,hd,hd1,hd2,q⟩:=h;cases (show v=Value.ref l from ry);obtain ⟨its,r,pl,hz⟩:=I.list hl;obtain ⟨as,ra⟩:=hx.reads I rx;cases r with
 | cons r1 r' =>
  cases r' with
  | cons r2 r3 =>
   cases r3;cases r1;cases r2;obtain ⟨c1,rc1⟩:=h1.reads I (u:=.ref p1) rfl;obtain ⟨c2,rc2⟩:=h2.reads I (u:=.ref p2) rfl;have sx:=hx.shaped (Za hd (by decide));have s1:=h1.shaped (Za hd1 (by decide));have s2:=h2.shaped (Za hd2 (by decide));have hu1:X.A.in1.units + 64 < cLine:=by show X.A.units + 1 + 64 < cLine;omega
   have e1:=SeqAt.eqAt_reads d1 d X.A.in1 s _ _ _ _ rc1 ra (SeqAt.canLay_of_shaped s1) (SeqAt.canLay_of_shaped sx) (SeqAt.room_of_shaped s1 hu1);have e2':=SeqAt.eqAt_reads d2 d X.A.in1 s _ _ _ _ rc2 ra (SeqAt.canLay_of_shaped s2) (SeqAt.canLay_of_shaped sx) (SeqAt.room_of_shaped s2 hu1);refine SeqAt.in_listAt (e2 p1 (PyData.eqv d1 d) (PyData.eqv d2 d)) pl.isList (fun w hw=>?_) ⟨.bl _,H,I,rfl,?_⟩
   ·have hw:w=.ref p1∨w=.ref p2:=by simpa using hw
    rcases hw with rfl | rfl
    ·show SeqAt.EqAt _ _ _ _ (if p1=p1 then _ else _);rw [if_pos rfl];exact e1
    ·show SeqAt.EqAt _ _ _ _ (if p2=p1 then _ else _);rw [if_neg (Ne.symm ne)];exact e2'
   ·have:(#[Value.ref p1,Value.ref p2].any (e2 p1 (PyData.eqv d1 d) (PyData.eqv d2 d)))=(PyData.eqv d1 d || PyData.eqv d2 d):=by
     show ([Value.ref p1,Value.ref p2].toArray.any _)=_;rw [show ([Value.ref p1,Value.ref p2].toArray.any (e2 p1 (PyData.eqv d1 d) (PyData.eqv d2 d)))=[Value.ref p1,Value.ref p2].any (e2 p1 (PyData.eqv d1 d) (PyData.eqv d2 d)) by simp];show ((if p1=p1 then PyData.eqv d1 d else PyData.eqv d2 d) || ((if p2=p1 then PyData.eqv d1 d else PyData.eqv d2 d) || false))=_;rw [if_pos rfl,if_neg (Ne.symm ne),Bool.or_false]
    rw [show ([Value.ref p1,Value.ref p2].toArray.any (e2 p1 (PyData.eqv d1 d) (PyData.eqv d2 d)))=(PyData.eqv d1 d || PyData.eqv d2 d) from this];exact q
end L2
namespace L2
open PySem PySem.Spec PyProof.Rows
theorem zDz {X:Cx}{CX:CXT}{k:Nat}{ps:List Str}{sp:Addr→Sp}{E:St→XK}{m:Str}{pos apos:Pos}{o:Expr}{ta:TE}{D:Addr→Prop}{pl:Sem Bool} (he:PE X o ta) (F:∀ C,D C→Disp X.prog X.w X.K X.mg X.base CX k m ps (sp C) C) (hr:Room k X.A) (hx:Passes CX X E)
  (ht:eval (.Call (.Attribute o m apos) [] [] pos) X.env=(do
   let ov ← eval o X.env
   standAt apos.atName
   let (f,first) ← holding [ov] (getMethod ov m pl)
   callWith pos f first (backTo pos (starEach [] X.env)) (backToKw pos (keywordEach [] X.env))):=by rfl):PE X (.Call (.Attribute o m apos) [] [] pos) (tMethD D m sp E ta tNil):=by
 intro pins s σ H Q I h;refine PySem.W.methodCall_KW (pl:=pl) (thn (he pins s σ H _ I h) fun u s1 ⟨x,H1,I1,rx,a,C,dx,fs,ex,ea,hD,l,q⟩=>?_) ht;obtain ⟨⟨f,fd,c,hm,G,hb⟩⟩:=F C hD;subst ex;obtain rfl:u=Value.ref a:=rx;refine zC2 I1 ea c hm l ?_;exact PySem.W.callWith_K0 (first:=[.ref a]) I1.kIn hm.kp (zEo (us:=[.ref a]) (vs:=[.ref a]) (dvs:=[]) G hr hb .nil hx I1 (.cons rfl .nil) (by rw [List.append_nil];exact q))
theorem zBn {X:Cx}:CallR X (.type "dict") (fun xs H Q=>∃ a kvs,xs=[.ref a]∧Rd H a (.dK kvs)∧∀ p,H p=none→Q (.ref p) (upd H p (.dK kvs))):=by
 intro pins s σ H xs us Q I r h;obtain ⟨a,kvs,rfl,e,q⟩:=h;obtain ⟨u,rfl,ru⟩:=r.one;cases (show u=Value.ref a from ru);exact d_copyOf I e fun p s' hp I'=>⟨.ref p,_,I',rfl,q p hp⟩
end L2
namespace L2.W
open PySem PySem.Spec PyProof.Rows
noncomputable def zDz:=by have h:=@L2.zDz;rw [ePE] at h;exact @h
end L2.W
namespace My
open PySem L2
noncomputable def top (i:Nat):Stmt:=PySem.Challenge.pw_cometorest_k23_old_ones_and_other_wishin.main.body.getD i (.Pass ⟨0,0,0,0⟩)
noncomputable abbrev sIsName:Stmt:=top 15
noncomputable abbrev sIsWhole:Stmt:=top 16
noncomputable abbrev sWholeFrom:Stmt:=top 17
noncomputable abbrev sUnlike:Stmt:=top 18
noncomputable abbrev sPair:Stmt:=top 19
noncomputable abbrev sFields:Stmt:=top 20
noncomputable abbrev sCount:Stmt:=top 21
noncomputable abbrev sInit:Stmt:=inClass (top 22) 0
noncomputable abbrev sPicks:Stmt:=top 23
noncomputable abbrev sStates:Stmt:=top 24
noncomputable abbrev sIsState:Stmt:=top 25
noncomputable abbrev sPlaceOf:Stmt:=top 26
noncomputable abbrev sHasVal:Stmt:=top 27
noncomputable abbrev sWithVal:Stmt:=top 28
noncomputable abbrev sAreKinds:Stmt:=top 29
noncomputable abbrev sPlaced:Stmt:=top 30
noncomputable abbrev sInitKs:Stmt:=inClass (top 31) 0
noncomputable abbrev sOrder:Stmt:=inClass (top 31) 1
noncomputable abbrev sOf:Stmt:=inClass (top 31) 2
noncomputable abbrev sWritten:Stmt:=top 36
noncomputable abbrev sHasForm:Stmt:=top 37
noncomputable abbrev sPartsOf:Stmt:=top 38
noncomputable abbrev sNameOf:Stmt:=top 39
noncomputable abbrev sCheckMark:Stmt:=top 41
noncomputable abbrev sCheckOwner:Stmt:=top 42
noncomputable abbrev sInitD:Stmt:=inClass (top 43) 0
noncomputable abbrev sInitM:Stmt:=inClass (top 44) 0
noncomputable abbrev sSeenM:Stmt:=inClass (top 44) 2
noncomputable abbrev sSuitM:Stmt:=inClass (top 44) 3
noncomputable abbrev sInitS:Stmt:=inClass (top 45) 0
noncomputable abbrev sSeenS:Stmt:=inClass (top 45) 2
noncomputable abbrev sSuitS:Stmt:=inClass (top 45) 3
noncomputable abbrev sAftS:Stmt:=inClass (top 45) 4
noncomputable abbrev sInitT:Stmt:=inClass (top 46) 0
noncomputable abbrev sSeenT:Stmt:=inClass (top 46) 2
noncomputable abbrev sSuitT:Stmt:=inClass (top 46) 3
noncomputable abbrev sPairOf:Stmt:=top 50
noncomputable abbrev sPairsOf:Stmt:=top 51
noncomputable abbrev sIsRow:Stmt:=top 52
noncomputable abbrev sAreRows:Stmt:=top 53
noncomputable abbrev sEach:Stmt:=top 54
noncomputable abbrev sCountW:Stmt:=top 55
noncomputable abbrev sWEach:Stmt:=top 56
noncomputable abbrev sWBy:Stmt:=top 57
noncomputable abbrev sInitW:Stmt:=inClass (top 58) 0
noncomputable abbrev sInitL:Stmt:=inClass (top 60) 0
noncomputable abbrev sLThing:Stmt:=inClass (top 60) 1
noncomputable abbrev sLState:Stmt:=inClass (top 60) 2
noncomputable abbrev sLMark:Stmt:=inClass (top 60) 3
noncomputable abbrev sLNames:Stmt:=inClass (top 60) 4
noncomputable abbrev sLTurn:Stmt:=inClass (top 60) 6
noncomputable abbrev sLLast:Stmt:=inClass (top 60) 7
noncomputable abbrev sLFull:Stmt:=inClass (top 60) 8
noncomputable abbrev sAreLimits:Stmt:=top 62
noncomputable abbrev sIsLate:Stmt:=top 63
noncomputable abbrev sWordFor:Stmt:=top 64
noncomputable abbrev sInitWo:Stmt:=inClass (top 65) 0
noncomputable abbrev sLook:Stmt:=inClass (top 65) 1
noncomputable abbrev sPut:Stmt:=inClass (top 65) 2
noncomputable abbrev sTell:Stmt:=inClass (top 65) 3
noncomputable abbrev sDo:Stmt:=inClass (top 65) 4
noncomputable abbrev sCarry:Stmt:=inClass (top 65) 5
noncomputable abbrev sKeep:Stmt:=inClass (top 65) 6
noncomputable abbrev sMixed:Stmt:=top 68
noncomputable abbrev sSource:Stmt:=top 69
noncomputable abbrev sNext:Stmt:=top 70
noncomputable abbrev sDue:Stmt:=top 71
noncomputable abbrev sDeed:Stmt:=top 72
noncomputable abbrev sLaw:Stmt:=top 73
noncomputable def letters:Str:="abcdefghijklmnopqrstuvwxyz"
structure Tops (K:PySem.W.Frag) (mg:Str→Option Value):Prop where
 isinst:mg "isinstance" = none
 len:mg "len" = none
 all:mg "all" = none
 set:mg "set" = none
 str:mg "str" = none
 list:mg "list" = none
 tuple:mg "tuple" = none
 dict:mg "dict" = none
 min:mg "min" = none
 sorted:mg "sorted" = none
 enum:mg "enumerate" = none
 int:mg "int" = none
 bool:mg "bool" = none
 sum:mg "sum" = none
 max:mg "max" = none
 lets:∃ t,mg "LETTERS" = some (.str letters t)
 most:∃ t,mg "MOST_LETTERS" = some (.int 8 t)
 mostS:∃ t,mg "MOST_STATES" = some (.int 8 t)
 figs:∃ t,mg "FIGURES" = some (.str "0123456789" t)
 mostF:∃ t,mg "MOST_FIGURES" = some (.int 6 t)
 mostN:∃ t,mg "MOST_NUMBER" = some (.int 999999 t)
 mostM:∃ t,mg "MOST_MANY" = some (.int 60 t)
 mostW:∃ t,mg "MOST_WISHED" = some (.int 60 t)
noncomputable def charB (c:Nat):Bool:=decide (c∈letters.cps.toList)
noncomputable def nameB (x:Str):Bool:=decide (1≤x.length) && decide (x.length≤8) && x.cps.toList.all charB
noncomputable def spIsName (K:PySem.W.Frag):Sp:=fun vs H Q _=>(∃ x,vs=[.str x]∧x.length≤1000∧∀ H',Same H H'→Q (.bl (nameB x)) H') ∨
 ∃ v t,vs=[v]∧TyOf K H v t∧PySem.W.kitOne K t (.type "str")=some false∧Q (.bl false) H
section
variable {P:Program}{w:World}{K:PySem.W.Frag}{mg:Str→Option Value}{base:Heap}{CX:CXT}
theorem scIN:FnScope ["thing"] ["thing"] (defScope sIsName):=⟨rfl,rfl,rfl,by decide +kernel,rfl,by decide +kernel,by decide +kernel⟩
theorem ok_isName {f:Addr}{fd:FuncData} (F:Fun K "is_name" "is_name" sIsName f fd) (T:Tops K mg):FnOk P w K mg base CX 1 f fd ["thing"] (spIsName K):=by
 refine F.okC scIN (fun vs H Q E h=>?_) (fun cdv A outer s H vs Q E hr h=>?_)
 ·rcases h with ⟨x,rfl,_⟩ | ⟨v,t,rfl,_⟩ <;> rfl
 ·obtain ⟨tl,hlets⟩:=T.lets;obtain ⟨tm,hmost⟩:=T.most
  refine ⟨_,zA2 (zAj (zAm (zAk (zA9 zAg rfl T.isinst PyProof.Rows.boot_isinstance (zA0 (pv 0) (zA0 (zB2 (v:=.ty "str") rfl T.str PyProof.Rows.boot_str rfl) zA3))))) (zA4 (zAb zBq)) zAa)
   (zA4 (zAb (zC1 (zF4 zEi zEi zA7 (zA9 zCl rfl T.len PySem.boot_len (zA0 (pv 0) zA3)) (zBc (v:=.int 8) rfl hmost ⟨_,rfl⟩))
    (zCe (zA9 (zBb rfl) rfl T.all PyProof.Rows.boot_all (zA0 (zAr (T:=["sign"]) rfl ScOk.auto (pi_str (pv 0)) (fun _ _ _ _=>zAf (i:=1) (by decide +kernel:(["thing", "sign"]:List Str).Nodup) rfl (Or.inl rfl)) (fun _ _ _ _=>zB3)
     (fun _ _ _ _=>zBk op_in_str (pv 1) (zBc (v:=.str letters) rfl hlets ⟨_,rfl⟩) rfl)) zA3)))))),?_⟩
  rcases h with ⟨x,rfl,hx,k⟩ | ⟨v,t,rfl,ty,hk,k⟩
  ·refine ⟨_,rfl,_,_,_,_,_,rfl,.str x,rfl,rfl,_,rfl,iteF ?_⟩;have hz:x.length≤sizeLine:=Zd (small1000 hx);refine ⟨_,rfl,x,rfl,hz,_,_,rfl,rfl,_,rfl,?_⟩;refine ite2 (fun h1=>?_) (fun h1=>?_)
   ·refine ⟨_,_,rfl,rfl,_,rfl,?_⟩;refine ite2 (fun h2=>?_) (fun h2=>?_)
    ·refine ⟨_,rfl,x,rfl,zDl (fun _=>true) (fun c=>.bl (charB c)) hz (fun c Ry Rn q _=>?_) (fun d hd=>?_)⟩
     ·refine iteT (B:=Rn H) ⟨_,rfl,_,_,rfl,rfl,?_⟩;rw [PySem.StrLaws.found_one];exact q rfl
     ·refine ⟨d,x.cps.toList.map charB,rfl,SqL.of ?_,?_⟩
      ·rw [zA1,List.filter_eq_self.mpr (fun _ _=>rfl),Yh];rfl
      ·have e:nameB x=(x.cps.toList.map charB).all id:=by
        have a1:1≤x.length:=by have:=of_decide_eq_true h1;omega
        have a2:x.length≤8:=by have:=of_decide_eq_true h2;omega
        unfold nameB;rw [decide_eq_true a1,decide_eq_true a2,Yg];rfl
       rw [← e];exact k _ (Same.new hd)
    ·have a2:¬ x.length≤8:=fun z=>h2 (decide_eq_true (by omega));have e:nameB x=false:=by unfold nameB;rw [decide_eq_false a2];simp
     rw [← e];exact k _ (Same.refl _)
   ·have a1:¬ 1≤x.length:=fun z=>h1 (decide_eq_true (by omega));have e:nameB x=false:=by unfold nameB;rw [decide_eq_false a1];simp
    refine ⟨false,rfl,iteF ?_⟩;rw [← e];exact k _ (Same.refl _)
  ·exact ⟨_,rfl,_,_,_,_,_,rfl,ty,rfl,hk,_,rfl,iteT k⟩
end
noncomputable def spIsWhole (K:PySem.W.Frag):Sp:=fun vs H Q _=>∃ v t b c,vs=[v]∧TyOf K H v t∧PySem.W.kitOne K t (.type "int")=some b∧PySem.W.kitOne K t (.type "bool")=some c∧Q (.bl (b && !c)) H
section
variable {P:Program}{w:World}{K:PySem.W.Frag}{mg:Str→Option Value}{base:Heap}{CX:CXT}
theorem scIW:FnScope ["thing"] ["thing"] (defScope sIsWhole):=⟨rfl,rfl,rfl,by decide +kernel,rfl,by decide +kernel,by decide +kernel⟩
theorem zDj {f:Addr}{fd:FuncData} (F:Fun K "is_whole" "is_whole" sIsWhole f fd) (T:Tops K mg):FnOk P w K mg base CX 1 f fd ["thing"] (spIsWhole K):=by
 refine F.okC scIW (fun vs H Q E h=>?_) (fun cdv A outer s H vs Q E hr h=>?_)
 ·obtain ⟨v,t,b,c,rfl,_⟩:=h;rfl
 ·obtain ⟨v,t,b,c,rfl,ty,hb,hc,k⟩:=h
  refine ⟨_,zA4 (zAb (zC1 (zA9 zAg rfl T.isinst PyProof.Rows.boot_isinstance (zA0 (pv 0) (zA0 (zB2 (v:=.ty "int") rfl T.int PyProof.Rows.boot_int rfl) zA3)))
   (zCe (pe_not (zA9 zAg rfl T.isinst PyProof.Rows.boot_isinstance (zA0 (pv 0) (zA0 (zB2 (v:=.ty "bool") rfl T.bool PyProof.Rows.boot_bool rfl) zA3))))))),?_⟩
  refine ⟨_,rfl,_,_,_,_,_,rfl,ty,rfl,hb,_,rfl,?_⟩;cases b with
  | true=>exact iteT ⟨_,rfl,_,_,_,_,_,rfl,ty,rfl,hc,_,rfl,k⟩
  | false=>exact iteF k
end
noncomputable def spMixed:Sp:=fun vs H Q _=>∃ c k:Int,vs=[.int c,.int k]∧0≤k∧k≤1000000∧∀ n:Int,0≤n→n < 2147483629→Q (.int n) H
noncomputable def Src (H:Hp) (p:Addr) (k:Int):Prop:=∃ a c j:Int,H p=some (.lst [.int a,.int c,.int j])∧0≤j∧j≤k
noncomputable def spDigits:Sp:=fun vs H Q _=>∃ c:Int,vs=[.int c]∧∀ p H',H p=none→Src H' p 0→Same H H'→(∀ b,b≠p→H' b=H b)→Q (.ref p) H'
noncomputable def spNext:Sp:=fun vs H Q _=>∃ (p:Addr) (m k:Int),vs=[.ref p,.int m]∧Src H p k∧k≤999998∧0 < m∧m < 2 ^ 64 ∧
 ∀ (r:Int) (H':Hp),0≤r→r < m→Src H' p (k + 1)→(∀ b,b≠p→H' b=H b)→Q (.int r) H'
section
variable {P:Program}{w:World}{K:PySem.W.Frag}{mg:Str→Option Value}{base:Heap}{CX:CXT}
theorem scMx:FnScope ["_law_cell", "_law_k", "_law_number"] ["_law_cell", "_law_k"] (defScope sMixed):=⟨rfl,rfl,rfl,by decide +kernel,rfl,by decide +kernel,by decide +kernel⟩
theorem ok_mixed {f:Addr}{fd:FuncData} (F:Fun K "_law_mixed" "_law_mixed" sMixed f fd):FnOk P w K mg base CX 1 f fd ["_law_cell", "_law_k"] spMixed:=by
 refine F.okC scMx (fun vs H Q E h=>?_) (fun cdv A outer s H vs Q E hr h=>?_)
 ·obtain ⟨c,k,rfl,_⟩:=h;rfl
 ·obtain ⟨c,k,rfl,h0,h1,q⟩:=h
  refine ⟨_,zA2 (zAd (i:=2) scMx.nd rfl (Or.inl rfl) (zAt zD6 (zAt zDp (zAt zBs (zAt zBs (zAt zD6 (pv 0) zA7) (zAt zDp zA7 (pv 1))) zA7) zA7) zA7))
   (zA2 (zAd (i:=2) scMx.nd rfl (Or.inl rfl) (zAt zD6 (zAt zDp (pv 2) (zAt zBs (zAt zF6 (pv 2) zA7) zA7)) zA7))
   (zA2 (zAd (i:=2) scMx.nd rfl (Or.inl rfl) (zAt zD6 (zAt zDp (pv 2) (zAt zBs (zAt zBs (zAt zF6 (pv 2) zA7) zA7) (pv 1))) zA7))
   (zA4 (zAb (zAt zD6 (zAt zDp (pv 2) (zAt zBs (zAt zF6 (pv 2) zA7) zA7)) zA7))))),?_⟩
  have M:(0:Int) < 2147483629:=by decide
  have lo:∀ z:Int,0≤z % 2147483629:=fun z=>Int.emod_nonneg _ (by decide);have hi:∀ z:Int,z % 2147483629 < 2147483629:=fun z=>Ye _ M;have cm:∀ z y:Int,CMul (z % 2147483629) y:=fun z y=>by have:=lo z;have:=hi z;exact .inl ⟨by omega,by omega⟩
  refine ⟨_,rfl,_,_,rfl,rfl,M,_,rfl,_,_,rfl,rfl,.inl ⟨by decide,by decide⟩,_,_,rfl,rfl,_,_,rfl,rfl,_,_,rfl,rfl,.inr ⟨by decide,by decide⟩,_,_,rfl,rfl,M,?_⟩;refine ⟨_,rfl,_,rfl,_,_,rfl,rfl,⟨by decide,by decide⟩,_,_,rfl,rfl,_,_,rfl,rfl,cm _ _,_,_,rfl,rfl,M,?_⟩;refine ⟨_,rfl,_,rfl,_,_,rfl,rfl,⟨by decide,by decide⟩,_,_,rfl,rfl,_,rfl,_,_,rfl,rfl,_,_,rfl,rfl,cm _ _,_,_,rfl,rfl,M,?_⟩;refine ⟨_,rfl,_,rfl,_,_,rfl,rfl,⟨by decide,by decide⟩,_,_,rfl,rfl,_,_,rfl,rfl,cm _ _,_,_,rfl,rfl,M,?_⟩;exact q _ (lo _) (hi _)
theorem scDg:FnScope ["_law_cell"] ["_law_cell"] (defScope sSource):=⟨rfl,rfl,rfl,by decide +kernel,rfl,by decide +kernel,by decide +kernel⟩
theorem ok_digits {f:Addr}{fd:FuncData} (F:Fun K "_law_source" "_law_source" sSource f fd):FnOk P w K mg base CX 1 f fd ["_law_cell"] spDigits:=by
 refine F.okC scDg (fun vs H Q E h=>?_) (fun cdv A outer s H vs Q E hr h=>?_)
 ·obtain ⟨c,rfl,_⟩:=h;rfl
 ·obtain ⟨c,rfl,q⟩:=h;refine ⟨_,zA4 (zAb (zB4 (zA0 (zAt zDp (zAt zF6 (pv 0) zA7) (zAt op_sub zA7 (zAt zD6 (pv 0) zA7))) (zA0 (pv 0) (zA0 zA7 zA3))))),?_⟩;have a1:0≤c % 2:=Int.emod_nonneg _ (by decide);have a2:c % 2 < 2:=Ye _ (by decide);refine ⟨_,rfl,_,_,rfl,rfl,⟨by decide,by decide⟩,_,rfl,_,_,rfl,rfl,(by show (0:Int) < 2;decide),_,_,rfl,rfl,_,_,rfl,rfl,.inr ⟨by omega,by omega⟩,_,rfl,(by show 3≤sizeLine;decide),fun p hp=>?_⟩;exact q p _ hp ⟨_,_,0,zA1,by decide,by decide⟩ (Same.new hp) fun b hb=>zA6 hb
theorem scNx:FnScope ["_law_source_here", "_law_many", "_law_found"] ["_law_source_here", "_law_many"] (defScope sNext):=⟨rfl,rfl,rfl,by decide +kernel,rfl,by decide +kernel,by decide +kernel⟩
theorem ok_next {f fm:Addr}{fd fdm:FuncData} (hC:Calm CX) (F:Fun K "_law_next" "_law_next" sNext f fd) (DM:Def K mg "_law_mixed" sMixed ["_law_cell", "_law_k"] fm fdm):FnOk P w K mg base CX 2 f fd ["_law_source_here", "_law_many"] spNext:=by
 have GM:FnOk P w K mg base CX 1 fm fdm ["_law_cell", "_law_k"] spMixed:=ok_mixed DM.fn;refine F.okC scNx (fun vs H Q E h=>?_) (fun cdv A outer s H vs Q E hr h=>?_)
 ·obtain ⟨p,m,k,rfl,_⟩:=h;rfl
 ·obtain ⟨p,m,k,rfl,⟨a,c,j,hp,j0,j1⟩,hk,m0,m1,q⟩:=h
  refine ⟨_,zA2 (zAj (zAh op_gt (zAu zBi (pv 0) zA7 (fun _ _=>rfl)) zA7 (nomark _))
    (zA2 (zAd (i:=2) scNx.nd rfl (Or.inl rfl) (zAt zD6 (zAu zBi (pv 0) zA7 (fun _ _=>rfl)) (pv 1)))
    (zA2 (zEp (zAt op_fdivB (zAu zBi (pv 0) zA7 (fun _ _=>rfl)) (pv 1)) (pg_sub (pv 0) zA7 set_list))
    (zA4 (zAb (pv 2))))) zAa)
   (zA2 (zEp (zAt zBs (zAu zBi (pv 0) zA7 (fun _ _=>rfl)) zA7) (pg_sub (pv 0) zA7 set_list))
   (zA4 (zAb (zAt zD6 (zA8 GM hr rfl DM.at_ DM.fn.kp DM.bind .nil (passC hC) (zA0 (zAu zBi (pv 0) zA7 (fun _ _=>rfl)) (zA0 (zAu zBi (pv 0) zA7 (fun _ _=>rfl)) zA3))) (pv 1))))),?_⟩
  have S0:SqL K H p [.int a,.int c,.int j]:=SqL.of hp;refine ⟨_,rfl,p,_,_,_,rfl,rfl,S0,rfl,_,_,rfl,rfl,_,rfl,?_⟩;refine ite2 (fun h0=>?_) (fun h0=>?_)
  ·refine ⟨_,rfl,p,_,_,_,rfl,rfl,S0,rfl,_,rfl,_,_,rfl,rfl,m0,?_⟩;refine ⟨_,rfl,p,_,_,_,rfl,rfl,S0,rfl,_,rfl,_,_,rfl,rfl,⟨m0,m1⟩,?_⟩;refine ⟨_,rfl,p,_,_,0,rfl,rfl,hp,rfl,?_⟩;refine ⟨_,rfl,q _ _ (Int.emod_nonneg _ (by omega)) (Ye _ m0) ⟨_,_,j,zA1,j0,by omega⟩ fun b hb=>zA6 hb⟩
  ·refine ⟨_,rfl,p,_,_,_,rfl,rfl,S0,rfl,_,_,rfl,rfl,?_⟩;refine ⟨_,rfl,p,_,_,2,rfl,rfl,hp,rfl,?_⟩;have S1:SqL K (upd H p (.lst [.int a,.int c,.int (j + 1)])) p [.int a,.int c,.int (j + 1)]:=SqL.of zA1;refine ⟨_,rfl,p,_,_,_,rfl,rfl,S1,rfl,_,rfl,p,_,_,_,rfl,rfl,S1,rfl,c,j + 1,rfl,by omega,by omega,fun n n0 n1=>?_⟩;refine ⟨_,rfl,_,_,rfl,rfl,m0,?_⟩;exact q _ _ (Int.emod_nonneg _ (by omega)) (Ye _ m0) ⟨_,_,j + 1,zA1,by omega,by omega⟩ fun b hb=>zA6 hb
end
noncomputable def nameD:PyData→Bool
 | .str x=>nameB x
 | _=>false
noncomputable def strsOf:List PyData→List Str
 | .str x :: r=>x :: strsOf r
 | _ :: r=>strsOf r
 | []=>[]
noncomputable def unlikeB (ds:List PyData):Bool:=ds.all nameD && decide (strsOf ds).Nodup
noncomputable def pairB:PyData→Bool
 | .tuple [_,.list vs]=>decide (0 < vs.length) && unlikeB vs
 | _=>false
noncomputable def firstD:PyData→PyData
 | .tuple (d :: _)=>d
 | _=>.none
noncomputable def fieldsB:PyData→Bool
 | .list ds=>ds.all pairB && unlikeB (ds.map firstD)
 | _=>false
noncomputable def spNameD:Sp:=fun vs H Q _=>∃ v d,vs=[v]∧Has Any H v d∧∀ H',Same H H'→Q (.bl (nameD d)) H'
noncomputable def spUnlike:Sp:=fun vs H Q _=>∃ v ds,vs=[v]∧Has Any H v (.list ds)∧∀ H',Same H H'→Q (.bl (unlikeB ds)) H'
noncomputable def spPair:Sp:=fun vs H Q _=>∃ v d,vs=[v]∧Has Any H v d∧∀ H',Same H H'→Q (.bl (pairB d)) H'
noncomputable def spFields:Sp:=fun vs H Q _=>∃ v d,vs=[v]∧Has Any H v d∧∀ H',Same H H'→Q (.bl (fieldsB d)) H'
theorem strs_all {G:Addr→Prop}{H:Hp}:∀ {xs:List V}{ds:List PyData},HasAll G H xs ds→ds.all nameD=true→xs=(strsOf ds).map V.str∧(strsOf ds).length=ds.length
 | _,_,.nil,_=>⟨rfl,rfl⟩
 | _,_,.cons h t,e=>by
  rw [Y9,Zj] at e;obtain ⟨e1,e2⟩:=e;obtain ⟨q1,q2⟩:=strs_all t e2;cases h with
  | str x _ _=>exact ⟨by rw [q1];rfl,by rw [strsOf,Zg,Zg,q2]⟩
  | non=>cases e1
  | bl b=>cases e1
  | int i=>cases e1
  | lst _ _ _ _=>cases e1
  | tup _ _ _ _=>cases e1
section
variable {P:Program}{w:World}{K:PySem.W.Frag}{mg:Str→Option Value}{base:Heap}{CX:CXT}
theorem name_imp {vs:List V}{H:Hp}{Q:VK}{E:XK} (h:spNameD vs H Q E):spIsName K vs H Q E:=by
 obtain ⟨v,d,rfl,hd,q⟩:=h;cases hd with
 | str x hx ho=>exact .inl ⟨x,rfl,hx,q⟩
 | non=>exact .inr ⟨_,_,rfl,.non,rfl,q _ (Same.refl _)⟩
 | bl b=>exact .inr ⟨_,_,rfl,.bl b,rfl,q _ (Same.refl _)⟩
 | int i=>exact .inr ⟨_,_,rfl,.int i,rfl,q _ (Same.refl _)⟩
 | lst _ e _ _=>exact .inr ⟨_,_,rfl,.lst e,rfl,q _ (Same.refl _)⟩
 | tup _ e _ _=>exact .inr ⟨_,_,rfl,.tup e,rfl,q _ (Same.refl _)⟩
theorem zD8 {f:Addr}{fd:FuncData} (F:Fun K "is_name" "is_name" sIsName f fd) (T:Tops K mg):FnOk P w K mg base CX 1 f fd ["thing"] spNameD:=(ok_isName F T).imp fun _ _ _ _ h=>name_imp h
theorem scUl:FnScope ["things"] ["things"] (defScope sUnlike):=⟨rfl,rfl,rfl,by decide +kernel,rfl,by decide +kernel,by decide +kernel⟩
theorem zD7 {f fn:Addr}{fd fdn:FuncData} (hC:Calm CX) (T:Tops K mg) (F:Fun K "are_unlike_names" "are_unlike_names" sUnlike f fd) (DN:Def K mg "is_name" sIsName ["thing"] fn fdn):FnOk P w K mg base CX 2 f fd ["things"] spUnlike:=by
 have GN:FnOk P w K mg base CX 1 fn fdn ["thing"] spNameD:=zD8 DN.fn T;refine F.okC scUl (fun vs H Q E h=>?_) (fun cdv A outer s H vs Q E hr h=>?_)
 ·obtain ⟨v,ds,rfl,_⟩:=h;rfl
 ·obtain ⟨v,ds,rfl,hd,k⟩:=h;obtain ⟨a,xs,rfl,_,ha,hz,hx⟩:=hd.list_inv;have hzl:xs.length≤sizeLine:=Zd (small1000 hz)
  refine ⟨_,zA4 (zAb (zC1 (zA9 (zBb rfl) rfl T.all PyProof.Rows.boot_all (zA0 (zAr (T:=["thing"]) rfl ScOk.auto (zAn (pv 0)) (fun _ _ _ _=>zAf (i:=1) (by decide +kernel:(["things", "thing"]:List Str).Nodup) rfl (Or.inl rfl)) (fun _ _ _ _=>zB3)
    (fun _ _ _ _=>zA8 GN hr rfl DN.at_ DN.fn.kp DN.bind .nil (passC hC) (zA0 (pv 1) zA3))) zA3))
   (zCe (zBk zCt (zA9 zDn rfl T.len PySem.boot_len (zA0 (zB1 (zFe rfl) rfl T.set PyProof.Rows.boot_set (zA0 (pv 0) zA3)) zA3)) (zA9 zAv rfl T.len PySem.boot_len (zA0 (pv 0) zA3)) (nomark _))))),?_⟩
  refine ⟨_,rfl,a,rfl,⟨xs,SqL.of ha⟩,zAo (xs:=xs) (fun i ys H'=>Same H H'∧ys=(ds.take i).map fun d=>V.bl (nameD d)) ⟨Same.refl _,rfl⟩ (fun i ys H' p=>SqL.of (p.1 _ _ ha)) (fun i ys H' hi p=>?_) ?_ ?_⟩
  ·rw [p.2,Z1];have:=Zp i ds;omega
  ·rintro i x ys H' hi ⟨s1,rfl⟩ N hN;obtain ⟨d,hd',hv⟩:=hx.get hi;refine pick ?_;refine ⟨_,rfl,_,d,rfl,hv.mono s1,fun H2 s2=>hN _ _ ⟨s1.trans s2,?_⟩⟩;rw [Zk,hd',Zu];rfl
  ·rintro ys H' ⟨s1,rfl⟩ p hp;have e:(ds.take xs.length).map (fun d=>V.bl (nameD d))=(ds.map nameD).map V.bl:=by
    rw [hx.length,Zm,Yh];rfl
   have s2:Same H (upd H' p (.lst ((ds.take xs.length).map fun d=>V.bl (nameD d)))):=s1.trans (Same.new hp);refine ⟨p,ds.map nameD,rfl,SqL.of (by rw [zA1,e]),_,rfl,?_⟩;have ea:(ds.map nameD).all id=ds.all nameD:=by rw [Yg];rfl
   rw [ea];cases eb:ds.all nameD with
   | false =>
    refine iteF ?_;have e0:unlikeB ds=false:=by unfold unlikeB;rw [eb];rfl
    rw [← e0];exact k _ s2
   | true =>
    refine iteT ?_;obtain ⟨q1,q2⟩:=strs_all hx eb;subst q1;have ha2:=s2 _ _ ha;have hz4:(strsOf ds).length≤4000:=by rw [Z1] at hz;omega
    refine ⟨_,rfl,a,strsOf ds,rfl,SqL.of ha2,hz4,fun d hd2=>?_⟩;refine ⟨d,strsOf ds,rfl,zA1,hz4,?_⟩;refine ⟨_,rfl,a,_,rfl,.inl (SqL.of ((Same.new hd2) _ _ ha2)),rfl,?_⟩;have e1:decide (V.int ((dl (strsOf ds)).length:Int)=V.int (((strsOf ds).map V.str).length:Int))=unlikeB ds:=by
     unfold unlikeB;rw [eb,Bool.true_and,← dl_len_iff,Z1];by_cases q:(dl (strsOf ds)).length=(strsOf ds).length
     ·rw [decide_eq_true q,q];simp
     ·rw [decide_eq_false q,decide_eq_false];intro z;injection z with z;omega
    rw [e1];exact k _ (s2.trans (Same.new hd2))
end
noncomputable def sizeD:PyData→Nat
 | .tuple [_,.list vs]=>vs.length
 | _=>0
noncomputable def countD (ds:List PyData):Int:=ds.foldl (fun m d=>m * (sizeD d:Int)) 1
noncomputable def spCount:Sp:=fun vs H Q _=>∃ v ds,vs=[v]∧Has Any H v (.list ds)∧ds.all pairB=true∧Q (.int (countD ds)) H
theorem zF5 {G:Addr→Prop}{H:Hp}{v:V}{d:PyData} (h:Has G H v d) (e:pairB d=true) :
  ∃ a x y n l vs ys,v=.ref a∧G a∧H a=some (.tup [x,y])∧d=.tuple [n,.list vs]∧Has G H x n∧y=.ref l∧G l∧H l=some (.lst ys)∧ys.length≤1000∧HasAll G H ys vs∧0 < vs.length∧unlikeB vs=true:=by
 cases h with
 | non=>cases e
 | bl b=>cases e
 | int i=>cases e
 | str x _ _=>cases e
 | lst _ _ _ _=>cases e
 | tup g s z q =>
  cases q with
  | nil=>cases e
  | cons h1 q =>
   cases q with
   | nil=>cases e
   | cons h2 q =>
    cases q with
    | cons _ _=>cases h2 <;> cases e
    | nil =>
     cases h2 with
     | non=>cases e
     | bl b=>cases e
     | int i=>cases e
     | str x _ _=>cases e
     | tup _ _ _ _=>cases e
     | lst g2 s2 z2 q2 =>
      have e':(decide _ && unlikeB _)=true:=e;rw [Zj] at e';exact ⟨_,_,_,_,_,_,_,rfl,g,s,rfl,h1,rfl,g2,s2,z2,q2,of_decide_eq_true e'.1,e'.2⟩
section
variable {P:Program}{w:World}{K:PySem.W.Frag}{mg:Str→Option Value}{base:Heap}{CX:CXT}
theorem scPr:FnScope ["thing", "values"] ["thing"] (defScope sPair):=⟨rfl,rfl,rfl,by decide +kernel,rfl,by decide +kernel,by decide +kernel⟩
theorem ok_pair {f fu fn:Addr}{fd fdu fdn:FuncData} (hC:Calm CX) (T:Tops K mg) (F:Fun K "is_pair_with_values" "is_pair_with_values" sPair f fd) (DN:Def K mg "is_name" sIsName ["thing"] fn fdn)
  (DU:Def K mg "are_unlike_names" sUnlike ["things"] fu fdu):FnOk P w K mg base CX 3 f fd ["thing"] spPair:=by
 have GU:FnOk P w K mg base CX 2 fu fdu ["things"] spUnlike:=zD7 hC T DU.fn DN;refine F.okC scPr (fun vs H Q E h=>?_) (fun cdv A outer s H vs Q E hr h=>?_)
 ·obtain ⟨v,d,rfl,_⟩:=h;rfl
 ·obtain ⟨v,d,rfl,hd,k⟩:=h
  refine ⟨_,zA2 (zAj (PW.pt (zCc (zAm (zAk (zA9 zAg rfl T.isinst PyProof.Rows.boot_isinstance (zA0 (pv 0) (zA0 (zB2 (v:=.ty "tuple") rfl T.tuple PyProof.Rows.boot_tuple rfl) zA3)))))
    (zBo (zAh zE2 (zA9 zAv rfl T.len PySem.boot_len (zA0 (pv 0) zA3)) zA7 (nomark _))))) (zA4 (zAb zBq)) zAa)
   (zA2 (zAd (i:=1) scPr.nd rfl (Or.inl rfl) (zAu zAq (pv 0) zA7 (fun _ _=>rfl)))
   (zA4 (zAb (zC1 (zA9 zAg rfl T.isinst PyProof.Rows.boot_isinstance (zA0 (pv 1) (zA0 (zB2 (v:=.ty "list") rfl T.list PyProof.Rows.boot_list rfl) zA3)))
    (zC1 (zBk op_gt (zA9 zAv rfl T.len PySem.boot_len (zA0 (pv 1) zA3)) zA7 (nomark _))
     (zCe (zA8 GU hr rfl DU.at_ DU.fn.kp DU.bind .nil (passC hC) (zA0 (pv 1) zA3)))))))),?_⟩
  have k0:pairB d=false→Q (.bl false) H:=fun e=>by rw [← e];exact k _ (Same.refl _)
  refine ⟨_,rfl,?_⟩;cases hd with
  | non=>exact ⟨_,_,_,_,_,rfl,.non,rfl,rfl,_,rfl,iteT (iteT (k0 rfl))⟩
  | bl b=>exact ⟨_,_,_,_,_,rfl,(.bl b),rfl,rfl,_,rfl,iteT (iteT (k0 rfl))⟩
  | int i=>exact ⟨_,_,_,_,_,rfl,(.int i),rfl,rfl,_,rfl,iteT (iteT (k0 rfl))⟩
  | str x _ _=>exact ⟨_,_,_,_,_,rfl,(.str x),rfl,rfl,_,rfl,iteT (iteT (k0 rfl))⟩
  | lst _ e _ _=>exact ⟨_,_,_,_,_,rfl,(.lst e),rfl,rfl,_,rfl,iteT (iteT (k0 rfl))⟩
  | @tup a xs ds _ e z q =>
   refine ⟨_,_,_,_,_,rfl,.tup e,rfl,rfl,_,rfl,iteF ?_⟩;refine ⟨_,rfl,a,xs,rfl,.inr (SqT.of e),rfl,_,rfl,?_⟩;have hl:=q.length;by_cases h2:xs.length=2
   ·rw [decide_eq_true (show V.int (xs.length:Int)=V.int 2 by rw [h2];rfl)];refine iteF ?_;obtain ⟨d0,d1,rfl⟩:∃ d0 d1,ds=[d0,d1]:=by
     match ds,hl.symm.trans h2 with
     | [d0,d1],_=>exact ⟨d0,d1,rfl⟩
    cases q with
    | @cons x0 _ _ _ q0 q =>
     cases q with
     | @cons x1 _ _ _ q1 q =>
      cases q;refine ⟨_,rfl,a,_,_,x1,rfl,rfl,SqT.of e,rfl,?_⟩;refine ⟨_,rfl,?_⟩;cases q1 with
      | non=>exact ⟨_,_,_,_,_,rfl,.non,rfl,rfl,_,rfl,iteF (k0 rfl)⟩
      | bl b=>exact ⟨_,_,_,_,_,rfl,(.bl b),rfl,rfl,_,rfl,iteF (k0 rfl)⟩
      | int i=>exact ⟨_,_,_,_,_,rfl,(.int i),rfl,rfl,_,rfl,iteF (k0 rfl)⟩
      | str x _ _=>exact ⟨_,_,_,_,_,rfl,(.str x),rfl,rfl,_,rfl,iteF (k0 rfl)⟩
      | tup _ e1 _ _=>exact ⟨_,_,_,_,_,rfl,(.tup e1),rfl,rfl,_,rfl,iteF (k0 rfl)⟩
      | @lst l ys vs g1 e1 z1 q1 =>
       refine ⟨_,_,_,_,_,rfl,.lst e1,rfl,rfl,_,rfl,iteT ?_⟩;refine ⟨_,rfl,l,ys,rfl,.inl (SqL.of e1),_,_,rfl,rfl,_,rfl,?_⟩;refine ite2 (fun h0=>?_) (fun h0=>?_)
       ·refine ⟨_,rfl,_,vs,rfl,.lst g1 e1 z1 q1,fun H' s'=>?_⟩;have e0:pairB (.tuple [d0,.list vs])=unlikeB vs:=by
         show (decide (0 < vs.length) && unlikeB vs)=_;rw [decide_eq_true,Bool.true_and];have:=q1.length;have:=of_decide_eq_true h0;omega
        rw [← e0];exact k _ s'
       ·refine k0 ?_;show (decide (0 < vs.length) && unlikeB vs)=_;rw [decide_eq_false,Bool.false_and];have:=q1.length;intro z0;exact h0 (decide_eq_true (by omega))
   ·rw [decide_eq_false (show ¬ V.int (xs.length:Int)=V.int 2 by intro z0;injection z0 with z0;omega)];refine iteT (k0 ?_)
    match ds,hl with
    | [],_=>rfl
    | [_],_=>rfl
    | [_,_],hl=>exact absurd hl h2
    | _ :: d1 :: _ :: _,_=>cases d1 <;> rfl
end
theorem all_get {ds:List PyData}{f:PyData→Bool}{i:Nat}{d:PyData} (h:ds.all f=true) (e:ds[i]? = some d):f d=true:=List.all_eq_true.mp h d (Ze e)
section
variable {P:Program}{w:World}{K:PySem.W.Frag}{mg:Str→Option Value}{base:Heap}{CX:CXT}
theorem scFd:FnScope ["things"] ["things"] (defScope sFields):=⟨rfl,rfl,rfl,by decide +kernel,rfl,by decide +kernel,by decide +kernel⟩
theorem ok_fields {f fp fu fn:Addr}{fd fdp fdu fdn:FuncData} (hC:Calm CX) (T:Tops K mg) (F:Fun K "are_fields" "are_fields" sFields f fd) (DN:Def K mg "is_name" sIsName ["thing"] fn fdn)
  (DU:Def K mg "are_unlike_names" sUnlike ["things"] fu fdu) (DP:Def K mg "is_pair_with_values" sPair ["thing"] fp fdp):FnOk P w K mg base CX 4 f fd ["things"] spFields:=by
 have GU:FnOk P w K mg base CX 2 fu fdu ["things"] spUnlike:=zD7 hC T DU.fn DN;have GP:FnOk P w K mg base CX 3 fp fdp ["thing"] spPair:=ok_pair hC T DP.fn DN DU;refine F.okC scFd (fun vs H Q E h=>?_) (fun cdv A outer s H vs Q E hr h=>?_)
 ·obtain ⟨v,d,rfl,_⟩:=h;rfl
 ·obtain ⟨v,d,rfl,hd,k⟩:=h;have hr2:=hr.mono (show 2≤3 by decide)
  refine ⟨_,zA2 (zAj (PW.pt (zCc (zAm (zAk (zA9 zAg rfl T.isinst PyProof.Rows.boot_isinstance (zA0 (pv 0) (zA0 (zB2 (v:=.ty "list") rfl T.list PyProof.Rows.boot_list rfl) zA3)))))
    (zBo (zAm (zAk (zA9 (zBb rfl) rfl T.all PyProof.Rows.boot_all (zA0 (zAr (T:=["thing"]) rfl ScOk.auto (zAn (pv 0)) (fun _ _ _ _=>zAf (i:=1) (by decide +kernel:(["things", "thing"]:List Str).Nodup) rfl (Or.inl rfl)) (fun _ _ _ _=>zB3)
    (fun _ _ _ _=>zA8 GP hr rfl DP.at_ DP.fn.kp DP.bind .nil (passC hC) (zA0 (pv 1) zA3))) zA3))))))) (zA4 (zAb zBq)) zAa)
   (zA4 (zAb (zA8 GU hr2 rfl DU.at_ DU.fn.kp DU.bind .nil (passC hC) (zA0 (zAr (T:=["thing"]) rfl ScOk.auto (zAn (pv 0)) (fun _ _ _ _=>zAf (i:=1) (by decide +kernel:(["things", "thing"]:List Str).Nodup) rfl (Or.inl rfl)) (fun _ _ _ _=>zB3)
    (fun _ _ _ _=>zAu (r:=rIxT K) zAq (pv 1) zA7 (fun _ _=>rfl))) zA3)))),?_⟩
  have k0:fieldsB d=false→∀ H',Same H H'→Q (.bl false) H':=fun e H' s'=>by rw [← e];exact k _ s'
  refine ⟨_,rfl,?_⟩;cases hd with
  | non=>exact ⟨_,_,_,_,_,rfl,.non,rfl,rfl,_,rfl,iteT (iteT (k0 rfl _ (Same.refl _)))⟩
  | bl b=>exact ⟨_,_,_,_,_,rfl,(.bl b),rfl,rfl,_,rfl,iteT (iteT (k0 rfl _ (Same.refl _)))⟩
  | int i=>exact ⟨_,_,_,_,_,rfl,(.int i),rfl,rfl,_,rfl,iteT (iteT (k0 rfl _ (Same.refl _)))⟩
  | str x _ _=>exact ⟨_,_,_,_,_,rfl,(.str x),rfl,rfl,_,rfl,iteT (iteT (k0 rfl _ (Same.refl _)))⟩
  | tup _ e _ _=>exact ⟨_,_,_,_,_,rfl,(.tup e),rfl,rfl,_,rfl,iteT (iteT (k0 rfl _ (Same.refl _)))⟩
  | @lst a xs ds _ ha hz hx =>
   refine ⟨_,_,_,_,_,rfl,.lst ha,rfl,rfl,_,rfl,iteF ?_⟩;refine ⟨_,rfl,a,rfl,⟨xs,SqL.of ha⟩,zAo (xs:=xs) (fun i ys H'=>Same H H'∧ys=(ds.take i).map fun d=>V.bl (pairB d)) ⟨Same.refl _,rfl⟩ (fun i ys H' p=>SqL.of (p.1 _ _ ha)) (fun i ys H' hi p=>?_) ?_ ?_⟩
   ·rw [p.2,Z1];have:=Zp i ds;have:=small1000 hz;omega
   ·rintro i x ys H' hi ⟨s1,rfl⟩ N hN;obtain ⟨d,hd',hv⟩:=hx.get hi;refine pick ?_;refine ⟨_,rfl,_,d,rfl,hv.mono s1,fun H2 s2=>hN _ _ ⟨s1.trans s2,?_⟩⟩;rw [Zk,hd',Zu];rfl
   ·rintro ys H' ⟨s1,rfl⟩ p hp;have e:(ds.take xs.length).map (fun d=>V.bl (pairB d))=(ds.map pairB).map V.bl:=by
     rw [hx.length,Zm,Yh];rfl
    have s2:Same H (upd H' p (.lst ((ds.take xs.length).map fun d=>V.bl (pairB d)))):=s1.trans (Same.new hp);refine ⟨p,ds.map pairB,rfl,SqL.of (by rw [zA1,e]),_,rfl,?_⟩;have ea:(ds.map pairB).all id=ds.all pairB:=by rw [Yg];rfl
    rw [ea];cases eb:ds.all pairB with
    | false =>
     refine iteT (k0 ?_ _ s2);show (ds.all pairB && _)=false;rw [eb];rfl
    | true =>
     refine iteF ?_;have ha2:=s2 _ _ ha;generalize upd H' p (.lst ((ds.take xs.length).map fun d=>V.bl (pairB d)))=H3 at s2 ha2 ⊢;refine ⟨_,rfl,a,rfl,⟨xs,SqL.of ha2⟩,zAo (xs:=xs) (fun i ys H'=>H'=H3∧HasAll Any H3 ys ((ds.take i).map firstD)) ⟨rfl,.nil⟩ (fun i ys H' p=>by rw [p.1];exact SqL.of ha2) (fun i ys H' hi p=>?_) ?_ ?_⟩
     ·have:=p.2.length;rw [Z1] at this;have:=Zp i ds;have:=small1000 hz;omega
     ·rintro i x ys H' hi ⟨rfl,hy⟩ N hN;obtain ⟨d,hd',hv⟩:=hx.get hi;obtain ⟨b,x0,y0,n,l,vs,zs,rfl,_,hb,rfl,hn,_⟩:=zF5 hv (all_get eb hd');refine pick ?_;refine ⟨_,rfl,b,_,_,x0,rfl,rfl,SqT.of (s2 _ _ hb),rfl,hN _ _ ⟨rfl,?_⟩⟩;rw [Zk,hd',Zu];exact hy.snoc (hn.mono s2)
     ·rintro ys H' ⟨rfl,hy⟩ q hq;have s3:=s2.trans (Same.new (o:=.lst ys) hq);have hl:ys.length≤1000:=by
       have:=hy.length;rw [Z1] at this;have:=Zp xs.length ds;omega
      refine ⟨_,ds.map firstD,rfl,.lst trivial zA1 hl ?_,fun H4 s4=>?_⟩
      ·rw [hx.length,Zm] at hy;exact hy.mono (Same.new hq)
      ·have e1:fieldsB (.list ds)=unlikeB (ds.map firstD):=by
        show (ds.all pairB && unlikeB (ds.map firstD))=_;rw [eb];rfl
       rw [← e1];exact k _ (s3.trans s4)
theorem scCt:FnScope ["fields", "many", "field"] ["fields"] (defScope sCount):=⟨rfl,rfl,rfl,by decide +kernel,rfl,by decide +kernel,by decide +kernel⟩
theorem ok_count {f:Addr}{fd:FuncData} (T:Tops K mg) (F:Fun K "count_states" "count_states" sCount f fd):FnOk P w K mg base CX 1 f fd ["fields"] spCount:=by
 refine F.okC scCt (fun vs H Q E h=>?_) (fun cdv A outer s H vs Q E hr h=>?_)
 ·obtain ⟨v,ds,rfl,_⟩:=h;rfl
 ·obtain ⟨v,ds,rfl,hd,eb,k⟩:=h;obtain ⟨a,xs,rfl,_,ha,hz,hx⟩:=hd.list_inv
  refine ⟨_,zA2 (zAd (i:=1) scCt.nd rfl (Or.inl rfl) zA7)
   (zA2 (zCb PassesOwn.never rfl (zAn (pv 0)) (zAf (i:=2) scCt.nd rfl (Or.inl rfl))
    (zA4 (zAd (i:=1) scCt.nd rfl (Or.inl rfl) (zAt zDp (pv 1) (zA9 zAv rfl T.len PySem.boot_len (zA0 (zAu zAq (pv 2) zA7 (fun _ _=>rfl)) zA3))))))
   (zA4 (zAb (pv 1)))),?_⟩
  refine ⟨_,rfl,a,rfl,⟨xs,SqL.of ha⟩,zDc (K:=K) (a:=a) (xs:=xs) (fun i σ H2=>∃ u,σ = [some (.ref a),some (.int (countD (ds.take i))),u]∧H2=H) ⟨none,rfl,rfl⟩ (fun i σ H2 _ ⟨_,_,e⟩=>by rw [e];exact SqL.of ha) ?_ ?_⟩
  ·rintro i x σ H2 hi ⟨u,rfl,rfl⟩;obtain ⟨d,hd',hv⟩:=hx.get hi;obtain ⟨b,x0,y0,n,l,vs,zs,rfl,_,hb,rfl,hn,rfl,_,hl,hzl,hvs,_⟩:=zF5 hv (all_get eb hd');refine ⟨_,rfl,_,rfl,b,_,_,_,rfl,rfl,SqT.of hb,rfl,l,zs,rfl,.inl (SqL.of hl),_,_,rfl,rfl,.inr ⟨by omega,by omega⟩,⟨some (.ref b),?_,rfl⟩⟩;have e:countD (ds.take (i + 1))=countD (ds.take i) * (zs.length:Int):=by
    rw [Zk,hd'];unfold countD;rw [List.foldl_append];show _ * ((sizeD (.tuple [n,.list vs]):Nat):Int)=_;rw [hvs.length];rfl
   rw [e];rfl
  ·rintro σ H2 ⟨u,rfl,rfl⟩;refine ⟨_,rfl,?_⟩;rw [hx.length,Zm];exact k
end
structure FunD (K:PySem.W.Frag) (x qual:Str) (st:Stmt) (dV:Value) (f:Addr) (fd:FuncData):Prop where
 ex:∃ (oc:Value) (od:Option Addr) (kV doc pm:Value) (an:Option Addr) (cdv ct:Value) (osl:Array (Option Value)),
  fd=PySem.W.fnOf x qual (defArgs st) (defBody st) (defScope st) dV kV doc pm an cdv ct∧K.lookup f=some ⟨oc,od,.func fd,osl⟩∧PySem.W.codeIn K cdv qual=true
theorem FunD.okC {P:Program}{w:World}{K:PySem.W.Frag}{mg:Str→Option Value}{base:Heap}{CX:CXT}{x qual:Str}{st:Stmt}{dV:Value}{f:Addr}{fd:FuncData}{N ps:List Str}{k:Nat}{sp:Sp} (F:FunD K x qual st dV f fd) (S:FnScope N ps (defScope st)) (len:∀ vs H Q E,sp vs H Q E→vs.length=ps.length)
  (hbody:∀ (cdv:Value) (A:Around) (outer:List Env) (s:Shared) (H:Hp) (vs:List V) (Q:VK) (E:XK),Room k (A.deeper (PyProof.Rows.envOfC qual (defScope st) s.heap.objs.size f cdv))→sp vs H Q E →
   ∃ t,PSs (cxOf CX P w K mg base N qual (defScope st) f cdv A outer s H E).nox (defBody st) t∧t { nx:=fun _ H'=>Q .non H',rt:=Q } (start N vs) H):FnOk P w K mg base CX (k + 1) f fd ps sp:=by
 obtain ⟨oc,od,kV,doc,pm,an,cdv,ct,osl,rfl,lk,hcd⟩:=F.ex;refine fn_of lk hcd S len fun A outer s H vs Q E hr hsp=>?_;obtain ⟨t,h,q⟩:=hbody cdv A outer s H vs Q E hr hsp;exact ⟨t,h.nox,q⟩
theorem fnf:¬ (("name" : Str) = "fields"):=by decide +kernel
theorem fno:¬ (("name" : Str) = "owner"):=by decide +kernel
theorem ffo:¬ (("fields" : Str) = "owner"):=by decide +kernel
noncomputable def kflds (n f o:V):List (Str×V):=putF "owner" o (putF "fields" f (putF "name" n []))
theorem zCv (n f o:V):(kflds n f o).lookup ("name" : Str)=some n:=by
 unfold kflds;rw [zAs,if_neg fno,zAs,if_neg fnf,zAs,if_pos rfl]
theorem zDa (n f o:V):(kflds n f o).lookup ("fields" : Str)=some f:=by
 unfold kflds;rw [zAs,if_neg ffo,zAs,if_pos rfl]
theorem zC8 (n f o:V):(kflds n f o).lookup ("owner" : Str)=some o:=by
 unfold kflds;rw [zAs,if_pos rfl]
structure KCls (K:PySem.W.Frag) (mg:Str→Option Value) (C fI:Addr):Prop where
 cl:Cls K C
 nN:NoAttr K C "name"
 nF:NoAttr K C "fields"
 nO:NoAttr K C "owner"
 mgC:mg "Kind" = some (.ref C)
 mkd:Mk K C fI
theorem name_any {G G':Addr→Prop}{H H':Hp}{v:V}{d:PyData} (h:Has G H v d) (e:nameD d=true):Has G' H' v d:=by
 cases h with
 | str x a b=>exact .str x a b
 | non=>cases e
 | bl b=>cases e
 | int i=>cases e
 | lst _ _ _ _=>cases e
 | tup _ _ _ _=>cases e
theorem names_any {G G':Addr→Prop}{H H':Hp}:∀ {xs:List V}{ds:List PyData},HasAll G H xs ds→ds.all nameD=true→HasAll G' H' xs ds
 | _,_,.nil,_=>.nil
 | _,_,.cons h t,e=>by
  rw [Y9,Zj] at e;exact .cons (name_any h e.1) (names_any t e.2)
theorem zEl {ds:List PyData} (h:unlikeB ds=true):ds.all nameD=true:=by
 have z:(ds.all nameD && decide (strsOf ds).Nodup)=true:=h;rw [Zj] at z;exact z.1
noncomputable def ownerD (n:Str):PyData→Bool
 | .none=>true
 | .str o=>nameB o && !decide (o=n)
 | _=>false
noncomputable def spInit (C:Addr):Sp:=fun vs H Q _=>∃ (p dx:Addr) (vf vo:V) (n:Str) (ds:List PyData) (od:PyData),vs=[.ref p,.str n,vf,vo]∧H p=some (.ins C dx [])∧n.length≤1000∧PyData.strOk n=true∧nameB n=true ∧
 Has Any H vf (.list ds)∧fieldsB (.list ds)=true∧Has Any H vo od∧ownerD n od=true∧countD ds≤8 ∧
 ∀ (H':Hp) (l:Addr),H' p=some (.ins C dx (kflds (.str n) (.ref l) vo))→Has (fun a=>H a=none) H' (.ref l) (.list ds)→(∀ b o,H b=some o→b≠p→H' b=some o)→Q .non H'
section
variable {P:Program}{w:World}{K:PySem.W.Frag}{mg:Str→Option Value}{base:Heap}{CX:CXT}
theorem scKi:FnScope ["self", "name", "fields", "owner"] ["self", "name", "fields", "owner"] (defScope sInit):=⟨rfl,rfl,rfl,by decide +kernel,rfl,by decide +kernel,by decide +kernel⟩
theorem k_both {R:Hp→Prop}{H1:Hp}{B:Prop} (t:∀ Hx,Same H1 Hx→R Hx) (h:(∀ Hx,Same H1 Hx→R Hx)→B):B:=h t
theorem ok_init {f C ff fc fp fu fn:Addr}{fd fdf fdc fdp fdu fdn:FuncData}{dV:Value} (hC:Calm CX) (T:Tops K mg) (F:FunD K "__init__" "Kind.__init__" sInit dV f fd) (KC:KCls K mg C f) (DN:Def K mg "is_name" sIsName ["thing"] fn fdn)
  (DU:Def K mg "are_unlike_names" sUnlike ["things"] fu fdu) (DP:Def K mg "is_pair_with_values" sPair ["thing"] fp fdp) (DF:Def K mg "are_fields" sFields ["things"] ff fdf) (DC:Def K mg "count_states" sCount ["fields"] fc fdc) :
  FnOk P w K mg base CX 5 f fd ["self", "name", "fields", "owner"] (spInit C):=by
 have GN:FnOk P w K mg base CX 1 fn fdn ["thing"] spNameD:=zD8 DN.fn T;have GF:FnOk P w K mg base CX 4 ff fdf ["things"] spFields:=ok_fields hC T DF.fn DN DU DP;have GC:FnOk P w K mg base CX 1 fc fdc ["fields"] spCount:=ok_count T DC.fn;refine F.okC scKi (fun vs H Q E h=>?_) (fun cdv A outer s H vs Q E hr h=>?_)
 ·obtain ⟨p,dx,vf,vo,n,ds,od,rfl,_⟩:=h;rfl
 ·obtain ⟨p,dx,vf,vo,n,ds,od,rfl,hp,hn1,hn2,hn3,hf,hfb,ho,hob,hc8,k⟩:=h;have hr1:=hr.mono (show 1≤4 by decide);obtain ⟨tm,hmost⟩:=T.mostS
  refine ⟨_,zA2 (zAj (zAm (zAk (zA8 GN hr1 rfl DN.at_ DN.fn.kp DN.bind .nil (passC hC) (zA0 (pv 1) zA3)))) zAc zAa)
   (zA2 (zAj (zAm (zAk (zA8 GF hr rfl DF.at_ DF.fn.kp DF.bind .nil (passC hC) (zA0 (pv 2) zA3)))) zAc zAa)
   (zA2 (zAj (PW.pt (zCz (zB8 (zCf (pv 3))) (zC4 (PW.pt (zCc (zAm (zAk (zA8 GN hr1 rfl DN.at_ DN.fn.kp DN.bind .nil (passC hC) (zA0 (pv 3) zA3)))) (zBo (zAh zCt (pv 3) (pv 1) (nomark _)))))))) zAc zAa)
   (zA2 (zAj (zAh op_gt (zA8 GC hr1 rfl DC.at_ DC.fn.kp DC.bind .nil (passC hC) (zA0 (pv 2) zA3)) (zBc (v:=.int 8) rfl hmost ⟨_,rfl⟩) (nomark _)) zAc zAa)
   (zA2 (zAp (pv 0) (pv 1) rfl)
   (zA2 (zAp (pv 0) (zAr (T:=["field"]) rfl ScOk.auto (zAn (pv 2)) (fun _ _ _ _=>zAf (i:=4) (by decide +kernel:(["self", "name", "fields", "owner", "field"]:List Str).Nodup) rfl (Or.inl rfl)) (fun _ _ _ _=>zB3)
    (fun _ _ _ _=>zBr (zA0 (zAu (r:=rIxT K) zAq (pv 4) zA7 (fun _ _=>rfl)) (zA0 (zB1 (r:=fun xs H Q=>∃ p ys,xs=[.ref p]∧(SqL K H p ys∨SqT K H p ys)∧∀ l,H l=none→Q (.ref l) (upd H l (.lst ys))) zDq rfl T.list PyProof.Rows.boot_list (zA0 (zAu (r:=rIxT K) zAq (pv 4) zA7 (fun _ _=>rfl)) zA3)) zA3)))) rfl)
   (zA4 (zAp (pv 0) (pv 3) rfl))))))),?_⟩
  refine ⟨_,rfl,_,.str n,rfl,.str n hn1 hn2,fun H1 s1=>⟨_,rfl,?_⟩⟩;rw [show nameD (.str n)=true from hn3];refine iteF ⟨_,rfl,_,.list ds,rfl,hf.mono s1,fun H2 s2=>⟨_,rfl,?_⟩⟩;rw [hfb];have s12:=s1.trans s2;refine iteF ?_;have fb:ds.all pairB=true∧unlikeB (ds.map firstD)=true:=by
   have z:(ds.all pairB && unlikeB (ds.map firstD))=true:=hfb;rw [Zj] at z;exact z
  have sh:vo=V.non∨∃ o,vo=V.str o∧o.length≤1000∧PyData.strOk o=true∧nameB o=true∧¬ o=n:=by
   cases ho with
   | bl b=>cases hob
   | int i=>cases hob
   | lst _ _ _ _=>cases hob
   | tup _ _ _ _=>cases hob
   | non=>exact .inl rfl
   | str o o1 o2 =>
    have z:(nameB o && !decide (o=n))=true:=hob;rw [Zj] at z;exact .inr ⟨o,rfl,o1,o2,z.1,by simpa using z.2⟩
  refine' k_both (H1:=H) _ (fun k2=>_);rotate_left 2
  ·rcases sh with e | ⟨o,e,o1,o2,e1,e2⟩
   ·refine ⟨_,rfl,_,rfl,?_⟩;rw [decide_eq_true e];exact iteF (iteF (k2 H2 s12))
   ·refine ⟨_,rfl,_,rfl,?_⟩;rw [decide_eq_false (show ¬ vo=V.non by rw [e];intro z;cases z)];refine iteT ?_;refine ⟨_,rfl,vo,.str o,rfl,(by rw [e];exact .str o o1 o2),fun H3 s3=>⟨_,rfl,?_⟩⟩;rw [show nameD (.str o)=true from e1];refine iteF ⟨_,rfl,_,rfl,(by rw [e];rfl),_,rfl,?_⟩;rw [decide_eq_false (show ¬ vo=V.str n by rw [e];intro z;injection z with z;exact e2 z)];exact iteF (k2 H3 (s12.trans s3))
  ·intro H3 s3;refine ⟨_,rfl,_,ds,rfl,hf.mono s3,fb.1,_,_,rfl,rfl,_,rfl,?_⟩;refine ite2 (fun h=>absurd (of_decide_eq_true h) (by omega)) (fun _=>?_);refine ⟨_,rfl,_,rfl,p,C,dx,[],rfl,s3 _ _ hp,KC.cl,KC.nN,(by show 0 < 1000;decide),?_⟩;have fr:∀ (H':Hp) (o':HO),(∃ fs,H' p=some (.ins C dx fs))→∀ (a:Addr) (o:HO),Any a→isSeq o→H' a=some o→Any a∧(upd H' p o') a=some o:=by
    rintro H' o' ⟨fs,e⟩ a o _ hs q;refine ⟨trivial,?_⟩;rw [zA6]
    ·exact q
    ·rintro rfl;rw [e] at q;cases q;exact hs
   have hf4:Has Any (upd H3 p (.ins C dx (putF "name" (.str n) []))) vf (.list ds):=(hf.mono s3).frameS (fr _ _ ⟨_,s3 _ _ hp⟩);obtain ⟨a,xs,rfl,_,ha,hz,hx⟩:=hf4.list_inv;have hp4:(upd H3 p (.ins C dx (putF "name" (.str n) []))) p=some (.ins C dx (putF "name" (.str n) [])):=zA1;have k4:∀ b o,H b=some o→b≠p→(upd H3 p (.ins C dx (putF "name" (.str n) []))) b=some o:=fun b o e hb=>by rw [zA6 hb];exact s3 _ _ e
   have n4:∀ b,(upd H3 p (.ins C dx (putF "name" (.str n) []))) b=none→H b=none:=fun b e=>by
    cases q:H b with
    | none=>rfl
    | some o =>
     by_cases hb:b=p
     ·subst hb;rw [hp4] at e;cases e
     ·rw [k4 b o q hb] at e;cases e
   generalize upd H3 p (.ins C dx (putF "name" (.str n) []))=H4 at ha hx hp4 k4 n4 ⊢;refine ⟨_,rfl,a,rfl,⟨xs,SqL.of ha⟩,zAo (xs:=xs) (fun i ys H'=>Same H4 H'∧HasAll (fun a=>H a=none) H' ys (ds.take i)) ⟨Same.refl _,.nil⟩ (fun i ys H' q=>SqL.of (q.1 _ _ ha)) (fun i ys H' hi q=>?_) ?_ ?_⟩
   ·have:=q.2.length;have:=Zp i ds;have:=small1000 hz;have:=hx.length;omega
   ·rintro i x ys H' hi ⟨s5,hy⟩ N hN;obtain ⟨d,hd',hv⟩:=hx.get hi;obtain ⟨b,x0,y0,nd,l,vs,zs,rfl,_,hb,rfl,hnm,rfl,_,hl,hzl,hvs,_,hun⟩:=zF5 hv (all_get fb.1 hd');have hnn:nameD nd=true:=by
     have z:=List.all_eq_true.mp (zEl fb.2) nd (List.mem_map.mpr ⟨_,Ze hd',rfl⟩);exact z
    refine pick ?_;refine ⟨_,rfl,b,_,_,x0,rfl,rfl,SqT.of (s5 _ _ hb),rfl,_,rfl,b,_,_,_,rfl,rfl,SqT.of (s5 _ _ hb),rfl,l,zs,rfl,.inl (SqL.of (s5 _ _ hl)),fun l2 hl2=>⟨by show 2≤sizeLine;decide,fun t ht=>hN _ _ ⟨?_,?_⟩⟩⟩
    ·exact (s5.trans (Same.new hl2)).trans (Same.new ht)
    ·rw [Zk,hd'];have s6:Same H' (upd (upd H' l2 (.lst zs)) t (.tup [x0,.ref l2])):=(Same.new hl2).trans (Same.new ht);refine (hy.mono s6).snoc (.tup ?_ zA1 (by show 2≤1000;decide) (.cons (name_any hnm hnn) (.cons (.lst ?_ ?_ hzl (names_any hvs (zEl hun))) .nil)))
     ·exact n4 _ (s5.free ((Same.new (o:=.lst zs) hl2).free ht))
     ·exact n4 _ (s5.free hl2)
     ·exact (Same.new ht) _ _ zA1
   ·rintro ys H' ⟨s5,hy⟩ l hl;have ll:ys.length≤1000:=by
     have:=hy.length;have:=Zp xs.length ds;have:=hx.length;omega
    rw [hx.length,Zm] at hy;have hp5:(upd H' l (.lst ys)) p=some (.ins C dx (putF "name" (.str n) [])):=(Same.new hl) _ _ (s5 _ _ hp4);refine ⟨_,rfl,p,C,dx,_,rfl,hp5,KC.cl,KC.nF,(by show 1 < 1000;decide),?_⟩;refine ⟨_,rfl,_,rfl,p,C,dx,_,rfl,zA1,KC.cl,KC.nO,(by have:=zCu "fields" (V.ref l) (putF "name" (V.str n) []);have:(putF "name" (V.str n) []).length=1:=rfl;omega),?_⟩;refine k _ l zA1 ?_ fun b o e hb=>?_
    ·have h0:Has (fun a=>H a=none) (upd H' l (.lst ys)) (.ref l) (.list ds):=.lst (n4 _ (s5.free hl)) zA1 ll (hy.mono (Same.new hl));refine h0.frame fun b o g q=>⟨g,?_⟩;have hb:b≠p:=fun z=>by rw [z,hp] at g;cases g
     rw [zA6 hb,zA6 hb];exact q
    ·rw [zA6 hb,zA6 hb];exact (Same.new hl) _ _ (s5 _ _ (k4 b o e hb))
end
end My
namespace L2.W
open PySem My
noncomputable def nameOk (x:Str):Prop:=nameB x=true∧PyData.strOk x=true∧x.length≤8
structure ValsOk (vs:List Str):Prop where
 ne:0 < vs.length
 le:vs.length≤8
 nd:vs.Nodup
 ok:∀ x∈vs,nameOk x
noncomputable def manyOf (fs:List (Str×List Str)):Nat:=fs.foldl (fun m f=>m * f.2.length) 1
structure FieldsOk (fs:List (Str×List Str)):Prop where
 le:fs.length≤3
 nd:(fs.map (·.1)).Nodup
 ok:∀ f∈fs,nameOk f.1∧ValsOk f.2
 many:manyOf fs≤8
theorem names_has {G:Addr→Prop}{H:Hp}:∀ {ks:List Str},(∀ x∈ks,nameOk x)→HasAll G H (ks.map V.str) (ks.map .str)
 | [],_=>.nil
 | k :: r,h=>.cons (.str k (by have:=(h k Zn).2.2;omega) (h k Zn).2.1) (names_has fun x hx=>h x (Zb _ hx))
end L2.W
namespace L2.W
open PySem My
theorem zEm:∀ ks:List Str,strsOf (ks.map PyData.str)=ks
 | []=>rfl
 | k :: r=>by
  show k :: strsOf (r.map PyData.str)=k :: r;rw [zEm r]
theorem unlike_of {ks:List Str} (h:∀ x∈ks,nameB x=true) (nd:ks.Nodup):unlikeB (ks.map PyData.str)=true:=by
 unfold unlikeB;rw [zEm,decide_eq_true nd,Bool.and_true,List.all_eq_true];intro d hd;obtain ⟨x,hx,rfl⟩:=List.mem_map.mp hd;exact h x hx
structure Row where
 name:Str
 fields:List (Str×List Str)
 owner:Option Str
structure RowsOk (rs:List Row):Prop where
 ne:0 < rs.length
 le:rs.length≤5
 nd:(rs.map (·.name)).Nodup
 ok:∀ r∈rs,nameOk r.name∧FieldsOk r.fields
 own:∀ (i:Nat) (r:Row) (o:Str),rs[i]? = some r→r.owner=some o→∃ (j:Nat) (r':Row),j < i∧rs[j]? = some r'∧r'.name=o
noncomputable def Ready (done:List Str) (r:Row):Prop:=r.name∉done∧∀ o,r.owner=some o→o∈done
noncomputable def Greedy (M:Row→Prop) (ord:List Str):Prop:=∀ (i:Nat) (n:Str),ord[i]? = some n→(∃ r,M r∧r.name=n∧Ready (ord.take i) r)∧∀ r,M r→Ready (ord.take i) r→¬ ltS r.name n
theorem Greedy.nil {M:Row→Prop}:Greedy M []:=fun i n h=>by simp at h
theorem Greedy.snoc {M:Row→Prop}{ord:List Str}{n:Str} (g:Greedy M ord) (h1:∃ r,M r∧r.name=n∧Ready ord r) (h2:∀ r,M r→Ready ord r→¬ ltS r.name n):Greedy M (ord++[n]):=by
 intro i m e;by_cases hi:i < ord.length
 ·have e':ord[i]? = some m:=by rwa [Zr hi] at e
  have t:(ord++[n]).take i=ord.take i:=List.take_append_of_le_length (Zd hi);rw [t];exact g i m e'
 ·have hi2:i=ord.length:=by
   have:=(List.getElem?_eq_some_iff.mp e).1;simp at this;omega
  subst hi2;have:n=m:=by simpa using e
  subst this;have t:(ord++[n]).take ord.length=ord:=by simp
  rw [t];exact ⟨h1,h2⟩
theorem Greedy.nodup {M:Row→Prop}{ord:List Str} (g:Greedy M ord):ord.Nodup:=by
 suffices h:∀ k,(ord.take k).Nodup by
  have:=h ord.length
  rwa [Zm] at this
 intro k
 induction k with
 | zero=>simp
 | succ k ih =>
  cases e:ord[k]? with
  | none=>rw [Zk,e];simpa using ih
  | some n =>
   obtain ⟨⟨r,_,e1,r1⟩,_⟩:=g k n e;rw [Zk,e];refine List.nodup_append.mpr ⟨ih,by simp,fun a ha b hb=>?_⟩;have:b=n:=by simpa using hb
   rw [this];rintro rfl;exact r1.1 (e1 ▸ ha)
theorem Greedy.mem {M:Row→Prop}{ord:List Str} (g:Greedy M ord) {n:Str} (h:n∈ord):∃ r,M r∧r.name=n:=by
 obtain ⟨i,hi,e⟩:=Yc h;obtain ⟨⟨r,m,e1,_⟩,_⟩:=g i n (by rw [Z4 hi,e]);exact ⟨r,m,e1⟩
theorem sub_len {α : Type} [DecidableEq α]:∀ {a b:List α},a.Nodup→(∀ x∈a,x∈b)→a.length≤b.length
 | [],_,_,_=>Zl _
 | x :: r,b,nd,h=>by
  have hx:=h x Zn;obtain ⟨n1,n2⟩:=List.nodup_cons.mp nd;have:=sub_len (a:=r) (b:=b.erase x) n2 fun y hy=>(List.mem_erase_of_ne (by rintro rfl;exact n1 hy)).mpr (h y (Zb _ hy));rw [List.length_erase_of_mem hx] at this;have:=List.length_pos_of_mem hx;simp;omega
theorem Greedy.le {rs:List Row}{ord:List Str} (g:Greedy (·∈rs) ord):ord.length≤rs.length:=by
 have:=sub_len (b:=rs.map (·.name)) g.nodup fun n hn=>by
  obtain ⟨r,m,e⟩:=g.mem hn;exact List.mem_map.mpr ⟨r,m,e⟩
 rwa [Z1] at this
theorem progress {rs:List Row} (ok:RowsOk rs) {ord:List Str} (h:ord.length < rs.length):∃ r∈rs,Ready ord r:=by
 have ex:∃ (i:Nat) (r:Row),rs[i]? = some r∧r.name∉ord:=Classical.byContradiction fun hn=>by
  have:=sub_len (b:=ord) ok.nd fun n hm=>by
   obtain ⟨r,hr,rfl⟩:=List.mem_map.mp hm;obtain ⟨i,hi,e⟩:=Yc hr;exact Classical.byContradiction fun k=>hn ⟨i,r,by rw [Z4 hi,e],k⟩
  rw [Z1] at this;omega
 obtain ⟨i,r,hi,hr⟩:=ex;revert r
 induction i using Nat.strongRecOn with
 | _ i ih =>
  intro r hi hr;by_cases c:∀ o,r.owner=some o→o∈ord
  ·exact ⟨r,Ze hi,hr,c⟩
  ·have:∃ o,r.owner=some o∧o∉ord:=Classical.byContradiction fun k=>c fun o e=>Classical.byContradiction fun m=>k ⟨o,e,m⟩;obtain ⟨o,e,no⟩:=this;obtain ⟨j,r',hj,e1,e2⟩:=ok.own i r o hi e;exact ih j hj r' e1 (by rw [e2];exact no)
end L2.W
namespace L2.W
open PySem My
structure KIsi (K:PySem.W.Frag) (C:Addr):Prop where
 ha:PySem.W.findIn K (.ref C) "__class__" = some (some (.builtin "object.__class__"))
 hn:PySem.W.specialIn K (.builtin "object.__class__") "__get__" = some (some (.builtin "getset_descriptor.__get__"))
 htk:PySem.W.takesIn K (.builtin "object.__class__")=some true
 hm:PySem.W.mroIn K C (.type "object")=some true
 one:PySem.W.kitOne K (.ref C) (.ref C)=some true
noncomputable def ownV:Option Str→V
 | none=>.non
 | some o=>.str o
noncomputable def KindO (C:Addr) (H:Hp) (p:Addr) (r:Row):Prop:=∃ dx l,H p=some (.ins C dx (kflds (.str r.name) (.ref l) (ownV r.owner)))
noncomputable abbrev KL (C:Addr) (H:Hp):List Addr→List Row→Prop:=Paired fun p r=>KindO C H p r
theorem zDi {α β : Type}{R : α→β→Prop}:∀ {l:List α}{m:List β}{i:Nat}{a : α},Paired R l m→l[i]? = some a→∃ b,m[i]? = some b∧R a b
 | _,_,_,_,.nil,e=>by simp at e
 | _,_,0,a,.cons r _,e=>by
  simp at e;subst e;exact ⟨_,rfl,r⟩
 | _,_,i + 1,a,.cons _ t,e=>by
  obtain ⟨b,h1,h2⟩:=zDi (i:=i) (a:=a) t (by simpa using e);exact ⟨b,by simpa using h1,h2⟩
theorem KindO.mono {C:Addr}{H H':Hp}{p:Addr}{r:Row} (h:KindO C H p r) (k:∀ b o,H b=some o→(∃ C dx fs,o=.ins C dx fs)→H' b=some o):KindO C H' p r:=by
 obtain ⟨dx,l,e⟩:=h;exact ⟨dx,l,k _ _ e ⟨_,_,_,rfl⟩⟩
noncomputable def RowsP (rs:List Row):Prop:=∃ rs0,RowsOk rs0∧rs.Perm rs0
theorem RowsP.nd {rs:List Row} (h:RowsP rs):(rs.map (·.name)).Nodup:=by
 obtain ⟨r0,ok,p⟩:=h;exact (p.map _).nodup_iff.mpr ok.nd
theorem RowsP.le {rs:List Row} (h:RowsP rs):0 < rs.length∧rs.length≤5:=by
 obtain ⟨r0,ok,p⟩:=h;have:=p.length_eq;have:=ok.ne;have:=ok.le;omega
theorem RowsP.ok {rs:List Row} (h:RowsP rs):∀ r∈rs,nameOk r.name∧FieldsOk r.fields:=by
 obtain ⟨r0,ok,p⟩:=h;exact fun r hr=>ok.ok r (p.mem_iff.mp hr)
theorem RowsP.progress {rs:List Row} (h:RowsP rs) {ord:List Str} (hl:ord.length < rs.length):∃ r∈rs,Ready ord r:=by
 obtain ⟨r0,ok,p⟩:=h;obtain ⟨r,hr,q⟩:=L2.W.progress ok (ord:=ord) (by rw [← p.length_eq];exact hl);exact ⟨r,p.mem_iff.mpr hr,q⟩
noncomputable def spAreKinds (C:Addr):Sp:=fun vs H Q _=>∃ (l:Addr) (ps:List Addr) (rs:List Row),vs=[.ref l]∧H l=some (.lst (ps.map V.ref))∧KL C H ps rs∧RowsP rs∧∀ H',Same H H'→Q (.bl true) H'
section
variable {P:Program}{w:World}{K:PySem.W.Frag}{mg:Str→Option Value}{base:Heap}{CX:CXT}
theorem scAk:FnScope ["things"] ["things"] (defScope sAreKinds):=⟨rfl,rfl,rfl,by decide +kernel,rfl,by decide +kernel,by decide +kernel⟩
theorem ok_areKinds {f fu fn C fI:Addr}{fd fdu fdn:FuncData} (hC:Calm CX) (T:Tops K mg) (KC:KCls K mg C fI) (KI:KIsi K C) (F:Fun K "are_kinds" "are_kinds" sAreKinds f fd) (DN:Def K mg "is_name" sIsName ["thing"] fn fdn)
  (DU:Def K mg "are_unlike_names" sUnlike ["things"] fu fdu):FnOk P w K mg base CX 3 f fd ["things"] (spAreKinds C):=by
 have GU:FnOk P w K mg base CX 2 fu fdu ["things"] spUnlike:=zD7 hC T DU.fn DN;refine Fun.okC F scAk (fun vs H Q E h=>?_) (fun cdv A outer s H vs Q E hr h=>?_)
 ·obtain ⟨l,ps,rs,rfl,_⟩:=h;rfl
 ·obtain ⟨l,ps,rs,rfl,hl,hk,rp,k⟩:=h
  refine ⟨_,zA2 (zAj (PW.pt (zCc (zAm (zAk (zA9 zAg rfl T.isinst PyProof.Rows.boot_isinstance (zA0 (pv 0) (zA0 (zB2 (v:=.ty "list") rfl T.list PyProof.Rows.boot_list rfl) zA3)))))
    (zBo (zAh zCt (zA9 zAv rfl T.len PySem.boot_len (zA0 (pv 0) zA3)) zA7 (nomark _))))) (zA4 (zAb zBq)) zAa)
   (zA2 (zAj (zAm (zAk (zA9 (zBb rfl) rfl T.all PyProof.Rows.boot_all (zA0 (zAr (T:=["thing"]) rfl ScOk.auto (zAn (pv 0)) (fun _ _ _ _=>zAf (i:=1) (by decide +kernel:(["things", "thing"]:List Str).Nodup) rfl (Or.inl rfl)) (fun _ _ _ _=>zB3)
    (fun _ _ _ _=>zA9 (call_isinstK (K:=K) rfl) rfl T.isinst PyProof.Rows.boot_isinstance (zA0 (pv 1) (zA0 (zBc (v:=.ref C) rfl KC.mgC rfl) zA3)))) zA3)))) (zA4 (zAb zBq)) zAa)
   (zA4 (zAb (zA8 GU hr rfl DU.at_ DU.fn.kp DU.bind .nil (passC hC) (zA0 (zAr (T:=["kind"]) rfl ScOk.auto (zAn (pv 0)) (fun _ _ _ _=>zAf (i:=1) (by decide +kernel:(["things", "kind"]:List Str).Nodup) rfl (Or.inl rfl)) (fun _ _ _ _=>zB3)
    (fun _ _ _ _=>zBy (K:=K) rfl (pv 1) rfl)) zA3))))),?_⟩
  have len:ps.length=rs.length:=Paired.length hk;obtain ⟨l0,l5⟩:=rp.le;have small:∀ n:Nat,n≤1000→n≤sizeLine:=fun n h=>Zd (small1000 h);refine ⟨_,rfl,_,_,_,_,_,rfl,.lst hl,rfl,rfl,_,rfl,iteF ?_⟩;refine ⟨_,rfl,l,_,rfl,.inl (SqL.of hl),rfl,_,rfl,?_⟩;rw [decide_eq_false (show ¬ V.int ((ps.map V.ref).length:Int)=V.int 0 by intro z0;injection z0 with z0;rw [Z1] at z0;omega)];refine iteF ?_;refine ⟨_,rfl,l,rfl,⟨_,SqL.of hl⟩,zAo (xs:=ps.map V.ref) (fun i ys H'=>H=H'∧ys=(List.replicate i true).map V.bl) ⟨rfl,rfl⟩ (fun i ys H' p=>by rw [← p.1];exact SqL.of hl) (fun i ys H' hi p=>?_) ?_ ?_⟩
  ·rw [p.2,Z1,Zi];rw [Z1] at hi;exact small _ (by omega)
  ·rintro i x ys H' hi ⟨rfl,rfl⟩ N hN;rw [Zf] at hi;cases ep:ps[i]? with
   | none=>rw [ep] at hi;cases hi
   | some p =>
    rw [ep] at hi;cases hi;obtain ⟨r,er,dx,lf,e⟩:=zDi hk ep;refine pick ?_;refine ⟨_,rfl,_,_,_,_,_,rfl,.ins e KC.cl KI.ha KI.hn KI.htk KI.hm,rfl,KI.one,hN _ _ ⟨rfl,?_⟩⟩;rw [List.replicate_succ',Zu];rfl
  ·rintro ys H' ⟨rfl,rfl⟩ q hq;rw [Z1];have s1:Same H (upd H q (.lst ((List.replicate ps.length true).map V.bl))):=Same.new hq;refine ⟨q,List.replicate ps.length true,rfl,SqL.of zA1,_,rfl,?_⟩;have ea:(List.replicate ps.length true).all id=true:=by simp
   rw [ea];refine iteF ?_;generalize upd H q (.lst ((List.replicate ps.length true).map V.bl))=H2 at s1 ⊢;refine ⟨_,rfl,l,rfl,⟨_,SqL.of (s1 _ _ hl)⟩,zAo (xs:=ps.map V.ref) (fun i ys H'=>H2=H'∧ys=((rs.take i).map (·.name)).map V.str) ⟨rfl,rfl⟩ (fun i ys H' p=>by rw [← p.1];exact SqL.of (s1 _ _ hl)) (fun i ys H' hi p=>?_) ?_ ?_⟩
   ·rw [p.2,Z1,Z1];have:(rs.take i).length≤rs.length:=by rw [Zy];omega
    exact small _ (by omega)
   ·rintro i x ys H' hi ⟨rfl,rfl⟩ N hN;rw [Zf] at hi;cases ep:ps[i]? with
    | none=>rw [ep] at hi;cases hi
    | some p =>
     rw [ep] at hi;cases hi;obtain ⟨r,er,dx,lf,e⟩:=zDi hk ep;refine pick ?_;refine ⟨_,rfl,p,C,dx,_,_,rfl,s1 _ _ e,KC.cl,KC.nN,zCv _ _ _,hN _ _ ⟨rfl,?_⟩⟩;rw [Zk,er,Zu,Zu];rfl
   ·rintro ys H' ⟨rfl,rfl⟩ q2 hq2;rw [Z1,len,Zm];refine ⟨_,(rs.map (·.name)).map PyData.str,rfl,.lst trivial zA1 (by rw [Z1,Z1];omega) (names_has fun x hx=>?_),fun H4 s4=>?_⟩
    ·obtain ⟨r,hr,rfl⟩:=List.mem_map.mp hx;exact (rp.ok r hr).1
    ·rw [unlike_of (fun x hx=>?_) rp.nd]
     ·exact k _ (s1.trans ((Same.new hq2).trans s4))
     ·obtain ⟨r,hr,rfl⟩:=List.mem_map.mp hx;exact (rp.ok r hr).1.1
end
end L2.W
namespace L2.W
open PySem My
noncomputable def lamPos:Pos:=⟨96,31,96,53⟩
noncomputable def lamQ:Str:=(("placed_by_owners" : Str)++".<locals>.")++"<lambda>"
noncomputable def readyB (done:List Str) (r:Row):Bool:=decide (r.name∉done) && (match r.owner with | none=>true | some o=>decide (o∈done))
theorem readyB_iff {done:List Str}{r:Row}:readyB done r=true ↔ Ready done r:=by
 unfold readyB Ready;cases r.owner with
 | none=>simp
 | some o=>simp
noncomputable abbrev Placed (zs:List (Addr×Row)):List Str→List (Key×V)→Prop:=Paired fun n kv=>∃ q∈zs,kv=(Sum.inr n,V.ref q.1)∧q.2.name=n
theorem Placed.val {zs:List (Addr×Row)}:∀ {ord:List Str}{kvs:List (Key×V)},Placed zs ord kvs→∀ n:Str,(valV kvs (Sum.inr n)).isSome=decide (n∈ord)
 | _,_,.nil,n=>by simp [valV]
 | m :: ord,kv :: kvs,.cons r t,n=>by
  obtain ⟨q,_,rfl,e⟩:=r;by_cases c:m=n
  ·rw [zAy (by rw [c])];simp [c]
  ·rw [zB9 (by intro z;exact c (Sum.inr.inj z)),Placed.val t n];simp [Ne.symm c]
theorem zE1 {α β : Type}{R : α→β→Prop}:∀ {l:List α}{m:List β}{a : α}{b : β},Paired R l m→R a b→Paired R (l++[a]) (m++[b])
 | _,_,_,_,.nil,r=>.cons r .nil
 | _,_,_,_,.cons r t,q=>.cons r (zE1 t q)
theorem putK_new {kvs:List (Key×V)}{k:Key}{v:V} (h:(valV kvs k).isSome=false):putK kvs k v=kvs++[(k,v)]:=by
 unfold putK;rw [zCx,h];rfl
structure Zs (C:Addr) (H:Hp) (zs:List (Addr×Row)):Prop where
 at_:∀ q∈zs,KindO C H q.1 q.2
 nd:(zs.map fun q=>q.2.name).Nodup
 le:zs.length≤50
theorem Zs.mono {C:Addr}{H H':Hp}{zs:List (Addr×Row)} (z:Zs C H zs) (k:∀ b o,H b=some o→(∃ C dx fs,o=.ins C dx fs)→H' b=some o):Zs C H' zs:=⟨fun q hq=>(z.at_ q hq).mono k,z.nd,z.le⟩
noncomputable def spPlaced (C Pt:Addr):Sp:=fun vs H Q _=>∃ (l:Addr) (zs:List (Addr×Row)),vs=[.ref l]∧H l=some (.lst (zs.map fun q=>V.ref q.1))∧Zs C H zs∧TabOk H Pt lamPos lamQ ∧
 ∀ (d:Addr) (ord:List Str) (kvs:List (Key×V)) (H':Hp),H d=none→H' d=some (.dK kvs)→Placed zs ord kvs→Greedy (·∈zs.map (·.2)) ord→(∀ r∈zs.map (·.2),¬ Ready ord r)→TabOk H' Pt lamPos lamQ→GrownBut Pt H H'→Q (.ref d) H'
theorem _root_.L2.GrownBut.trans {P:Addr}{a b c:Hp} (x:GrownBut P a b) (y:GrownBut P b c):GrownBut P a c:=fun p o e n=>y p o (x p o e n) n
theorem _root_.L2.GrownBut.same {P:Addr}{a b:Hp} (x:Same a b):GrownBut P a b:=fun p o e _=>x p o e
theorem _root_.L2.TabOk.same {H H':Hp}{P:Addr}{pos:Pos}{q:Str} (T:TabOk H P pos q) (k:Same H H'):TabOk H' P pos q:=T.stay k
theorem _root_.L2.TabOk.upd {H:Hp}{P:Addr}{pos:Pos}{q:Str}{p:Addr}{u o:HO} (T:TabOk H P pos q) (hp:H p=some u) (h1:∀ ps,u≠.tbl ps) (h2:∀ f,u≠.ext f):TabOk (upd H p o) P pos q :=
 T.but hp h1 h2 fun b x e nb=>by rw [zA6 nb];exact e
theorem zC9 {zs:List (Addr×Row)}{i:Nat}{q:Addr×Row} (p:Addr×Row→Bool) (h:zs[i]? = some q):(zs.take (i + 1)).filter p=if p q=true then (zs.take i).filter p++[q] else (zs.take i).filter p:=by
 rw [Zk,h,List.filter_append];cases e:p q <;> simp [e]
section
variable {P:Program}{w:World}{K:PySem.W.Frag}{mg:Str→Option Value}{base:Heap}{CX:CXT}
theorem scPl:FnScope ["kinds", "placed", "ready", "first"] ["kinds"] (defScope sPlaced):=⟨rfl,rfl,rfl,by decide +kernel,rfl,by decide +kernel,by decide +kernel⟩
theorem ok_placed {f C fI c Pt:Addr}{fd:FuncData} (hC:Calm CX) (T:Tops K mg) (KC:KCls K mg C fI) (LT:LamTxt K mg base c Pt) (F:FunL K "placed_by_owners" "placed_by_owners" sPlaced f fd c):FnOk P w K mg base CX 4 f fd ["kinds"] (spPlaced C Pt):=by
 refine FunL.okC F scPl (fun vs H Q E h=>?_) (fun A outer s H vs Q E hr h=>?_)
 ·obtain ⟨l,zs,rfl,_⟩:=h;rfl
 ·obtain ⟨l,zs,rfl,hl,hz,hT,k⟩:=h;have nd:=scPl.nd;have hr2:=hr.mono (show 2≤3 by decide);have hu:=zDb hr
  refine ⟨_,zA2 (zAd (i:=1) nd rfl (Or.inr rfl) zBt)
   (zA2 (zC0 (T:=["kind"]) (i:=2) rfl ScOk.auto (zAn (pv 0)) (fun _ _ _ _=>zAf (i:=4) (by decide +kernel:(["kinds", "placed", "ready", "first", "kind"]:List Str).Nodup) rfl (Or.inl rfl))
    (fun _ _ _ _=>zDx (zB8 (zBx (zBy (K:=K) rfl (pv 4) rfl)))) (fun _ _ _ _=>pv 4) nd rfl rfl rfl)
   (zA2 (zEy PassesOwn.never (zEx (pv 2) (fun _=>rfl))
    (zA2 (zAd (i:=3) nd rfl (Or.inl rfl) (zDy LT rfl hr2 rfl rfl T.min (zA0 (pv 2) zA3) (by exact ⟨rfl,rfl,rfl,by decide +kernel,rfl⟩)))
    (zA2 (zC6 hu (pv 1) (zAe (pv 3) rfl) (pv 3) rfl)
    (zA4 (zC0 (T:=["kind"]) (i:=2) rfl ScOk.auto (zAn (pv 0)) (fun _ _ _ _=>zAf (i:=4) (by decide +kernel:(["kinds", "placed", "ready", "first", "kind"]:List Str).Nodup) rfl (Or.inl rfl))
     (fun _ _ _ _=>zDx (PW.pt (zCz (zB8 (zD5 hu (zBy (K:=K) rfl (pv 4) rfl) (pv 1))) (zC4 (PW.pt (zCc (zB8 (zBx (zBy (K:=K) rfl (pv 4) rfl))) (zBo (zB8 (pc_din hu (zBy (K:=K) rfl (pv 4) rfl) (pv 1)))))))))) (fun _ _ _ _=>pv 4) nd rfl rfl rfl)))))
   (zA4 (zAb (pv 1))))),?_⟩
  have small:∀ n:Nat,n≤1000→n≤sizeLine:=fun n h=>Zd (small1000 h);have flen:∀ (p:Addr×Row→Bool) (i:Nat),((zs.take i).filter p).length≤50:=fun p i=>by
   have h1:=List.length_filter_le p (zs.take i);have h2:(zs.take i).length≤zs.length:=by rw [Zy];omega
   have:=hz.le;omega
  intro d hd;have g0:Same H (upd H d (.dK [])):=Same.new hd;have e0:(upd H d (.dK [])) d=some (.dK []):=zA1;generalize upd H d (.dK [])=H0 at g0 e0 ⊢;refine ⟨_,rfl,l,rfl,⟨_,SqL.of (g0 _ _ hl)⟩,zAo (xs:=zs.map fun q=>V.ref q.1) (fun i ys H'=>H0=H'∧ys=((zs.take i).filter (fun q=>readyB [] q.2)).map fun q=>V.ref q.1) ⟨rfl,rfl⟩ (fun i ys H' p=>by rw [← p.1];exact SqL.of (g0 _ _ hl)) (fun i ys H' hi p=>?_) ?_ ?_⟩
  ·rw [p.2,Z1];exact small _ (Za (flen _ i) (by decide))
  ·rintro i x ys H' hi ⟨rfl,rfl⟩ N hN;rw [Zf] at hi;cases ep:zs[i]? with
   | none=>rw [ep] at hi;cases hi
   | some q =>
    rw [ep] at hi;cases hi;obtain ⟨dx,lf,e⟩:=hz.at_ q (Ze ep);refine ⟨_,rfl,q.1,C,dx,_,_,rfl,g0 _ _ e,KC.cl,KC.nO,zC8 _ _ _,_,rfl,?_⟩;cases eo:q.2.owner with
    | none =>
     refine iteT ⟨_,rfl,hN _ _ ⟨rfl,?_⟩⟩;rw [zC9 _ ep,if_pos (by simp [readyB,eo]),Zu];rfl
    | some o =>
     refine iteF (hN _ _ ⟨rfl,?_⟩);rw [zC9 _ ep,if_neg (by simp [readyB,eo])]
  ·rintro ys H' ⟨rfl,rfl⟩ lr hlr;rw [Z1,Zm];have g1:Same H (upd H0 lr (.lst ((zs.filter fun q=>readyB [] q.2).map fun q=>V.ref q.1))):=g0.trans (Same.new hlr);have e1:=(Same.new (o:=.lst ((zs.filter fun q=>readyB [] q.2).map fun q=>V.ref q.1)) hlr) _ _ e0
   refine ⟨fun m σ H2=>∃ ord kvs lr x,m=zs.length - ord.length∧σ = [some (.ref l),some (.ref d),some (.ref lr),x]∧H2 d=some (.dK kvs)∧Placed zs ord kvs∧Greedy (·∈zs.map (·.2)) ord ∧
    H2 lr=some (.lst ((zs.filter fun q=>readyB ord q.2).map fun q=>V.ref q.1))∧TabOk H2 Pt lamPos lamQ∧GrownBut Pt H H2,⟨_,[],[],lr,none,rfl,rfl,e1,.nil,.nil,zA1,hT.same g1,.same g1⟩,?_⟩
   clear g1 e1 hlr e0 g0;rintro m σ H2 ⟨ord,kvs,lr,x,rfl,rfl,hd2,hpl,hgr,hlr,hT2,hG⟩;have hk2:∀ q∈zs,∃ dx lf,H2 q.1=some (.ins C dx (kflds (.str q.2.name) (.ref lf) (ownV q.2.owner))):=fun q hq=>by
    obtain ⟨dx,lf,e⟩:=hz.at_ q hq;exact ⟨dx,lf,hG _ _ e (hT.ne e fun _ z=>nomatch z)⟩
   refine ⟨_,rfl,_,.inl ⟨_,SqL.of hlr,rfl⟩,?_⟩;generalize ets:(zs.filter fun q=>readyB ord q.2)=ts at hlr ⊢;have mts:∀ q,q∈ts ↔ q∈zs∧Ready ord q.2:=fun q=>by rw [← ets,List.mem_filter,readyB_iff]
   by_cases c:ts=[]
   ·subst c;refine iteF ⟨_,rfl,k d ord kvs H2 hd hd2 hpl hgr (fun r hr z=>?_) hT2 hG⟩;obtain ⟨q,hq,rfl⟩:=List.mem_map.mp hr;have:=(mts q).mpr ⟨hq,z⟩;cases this
   ·have pos:0 < ts.length:=List.length_pos_iff.mpr c;rw [show (!(ts.map fun q=>V.ref q.1).isEmpty)=true by cases ts with | nil=>exact absurd rfl c | cons _ _=>rfl];refine iteT ?_
    refine ⟨fun σ' H'=>∃ m',m' < zs.length - ord.length∧∃ ord kvs lr x,m'=zs.length - ord.length∧σ'=[some (.ref l),some (.ref d),some (.ref lr),x]∧H' d=some (.dK kvs)∧Placed zs ord kvs∧Greedy (·∈zs.map (·.2)) ord ∧
     H' lr=some (.lst ((zs.filter fun q=>readyB ord q.2).map fun q=>V.ref q.1))∧TabOk H' Pt lamPos lamQ∧GrownBut Pt H H',fun _ _ h=>h,?_⟩
    refine ⟨_,rfl,lr,_,ts.map (·.2.name),rfl,SqL.of hlr,(by rw [Z1];exact pos),hT2,(by rw [Z1,Z1]),fun i v kx hi hk=>?_,fun i v kx H3 hi hk hbest hT3 hG3=>?_⟩
    ·rw [Zf] at hi hk;cases ep:ts[i]? with
     | none=>rw [ep] at hi;cases hi
     | some q =>
      rw [ep] at hi hk;cases hi;cases hk;obtain ⟨dx,lf,e⟩:=hk2 q ((mts q).mp (Ze ep)).1;exact ⟨q.1,C,dx,_,rfl,e,KC.cl,KC.nN,zCv _ _ _⟩
    ·rw [Zf] at hi hk;cases ep:ts[i]? with
     | none=>rw [ep] at hi;cases hi
     | some q =>
      rw [ep] at hi hk;cases hi;cases hk;obtain ⟨hq,hrd⟩:=(mts q).mp (Ze ep);have hG3':=hG.trans hG3;have hk3:∀ q∈zs,∃ dx lf,H3 q.1=some (.ins C dx (kflds (.str q.2.name) (.ref lf) (ownV q.2.owner))):=fun q hq=>by
       obtain ⟨dx,lf,e⟩:=hz.at_ q hq;exact ⟨dx,lf,hG3' _ _ e (hT.ne e fun _ z=>nomatch z)⟩
      obtain ⟨dx,lf,e⟩:=hk3 q hq;have hd3:H3 d=some (.dK kvs):=hG3 _ _ hd2 (hT2.ne hd2 fun _ z=>nomatch z);have kl:kvs.length=ord.length:=(Paired.length hpl).symm;have ol:ord.length≤zs.length:=by have:=hgr.le;rwa [Z1] at this
      refine ⟨_,rfl,_,rfl,_,rfl,q.1,C,dx,_,_,rfl,e,KC.cl,KC.nN,zCv _ _ _,d,_,rfl,DPut.k (k:=Sum.inr q.2.name) hd3 (Nat.lt_of_le_of_lt (Za (Nat.le_of_eq kl) (Za ol hz.le)) (small1000 (by decide))),?_⟩;have vn:(valV kvs (Sum.inr q.2.name)).isSome=false:=by rw [hpl.val];simpa using hrd.1
      rw [putK_new vn];have hpl':Placed zs (ord++[q.2.name]) (kvs++[(Sum.inr q.2.name,V.ref q.1)]):=zE1 hpl ⟨q,hq,rfl,rfl⟩;have hgr':Greedy (·∈zs.map (·.2)) (ord++[q.2.name]):=hgr.snoc ⟨q.2,List.mem_map.mpr ⟨q,hq,rfl⟩,rfl,hrd⟩ fun r hr hrr=>by
       obtain ⟨q',hq',rfl⟩:=List.mem_map.mp hr;exact hbest _ (List.mem_map.mpr ⟨q',(mts q').mpr ⟨hq',hrr⟩,rfl⟩)
      have ol':(ord++[q.2.name]).length≤zs.length:=by have:=hgr'.le;rwa [Z1] at this
      have lt:zs.length - (ord++[q.2.name]).length < zs.length - ord.length:=by
       rw [Zc] at ol' ⊢;simp at ol' ⊢;omega
      generalize ord++[q.2.name]=ord' at hpl' hgr' lt;have hd4:(upd H3 d (.dK (kvs++[(Sum.inr q.2.name,V.ref q.1)]))) d=some (.dK (kvs++[(Sum.inr q.2.name,V.ref q.1)])):=zA1;have hT4:TabOk (upd H3 d (.dK (kvs++[(Sum.inr q.2.name,V.ref q.1)]))) Pt lamPos lamQ:=hT3.upd hd3 (fun _ z=>nomatch z) (fun _ z=>nomatch z);have hG4:GrownBut Pt H (upd H3 d (.dK (kvs++[(Sum.inr q.2.name,V.ref q.1)]))):=fun b o e n=>by
       rw [zA6 (zA5 e hd)];exact hG3' b o e n
      generalize upd H3 d (.dK (kvs++[(Sum.inr q.2.name,V.ref q.1)]))=H4 at hd4 hT4 hG4 ⊢;generalize kvs++[(Sum.inr q.2.name,V.ref q.1)]=kvs' at hd4 hpl';clear hk2 hk3;have hk4:∀ q∈zs,∃ dx lf,H4 q.1=some (.ins C dx (kflds (.str q.2.name) (.ref lf) (ownV q.2.owner))):=fun q hq=>by
       obtain ⟨dx,lf,e⟩:=hz.at_ q hq;exact ⟨dx,lf,hG4 _ _ e (hT.ne e fun _ z=>nomatch z)⟩
      have hl4:=hG4 _ _ hl (hT.ne hl fun _ z=>nomatch z);refine ⟨_,rfl,l,rfl,⟨_,SqL.of hl4⟩,zAo (xs:=zs.map fun q=>V.ref q.1) (fun i ys H'=>H4=H'∧ys=((zs.take i).filter (fun q=>readyB ord' q.2)).map fun q=>V.ref q.1) ⟨rfl,rfl⟩ (fun i ys H' p=>by rw [← p.1];exact SqL.of hl4) (fun i ys H' hi p=>?_) ?_ ?_⟩
      ·rw [p.2,Z1];exact small _ (Za (flen _ i) (by decide))
      ·rintro i x ys H' hi ⟨rfl,rfl⟩ N hN;rw [Zf] at hi;cases ep:zs[i]? with
       | none=>rw [ep] at hi;cases hi
       | some q =>
        rw [ep] at hi;cases hi;obtain ⟨dx,lf,e⟩:=hk4 q (Ze ep);have no:readyB ord' q.2=false→((zs.take i).filter (fun q=>readyB ord' q.2)).map (fun q=>V.ref q.1)=((zs.take (i + 1)).filter (fun q=>readyB ord' q.2)).map fun q=>V.ref q.1:=fun z=>by rw [zC9 _ ep,if_neg (by rw [z];simp)]
        have ye:readyB ord' q.2=true→((zs.take i).filter (fun q=>readyB ord' q.2)).map (fun q=>V.ref q.1)++[V.ref q.1]=((zs.take (i + 1)).filter (fun q=>readyB ord' q.2)).map fun q=>V.ref q.1:=fun z=>by rw [zC9 _ ep,if_pos z,Zu];rfl
        refine ⟨_,rfl,q.1,C,dx,_,_,rfl,e,KC.cl,KC.nN,zCv _ _ _,_,rfl,d,_,rfl,DGet.k (k:=Sum.inr q.2.name) hd4,_,rfl,?_⟩;rw [hpl'.val];by_cases c1:q.2.name∈ord'
        ·rw [decide_eq_true c1];refine iteF (iteF (hN _ _ ⟨rfl,no ?_⟩));simp [readyB,c1]
        ·rw [decide_eq_false c1];refine iteT ⟨_,rfl,q.1,C,dx,_,_,rfl,e,KC.cl,KC.nO,zC8 _ _ _,_,rfl,?_⟩;cases eo:q.2.owner with
         | none =>
          refine iteT (iteT ⟨_,rfl,hN _ _ ⟨rfl,ye ?_⟩⟩);simp [readyB,c1,eo]
         | some o =>
          have ev:(kflds (.str q.2.name) (.ref lf) (ownV q.2.owner)).lookup ("owner" : Str)=some (.str o):=by rw [zC8,eo];rfl
          refine iteF ⟨_,rfl,q.1,C,dx,_,_,rfl,e,KC.cl,KC.nO,ev,_,rfl,d,_,rfl,DGet.k (k:=Sum.inr o) hd4,_,rfl,?_⟩;rw [hpl'.val];by_cases c2:o∈ord'
          ·rw [decide_eq_true c2];refine iteT ⟨_,rfl,hN _ _ ⟨rfl,ye ?_⟩⟩;simp [readyB,c1,eo,c2]
          ·rw [decide_eq_false c2];refine iteF (hN _ _ ⟨rfl,no ?_⟩);simp [readyB,c1,eo,c2]
      ·rintro ys H' ⟨rfl,rfl⟩ lr' hlr';rw [Z1,Zm];exact ⟨_,lt,ord',kvs',lr',_,rfl,rfl,(Same.new hlr') _ _ hd4,hpl',hgr',zA1,hT4.same (Same.new hlr'),hG4.trans (.same (Same.new hlr'))⟩
end
end L2.W
namespace L2.W
open PySem My
theorem call_len_dict {X:Cx}:CallR X (.builtin "len") (fun vs H Q=>∃ d kvs,vs=[.ref d]∧Rd H d (.dK kvs)∧Q (.int (kvs.length:Nat)) H):=by
 intro pins s σ H vs us Q I rv h;obtain ⟨d,kvs,rfl,rd,q⟩:=h;obtain ⟨u,rfl,ru⟩:=v1 rv;cases (show u=Value.ref d from ru);exact d_len I rd fun t s' I'=>⟨.int _,H,I',⟨t,rfl⟩,q⟩
structure KsCls (K:PySem.W.Frag) (mg:Str→Option Value) (CK fI fOr fOf fOw:Addr):Prop where
 cl:Cls K CK
 nB:NoAttr K CK "by_name"
 mgC:mg "Kinds" = some (.ref CK)
 mkd:Mk K CK fI
 mOf:Meth K CK "of" fOf
noncomputable def ksF (d:V):List (Str×V):=putF "by_name" d []
theorem ks_by (d:V):(ksF d).lookup ("by_name" : Str)=some d:=by
 unfold ksF;rw [zAs,if_pos rfl]
theorem zCp {m:Str} (d:V) (h:¬ m = "by_name"):(ksF d).lookup m=none:=by
 unfold ksF;rw [zAs,if_neg h];rfl
noncomputable def KindsAt (CK:Addr) (H:Hp) (p d:Addr) (kvs:List (Key×V)):Prop:=(∃ dx,H p=some (.ins CK dx (ksF (.ref d))))∧Rd H d (.dK kvs)
noncomputable def spInitKs (CK C Pt:Addr):Sp:=fun vs H Q _=>∃ (p dx l:Addr) (zs:List (Addr×Row)),vs=[.ref p,.ref l]∧H p=some (.ins CK dx [])∧H l=some (.lst (zs.map fun q=>V.ref q.1))∧Zs C H zs∧RowsP (zs.map (·.2))∧TabOk H Pt lamPos lamQ ∧
 ∀ (d:Addr) (ord:List Str) (kvs:List (Key×V)) (H':Hp),H' p=some (.ins CK dx (ksF (.ref d)))→H d=none→H' d=some (.dK kvs)→Placed zs ord kvs→Greedy (·∈zs.map (·.2)) ord→ord.length=zs.length→TabOk H' Pt lamPos lamQ →
  (∀ b o,H b=some o→b≠p→b≠Pt→H' b=some o)→Q .non H'
noncomputable def spOf (CK:Addr):Sp:=fun vs H Q _=>∃ (p d:Addr) (kvs:List (Key×V)) (n:Str) (v:V),vs=[.ref p,.str n]∧nameOk n∧KindsAt CK H p d kvs∧valV kvs (Sum.inr n)=some v∧∀ H',Same H H'→Q v H'
section
variable {P:Program}{w:World}{K:PySem.W.Frag}{mg:Str→Option Value}{base:Heap}{CX:CXT}
theorem scKs:FnScope ["self", "kinds", "placed"] ["self", "kinds"] (defScope sInitKs):=⟨rfl,rfl,rfl,by decide +kernel,rfl,by decide +kernel,by decide +kernel⟩
theorem ok_initKs {f fI fa fp fu fn C CK fIk fOr fOf fOw c Pt:Addr}{fd fda fdp fdu fdn:FuncData} (hC:Calm CX) (T:Tops K mg) (KC:KCls K mg C fI) (KI:KIsi K C) (KS:KsCls K mg CK fIk fOr fOf fOw) (LT:LamTxt K mg base c Pt) (F:Fun K "__init__" "Kinds.__init__" sInitKs f fd)
  (DN:Def K mg "is_name" sIsName ["thing"] fn fdn) (DU:Def K mg "are_unlike_names" sUnlike ["things"] fu fdu) (DA:Def K mg "are_kinds" sAreKinds ["things"] fa fda) (DP:FunL K "placed_by_owners" "placed_by_owners" sPlaced fp fdp c) (DPa:mg "placed_by_owners" = some (.ref fp)) (DPb:Binds K fdp ["kinds"] []) :
  FnOk P w K mg base CX 5 f fd ["self", "kinds"] (spInitKs CK C Pt):=by
 have GA:FnOk P w K mg base CX 3 fa fda ["things"] (spAreKinds C):=ok_areKinds hC T KC KI DA.fn DN DU;have GP:FnOk P w K mg base CX 4 fp fdp ["kinds"] (spPlaced C Pt):=ok_placed hC T KC LT DP;refine Fun.okC F scKs (fun vs H Q E h=>?_) (fun cdv A outer s H vs Q E hr h=>?_)
 ·obtain ⟨p,dx,l,zs,rfl,_⟩:=h;rfl
 ·obtain ⟨p,dx,l,zs,rfl,hp,hl,hz,rp,hT,k⟩:=h;have nd:=scKs.nd;have hr3:=hr.mono (show 3≤4 by decide)
  refine ⟨_,zA2 (zAj (zAm (zAk (zA8 GA hr3 rfl DA.at_ DA.fn.kp DA.bind .nil (passC hC) (zA0 (pv 1) zA3)))) zAc zAa)
   (zA2 (zAd (i:=2) nd rfl (Or.inl rfl) (zA8 GP hr rfl DPa DP.kp DPb .nil (passC hC) (zA0 (pv 1) zA3)))
   (zA2 (zAj (zAh op_lt (zA9 call_len_dict rfl T.len PySem.boot_len (zA0 (pv 2) zA3)) (zA9 zAv rfl T.len PySem.boot_len (zA0 (pv 1) zA3)) (nomark _)) zAc zAa)
   (zA4 (zAp (pv 0) (pv 2) rfl)))),?_⟩
  have kl:KL C H (zs.map (·.1)) (zs.map (·.2)):=by
   have:=hz.at_;clear hl hz rp k
   induction zs with
   | nil=>exact .nil
   | cons q t ih=>exact .cons (this q Zn) (ih fun q' h=>this q' (Zb _ h))
  refine ⟨_,rfl,l,zs.map (·.1),zs.map (·.2),rfl,(by rw [Yh];exact hl),kl,rp,fun H1 s1=>⟨_,rfl,iteF ?_⟩⟩;refine ⟨_,rfl,l,zs,rfl,s1 _ _ hl,hz.mono fun b o e _=>s1 _ _ e,hT.same s1,fun d ord kvs H2 hd hd2 hpl hgr hno hT2 hG=>?_⟩;have nT:∀ {b:Addr}{o:HO},H b=some o→(∀ ps,o≠.tbl ps)→H2 b=some o:=fun e h=>hG _ _ (s1 _ _ e) (hT.ne e h);have full:ord.length=zs.length:=by
   have a:=hgr.le;rw [Z1] at a;refine Nat.le_antisymm a (Nat.le_of_not_lt fun lt=>?_);obtain ⟨r,hr,q⟩:=rp.progress (ord:=ord) (by rw [Z1];exact lt);exact hno r hr q
  have hp2:=nT hp fun _ z=>nomatch z;have hl2:=nT hl fun _ z=>nomatch z;refine ⟨_,rfl,d,kvs,rfl,.inl hd2,_,rfl,l,_,rfl,.inl (SqL.of hl2),_,_,rfl,rfl,_,rfl,?_⟩;have kvl:kvs.length=ord.length:=(Paired.length hpl).symm;refine ite2 (fun h=>absurd (of_decide_eq_true h) (by rw [Z1];omega)) (fun _=>?_);refine ⟨_,rfl,_,rfl,p,CK,dx,[],rfl,hp2,KS.cl,KS.nB,(by show 0 < 1000;decide),?_⟩;have dp:d≠p:=Ne.symm (zA5 (s1 _ _ hp) hd);refine k d ord kvs _ zA1 ?_ (by rw [zA6 dp];exact hd2) hpl hgr full (hT2.upd hp2 (fun _ z=>nomatch z) (fun _ z=>nomatch z)) fun b o e n1 n2=>?_
  ·exact s1.free hd
  ·rw [zA6 n1];exact hG _ _ (s1 _ _ e) n2
theorem scOf:FnScope ["self", "name"] ["self", "name"] (defScope sOf):=⟨rfl,rfl,rfl,by decide +kernel,rfl,by decide +kernel,by decide +kernel⟩
theorem zBf {H H':Hp}{d:Addr}{u:HO} (s:Same H H') (r:Rd H d u):Rd H' d u:=by
 rcases r with r | ⟨o,r⟩
 ·exact .inl (s _ _ r)
 ·exact .inr ⟨o,s _ _ r⟩
theorem ok_of {f fn CK fIk fOr fOf fOw:Addr}{fd fdn:FuncData} (hC:Calm CX) (T:Tops K mg) (KS:KsCls K mg CK fIk fOr fOf fOw) (F:Fun K "of" "Kinds.of" sOf f fd) (DN:Def K mg "is_name" sIsName ["thing"] fn fdn):FnOk P w K mg base CX 2 f fd ["self", "name"] (spOf CK):=by
 have GN:FnOk P w K mg base CX 1 fn fdn ["thing"] spNameD:=zD8 DN.fn T;refine Fun.okC F scOf (fun vs H Q E h=>?_) (fun cdv A outer s H vs Q E hr h=>?_)
 ·obtain ⟨p,d,kvs,n,v,rfl,_⟩:=h;rfl
 ·obtain ⟨p,d,kvs,n,v,rfl,nn,⟨⟨dx,hp⟩,rd⟩,hv,k⟩:=h;have hu:=zDb hr
  refine ⟨_,zA2 (zAj (PW.pt (zCc (zAm (zAk (zA8 GN hr rfl DN.at_ DN.fn.kp DN.bind .nil (passC hC) (zA0 (pv 1) zA3)))) (zBo (zB8 (zD5 hu (pv 1) (zAe (pv 0) rfl)))))) zAc zAa)
   (zA4 (zAb (zBu hu (zAe (pv 0) rfl) (pv 1) (fun _ _=>rfl)))),?_⟩
  refine ⟨_,rfl,_,.str n,rfl,.str n (Za nn.2.2 (by decide)) nn.2.1,fun H1 s1=>⟨_,rfl,?_⟩⟩;rw [show nameD (.str n)=true from nn.1];refine iteF ⟨_,rfl,_,rfl,p,CK,dx,_,_,rfl,s1 _ _ hp,KS.cl,KS.nB,ks_by _,d,_,rfl,.inl ⟨kvs,Sum.inr n,zBf s1 rd,rfl,rfl⟩,_,rfl,?_⟩;rw [hv];refine iteF ?_;exact ⟨_,rfl,p,CK,dx,_,_,rfl,s1 _ _ hp,KS.cl,KS.nB,ks_by _,_,rfl,d,v,rfl,.inl ⟨kvs,Sum.inr n,zBf s1 rd,rfl,hv.symm⟩,k _ s1⟩
end
end L2.W
namespace L2.W
open PySem My
noncomputable def spWritten:Sp:=fun vs H Q _=>∃ n:Nat,vs=[.str (figs n),.int 6]∧n≤999999∧∀ H',Same H H'→Q (.bl true) H'
section
variable {P:Program}{w:World}{K:PySem.W.Frag}{mg:Str→Option Value}{base:Heap}{CX:CXT}
theorem scWr:FnScope ["text", "most_figures"] ["text", "most_figures"] (defScope sWritten):=⟨rfl,rfl,rfl,by decide +kernel,rfl,by decide +kernel,by decide +kernel⟩
theorem fig_in {n c:Nat} (h:c∈(figs n).cps.toList):decide (c∈("0123456789" : Str).cps.toList)=true:=by
 have d:=figs_dig h;have e:("0123456789" : Str).cps.toList=[48,49,50,51,52,53,54,55,56,57]:=by decide +kernel
 rw [e];refine decide_eq_true ?_;have:=(by decide +kernel:∀ i < 10,48 + i∈[48,49,50,51,52,53,54,55,56,57]) (c - 48) (by omega)
 rwa [Nat.add_sub_cancel' d.1] at this
theorem ok_written {f:Addr}{fd:FuncData} (T:Tops K mg) (F:Fun K "is_written_number" "is_written_number" sWritten f fd):FnOk P w K mg base CX 1 f fd ["text", "most_figures"] spWritten:=by
 refine Fun.okC F scWr (fun vs H Q E h=>?_) (fun cdv A outer s H vs Q E hr h=>?_)
 ·obtain ⟨n,rfl,_⟩:=h;rfl
 ·obtain ⟨n,rfl,hn,k⟩:=h;obtain ⟨tf,hfigs⟩:=T.figs;have g1:=figs_ge n;have g2:=zF9 hn;have hz:(figs n).length≤sizeLine:=Zd (small1000 (by omega))
  refine ⟨_,zA2 (zAj (zAm (zD0 zEi zEi zA7 (zA9 zCl rfl T.len PySem.boot_len (zA0 (pv 0) zA3)) (pv 1))) (zA4 (zAb zBq)) zAa)
   (zA2 (zAj (PW.pt (zCz (zAh op_gt (zA9 zCl rfl T.len PySem.boot_len (zA0 (pv 0) zA3)) zA7 (nomark _)) (zC4 (zAk (zE0 PySem.F.plainAttrs_str PySem.F.slot_str_startswith PySem.F.type_str_startswith zF7 (pv 0) (zA0 zAi zA3)))))) (zA4 (zAb zBq)) zAa)
   (zA4 (zAb (zA9 (zBb rfl) rfl T.all PyProof.Rows.boot_all (zA0 (zAr (T:=["sign"]) rfl ScOk.auto (pi_str (pv 0)) (fun _ _ _ _=>zAf (i:=2) (by decide +kernel:(["text", "most_figures", "sign"]:List Str).Nodup) rfl (Or.inl rfl)) (fun _ _ _ _=>zB3)
     (fun _ _ _ _=>zBk op_in_str (pv 2) (zBc (v:=.str "0123456789") rfl hfigs ⟨_,rfl⟩) rfl)) zA3))))),?_⟩
  refine ⟨_,rfl,figs n,rfl,hz,_,_,rfl,rfl,_,rfl,?_⟩;refine ite2 (fun h1=>?_) (fun h1=>absurd (decide_eq_true (by omega)) h1);refine ⟨_,rfl,_,_,rfl,rfl,_,rfl,?_⟩;rw [decide_eq_true (show ((figs n).length:Int)≤6 by omega)];refine iteF ⟨_,rfl,figs n,rfl,hz,_,_,rfl,rfl,_,rfl,?_⟩;refine ite2 (fun h2=>?_) (fun h2=>?_)
  ·have lt:1 < (figs n).length:=by have:=of_decide_eq_true h2;omega
   refine ⟨_,rfl,rfl,_,_,rfl,rfl,_,rfl,?_⟩;rw [figs_start lt];refine iteF ?_;refine ⟨_,rfl,figs n,rfl,zDl (fun _=>true) (fun c=>.bl (decide (c∈("0123456789" : Str).cps.toList))) hz (fun c Ry Rn q _=>?_) (fun d hd=>?_)⟩
   ·refine iteT (B:=Rn H) ⟨_,rfl,_,_,rfl,rfl,?_⟩;rw [PySem.StrLaws.found_one];exact q rfl
   ·refine ⟨d,(figs n).cps.toList.map fun c=>decide (c∈("0123456789" : Str).cps.toList),rfl,SqL.of ?_,?_⟩
    ·rw [zA1,List.filter_eq_self.mpr (fun _ _=>rfl),Yh];rfl
    ·have e:((figs n).cps.toList.map fun c=>decide (c∈("0123456789" : Str).cps.toList)).all id=true:=by
      rw [Yg];exact List.all_eq_true.mpr fun c hc=>fig_in hc
     rw [e];exact k _ (Same.new hd)
  ·refine iteF ?_;refine ⟨_,rfl,figs n,rfl,zDl (fun _=>true) (fun c=>.bl (decide (c∈("0123456789" : Str).cps.toList))) hz (fun c Ry Rn q _=>?_) (fun d hd=>?_)⟩
   ·refine iteT (B:=Rn H) ⟨_,rfl,_,_,rfl,rfl,?_⟩;rw [PySem.StrLaws.found_one];exact q rfl
   ·refine ⟨d,(figs n).cps.toList.map fun c=>decide (c∈("0123456789" : Str).cps.toList),rfl,SqL.of ?_,?_⟩
    ·rw [zA1,List.filter_eq_self.mpr (fun _ _=>rfl),Yh];rfl
    ·have e:((figs n).cps.toList.map fun c=>decide (c∈("0123456789" : Str).cps.toList)).all id=true:=by
      rw [Yg];exact List.all_eq_true.mpr fun c hc=>fig_in hc
     rw [e];exact k _ (Same.new hd)
end
end L2.W
namespace L2.W
open PySem My
structure PathOk (p:List (Str×Nat)):Prop where
 ne:p≠[]
 le:p.length≤10
 ok:∀ q∈p,nameOk q.1∧q.2≤999999
theorem name_free {x:Str} (h:nameOk x):freeOf 46 x:=fun d hd e=>by
 have h1:=h.1;unfold nameB at h1;rw [Zj] at h1;have h2:=List.all_eq_true.mp h1.2 d hd;rw [e] at h2;exact absurd h2 (by decide +kernel)
theorem figs_free (n:Nat):freeOf 46 (figs n):=fun d hd e=>by
 have:=figs_dig hd;omega
theorem zCw {R:Str→Prop}:∀ {p:List (Str×Nat)},(∀ q∈p,R q.1∧R (figs q.2))→∀ w∈wordsP p,R w
 | [],_,w,hw=>nomatch hw
 | (k,n) :: t,h,w,hw=>by
  have a:=h (k,n) Zn;rcases List.mem_cons.mp hw with e | hw
  ·rw [e];exact a.1
  ·rcases List.mem_cons.mp hw with e | hw
   ·rw [e];exact a.2
   ·exact zCw (fun q hq=>h q (Zb _ hq)) w hw
theorem PathOk.split {p:List (Str×Nat)} (h:PathOk p):Txt.split (showP p) "." = wordsP p:=by
 unfold showP;rw [dot_eq];refine split_join (zCw fun q hq=>⟨name_free (h.ok q hq).1,figs_free q.2⟩) fun e=>h.ne ?_;have:=zB5 p;rw [e] at this;cases p with
 | nil=>rfl
 | cons a t=>simp at this
theorem PathOk.len {p:List (Str×Nat)} (h:PathOk p):(showP p).length≤180:=by
 have a:=join_len (s:=".") (m:=8) (by decide +kernel) (ws:=wordsP p) (zCw fun q hq=>⟨(h.ok q hq).1.2.2,Za (zF9 (h.ok q hq).2) (by decide)⟩);rw [zB5] at a;have:=h.le;unfold showP;omega
noncomputable def spForm:Sp:=fun vs H Q _=>∃ p,vs=[.str (showP p)]∧PathOk p∧∀ H',Same H H'→Q (.bl true) H'
section
variable {P:Program}{w:World}{K:PySem.W.Frag}{mg:Str→Option Value}{base:Heap}{CX:CXT}
theorem scHf:FnScope ["thing", "words"] ["thing"] (defScope sHasForm):=⟨rfl,rfl,rfl,by decide +kernel,rfl,by decide +kernel,by decide +kernel⟩
theorem all_true (n:Nat):(List.replicate n true).all id=true:=by
 induction n with
 | zero=>rfl
 | succ n ih=>rw [Zx,Y9,ih];rfl
theorem ok_form {f fn fw:Addr}{fd fdn fdw:FuncData} (hC:Calm CX) (T:Tops K mg) (F:Fun K "has_form" "has_form" sHasForm f fd) (DN:Def K mg "is_name" sIsName ["thing"] fn fdn) (DW:Def K mg "is_written_number" sWritten ["text", "most_figures"] fw fdw):FnOk P w K mg base CX 2 f fd ["thing"] spForm:=by
 have GN:FnOk P w K mg base CX 1 fn fdn ["thing"] spNameD:=zD8 DN.fn T;have GW:FnOk P w K mg base CX 1 fw fdw ["text", "most_figures"] spWritten:=ok_written T DW.fn;refine Fun.okC F scHf (fun vs H Q E h=>?_) (fun cdv A outer s H vs Q E hr h=>?_)
 ·obtain ⟨p,rfl,_⟩:=h;rfl
 ·obtain ⟨p,rfl,hp,k⟩:=h;have nd:=scHf.nd;obtain ⟨tm,hmost⟩:=T.mostF;have hl:=hp.len;have pl:=hp.le;have ln:(wordsP p).length=2 * p.length:=zB5 p;have p0:0 < p.length:=List.length_pos_iff.mpr hp.ne
  refine ⟨_,zA2 (zAj (zAm (zAk (zA9 zAg rfl T.isinst PyProof.Rows.boot_isinstance (zA0 (pv 0) (zA0 (zB2 (v:=.ty "str") rfl T.str PyProof.Rows.boot_str rfl) zA3))))) (zA4 (zAb zBq)) zAa)
   (zA2 (zAd (i:=1) nd rfl (Or.inl rfl) (zE0 PySem.F.plainAttrs_str PySem.F.slot_str_split PySem.F.type_str_split mt_split (pv 0) (zA0 zAi zA3)))
   (zA2 (zAj (zAh zE2 (zAt zD6 (zA9 zAv rfl T.len PySem.boot_len (zA0 (pv 1) zA3)) zA7) zA7 (nomark _)) (zA4 (zAb zBq)) zAa)
   (zA2 (zAj (zAm (zAk (zA9 (zBb rfl) rfl T.all PyProof.Rows.boot_all (zA0 (zAr (T:=["word"]) rfl ScOk.auto (zAn (zF1 (pv 1))) (fun _ _ _ _=>zAf (i:=2) (by decide +kernel:(["thing", "words", "word"]:List Str).Nodup) rfl (Or.inl rfl)) (fun _ _ _ _=>zB3)
     (fun _ _ _ _=>zA8 GN hr rfl DN.at_ DN.fn.kp DN.bind .nil (passC hC) (zA0 (pv 2) zA3))) zA3)))) (zA4 (zAb zBq)) zAa)
   (zA4 (zAb (zA9 (zBb rfl) rfl T.all PyProof.Rows.boot_all (zA0 (zAr (T:=["word"]) rfl ScOk.auto (zAn (pe_odd (pv 1))) (fun _ _ _ _=>zAf (i:=2) (by decide +kernel:(["thing", "words", "word"]:List Str).Nodup) rfl (Or.inl rfl)) (fun _ _ _ _=>zB3)
     (fun _ _ _ _=>zA8 GW hr rfl DW.at_ DW.fn.kp DW.bind .nil (passC hC) (zA0 (pv 2) (zA0 (zBc (v:=.int 6) rfl hmost ⟨_,rfl⟩) zA3)))) zA3))))))),?_⟩
  refine ⟨_,rfl,_,_,_,_,_,rfl,.str _,rfl,rfl,_,rfl,iteF ?_⟩;refine ⟨_,rfl,rfl,_,_,rfl,rfl,by decide +kernel,by omega,fun wa hwa=>?_⟩;rw [hp.split];have s1:Same H (upd H wa (.lst ((wordsP p).map V.str))):=Same.new hwa;have e1:(upd H wa (.lst ((wordsP p).map V.str))) wa=some (.lst ((wordsP p).map V.str)):=zA1;generalize upd H wa (.lst ((wordsP p).map V.str))=H1 at s1 e1 ⊢;have ev:((((wordsP p).map V.str).length:Nat):Int) % 2=0:=by rw [Z1,ln];omega
  refine ⟨_,rfl,wa,_,rfl,.inl (SqL.of e1),_,_,rfl,rfl,(by show (0:Int) < 2;decide),rfl,_,rfl,?_⟩;refine ite2 (fun h=>by replace h:(!decide (V.int ((((wordsP p).map V.str).length:Int) % 2)=V.int 0))=true:=h;rw [ev] at h;exact absurd h (by decide)) (fun _=>?_);refine ⟨_,rfl,wa,_,rfl,SqL.of e1,fun ea hea=>⟨ea,rfl,⟨_,SqL.of zA1⟩,?_⟩⟩;rw [zEc,zCq];have s2:Same H1 (upd H1 ea (.lst ((p.map (·.1)).map V.str))):=Same.new hea;have e2:(upd H1 ea (.lst ((p.map (·.1)).map V.str))) ea=some (.lst ((p.map (·.1)).map V.str)):=zA1;generalize upd H1 ea (.lst ((p.map (·.1)).map V.str))=H2 at s2 e2 ⊢;refine zAo (xs:=(p.map (·.1)).map V.str) (fun i ys H'=>Same H2 H'∧ys=List.replicate i (V.bl true)) ⟨Same.refl _,rfl⟩ (fun i ys H' q=>SqL.of (q.1 _ _ e2)) (fun i ys H' hi q=>?_) ?_ ?_
  ·rw [q.2,Zi];rw [Z1,Z1] at hi;exact Zd (small1000 (by omega))
  ·rintro i x ys H' hi ⟨s',rfl⟩ N hN;rw [Zf,Zf] at hi;obtain ⟨n,hn,rfl⟩:=Option.map_eq_some_iff.mp hi;obtain ⟨q,hq,rfl⟩:=Option.map_eq_some_iff.mp hn;have nn:=(hp.ok q (Ze hq)).1;refine pick ?_;refine ⟨_,rfl,_,.str q.1,rfl,.str q.1 (Za nn.2.2 (by decide)) nn.2.1,fun H3 s3=>?_⟩;rw [show nameD (.str q.1)=true from nn.1];exact hN _ _ ⟨s'.trans s3,by rw [List.replicate_succ']⟩
  ·rintro ys H' ⟨s',rfl⟩ c hc;have s3:Same H2 (upd H' c (.lst (List.replicate ((p.map (·.1)).map V.str).length (V.bl true)))):=s'.trans (Same.new hc);refine ⟨c,List.replicate ((p.map (·.1)).map V.str).length true,rfl,SqL.of (by rw [zA1,List.map_replicate]),_,rfl,?_⟩;rw [all_true];refine iteF ?_;have s4:=s2.trans s3;generalize upd H' c (.lst (List.replicate ((p.map (·.1)).map V.str).length (V.bl true)))=H4 at s4 ⊢;refine ⟨_,rfl,wa,_,rfl,SqL.of (s4 _ _ e1),(by rw [Z1];omega),fun oa hoa=>⟨oa,rfl,⟨_,SqL.of zA1⟩,?_⟩⟩;rw [odds_map,zEk];have s5:Same H4 (upd H4 oa (.lst ((p.map fun q=>figs q.2).map V.str))):=Same.new hoa;have e5:(upd H4 oa (.lst ((p.map fun q=>figs q.2).map V.str))) oa=some (.lst ((p.map fun q=>figs q.2).map V.str)):=zA1;generalize upd H4 oa (.lst ((p.map fun q=>figs q.2).map V.str))=H5 at s5 e5 ⊢;refine zAo (xs:=(p.map fun q=>figs q.2).map V.str) (fun i ys H'=>Same H5 H'∧ys=List.replicate i (V.bl true)) ⟨Same.refl _,rfl⟩ (fun i ys H' q=>SqL.of (q.1 _ _ e5)) (fun i ys H' hi q=>?_) ?_ ?_
   ·rw [q.2,Zi];rw [Z1,Z1] at hi;exact Zd (small1000 (by omega))
   ·rintro i x ys H' hi ⟨s',rfl⟩ N hN;rw [Zf,Zf] at hi;obtain ⟨n,hn,rfl⟩:=Option.map_eq_some_iff.mp hi;obtain ⟨q,hq,rfl⟩:=Option.map_eq_some_iff.mp hn;have nn:=(hp.ok q (Ze hq)).2;refine pick ?_;exact ⟨_,rfl,q.2,rfl,nn,fun H3 s3=>hN _ _ ⟨s'.trans s3,by rw [List.replicate_succ']⟩⟩
   ·rintro ys H' ⟨s',rfl⟩ c hc;refine ⟨c,List.replicate ((p.map fun q=>figs q.2).map V.str).length true,rfl,SqL.of (by rw [zA1,List.map_replicate]),?_⟩;rw [all_true];exact k _ ((s1.trans s4).trans (s5.trans (s'.trans (Same.new hc))))
end
end L2.W
namespace L2.W
open PySem My
noncomputable def KOf (C:Addr) (H:Hp) (kvs:List (Key×V)) (n:Str) (o:Option Str):Prop:=∃ q dx lf,valV kvs (Sum.inr n)=some (.ref q)∧H q=some (.ins C dx (kflds (.str n) (.ref lf) (ownV o)))
theorem KOf.mono {C:Addr}{H H':Hp}{kvs:List (Key×V)}{n:Str}{o:Option Str} (h:KOf C H kvs n o) (s:Same H H'):KOf C H' kvs n o:=by
 obtain ⟨q,dx,lf,e,e2⟩:=h;exact ⟨q,dx,lf,e,s _ _ e2⟩
noncomputable def Chain (R:Str→Option Str→Prop):Option Str→List (Str×Nat)→Prop
 | _,[]=>True
 | a,(k,_) :: t=>R k a∧Chain R (some k) t
noncomputable def aboveP (a:Option Str) (p:List (Str×Nat)):Nat→Option Str
 | 0=>a
 | i + 1=>(p[i]?).map (·.1)
theorem Chain.get {R:Str→Option Str→Prop}:∀ {p:List (Str×Nat)}{a:Option Str}{i:Nat}{q:Str×Nat},Chain R a p→p[i]? = some q→R q.1 (aboveP a p i)
 | (k,n) :: t,a,0,q,h,e=>by
  have:(k,n)=q:=by simpa using e
  rw [← this];exact h.1
 | (k,n) :: t,a,1,q,h,e=>by
  have:=Chain.get (i:=0) (q:=q) h.2 (by simpa using e);exact this
 | (k,n) :: t,a,i + 2,q,h,e=>by
  have:=Chain.get (i:=i + 1) (q:=q) h.2 (by simpa using e);exact this
theorem Chain.imp {R R':Str→Option Str→Prop} (f:∀ k o,R k o→R' k o):∀ {p:List (Str×Nat)}{a:Option Str},Chain R a p→Chain R' a p
 | [],_,_=>trivial
 | _ :: _,_,h=>⟨f _ _ h.1,h.2.imp f⟩
noncomputable def ownP (q:List (Str×Nat)):Option Str:=if q.isEmpty then none else some (showP q)
noncomputable def spParts (CK C:Addr):Sp:=fun vs H Q _=>∃ (kq d:Addr) (kvs:List (Key×V)) (q:List (Str×Nat)) (k:Str) (n:Nat),vs=[.ref kq,.str (showP (q++[(k,n)]))]∧KindsAt CK H kq d kvs∧PathOk (q++[(k,n)])∧Chain (KOf C H kvs) none (q++[(k,n)]) ∧
 ∀ (t:Addr) (H':Hp),H t=none→H' t=some (.tup [.str k,ownV (ownP q),.int n])→Same H H'→Q (.ref t) H'
theorem ownV_scal (o:Option Str):scal (ownV o) (ownV o)=true:=by cases o <;> rfl
section
variable {P:Program}{w:World}{K:PySem.W.Frag}{mg:Str→Option Value}{base:Heap}{CX:CXT}
theorem scPo:FnScope ["kinds", "name", "words", "above", "word", "owner"] ["kinds", "name"] (defScope sPartsOf):=⟨rfl,rfl,rfl,by decide +kernel,rfl,by decide +kernel,by decide +kernel⟩
theorem cut_m2 {xs:List V} (h:2≤xs.length):cutV xs none (some (-2))=xs.take (xs.length - 2):=by
 unfold cutV HT.sIx;have e:((-2:Int) + (xs.length:Int)).toNat=xs.length - 2:=by omega
 simp [e]
theorem joinDot {ws:List Str} (h:∀ x∈ws,x.length≤8) (hl:ws.length≤100):PySem.JoinOk "." ws=true:=by
 have d1:("." : Str).length=1:=by decide +kernel
 have key:∀ (l:List Str) (n:Nat),(∀ x∈l,x.length≤8)→l.foldl (fun a x=>a + x.length + ("." : Str).length) n≤n + l.length * 9:=by
  intro l
  induction l with
  | nil=>intro n _;exact Z2 _
  | cons c r ih =>
   intro n hh;have h1:=ih (n + c.length + ("." : Str).length) fun x hx=>hh x (Zb _ hx);have h2:=hh c Zn;rw [Y7,Zg];rw [d1] at h1 ⊢;omega
 have:=key ws 0 h;have hs:900 < sizeLine:=small1000 (by decide);unfold PySem.JoinOk;rw [List.foldl_toArray];unfold Builtin.Str.tooLong;simp;omega
theorem ok_parts {f fn fw fh C fI CK fIk fOr fOf fOw:Addr}{fd fdn fdw fdh fdf:FuncData} (hC:Calm CX) (T:Tops K mg) (KC:KCls K mg C fI) (KS:KsCls K mg CK fIk fOr fOf fOw) (F:Fun K "parts_of" "parts_of" sPartsOf f fd)
  (DN:Def K mg "is_name" sIsName ["thing"] fn fdn) (DW:Def K mg "is_written_number" sWritten ["text", "most_figures"] fw fdw) (DH:Def K mg "has_form" sHasForm ["thing"] fh fdh) (Of:Fun K "of" "Kinds.of" sOf fOf fdf) (bOf:Binds K fdf ["self", "name"] []):FnOk P w K mg base CX 3 f fd ["kinds", "name"] (spParts CK C):=by
 have GH:FnOk P w K mg base CX 2 fh fdh ["thing"] spForm:=ok_form hC T DH.fn DN DW;have GOf:FnOk P w K mg base CX 2 fOf fdf ["self", "name"] (spOf CK):=ok_of hC T KS Of DN;refine Fun.okC F scPo (fun vs H Q E h=>?_) (fun cdv A outer s H vs Q E hr h=>?_)
 ·obtain ⟨kq,d,kvs,q,k,n,rfl,_⟩:=h;rfl
 ·obtain ⟨kq,d,kvs,q,k,n,rfl,hk,hp,hc,fin⟩:=h;have nd:=scPo.nd;have hl:=hp.len;have pl:=hp.le
  refine ⟨_,zA2 (zAj (zAm (zAk (zA8 GH hr rfl DH.at_ DH.fn.kp DH.bind .nil (passC hC) (zA0 (pv 1) zA3)))) zAc zAa)
   (zA2 (zAd (i:=2) nd rfl (Or.inl rfl) (zE0 PySem.F.plainAttrs_str PySem.F.slot_str_split PySem.F.type_str_split mt_split (pv 1) (zA0 zAi zA3)))
   (zA2 (zAd (i:=3) nd rfl (Or.inl rfl) zBp)
   (zA2 (zCb PassesOwn.never rfl (zAn (zF1 (pv 2))) (zAf (i:=4) nd rfl (Or.inl rfl))
    (zA2 (zAj (zAh zE2 (zAe (zAl (pv 0) KS.cl KS.mOf GOf hr bOf .nil (passC hC) (zA0 (pv 4) zA3)) rfl) (pv 3) (nomark _)) zAc zAa)
    (zA4 (zAd (i:=3) nd rfl (Or.inl rfl) (pv 4)))))
   (zA2 (zAd (i:=5) nd rfl (Or.inl rfl) (zBe (zAh op_gt (zA9 zAv rfl T.len PySem.boot_len (zA0 (pv 2) zA3)) zA7 (nomark _))
    (zE0 PySem.F.plainAttrs_str PySem.F.slot_str_join PySem.F.type_str_join (mt_join (K:=K) rfl) zAi (zA0 (zCn sl_list (pv 2) zEz (zDh (pe_un un_neg zA7))) zA3)) zBp))
   (zA4 (zAb (zBr (zA0 (pv 3) (zA0 (pv 5) (zA0 (zB1 zFf rfl T.int PyProof.Rows.boot_int (zA0 (zAu zBi (pv 2) (pe_un un_neg zA7) (fun _ _=>rfl)) zA3)) zA3)))))))))),?_⟩
  refine ⟨_,rfl,_,rfl,hp,fun H1 s1=>⟨_,rfl,iteF ?_⟩⟩;refine ⟨_,rfl,rfl,_,_,rfl,rfl,by decide +kernel,by omega,fun wa hwa=>?_⟩;rw [hp.split];have s2:Same H (upd H1 wa (.lst ((wordsP (q++[(k,n)])).map V.str))):=s1.trans (Same.new hwa);have e2:(upd H1 wa (.lst ((wordsP (q++[(k,n)])).map V.str))) wa=some (.lst ((wordsP (q++[(k,n)])).map V.str)):=zA1;generalize upd H1 wa (.lst ((wordsP (q++[(k,n)])).map V.str))=H2 at s2 e2 ⊢;refine ⟨_,rfl,wa,_,rfl,SqL.of e2,fun ea hea=>?_⟩;rw [zEc,zCq];have s3:Same H2 (upd H2 ea (.lst (((q++[(k,n)]).map (·.1)).map V.str))):=Same.new hea;have e3:(upd H2 ea (.lst (((q++[(k,n)]).map (·.1)).map V.str))) ea=some (.lst (((q++[(k,n)]).map (·.1)).map V.str)):=zA1;generalize upd H2 ea (.lst (((q++[(k,n)]).map (·.1)).map V.str))=H3 at s3 e3 ⊢;have s4:=s2.trans s3;obtain ⟨⟨dxk,hkq⟩,rd⟩:=hk;refine ⟨ea,rfl,⟨_,SqL.of e3⟩,zDc (K:=K) (a:=ea) (xs:=((q++[(k,n)]).map (·.1)).map V.str) (fun i σ H'=>∃ u,σ = [some (.ref kq),some (.str (showP (q++[(k,n)]))),some (.ref wa),some (ownV (aboveP none (q++[(k,n)]) i)),u,none]∧Same H3 H') ⟨none,rfl,Same.refl _⟩ (fun i σ H' _ ⟨_,_,e⟩=>SqL.of (e _ _ e3)) ?_ ?_⟩
  ·rintro i x σ H' hi ⟨u,rfl,s'⟩;rw [Zf,Zf] at hi;obtain ⟨m,hm,rfl⟩:=Option.map_eq_some_iff.mp hi;obtain ⟨r,hr',rfl⟩:=Option.map_eq_some_iff.mp hm;have nn:=(hp.ok r (Ze hr')).1;have s5:=s4.trans s';obtain ⟨a0,dx,lf,hv,ha⟩:=hc.get hr';refine ⟨_,rfl,kq,dxk,_,rfl,s5 _ _ hkq,zCp _ (by decide +kernel),_,rfl,kq,d,kvs,r.1,.ref a0,rfl,nn,⟨⟨dxk,s5 _ _ hkq⟩,zBf s5 rd⟩,hv,fun H6 s6=>?_⟩;refine ⟨a0,C,dx,_,_,rfl,s6 _ _ (s5 _ _ ha),KC.cl,KC.nO,zC8 _ _ _,_,rfl,ownV_scal _,_,rfl,?_⟩;rw [decide_eq_true rfl];refine iteF ⟨_,rfl,⟨some (.str r.1),?_,s'.trans s6⟩⟩;show _=[_,_,_,some (ownV (((q++[(k,n)])[i]?).map (·.1))),_,_];rw [hr'];rfl
  ·rintro σ H' ⟨u,rfl,s'⟩;have s5:=s4.trans s';have s6:=s3.trans s';have ab:aboveP none (q++[(k,n)]) (((q++[(k,n)]).map (·.1)).map V.str).length=some k:=by
    rw [Z1,Z1,Zc];show ((q++[(k,n)])[q.length]?).map (·.1)=some k;simp
   rw [ab];have e5:=s6 _ _ e2;rw [zDf] at e5;have wl:(wordsP q++wordsP [(k,n)]).length=2 * q.length + 2:=by rw [Zc,zB5,zB5];rfl
   have la:atI ((wordsP q++wordsP [(k,n)]).map V.str) (-1)=some (.str (figs n)):=by
    unfold atI ixN;rw [if_neg (by decide),Z1,wl,if_pos (by omega)];show (((wordsP q++wordsP [(k,n)]).map V.str)[((-1:Int) + ((2 * q.length + 2:Nat):Int)).toNat]?)=_;rw [show ((-1:Int) + ((2 * q.length + 2:Nat):Int)).toNat=(wordsP q).length + 1 by rw [zB5];omega,Zf,Y3 (by omega)];rw [show (wordsP q).length + 1 - (wordsP q).length=1 by omega];rfl
   refine ⟨_,rfl,wa,_,rfl,.inl (SqL.of e5),_,_,rfl,rfl,_,rfl,?_⟩;have n10:=(hp.ok (k,n) (by simp)).2;rw [Z1,wl];cases q with
   | nil =>
    refine iteF ?_;refine ⟨_,rfl,_,rfl,_,rfl,_,rfl,wa,_,-1,_,rfl,rfl,SqL.of e5,la,(n:Int),rfl,by omega,by omega,by show 3≤sizeLine;decide,fun t ht=>?_⟩;exact fin t _ (s5.free ht) zA1 (s5.trans (Same.new ht))
   | cons r q' =>
    have lt:decide ((2:Int) < ((2 * (r :: q').length + 2:Nat):Int))=true:=decide_eq_true (by rw [Zg];omega);rw [lt];refine iteT ⟨rfl,_,rfl,_,rfl,_,rfl,wa,_,rfl,SqL.of e5,fun sa hsa=>?_⟩;rw [cut_m2 (by rw [Z1,wl];omega),← List.map_take,Z1,wl,show 2 * (r :: q').length + 2 - 2=(wordsP (r :: q')).length by rw [zB5];omega,List.take_left];have s7:Same H' (upd H' sa (.lst ((wordsP (r :: q')).map V.str))):=Same.new hsa;have e7:(upd H' sa (.lst ((wordsP (r :: q')).map V.str))) sa=some (.lst ((wordsP (r :: q')).map V.str)):=zA1;generalize upd H' sa (.lst ((wordsP (r :: q')).map V.str))=H7 at s7 e7 ⊢;have s8:=s5.trans s7;have e8:=s7 _ _ e5;have jo:PySem.JoinOk "." (wordsP (r :: q'))=true:=joinDot (zCw fun x hx=>⟨(hp.ok x (List.mem_append.mpr (.inl hx))).1.2.2,Za (zF9 (hp.ok x (List.mem_append.mpr (.inl hx))).2) (by decide)⟩) (by rw [zB5];rw [Zc] at pl;omega);refine ⟨_,sa,_,rfl,rfl,SqL.of e7,jo,?_⟩;rw [show Txt.join "." (wordsP (r :: q'))=showP (r :: q') from PySem.StrLaws.glued_eq_join _ _];refine ⟨_,rfl,_,rfl,_,rfl,_,rfl,wa,_,-1,_,rfl,rfl,SqL.of e8,la,(n:Int),rfl,by omega,by omega,by show 3≤sizeLine;decide,fun t ht=>?_⟩;exact fin t _ (s8.free ht) zA1 (s8.trans (Same.new ht))
end
end L2.W
namespace L2.W
open PySem My
theorem Chain.left {R:Str→Option Str→Prop}:∀ {p r:List (Str×Nat)}{a:Option Str},Chain R a (p++r)→Chain R a p
 | [],_,_,_=>trivial
 | _ :: _,_,_,h=>⟨h.1,Chain.left h.2⟩
noncomputable def spNameOf (CK C:Addr):Sp:=fun vs H Q _=>∃ (kq d:Addr) (kvs:List (Key×V)) (q:List (Str×Nat)) (k:Str) (n:Nat),vs=[.ref kq,.str k,ownV (ownP q),.int n]∧KindsAt CK H kq d kvs∧PathOk (q++[(k,n)])∧Chain (KOf C H kvs) none (q++[(k,n)]) ∧
 ∀ H',Same H H'→Q (.str (showP (q++[(k,n)]))) H'
theorem emp_app (x:Str):Str.empty++x=x:=zBz (by rw [zBg];rfl)
theorem show_int (n:Nat) (h:n≤999999):showV (.int (n:Int))=some (figs n):=by
 show (if ((n:Int).natAbs < 10 ^ 12) then some (Str.ofString (toString (n:Int))) else none)=_;rw [if_pos (by rw [Int.natAbs_natCast];omega)];rfl
theorem dot_len:("." : Str).length=1:=by decide +kernel
theorem path2 {q:List (Str×Nat)} (h:q≠[]) (k:Str) (n:Nat):showP (q++[(k,n)])=showP q++"."++(k++"."++figs n):=by
 unfold showP;rw [zDf,join_app _ _ (by simp [wordsP])]
 ·rfl
 ·intro e;have:=zB5 q;rw [e] at this;cases q with
  | nil=>exact h rfl
  | cons a t=>simp at this
section
variable {P:Program}{w:World}{K:PySem.W.Frag}{mg:Str→Option Value}{base:Heap}{CX:CXT}
theorem scNo:FnScope ["kinds", "kind", "owner", "number", "above"] ["kinds", "kind", "owner", "number"] (defScope sNameOf):=⟨rfl,rfl,rfl,by decide +kernel,rfl,by decide +kernel,by decide +kernel⟩
theorem ok_nameOf {f fn fw fh fp fi C fI CK fIk fOr fOf fOw:Addr}{fd fdn fdw fdh fdf fdp fdi:FuncData} (hC:Calm CX) (T:Tops K mg) (KC:KCls K mg C fI) (KS:KsCls K mg CK fIk fOr fOf fOw) (F:Fun K "name_of" "name_of" sNameOf f fd)
  (DN:Def K mg "is_name" sIsName ["thing"] fn fdn) (DI:Def K mg "is_whole" sIsWhole ["thing"] fi fdi) (DW:Def K mg "is_written_number" sWritten ["text", "most_figures"] fw fdw) (DH:Def K mg "has_form" sHasForm ["thing"] fh fdh) (DP:Def K mg "parts_of" sPartsOf ["kinds", "name"] fp fdp) (Of:Fun K "of" "Kinds.of" sOf fOf fdf) (bOf:Binds K fdf ["self", "name"] []):FnOk P w K mg base CX 4 f fd ["kinds", "kind", "owner", "number"] (spNameOf CK C):=by
 have GI:FnOk P w K mg base CX 1 fi fdi ["thing"] (spIsWhole K):=zDj DI.fn T;have GP:FnOk P w K mg base CX 3 fp fdp ["kinds", "name"] (spParts CK C):=ok_parts hC T KC KS DP.fn DN DW DH Of bOf;have GOf:FnOk P w K mg base CX 2 fOf fdf ["self", "name"] (spOf CK):=ok_of hC T KS Of DN;refine Fun.okC F scNo (fun vs H Q E h=>?_) (fun cdv A outer s H vs Q E hr h=>?_)
 ·obtain ⟨kq,d,kvs,q,k,n,rfl,_⟩:=h;rfl
 ·obtain ⟨kq,d,kvs,q,k,n,rfl,hk,hp,hc,fin⟩:=h;have nd:=scNo.nd;obtain ⟨tm,hmost⟩:=T.mostN;have hr1:=hr.mono (show 1≤3 by decide);have hr2:=hr.mono (show 2≤3 by decide)
  refine ⟨_,zA2 (zAd (i:=4) nd rfl (Or.inl rfl) (zAe (zAl (pv 0) KS.cl KS.mOf GOf hr2 bOf .nil (passC hC) (zA0 (pv 1) zA3)) rfl))
   (zA2 (zAj (PW.pt (zCc (zAm (zAk (zA8 GI hr1 rfl DI.at_ DI.fn.kp DI.bind .nil (passC hC) (zA0 (pv 3) zA3)))) (zBo (zAm (zD0 zEi zEi zA7 (pv 3) (zBc (v:=.int 999999) rfl hmost ⟨_,rfl⟩)))))) zAc zAa)
   (zA2 (zAj (zB8 (zBx (pv 4))) (zA2 (zAj (zB8 (zCf (pv 2))) zAc zAa) (zA4 (zAb (zD3 (zDu (pv 1) (pj_con (zDu (pv 3) pj_nil))))))) zAa)
   (zA2 (zAj (zAh zE2 (zAu zAq (zA8 GP hr rfl DP.at_ DP.fn.kp DP.bind .nil (passC hC) (zA0 (pv 0) (zA0 (pv 2) zA3))) zA7 (fun _ _=>rfl)) (pv 4) (nomark _)) zAc zAa)
   (zA4 (zAb (zD3 (zDu (pv 2) (pj_con (zDu (pv 1) (pj_con (zDu (pv 3) pj_nil))))))))))),?_⟩
  have lastIx:(q++[(k,n)])[q.length]? = some (k,n):=by simp
  obtain ⟨a0,dx,lf,hv,ha⟩:=hc.get lastIx;have nk:=(hp.ok (k,n) (by simp)).1;have n10:=(hp.ok (k,n) (by simp)).2;obtain ⟨⟨dxk,hkq⟩,rd⟩:=hk;refine ⟨_,rfl,kq,dxk,_,rfl,hkq,zCp _ (by decide +kernel),_,rfl,kq,d,kvs,k,.ref a0,rfl,nk,⟨⟨dxk,hkq⟩,rd⟩,hv,fun H1 s1=>?_⟩;refine ⟨a0,C,dx,_,_,rfl,s1 _ _ ha,KC.cl,KC.nO,zC8 _ _ _,?_⟩;refine ⟨_,rfl,_,_,_,_,rfl,.int _,rfl,rfl,_,rfl,?_⟩;refine iteF ⟨_,rfl,_,_,rfl,rfl,_,rfl,?_⟩;refine ite2 (fun _=>?_) (fun h=>absurd (decide_eq_true (by omega)) h);refine ⟨_,_,rfl,rfl,_,rfl,?_⟩;rw [decide_eq_true (show (n:Int)≤999999 by omega)];refine iteF ?_;have l1:k.length≤8:=nk.2.2;have l2:(figs n).length≤6:=zF9 n10;have l3:=dot_len;have l0:Str.empty.length=0:=rfl;rcases List.eq_nil_or_concat q with e | ⟨q',r,e⟩
  ·subst e;refine ⟨_,rfl,_,rfl,iteT ?_⟩;refine ⟨_,rfl,_,rfl,iteF ?_⟩;refine ⟨_,rfl,k,rfl,by omega,by omega,by omega,by rw [zAz];omega,_,rfl,figs n,show_int n n10,by omega,by simp only [zAz];omega,by simp only [zAz];omega,?_⟩;rw [emp_app];exact fin _ s1
  ·obtain ⟨k0,n0⟩:=r;rw [List.concat_eq_append] at e;subst e;have op:ownP (q'++[(k0,n0)])=some (showP (q'++[(k0,n0)])):=by unfold ownP;rw [if_neg (by simp)]
   have ab:aboveP none ((q'++[(k0,n0)])++[(k,n)]) (q'++[(k0,n0)]).length=some k0:=by
    rw [Zc];show (((q'++[(k0,n0)])++[(k,n)])[q'.length]?).map (·.1)=some k0;simp
   have hp0:PathOk (q'++[(k0,n0)]):=⟨by simp,by have:=hp.le;rw [Zc] at this;omega,fun x hx=>hp.ok x (List.mem_append.mpr (.inl hx))⟩;have hl0:=hp0.len;rw [op,ab];refine ⟨_,rfl,_,rfl,iteF ?_⟩;refine ⟨_,rfl,_,rfl,kq,d,kvs,q',k0,n0,rfl,⟨⟨dxk,s1 _ _ hkq⟩,zBf s1 rd⟩,hp0,hc.left.imp fun _ _ h=>h.mono s1,fun t H2 ht e2 s2=>?_⟩;refine ⟨t,_,0,.str k0,rfl,rfl,SqT.of e2,rfl,_,rfl,rfl,_,rfl,?_⟩;rw [show decide (V.str k0=ownV (some k0))=true from decide_eq_true rfl];refine iteF ?_;refine ⟨_,rfl,showP (q'++[(k0,n0)]),rfl,by omega,by omega,by omega,by rw [zAz];omega,_,rfl,k,rfl,by omega,by simp only [zAz];omega,by omega,by simp only [zAz];omega,_,rfl,figs n,show_int n n10,by omega,by simp only [zAz];omega,by simp only [zAz];omega,?_⟩;have e:Str.empty++showP (q'++[(k0,n0)])++"."++k++"."++figs n=showP ((q'++[(k0,n0)])++[(k,n)]):=by
    rw [path2 (q:=q'++[(k0,n0)]) (by simp) k n,emp_app];refine zBz ?_;simp only [zBg,List.append_assoc]
   rw [e];exact fin _ (s1.trans s2)
end
end L2.W
namespace L2.W
open PySem My
structure KB (CK C:Addr) (H:Hp) (q pk:Addr):Prop where
 a:∃ dx d,H q=some (.ins CK dx (ksF (.ref d)))∧Rd H d (.dK [(Sum.inr "box",.ref pk)])
 k:∃ dx l t lv,H pk=some (.ins C dx (kflds (.str "box") (.ref l) .non))∧H l=some (.lst [.ref t])∧H t=some (.tup [.str "colour",.ref lv])∧H lv=some (.lst [.str "red",.str "grey"])
theorem KB.same {CK C:Addr}{H H':Hp}{q pk:Addr} (h:KB CK C H q pk) (s:Same H H'):KB CK C H' q pk:=by
 obtain ⟨⟨dx,d,e,r⟩,dk,l,t,lv,e1,e2,e3,e4⟩:=h;exact ⟨⟨dx,d,s _ _ e,zBf s r⟩,dk,l,t,lv,s _ _ e1,s _ _ e2,s _ _ e3,s _ _ e4⟩
theorem box_ok:nameOk "box":=by refine ⟨?_,?_,?_⟩ <;> decide +kernel
theorem val_box {pk:Addr}:valV [((Sum.inr "box" : Key),V.ref pk)] (Sum.inr "box")=some (.ref pk):=zAy rfl
theorem KB.at_ {CK C:Addr}{H:Hp}{q pk:Addr} (h:KB CK C H q pk):∃ dx d,H q=some (.ins CK dx (ksF (.ref d)))∧KindsAt CK H q d [(Sum.inr "box",.ref pk)]:=let ⟨dx,d,e,r⟩:=h.a;⟨dx,d,e,⟨dx,e⟩,r⟩
noncomputable def bx (n:Nat):Str:=showP ([]++[(("box" : Str),n)])
theorem bx_ok {n:Nat} (h:n≤999999):PathOk ([]++[(("box" : Str),n)]):=⟨by simp,by show 1≤10;decide,fun q hq=>by rw [List.mem_singleton.mp hq];exact ⟨box_ok,h⟩⟩
noncomputable def spOfB (CK C:Addr):Sp:=fun vs H Q _=>∃ (q pk:Addr),vs=[.ref q,.str "box"]∧KB CK C H q pk∧∀ H',Same H H'→Q (.ref pk) H'
noncomputable def spPtB (CK C:Addr):Sp:=fun vs H Q _=>∃ (q pk:Addr) (n:Nat),vs=[.ref q,.str (bx n)]∧KB CK C H q pk∧n≤999999∧∀ (t:Addr) (H':Hp),H' t=some (.tup [.str "box",.non,.int n])→Same H H'→Q (.ref t) H'
noncomputable def spNoB (CK C:Addr):Sp:=fun vs H Q _=>∃ (q pk:Addr) (n:Nat),vs=[.ref q,.str "box",.non,.int n]∧KB CK C H q pk∧n≤999999∧∀ H',Same H H'→Q (.str (bx n)) H'
noncomputable def spWF:Sp:=fun vs H Q _=>∃ a b:Int,vs=[.int a,.int b]∧Q (.bl (decide (a≤b))) H
noncomputable def spFB:Sp:=fun vs H Q _=>∃ n:Nat,vs=[.str (bx n)]∧n≤999999∧∀ H',Same H H'→Q (.bl true) H'
noncomputable def spPlB (C:Addr):Sp:=fun vs H Q _=>∃ (CK q pk:Addr),vs=[.ref pk,.str "colour"]∧KB CK C H q pk∧∀ H',Same H H'→Q (.int 0) H'
noncomputable def Col (x:Str):Prop:=x = "red"∨x = "grey"
noncomputable def spHvB (C:Addr):Sp:=fun vs H Q _=>∃ (CK q pk:Addr) (x:Str),vs=[.ref pk,.str "colour",.str x]∧KB CK C H q pk∧Col x∧∀ H',Same H H'→Q (.bl true) H'
noncomputable def spWvB (C:Addr):Sp:=fun vs H Q _=>∃ (CK q pk a:Addr) (y x:Str),vs=[.ref pk,.ref a,.str "colour",.str x]∧KB CK C H q pk∧H a=some (.tup [.str y])∧∀ t H',H' t=some (.tup [.str x])→Same H H'→Q (.ref t) H'
noncomputable def spStB (C:Addr):Sp:=fun vs H Q _=>∃ (CK q pk:Addr),vs=[.ref pk]∧KB CK C H q pk∧∀ l t1 t2 H',H' l=some (.lst [.ref t1,.ref t2])→H' t1=some (.tup [.str "red"])→H' t2=some (.tup [.str "grey"])→Same H H'→Q (.ref l) H'
noncomputable def spIsS (C:Addr):Sp:=fun vs H Q _=>∃ (CK q pk a:Addr),vs=[.ref pk,.ref a]∧KB CK C H q pk∧H a=some (.tup [.str "red"])∧∀ H',Same H H'→Q (.bl true) H'
theorem cat_any {K:PySem.W.Frag}{H:Hp}{a b:Addr}{xs ys:List V}{Q:VK} (ha:H a=some (.tup xs)) (hb:H b=some (.tup ys)) (hz:xs.length + ys.length≤1000) (q:∀ c H',Same H H'→H' c=some (.tup (xs++ys))→Q (.ref c) H'):rCat2 K (.ref a) (.ref b) H Q:=by
 refine ⟨a,b,xs,ys,rfl,rfl,SqT.of ha,SqT.of hb,Zd (small1000 hz),fun e=>?_,fun _ e=>?_,fun _ _ p hp=>q p _ (Same.new hp) zA1⟩
 ·subst e;exact q b H (Same.refl _) hb
 ·subst e;exact q a H (Same.refl _) (by rw [List.append_nil];exact ha)
section
variable {P:Program}{w:World}{K:PySem.W.Frag}{mg:Str→Option Value}{base:Heap}{CX:CXT}
theorem ok_ofB {C CK fIk fOr fOf fOw fn:Addr}{fdn fdf:FuncData} (hC:Calm CX) (T:Tops K mg) (KS:KsCls K mg CK fIk fOr fOf fOw) (Of:Fun K "of" "Kinds.of" sOf fOf fdf) (DN:Def K mg "is_name" sIsName ["thing"] fn fdn):FnOk P w K mg base CX 2 fOf fdf ["self", "name"] (spOfB CK C):=(ok_of hC T KS Of DN).imp fun vs H Q E ⟨q,pk,e,kb,k⟩=>let ⟨_,d,_,ka⟩:=kb.at_;⟨q,d,_, "box",.ref pk,e,box_ok,ka,val_box,k⟩
theorem KB.chain {CK C:Addr}{H:Hp}{q pk:Addr} (kb:KB CK C H q pk) {n:Nat}:Chain (KOf C H [(Sum.inr "box",.ref pk)]) none ([]++[(("box" : Str),n)]):=let ⟨dx,l,_,_,e,_⟩:=kb.k;⟨⟨pk,dx,l,val_box,e⟩,trivial⟩
theorem scWF:FnScope ["least", "thing"] ["least", "thing"] (defScope sWholeFrom):=⟨rfl,rfl,rfl,by decide +kernel,rfl,by decide +kernel,by decide +kernel⟩
theorem ok_wf {f fw:Addr}{fd fdw:FuncData} (hC:Calm CX) (T:Tops K mg) (F:Fun K "is_whole_from" "is_whole_from" sWholeFrom f fd) (DW:Def K mg "is_whole" sIsWhole ["thing"] fw fdw):FnOk P w K mg base CX 2 f fd ["least", "thing"] spWF:=by
 have GW:FnOk P w K mg base CX 1 fw fdw ["thing"] (spIsWhole K):=zDj DW.fn T;refine Fun.okC F scWF (fun vs H Q E h=>?_) (fun cdv Ar outer s H vs Q E hr h=>?_)
 ·obtain ⟨a,b,rfl,_⟩:=h;rfl
 ·obtain ⟨a,b,rfl,k⟩:=h;have nd:=scWF.nd;refine ⟨_,zA4 (zAb (zC1 (zA8 GW hr rfl DW.at_ DW.fn.kp DW.bind .nil (passC hC) (zA0 (pv 1) zA3)) (zCe (zBk op_ge (pv 1) (pv 0) (nomark _))))),?_⟩;exact ⟨_,rfl,_,_,true,false,rfl,.int b,rfl,rfl,_,rfl,iteT ⟨_,rfl,_,rfl,_,_,rfl,rfl,k⟩⟩
theorem scPlc:FnScope ["kind", "field", "fields"] ["kind", "field"] (defScope sPlaceOf):=⟨rfl,rfl,rfl,by decide +kernel,rfl,by decide +kernel,by decide +kernel⟩
theorem ok_plB {f C fI:Addr}{fd:FuncData} (KC:KCls K mg C fI) (F:Fun K "place_of" "place_of" sPlaceOf f fd):FnOk P w K mg base CX 1 f fd ["kind", "field"] (spPlB C):=by
 refine Fun.okC F scPlc (fun vs H Q E h=>?_) (fun cdv Ar outer s H vs Q E hr h=>?_)
 ·obtain ⟨CK,q,pk,rfl,_⟩:=h;rfl
 ·obtain ⟨CK,q,pk,rfl,kb,k⟩:=h;have nd:=scPlc.nd
  refine ⟨_,zA2 (zC0 (T:=["pair"]) (i:=2) rfl ScOk.auto (zAn (zAe (pv 0) rfl)) (fun _ _ _ _=>zAf (i:=3) (by decide +kernel:(["kind", "field", "fields", "pair"]:List Str).Nodup) rfl (Or.inl rfl)) (fun _ _ _ _=>zB3) (fun _ _ _ _=>(zAu (r:=rIxT K) zAq (pv 3) zA7 (fun _ _=>rfl))) nd rfl rfl rfl)
     (zA4 (zAb (zBe (zAh zE3 (pv 1) (pv 2) rfl) (zE0 PySem.F.plainAttrs_list PySem.F.slot_list_index PySem.F.type_list_index (mt_lindex rfl) (pv 2) (zA0 (pv 1) zA3)) zBp))),?_⟩
  obtain ⟨dx,l,t,lv,e1,e2,e3,e4⟩:=kb.k;refine ⟨_,rfl,pk,C,dx,_,_,rfl,e1,KC.cl,KC.nF,zDa _ _ _,l,rfl,⟨_,SqL.of e2⟩,zAo (xs:=[.ref t]) (fun i ys H'=>H=H'∧ys=List.replicate i (V.str "colour")) ⟨rfl,rfl⟩ (fun i ys H' p=>by rw [← p.1];exact SqL.of e2) (fun i ys H' hi p=>by rw [p.2,Zi];exact Zd (small1000 (Za hi (by show 1≤1000;decide)))) ?_ ?_⟩
  ·rintro i x ys H' hi ⟨rfl,rfl⟩ N hN;have il:=(List.getElem?_eq_some_iff.mp hi).1;have i0:i=0:=by simpa using il
   subst i0;cases hi;exact pick ⟨_,rfl,t,_,0,_,rfl,rfl,SqT.of e3,rfl,hN _ _ ⟨rfl,rfl⟩⟩
  ·rintro ys H' ⟨rfl,rfl⟩ c hc;exact ⟨_,rfl,_,rfl,c,_,rfl,.inl (SqL.of zA1),rfl,rfl,_,rfl,iteT ⟨_,rfl,.inl ⟨rfl,_,SqL.of zA1⟩,_,rfl,c,["colour"], "colour",0,rfl,rfl,SqL.of zA1,rfl,(fun j hj=>absurd hj (Nat.not_lt_zero _)),k _ (Same.new hc)⟩⟩
theorem scHv:FnScope ["kind", "field", "value", "place"] ["kind", "field", "value"] (defScope sHasVal):=⟨rfl,rfl,rfl,by decide +kernel,rfl,by decide +kernel,by decide +kernel⟩
theorem ok_hvB {f fp C fI:Addr}{fd fdp:FuncData} (hC:Calm CX) (KC:KCls K mg C fI) (F:Fun K "has_value" "has_value" sHasVal f fd) (DP:Def K mg "place_of" sPlaceOf ["kind", "field"] fp fdp):FnOk P w K mg base CX 2 f fd ["kind", "field", "value"] (spHvB C):=by
 have GP:FnOk P w K mg base CX 1 fp fdp ["kind", "field"] (spPlB C):=ok_plB KC DP.fn;refine Fun.okC F scHv (fun vs H Q E h=>?_) (fun cdv Ar outer s H vs Q E hr h=>?_)
 ·obtain ⟨CK,q,pk,x,rfl,_⟩:=h;rfl
 ·obtain ⟨CK,q,pk,x,rfl,kb,hx,k⟩:=h;have nd:=scHv.nd
  refine ⟨_,zA2 (zAd (i:=3) nd rfl (Or.inl rfl) (zA8 GP hr rfl DP.at_ DP.fn.kp DP.bind .nil (passC hC) (zA0 (pv 0) (zA0 (pv 1) zA3))))
     (zA4 (zAb (zC1 (zBk op_notN (pv 3) zBp (nomark _)) (zCe (zBk zE3 (pv 2) (zAu zAq (zAu zBi (zAe (pv 0) rfl) (pv 3) (fun _ _=>rfl)) zA7 (fun _ _=>rfl)) rfl))))),?_⟩
  refine ⟨_,rfl,_,rfl,CK,q,pk,rfl,kb,fun H1 s1=>?_⟩;obtain ⟨dx,l,t,lv,e1,e2,e3,e4⟩:=(kb.same s1).k;refine ⟨_,rfl,rfl,_,rfl,iteT ⟨_,rfl,_,rfl,pk,C,dx,_,_,rfl,e1,KC.cl,KC.nF,zDa _ _ _,_,rfl,l,_,0,_,rfl,rfl,SqL.of e2,rfl,t,_,1,_,rfl,rfl,SqT.of e3,rfl,lv,_,rfl,.inl (SqL.of e4),rfl,rfl,?_⟩⟩;have z:=k _ s1;rcases hx with rfl | rfl
  ·exact z
  ·exact z
theorem scWv:FnScope ["kind", "state", "field", "value", "place"] ["kind", "state", "field", "value"] (defScope sWithVal):=⟨rfl,rfl,rfl,by decide +kernel,rfl,by decide +kernel,by decide +kernel⟩
theorem ok_wvB {f fp C fI:Addr}{fd fdp:FuncData} (hC:Calm CX) (KC:KCls K mg C fI) (F:Fun K "with_value" "with_value" sWithVal f fd) (DP:Def K mg "place_of" sPlaceOf ["kind", "field"] fp fdp):FnOk P w K mg base CX 2 f fd ["kind", "state", "field", "value"] (spWvB C):=by
 have GP:FnOk P w K mg base CX 1 fp fdp ["kind", "field"] (spPlB C):=ok_plB KC DP.fn;refine Fun.okC F scWv (fun vs H Q E h=>?_) (fun cdv Ar outer s H vs Q E hr h=>?_)
 ·obtain ⟨CK,q,pk,a,y,x,rfl,_⟩:=h;rfl
 ·obtain ⟨CK,q,pk,a,y,x,rfl,kb,ha,k⟩:=h;have nd:=scWv.nd
  refine ⟨_,zA2 (zAd (i:=4) nd rfl (Or.inl rfl) (zA8 GP hr rfl DP.at_ DP.fn.kp DP.bind .nil (passC hC) (zA0 (pv 0) (zA0 (pv 2) zA3))))
     (zA4 (zAb (zAt (op_cat2 (K:=K) rfl) (zAt (op_cat2 (K:=K) rfl) (zCn sl_tup (pv 1) zEz (zDh (pv 4))) (zBr (zA0 (pv 3) zA3))) (zCn sl_tup (pv 1) (zDh (zAt zBs (pv 4) zA7)) zEz)))),?_⟩
  refine ⟨_,rfl,_,rfl,CK,q,pk,rfl,kb,fun H1 s1=>?_⟩;refine ⟨_,rfl,_,rfl,_,rfl,a,_,rfl,SqT.of (s1 _ _ ha),(show ¬ (HT.sIx 1 0 none=0∧HT.sIx 1 1 (some 0)=1) by decide),fun t1 g1=>?_⟩;rw [show cutV [V.str y] none (some 0)=[] from rfl];have s2:=s1.trans (Same.new (o:=.tup []) g1);have e2:(upd H1 t1 (.tup [])) t1=some (.tup []):=zA1;generalize upd H1 t1 (.tup [])=H2 at s2 e2 ⊢;refine ⟨_,rfl,Zd (small1000 (n:=1) (by decide)),fun t2 g2=>cat_any ((Same.new g2) _ _ e2) zA1 (by show 1≤1000;decide) fun t3 H3 s3 e3=>?_⟩;have s23:=s2.trans ((Same.new g2).trans s3);refine ⟨_,rfl,_,rfl,_,_,rfl,rfl,_,rfl,a,_,rfl,SqT.of (s23 _ _ ha),(show ¬ (HT.sIx 1 0 (some (0 + 1))=0∧HT.sIx 1 1 none=1) by decide),fun t4 g4=>?_⟩;rw [show cutV [V.str y] (some (0 + 1)) none=[] from rfl];exact cat_any ((Same.new g4) _ _ e3) zA1 (by show 1≤1000;decide) fun t5 H5 s5 e5=>k t5 H5 e5 (s23.trans ((Same.new g4).trans s5))
end
end L2.W
namespace L2.W
open PySem My
theorem zEa {K:PySem.W.Frag}{a:Addr}{x:V}{g:TG}{tb:TS}{D:Ends}{σ : St}{H:Hp} (hl:H a=some (.lst [x])) (h:g x σ H fun σ2 H2=>tb { D with nx:=fun σ3 H3=>H3 a=some (.lst [x])∧D.nx σ3 H3,ct:=fun σ3 H3=>H3 a=some (.lst [x])∧D.nx σ3 H3,bk:=D.nx } σ2 H2) :
  ∃ W:Nat→Nat→St→Hp→Prop,(∃ m,W 0 m σ H)∧∀ i m σ H,W i m σ H →
   ((Itl K a).stop i H∧D.nx σ H)∨((Itl K a).go i H∧∃ N:St→Hp→Prop,(∀ σ' H',N σ' H'→∃ m',m' < m∧W (i + 1) m' σ' H')∧∀ x H',(Itl K a).yld i H x H'→g x σ H' fun σ2 H2=>tb { D with nx:=N,ct:=N,bk:=D.nx } σ2 H2):=by
 refine zDc (xs:=[x]) (fun i σ' H'=>match i with | 0=>σ' = σ∧H'=H | _ + 1=>H' a=some (.lst [x])∧D.nx σ' H') ⟨rfl,rfl⟩ (fun i σ' H' _ z=>?_) (fun i y σ' H' hi z=>?_) (fun σ' H' z=>z.2)
 ·cases i with
  | zero=>rw [z.2];exact SqL.of hl
  | succ i=>exact SqL.of z.1
 ·cases i with
  | zero =>
   obtain ⟨rfl,rfl⟩:=z;cases hi;exact h
  | succ i=>cases hi
noncomputable def spPkB:Sp:=fun vs H Q _=>∃ (l0 lv:Addr),vs=[.ref l0]∧H l0=some (.lst [.ref lv])∧H lv=some (.lst [.str "red",.str "grey"])∧∀ l t1 t2 H',H' l=some (.lst [.ref t1,.ref t2])→H' t1=some (.tup [.str "red"])→H' t2=some (.tup [.str "grey"])→Same H H'→Q (.ref l) H'
section
variable {P:Program}{w:World}{K:PySem.W.Frag}{mg:Str→Option Value}{base:Heap}{CX:CXT}
theorem scPk:FnScope ["lists", "found", "things", "longer", "ahead"] ["lists"] (defScope sPicks):=⟨rfl,rfl,rfl,by decide +kernel,rfl,by decide +kernel,by decide +kernel⟩
theorem ok_pkB {f:Addr}{fd:FuncData} (F:Fun K "all_picks" "all_picks" sPicks f fd):FnOk P w K mg base CX 1 f fd ["lists"] spPkB:=by
 refine Fun.okC F scPk (fun vs H Q E h=>?_) (fun cdv Ar outer s H vs Q E hr h=>?_)
 ·obtain ⟨l0,lv,rfl,_⟩:=h;rfl
 ·obtain ⟨l0,lv,rfl,h0,hv,k⟩:=h;have nd:=scPk.nd;have sm:∀ (n:Nat),n≤1000→n≤sizeLine:=fun n h=>Zd (small1000 h)
  refine ⟨_,zA2 (zAd (i:=1) nd rfl (Or.inl rfl) (zB4 (zA0 (zBr zA3) zA3)))
     (zA2 (zCb PassesOwn.never rfl (zAn (pv 0)) (zAf (i:=2) nd rfl (Or.inl rfl))
     (zA2 (zAd (i:=3) nd rfl (Or.inl rfl) (zB4 zA3))
     (zA2 (zCb PassesOwn.never rfl (zAn (pv 1)) (zAf (i:=4) nd rfl (Or.inr rfl))
     (zA4 (zB6 (zE0 PySem.F.plainAttrs_list PySem.F.slot_list_extend PySem.F.type_list_extend mt_extend (pv 3) (zA0 (zAr (T:=["thing"]) rfl ScOk.auto (zAn (pv 2)) (fun _ _ _ _=>zAf (i:=5) (by decide +kernel:(["lists", "found", "things", "longer", "ahead", "thing"]:List Str).Nodup) rfl (Or.inl rfl)) (fun _ _ _ _=>zB3) (fun _ _ _ _=>(zAt (op_cat2 (K:=K) rfl) (pv 4) (zBr (zA0 (pv 5) zA3))))) zA3)))))
     (zA4 (zAd (i:=1) nd rfl (Or.inl rfl) (pv 3))))))
     (zA4 (zAb (pv 1)))),?_⟩
  refine ⟨sm 0 (by decide),fun t f1=>⟨sm 1 (by decide),fun l1 f2=>?_⟩⟩;have a12:=(Same.new (o:=.tup []) f1).trans (Same.new (o:=.lst [.ref t]) f2);have e1:(upd (upd H t (.tup [])) l1 (.lst [.ref t])) t=some (.tup []):=(Same.new f2) _ _ zA1;have e2:(upd (upd H t (.tup [])) l1 (.lst [.ref t])) l1=some (.lst [.ref t]):=zA1;generalize upd (upd H t (.tup [])) l1 (.lst [.ref t])=H1 at a12 e1 e2 ⊢;refine ⟨_,rfl,l0,rfl,⟨_,SqL.of (a12 _ _ h0)⟩,zEa (a12 _ _ h0) ⟨sm 0 (by decide),fun l3 f3=>?_⟩⟩;have a3:=Same.new (o:=.lst []) f3;have e3:(upd H1 l3 (.lst [])) l3=some (.lst []):=zA1;have n30:l0≠l3:=zA5 (a12 _ _ h0) f3;have n31:l1≠l3:=zA5 e2 f3;generalize upd H1 l3 (.lst [])=H2 at a3 e3 ⊢;refine ⟨_,rfl,l1,rfl,⟨_,SqL.of (a3 _ _ e2)⟩,zEa (a3 _ _ e2) ?_⟩;have hv2:=a3 _ _ (a12 _ _ hv);refine ⟨_,rfl,.inl ⟨rfl,_,SqL.of e3⟩,_,rfl,lv,rfl,⟨_,SqL.of hv2⟩,zAo (xs:=[.str "red",.str "grey"]) (fun i ys H'=>Same H2 H'∧∃ t1 t2,ys=([.ref t1,.ref t2]:List V).take i∧(1≤i→H' t1=some (.tup [.str "red"]))∧(2≤i→H' t2=some (.tup [.str "grey"]))) ⟨Same.refl _,0,0,rfl,(fun h=>absurd h (by decide)),fun h=>absurd h (by decide)⟩ (fun i ys H' p=>SqL.of (p.1 _ _ hv2)) (fun i ys H' hi p=>?_) ?_ ?_⟩
  ·obtain ⟨_,t1,t2,rfl,_⟩:=p;rw [Zy];exact sm _ (by show min i 2≤1000;omega)
  ·rintro i x ys H' hi ⟨s4,t1,t2,rfl,g1,g2⟩ N hN;refine pick ⟨_,rfl,_,rfl,sm 1 (by decide),fun t4 f4=>cat_any ((Same.new f4) _ _ (s4 _ _ (a3 _ _ e1))) zA1 (by show 1≤1000;decide) fun t5 H5 s5 e5=>hN _ _ ⟨s4.trans ((Same.new f4).trans s5),?_⟩⟩;have s45:=(Same.new (o:=.tup [x]) f4).trans s5;have i2:i=0∨i=1:=by have:=(List.getElem?_eq_some_iff.mp hi).1;simp at this;omega
   rcases i2 with rfl | rfl
   ·cases hi;exact ⟨t5,0,rfl,(fun _=>e5),fun h=>absurd h (by decide)⟩
   ·cases hi;exact ⟨t1,t5,rfl,(fun _=>s45 _ _ (g1 (by decide))),fun _=>e5⟩
  ·rintro ys H5 ⟨s5,t1,t2,rfl,g1,g2⟩ c fc;have h1:=g1 (by decide);have h2:=g2 (by decide);have s6:=s5.trans (Same.new (o:=.lst [.ref t1,.ref t2]) fc);have m3:t1≠l3:=fun z=>by rw [z,s5 _ _ e3] at h1;cases h1
   have m4:t2≠l3:=fun z=>by rw [z,s5 _ _ e3] at h2;cases h2
   refine ⟨l3,c,_,_,rfl,rfl,s6 _ _ e3,zA1,sm 2 (by decide),?_⟩;refine ⟨by rw [zA6 n31];exact s6 _ _ (a3 _ _ e2),_,rfl,by rw [zA6 n30];exact s6 _ _ (a3 _ _ (a12 _ _ h0)),_,rfl,?_⟩;refine k l3 t1 t2 _ zA1 (by rw [zA6 m3];exact (Same.new fc) _ _ h1) (by rw [zA6 m4];exact (Same.new fc) _ _ h2) fun b o e=>?_;rw [zA6 (zA5 (a12 _ _ e) f3)];exact s6 _ _ (a3 _ _ (a12 _ _ e))
end
end L2.W
namespace L2.W
open PySem My
theorem comp_tup {K:PySem.W.Frag}{a:Addr}{xs:List V}{k:Nat}{σ : St}{H:Hp}{g:TG}{tt:TT}{te:TE}{Q:VK} (Pv:Nat→List V→Hp→Prop) (h0:Pv 0 [] H) (hl:∀ i ys H,Pv i ys H→SqT K H a xs)
  (hz:∀ i ys H,i≤xs.length→Pv i ys H→ys.length≤sizeLine)
  (hs:∀ i x ys H,xs[i]? = some x→Pv i ys H→∀ N:List V→Hp→Prop,(∀ ys H,Pv (i + 1) ys H→N ys H)→g x (σ++List.replicate k none) H fun σ2 H2=>tt σ2 H2 fun b H3=>if b=true then te σ2 H3 fun y H4=>N (ys++[y]) H4 else N ys H3)
  (hd:∀ ys H,Pv xs.length ys H→∀ p,H p=none→Q (.ref p) (upd H p (.lst ys))):CompGoal (Itt K a) k σ H g tt te Q:=by
 refine zEf (J:=Itt K a) (n:=xs.length) Pv h0 (fun i ys H lt p=>⟨xs,xs[i],hl i ys H p,Z4 lt⟩) (fun ys H p=>⟨xs,hl _ ys H p,Z2 _⟩) hz ?_ hd;rintro i ys H x H' lt p ⟨rfl,y⟩ N hN;exact hs i x ys _ (y xs (hl _ _ _ p)) p N hN
theorem comp_t1 {K:PySem.W.Frag}{a:Addr}{x:V}{k i:Nat}{σ : St}{H:Hp}{te:TE}{Q:VK}{b:Bool} (hs:H a=some (.tup [x])) (step:∀ N:VK,(∀ H'',Same H H''→N (.bl b) H'')→te ((σ++List.replicate k none).set i (some x)) H N) (done:∀ p H',Same H H'→H' p=some (.lst [.bl b])→Q (.ref p) H'):CompGoal (Itt K a) k σ H (gName i) tYes te Q:=by
 refine comp_tup (xs:=[x]) (fun j ys H'=>(j=0∧H'=H∧ys=[])∨(j=1∧Same H H'∧ys=[.bl b])) (.inl ⟨rfl,rfl,rfl⟩) (fun j ys H' z=>?_) (fun j ys H' hj z=>?_) ?_ ?_
 ·rcases z with ⟨_,rfl,_⟩ | ⟨_,s,_⟩
  ·exact SqT.of hs
  ·exact SqT.of (s _ _ hs)
 ·rcases z with ⟨_,_,rfl⟩ | ⟨_,_,rfl⟩
  ·exact Zl _
  ·exact Zd (small1000 (n:=1) (by decide))
 ·rintro j y ys H' hj z N hN;rcases z with ⟨rfl,rfl,rfl⟩ | ⟨rfl,_⟩
  ·cases hj;exact pick (step _ fun H'' s=>hN _ _ (.inr ⟨rfl,s,rfl⟩))
  ·cases hj
 ·rintro ys H' z p hp;rcases z with ⟨h,_⟩ | ⟨_,s,rfl⟩
  ·cases h
  ·exact done p _ (s.trans (Same.new hp)) zA1
theorem tup1 {a b:Str} (h:some (HO.tup [.str a])=some (HO.tup [.str b])):a=b:=by
 injection h with h;injection h with h;injection h with h;injection h
noncomputable def spNmT:Sp:=fun vs H Q _=>∃ n,vs=[.str n]∧nameOk n∧∀ H',Same H H'→Q (.bl true) H'
section
variable {P:Program}{w:World}{K:PySem.W.Frag}{mg:Str→Option Value}{base:Heap}{CX:CXT}
theorem ok_nmT {f:Addr}{fd:FuncData} (F:Fun K "is_name" "is_name" sIsName f fd) (T:Tops K mg):FnOk P w K mg base CX 1 f fd ["thing"] spNmT:=(zD8 F T).imp fun vs H Q E ⟨n,e,ok,k⟩=>⟨_,.str n,e,.str _ (Za ok.2.2 (by decide)) ok.2.1,fun H' s=>by rw [show nameD (.str n)=true from ok.1];exact k H' s⟩
theorem scSt:FnScope ["kind"] ["kind"] (defScope sStates):=⟨rfl,rfl,rfl,by decide +kernel,rfl,by decide +kernel,by decide +kernel⟩
theorem ok_stB {f fA C fI:Addr}{fd fdA:FuncData} (hC:Calm CX) (KC:KCls K mg C fI) (F:Fun K "states" "states" sStates f fd) (DA:Def K mg "all_picks" sPicks ["lists"] fA fdA):FnOk P w K mg base CX 2 f fd ["kind"] (spStB C):=by
 have GA:FnOk P w K mg base CX 1 fA fdA ["lists"] spPkB:=ok_pkB DA.fn;refine Fun.okC F scSt (fun vs H Q E h=>?_) (fun cdv Ar outer s H vs Q E hr h=>?_)
 ·obtain ⟨CK,q,pk,rfl,_⟩:=h;rfl
 ·obtain ⟨CK,q,pk,rfl,kb,k⟩:=h;refine ⟨_,zA4 (zAb (zA8 GA hr rfl DA.at_ DA.fn.kp DA.bind .nil (passC hC) (zA0 (zAr (T:=["field"]) rfl ScOk.auto (zAn (zAe (pv 0) rfl)) (fun _ _ _ _=>zAf (i:=1) (by decide +kernel:(["kind", "field"]:List Str).Nodup) rfl (Or.inl rfl)) (fun _ _ _ _=>zB3) (fun _ _ _ _=>(zAu (r:=rIxT K) zAq (pv 1) zA7 (fun _ _=>rfl)))) zA3))),?_⟩;obtain ⟨dx,l,t,lv,e1,e2,e3,e4⟩:=kb.k;refine ⟨_,rfl,pk,C,dx,_,_,rfl,e1,KC.cl,KC.nF,zDa _ _ _,l,rfl,⟨_,SqL.of e2⟩,zAo (xs:=[.ref t]) (fun i ys H'=>H=H'∧ys=List.replicate i (V.ref lv)) ⟨rfl,rfl⟩ (fun i ys H' p=>by rw [← p.1];exact SqL.of e2) (fun i ys H' hi p=>by rw [p.2,Zi];exact Zd (small1000 (Za hi (by show 1≤1000;decide)))) ?_ ?_⟩
  ·rintro i x ys H' hi ⟨rfl,rfl⟩ N hN;have il:=(List.getElem?_eq_some_iff.mp hi).1;have i0:i=0:=by simpa using il
   subst i0;cases hi;exact pick ⟨_,rfl,t,_,1,_,rfl,rfl,SqT.of e3,rfl,hN _ _ ⟨rfl,rfl⟩⟩
  ·rintro ys H' ⟨rfl,rfl⟩ c hc;exact ⟨c,lv,rfl,zA1,(Same.new hc) _ _ e4,fun l t1 t2 H' h1 h2 h3 s=>k l t1 t2 H' h1 h2 h3 ((Same.new hc).trans s)⟩
theorem scIs:FnScope ["kind", "thing"] ["kind", "thing"] (defScope sIsState):=⟨rfl,rfl,rfl,by decide +kernel,rfl,by decide +kernel,by decide +kernel⟩
theorem red_has {G:Addr→Prop}{H:Hp}{a:Addr}{x:Str} (g:G a) (h:H a=some (.tup [.str x])) (hx:(decide (x.length≤1000) && PyData.strOk x)=true):Has G H (.ref a) (.tuple [.str x]):=by
 rw [Zj] at hx;exact .tup g h (by show 1≤1000;decide) (.cons (.str _ (of_decide_eq_true hx.1) hx.2) .nil)
theorem ok_isS {f fn fs fA C fI:Addr}{fd fdn fds fdA:FuncData} (hC:Calm CX) (T:Tops K mg) (KC:KCls K mg C fI) (F:Fun K "is_state" "is_state" sIsState f fd) (DN:Def K mg "is_name" sIsName ["thing"] fn fdn) (DS:Def K mg "states" sStates ["kind"] fs fds) (DA:Def K mg "all_picks" sPicks ["lists"] fA fdA):FnOk P w K mg base CX 3 f fd ["kind", "thing"] (spIsS C):=by
 have GN:FnOk P w K mg base CX 1 fn fdn ["thing"] spNmT:=ok_nmT DN.fn T;have GS:FnOk P w K mg base CX 2 fs fds ["kind"] (spStB C):=ok_stB hC KC DS.fn DA;refine Fun.okC F scIs (fun vs H Q E h=>?_) (fun cdv Ar outer s H vs Q E hr h=>?_)
 ·obtain ⟨CK,q,pk,a,rfl,_⟩:=h;rfl
 ·obtain ⟨CK,q,pk,a,rfl,kb,ha,k⟩:=h;have nd:=scIs.nd;have hr1:=hr.mono (show 1≤2 by decide);have hu:∀ {n:Nat},n + 16 * 2 + 200 < cLine→n + 65 < cLine:=fun h=>by omega
  refine ⟨_,zA4 (zAb (zC1 (zA9 zAg rfl T.isinst PyProof.Rows.boot_isinstance (zA0 (pv 1) (zA0 (zB2 (v:=.ty "tuple") rfl T.tuple PyProof.Rows.boot_tuple rfl) zA3))) (zC1 (zA9 (zBb rfl) rfl T.all PyProof.Rows.boot_all (zA0 (zAr (T:=["value"]) rfl ScOk.auto (pi_tup (pv 1)) (fun _ _ _ _=>zAf (i:=2) (by decide +kernel:(["kind", "thing", "value"]:List Str).Nodup) rfl (Or.inl rfl)) (fun _ _ _ _=>zB3) (fun _ _ _ _=>(zA8 GN hr1 rfl DN.at_ DN.fn.kp DN.bind .nil (passC hC) (zA0 (pv 2) zA3)))) zA3)) (zCe (zBk (op_in2 (K:=K) rfl (hu hr.un)) (pv 1) (zA8 GS hr rfl DS.at_ DS.fn.kp DS.bind .nil (passC hC) (zA0 (pv 0) zA3)) rfl))))),?_⟩;refine ⟨_,rfl,_,_,_,_,_,rfl,.tup ha,rfl,rfl,_,rfl,iteT ⟨_,rfl,a,rfl,⟨_,SqT.of ha⟩,comp_t1 (b:=true) ha (fun N hN=>⟨_,rfl, "red",rfl,by refine ⟨?_,?_,?_⟩ <;> decide +kernel,hN⟩) fun p H1 s1 hp=>⟨p,[true],rfl,SqL.of hp,_,rfl,iteT ?_⟩⟩⟩;refine ⟨_,rfl,_,rfl,CK,q,pk,rfl,kb.same s1,fun l t1 t2 H2 h1 h2 h3 s2=>?_⟩;refine ⟨l,t1,t2,.tuple [.str "red"],.tuple [.str "red"],.tuple [.str "grey"],rfl,SqL.of h1,(fun z=>by rw [z,h3] at h2;exact absurd (tup1 h2) (by decide +kernel)),red_has trivial h2 (by decide +kernel),red_has trivial h3 (by decide +kernel),red_has trivial ((s1.trans s2) _ _ ha) (by decide +kernel),by decide,by decide,by decide,?_⟩;exact k _ (s1.trans s2)
end
end L2.W
namespace L2.W
open PySem My
noncomputable def But (p:Addr) (H H':Hp):Prop:=∀ b o,H b=some o→b≠p→H' b=some o
theorem lk1 {f:Str}{v:V}{fs:List (Str×V)}:(putF f v fs).lookup f=some v:=by rw [zAs,if_pos rfl]
theorem lk2 {f g:Str}{v u:V}{fs:List (Str×V)} (h:decide (g=f)=false) (r:fs.lookup g=some u):(putF f v fs).lookup g=some u:=by rw [zAs,if_neg (of_decide_eq_false h)];exact r
theorem lk0 {f g:Str}{v:V}{fs:List (Str×V)} (h:decide (g=f)=false) (r:fs.lookup g=none):(putF f v fs).lookup g=none:=by rw [zAs,if_neg (of_decide_eq_false h)];exact r
theorem zBm {x dx C:Addr}{H:Hp} (hx:H x=none) (hdx:H dx=none) (_:dx≠x):Same H (upd (upd H dx (.own x)) x (.ins C dx [])):=fun a o e=>by
 rw [zA6 (zA5 e hx),zA6 (zA5 e hdx)];exact e
theorem zCg {x dx C:Addr}{H H':Hp} (hx:H x=none) (hdx:H dx=none) (ne:dx≠x) (b:But x (upd (upd H dx (.own x)) x (.ins C dx [])) H'):Same H H':=fun a o e=>b a o (zBm hx hdx ne a o e) (zA5 e hx)
noncomputable def nosD:List Str:=["hand", "number", "wishing", "name", "owner_mark", "state", "mark", "field", "value"]
structure DCo (K:PySem.W.Frag) (C:Addr) (nos:List Str):Prop where
 cl:Cls K C
 no:∀ n∈nos,NoAttr K C n
noncomputable def Bi (i:Nat):Prop:=i=0∨i=1∨i=7
theorem Bi.le {i:Nat} (h:Bi i):i≤999999:=by rcases h with rfl | rfl | rfl <;> decide
theorem Bi.cnt {i:Nat} (h:Bi i):Txt.count (bx i) "." = 1:=by rcases h with rfl | rfl | rfl <;> decide +kernel
noncomputable def dF (h:Str) (n w:Int) (i:Nat):List (Str×V):=putF "name" (.str (bx i)) (putF "wishing" (.int w) (putF "number" (.int n) (putF "hand" (.str h) [])))
noncomputable def mF (h:Str) (n w:Int) (i:Nat) (st:Addr):List (Str×V):=putF "state" (.ref st) (putF "owner_mark" .non (dF h n w i))
noncomputable def tF (h:Str) (n w:Int) (i:Nat) (m:Int):List (Str×V):=putF "owner_mark" .non (putF "mark" (.int m) (dF h n w i))
noncomputable def sF (h:Str) (n w:Int) (i:Nat) (m:Int) (x:Str):List (Str×V):=putF "value" (.str x) (putF "field" (.str "colour") (tF h n w i m))
structure DI (K:PySem.W.Frag) (H:Hp) (p C dx:Addr) (h:Str) (n w:Int) (i:Nat):Prop where
 p:H p=some (.ins C dx [])
 c:DCo K C nosD
 h:nameOk h
 n:1≤n
 w:0≤w
 i:Bi i
noncomputable def spDI (K:PySem.W.Frag):Sp:=fun vs H Q _=>∃ (p C dx:Addr) (h:Str) (n w:Int) (i:Nat),vs=[.ref p,.str h,.int n,.int w,.str (bx i)]∧DI K H p C dx h n w i∧∀ H',H' p=some (.ins C dx (dF h n w i))→But p H H'→Q .non H'
noncomputable def spMi (K:PySem.W.Frag):Sp:=fun vs H Q _=>∃ (p C dx:Addr) (h:Str) (n w:Int) (i:Nat) (st:Addr),vs=[.ref p,.str h,.int n,.int w,.str (bx i),.non,.ref st]∧DI K H p C dx h n w i∧H st=some (.tup [.str "red"])∧∀ H',H' p=some (.ins C dx (mF h n w i st))→But p H H'→Q .non H'
noncomputable def spTi (K:PySem.W.Frag):Sp:=fun vs H Q _=>∃ (p C dx:Addr) (h:Str) (n w:Int) (i:Nat) (m:Int),vs=[.ref p,.str h,.int n,.int w,.str (bx i),.int m,.non]∧DI K H p C dx h n w i∧1≤m∧∀ H',H' p=some (.ins C dx (tF h n w i m))→But p H H'→Q .non H'
noncomputable def spSi (K:PySem.W.Frag):Sp:=fun vs H Q _=>∃ (p C dx:Addr) (h:Str) (n w:Int) (i:Nat) (m:Int) (x:Str),vs=[.ref p,.str h,.int n,.int w,.str (bx i),.int m,.non,.str "colour",.str x]∧DI K H p C dx h n w i∧1≤m∧Col x∧∀ H',H' p=some (.ins C dx (sF h n w i m x))→But p H H'→Q .non H'
theorem Col.ok {x:Str} (h:Col x):nameOk x:=by rcases h with rfl | rfl <;> (refine ⟨?_,?_,?_⟩ <;> decide +kernel)
theorem col_ok:nameOk "colour":=by refine ⟨?_,?_,?_⟩ <;> decide +kernel
section
variable {P:Program}{w:World}{K:PySem.W.Frag}{mg:Str→Option Value}{base:Heap}{CX:CXT}
theorem ok_fB {f fn fw:Addr}{fd fdn fdw:FuncData} (hC:Calm CX) (T:Tops K mg) (F:Fun K "has_form" "has_form" sHasForm f fd) (DN:Def K mg "is_name" sIsName ["thing"] fn fdn) (DW:Def K mg "is_written_number" sWritten ["text", "most_figures"] fw fdw):FnOk P w K mg base CX 2 f fd ["thing"] spFB:=(ok_form hC T F DN DW).imp fun vs H Q E ⟨n,e,h,k⟩=>⟨_,e,bx_ok h,k⟩
theorem ok_ptB {f fn fw fh C fI CK fIk fOr fOf fOw:Addr}{fd fdn fdw fdh fdf:FuncData} (hC:Calm CX) (T:Tops K mg) (KC:KCls K mg C fI) (KS:KsCls K mg CK fIk fOr fOf fOw) (F:Fun K "parts_of" "parts_of" sPartsOf f fd) (DN:Def K mg "is_name" sIsName ["thing"] fn fdn) (DW:Def K mg "is_written_number" sWritten ["text", "most_figures"] fw fdw) (DH:Def K mg "has_form" sHasForm ["thing"] fh fdh) (Of:Fun K "of" "Kinds.of" sOf fOf fdf) (bOf:Binds K fdf ["self", "name"] []):FnOk P w K mg base CX 3 f fd ["kinds", "name"] (spPtB CK C):=(ok_parts hC T KC KS F DN DW DH Of bOf).imp fun vs H Q E ⟨q,pk,n,e,kb,h,k⟩=>let ⟨_,d,_,ka⟩:=kb.at_;⟨q,d,_,[], "box",n,e,ka,bx_ok h,kb.chain,fun t H' _ e s=>k t H' e s⟩
theorem ok_noB {f fn fw fh fp fi C fI CK fIk fOr fOf fOw:Addr}{fd fdn fdw fdh fdf fdp fdi:FuncData} (hC:Calm CX) (T:Tops K mg) (KC:KCls K mg C fI) (KS:KsCls K mg CK fIk fOr fOf fOw) (F:Fun K "name_of" "name_of" sNameOf f fd) (DN:Def K mg "is_name" sIsName ["thing"] fn fdn) (DI:Def K mg "is_whole" sIsWhole ["thing"] fi fdi) (DW:Def K mg "is_written_number" sWritten ["text", "most_figures"] fw fdw) (DH:Def K mg "has_form" sHasForm ["thing"] fh fdh) (DP:Def K mg "parts_of" sPartsOf ["kinds", "name"] fp fdp) (Of:Fun K "of" "Kinds.of" sOf fOf fdf) (bOf:Binds K fdf ["self", "name"] []):FnOk P w K mg base CX 4 f fd ["kinds", "kind", "owner", "number"] (spNoB CK C):=(ok_nameOf hC T KC KS F DN DI DW DH DP Of bOf).imp fun vs H Q E ⟨q,pk,n,e,kb,h,k⟩=>let ⟨_,d,_,ka⟩:=kb.at_;⟨q,d,_,[], "box",n,e,ka,bx_ok h,kb.chain,k⟩
theorem scDd:FnScope ["self", "hand", "number", "wishing", "name"] ["self", "hand", "number", "wishing", "name"] (defScope sInitD):=⟨rfl,rfl,rfl,by decide +kernel,rfl,by decide +kernel,by decide +kernel⟩
theorem ok_dI {f fn fw fwh fh fwr:Addr}{fd fdn fdw fdwh fdh fdwr:FuncData} (hC:Calm CX) (T:Tops K mg) (F:Fun K "__init__" "Deed.__init__" sInitD f fd) (DN:Def K mg "is_name" sIsName ["thing"] fn fdn) (DWh:Def K mg "is_whole" sIsWhole ["thing"] fwh fdwh) (DW:Def K mg "is_whole_from" sWholeFrom ["least", "thing"] fw fdw) (DH:Def K mg "has_form" sHasForm ["thing"] fh fdh) (DWr:Def K mg "is_written_number" sWritten ["text", "most_figures"] fwr fdwr):FnOk P w K mg base CX 3 f fd ["self", "hand", "number", "wishing", "name"] (spDI K):=by
 have GN:FnOk P w K mg base CX 1 fn fdn ["thing"] spNmT:=ok_nmT DN.fn T;have GW:FnOk P w K mg base CX 2 fw fdw ["least", "thing"] spWF:=ok_wf hC T DW.fn DWh;have GH:FnOk P w K mg base CX 2 fh fdh ["thing"] spFB:=ok_fB hC T DH.fn DN DWr;refine Fun.okC F scDd (fun vs H Q E h=>?_) (fun cdv Ar outer s H vs Q E hr h=>?_)
 ·obtain ⟨p,C,dx,h,n,w,i,rfl,_⟩:=h;rfl
 ·obtain ⟨p,C,dx,h,n,w,i,rfl,d,k⟩:=h;have nd:=scDd.nd;have hr1:=hr.mono (show 1≤2 by decide)
  refine ⟨_,zA2 (zAj (zAm (zAk (zA8 GN hr1 rfl DN.at_ DN.fn.kp DN.bind .nil (passC hC) (zA0 (pv 1) zA3))))
     zAc zAa)
     (zA2 (zAj (zAm (zAk (zA8 GW hr rfl DW.at_ DW.fn.kp DW.bind .nil (passC hC) (zA0 zA7 (zA0 (pv 2) zA3)))))
     zAc zAa)
     (zA2 (zAj (zAm (zAk (zA8 GW hr rfl DW.at_ DW.fn.kp DW.bind .nil (passC hC) (zA0 zA7 (zA0 (pv 3) zA3)))))
     zAc zAa)
     (zA2 (zAj (zAm (zAk (zA8 GH hr rfl DH.at_ DH.fn.kp DH.bind .nil (passC hC) (zA0 (pv 4) zA3))))
     zAc zAa)
     (zA2 (zAp (pv 0) (pv 1) rfl)
     (zA2 (zAp (pv 0) (pv 2) rfl)
     (zA2 (zAp (pv 0) (pv 3) rfl)
     (zA4 (zAp (pv 0) (pv 4) rfl)))))))),?_⟩
  refine ⟨_,rfl,h,rfl,d.h,fun H1 s1=>⟨_,rfl,iteF ⟨_,rfl,1,n,rfl,_,rfl,?_⟩⟩⟩;rw [decide_eq_true d.n];refine iteF ⟨_,rfl,0,w,rfl,_,rfl,?_⟩;rw [decide_eq_true d.w];refine iteF ⟨_,rfl,i,rfl,d.i.le,fun H2 s2=>⟨_,rfl,iteF ?_⟩⟩;have s12:=s1.trans s2;refine ⟨_,rfl,_,rfl,p,C,dx,[],rfl,s12 _ _ d.p,d.c.cl,d.c.no _ (.head _),(by show 0 < 1000;decide),_,rfl,_,rfl,p,C,dx,_,rfl,zA1,d.c.cl,d.c.no _ (.tail _ (.head _)),(by show 1 < 1000;decide),_,rfl,_,rfl,p,C,dx,_,rfl,zA1,d.c.cl,d.c.no _ (.tail _ (.tail _ (.head _))),(by show 2 < 1000;decide),_,rfl,_,rfl,p,C,dx,_,rfl,zA1,d.c.cl,d.c.no _ (.tail _ (.tail _ (.tail _ (.head _)))),(by show 3 < 1000;decide),k _ zA1 fun b o e nb=>?_⟩;rw [zA6 nb,zA6 nb,zA6 nb,zA6 nb];exact s12 _ _ e
theorem scCm:FnScope ["mark"] ["mark"] (defScope sCheckMark):=⟨rfl,rfl,rfl,by decide +kernel,rfl,by decide +kernel,by decide +kernel⟩
noncomputable def spCm:Sp:=fun vs H Q _=>∃ m:Int,vs=[.int m]∧1≤m∧Q .non H
theorem ok_cm {f fw fwh:Addr}{fd fdw fdwh:FuncData} (hC:Calm CX) (T:Tops K mg) (F:Fun K "check_mark" "check_mark" sCheckMark f fd) (DWh:Def K mg "is_whole" sIsWhole ["thing"] fwh fdwh) (DW:Def K mg "is_whole_from" sWholeFrom ["least", "thing"] fw fdw):FnOk P w K mg base CX 3 f fd ["mark"] spCm:=by
 have GW:FnOk P w K mg base CX 2 fw fdw ["least", "thing"] spWF:=ok_wf hC T DW.fn DWh;refine Fun.okC F scCm (fun vs H Q E h=>?_) (fun cdv Ar outer s H vs Q E hr h=>?_)
 ·obtain ⟨m,rfl,_⟩:=h;rfl
 ·obtain ⟨m,rfl,h1,k⟩:=h
  refine ⟨_,zA4 (zAj (zAm (zAk (zA8 GW hr rfl DW.at_ DW.fn.kp DW.bind .nil (passC hC) (zA0 zA7 (zA0 (pv 0) zA3)))))
     zAc zAa),?_⟩
  refine ⟨_,rfl,1,m,rfl,_,rfl,?_⟩;rw [decide_eq_true h1];exact iteF k
theorem scCo:FnScope ["name", "owner_mark"] ["name", "owner_mark"] (defScope sCheckOwner):=⟨rfl,rfl,rfl,by decide +kernel,rfl,by decide +kernel,by decide +kernel⟩
noncomputable def spCo:Sp:=fun vs H Q _=>∃ i:Nat,vs=[.str (bx i),.non]∧Bi i∧Q .non H
theorem ok_co {f:Addr}{fd:FuncData} (F:Fun K "check_owner_mark" "check_owner_mark" sCheckOwner f fd):FnOk P w K mg base CX 1 f fd ["name", "owner_mark"] spCo:=by
 refine Fun.okC F scCo (fun vs H Q E h=>?_) (fun cdv Ar outer s H vs Q E hr h=>?_)
 ·obtain ⟨i,rfl,_⟩:=h;rfl
 ·obtain ⟨i,rfl,b,k⟩:=h
  refine ⟨_,zA4 (zAj (zAh op_gt (zE0 PySem.F.plainAttrs_str PySem.F.slot_str_count PySem.F.type_str_count mt_count (pv 0) (zA0 zAi zA3)) zA7 (nomark _))
     zAc (zA4 (zAj (zB8 (zCf (pv 1)))
     zAc zAa))),?_⟩
  refine ⟨_,rfl,rfl,_,_,rfl,rfl,_,_,rfl,rfl,_,rfl,?_⟩;rw [b.cnt];exact iteF ⟨_,rfl,_,rfl,iteF k⟩
structure DAll (P:Program) (w:World) (K:PySem.W.Frag) (mg:Str→Option Value) (base:Heap) (CX:CXT) (CDd fn fm fo fD:Addr) (fdn fdm fdo fdD:FuncData):Prop where
 T:Tops K mg
 hC:Calm CX
 cf:ClsFn K CDd "__init__" fD
 mgD:mg "Deed" = some (.ref CDd)
 bD:Binds K fdD ["self", "hand", "number", "wishing", "name"] []
 GD:FnOk P w K mg base CX 3 fD fdD ["self", "hand", "number", "wishing", "name"] (spDI K)
 N:Def K mg "is_name" sIsName ["thing"] fn fdn
 M:Def K mg "check_mark" sCheckMark ["mark"] fm fdm
 GM:FnOk P w K mg base CX 3 fm fdm ["mark"] spCm
 O:Def K mg "check_owner_mark" sCheckOwner ["name", "owner_mark"] fo fdo
 GO:FnOk P w K mg base CX 1 fo fdo ["name", "owner_mark"] spCo
variable {CDd fn fm fo fD:Addr}{fdn fdm fdo fdD:FuncData}
theorem scMi:FnScope ["self", "hand", "number", "wishing", "name", "owner_mark", "state"] ["self", "hand", "number", "wishing", "name", "owner_mark", "state"] (defScope sInitM):=⟨rfl,rfl,rfl,by decide +kernel,rfl,by decide +kernel,by decide +kernel⟩
theorem scTi:FnScope ["self", "hand", "number", "wishing", "name", "mark", "owner_mark"] ["self", "hand", "number", "wishing", "name", "mark", "owner_mark"] (defScope sInitT):=⟨rfl,rfl,rfl,by decide +kernel,rfl,by decide +kernel,by decide +kernel⟩
theorem scSi:FnScope ["self", "hand", "number", "wishing", "name", "mark", "owner_mark", "field", "value"] ["self", "hand", "number", "wishing", "name", "mark", "owner_mark", "field", "value"] (defScope sInitS):=⟨rfl,rfl,rfl,by decide +kernel,rfl,by decide +kernel,by decide +kernel⟩
theorem ok_mi {f:Addr}{fd:FuncData} (A:DAll P w K mg base CX CDd fn fm fo fD fdn fdm fdo fdD) (F:Fun K "__init__" "Make.__init__" sInitM f fd):FnOk P w K mg base CX 4 f fd ["self", "hand", "number", "wishing", "name", "owner_mark", "state"] (spMi K):=by
 have hC:=A.hC;have T:=A.T;have GN:FnOk P w K mg base CX 1 fn fdn ["thing"] spNmT:=ok_nmT A.N.fn T;refine Fun.okC F scMi (fun vs H Q E h=>?_) (fun cdv Ar outer s H vs Q E hr h=>?_)
 ·obtain ⟨p,C,dx,h,n,w,i,st,rfl,_⟩:=h;rfl
 ·obtain ⟨p,C,dx,h,n,w,i,st,rfl,d,hst,k⟩:=h;have nd:=scMi.nd;have hr1:=hr.mono (show 1≤3 by decide)
  refine ⟨_,zA2 (zB6 (zD4 A.cf A.GD hr rfl A.mgD A.bD .nil (passC hC) (zA0 (pv 0) (zA0 (pv 1) (zA0 (pv 2) (zA0 (pv 3) (zA0 (pv 4) zA3)))))))
     (zA2 (zB6 (zA8 A.GO hr1 rfl A.O.at_ A.O.fn.kp A.O.bind .nil (passC hC) (zA0 (pv 4) (zA0 (pv 5) zA3))))
     (zA2 (zAj (PW.pt (zCc (zAm (zAk (zA9 zAg rfl T.isinst PyProof.Rows.boot_isinstance (zA0 (pv 6) (zA0 (zB2 (v:=.ty "tuple") rfl T.tuple PyProof.Rows.boot_tuple rfl) zA3))))) (zBo (zAm (zAk (zA9 (zBb rfl) rfl T.all PyProof.Rows.boot_all (zA0 (zAr (T:=["value"]) rfl ScOk.auto (pi_tup (pv 6)) (fun _ _ _ _=>zAf (i:=7) (by decide +kernel:(["self", "hand", "number", "wishing", "name", "owner_mark", "state", "value"]:List Str).Nodup) rfl (Or.inl rfl)) (fun _ _ _ _=>zB3) (fun _ _ _ _=>(zA8 GN hr1 rfl A.N.at_ A.N.fn.kp A.N.bind .nil (passC hC) (zA0 (pv 7) zA3)))) zA3)))))))
     zAc zAa)
     (zA2 (zAp (pv 0) (pv 5) rfl)
     (zA4 (zAp (pv 0) (pv 6) rfl))))),?_⟩
  have nps:st≠p:=by rintro rfl;rw [d.p] at hst;cases hst
  refine ⟨_,rfl,_,rfl,_,rfl,_,rfl,_,rfl,p,C,dx,h,n,w,i,rfl,d,fun H1 e1 b1=>?_⟩;have hst1:=b1 _ _ hst nps;refine ⟨_,rfl,_,rfl,i,rfl,d.i,_,rfl,_,_,_,_,_,rfl,.tup hst1,rfl,rfl,_,rfl,iteF ⟨_,rfl,st,rfl,⟨_,SqT.of hst1⟩,comp_t1 (b:=true) hst1 (fun N hN=>⟨_,rfl, "red",rfl,by refine ⟨?_,?_,?_⟩ <;> decide +kernel,hN⟩) fun c H2 s2 hc=>⟨c,[true],rfl,SqL.of hc,_,rfl,iteF ?_⟩⟩⟩;refine ⟨_,rfl,_,rfl,p,C,dx,_,rfl,s2 _ _ e1,d.c.cl,d.c.no _ (.tail _ (.tail _ (.tail _ (.tail _ (.head _))))),(by show 4 < 1000;decide),_,rfl,_,rfl,p,C,dx,_,rfl,zA1,d.c.cl,d.c.no _ (.tail _ (.tail _ (.tail _ (.tail _ (.tail _ (.head _)))))),(by show 5 < 1000;decide),k _ zA1 fun b o e nb=>?_⟩;rw [zA6 nb,zA6 nb];exact s2 _ _ (b1 _ _ e nb)
theorem ok_ti {f:Addr}{fd:FuncData} (A:DAll P w K mg base CX CDd fn fm fo fD fdn fdm fdo fdD) (F:Fun K "__init__" "Take.__init__" sInitT f fd):FnOk P w K mg base CX 4 f fd ["self", "hand", "number", "wishing", "name", "mark", "owner_mark"] (spTi K):=by
 have hC:=A.hC;refine Fun.okC F scTi (fun vs H Q E h=>?_) (fun cdv Ar outer s H vs Q E hr h=>?_)
 ·obtain ⟨p,C,dx,h,n,w,i,m,rfl,_⟩:=h;rfl
 ·obtain ⟨p,C,dx,h,n,w,i,m,rfl,d,m1,k⟩:=h;have nd:=scTi.nd;have hr1:=hr.mono (show 1≤3 by decide)
  refine ⟨_,zA2 (zB6 (zD4 A.cf A.GD hr rfl A.mgD A.bD .nil (passC hC) (zA0 (pv 0) (zA0 (pv 1) (zA0 (pv 2) (zA0 (pv 3) (zA0 (pv 4) zA3)))))))
     (zA2 (zB6 (zA8 A.GM hr rfl A.M.at_ A.M.fn.kp A.M.bind .nil (passC hC) (zA0 (pv 5) zA3)))
     (zA2 (zB6 (zA8 A.GO hr1 rfl A.O.at_ A.O.fn.kp A.O.bind .nil (passC hC) (zA0 (pv 4) (zA0 (pv 6) zA3))))
     (zA2 (zAp (pv 0) (pv 5) rfl)
     (zA4 (zAp (pv 0) (pv 6) rfl))))),?_⟩
  refine ⟨_,rfl,_,rfl,_,rfl,_,rfl,_,rfl,p,C,dx,h,n,w,i,rfl,d,fun H1 e1 b1=>?_⟩;refine ⟨_,rfl,m,rfl,m1,_,rfl,_,rfl,i,rfl,d.i,_,rfl,_,rfl,p,C,dx,_,rfl,e1,d.c.cl,d.c.no _ (.tail _ (.tail _ (.tail _ (.tail _ (.tail _ (.tail _ (.head _))))))),(by show 4 < 1000;decide),_,rfl,_,rfl,p,C,dx,_,rfl,zA1,d.c.cl,d.c.no _ (.tail _ (.tail _ (.tail _ (.tail _ (.head _))))),(by show 5 < 1000;decide),k _ zA1 fun b o e nb=>?_⟩;rw [zA6 nb,zA6 nb];exact b1 _ _ e nb
theorem ok_si {f:Addr}{fd:FuncData} (A:DAll P w K mg base CX CDd fn fm fo fD fdn fdm fdo fdD) (F:Fun K "__init__" "Set.__init__" sInitS f fd):FnOk P w K mg base CX 4 f fd ["self", "hand", "number", "wishing", "name", "mark", "owner_mark", "field", "value"] (spSi K):=by
 have hC:=A.hC;have GN:FnOk P w K mg base CX 1 fn fdn ["thing"] spNmT:=ok_nmT A.N.fn A.T;refine Fun.okC F scSi (fun vs H Q E h=>?_) (fun cdv Ar outer s H vs Q E hr h=>?_)
 ·obtain ⟨p,C,dx,h,n,w,i,m,x,rfl,_⟩:=h;rfl
 ·obtain ⟨p,C,dx,h,n,w,i,m,x,rfl,d,m1,cx,k⟩:=h;have nd:=scSi.nd;have hr1:=hr.mono (show 1≤3 by decide)
  refine ⟨_,zA2 (zB6 (zD4 A.cf A.GD hr rfl A.mgD A.bD .nil (passC hC) (zA0 (pv 0) (zA0 (pv 1) (zA0 (pv 2) (zA0 (pv 3) (zA0 (pv 4) zA3)))))))
     (zA2 (zB6 (zA8 A.GM hr rfl A.M.at_ A.M.fn.kp A.M.bind .nil (passC hC) (zA0 (pv 5) zA3)))
     (zA2 (zB6 (zA8 A.GO hr1 rfl A.O.at_ A.O.fn.kp A.O.bind .nil (passC hC) (zA0 (pv 4) (zA0 (pv 6) zA3))))
     (zA2 (zAj (PW.pt (zCc (zAm (zAk (zA8 GN hr1 rfl A.N.at_ A.N.fn.kp A.N.bind .nil (passC hC) (zA0 (pv 7) zA3)))) (zBo (zAm (zAk (zA8 GN hr1 rfl A.N.at_ A.N.fn.kp A.N.bind .nil (passC hC) (zA0 (pv 8) zA3)))))))
     zAc zAa)
     (zA2 (zAp (pv 0) (pv 5) rfl)
     (zA2 (zAp (pv 0) (pv 6) rfl)
     (zA2 (zAp (pv 0) (pv 7) rfl)
     (zA4 (zAp (pv 0) (pv 8) rfl)))))))),?_⟩
  refine ⟨_,rfl,_,rfl,_,rfl,_,rfl,_,rfl,p,C,dx,h,n,w,i,rfl,d,fun H1 e1 b1=>?_⟩;refine ⟨_,rfl,m,rfl,m1,_,rfl,_,rfl,i,rfl,d.i,_,rfl, "colour",rfl,col_ok,fun H2 s2=>⟨_,rfl,iteF ⟨_,rfl,x,rfl,cx.ok,fun H3 s3=>⟨_,rfl,iteF ?_⟩⟩⟩⟩;have s23:=s2.trans s3;refine ⟨_,rfl,_,rfl,p,C,dx,_,rfl,s23 _ _ e1,d.c.cl,d.c.no _ (.tail _ (.tail _ (.tail _ (.tail _ (.tail _ (.tail _ (.head _))))))),(by show 4 < 1000;decide),_,rfl,_,rfl,p,C,dx,_,rfl,zA1,d.c.cl,d.c.no _ (.tail _ (.tail _ (.tail _ (.tail _ (.head _))))),(by show 5 < 1000;decide),_,rfl,_,rfl,p,C,dx,_,rfl,zA1,d.c.cl,d.c.no _ (.tail _ (.tail _ (.tail _ (.tail _ (.tail _ (.tail _ (.tail _ (.head _)))))))),(by show 6 < 1000;decide),_,rfl,_,rfl,p,C,dx,_,rfl,zA1,d.c.cl,d.c.no _ (.tail _ (.tail _ (.tail _ (.tail _ (.tail _ (.tail _ (.tail _ (.tail _ (.head _))))))))),(by show 7 < 1000;decide),k _ zA1 fun b o e nb=>?_⟩;rw [zA6 nb,zA6 nb,zA6 nb,zA6 nb];exact s23 _ _ (b1 _ _ e nb)
end
end L2.W
namespace L2.W
open PySem My
structure DB where
 (de ma se tk:Addr)
inductive Dd where
 | mk (st:Addr) | se (m:Int) (x:Str) | tk (m:Int)
structure De where
 (h:Str) (n w:Int) (d:Dd)
noncomputable def Dd.i:Dd→Nat
 | .mk _=>1
 | .se _ _=>0
 | .tk _=>7
noncomputable def DB.cls (B:DB):Dd→Addr
 | .mk _=>B.ma
 | .se _ _=>B.se
 | .tk _=>B.tk
noncomputable def De.fs (e:De):List (Str×V):=match e.d with
 | .mk st=>mF e.h e.n e.w 1 st
 | .se m x=>sF e.h e.n e.w 0 m x
 | .tk m=>tF e.h e.n e.w 7 m
noncomputable def Dd.ok (H:Hp):Dd→Prop
 | .mk st=>H st=some (.tup [.str "red"])
 | .se _ x=>Col x
 | .tk _=>True
noncomputable def Dd.seen:Dd→V
 | .mk _=>.non
 | .se m _=>.int m
 | .tk m=>.int m
structure DdAt (B:DB) (H:Hp) (p:Addr) (e:De):Prop where
 p:∃ dx,H p=some (.ins (B.cls e.d) dx e.fs)
 o:e.d.ok H
theorem DdAt.same {B:DB}{H H':Hp}{p:Addr}{e:De} (h:DdAt B H p e) (s:Same H H'):DdAt B H' p e:=by
 obtain ⟨⟨dx,h1⟩,o⟩:=h;refine ⟨⟨dx,s _ _ h1⟩,?_⟩;obtain ⟨_,_,_,d⟩:=e;cases d with
 | mk st=>exact s _ _ o
 | se m x=>exact o
 | tk m=>trivial
theorem dF_h {h:Str}{n w:Int}{i:Nat}:(dF h n w i).lookup ("hand" : Str)=some (.str h):=lk2 (by decide +kernel) (lk2 (by decide +kernel) (lk2 (by decide +kernel) lk1))
theorem dF_n {h:Str}{n w:Int}{i:Nat}:(dF h n w i).lookup ("number" : Str)=some (.int n):=lk2 (by decide +kernel) (lk2 (by decide +kernel) lk1)
theorem dF_w {h:Str}{n w:Int}{i:Nat}:(dF h n w i).lookup ("wishing" : Str)=some (.int w):=lk2 (by decide +kernel) lk1
theorem dF_x {h:Str}{n w:Int}{i:Nat}:(dF h n w i).lookup ("name" : Str)=some (.str (bx i)):=lk1
theorem tF_up {h:Str}{n w:Int}{i:Nat}{m:Int}{g:Str}{u:V} (h1:decide (g = "owner_mark")=false) (h2:decide (g = "mark")=false) (r:(dF h n w i).lookup g=some u):(tF h n w i m).lookup g=some u:=lk2 h1 (lk2 h2 r)
theorem sF_up {h:Str}{n w:Int}{i:Nat}{m:Int}{x:Str}{g:Str}{u:V} (h1:decide (g = "value")=false) (h2:decide (g = "field")=false) (r:(tF h n w i m).lookup g=some u):(sF h n w i m x).lookup g=some u:=lk2 h1 (lk2 h2 r)
theorem mF_up {h:Str}{n w:Int}{i:Nat}{st:Addr}{g:Str}{u:V} (h1:decide (g = "state")=false) (h2:decide (g = "owner_mark")=false) (r:(dF h n w i).lookup g=some u):(mF h n w i st).lookup g=some u:=lk2 h1 (lk2 h2 r)
theorem zE9 {e:De}{g:Str}{u:V} (hg:(decide (g = "owner_mark") || (decide (g = "mark") || (decide (g = "value") || (decide (g = "field") || decide (g = "state")))))=false) (r:(dF e.h e.n e.w e.d.i).lookup g=some u):e.fs.lookup g=some u:=by
 simp only [Bool.or_eq_false_iff] at hg;obtain ⟨h1,h2,h3,h4,h5⟩:=hg;obtain ⟨a,b,c,d⟩:=e;cases d with
 | mk st=>exact mF_up h5 h1 r
 | se m x=>exact sF_up h3 h4 (tF_up h1 h2 r)
 | tk m=>exact tF_up h1 h2 r
theorem fs_own {e:De}:e.fs.lookup ("owner_mark" : Str)=some .non:=by
 obtain ⟨a,b,c,d⟩:=e;cases d with
 | mk st=>exact lk2 (by decide +kernel) lk1
 | se m x=>exact sF_up (by decide +kernel) (by decide +kernel) lk1
 | tk m=>exact lk1
theorem dF_no {h:Str}{n w:Int}{i:Nat}{g:Str} (hg:(decide (g = "name") || (decide (g = "wishing") || (decide (g = "number") || decide (g = "hand"))))=false):(dF h n w i).lookup g=none:=by
 simp only [Bool.or_eq_false_iff] at hg;exact lk0 hg.1 (lk0 hg.2.1 (lk0 hg.2.2.1 (lk0 hg.2.2.2 rfl)))
theorem fs_no {e:De}{g:Str} (hg:(decide (g = "owner_mark") || (decide (g = "mark") || (decide (g = "value") || (decide (g = "field") || decide (g = "state")))))=false) (hd:(decide (g = "name") || (decide (g = "wishing") || (decide (g = "number") || decide (g = "hand"))))=false):e.fs.lookup g=none:=by
 simp only [Bool.or_eq_false_iff] at hg;obtain ⟨h1,h2,h3,h4,h5⟩:=hg;obtain ⟨a,b,c,d⟩:=e;cases d with
 | mk st=>exact lk0 h5 (lk0 h1 (dF_no hd))
 | se m x=>exact lk0 h3 (lk0 h4 (lk0 h1 (lk0 h2 (dF_no hd))))
 | tk m=>exact lk0 h1 (lk0 h2 (dF_no hd))
noncomputable def IsDd (B:DB) (C:Addr):Prop:=C=B.ma∨C=B.se∨C=B.tk
theorem zCk (B:DB) (d:Dd):IsDd B (B.cls d):=by
 cases d with
 | mk st=>exact .inl rfl
 | se m x=>exact .inr (.inl rfl)
 | tk m=>exact .inr (.inr rfl)
noncomputable def spSeen (B:DB) (X:Addr):Sp:=fun vs H Q _=>∃ (p:Addr) (e:De),vs=[.ref p]∧DdAt B H p e∧B.cls e.d=X∧Q e.d.seen H
noncomputable def Dd.good:Dd→Prop
 | .tk _=>False
 | _=>True
noncomputable def spSuit (B:DB) (C X:Addr):Sp:=fun vs H Q _=>∃ (CK q pk p:Addr) (e:De),vs=[.ref p,.ref pk]∧DdAt B H p e∧B.cls e.d=X∧e.d.good∧KB CK C H q pk∧∀ H',Same H H'→Q (.bl true) H'
noncomputable def spAft (B:DB) (C X:Addr):Sp:=fun vs H Q _=>∃ (CK q pk p a:Addr) (h:Str) (n w m:Int) (x y:Str),vs=[.ref p,.ref pk,.ref a]∧DdAt B H p ⟨h,n,w,.se m x⟩∧B.se=X∧KB CK C H q pk∧H a=some (.tup [.str y])∧∀ t H',H' t=some (.tup [.str x])→Same H H'→Q (.ref t) H'
structure DCl (K:PySem.W.Frag) (B:DB):Prop where
 all:∀ C,IsDd B C→DCo K C nosD
 ne:[B.ma,B.se,B.tk].Nodup
theorem zDm {B:DB} (ne:[B.ma,B.se,B.tk].Nodup) {d:Dd}:(B.cls d=B.ma→∃ st,d=.mk st)∧(B.cls d=B.se→∃ m x,d=.se m x)∧(B.cls d=B.tk→∃ m,d=.tk m):=by
 simp only [List.nodup_cons,Zv,Zq,or_false,not_or,List.nodup_nil,and_true,not_false_eq_true] at ne;obtain ⟨⟨a1,a2⟩,b1⟩:=ne;rcases d with _ | _ | _ <;> simp [DB.cls,a1,a2,b1,Ne.symm a1,Ne.symm a2,Ne.symm b1]
section
variable {P:Program}{w:World}{K:PySem.W.Frag}{mg:Str→Option Value}{base:Heap}{CX:CXT}
theorem scSM:FnScope ["self"] ["self"] (defScope sSeenM):=⟨rfl,rfl,rfl,by decide +kernel,rfl,by decide +kernel,by decide +kernel⟩
theorem scSS:FnScope ["self"] ["self"] (defScope sSeenS):=⟨rfl,rfl,rfl,by decide +kernel,rfl,by decide +kernel,by decide +kernel⟩
theorem scST:FnScope ["self"] ["self"] (defScope sSeenT):=⟨rfl,rfl,rfl,by decide +kernel,rfl,by decide +kernel,by decide +kernel⟩
theorem ok_seM {f:Addr}{fd:FuncData}{B:DB} (D:DCl K B) (F:Fun K "seen_mark" "Make.seen_mark" sSeenM f fd):FnOk P w K mg base CX 1 f fd ["self"] (spSeen B B.ma):=by
 refine Fun.okC F scSM (fun vs H Q E h=>?_) (fun cdv Ar outer s H vs Q E hr h=>?_)
 ·obtain ⟨p,e,rfl,_⟩:=h;rfl
 ·obtain ⟨p,e,rfl,d,hX,k⟩:=h;obtain ⟨st,hd⟩:=(zDm D.ne).1 hX;rw [hd] at k;refine ⟨_,zA4 (zAb zBp),?_⟩;exact k
theorem ok_seS {f:Addr}{fd:FuncData}{B:DB} (D:DCl K B) (F:Fun K "seen_mark" "Set.seen_mark" sSeenS f fd):FnOk P w K mg base CX 1 f fd ["self"] (spSeen B B.se):=by
 refine Fun.okC F scSS (fun vs H Q E h=>?_) (fun cdv Ar outer s H vs Q E hr h=>?_)
 ·obtain ⟨p,e,rfl,_⟩:=h;rfl
 ·obtain ⟨p,⟨h,n,w,d⟩,rfl,⟨⟨dx,hp⟩,_⟩,hX,k⟩:=h;obtain ⟨m,x,rfl⟩:=(zDm D.ne).2.1 hX;refine ⟨_,zA4 (zAb (zAe (pv 0) rfl)),?_⟩;exact ⟨_,rfl,p,B.se,dx,_,_,rfl,hp,(D.all _ (.inr (.inl rfl))).cl,(D.all _ (.inr (.inl rfl))).no _ (.tail _ (.tail _ (.tail _ (.tail _ (.tail _ (.tail _ (.head _))))))),sF_up (by decide +kernel) (by decide +kernel) (lk2 (by decide +kernel) lk1),k⟩
theorem ok_seT {f:Addr}{fd:FuncData}{B:DB} (D:DCl K B) (F:Fun K "seen_mark" "Take.seen_mark" sSeenT f fd):FnOk P w K mg base CX 1 f fd ["self"] (spSeen B B.tk):=by
 refine Fun.okC F scST (fun vs H Q E h=>?_) (fun cdv Ar outer s H vs Q E hr h=>?_)
 ·obtain ⟨p,e,rfl,_⟩:=h;rfl
 ·obtain ⟨p,⟨h,n,w,d⟩,rfl,⟨⟨dx,hp⟩,_⟩,hX,k⟩:=h;obtain ⟨m,rfl⟩:=(zDm D.ne).2.2 hX;refine ⟨_,zA4 (zAb (zAe (pv 0) rfl)),?_⟩;exact ⟨_,rfl,p,B.tk,dx,_,_,rfl,hp,(D.all _ (.inr (.inr rfl))).cl,(D.all _ (.inr (.inr rfl))).no _ (.tail _ (.tail _ (.tail _ (.tail _ (.tail _ (.tail _ (.head _))))))),lk2 (by decide +kernel) lk1,k⟩
theorem scUM:FnScope ["self", "kind"] ["self", "kind"] (defScope sSuitM):=⟨rfl,rfl,rfl,by decide +kernel,rfl,by decide +kernel,by decide +kernel⟩
theorem scUS:FnScope ["self", "kind"] ["self", "kind"] (defScope sSuitS):=⟨rfl,rfl,rfl,by decide +kernel,rfl,by decide +kernel,by decide +kernel⟩
theorem ok_suM {f fs C:Addr}{fd fds:FuncData}{B:DB} (hC:Calm CX) (D:DCl K B) (F:Fun K "suits_kind" "Make.suits_kind" sSuitM f fd) (DS:Def K mg "is_state" sIsState ["kind", "thing"] fs fds) (GS:FnOk P w K mg base CX 3 fs fds ["kind", "thing"] (spIsS C)):FnOk P w K mg base CX 4 f fd ["self", "kind"] (spSuit B C B.ma):=by
 refine Fun.okC F scUM (fun vs H Q E h=>?_) (fun cdv Ar outer s H vs Q E hr h=>?_)
 ·obtain ⟨CK,q,pk,p,e,rfl,_⟩:=h;rfl
 ·obtain ⟨CK,q,pk,p,⟨h,n,w,d⟩,rfl,⟨⟨dx,hp⟩,ho⟩,hX,_,kb,k⟩:=h;obtain ⟨st,rfl⟩:=(zDm D.ne).1 hX;refine ⟨_,zA4 (zAb (zA8 GS hr rfl DS.at_ DS.fn.kp DS.bind .nil (passC hC) (zA0 (pv 1) (zA0 (zAe (pv 0) rfl) zA3)))),?_⟩;exact ⟨_,rfl,_,rfl,p,B.ma,dx,_,_,rfl,hp,(D.all _ (.inl rfl)).cl,(D.all _ (.inl rfl)).no _ (.tail _ (.tail _ (.tail _ (.tail _ (.tail _ (.head _)))))),lk1,CK,q,pk,st,rfl,kb,ho,k⟩
theorem ok_suS {f fs C:Addr}{fd fds:FuncData}{B:DB} (hC:Calm CX) (D:DCl K B) (F:Fun K "suits_kind" "Set.suits_kind" sSuitS f fd) (DS:Def K mg "has_value" sHasVal ["kind", "field", "value"] fs fds) (GS:FnOk P w K mg base CX 2 fs fds ["kind", "field", "value"] (spHvB C)):FnOk P w K mg base CX 4 f fd ["self", "kind"] (spSuit B C B.se):=by
 refine Fun.okC F scUS (fun vs H Q E h=>?_) (fun cdv Ar outer s H vs Q E hr h=>?_)
 ·obtain ⟨CK,q,pk,p,e,rfl,_⟩:=h;rfl
 ·obtain ⟨CK,q,pk,p,⟨h,n,w,d⟩,rfl,⟨⟨dx,hp⟩,ho⟩,hX,_,kb,k⟩:=h;obtain ⟨m,x,rfl⟩:=(zDm D.ne).2.1 hX;have hr2:=hr.mono (show 2≤3 by decide);have c:=D.all _ (show IsDd B B.se from .inr (.inl rfl));refine ⟨_,zA4 (zAb (zA8 GS hr2 rfl DS.at_ DS.fn.kp DS.bind .nil (passC hC) (zA0 (pv 1) (zA0 (zAe (pv 0) rfl) (zA0 (zAe (pv 0) rfl) zA3))))),?_⟩;exact ⟨_,rfl,_,rfl,p,B.se,dx,_,_,rfl,hp,c.cl,c.no _ (.tail _ (.tail _ (.tail _ (.tail _ (.tail _ (.tail _ (.tail _ (.head _)))))))),lk2 (by decide +kernel) lk1,_,rfl,p,B.se,dx,_,_,rfl,hp,c.cl,c.no _ (.tail _ (.tail _ (.tail _ (.tail _ (.tail _ (.tail _ (.tail _ (.tail _ (.head _))))))))),lk1,CK,q,pk,x,rfl,kb,ho,k⟩
theorem ok_suT {f C:Addr}{fd:FuncData}{B:DB} (D:DCl K B):FnOk P w K mg base CX 4 f fd ["self", "kind"] (spSuit B C B.tk):=FnOk.never fun vs H Q E ⟨_,_,_,_,e,_,_,hX,hg,_⟩=>by
 obtain ⟨m,hd⟩:=(zDm D.ne).2.2 hX;rw [hd] at hg;exact hg
theorem scAS:FnScope ["self", "kind", "state"] ["self", "kind", "state"] (defScope sAftS):=⟨rfl,rfl,rfl,by decide +kernel,rfl,by decide +kernel,by decide +kernel⟩
theorem ok_afS {f fs C:Addr}{fd fds:FuncData}{B:DB} (hC:Calm CX) (D:DCl K B) (F:Fun K "state_after" "Set.state_after" sAftS f fd) (DS:Def K mg "with_value" sWithVal ["kind", "state", "field", "value"] fs fds) (GS:FnOk P w K mg base CX 2 fs fds ["kind", "state", "field", "value"] (spWvB C)):FnOk P w K mg base CX 3 f fd ["self", "kind", "state"] (spAft B C B.se):=by
 refine Fun.okC F scAS (fun vs H Q E h=>?_) (fun cdv Ar outer s H vs Q E hr h=>?_)
 ·obtain ⟨CK,q,pk,p,a,h,n,w,m,x,y,rfl,_⟩:=h;rfl
 ·obtain ⟨CK,q,pk,p,a,h,n,w,m,x,y,rfl,⟨⟨dx,hp⟩,ho⟩,_,kb,ha,k⟩:=h;have c:=D.all _ (show IsDd B B.se from .inr (.inl rfl));refine ⟨_,zA4 (zAb (zA8 GS hr rfl DS.at_ DS.fn.kp DS.bind .nil (passC hC) (zA0 (pv 1) (zA0 (pv 2) (zA0 (zAe (pv 0) rfl) (zA0 (zAe (pv 0) rfl) zA3)))))),?_⟩;exact ⟨_,rfl,_,rfl,_,rfl,p,B.se,dx,_,_,rfl,hp,c.cl,c.no _ (.tail _ (.tail _ (.tail _ (.tail _ (.tail _ (.tail _ (.tail _ (.head _)))))))),lk2 (by decide +kernel) lk1,_,rfl,p,B.se,dx,_,_,rfl,hp,c.cl,c.no _ (.tail _ (.tail _ (.tail _ (.tail _ (.tail _ (.tail _ (.tail _ (.tail _ (.head _))))))))),lk1,CK,q,pk,a,y,x,rfl,kb,ha,k⟩
end
end L2.W
namespace L2.W
open PySem My
noncomputable def loF (k l t w n d:V):List (Str×V):=putF "last_done" d (putF "wishing" n (putF "wishes" w (putF "things" t (putF "limits" l (putF "kinds" k [])))))
theorem lo_k {k l t w n d:V}:(loF k l t w n d).lookup ("kinds" : Str)=some k:=lk2 (by decide +kernel) (lk2 (by decide +kernel) (lk2 (by decide +kernel) (lk2 (by decide +kernel) (lk2 (by decide +kernel) lk1))))
theorem lo_l {k l t w n d:V}:(loF k l t w n d).lookup ("limits" : Str)=some l:=lk2 (by decide +kernel) (lk2 (by decide +kernel) (lk2 (by decide +kernel) (lk2 (by decide +kernel) lk1)))
theorem lo_t {k l t w n d:V}:(loF k l t w n d).lookup ("things" : Str)=some t:=lk2 (by decide +kernel) (lk2 (by decide +kernel) (lk2 (by decide +kernel) lk1))
theorem lo_n {k l t w n d:V}:(loF k l t w n d).lookup ("wishing" : Str)=some n:=lk2 (by decide +kernel) lk1
theorem lo_d {k l t w n d:V}:(loF k l t w n d).lookup ("last_done" : Str)=some d:=lk1
theorem zCd {k l t w n d:V}{g:Str} (hg:(decide (g = "last_done") || (decide (g = "wishing") || (decide (g = "wishes") || (decide (g = "things") || (decide (g = "limits") || decide (g = "kinds"))))))=false):(loF k l t w n d).lookup g=none:=by
 simp only [Bool.or_eq_false_iff] at hg;exact lk0 hg.1 (lk0 hg.2.1 (lk0 hg.2.2.1 (lk0 hg.2.2.2.1 (lk0 hg.2.2.2.2.1 (lk0 hg.2.2.2.2.2 rfl)))))
noncomputable def nosL:List Str:=["kinds", "limits", "things", "wishes", "wishing", "last_done"]
structure Ab where
 (st:Str) (ma wi:Int) (ls:List (Key×V))
structure LkAt (CLo CK C:Addr) (H:Hp) (lo q pk dt tt ts:Addr) (a:Ab):Prop where
 p:∃ dx dl dd wv,H lo=some (.ins CLo dx (loF (.ref q) (.ref dl) (.ref dt) wv (.int a.wi) (.ref dd)))∧Rd H dl (.dK [(Sum.inr "box",.int 1)])∧Rd H dd (.dK a.ls)
 d:Rd H dt (.dK [(Sum.inr (bx 0),.ref tt)])
 kb:KB CK C H q pk
 t:H tt=some (.tup [.ref ts,.int a.ma])
 s:H ts=some (.tup [.str a.st])
theorem LkAt.same {CLo CK C:Addr}{H H':Hp}{lo q pk dt tt ts:Addr}{a:Ab} (h:LkAt CLo CK C H lo q pk dt tt ts a) (s:Same H H'):LkAt CLo CK C H' lo q pk dt tt ts a:=by
 obtain ⟨⟨dx,dl,dd,wv,e1,e2,e3⟩,d,kb,t,st⟩:=h;exact ⟨⟨dx,dl,dd,wv,s _ _ e1,zBf s e2,zBf s e3⟩,zBf s d,kb.same s,s _ _ t,s _ _ st⟩
theorem rd_ne {H:Hp}{a b:Addr}{x y:List (Key×V)} (h1:Rd H a (.dK x)) (h2:Rd H b (.dK y)) (n:x≠y):a≠b:=by
 rintro rfl;rcases h1 with h1 | ⟨o,h1⟩ <;> rcases h2 with h2 | ⟨o',h2⟩ <;> rw [h1] at h2 <;> cases h2 <;> exact n rfl
theorem KB.frz {CK C:Addr}{H H':Hp}{q pk dt:Addr}{x:V} (h:KB CK C H q pk) (d:Rd H dt (.dK [(Sum.inr (bx 0),x)])) (k:∀ b o,H b=some o→b≠dt→H' b=some o):KB CK C H' q pk:=by
 obtain ⟨⟨dx,dq,e,r⟩,dk,l,t,lv,e1,e2,e3,e4⟩:=h;have nd:dq≠dt:=rd_ne r d fun z=>by
  injection z with z _;injection z with z _;exact absurd (Sum.inr.inj z) (by decide +kernel)
 have ne:∀ {b:Addr}{o:HO},H b=some o→(∀ kvs,o≠.dK kvs)→(∀ x u,o≠.frz x u)→H' b=some o:=fun {b o} e h1 h2=>k b o e fun z=>by
  rw [z] at e;rcases d with r | ⟨x,r⟩
  ·rw [r] at e;cases e;exact h1 _ rfl
  ·rw [r] at e;cases e;exact h2 _ _ rfl
 refine ⟨⟨dx,dq,ne e (fun _ z=>nomatch z) (fun _ _ z=>nomatch z),?_⟩,dk,l,t,lv,ne e1 (fun _ z=>nomatch z) (fun _ _ z=>nomatch z),ne e2 (fun _ z=>nomatch z) (fun _ _ z=>nomatch z),ne e3 (fun _ z=>nomatch z) (fun _ _ z=>nomatch z),ne e4 (fun _ z=>nomatch z) (fun _ _ z=>nomatch z)⟩;rcases r with r | ⟨o,r⟩
 ·exact .inl (k _ _ r nd)
 ·exact .inr ⟨o,k _ _ r nd⟩
theorem bx_ne {i:Nat} (h:i=1∨i=7):bx i≠bx 0:=by rcases h with rfl | rfl <;> decide +kernel
inductive ThV (tt:Addr):V→V→Prop where
 | is:ThV tt (.str (bx 0)) (.ref tt)
 | no {i:Nat} (h:i=1∨i=7):ThV tt (.str (bx i)) .non
 | non:ThV tt .non .non
noncomputable def spTh (CLo CK C:Addr):Sp:=fun vs H Q _=>∃ (lo q pk dt tt ts:Addr) (a:Ab) (v r:V),vs=[.ref lo,v]∧LkAt CLo CK C H lo q pk dt tt ts a∧ThV tt v r∧Q r H
noncomputable def spMo (CLo CK C:Addr):Sp:=fun vs H Q _=>∃ (lo q pk dt tt ts:Addr) (a:Ab) (v r:V),vs=[.ref lo,v]∧LkAt CLo CK C H lo q pk dt tt ts a∧ThV tt v r∧Q (if r=.non then .non else .int a.ma) H
noncomputable def spSo (CLo CK C:Addr):Sp:=fun vs H Q _=>∃ (lo q pk dt tt ts:Addr) (a:Ab),vs=[.ref lo,.str (bx 0)]∧LkAt CLo CK C H lo q pk dt tt ts a∧Q (.ref ts) H
noncomputable def spTn (CLo CK C:Addr):Sp:=fun vs H Q _=>∃ (lo q pk dt tt ts:Addr) (a:Ab),vs=[.ref lo]∧LkAt CLo CK C H lo q pk dt tt ts a∧Q (.int a.wi) H
noncomputable def spLa (CLo CK C:Addr):Sp:=fun vs H Q _=>∃ (lo q pk dt tt ts:Addr) (a:Ab) (h:Str),vs=[.ref lo,.str h]∧LkAt CLo CK C H lo q pk dt tt ts a∧Q ((valV a.ls (Sum.inr h)).getD (.int 0)) H
noncomputable def spNa (CLo CK C:Addr):Sp:=fun vs H Q _=>∃ (lo q pk dt tt ts:Addr) (a:Ab),vs=[.ref lo]∧LkAt CLo CK C H lo q pk dt tt ts a∧∀ l,H l=none→Q (.ref l) (upd H l (.lst [.str (bx 0)]))
noncomputable def spFu (CLo CK C:Addr):Sp:=fun vs H Q _=>∃ (lo q pk dt tt ts:Addr) (a:Ab),vs=[.ref lo,.str "box"]∧LkAt CLo CK C H lo q pk dt tt ts a∧∀ H',(∀ b o,H b=some o→b≠dt→H' b=some o)→Q (.bl true) H'
section
variable {P:Program}{w:World}{K:PySem.W.Frag}{mg:Str→Option Value}{base:Heap}{CX:CXT}
theorem scTh:FnScope ["self", "name"] ["self", "name"] (defScope sLThing):=⟨rfl,rfl,rfl,by decide +kernel,rfl,by decide +kernel,by decide +kernel⟩
theorem ok_th {f CLo CK C:Addr}{fd:FuncData} (T:Tops K mg) (L:DCo K CLo nosL) (F:Fun K "thing" "Look.thing" sLThing f fd):FnOk P w K mg base CX 1 f fd ["self", "name"] (spTh CLo CK C):=by
 refine Fun.okC F scTh (fun vs H Q E h=>?_) (fun cdv Ar outer s H vs Q E hr h=>?_)
 ·obtain ⟨lo,q,pk,dt,tt,ts,a,v,r,rfl,_⟩:=h;rfl
 ·obtain ⟨lo,q,pk,dt,tt,ts,a,v,r,rfl,lk,tv,k⟩:=h;have hu:=zDb hr;refine ⟨_,zA4 (zAb (zBe (zAk (zA9 zAg rfl T.isinst PyProof.Rows.boot_isinstance (zA0 (pv 1) (zA0 (zB2 (v:=.ty "str") rfl T.str PyProof.Rows.boot_str rfl) zA3)))) (zC7 hu (zAe (pv 0) rfl) (pv 1) ⟨rfl,rfl,rfl,rfl⟩) zBp)),?_⟩;obtain ⟨dx,dl,dd,wv,e1,_⟩:=lk.p;cases tv with
  | non=>exact ⟨_,rfl,_,_,_,_,_,rfl,.non,rfl,rfl,_,rfl,iteF k⟩
  | is=>exact ⟨_,rfl,_,_,_,_,_,rfl,.str _,rfl,rfl,_,rfl,iteT ⟨_,rfl,lo,CLo,dx,_,_,rfl,e1,L.cl,L.no _ (.tail _ (.tail _ (.head _))),lo_t,dt,rfl,.inl ⟨_,lk.d⟩,_,rfl,_,.inl ⟨_,_,lk.d,rfl,(zAy rfl).symm⟩,k⟩⟩
  | no h=>exact ⟨_,rfl,_,_,_,_,_,rfl,.str _,rfl,rfl,_,rfl,iteT ⟨_,rfl,lo,CLo,dx,_,_,rfl,e1,L.cl,L.no _ (.tail _ (.tail _ (.head _))),lo_t,dt,rfl,.inl ⟨_,lk.d⟩,_,rfl,none,.inl ⟨_,_,lk.d,rfl,by rw [zB9 (fun z=>bx_ne h (Sum.inr.inj z).symm)];rfl⟩,k⟩⟩
theorem scMo:FnScope ["self", "name", "there"] ["self", "name"] (defScope sLMark):=⟨rfl,rfl,rfl,by decide +kernel,rfl,by decide +kernel,by decide +kernel⟩
theorem scSo:FnScope ["self", "name", "there"] ["self", "name"] (defScope sLState):=⟨rfl,rfl,rfl,by decide +kernel,rfl,by decide +kernel,by decide +kernel⟩
theorem ok_mo {f CLo CK C fT:Addr}{fd fdT:FuncData} (hC:Calm CX) (L:DCo K CLo nosL) (F:Fun K "mark_of" "Look.mark_of" sLMark f fd) (mT:Meth K CLo "thing" fT) (GT:FnOk P w K mg base CX 1 fT fdT ["self", "name"] (spTh CLo CK C)) (bT:Binds K fdT ["self", "name"] []):FnOk P w K mg base CX 2 f fd ["self", "name"] (spMo CLo CK C):=by
 refine Fun.okC F scMo (fun vs H Q E h=>?_) (fun cdv Ar outer s H vs Q E hr h=>?_)
 ·obtain ⟨lo,q,pk,dt,tt,ts,a,v,r,rfl,_⟩:=h;rfl
 ·obtain ⟨lo,q,pk,dt,tt,ts,a,v,r,rfl,lk,tv,k⟩:=h;have nd:=scMo.nd
  refine ⟨_,zA2 (zAd (i:=2) nd rfl (Or.inl rfl) (zAl (pv 0) L.cl mT GT hr bT .nil (passC hC) (zA0 (pv 1) zA3)))
     (zA4 (zAb (zBe (zB8 (zBx (pv 2))) zBp (zAu zAq (pv 2) zA7 (fun _ _=>rfl))))),?_⟩
  obtain ⟨dx,dl,dd,wv,e1,_⟩:=id lk.p;refine ⟨_,rfl,lo,dx,_,rfl,e1,zCd (by decide +kernel),_,rfl,lo,q,pk,dt,tt,ts,a,v,r,rfl,lk,tv,?_⟩;cases tv with
  | non=>exact ⟨_,rfl,_,rfl,iteT k⟩
  | no h=>exact ⟨_,rfl,_,rfl,iteT k⟩
  | is=>exact ⟨_,rfl,_,rfl,iteF ⟨_,rfl,tt,_,1,_,rfl,rfl,SqT.of lk.t,rfl,k⟩⟩
theorem ok_so {f CLo CK C fT:Addr}{fd fdT:FuncData} (hC:Calm CX) (L:DCo K CLo nosL) (F:Fun K "state_of" "Look.state_of" sLState f fd) (mT:Meth K CLo "thing" fT) (GT:FnOk P w K mg base CX 1 fT fdT ["self", "name"] (spTh CLo CK C)) (bT:Binds K fdT ["self", "name"] []):FnOk P w K mg base CX 2 f fd ["self", "name"] (spSo CLo CK C):=by
 refine Fun.okC F scSo (fun vs H Q E h=>?_) (fun cdv Ar outer s H vs Q E hr h=>?_)
 ·obtain ⟨lo,q,pk,dt,tt,ts,a,rfl,_⟩:=h;rfl
 ·obtain ⟨lo,q,pk,dt,tt,ts,a,rfl,lk,k⟩:=h;have nd:=scSo.nd
  refine ⟨_,zA2 (zAd (i:=2) nd rfl (Or.inl rfl) (zAl (pv 0) L.cl mT GT hr bT .nil (passC hC) (zA0 (pv 1) zA3)))
     (zA4 (zAb (zBe (zB8 (zBx (pv 2))) zBp (zAu zAq (pv 2) zA7 (fun _ _=>rfl))))),?_⟩
  obtain ⟨dx,dl,dd,wv,e1,_⟩:=id lk.p;exact ⟨_,rfl,lo,dx,_,rfl,e1,zCd (by decide +kernel),_,rfl,lo,q,pk,dt,tt,ts,a,_,_,rfl,lk,.is,_,rfl,_,rfl,iteF ⟨_,rfl,tt,_,0,_,rfl,rfl,SqT.of lk.t,rfl,k⟩⟩
theorem scTn:FnScope ["self"] ["self"] (defScope sLTurn):=⟨rfl,rfl,rfl,by decide +kernel,rfl,by decide +kernel,by decide +kernel⟩
theorem ok_tn {f CLo CK C:Addr}{fd:FuncData} (L:DCo K CLo nosL) (F:Fun K "turn" "Look.turn" sLTurn f fd):FnOk P w K mg base CX 1 f fd ["self"] (spTn CLo CK C):=by
 refine Fun.okC F scTn (fun vs H Q E h=>?_) (fun cdv Ar outer s H vs Q E hr h=>?_)
 ·obtain ⟨lo,q,pk,dt,tt,ts,a,rfl,_⟩:=h;rfl
 ·obtain ⟨lo,q,pk,dt,tt,ts,a,rfl,lk,k⟩:=h;refine ⟨_,zA4 (zAb (zAe (pv 0) rfl)),?_⟩;obtain ⟨dx,dl,dd,wv,e1,_⟩:=id lk.p;exact ⟨_,rfl,lo,CLo,dx,_,_,rfl,e1,L.cl,L.no _ (.tail _ (.tail _ (.tail _ (.tail _ (.head _))))),lo_n,k⟩
theorem scLa:FnScope ["self", "hand"] ["self", "hand"] (defScope sLLast):=⟨rfl,rfl,rfl,by decide +kernel,rfl,by decide +kernel,by decide +kernel⟩
theorem ok_la {f CLo CK C:Addr}{fd:FuncData} (T:Tops K mg) (L:DCo K CLo nosL) (F:Fun K "last" "Look.last" sLLast f fd):FnOk P w K mg base CX 1 f fd ["self", "hand"] (spLa CLo CK C):=by
 refine Fun.okC F scLa (fun vs H Q E h=>?_) (fun cdv Ar outer s H vs Q E hr h=>?_)
 ·obtain ⟨lo,q,pk,dt,tt,ts,a,h,rfl,_⟩:=h;rfl
 ·obtain ⟨lo,q,pk,dt,tt,ts,a,h,rfl,lk,k⟩:=h;have hu:=zDb hr;refine ⟨_,zA4 (zAb (zBe (zAk (zA9 zAg rfl T.isinst PyProof.Rows.boot_isinstance (zA0 (pv 1) (zA0 (zB2 (v:=.ty "str") rfl T.str PyProof.Rows.boot_str rfl) zA3)))) (zF3 hu (zAe (pv 0) rfl) (pv 1) zA7 ⟨rfl,rfl,rfl,rfl⟩) zA7)),?_⟩;obtain ⟨dx,dl,dd,wv,e1,_,e3⟩:=id lk.p;exact ⟨_,rfl,_,_,_,_,_,rfl,.str _,rfl,rfl,_,rfl,iteT ⟨_,rfl,lo,CLo,dx,_,_,rfl,e1,L.cl,L.no _ (.tail _ (.tail _ (.tail _ (.tail _ (.tail _ (.head _)))))),lo_d,dd,rfl,.inl ⟨_,e3⟩,_,rfl,_,.inl ⟨_,_,e3,rfl,rfl⟩,k⟩⟩
theorem scNa:FnScope ["self"] ["self"] (defScope sLNames):=⟨rfl,rfl,rfl,by decide +kernel,rfl,by decide +kernel,by decide +kernel⟩
theorem ok_na {f CLo CK C:Addr}{fd:FuncData} (T:Tops K mg) (L:DCo K CLo nosL) (F:Fun K "names" "Look.names" sLNames f fd):FnOk P w K mg base CX 1 f fd ["self"] (spNa CLo CK C):=by
 refine Fun.okC F scNa (fun vs H Q E h=>?_) (fun cdv Ar outer s H vs Q E hr h=>?_)
 ·obtain ⟨lo,q,pk,dt,tt,ts,a,rfl,_⟩:=h;rfl
 ·obtain ⟨lo,q,pk,dt,tt,ts,a,rfl,lk,k⟩:=h;refine ⟨_,zA4 (zAb (zA9 zDs rfl T.sorted PyProof.Rows.boot_sorted (zA0 (zAe (pv 0) rfl) zA3))),?_⟩;obtain ⟨dx,dl,dd,wv,e1,_,e3⟩:=id lk.p;refine ⟨_,rfl,lo,CLo,dx,_,_,rfl,e1,L.cl,L.no _ (.tail _ (.tail _ (.head _))),lo_t,dt,_,[bx 0],rfl,lk.d,rfl,by show 1 < 64;decide,rfl,fun p ks' hp pm _=>?_⟩;have:ks'=[bx 0]:=List.perm_singleton.mp pm;rw [this];exact k p hp
theorem scFu:FnScope ["self", "kind", "limit"] ["self", "kind"] (defScope sLFull):=⟨rfl,rfl,rfl,by decide +kernel,rfl,by decide +kernel,by decide +kernel⟩
theorem ok_fu {f CLo CK C fI fp fOf fIk fOr fOw:Addr}{fd fdp fdf:FuncData} (hC:Calm CX) (T:Tops K mg) (L:DCo K CLo nosL) (KC:KCls K mg C fI) (KS:KsCls K mg CK fIk fOr fOf fOw) (F:Fun K "is_full" "Look.is_full" sLFull f fd) (DP:Def K mg "parts_of" sPartsOf ["kinds", "name"] fp fdp) (GP:FnOk P w K mg base CX 3 fp fdp ["kinds", "name"] (spPtB CK C)) (GO:FnOk P w K mg base CX 2 fOf fdf ["self", "name"] (spOfB CK C)) (bO:Binds K fdf ["self", "name"] []):FnOk P w K mg base CX 4 f fd ["self", "kind"] (spFu CLo CK C):=by
 refine Fun.okC F scFu (fun vs H Q E h=>?_) (fun cdv Ar outer s H vs Q E hr h=>?_)
 ·obtain ⟨lo,q,pk,dt,tt,ts,a,rfl,_⟩:=h;rfl
 ·obtain ⟨lo,q,pk,dt,tt,ts,a,rfl,lk,k⟩:=h;have nd:=scFu.nd;have hu:=zDb hr;have hr2:=hr.mono (show 2≤3 by decide)
  refine ⟨_,zA2 (zAd (i:=2) nd rfl (Or.inl rfl) (zC7 hu (zAe (pv 0) rfl) (zAe (zAl (zAe (pv 0) rfl) KS.cl KS.mOf GO hr2 bO .nil (passC hC) (zA0 (pv 1) zA3)) rfl) ⟨rfl,rfl,rfl,rfl⟩))
     (zA2 (zAj (zB8 (zBx (pv 2)))
     (zA4 (zAb zBq)) zAa)
     (zA4 (zAb (zBk op_ge (zA9 zAv rfl T.len PySem.boot_len (zA0 (zAr (T:=["name"]) rfl ScOk.auto (zDv (zAe (pv 0) rfl)) (fun _ _ _ _=>zAf (i:=3) (by decide +kernel:(["self", "kind", "limit", "name"]:List Str).Nodup) rfl (Or.inl rfl)) (fun _ _ _ _=>zDx (zAh zCt (zAu (r:=rIxT K) zAq (zA8 GP hr rfl DP.at_ DP.fn.kp DP.bind .nil (passC hC) (zA0 (zBy (K:=K) rfl (pv 0) rfl) (zA0 (pv 3) zA3))) zA7 (fun _ _=>rfl)) (pv 1) (nomark _))) (fun _ _ _ _=>(pv 3))) zA3)) (pv 2) (nomark _))))),?_⟩
  obtain ⟨dx,dl,dd,wv,e1,e2,e3⟩:=id lk.p;obtain ⟨dxq,dq,eq,_⟩:=lk.kb.at_;refine ⟨_,rfl,lo,CLo,dx,_,_,rfl,e1,L.cl,L.no _ (.tail _ (.head _)),lo_l,dl,rfl,.inl ⟨_,e2⟩,_,rfl,lo,CLo,dx,_,_,rfl,e1,L.cl,L.no _ (.head _),lo_k,q,dxq,_,rfl,eq,zCp _ (by decide +kernel),_,rfl,q,pk,rfl,lk.kb,fun H1 s1=>?_⟩;obtain ⟨dk,l,t,lv,k1,_⟩:=(lk.kb.same s1).k;have e2':=zBf s1 e2;refine ⟨pk,C,dk,_,_,rfl,k1,KC.cl,KC.nN,zCv _ _ _,some (.int 1),.inl ⟨_,Sum.inr "box",e2',rfl,(show valV [((Sum.inr "box" : Key),V.int 1)] (Sum.inr "box")=some (V.int 1) from zAy rfl).symm⟩,_,rfl,_,rfl,iteF ?_⟩;have lk1:=lk.same s1;obtain ⟨dx',dl',dd',wv',e1',_⟩:=id lk1.p;have ne:lo≠dt:=fun z=>by
   rw [z] at e1';rcases lk1.d with r | ⟨x,r⟩ <;> rw [r] at e1' <;> cases e1'
  refine ⟨_,rfl,lo,CLo,dx',_,_,rfl,e1',L.cl,L.no _ (.tail _ (.tail _ (.head _))),lo_t,dt,_,rfl,lk1.d,fun o=>zEe (fun i ys H'=>(∀ b o',H1 b=some o'→b≠dt→H' b=some o')∧H' dt=some (.frz o (.dK [(Sum.inr (bx 0),.ref tt)]))∧ys=List.replicate i (V.str (bx 0))) ⟨fun b o' e n=>by rw [zA6 n];exact e,zA1,rfl⟩ (fun i ys H' z=>z.2.1) (fun i ys H' hi z=>by rw [z.2.2,Zi];exact Zd (small1000 (Za hi (by show 1≤1000;decide)))) ?_ ?_⟩
  ·rintro i k' x ys H' hi ⟨kp,fz,rfl⟩ N hN;have il:=(List.getElem?_eq_some_iff.mp hi).1;have i0:i=0:=by simpa using il
   subst i0;cases hi;refine ⟨_,rfl,lo,CLo,dx',_,_,rfl,kp _ _ e1' ne,L.cl,L.no _ (.head _),lo_k,_,rfl,q,pk,0,rfl,lk1.kb.frz lk1.d kp,by decide,fun t3 H3 h3 s3=>⟨t3,_,0,_,rfl,rfl,SqT.of h3,rfl,_,rfl,rfl,_,rfl,iteT ⟨_,rfl,hN _ _ ⟨fun b o' e n=>s3 _ _ (kp _ _ e n),s3 _ _ fz,rfl⟩⟩⟩⟩
  ·rintro ys H' ⟨kp,fz,rfl⟩ c hc;exact ⟨c,_,rfl,.inl (SqL.of zA1),_,rfl,_,_,rfl,rfl,k _ fun b o e n=>(Same.new hc) _ _ (kp _ _ (s1 _ _ e) n)⟩
end
end L2.W
namespace L2.W
open PySem My
noncomputable def spLi (CLo:Addr):Sp:=fun vs H Q _=>∃ (p dx q dl dt dd:Addr) (wv:V) (n:Int) (kl kt kd:List (Key×V)),vs=[.ref p,.ref q,.ref dl,.ref dt,wv,.int n,.ref dd]∧H p=some (.ins CLo dx [])∧Rd H dl (.dK kl)∧Rd H dt (.dK kt)∧Rd H dd (.dK kd) ∧
 ∀ H' dl' dt' dd',H' p=some (.ins CLo dx (loF (.ref q) (.ref dl') (.ref dt') wv (.int n) (.ref dd')))→H' dl'=some (.dK kl)→H' dt'=some (.dK kt)→H' dd'=some (.dK kd)→H dt'=none→But p H H'→Q .non H'
structure DKi (K:PySem.W.Frag) (mg:Str→Option Value) (B:DB):Prop where
 ki:∀ C,IsDd B C→KIsi K C
 sm:PySem.W.kitOne K (.ref B.se) (.ref B.ma)=some false
 de:∀ C,IsDd B C→PySem.W.kitOne K (.ref C) (.ref B.de)=some true
 gma:mg "Make" = some (.ref B.ma)
 gde:mg "Deed" = some (.ref B.de)
noncomputable def lateB (a:Ab):Dd→Bool
 | .mk _=>false
 | .se m _=>!decide (m=a.ma)
 | .tk _=>true
noncomputable def spLate (B:DB) (CLo CK C:Addr):Sp:=fun vs H Q _=>∃ (lo q pk dt tt ts p:Addr) (a:Ab) (e:De),vs=[.ref q,.ref lo,.ref p]∧LkAt CLo CK C H lo q pk dt tt ts a∧DdAt B H p e∧∀ H',Same H H'→Q (.bl (lateB a e.d)) H'
noncomputable def dnS:Dd→Str
 | .mk _=>"full"
 | _=>"done"
noncomputable def wordW (a:Ab) (e:De) (last:Int):Str:=if e.n≤last then "old" else if e.w≠a.wi then "wish" else if lateB a e.d=true then "late" else dnS e.d
noncomputable def spWd (B:DB) (CLo CK C:Addr):Sp:=fun vs H Q _=>∃ (lo q pk dt tt ts p:Addr) (a:Ab) (e:De) (last:Int),vs=[.ref q,.ref lo,.ref p]∧LkAt CLo CK C H lo q pk dt tt ts a∧DdAt B H p e∧(valV a.ls (Sum.inr e.h)).getD (.int 0)=.int last∧∀ H',(∀ b o,H b=some o→b≠dt→H' b=some o)→(wordW a e last = "done"→H' dt=H dt)→Q (.str (wordW a e last)) H'
structure LkM (P:Program) (w:World) (K:PySem.W.Frag) (mg:Str→Option Value) (base:Heap) (CX:CXT) (CLo CK C fMo fSo fTn fLa fFu:Addr) (dMo dSo dTn dLa dFu:FuncData):Prop where
 L:DCo K CLo nosL
 mMo:Meth K CLo "mark_of" fMo
 GMo:FnOk P w K mg base CX 2 fMo dMo ["self", "name"] (spMo CLo CK C)
 bMo:Binds K dMo ["self", "name"] []
 mTn:Meth K CLo "turn" fTn
 GTn:FnOk P w K mg base CX 1 fTn dTn ["self"] (spTn CLo CK C)
 bTn:Binds K dTn ["self"] []
 mLa:Meth K CLo "last" fLa
 GLa:FnOk P w K mg base CX 1 fLa dLa ["self", "hand"] (spLa CLo CK C)
 bLa:Binds K dLa ["self", "hand"] []
 mFu:Meth K CLo "is_full" fFu
 GFu:FnOk P w K mg base CX 4 fFu dFu ["self", "kind"] (spFu CLo CK C)
 bFu:Binds K dFu ["self", "kind"] []
section
variable {P:Program}{w:World}{K:PySem.W.Frag}{mg:Str→Option Value}{base:Heap}{CX:CXT}
theorem scLi:FnScope ["self", "kinds", "limits", "things", "wishes", "wishing", "last_done"] ["self", "kinds", "limits", "things", "wishes", "wishing", "last_done"] (defScope sInitL):=⟨rfl,rfl,rfl,by decide +kernel,rfl,by decide +kernel,by decide +kernel⟩
theorem ok_li {f CLo:Addr}{fd:FuncData} (T:Tops K mg) (L:DCo K CLo nosL) (F:Fun K "__init__" "Look.__init__" sInitL f fd):FnOk P w K mg base CX 1 f fd ["self", "kinds", "limits", "things", "wishes", "wishing", "last_done"] (spLi CLo):=by
 refine Fun.okC F scLi (fun vs H Q E h=>?_) (fun cdv Ar outer s H vs Q E hr h=>?_)
 ·obtain ⟨p,dx,q,dl,dt,dd,wv,n,kl,kt,kd,rfl,_⟩:=h;rfl
 ·obtain ⟨p,dx,q,dl,dt,dd,wv,n,kl,kt,kd,rfl,hp,rl,rt,rd,k⟩:=h;have nd:=scLi.nd
  refine ⟨_,zA2 (zAp (pv 0) (pv 1) rfl)
     (zA2 (zAp (pv 0) (zB1 zBn rfl T.dict PyProof.Rows.boot_dict (zA0 (pv 2) zA3)) rfl)
     (zA2 (zAp (pv 0) (zB1 zBn rfl T.dict PyProof.Rows.boot_dict (zA0 (pv 3) zA3)) rfl)
     (zA2 (zAp (pv 0) (pv 4) rfl)
     (zA2 (zAp (pv 0) (pv 5) rfl)
     (zA4 (zAp (pv 0) (zB1 zBn rfl T.dict PyProof.Rows.boot_dict (zA0 (pv 6) zA3)) rfl)))))),?_⟩
  have rdp:∀ {d:Addr}{kvs:List (Key×V)}{H1:Hp},Rd H d (.dK kvs)→But p H H1→Rd H1 d (.dK kvs):=fun {d kvs H1} r b=>by
   have nd:d≠p:=fun z=>by rw [z] at r;rcases r with r | ⟨o,r⟩ <;> rw [hp] at r <;> cases r
   rcases r with r | ⟨o,r⟩
   ·exact .inl (b _ _ r nd)
   ·exact .inr ⟨o,b _ _ r nd⟩
  refine ⟨_,rfl,_,rfl,p,CLo,dx,[],rfl,hp,L.cl,L.no _ (.head _),(by show 0 < 1000;decide),?_⟩;have b1:But p H (upd H p (.ins CLo dx (putF "kinds" (.ref q) []))):=fun b o e n=>by rw [zA6 n];exact e
  have e1:(upd H p (.ins CLo dx (putF "kinds" (.ref q) []))) p=some (.ins CLo dx (putF "kinds" (.ref q) [])):=zA1;generalize upd H p (.ins CLo dx (putF "kinds" (.ref q) []))=H1 at b1 e1 ⊢;refine ⟨_,rfl,dl,kl,rfl,rdp rl b1,fun dl' f1=>⟨_,rfl,p,CLo,dx,_,rfl,(Same.new f1) _ _ e1,L.cl,L.no _ (.tail _ (.head _)),(by show 1 < 1000;decide),?_⟩⟩;have n1:dl'≠p:=Ne.symm (zA5 e1 f1);have b2:But p H (upd (upd H1 dl' (.dK kl)) p (.ins CLo dx (putF "limits" (.ref dl') (putF "kinds" (.ref q) [])))):=fun b o e n=>by rw [zA6 n];exact (Same.new f1) _ _ (b1 _ _ e n)
  have e2:(upd (upd H1 dl' (.dK kl)) p (.ins CLo dx (putF "limits" (.ref dl') (putF "kinds" (.ref q) [])))) p=some (.ins CLo dx (putF "limits" (.ref dl') (putF "kinds" (.ref q) []))):=zA1;have g1:(upd (upd H1 dl' (.dK kl)) p (.ins CLo dx (putF "limits" (.ref dl') (putF "kinds" (.ref q) [])))) dl'=some (.dK kl):=by rw [zA6 n1];exact zA1
  generalize upd (upd H1 dl' (.dK kl)) p (.ins CLo dx (putF "limits" (.ref dl') (putF "kinds" (.ref q) [])))=H2 at b2 e2 g1 ⊢;refine ⟨_,rfl,dt,kt,rfl,rdp rt b2,fun dt' f2=>⟨_,rfl,p,CLo,dx,_,rfl,(Same.new f2) _ _ e2,L.cl,L.no _ (.tail _ (.tail _ (.head _))),(by show 2 < 1000;decide),_,rfl,_,rfl,p,CLo,dx,_,rfl,zA1,L.cl,L.no _ (.tail _ (.tail _ (.tail _ (.head _)))),(by show 3 < 1000;decide),_,rfl,_,rfl,p,CLo,dx,_,rfl,zA1,L.cl,L.no _ (.tail _ (.tail _ (.tail _ (.tail _ (.head _))))),(by show 4 < 1000;decide),?_⟩⟩;rw [zCr,zCr];have n2:dt'≠p:=Ne.symm (zA5 e2 f2);have m2:dl'≠dt':=zA5 g1 f2;have fr2:H dt'=none:=by
   cases z:H dt' with
   | none=>rfl
   | some o=>exact absurd rfl (zA5 (b2 _ _ z n2) f2)
  let fs3:=putF "wishing" (.int n) (putF "wishes" wv (putF "things" (.ref dt') (putF "limits" (.ref dl') (putF "kinds" (.ref q) []))))
  have b3:But p H (upd (upd H2 dt' (.dK kt)) p (.ins CLo dx fs3)):=fun b o e n=>by rw [zA6 n];exact (Same.new f2) _ _ (b2 _ _ e n)
  have e3:(upd (upd H2 dt' (.dK kt)) p (.ins CLo dx fs3)) p=some (.ins CLo dx fs3):=zA1;have g2:(upd (upd H2 dt' (.dK kt)) p (.ins CLo dx fs3)) dt'=some (.dK kt):=by rw [zA6 n2];exact zA1
  have g1':(upd (upd H2 dt' (.dK kt)) p (.ins CLo dx fs3)) dl'=some (.dK kl):=by rw [zA6 n1];exact (Same.new f2) _ _ g1
  generalize upd (upd H2 dt' (.dK kt)) p (.ins CLo dx fs3)=H3 at b3 e3 g2 g1' ⊢;refine ⟨_,rfl,dd,kd,rfl,rdp rd b3,fun dd' f3=>⟨_,rfl,p,CLo,dx,_,rfl,(Same.new f3) _ _ e3,L.cl,L.no _ (.tail _ (.tail _ (.tail _ (.tail _ (.tail _ (.head _)))))),(by show 5 < 1000;decide),?_⟩⟩;have n3:dd'≠p:=Ne.symm (zA5 e3 f3);refine k _ dl' dt' dd' zA1 ?_ ?_ ?_ fr2 fun b o e n=>?_
  ·rw [zA6 n1];exact (Same.new f3) _ _ g1'
  ·rw [zA6 n2];exact (Same.new f3) _ _ g2
  ·rw [zA6 n3];exact zA1
  ·rw [zA6 n];exact (Same.new f3) _ _ (b3 _ _ e n)
theorem scLt:FnScope ["kinds", "seen", "deed", "parts"] ["kinds", "seen", "deed"] (defScope sIsLate):=⟨rfl,rfl,rfl,by decide +kernel,rfl,by decide +kernel,by decide +kernel⟩
theorem Dd.bi (d:Dd):Bi d.i:=by
 cases d with
 | mk _=>exact .inr (.inl rfl)
 | se _ _=>exact .inl rfl
 | tk _=>exact .inr (.inr rfl)
theorem ok_late {f CLo CK C CNo fMo fSo fTn fLa fFu fp fOf fIk fOr fOw:Addr}{fd dMo dSo dTn dLa dFu fdp fdf:FuncData}{B:DB} (hC:Calm CX) (D:DCl K B) (M:LkM P w K mg base CX CLo CK C fMo fSo fTn fLa fFu dMo dSo dTn dLa dFu) (KS:KsCls K mg CK fIk fOr fOf fOw) (hno:mg "NoName" = some (.ref CNo)) (F:Fun K "is_late" "is_late" sIsLate f fd) (DP:Def K mg "parts_of" sPartsOf ["kinds", "name"] fp fdp) (GP:FnOk P w K mg base CX 3 fp fdp ["kinds", "name"] (spPtB CK C)) (GO:FnOk P w K mg base CX 2 fOf fdf ["self", "name"] (spOfB CK C)) (bO:Binds K fdf ["self", "name"] [])
  (GSe:∀ X,IsDd B X→Disp P w K mg base CX 1 "seen_mark" ["self"] (spSeen B X) X) (GSu:∀ X,IsDd B X→Disp P w K mg base CX 4 "suits_kind" ["self", "kind"] (spSuit B C X) X):FnOk P w K mg base CX 5 f fd ["kinds", "seen", "deed"] (spLate B CLo CK C):=by
 refine Fun.okC F scLt (fun vs H Q E h=>?_) (fun cdv Ar outer s H vs Q E hr h=>?_)
 ·obtain ⟨lo,q,pk,dt,tt,ts,p,a,e,rfl,_⟩:=h;rfl
 ·obtain ⟨lo,q,pk,dt,tt,ts,p,a,e,rfl,lk,de,k⟩:=h;have nd:=scLt.nd;have hr1:=hr.mono (show 1≤4 by decide);have hr2:=hr.mono (show 2≤4 by decide);have hr3:=hr.mono (show 3≤4 by decide);have L:=M.L
  refine ⟨_,zA2 (ps_tryN (B:=CNo) rfl rfl rfl rfl hno (fun pins W=>zA4 (zAd (i:=3) nd rfl (Or.inl rfl) (zA8 GP hr3 rfl DP.at_ DP.fn.kp DP.bind .nil (passC hC) (zA0 (pv 0) (zA0 (zBy (K:=K) rfl (pv 2) rfl) zA3))))) (fun e=>zA4 (zAb zBq)))
     (zA2 (zAj (PW.pt (zCc (zAh zE2 (zAl (pv 1) L.cl M.mMo M.GMo hr2 M.bMo .nil (passC hC) (zA0 (zAe (pv 2) rfl) zA3)) (zDz (D:=(IsDd B)) (pv 2) GSe hr1 (passC hC)) (nomark _)) (zBo (zAh zE2 (zAl (pv 1) L.cl M.mMo M.GMo hr2 M.bMo .nil (passC hC) (zA0 (zAu zAq (pv 3) zA7 (fun _ _=>rfl)) zA3)) (zAe (pv 2) rfl) (nomark _)))))
     (zA4 (zAb zBq)) zAa)
     (zA4 (zAb (pe_not (zF0 (D:=(IsDd B)) (pv 2) GSu hr (passC hC) (zA0 (zAl (pv 0) KS.cl KS.mOf GO hr2 bO .nil (passC hC) (zA0 (zAu zAq (pv 3) zA7 (fun _ _=>rfl)) zA3)) zA3)))))),?_⟩
  have c:=D.all _ (zCk B e.d);obtain ⟨dx,hp⟩:=id de.p;refine ⟨fun _ _ _ _=>False,?_,fun σ' e C H' _ h=>h.elim⟩;refine ⟨_,rfl,_,rfl,p,B.cls e.d,dx,_,_,rfl,hp,c.cl,c.no _ (.tail _ (.tail _ (.tail _ (.head _)))),zE9 (by decide +kernel) dF_x,q,pk,e.d.i,rfl,lk.kb,e.d.bi.le,fun t H1 h1 s1=>?_⟩;have lk1:=lk.same s1;have de1:=de.same s1;have hp1:=s1 _ _ hp;obtain ⟨dxl,dl,dd,wv,el,_⟩:=id lk1.p;obtain ⟨dxq,dq,eq,_⟩:=lk1.kb.at_;have nm:e.fs.lookup ("name" : Str)=some (.str (bx e.d.i)):=zE9 (by decide +kernel) dF_x;refine ⟨_,rfl,lo,dxl,_,rfl,el,zCd (by decide +kernel),_,rfl,p,B.cls e.d,dx,_,_,rfl,hp1,c.cl,c.no _ (.tail _ (.tail _ (.tail _ (.head _)))),nm,?_⟩;have k0:=fun H' s'=>k H' (s1.trans s');obtain ⟨eh,en,ew,ed⟩:=e;cases ed with
  | tk m =>
   refine ⟨lo,q,pk,dt,tt,ts,a,_,.non,rfl,lk1,.no (.inr rfl),_,rfl,p,_,dx,_,rfl,hp1,zCk B _,fs_no (by decide +kernel) (by decide +kernel),p,_,rfl,de1,rfl,rfl,_,rfl,iteT ?_⟩;exact k0 _ (Same.refl _)
  | mk st =>
   refine ⟨lo,q,pk,dt,tt,ts,a,_,.non,rfl,lk1,.no (.inl rfl),_,rfl,p,_,dx,_,rfl,hp1,zCk B _,fs_no (by decide +kernel) (by decide +kernel),p,_,rfl,de1,rfl,rfl,_,rfl,iteF ?_⟩;refine ⟨_,rfl,lo,dxl,_,rfl,el,zCd (by decide +kernel),_,rfl,t,_,1,_,rfl,rfl,SqT.of h1,rfl,lo,q,pk,dt,tt,ts,a,_,.non,rfl,lk1,.non,_,rfl,p,_,dx,_,_,rfl,hp1,c.cl,c.no _ (.tail _ (.tail _ (.tail _ (.tail _ (.head _))))),fs_own,rfl,_,rfl,iteF ?_⟩;refine ⟨_,rfl,p,_,dx,_,rfl,hp1,zCk B _,fs_no (by decide +kernel) (by decide +kernel),_,rfl,q,dxq,_,rfl,eq,zCp _ (by decide +kernel),_,rfl,t,_,0,_,rfl,rfl,SqT.of h1,rfl,q,pk,rfl,lk1.kb,fun H2 s2=>?_⟩;exact ⟨CK,q,pk,p,_,rfl,de1.same s2,rfl,trivial,lk1.kb.same s2,fun H3 s3=>⟨_,rfl,k0 _ (s2.trans s3)⟩⟩
  | se m x =>
   refine ⟨lo,q,pk,dt,tt,ts,a,_,.ref tt,rfl,lk1,.is,_,rfl,p,_,dx,_,rfl,hp1,zCk B _,fs_no (by decide +kernel) (by decide +kernel),p,_,rfl,de1,rfl,rfl,_,rfl,?_⟩;by_cases z:m=a.ma
   ·have e0:lateB a (.se m x)=false:=by show (!decide (m=a.ma))=false;rw [decide_eq_true z];rfl
    rw [e0] at k0;rw [show decide ((if V.ref tt=V.non then V.non else V.int a.ma)=Dd.seen (.se m x))=true by rw [if_neg (fun z=>nomatch z),z];exact decide_eq_true rfl];refine iteF ⟨_,rfl,lo,dxl,_,rfl,el,zCd (by decide +kernel),_,rfl,t,_,1,_,rfl,rfl,SqT.of h1,rfl,lo,q,pk,dt,tt,ts,a,_,.non,rfl,lk1,.non,_,rfl,p,_,dx,_,_,rfl,hp1,c.cl,c.no _ (.tail _ (.tail _ (.tail _ (.tail _ (.head _))))),fs_own,rfl,_,rfl,iteF ?_⟩;refine ⟨_,rfl,p,_,dx,_,rfl,hp1,zCk B _,fs_no (by decide +kernel) (by decide +kernel),_,rfl,q,dxq,_,rfl,eq,zCp _ (by decide +kernel),_,rfl,t,_,0,_,rfl,rfl,SqT.of h1,rfl,q,pk,rfl,lk1.kb,fun H2 s2=>?_⟩;exact ⟨CK,q,pk,p,_,rfl,de1.same s2,rfl,trivial,lk1.kb.same s2,fun H3 s3=>⟨_,rfl,k0 _ (s2.trans s3)⟩⟩
   ·have e0:lateB a (.se m x)=true:=by show (!decide (m=a.ma))=true;rw [decide_eq_false z];rfl
    rw [e0] at k0;rw [show decide ((if V.ref tt=V.non then V.non else V.int a.ma)=Dd.seen (.se m x))=false by rw [if_neg (fun z=>nomatch z)];exact decide_eq_false fun y=>z (V.int.inj y).symm];exact iteT (k0 _ (Same.refl _))
end
end L2.W
namespace L2.W
open PySem My
section
variable {P:Program}{w:World}{K:PySem.W.Frag}{mg:Str→Option Value}{base:Heap}{CX:CXT}
theorem scWd:FnScope ["kinds", "seen", "deed"] ["kinds", "seen", "deed"] (defScope sWordFor):=⟨rfl,rfl,rfl,by decide +kernel,rfl,by decide +kernel,by decide +kernel⟩
theorem ok_wd {f CLo CK C fMo fSo fTn fLa fFu fp fL:Addr}{fd dMo dSo dTn dLa dFu fdp fdL:FuncData}{B:DB} (hC:Calm CX) (T:Tops K mg) (D:DCl K B) (G:DKi K mg B) (M:LkM P w K mg base CX CLo CK C fMo fSo fTn fLa fFu dMo dSo dTn dLa dFu) (F:Fun K "word_for" "word_for" sWordFor f fd) (DP:Def K mg "parts_of" sPartsOf ["kinds", "name"] fp fdp) (GP:FnOk P w K mg base CX 3 fp fdp ["kinds", "name"] (spPtB CK C)) (DL:Def K mg "is_late" sIsLate ["kinds", "seen", "deed"] fL fdL) (GL:FnOk P w K mg base CX 5 fL fdL ["kinds", "seen", "deed"] (spLate B CLo CK C)):FnOk P w K mg base CX 6 f fd ["kinds", "seen", "deed"] (spWd B CLo CK C):=by
 refine Fun.okC F scWd (fun vs H Q E h=>?_) (fun cdv Ar outer s H vs Q E hr h=>?_)
 ·obtain ⟨lo,q,pk,dt,tt,ts,p,a,e,last,rfl,_⟩:=h;rfl
 ·obtain ⟨lo,q,pk,dt,tt,ts,p,a,e,last,rfl,lk,de,hl,k⟩:=h;have nd:=scWd.nd;have hr1:=hr.mono (show 1≤5 by decide);have hr3:=hr.mono (show 3≤5 by decide);have hr4:=hr.mono (show 4≤5 by decide);have L:=M.L
  refine ⟨_,zA2 (zAj (zAh zEi (zAe (pv 2) rfl) (zAl (pv 1) L.cl M.mLa M.GLa hr1 M.bLa .nil (passC hC) (zA0 (zAe (pv 2) rfl) zA3)) (nomark _))
     (zA4 (zAb zAi)) zAa)
     (zA2 (zAj (zAh zE2 (zAe (pv 2) rfl) (zBd (pv 1) L.cl M.mTn M.GTn hr1 M.bTn .nil (passC hC)) (nomark _))
     (zA4 (zAb zAi)) zAa)
     (zA2 (zAj (zAk (zA8 GL hr rfl DL.at_ DL.fn.kp DL.bind .nil (passC hC) (zA0 (pv 0) (zA0 (pv 1) (zA0 (pv 2) zA3)))))
     (zA4 (zAb zAi)) zAa)
     (zA2 (zAj (PW.pt (zCz (zAk (zA9 zAg rfl T.isinst PyProof.Rows.boot_isinstance (zA0 (pv 2) (zA0 (zBc (v:=.ref B.ma) rfl G.gma rfl) zA3)))) (zC4 (zAk (zAl (pv 1) L.cl M.mFu M.GFu hr4 M.bFu .nil (passC hC) (zA0 (zAu zAq (zA8 GP hr3 rfl DP.at_ DP.fn.kp DP.bind .nil (passC hC) (zA0 (pv 0) (zA0 (zAe (pv 2) rfl) zA3))) zA7 (fun _ _=>rfl)) zA3))))))
     (zA4 (zAb zAi)) zAa)
     (zA4 (zAb zAi))))),?_⟩
  have c:=D.all _ (zCk B e.d);have ki:=G.ki _ (zCk B e.d);obtain ⟨dx,hp⟩:=id de.p;obtain ⟨dxl,dl,dd,wv,el,_⟩:=id lk.p;refine ⟨_,rfl,p,_,dx,_,_,rfl,hp,c.cl,c.no _ (.tail _ (.head _)),zE9 (by decide +kernel) dF_n,_,rfl,lo,dxl,_,rfl,el,zCd (by decide +kernel),_,rfl,p,_,dx,_,_,rfl,hp,c.cl,c.no _ (.head _),zE9 (by decide +kernel) dF_h,lo,q,pk,dt,tt,ts,a,_,rfl,lk,?_⟩;rw [hl];refine ⟨_,_,rfl,rfl,_,rfl,?_⟩;have kS:∀ H',Same H H'→Q (.str (wordW a e last)) H':=fun H' s'=>k H' (fun b o e _=>s' b o e) fun _=>by rcases lk.d with r | ⟨o,r⟩ <;> rw [r,s' _ _ r]
  by_cases z1:e.n≤last
  ·rw [decide_eq_true z1];have w1:wordW a e last = "old":=if_pos z1;rw [w1] at kS;exact iteT (kS _ (Same.refl _))
  rw [decide_eq_false z1];refine iteF ⟨_,rfl,p,_,dx,_,_,rfl,hp,c.cl,c.no _ (.tail _ (.tail _ (.head _))),zE9 (by decide +kernel) dF_w,_,rfl,lo,dxl,_,rfl,el,zCd (by decide +kernel),lo,q,pk,dt,tt,ts,a,rfl,lk,rfl,_,rfl,?_⟩;by_cases z2:e.w=a.wi
  ·rw [show decide (V.int e.w=V.int a.wi)=true from decide_eq_true (by rw [z2])];refine iteF ⟨_,rfl,_,rfl,_,rfl,lo,q,pk,dt,tt,ts,p,a,e,rfl,lk,de,fun H1 s1=>⟨_,rfl,?_⟩⟩;have w2:wordW a e last=if lateB a e.d=true then ("late" : Str) else dnS e.d:=by
    unfold wordW;rw [if_neg z1,if_neg (fun z=>z z2)]
   cases z3:lateB a e.d with
   | true =>
    rw [z3,if_pos rfl] at w2;rw [w2] at kS;exact iteT (kS _ s1)
   | false =>
    rw [z3,if_neg (by decide)] at w2;rw [w2] at k kS;have de1:=de.same s1;have lk1:=lk.same s1;have hp1:=s1 _ _ hp;obtain ⟨dxl',dl',dd',wv',el',_⟩:=id lk1.p;obtain ⟨eh,en,ew,ed⟩:=e;cases ed with
    | tk m=>cases z3
    | se m x=>exact iteF ⟨_,rfl,_,_,_,_,_,rfl,.ins hp1 c.cl ki.ha ki.hn ki.htk ki.hm,rfl,G.sm,_,rfl,iteF (kS _ s1)⟩
    | mk st =>
     refine iteF ⟨_,rfl,_,_,_,_,_,rfl,.ins hp1 c.cl ki.ha ki.hn ki.htk ki.hm,rfl,ki.one,_,rfl,iteT ?_⟩;refine ⟨_,rfl,lo,dxl',_,rfl,el',zCd (by decide +kernel),_,rfl,_,rfl,p,_,dx,_,_,rfl,hp1,c.cl,c.no _ (.tail _ (.tail _ (.tail _ (.head _)))),zE9 (by decide +kernel) dF_x,q,pk,1,rfl,lk1.kb,by decide,fun t H2 h2 s2=>?_⟩;exact ⟨t,_,0,_,rfl,rfl,SqT.of h2,rfl,lo,q,pk,dt,tt,ts,a,rfl,lk1.same s2,fun H3 k3=>⟨_,rfl,iteT (k _ (fun b o e n=>k3 _ _ (s2 _ _ (s1 _ _ e)) n) fun z=>absurd z (show ¬ ("full" : Str) = "done" by decide +kernel))⟩⟩
  ·rw [show decide (V.int e.w=V.int a.wi)=false from decide_eq_false fun z=>z2 (V.int.inj z)];have w2:wordW a e last = "wish":=by
    unfold wordW;rw [if_neg z1,if_pos z2]
   rw [w2] at kS;exact iteT (kS _ (Same.refl _))
end
end L2.W
namespace L2.W
open PySem My
noncomputable def spOrder (CK:Addr):Sp:=fun vs H Q _=>∃ (p d:Addr) (kvs:List (Key×V)),vs=[.ref p]∧KindsAt CK H p d kvs∧∀ q,H q=none→Q (.ref q) (upd H q (.lst (kvs.map fun kv=>kV kv.1)))
section
variable {P:Program}{w:World}{K:PySem.W.Frag}{mg:Str→Option Value}{base:Heap}{CX:CXT}
theorem scOr:FnScope ["self"] ["self"] (defScope sOrder):=⟨rfl,rfl,rfl,by decide +kernel,rfl,by decide +kernel,by decide +kernel⟩
theorem ok_order {f CK fIk fOr fOf fOw:Addr}{fd:FuncData} (T:Tops K mg) (KS:KsCls K mg CK fIk fOr fOf fOw) (F:Fun K "order" "Kinds.order" sOrder f fd):FnOk P w K mg base CX 1 f fd ["self"] (spOrder CK):=by
 refine Fun.okC F scOr (fun vs H Q E h=>?_) (fun cdv A outer s H vs Q E hr h=>?_)
 ·obtain ⟨p,d,kvs,rfl,_⟩:=h;rfl
 ·obtain ⟨p,d,kvs,rfl,⟨⟨dx,hp⟩,rd⟩,k⟩:=h;refine ⟨_,zA4 (zAb (zB1 zEj rfl T.list PyProof.Rows.boot_list (zA0 (zAe (pv 0) rfl) zA3))),?_⟩;exact ⟨_,rfl,p,CK,dx,_,_,rfl,hp,KS.cl,KS.nB,ks_by _,d,kvs,rfl,rd,rfl,fun q hq=>k q hq⟩
end
end L2.W
namespace L2.W
open PySem My
noncomputable def RL (H:Hp) (xs:List V):Prop:=xs.length≤1∧∀ x∈xs,∃ t l0,x=.ref t∧H t=some (.tup [.str "box",.int 1,.ref l0])∧H l0=some (.lst [])
theorem RL.same {H H':Hp}{xs:List V} (h:RL H xs) (s:Same H H'):RL H' xs:=⟨h.1,fun x hx=>let ⟨t,l0,e,e1,e2⟩:=h.2 x hx;⟨t,l0,e,s _ _ e1,s _ _ e2⟩⟩
noncomputable def spPs:Sp:=fun vs H Q _=>∃ (pk l0:Addr),vs=[.ref pk,.ref l0]∧H l0=some (.lst [])∧∀ H',Same H H'→Q (.bl true) H'
noncomputable def spRw (CK C:Addr):Sp:=fun vs H Q _=>∃ (q pk t l0:Addr),vs=[.ref q,.ref t]∧KB CK C H q pk∧H t=some (.tup [.str "box",.int 1,.ref l0])∧H l0=some (.lst [])∧∀ H',Same H H'→Q (.bl true) H'
noncomputable def spRws (CK C:Addr):Sp:=fun vs H Q _=>∃ (q pk l:Addr) (xs:List V),vs=[.ref q,.ref l]∧KB CK C H q pk∧H l=some (.lst xs)∧RL H xs∧∀ H',Same H H'→Q (.bl true) H'
noncomputable def spEa:Sp:=fun vs H Q _=>∃ (l:Addr) (xs:List V),vs=[.str "box",.ref l]∧H l=some (.lst xs)∧RL H xs∧∀ H',Same H H'→Q (.int xs.length) H'
noncomputable def spCw (CK C:Addr):Sp:=fun vs H Q _=>∃ (q pk l:Addr) (xs:List V),vs=[.ref q,.ref l]∧KB CK C H q pk∧H l=some (.lst xs)∧RL H xs∧∀ (n:Int) H',n≤1→Same H H'→Q (.int n) H'
noncomputable def spWe (CK C:Addr):Sp:=fun vs H Q _=>∃ (q pk l:Addr) (xs:List V),vs=[.ref pk,.ref l]∧KB CK C H q pk∧H l=some (.lst xs)∧RL H xs∧∀ l' ys H',H' l'=some (.lst ys)→ys.length≤1→Same H H'→Q (.ref l') H'
noncomputable def spWb (CK C:Addr):Sp:=fun vs H Q _=>∃ (q pk l:Addr) (xs:List V),vs=[.ref q,.ref l]∧KB CK C H q pk∧H l=some (.lst xs)∧RL H xs∧∀ d H',Same H H'→Q (.ref d) H'
theorem one_all {xs:List V} (h:xs.length≤1) {i:Nat}{x:V} (hi:xs[i]? = some x):i=0∧xs=[x]:=by
 match xs,i,h,hi with
 | [y],0,_,hi=>cases hi;exact ⟨rfl,rfl⟩
 | [y],i + 1,_,hi=>cases hi
 | [],_,_,hi=>cases hi
 | _ :: _ :: _,_,h,_=>exact absurd h (by simp)
section
variable {P:Program}{w:World}{K:PySem.W.Frag}{mg:Str→Option Value}{base:Heap}{CX:CXT}
theorem scPs:FnScope ["kind", "things"] ["kind", "things"] (defScope sPairsOf):=⟨rfl,rfl,rfl,by decide +kernel,rfl,by decide +kernel,by decide +kernel⟩
theorem ok_ps {f fu fn fp:Addr}{fd fdu fdn fdp:FuncData} (hC:Calm CX) (T:Tops K mg) (F:Fun K "are_pairs_of" "are_pairs_of" sPairsOf f fd) (DN:Def K mg "is_name" sIsName ["thing"] fn fdn) (DU:Def K mg "are_unlike_names" sUnlike ["things"] fu fdu) (DP:Def K mg "is_pair_of" sPairOf ["kind", "thing"] fp fdp):FnOk P w K mg base CX 3 f fd ["kind", "things"] spPs:=by
 have GU:FnOk P w K mg base CX 2 fu fdu ["things"] spUnlike:=zD7 hC T DU.fn DN;have GP:FnOk P w K mg base CX 1 fp fdp ["kind", "thing"] (fun _ _ _ _=>False):=FnOk.never fun _ _ _ _ z=>z;refine Fun.okC F scPs (fun vs H Q E h=>?_) (fun cdv Ar outer s H vs Q E hr h=>?_)
 ·obtain ⟨pk,l0,rfl,_⟩:=h;rfl
 ·obtain ⟨pk,l0,rfl,h0,k⟩:=h;have hr1:=hr.mono (show 1≤2 by decide)
  refine ⟨_,zA2 (zAj (PW.pt (zCc (zAm (zAk (zA9 zAg rfl T.isinst PyProof.Rows.boot_isinstance (zA0 (pv 1) (zA0 (zB2 (v:=.ty "list") rfl T.list PyProof.Rows.boot_list rfl) zA3))))) (zBo (zAm (zAk (zA9 (zBb rfl) rfl T.all PyProof.Rows.boot_all (zA0 (zAr (T:=["thing"]) rfl ScOk.auto (zAn (pv 1)) (fun _ _ _ _=>zAf (i:=2) (by decide +kernel:(["kind", "things", "thing"]:List Str).Nodup) rfl (Or.inl rfl)) (fun _ _ _ _=>zB3) (fun _ _ _ _=>(zA8 GP hr1 rfl DP.at_ DP.fn.kp DP.bind .nil (passC hC) (zA0 (pv 0) (zA0 (pv 2) zA3))))) zA3)))))))
     (zA4 (zAb zBq)) zAa)
     (zA4 (zAb (zA8 GU hr rfl DU.at_ DU.fn.kp DU.bind .nil (passC hC) (zA0 (zAr (T:=["thing"]) rfl ScOk.auto (zAn (pv 1)) (fun _ _ _ _=>zAf (i:=2) (by decide +kernel:(["kind", "things", "thing"]:List Str).Nodup) rfl (Or.inl rfl)) (fun _ _ _ _=>zB3) (fun _ _ _ _=>(zAu (r:=rIxT K) zAq (pv 2) zA7 (fun _ _=>rfl)))) zA3)))),?_⟩
  refine ⟨_,rfl,_,_,_,_,_,rfl,.lst h0,rfl,rfl,_,rfl,iteF ⟨_,rfl,l0,rfl,⟨_,SqL.of h0⟩,comp_bits (bs:=[]) h0 (Zl _) rfl (fun j x b H' N hx=>by cases hx) fun p H1 s1 hp=>⟨p,[],rfl,SqL.of hp,_,rfl,iteF ?_⟩⟩⟩;refine ⟨_,rfl,l0,rfl,⟨_,SqL.of (s1 _ _ h0)⟩,zAo (xs:=[]) (fun i ys H'=>H1=H'∧ys=[]) ⟨rfl,rfl⟩ (fun i ys H' z=>by rw [← z.1];exact SqL.of (s1 _ _ h0)) (fun i ys H' hi z=>by rw [z.2];exact Zl _) (fun i x ys H' hi=>by cases hi) ?_⟩;rintro ys H' ⟨rfl,rfl⟩ c hc;exact ⟨_,[],rfl,.lst trivial zA1 (Zl _) .nil,fun H2 s2=>k _ ((s1.trans (Same.new hc)).trans s2)⟩
theorem scRw:FnScope ["kinds", "thing"] ["kinds", "thing"] (defScope sIsRow):=⟨rfl,rfl,rfl,by decide +kernel,rfl,by decide +kernel,by decide +kernel⟩
structure WA (P:Program) (w:World) (K:PySem.W.Frag) (mg:Str→Option Value) (base:Heap) (CX:CXT) (CK C fOf fOr fIk fO2 fOw fn fw fps:Addr) (dOf dOr fdn fdw fdps:FuncData):Prop where
 T:Tops K mg
 hC:Calm CX
 KS:KsCls K mg CK fIk fO2 fOf fOw
 GO:FnOk P w K mg base CX 2 fOf dOf ["self", "name"] (spOfB CK C)
 bO:Binds K dOf ["self", "name"] []
 mR:Meth K CK "order" fOr
 GR:FnOk P w K mg base CX 1 fOr dOr ["self"] (spOrder CK)
 bR:Binds K dOr ["self"] []
 N:Def K mg "is_name" sIsName ["thing"] fn fdn
 W:Def K mg "is_whole" sIsWhole ["thing"] fw fdw
 Ps:Def K mg "are_pairs_of" sPairsOf ["kind", "things"] fps fdps
 GPs:FnOk P w K mg base CX 3 fps fdps ["kind", "things"] spPs
variable {CK C fOf fOr fIk fO2 fOw fn fw fps:Addr}{dOf dOr fdn fdw fdps:FuncData}
theorem ok_rw {f:Addr}{fd:FuncData} (A:WA P w K mg base CX CK C fOf fOr fIk fO2 fOw fn fw fps dOf dOr fdn fdw fdps) (F:Fun K "is_row" "is_row" sIsRow f fd):FnOk P w K mg base CX 4 f fd ["kinds", "thing"] (spRw CK C):=by
 have hC:=A.hC;have T:=A.T;have GN:FnOk P w K mg base CX 1 fn fdn ["thing"] spNmT:=ok_nmT A.N.fn T;have GW:FnOk P w K mg base CX 1 fw fdw ["thing"] (spIsWhole K):=zDj A.W.fn T;obtain ⟨tm,hmost⟩:=T.mostM;refine Fun.okC F scRw (fun vs H Q E h=>?_) (fun cdv Ar outer s H vs Q E hr h=>?_)
 ·obtain ⟨q,pk,t,l0,rfl,_⟩:=h;rfl
 ·obtain ⟨q,pk,t,l0,rfl,kb,ht,h0,k⟩:=h;have hr1:=hr.mono (show 1≤3 by decide);have hr2:=hr.mono (show 2≤3 by decide)
  refine ⟨_,zA2 (zAj (PW.pt (zCc (zAm (zAk (zA9 zAg rfl T.isinst PyProof.Rows.boot_isinstance (zA0 (pv 1) (zA0 (zB2 (v:=.ty "tuple") rfl T.tuple PyProof.Rows.boot_tuple rfl) zA3))))) (zBo (zAh zE2 (zA9 zAv rfl T.len PySem.boot_len (zA0 (pv 1) zA3)) zA7 (nomark _)))))
     (zA4 (zAb zBq)) zAa)
     (zA2 (zAj (PW.pt (zCc (zAm (zAk (zA8 GN hr1 rfl A.N.at_ A.N.fn.kp A.N.bind .nil (passC hC) (zA0 (zAu zAq (pv 1) zA7 (fun _ _=>rfl)) zA3)))) (zBo (zAh op_notIn_seq (zAu zAq (pv 1) zA7 (fun _ _=>rfl)) (zBd (pv 0) A.KS.cl A.mR A.GR hr1 A.bR .nil (passC hC)) rfl))))
     (zA4 (zAb zBq)) zAa)
     (zA2 (zAj (PW.pt (zCc (zAm (zAk (zA8 GW hr1 rfl A.W.at_ A.W.fn.kp A.W.bind .nil (passC hC) (zA0 (zAu zAq (pv 1) zA7 (fun _ _=>rfl)) zA3)))) (zBo (zAm (zD0 zEi zEi zA7 (zAu zAq (pv 1) zA7 (fun _ _=>rfl)) (zBc (v:=.int 60) rfl hmost ⟨_,rfl⟩))))))
     (zA4 (zAb zBq)) zAa)
     (zA4 (zAb (zA8 A.GPs hr rfl A.Ps.at_ A.Ps.fn.kp A.Ps.bind .nil (passC hC) (zA0 (zAl (pv 0) A.KS.cl A.KS.mOf A.GO hr2 A.bO .nil (passC hC) (zA0 (zAu zAq (pv 1) zA7 (fun _ _=>rfl)) zA3)) (zA0 (zAu zAq (pv 1) zA7 (fun _ _=>rfl)) zA3))))))),?_⟩
  obtain ⟨dxq,dq,eq,ka⟩:=kb.at_;refine ⟨_,rfl,_,_,_,_,_,rfl,.tup ht,rfl,rfl,_,rfl,iteF ⟨_,rfl,t,_,rfl,.inr (SqT.of ht),rfl,_,rfl,iteF ?_⟩⟩;refine ⟨_,rfl,t,_,0,_,rfl,rfl,SqT.of ht,rfl, "box",rfl,box_ok,fun H1 s1=>⟨_,rfl,iteF ?_⟩⟩;obtain ⟨dxq1,dq1,eq1,ka1⟩:=(kb.same s1).at_;refine ⟨_,rfl,t,_,0,_,rfl,rfl,SqT.of (s1 _ _ ht),rfl,_,rfl,q,dxq1,_,rfl,eq1,zCp _ (by decide +kernel),q,dq1,_,rfl,ka1,fun l1 f1=>⟨l1,_,rfl,.inl (SqL.of zA1),rfl,rfl,_,rfl,iteF ?_⟩⟩;have s2:=s1.trans (Same.new (o:=.lst [.str "box"]) f1);refine ⟨_,rfl,t,_,1,_,rfl,rfl,SqT.of (s2 _ _ ht),rfl,_,_,true,false,rfl,.int 1,rfl,rfl,_,rfl,iteF ?_⟩;refine ⟨_,rfl,t,_,1,_,rfl,rfl,SqT.of (s2 _ _ ht),rfl,_,_,rfl,rfl,_,rfl,iteT ⟨_,_,rfl,rfl,_,rfl,iteF ?_⟩⟩;obtain ⟨dxq2,dq2,eq2,ka2⟩:=(kb.same s2).at_;refine ⟨_,rfl,q,dxq2,_,rfl,eq2,zCp _ (by decide +kernel),_,rfl,t,_,0,_,rfl,rfl,SqT.of (s2 _ _ ht),rfl,q,pk,rfl,kb.same s2,fun H3 s3=>?_⟩;have s23:=s2.trans s3;exact ⟨_,rfl,t,_,2,_,rfl,rfl,SqT.of (s23 _ _ ht),rfl,pk,l0,rfl,s23 _ _ h0,fun H4 s4=>k _ (s23.trans s4)⟩
theorem scRws:FnScope ["kinds", "things"] ["kinds", "things"] (defScope sAreRows):=⟨rfl,rfl,rfl,by decide +kernel,rfl,by decide +kernel,by decide +kernel⟩
theorem ok_rws {f fr:Addr}{fd fdr:FuncData} (A:WA P w K mg base CX CK C fOf fOr fIk fO2 fOw fn fw fps dOf dOr fdn fdw fdps) (F:Fun K "are_rows" "are_rows" sAreRows f fd) (DR:Def K mg "is_row" sIsRow ["kinds", "thing"] fr fdr):FnOk P w K mg base CX 5 f fd ["kinds", "things"] (spRws CK C):=by
 have hC:=A.hC;have T:=A.T;have GR:FnOk P w K mg base CX 4 fr fdr ["kinds", "thing"] (spRw CK C):=ok_rw A DR.fn;refine Fun.okC F scRws (fun vs H Q E h=>?_) (fun cdv Ar outer s H vs Q E hr h=>?_)
 ·obtain ⟨q,pk,l,xs,rfl,_⟩:=h;rfl
 ·obtain ⟨q,pk,l,xs,rfl,kb,hl,rl,k⟩:=h;refine ⟨_,zA4 (zAb (zC1 (zA9 zAg rfl T.isinst PyProof.Rows.boot_isinstance (zA0 (pv 1) (zA0 (zB2 (v:=.ty "list") rfl T.list PyProof.Rows.boot_list rfl) zA3))) (zCe (zA9 (zBb rfl) rfl T.all PyProof.Rows.boot_all (zA0 (zAr (T:=["thing"]) rfl ScOk.auto (zAn (pv 1)) (fun _ _ _ _=>zAf (i:=2) (by decide +kernel:(["kinds", "things", "thing"]:List Str).Nodup) rfl (Or.inl rfl)) (fun _ _ _ _=>zB3) (fun _ _ _ _=>(zA8 GR hr rfl DR.at_ DR.fn.kp DR.bind .nil (passC hC) (zA0 (pv 0) (zA0 (pv 2) zA3))))) zA3))))),?_⟩;refine ⟨_,rfl,_,_,_,_,_,rfl,.lst hl,rfl,rfl,_,rfl,iteT ⟨_,rfl,l,rfl,⟨_,SqL.of hl⟩,comp_bits (bs:=List.replicate xs.length true) hl (Za rl.1 (by decide)) Zi (fun j x b H' N hx hb s1 q2=>?_) fun p H1 s1 hp=>⟨p,_,rfl,SqL.of hp,?_⟩⟩⟩
  ·obtain ⟨t,l0,rfl,h1,h2⟩:=rl.2 x (Ze hx);have:b=true:=by rw [List.getElem?_replicate] at hb;split at hb <;> cases hb;rfl
   subst this;exact ⟨_,rfl,_,rfl,q,pk,t,l0,rfl,kb.same s1,s1 _ _ h1,s1 _ _ h2,q2⟩
  ·rw [show (List.replicate xs.length true).all id=true by simp];exact k _ s1
theorem scEa:FnScope ["kind", "rows"] ["kind", "rows"] (defScope sEach):=⟨rfl,rfl,rfl,by decide +kernel,rfl,by decide +kernel,by decide +kernel⟩
theorem sum_rep:∀ n:Nat,(List.replicate n (1:Int)).sum=n
 | 0=>rfl
 | n + 1=>by rw [Zx,List.sum_cons,sum_rep n];omega
theorem ok_ea {f:Addr}{fd:FuncData} (T:Tops K mg) (F:Fun K "count_of_each" "count_of_each" sEach f fd):FnOk P w K mg base CX 1 f fd ["kind", "rows"] spEa:=by
 refine Fun.okC F scEa (fun vs H Q E h=>?_) (fun cdv Ar outer s H vs Q E hr h=>?_)
 ·obtain ⟨l,xs,rfl,_⟩:=h;rfl
 ·obtain ⟨l,xs,rfl,hl,rl,k⟩:=h;refine ⟨_,zA4 (zAb (zA9 (zFd (K:=K) rfl) rfl T.sum PyProof.Rows.boot_sum (zA0 (zAr (T:=["row"]) rfl ScOk.auto (zAn (pv 1)) (fun _ _ _ _=>zAf (i:=2) (by decide +kernel:(["kind", "rows", "row"]:List Str).Nodup) rfl (Or.inl rfl)) (fun _ _ _ _=>zDx (zAh zCt (zAu (r:=rIxT K) zAq (pv 2) zA7 (fun _ _=>rfl)) (pv 0) (nomark _))) (fun _ _ _ _=>zAu (r:=rIxT K) zAq (pv 2) zA7 (fun _ _=>rfl))) zA3))),?_⟩;have xl:=rl.1;refine ⟨_,rfl,l,rfl,⟨_,SqL.of hl⟩,zAo (xs:=xs) (fun i ys H'=>H=H'∧ys=List.replicate i (V.int 1)) ⟨rfl,rfl⟩ (fun i ys H' p=>by rw [← p.1];exact SqL.of hl) (fun i ys H' hi p=>by rw [p.2,Zi];exact Zd (small1000 (by omega))) ?_ ?_⟩
  ·rintro i x ys H' hi ⟨rfl,rfl⟩ N hN;obtain ⟨t,l0,rfl,h1,h2⟩:=rl.2 x (Ze hi);exact ⟨_,rfl,t,_,0,_,rfl,rfl,SqT.of h1,rfl,_,rfl,rfl,_,rfl,iteT ⟨_,rfl,t,_,1,_,rfl,rfl,SqT.of h1,rfl,hN _ _ ⟨rfl,by rw [List.replicate_succ']⟩⟩⟩
  ·rintro ys H' ⟨rfl,rfl⟩ c hc;refine ⟨c,List.replicate xs.length 1,rfl,SqL.of (by rw [zA1,List.map_replicate]),rfl,?_⟩;rw [sum_rep];exact k _ (Same.new hc)
end
end L2.W
namespace L2.W
open PySem My
noncomputable def wiF (k r b:V):List (Str×V):=putF "by_name" b (putF "rows" r (putF "kinds" k []))
noncomputable def nosW:List Str:=["kinds", "rows", "by_name"]
noncomputable def spWi (CW CK C:Addr):Sp:=fun vs H Q _=>∃ (p dx q pk l:Addr) (xs:List V),vs=[.ref p,.ref q,.ref l]∧H p=some (.ins CW dx [])∧KB CK C H q pk∧H l=some (.lst xs)∧RL H xs ∧
 ∀ H' lr df ys,H' p=some (.ins CW dx (wiF (.ref q) (.ref lr) (.ref df)))→H' lr=some (.lst ys)→RL H' ys→But p H H'→Q .non H'
section
variable {P:Program}{w:World}{K:PySem.W.Frag}{mg:Str→Option Value}{base:Heap}{CX:CXT}
variable {CK C fOf fOr fIk fO2 fOw fn fw fps:Addr}{dOf dOr fdn fdw fdps:FuncData}
theorem scCw:FnScope ["kinds", "rows", "many", "kind", "owner", "owners"] ["kinds", "rows"] (defScope sCountW):=⟨rfl,rfl,rfl,by decide +kernel,rfl,by decide +kernel,by decide +kernel⟩
theorem ok_cw {f fe fI:Addr}{fd fde:FuncData} (A:WA P w K mg base CX CK C fOf fOr fIk fO2 fOw fn fw fps dOf dOr fdn fdw fdps) (KC:KCls K mg C fI) (F:Fun K "count_wished" "count_wished" sCountW f fd) (DE:Def K mg "count_of_each" sEach ["kind", "rows"] fe fde):FnOk P w K mg base CX 3 f fd ["kinds", "rows"] (spCw CK C):=by
 have hC:=A.hC;have T:=A.T;have GE:FnOk P w K mg base CX 1 fe fde ["kind", "rows"] spEa:=ok_ea T DE.fn;refine Fun.okC F scCw (fun vs H Q E h=>?_) (fun cdv Ar outer s H vs Q E hr h=>?_)
 ·obtain ⟨q,pk,l,xs,rfl,_⟩:=h;rfl
 ·obtain ⟨q,pk,l,xs,rfl,kb,hl,rl,k⟩:=h;have nd:=scCw.nd;have hu:=zDb hr;have hr1:=hr.mono (show 1≤2 by decide)
  refine ⟨_,zA2 (zAd (i:=2) nd rfl (Or.inl rfl) zBt)
     (zA2 (zCb PassesOwn.never rfl (zAn (zBd (pv 0) A.KS.cl A.mR A.GR hr1 A.bR .nil (passC hC))) (zAf (i:=3) nd rfl (Or.inl rfl))
     (zA2 (zAd (i:=4) nd rfl (Or.inl rfl) (zAe (zAl (pv 0) A.KS.cl A.KS.mOf A.GO hr A.bO .nil (passC hC) (zA0 (pv 3) zA3)) rfl))
     (zA2 (zAd (i:=5) nd rfl (Or.inl rfl) (zBe (zB8 (zBx (pv 4))) zA7 (zBu hu (pv 2) (pv 4) (fun _ _=>rfl))))
     (zA4 (zC6 hu (pv 2) (pv 3) (zAt zDp (pv 5) (zA8 GE hr1 rfl DE.at_ DE.fn.kp DE.bind .nil (passC hC) (zA0 (pv 3) (zA0 (pv 1) zA3)))) rfl)))))
     (zA4 (zAb (zA9 zFc rfl T.sum PyProof.Rows.boot_sum (zA0 (zD2 (pv 2)) zA3))))),?_⟩
  intro dm fm;have s0:=Same.new (o:=.dK []) fm;have e0:(upd H dm (.dK [])) dm=some (.dK []):=zA1;generalize upd H dm (.dK [])=H0 at s0 e0 ⊢;obtain ⟨dxq,dq,eq,ka⟩:=(kb.same s0).at_;refine ⟨_,rfl,q,dxq,_,rfl,eq,zCp _ (by decide +kernel),q,dq,_,rfl,ka,fun lo flo=>?_⟩;have s1:=s0.trans (Same.new (o:=.lst [.str "box"]) flo);have e1:=(Same.new (o:=.lst [.str "box"]) flo) _ _ e0;have g1:(upd H0 lo (.lst [.str "box"])) lo=some (.lst [.str "box"]):=zA1;have nlo:lo≠dm:=Ne.symm (zA5 e0 flo);refine ⟨lo,rfl,⟨_,SqL.of g1⟩,zEa g1 ?_⟩;replace g1:(upd H0 lo (.lst [.str "box"])) lo=some (.lst [.str "box"]):=zA1;show tSeq _ _ _ _ (upd H0 lo (.lst [.str "box"]));generalize upd H0 lo (.lst [.str "box"])=H1 at s1 e1 g1 ⊢;have kb1:=kb.same s1;obtain ⟨dxq1,dq1,eq1,ka1⟩:=kb1.at_;refine ⟨_,rfl,q,dxq1,_,rfl,eq1,zCp _ (by decide +kernel),_,rfl,q,pk,rfl,kb1,fun H2 s2=>?_⟩;obtain ⟨dk,lk,tk,lv,k1,_⟩:=(kb1.same s2).k;have s12:=s1.trans s2;refine ⟨pk,C,dk,_,_,rfl,k1,KC.cl,KC.nO,zC8 _ _ _,_,rfl,_,rfl,iteT ⟨_,rfl,_,rfl,_,rfl,l,xs,rfl,s12 _ _ hl,rl.same s12,fun H3 s3=>?_⟩⟩;have xl:=rl.1;have s13:=s12.trans s3;have e3:=s3 _ _ (s2 _ _ e1);have g3:=s3 _ _ (s2 _ _ g1);refine ⟨_,_,rfl,rfl,.inl ⟨by decide,by decide⟩,_,rfl,_,rfl,dm,_,rfl,DPut.k (k:=Sum.inr "box") e3 (small1000 (by decide)),?_⟩;refine ⟨by rw [zA6 nlo];exact g3,?_⟩;refine ⟨_,rfl,dm,_,rfl,.inl zA1,fun v hv=>⟨v,dm,[Sum.inr "box"],[1 * (xs.length:Int)],rfl,zA1,.inl ?_,rfl,rfl,?_⟩⟩
  ·rw [zA6 (zA5 zA1 hv),zA1];rfl
  ·refine k _ _ ?_ fun b o e=>?_
   ·show 1 * (xs.length:Int) + 0≤1;omega
   ·exact (Same.new hv) _ _ (by rw [zA6 (zA5 e fm)];exact s13 _ _ e)
end
end L2.W
namespace L2.W
open PySem My
section
variable {P:Program}{w:World}{K:PySem.W.Frag}{mg:Str→Option Value}{base:Heap}{CX:CXT}
variable {CK C fOf fOr fIk fO2 fOw fn fw fps:Addr}{dOf dOr fdn fdw fdps:FuncData}
theorem scWe:FnScope ["kind", "rows", "found", "row", "values", "wished"] ["kind", "rows"] (defScope sWEach):=⟨rfl,rfl,rfl,by decide +kernel,rfl,by decide +kernel,by decide +kernel⟩
theorem ok_we {f fI:Addr}{fd:FuncData} (T:Tops K mg) (KC:KCls K mg C fI) (F:Fun K "wished_of_each" "wished_of_each" sWEach f fd):FnOk P w K mg base CX 1 f fd ["kind", "rows"] (spWe CK C):=by
 refine Fun.okC F scWe (fun vs H Q E h=>?_) (fun cdv Ar outer s H vs Q E hr h=>?_)
 ·obtain ⟨q,pk,l,xs,rfl,_⟩:=h;rfl
 ·obtain ⟨q,pk,l,xs,rfl,kb,hl,rl,k⟩:=h;have nd:=scWe.nd;have hu:=zDb hr;have sm:∀ (n:Nat),n≤1000→n≤sizeLine:=fun n h=>Zd (small1000 h)
  refine ⟨_,zA2 (zAd (i:=2) nd rfl (Or.inl rfl) (zB4 zA3))
     (zA2 (zCb PassesOwn.never rfl (zAn (pv 1)) (zAf (i:=3) nd rfl (Or.inl rfl))
     (zA4 (zAj (zAh zCt (zAu zAq (pv 3) zA7 (fun _ _=>rfl)) (zAe (pv 0) rfl) (nomark _))
     (zA2 (zAd (i:=4) nd rfl (Or.inr rfl) (zB1 (zEg (K:=K) rfl) rfl T.dict PyProof.Rows.boot_dict (zA0 (zAu zAq (pv 3) zA7 (fun _ _=>rfl)) zA3)))
     (zA2 (zAd (i:=5) nd rfl (Or.inl rfl) (zB1 zFb rfl T.tuple PyProof.Rows.boot_tuple (zA0 (zAr (T:=["field"]) rfl ScOk.auto (zAn (zAe (pv 0) rfl)) (fun _ _ _ _=>zAf (i:=6) (by decide +kernel:(["kind", "rows", "found", "row", "values", "wished", "field"]:List Str).Nodup) rfl (Or.inl rfl)) (fun _ _ _ _=>zB3) (fun _ _ _ _=>(zC7 hu (pv 4) (zAu (r:=rIxT K) zAq (pv 6) zA7 (fun _ _=>rfl)) ⟨rfl,rfl,rfl,rfl⟩))) zA3)))
     (zA4 (zB6 (zE0 PySem.F.plainAttrs_list PySem.F.slot_list_extend PySem.F.type_list_extend mt_extend (pv 2) (zA0 (zAt op_rep (zB4 (zA0 (pv 5) zA3)) (zAu zAq (pv 3) zA7 (fun _ _=>rfl))) zA3)))))) zAa)))
     (zA4 (zAb (pv 2)))),?_⟩
  refine ⟨sm 0 (by decide),fun lf ff=>?_⟩;have s0:=Same.new (o:=.lst []) ff;have e0:(upd H lf (.lst [])) lf=some (.lst []):=zA1;generalize upd H lf (.lst [])=H0 at s0 e0 ⊢;have nl:l≠lf:=zA5 hl ff;refine ⟨_,rfl,l,rfl,⟨_,SqL.of (s0 _ _ hl)⟩,zDc (K:=K) (a:=l) (xs:=xs) (fun i σ H'=>∃ (y3 y4 y5:Option V) (ys:List V),σ = [some (.ref pk),some (.ref l),some (.ref lf),y3,y4,y5]∧H' lf=some (.lst ys)∧ys.length=i∧Same H H') ⟨_,_,_,[],rfl,e0,rfl,s0⟩ (fun i σ H' _ ⟨_,_,_,_,_,_,_,z⟩=>SqL.of (z _ _ hl)) ?_ ?_⟩
  ·rintro i x σ H1 hi ⟨y3,y4,y5,ys,rfl,h1,yl,s1⟩;obtain ⟨t,l0,rfl,ht,h0⟩:=rl.2 x (Ze hi);have kb1:=kb.same s1;obtain ⟨dk,lk,tk,lv,k1,k2,k3,_⟩:=kb1.k;refine ⟨_,rfl,t,_,0,_,rfl,rfl,SqT.of (s1 _ _ ht),rfl,_,rfl,pk,C,dk,_,_,rfl,k1,KC.cl,KC.nN,zCv _ _ _,rfl,_,rfl,iteT ?_⟩;refine ⟨_,rfl,t,_,2,_,rfl,rfl,SqT.of (s1 _ _ ht),rfl,l0,[],[],rfl,SqL.of (s1 _ _ h0),rfl,List.nodup_nil,by decide,(fun i t k x h=>by cases h),fun pd fd=>?_⟩;have s2:=s1.trans (Same.new (o:=.dK []) fd);have e2:(upd H1 pd (.dK [])) pd=some (.dK []):=zA1;have h2:=(Same.new (o:=.dK []) fd) _ _ h1;have k1':=(Same.new (o:=.dK []) fd) _ _ k1;have k2':=(Same.new (o:=.dK []) fd) _ _ k2;have k3':=(Same.new (o:=.dK []) fd) _ _ k3;generalize upd H1 pd (.dK [])=H2 at s2 e2 h2 k1' k2' k3' ⊢;refine ⟨_,rfl,pk,C,dk,_,_,rfl,k1',KC.cl,KC.nF,zDa _ _ _,lk,rfl,⟨_,SqL.of k2'⟩,zAo (xs:=[.ref tk]) (fun i ys H'=>H2=H'∧ys=List.replicate i V.non) ⟨rfl,rfl⟩ (fun i ys H' p=>by rw [← p.1];exact SqL.of k2') (fun i ys H' hi p=>by rw [p.2,Zi];exact sm _ (Za hi (by show 1≤1000;decide))) ?_ ?_⟩
   ·rintro j x ys' H' hj ⟨rfl,rfl⟩ N hN;have il:=(List.getElem?_eq_some_iff.mp hj).1;have i0:j=0:=by simpa using il
    subst i0;cases hj;exact pick ⟨_,rfl,pd,rfl,.inl ⟨_,.inl e2⟩,_,rfl,tk,_,0,_,rfl,rfl,SqT.of k3',rfl,none,.inl ⟨_,Sum.inr "colour",.inl e2,rfl,rfl⟩,hN _ _ ⟨rfl,rfl⟩⟩
   ·rintro ys' H' ⟨rfl,rfl⟩ c hc;rw [show List.replicate ([V.ref tk].length) V.non=[V.non] from rfl];refine ⟨c,[.non],rfl,.inl ⟨SqL.of zA1,fun tw ftw=>?_⟩⟩;have s3:=(s2.trans (Same.new hc)).trans (Same.new (o:=.tup [.non]) ftw);have h3:=(Same.new (o:=.tup [.non]) ftw) _ _ ((Same.new (o:=.lst [.non]) hc) _ _ h2);replace s3:Same H (upd (upd H2 c (.lst [.non])) tw (.tup [.non])):=s3;generalize upd (upd H2 c (.lst [.non])) tw (.tup [.non])=H3 at s3 h3 ⊢;refine ⟨_,rfl,.inl ⟨rfl,_,SqL.of h3⟩,_,rfl,sm 1 (by decide),fun l4 f4=>⟨_,rfl,t,_,1,_,rfl,rfl,SqT.of ((Same.new f4) _ _ (s3 _ _ ht)),rfl,l4,1,_,rfl,rfl,zA1,by decide,by decide,sm 1 (by decide),fun l5 f5=>?_⟩⟩;rw [show (List.replicate (1:Int).toNat [V.ref tw]).flatten=[.ref tw] from rfl];have s5:=(Same.new (o:=.lst [.ref tw]) f4).trans (Same.new (o:=.lst [.ref tw]) f5);have xl:=rl.1;have i0:=(one_all xl hi).1;refine ⟨lf,l5,ys,_,rfl,rfl,s5 _ _ h3,zA1,sm _ (by rw [yl,i0];show 0 + 1≤1000;decide),?_⟩;refine ⟨_,_,_,ys++[.ref tw],rfl,zA1,by rw [Zc,yl];rfl,fun b o e=>?_⟩;rw [zA6 (zA5 e ff)];exact s5 _ _ (s3 _ _ e)
  ·rintro σ H1 ⟨y3,y4,y5,ys,rfl,h1,yl,s1⟩;exact ⟨_,rfl,k lf ys H1 h1 (by rw [yl];exact rl.1) s1⟩
end
end L2.W
namespace L2.W
open PySem My
theorem for_enum {K:PySem.W.Frag}{a:Addr}{xs:List V}{g:TG}{tb:TS}{D:Ends}{σ : St}{H:Hp} (Pv:Nat→St→Hp→Prop) (h0:Pv 0 σ H) (hl:∀ i σ H,i≤xs.length→Pv i σ H→SqL K H a xs)
  (hs:∀ i x σ H p,xs[i]? = some x→Pv i σ H→H p=none→g (.ref p) σ (upd H p (.tup [.int (i:Nat),x])) fun σ2 H2=>tb { D with nx:=Pv (i + 1),ct:=Pv (i + 1),bk:=D.nx } σ2 H2) (hd:∀ σ H,Pv xs.length σ H→D.nx σ H) :
  ∃ W:Nat→Nat→St→Hp→Prop,(∃ m,W 0 m σ H)∧∀ i m σ H,W i m σ H →
   ((Ite K a).stop i H∧D.nx σ H)∨((Ite K a).go i H∧∃ N:St→Hp→Prop,(∀ σ' H',N σ' H'→∃ m',m' < m∧W (i + 1) m' σ' H')∧∀ x H',(Ite K a).yld i H x H'→g x σ H' fun σ2 H2=>tb { D with nx:=N,ct:=N,bk:=D.nx } σ2 H2):=by
 refine ⟨fun i m σ H=>m=xs.length - i∧i≤xs.length∧Pv i σ H,⟨xs.length,by simp,Zl _,h0⟩,?_⟩;rintro i m σ H ⟨rfl,hi,p⟩;have q:=hl i σ H hi p;by_cases hlt:i < xs.length
 ·refine .inr ⟨⟨xs,xs[i],q,by simp [hlt]⟩,Pv (i + 1),fun σ' H' p'=>⟨xs.length - (i + 1),by omega,rfl,hlt,p'⟩,fun x H' y=>?_⟩;obtain ⟨t,z,rfl,ht,rfl,hz⟩:=y;exact hs i z σ H t (hz xs q) p ht
 ·obtain rfl:i=xs.length:=by omega
  exact .inl ⟨⟨xs,q,Z2 _⟩,hd σ H p⟩
section
variable {P:Program}{w:World}{K:PySem.W.Frag}{mg:Str→Option Value}{base:Heap}{CX:CXT}
variable {CK C fOf fOr fIk fO2 fOw fn fw fps:Addr}{dOf dOr fdn fdw fdps:FuncData}
theorem scWb:FnScope ["kinds", "rows", "names", "found", "kind", "owner_kind", "owners", "of_each", "owner", "number", "wished", "name"] ["kinds", "rows"] (defScope sWBy):=⟨rfl,rfl,rfl,by decide +kernel,rfl,by decide +kernel,by decide +kernel⟩
theorem ok_wb {f fI fe fno:Addr}{fd fde fdno:FuncData} (A:WA P w K mg base CX CK C fOf fOr fIk fO2 fOw fn fw fps dOf dOr fdn fdw fdps) (KC:KCls K mg C fI) (F:Fun K "wished_by_name" "wished_by_name" sWBy f fd) (DE:Def K mg "wished_of_each" sWEach ["kind", "rows"] fe fde) (DO:Def K mg "name_of" sNameOf ["kinds", "kind", "owner", "number"] fno fdno) (GN:FnOk P w K mg base CX 4 fno fdno ["kinds", "kind", "owner", "number"] (spNoB CK C)):FnOk P w K mg base CX 5 f fd ["kinds", "rows"] (spWb CK C):=by
 have hC:=A.hC;have T:=A.T;have GE:FnOk P w K mg base CX 1 fe fde ["kind", "rows"] (spWe CK C):=ok_we T KC DE.fn;refine Fun.okC F scWb (fun vs H Q E h=>?_) (fun cdv Ar outer s H vs Q E hr h=>?_)
 ·obtain ⟨q,pk,l,xs,rfl,_⟩:=h;rfl
 ·obtain ⟨q,pk,l,xs,rfl,kb,hl,rl,k⟩:=h;have nd:=scWb.nd;have hu:=zDb hr;have hr1:=hr.mono (show 1≤4 by decide);have hr2:=hr.mono (show 2≤4 by decide);have sm:∀ (n:Nat),n≤1000→n≤sizeLine:=fun n h=>Zd (small1000 h)
  refine ⟨_,zA2 (zAd (i:=2) nd rfl (Or.inl rfl) zBt)
     (zA2 (zAd (i:=3) nd rfl (Or.inl rfl) zBt)
     (zA2 (zCb PassesOwn.never rfl (zAn (zBd (pv 0) A.KS.cl A.mR A.GR hr1 A.bR .nil (passC hC))) (zAf (i:=4) nd rfl (Or.inl rfl))
     (zA2 (zAd (i:=5) nd rfl (Or.inl rfl) (zAe (zAl (pv 0) A.KS.cl A.KS.mOf A.GO hr2 A.bO .nil (passC hC) (zA0 (pv 4) zA3)) rfl))
     (zA2 (zAd (i:=6) nd rfl (Or.inl rfl) (zBe (zB8 (zBx (pv 5))) (zB4 (zA0 zBp zA3)) (zBu hu (pv 2) (pv 5) (fun _ _=>rfl))))
     (zA2 (zAd (i:=7) nd rfl (Or.inl rfl) (zA8 GE hr1 rfl DE.at_ DE.fn.kp DE.bind .nil (passC hC) (zA0 (zAl (pv 0) A.KS.cl A.KS.mOf A.GO hr2 A.bO .nil (passC hC) (zA0 (pv 4) zA3)) (zA0 (pv 1) zA3))))
     (zA2 (zC6 hu (pv 2) (pv 4) (zB4 zA3) rfl)
     (zA4 (zCb PassesOwn.never rfl (zAn (pv 6)) (zAf (i:=8) nd rfl (Or.inl rfl))
     (zA4 (zCb PassesOwn.never rfl (pi_enum rfl T.enum (zA0 (pv 7) zA3)) (pg_tup rfl (zBl (zAf (i:=9) nd rfl (Or.inl rfl)) (zBl (zAf (i:=10) nd rfl (Or.inl rfl)) zDw)))
     (zA2 (zAd (i:=11) nd rfl (Or.inl rfl) (zA8 GN hr rfl DO.at_ DO.fn.kp DO.bind .nil (passC hC) (zA0 (pv 0) (zA0 (pv 4) (zA0 (pv 8) (zA0 (pv 9) zA3))))))
     (zA2 (zB6 (zE0 PySem.F.plainAttrs_list PySem.F.slot_list_append PySem.F.type_list_append mt_append (zBu hu (pv 2) (pv 4) (fun _ _=>rfl)) (zA0 (pv 11) zA3)))
     (zA4 (zC6 hu (pv 3) (pv 11) (pv 10) rfl)))))))))))))
     (zA4 (zAb (pv 3))))),?_⟩
  intro dn fn1 df fdf;have s0:=(Same.new (o:=.dK []) fn1).trans (Same.new (o:=.dK []) fdf);have en:(upd (upd H dn (.dK [])) df (.dK [])) dn=some (.dK []):=(Same.new fdf) _ _ zA1;have ef:(upd (upd H dn (.dK [])) df (.dK [])) df=some (.dK []):=zA1;have nnf:dn≠df:=zA5 zA1 fdf;have hnf:H df=none:=(Same.new (o:=.dK []) fn1).free fdf;generalize upd (upd H dn (.dK [])) df (.dK [])=H0 at s0 en ef ⊢;clear fdf;obtain ⟨dxq,dq,eq,ka⟩:=(kb.same s0).at_;refine ⟨_,rfl,q,dxq,_,rfl,eq,zCp _ (by decide +kernel),q,dq,_,rfl,ka,fun lo flo=>?_⟩;have s1:=Same.new (o:=.lst [.str "box"]) flo;have g1:(upd H0 lo (.lst [.str "box"])) lo=some (.lst [.str "box"]):=zA1;refine ⟨lo,rfl,⟨_,SqL.of g1⟩,zEa g1 ?_⟩;show tSeq _ _ _ _ (upd H0 lo (.lst [.str "box"]));replace g1:(upd H0 lo (.lst [.str "box"])) lo=some (.lst [.str "box"]):=zA1;replace s1:Same H0 (upd H0 lo (.lst [.str "box"])):=s1;generalize upd H0 lo (.lst [.str "box"])=H1 at s1 g1 ⊢;have s01:=s0.trans s1;have kb1:=kb.same s01;obtain ⟨dxq1,dq1,eq1,ka1⟩:=kb1.at_;refine ⟨_,rfl,q,dxq1,_,rfl,eq1,zCp _ (by decide +kernel),_,rfl,q,pk,rfl,kb1,fun H2 s2=>?_⟩;obtain ⟨dk,lk,tk,lv,k1,_⟩:=(kb1.same s2).k;refine ⟨pk,C,dk,_,_,rfl,k1,KC.cl,KC.nO,zC8 _ _ _,_,rfl,_,rfl,iteT ⟨sm 1 (by decide),fun l6 f6=>?_⟩⟩;have s3:=Same.new (o:=.lst [.non]) f6;have g6:(upd H2 l6 (.lst [.non])) l6=some (.lst [.non]):=zA1;generalize upd H2 l6 (.lst [.non])=H3 at s3 g6 ⊢;have s03:=(s01.trans s2).trans s3;have kb3:=kb.same s03;obtain ⟨dxq3,dq3,eq3,ka3⟩:=kb3.at_;refine ⟨_,rfl,q,dxq3,_,rfl,eq3,zCp _ (by decide +kernel),_,rfl,q,pk,rfl,kb3,fun H4 s4=>?_⟩;have s04:=s03.trans s4;refine ⟨_,rfl,q,pk,l,xs,rfl,kb.same s04,s04 _ _ hl,rl.same s04,fun le ys H5 g5 yl s5=>?_⟩;refine ⟨sm 0 (by decide),fun ln f7=>?_⟩;have s7:=Same.new (o:=.lst []) f7;have g7:(upd H5 ln (.lst [])) ln=some (.lst []):=zA1;have s17:=((s2.trans s3).trans (s4.trans s5)).trans s7;have s37:=(s4.trans s5).trans s7;have m5:le≠ln:=zA5 g5 f7;have m6:l6≠ln:=zA5 ((s4.trans s5) _ _ g6) f7;have m1:lo≠ln:=zA5 (((s2.trans s3).trans (s4.trans s5)) _ _ g1) f7;have hln:H ln=none:=((s04.trans s5)).free f7;generalize upd H5 ln (.lst [])=H6 at s7 g7 s17 s37 ⊢;have en6:=s17 _ _ (s1 _ _ en);have ef6:=s17 _ _ (s1 _ _ ef);have g16:=s17 _ _ g1;have g66:=s37 _ _ g6;have g56:=s7 _ _ g5;have s06:=(s04.trans s5).trans s7;refine ⟨_,rfl,_,rfl,dn,_,rfl,DPut.k (k:=Sum.inr "box") en6 (small1000 (by decide)),?_⟩;have nd1:∀ {b:Addr}{zs:List V},H6 b=some (.lst zs)→b≠dn:=fun e z=>by rw [z,en6] at e;cases e
  have nd2:∀ {b:Addr}{zs:List V},H6 b=some (.lst zs)→b≠df:=fun e z=>by rw [z,ef6] at e;cases e
  rw [show putK ([]:List (Key×V)) (Sum.inr "box") (V.ref ln)=[((Sum.inr "box" : Key),V.ref ln)] from rfl];have J0:∀ b o,H6 b=some o→b≠dn→(upd H6 dn (.dK [(Sum.inr "box",.ref ln)])) b=some o:=fun b o e n=>by rw [zA6 n];exact e
  have jn:(upd H6 dn (.dK [(Sum.inr "box",.ref ln)])) dn=some (.dK [(Sum.inr "box",.ref ln)]):=zA1;generalize upd H6 dn (.dK [(Sum.inr "box",.ref ln)])=H7 at J0 jn ⊢;have q6:=J0 _ _ g66 (nd1 g66);refine ⟨_,rfl,l6,rfl,⟨_,SqL.of q6⟩,zEa q6 ?_⟩
  refine ⟨_,rfl,le,rfl,⟨_,SqL.of (J0 _ _ g56 (nd1 g56))⟩,for_enum (K:=K) (a:=le) (xs:=ys) (fun i σ H'=>∃ (y9 y10 y11:Option V) (zs:List V) (kvs:List (Key×V)),σ = [some (.ref q),some (.ref l),some (.ref dn),some (.ref df),some (.str "box"),some .non,some (.ref l6),some (.ref le),some .non,y9,y10,y11]∧H' dn=some (.dK [(Sum.inr "box",.ref ln)])∧H' ln=some (.lst zs)∧zs.length≤i∧H' df=some (.dK kvs)∧kvs.length≤i∧H' le=some (.lst ys)∧H' l6=some (.lst [.non])∧H' lo=some (.lst [.str "box"])∧Same H H')
   ⟨_,_,_,[],[],rfl,jn,J0 _ _ g7 (nd1 g7),Z2 _,J0 _ _ ef6 (Ne.symm nnf),Z2 _,J0 _ _ g56 (nd1 g56),q6,J0 _ _ g16 (nd1 g16),fun b o e=>J0 _ _ (s06 _ _ e) (zA5 e fn1)⟩ (fun i σ H' _ ⟨_,_,_,_,_,_,_,_,_,_,_,z,_⟩=>SqL.of z) ?_ ?_⟩
  ·rintro i x σ H8 p8 hi ⟨y9,y10,y11,zs,kvs,rfl,r1,r2,r3,r4,r5,r6,r7,r8,r9⟩ f8;have i1:i < 1:=Z7 (List.getElem?_eq_some_iff.mp hi).1 yl;have s8:=Same.new (o:=.tup [.int (i:Nat),x]) f8;refine ⟨p8,_,rfl,SqT.of zA1,rfl,_,_,rfl,_,_,rfl,rfl,?_⟩;refine ⟨_,rfl,_,rfl,_,rfl,_,rfl,q,pk,i,rfl,kb.same (r9.trans s8),by omega,fun H9 s9=>?_⟩;have s89:=s8.trans s9;refine ⟨_,rfl,_,rfl,dn,.ref ln,rfl,?_,.inl ⟨rfl,_,SqL.of (s89 _ _ r2)⟩,_,rfl,ln,zs,_,rfl,rfl,s89 _ _ r2,small1000 (by omega),?_⟩
   ·have z:=DGet.k (k:=Sum.inr "box") (s89 _ _ r1);rw [show valV [((Sum.inr "box" : Key),V.ref ln)] (Sum.inr "box")=some (V.ref ln) from zAy rfl] at z;exact z
   have nlf:ln≠df:=fun z=>by rw [z,r4] at r2;cases r2
   have nln:ln≠dn:=fun z=>by rw [z,r1] at r2;cases r2
   have L2:∀ b o,H8 b=some o→b≠ln→b≠df→(upd (upd H9 ln (.lst (zs++[.str (bx i)]))) df (.dK (putK kvs (Sum.inr (bx i)) x))) b=some o:=fun b o e n1 n2=>by rw [zA6 n2,zA6 n1];exact s89 _ _ e
   refine ⟨_,rfl,_,rfl,_,rfl,df,_,rfl,DPut.k (k:=Sum.inr (bx i)) (by rw [zA6 (Ne.symm nlf)];exact s89 _ _ r4) (small1000 (by omega)),?_⟩;refine ⟨_,_,_,zs++[.str (bx i)],putK kvs (Sum.inr (bx i)) x,rfl,L2 _ _ r1 (Ne.symm nln) nnf,by rw [zA6 nlf];exact zA1,by rw [Zc];show zs.length + 1≤i + 1;omega,zA1,Za (zBv _ _ _) (by omega),L2 _ _ r6 m5 (fun z=>by rw [z,r4] at r6;cases r6),L2 _ _ r7 m6 (fun z=>by rw [z,r4] at r7;cases r7),L2 _ _ r8 m1 (fun z=>by rw [z,r4] at r8;cases r8),fun b o e=>L2 _ _ (r9 _ _ e) (zA5 e hln) (zA5 e hnf)⟩
  ·rintro σ H8 ⟨y9,y10,y11,zs,kvs,rfl,r1,r2,r3,r4,r5,r6,r7,r8,r9⟩;exact ⟨r7,r8,_,rfl,k df _ r9⟩
end
end L2.W
namespace L2.W
open PySem My
theorem KB.all {CK C:Addr}{H H':Hp}{q pk:Addr} (h:KB CK C H q pk) (k1:∀ b dx d,H b=some (.ins CK dx (ksF d))→H' b=some (.ins CK dx (ksF d))) (k2:∀ b dx l,H b=some (.ins C dx (kflds (.str "box") l .non))→H' b=some (.ins C dx (kflds (.str "box") l .non)))
  (k3:∀ b,Rd H b (.dK [(Sum.inr "box",.ref pk)])→Rd H' b (.dK [(Sum.inr "box",.ref pk)])) (k4:∀ b o,H b=some o→isSeq o→H' b=some o):KB CK C H' q pk:=by
 obtain ⟨⟨dx,d,e,r⟩,dk,l,t,lv,e1,e2,e3,e4⟩:=h;exact ⟨⟨dx,d,k1 _ _ _ e,k3 _ r⟩,dk,l,t,lv,k2 _ _ _ e1,k4 _ _ e2 trivial,k4 _ _ e3 trivial,k4 _ _ e4 trivial⟩
theorem But.seq {p CX dx:Addr}{fs:List (Str×V)}{H H':Hp} (hp:H p=some (.ins CX dx fs)) (b:But p H H') {a:Addr}{o:HO} (e:H a=some o) (s:isSeq o):H' a=some o:=b _ _ e fun z=>by rw [z,hp] at e;cases e;exact s
theorem KB.but {CK C CX p dx:Addr}{H H':Hp}{q pk:Addr}{fs:List (Str×V)} (h:KB CK C H q pk) (hp:H p=some (.ins CX dx fs)) (n1:∀ d,fs≠ksF d) (n2:∀ l,fs≠kflds (.str "box") l .non) (b:But p H H'):KB CK C H' q pk:=by
 refine h.all (fun a x d e=>b _ _ e fun z=>?_) (fun a x l e=>b _ _ e fun z=>?_) (fun a r=>?_) fun a o e s=>b.seq hp e s
 ·rw [z,hp] at e;injection e with e;injection e with _ _ e;exact n1 _ e
 ·rw [z,hp] at e;injection e with e;injection e with _ _ e;exact n2 _ e
 ·have na:a≠p:=fun z=>by rw [z] at r;rcases r with r | ⟨o,r⟩ <;> rw [hp] at r <;> cases r
  rcases r with r | ⟨o,r⟩
  ·exact .inl (b _ _ r na)
  ·exact .inr ⟨o,b _ _ r na⟩
theorem RL.but {p CX dx:Addr}{fs:List (Str×V)}{H H':Hp}{xs:List V} (hp:H p=some (.ins CX dx fs)) (b:But p H H') (h:RL H xs):RL H' xs:=⟨h.1,fun x hx=>let ⟨t,l0,e,e1,e2⟩:=h.2 x hx;⟨t,l0,e,b.seq hp e1 trivial,b.seq hp e2 trivial⟩⟩
section
variable {P:Program}{w:World}{K:PySem.W.Frag}{mg:Str→Option Value}{base:Heap}{CX:CXT}
variable {CK C fOf fOr fIk fO2 fOw fn fw fps:Addr}{dOf dOr fdn fdw fdps:FuncData}
theorem scWi:FnScope ["self", "kinds", "rows"] ["self", "kinds", "rows"] (defScope sInitW):=⟨rfl,rfl,rfl,by decide +kernel,rfl,by decide +kernel,by decide +kernel⟩
theorem ok_wi {f CW fa fc fb:Addr}{fd fda fdc fdb:FuncData} (A:WA P w K mg base CX CK C fOf fOr fIk fO2 fOw fn fw fps dOf dOr fdn fdw fdps) (KI:KIsi K CK) (L:DCo K CW nosW) (F:Fun K "__init__" "Wishes.__init__" sInitW f fd)
  (DA:Def K mg "are_rows" sAreRows ["kinds", "things"] fa fda) (GA:FnOk P w K mg base CX 5 fa fda ["kinds", "things"] (spRws CK C)) (DC:Def K mg "count_wished" sCountW ["kinds", "rows"] fc fdc) (GC:FnOk P w K mg base CX 3 fc fdc ["kinds", "rows"] (spCw CK C))
  (DB:Def K mg "wished_by_name" sWBy ["kinds", "rows"] fb fdb) (GB:FnOk P w K mg base CX 5 fb fdb ["kinds", "rows"] (spWb CK C)):FnOk P w K mg base CX 6 f fd ["self", "kinds", "rows"] (spWi CW CK C):=by
 have hC:=A.hC;have T:=A.T;refine Fun.okC F scWi (fun vs H Q E h=>?_) (fun cdv Ar outer s H vs Q E hr h=>?_)
 ·obtain ⟨p,dx,q,pk,l,xs,rfl,_⟩:=h;rfl
 ·obtain ⟨p,dx,q,pk,l,xs,rfl,hp,kb,hl,rl,k⟩:=h;have nd:=scWi.nd;have hr3:=hr.mono (show 3≤5 by decide);obtain ⟨tm,hmost⟩:=T.mostW
  refine ⟨_,zA2 (zAj (zAm (zAk (zA9 zAg rfl T.isinst PyProof.Rows.boot_isinstance (zA0 (pv 1) (zA0 (zBc (v:=.ref CK) rfl A.KS.mgC rfl) zA3)))))
     zAc zAa)
     (zA2 (zAj (zAm (zAk (zA8 GA hr rfl DA.at_ DA.fn.kp DA.bind .nil (passC hC) (zA0 (pv 1) (zA0 (pv 2) zA3)))))
     zAc zAa)
     (zA2 (zAj (zAh op_gt (zA8 GC hr3 rfl DC.at_ DC.fn.kp DC.bind .nil (passC hC) (zA0 (pv 1) (zA0 (pv 2) zA3))) (zBc (v:=.int 60) rfl hmost ⟨_,rfl⟩) (nomark _))
     zAc zAa)
     (zA2 (zAp (pv 0) (pv 1) rfl)
     (zA2 (zAp (pv 0) (zAr (T:=["row"]) rfl ScOk.auto (zAn (pv 2)) (fun _ _ _ _=>zAf (i:=3) (by decide +kernel:(["self", "kinds", "rows", "row"]:List Str).Nodup) rfl (Or.inl rfl)) (fun _ _ _ _=>zB3) (fun _ _ _ _=>(zBr (zA0 (zAu (r:=rIxT K) zAq (pv 3) zA7 (fun _ _=>rfl)) (zA0 (zAu (r:=rIxT K) zAq (pv 3) zA7 (fun _ _=>rfl)) (zA0 (zB1 (r:=fun xs H Q=>∃ p ys,xs=[.ref p]∧(SqL K H p ys∨SqT K H p ys)∧∀ l,H l=none→Q (.ref l) (upd H l (.lst ys))) zDq rfl T.list PyProof.Rows.boot_list (zA0 (zAu (r:=rIxT K) zAq (pv 3) zA7 (fun _ _=>rfl)) zA3)) zA3)))))) rfl)
     (zA4 (zAp (pv 0) (zA8 GB hr rfl DB.at_ DB.fn.kp DB.bind .nil (passC hC) (zA0 (pv 1) (zA0 (pv 2) zA3))) rfl)))))),?_⟩
  obtain ⟨dxq,dq,eq,ka⟩:=kb.at_;refine ⟨_,rfl,_,_,_,_,_,rfl,.ins eq A.KS.cl KI.ha KI.hn KI.htk KI.hm,rfl,KI.one,_,rfl,iteF ?_⟩;refine ⟨_,rfl,_,rfl,q,pk,l,xs,rfl,kb,hl,rl,fun H1 s1=>⟨_,rfl,iteF ⟨_,rfl,_,rfl,q,pk,l,xs,rfl,kb.same s1,s1 _ _ hl,rl.same s1,fun n H2 hn s2=>⟨_,_,rfl,rfl,_,rfl,ite2 (fun h=>absurd (of_decide_eq_true h) (by omega)) fun _=>?_⟩⟩⟩⟩;have s12:=s1.trans s2;refine ⟨_,rfl,_,rfl,p,CW,dx,[],rfl,s12 _ _ hp,L.cl,L.no _ (.head _),(by show 0 < 1000;decide),?_⟩;have k4:But p H (upd H2 p (.ins CW dx (putF "kinds" (.ref q) []))):=fun b o e hb=>by rw [zA6 hb];exact s12 _ _ e
  have hp4:(upd H2 p (.ins CW dx (putF "kinds" (.ref q) []))) p=some (.ins CW dx (putF "kinds" (.ref q) [])):=zA1;generalize upd H2 p (.ins CW dx (putF "kinds" (.ref q) []))=H4 at k4 hp4 ⊢;have hl4:=k4.seq hp hl trivial;have rl4:=rl.but hp k4;refine ⟨_,rfl,l,rfl,⟨xs,SqL.of hl4⟩,zAo (xs:=xs) (fun i ys H'=>Same H4 H'∧RL H' ys∧ys.length≤i) ⟨Same.refl _,⟨Zl _,fun x hx=>by cases hx⟩,Z2 _⟩ (fun i ys H' z=>SqL.of (z.1 _ _ hl4)) (fun i ys H' hi z=>Zd (small1000 (Za z.2.1.1 (by decide)))) ?_ ?_⟩
  ·rintro i x ys H' hi ⟨s5,hy,hyl⟩ N hN;obtain ⟨rfl,e⟩:=one_all rl.1 hi;obtain ⟨t,l0,rfl,e1,e2⟩:=(rl4.same s5).2 x (by rw [e];exact .head _);have y0:ys=[]:=List.eq_nil_of_length_eq_zero (by omega);subst y0;refine pick ⟨_,rfl,t,_,_,_,rfl,rfl,SqT.of e1,rfl,_,rfl,t,_,_,_,rfl,rfl,SqT.of e1,rfl,_,rfl,t,_,_,_,rfl,rfl,SqT.of e1,rfl,l0,_,rfl,.inl (SqL.of e2),fun l2 hl2=>⟨by show 3≤sizeLine;decide,fun t2 ht2=>hN _ _ ⟨(s5.trans (Same.new hl2)).trans (Same.new ht2),⟨Z2 _,fun x hx=>?_⟩,Z2 _⟩⟩⟩;rw [List.mem_singleton.mp hx];exact ⟨t2,l2,rfl,zA1,(Same.new ht2) _ _ zA1⟩
  ·rintro ys H' ⟨s5,hy,_⟩ lr hlr;have s6:Same H4 (upd H' lr (.lst ys)):=s5.trans (Same.new hlr);have e6:(upd H' lr (.lst ys)) lr=some (.lst ys):=zA1;have y6:=hy.same (Same.new (o:=.lst ys) hlr);generalize upd H' lr (.lst ys)=H6 at s6 e6 y6 ⊢;have hp6:=s6 _ _ hp4;refine ⟨_,rfl,p,CW,dx,_,rfl,hp6,L.cl,L.no _ (.tail _ (.head _)),(by show 1 < 1000;decide),?_⟩;have b7:But p H6 (upd H6 p (.ins CW dx (putF "rows" (.ref lr) (putF "kinds" (.ref q) [])))):=fun b o e hb=>by rw [zA6 hb];exact e
   have k7:But p H (upd H6 p (.ins CW dx (putF "rows" (.ref lr) (putF "kinds" (.ref q) [])))):=fun b o e hb=>by rw [zA6 hb];exact s6 _ _ (k4 _ _ e hb)
   have hp7:(upd H6 p (.ins CW dx (putF "rows" (.ref lr) (putF "kinds" (.ref q) [])))) p=some (.ins CW dx (putF "rows" (.ref lr) (putF "kinds" (.ref q) []))):=zA1;generalize upd H6 p (.ins CW dx (putF "rows" (.ref lr) (putF "kinds" (.ref q) [])))=H7 at b7 k7 hp7 ⊢;refine ⟨_,rfl,_,rfl,q,pk,l,xs,rfl,kb.but hp (fun d z=>nomatch z) (fun l z=>nomatch z) k7,k7.seq hp hl trivial,rl.but hp k7,fun df H9 s9=>?_⟩;have hp9:=s9 _ _ hp7;refine ⟨_,rfl,p,CW,dx,_,rfl,hp9,L.cl,L.no _ (.tail _ (.tail _ (.head _))),(by show 2 < 1000;decide),?_⟩;have b9:But p H9 (upd H9 p (.ins CW dx (putF "by_name" (.ref df) (putF "rows" (.ref lr) (putF "kinds" (.ref q) []))))):=fun b o e hb=>by rw [zA6 hb];exact e
   exact k _ lr df ys zA1 (b9.seq hp9 (s9 _ _ (b7.seq hp6 e6 trivial)) trivial) (((y6.but hp6 b7).same s9).but hp9 b9) fun b o e hb=>b9 _ _ (s9 _ _ (k7 _ _ e hb)) hb
end
end L2.W
namespace L2.W
open PySem My
theorem KB.dct {CK C:Addr}{H H':Hp}{q pk d:Addr}{kvs:List (Key×V)} (h:KB CK C H q pk) (r:Rd H d (.dK kvs)) (n:[((Sum.inr "box" : Key),V.ref pk)]≠kvs) (k:∀ b o,H b=some o→b≠d→H' b=some o):KB CK C H' q pk:=by
 have ne:∀ {b:Addr}{o:HO},H b=some o→(∀ kvs,o≠.dK kvs)→(∀ x u,o≠.frz x u)→H' b=some o:=fun {b o} e h1 h2=>k b o e fun z=>by
  rw [z] at e;rcases r with r | ⟨x,r⟩
  ·rw [r] at e;cases e;exact h1 _ rfl
  ·rw [r] at e;cases e;exact h2 _ _ rfl
 refine h.all (fun b x d e=>ne e (fun _ z=>nomatch z) fun _ _ z=>nomatch z) (fun b x d e=>ne e (fun _ z=>nomatch z) fun _ _ z=>nomatch z) (fun b e=>?_) fun b o e s=>ne e (fun _ z=>by rw [z] at s;exact s) fun _ _ z=>by rw [z] at s;exact s
 have nb:=rd_ne e r n;rcases e with e | ⟨o,e⟩
 ·exact .inl (k _ _ e nb)
 ·exact .inr ⟨o,k _ _ e nb⟩
noncomputable abbrev lim1:List (Key×V):=[(Sum.inr "box",V.int 1)]
theorem lim_ne {pk:Addr}:[((Sum.inr "box" : Key),V.ref pk)]≠lim1:=fun z=>by cases z
noncomputable def spLm (CK C:Addr):Sp:=fun vs H Q _=>∃ (q pk dl:Addr),vs=[.ref q,.ref dl]∧KB CK C H q pk∧H dl=some (.dK lim1)∧∀ H',(∀ b o,H b=some o→b≠dl→H' b=some o)→Rd H' dl (.dK lim1)→Q (.bl true) H'
structure LkE (CLo CK C:Addr) (H:Hp) (lo q pk dt:Addr):Prop where
 p:∃ dx dl dd wv,H lo=some (.ins CLo dx (loF (.ref q) (.ref dl) (.ref dt) wv (.int 0) (.ref dd)))∧Rd H dl (.dK lim1)
 d:Rd H dt (.dK [])
 kb:KB CK C H q pk
noncomputable def spThE (CLo CK C:Addr):Sp:=fun vs H Q _=>∃ (lo q pk dt:Addr),vs=[.ref lo,.str (bx 0)]∧LkE CLo CK C H lo q pk dt∧Q .non H
noncomputable def spFuE (CLo CK C:Addr):Sp:=fun vs H Q _=>∃ (lo q pk dt:Addr),vs=[.ref lo,.str "box"]∧LkE CLo CK C H lo q pk dt∧∀ H',(∀ b o,H b=some o→b≠dt→H' b=some o)→Q (.bl false) H'
section
variable {P:Program}{w:World}{K:PySem.W.Frag}{mg:Str→Option Value}{base:Heap}{CX:CXT}
variable {CK C fOf fOr fIk fO2 fOw fn fw fps:Addr}{dOf dOr fdn fdw fdps:FuncData}
theorem scLm:FnScope ["kinds", "thing"] ["kinds", "thing"] (defScope sAreLimits):=⟨rfl,rfl,rfl,by decide +kernel,rfl,by decide +kernel,by decide +kernel⟩
theorem ok_lm {f ff:Addr}{fd fdf:FuncData} (A:WA P w K mg base CX CK C fOf fOr fIk fO2 fOw fn fw fps dOf dOr fdn fdw fdps) (F:Fun K "are_limits" "are_limits" sAreLimits f fd) (DF:Def K mg "is_whole_from" sWholeFrom ["least", "thing"] ff fdf) (GF:FnOk P w K mg base CX 2 ff fdf ["least", "thing"] spWF):FnOk P w K mg base CX 3 f fd ["kinds", "thing"] (spLm CK C):=by
 have hC:=A.hC;have T:=A.T;have GN:FnOk P w K mg base CX 1 fn fdn ["thing"] (spIsName K):=ok_isName A.N.fn T;refine Fun.okC F scLm (fun vs H Q E h=>?_) (fun cdv Ar outer s H vs Q E hr h=>?_)
 ·obtain ⟨q,pk,dl,rfl,_⟩:=h;rfl
 ·obtain ⟨q,pk,dl,rfl,kb,hl,k⟩:=h;have hr1:=hr.mono (show 1≤2 by decide)
  refine ⟨_,zA2 (zAj (zAm (zAk (zA9 zAg rfl T.isinst PyProof.Rows.boot_isinstance (zA0 (pv 1) (zA0 (zB2 (v:=.ty "dict") rfl T.dict PyProof.Rows.boot_dict rfl) zA3)))))
     (zA4 (zAb zBq)) zAa)
     (zA2 (zAj (zAm (zAk (zA9 (zBb rfl) rfl T.all PyProof.Rows.boot_all (zA0 (zAr (T:=["kind"]) rfl ScOk.auto (zDv (pv 1)) (fun _ _ _ _=>zAf (i:=2) (by decide +kernel:(["kinds", "thing", "kind"]:List Str).Nodup) rfl (Or.inl rfl)) (fun _ _ _ _=>zB3) (fun _ _ _ _=>(zC1 (zA8 GN hr1 rfl A.N.at_ A.N.fn.kp A.N.bind .nil (passC hC) (zA0 (pv 2) zA3)) (zCe (zBk (r:=rIn K false) zE3 (pv 2) (zBd (pv 0) A.KS.cl A.mR A.GR hr1 A.bR .nil (passC hC)) rfl))))) zA3))))
     (zA4 (zAb zBq)) zAa)
     (zA4 (zAb (zA9 (zBb rfl) rfl T.all PyProof.Rows.boot_all (zA0 (zAr (T:=["many"]) rfl ScOk.auto (pi_view (zD2 (pv 1))) (fun _ _ _ _=>zAf (i:=2) (by decide +kernel:(["kinds", "thing", "many"]:List Str).Nodup) rfl (Or.inl rfl)) (fun _ _ _ _=>zB3) (fun _ _ _ _=>(zA8 GF hr rfl DF.at_ DF.fn.kp DF.bind .nil (passC hC) (zA0 zA7 (zA0 (pv 2) zA3))))) zA3))))),?_⟩
  refine ⟨_,rfl,_,_,_,_,_,rfl,.dK hl,rfl,rfl,_,rfl,iteF ⟨_,rfl,dl,_,rfl,.inl hl,fun o=>?_⟩⟩;refine zEe (fun i ys H'=>(∀ b o',H b=some o'→b≠dl→H' b=some o')∧H' dl=some (.frz o (.dK lim1))∧ys=List.replicate i (V.bl true)) ⟨fun b o' e n=>by rw [zA6 n];exact e,zA1,rfl⟩ (fun i ys H' z=>z.2.1) (fun i ys H' hi z=>by rw [z.2.2,Zi];exact Zd (small1000 (Za hi (by show 1≤1000;decide)))) ?_ ?_
  ·rintro i k' x ys H' hi ⟨kp,fz,rfl⟩ N hN;have il:=(List.getElem?_eq_some_iff.mp hi).1;have i0:i=0:=by simpa using il
   subst i0;cases hi;refine pick ⟨_,rfl,.inl ⟨"box",rfl,by decide +kernel,fun H2 s2=>?_⟩⟩;rw [show nameB "box" = true by decide +kernel];have kb2:=(kb.dct (.inl hl) lim_ne kp).same s2;obtain ⟨dxq,dq,eq,ka⟩:=kb2.at_;refine ⟨_,rfl,iteT ⟨_,rfl,_,rfl,q,dxq,_,rfl,eq,zCp _ (by decide +kernel),q,dq,_,rfl,ka,fun lo flo=>⟨lo,_,rfl,.inl (SqL.of zA1),rfl,rfl,hN _ _ ⟨fun b o' e n=>(Same.new flo) _ _ (s2 _ _ (kp _ _ e n)),(Same.new flo) _ _ (s2 _ _ fz),rfl⟩⟩⟩⟩
  ·rintro ys H' ⟨kp,fz,rfl⟩ c hc;have kp1:∀ b o',H b=some o'→b≠dl→(upd H' c (.lst (List.replicate 1 (V.bl true)))) b=some o':=fun b o' e n=>(Same.new hc) _ _ (kp _ _ e n);have fz1:(upd H' c (.lst (List.replicate 1 (V.bl true)))) dl=some (.frz o (.dK lim1)):=(Same.new hc) _ _ fz;have hc1:(upd H' c (.lst (List.replicate 1 (V.bl true)))) c=some (.lst (List.replicate 1 (V.bl true))):=zA1;refine ⟨c,[true],rfl,SqL.of hc1,_,rfl,iteF ?_⟩;generalize upd H' c (.lst (List.replicate 1 (V.bl true)))=H1 at kp1 fz1 hc1 ⊢;refine ⟨_,rfl,dl,_,rfl,.inr ⟨_,fz1⟩,fun v hv=>⟨v,dl,_,rfl,zA1,.inr ⟨o,(Same.new hv) _ _ fz1⟩,fun o2=>?_⟩⟩;refine comp_vals (fun i ys H'=>(∀ b o',H b=some o'→b≠dl→H' b=some o')∧H' dl=some (.frz o2 (.dK lim1))∧ys=List.replicate i (V.bl true)) ⟨fun b o' e n=>by rw [zA6 n];exact (Same.new hv) _ _ (kp1 _ _ e n),zA1,rfl⟩ (fun i ys H' z=>z.2.1) (fun i ys H' hi z=>by rw [z.2.2,Zi];exact Zd (small1000 (Za hi (by show 1≤1000;decide)))) ?_ ?_
   ·rintro i k' x ys H' hi ⟨kp,fz,rfl⟩ N hN;have il:=(List.getElem?_eq_some_iff.mp hi).1;have i0:i=0:=by simpa using il
    subst i0;cases hi;exact pick ⟨_,rfl,0,1,rfl,hN _ _ ⟨kp,fz,rfl⟩⟩
   ·rintro ys H' ⟨kp,fz,rfl⟩ c2 hc2;exact ⟨c2,[true],rfl,SqL.of zA1,k _ (fun b o e n=>(Same.new hc2) _ _ (kp _ _ e n)) (.inr ⟨_,(Same.new hc2) _ _ fz⟩)⟩
theorem ok_thE {f CLo CK C:Addr}{fd:FuncData} (T:Tops K mg) (L:DCo K CLo nosL) (F:Fun K "thing" "Look.thing" sLThing f fd):FnOk P w K mg base CX 1 f fd ["self", "name"] (spThE CLo CK C):=by
 refine Fun.okC F scTh (fun vs H Q E h=>?_) (fun cdv Ar outer s H vs Q E hr h=>?_)
 ·obtain ⟨lo,q,pk,dt,rfl,_⟩:=h;rfl
 ·obtain ⟨lo,q,pk,dt,rfl,lk,k⟩:=h;have hu:=zDb hr;refine ⟨_,zA4 (zAb (zBe (zAk (zA9 zAg rfl T.isinst PyProof.Rows.boot_isinstance (zA0 (pv 1) (zA0 (zB2 (v:=.ty "str") rfl T.str PyProof.Rows.boot_str rfl) zA3)))) (zC7 hu (zAe (pv 0) rfl) (pv 1) ⟨rfl,rfl,rfl,rfl⟩) zBp)),?_⟩;obtain ⟨dx,dl,dd,wv,e1,_⟩:=lk.p;exact ⟨_,rfl,_,_,_,_,_,rfl,.str _,rfl,rfl,_,rfl,iteT ⟨_,rfl,lo,CLo,dx,_,_,rfl,e1,L.cl,L.no _ (.tail _ (.tail _ (.head _))),lo_t,dt,rfl,.inl ⟨_,lk.d⟩,_,rfl,none,.inl ⟨_,Sum.inr (bx 0),lk.d,rfl,rfl⟩,k⟩⟩
theorem ok_fuE {f CLo CK C fI fp fOf fIk fOr fOw:Addr}{fd fdp fdf:FuncData} (hC:Calm CX) (T:Tops K mg) (L:DCo K CLo nosL) (KC:KCls K mg C fI) (KS:KsCls K mg CK fIk fOr fOf fOw) (F:Fun K "is_full" "Look.is_full" sLFull f fd) (DP:Def K mg "parts_of" sPartsOf ["kinds", "name"] fp fdp) (GP:FnOk P w K mg base CX 3 fp fdp ["kinds", "name"] (spPtB CK C)) (GO:FnOk P w K mg base CX 2 fOf fdf ["self", "name"] (spOfB CK C)) (bO:Binds K fdf ["self", "name"] []):FnOk P w K mg base CX 4 f fd ["self", "kind"] (spFuE CLo CK C):=by
 refine Fun.okC F scFu (fun vs H Q E h=>?_) (fun cdv Ar outer s H vs Q E hr h=>?_)
 ·obtain ⟨lo,q,pk,dt,rfl,_⟩:=h;rfl
 ·obtain ⟨lo,q,pk,dt,rfl,lk,k⟩:=h;have nd:=scFu.nd;have hu:=zDb hr;have hr2:=hr.mono (show 2≤3 by decide)
  refine ⟨_,zA2 (zAd (i:=2) nd rfl (Or.inl rfl) (zC7 hu (zAe (pv 0) rfl) (zAe (zAl (zAe (pv 0) rfl) KS.cl KS.mOf GO hr2 bO .nil (passC hC) (zA0 (pv 1) zA3)) rfl) ⟨rfl,rfl,rfl,rfl⟩))
     (zA2 (zAj (zB8 (zBx (pv 2)))
     (zA4 (zAb zBq)) zAa)
     (zA4 (zAb (zBk op_ge (zA9 zAv rfl T.len PySem.boot_len (zA0 (zAr (T:=["name"]) rfl ScOk.auto (zDv (zAe (pv 0) rfl)) (fun _ _ _ _=>zAf (i:=3) (by decide +kernel:(["self", "kind", "limit", "name"]:List Str).Nodup) rfl (Or.inl rfl)) (fun _ _ _ _=>zDx (zAh zCt (zAu (r:=rIxT K) zAq (zA8 GP hr rfl DP.at_ DP.fn.kp DP.bind .nil (passC hC) (zA0 (zBy (K:=K) rfl (pv 0) rfl) (zA0 (pv 3) zA3))) zA7 (fun _ _=>rfl)) (pv 1) (nomark _))) (fun _ _ _ _=>(pv 3))) zA3)) (pv 2) (nomark _))))),?_⟩
  obtain ⟨dx,dl,dd,wv,e1,e2⟩:=id lk.p;obtain ⟨dxq,dq,eq,_⟩:=lk.kb.at_;refine ⟨_,rfl,lo,CLo,dx,_,_,rfl,e1,L.cl,L.no _ (.tail _ (.head _)),lo_l,dl,rfl,.inl ⟨_,e2⟩,_,rfl,lo,CLo,dx,_,_,rfl,e1,L.cl,L.no _ (.head _),lo_k,q,dxq,_,rfl,eq,zCp _ (by decide +kernel),_,rfl,q,pk,rfl,lk.kb,fun H1 s1=>?_⟩;obtain ⟨dk,l,t,lv,k1,_⟩:=(lk.kb.same s1).k;have e2':=zBf s1 e2;refine ⟨pk,C,dk,_,_,rfl,k1,KC.cl,KC.nN,zCv _ _ _,some (.int 1),.inl ⟨_,Sum.inr "box",e2',rfl,(show valV [((Sum.inr "box" : Key),V.int 1)] (Sum.inr "box")=some (V.int 1) from zAy rfl).symm⟩,_,rfl,_,rfl,iteF ?_⟩;have e1':=s1 _ _ e1;refine ⟨_,rfl,lo,CLo,dx,_,_,rfl,e1',L.cl,L.no _ (.tail _ (.tail _ (.head _))),lo_t,dt,_,rfl,zBf s1 lk.d,fun o=>zEe (fun i ys H'=>(∀ b o',H1 b=some o'→b≠dt→H' b=some o')∧H' dt=some (.frz o (.dK []))∧ys=[]) ⟨fun b o' e n=>by rw [zA6 n];exact e,zA1,rfl⟩ (fun i ys H' z=>z.2.1) (fun i ys H' hi z=>by rw [z.2.2];exact Zl _) (fun i k' x ys H' hi=>by cases hi) ?_⟩;rintro ys H' ⟨kp,fz,rfl⟩ c hc;exact ⟨c,_,rfl,.inl (SqL.of zA1),_,rfl,_,_,rfl,rfl,k _ fun b o e n=>(Same.new hc) _ _ (kp _ _ (s1 _ _ e) n)⟩
end
end L2.W
namespace L2.W
open PySem My
noncomputable def woF (k l t:V) (m:Int) (w:V) (n:Int) (d:V):List (Str×V):=putF "last_done" d (putF "wishing" (.int n) (putF "wishes" w (putF "marks" (.int m) (putF "things" t (putF "limits" l (putF "kinds" k []))))))
theorem wo_k {k l t w d:V}{m n:Int}:(woF k l t m w n d).lookup ("kinds" : Str)=some k:=lk2 (by decide +kernel) (lk2 (by decide +kernel) (lk2 (by decide +kernel) (lk2 (by decide +kernel) (lk2 (by decide +kernel) (lk2 (by decide +kernel) lk1)))))
theorem wo_l {k l t w d:V}{m n:Int}:(woF k l t m w n d).lookup ("limits" : Str)=some l:=lk2 (by decide +kernel) (lk2 (by decide +kernel) (lk2 (by decide +kernel) (lk2 (by decide +kernel) (lk2 (by decide +kernel) lk1))))
theorem wo_t {k l t w d:V}{m n:Int}:(woF k l t m w n d).lookup ("things" : Str)=some t:=lk2 (by decide +kernel) (lk2 (by decide +kernel) (lk2 (by decide +kernel) (lk2 (by decide +kernel) lk1)))
theorem wo_m {k l t w d:V}{m n:Int}:(woF k l t m w n d).lookup ("marks" : Str)=some (.int m):=lk2 (by decide +kernel) (lk2 (by decide +kernel) (lk2 (by decide +kernel) lk1))
theorem wo_w {k l t w d:V}{m n:Int}:(woF k l t m w n d).lookup ("wishes" : Str)=some w:=lk2 (by decide +kernel) (lk2 (by decide +kernel) lk1)
theorem wo_n {k l t w d:V}{m n:Int}:(woF k l t m w n d).lookup ("wishing" : Str)=some (.int n):=lk2 (by decide +kernel) lk1
theorem wo_d {k l t w d:V}{m n:Int}:(woF k l t m w n d).lookup ("last_done" : Str)=some d:=lk1
theorem zEu {k l t w d:V}{m n:Int}{g:Str} (hg:(decide (g = "last_done") || (decide (g = "wishing") || (decide (g = "wishes") || (decide (g = "marks") || (decide (g = "things") || (decide (g = "limits") || decide (g = "kinds")))))))=false):(woF k l t m w n d).lookup g=none:=by
 simp only [Bool.or_eq_false_iff] at hg;exact lk0 hg.1 (lk0 hg.2.1 (lk0 hg.2.2.1 (lk0 hg.2.2.2.1 (lk0 hg.2.2.2.2.1 (lk0 hg.2.2.2.2.2.1 (lk0 hg.2.2.2.2.2.2 rfl))))))
theorem wo_pm {k l t w d:V}{m n i:Int}:putF "marks" (.int i) (woF k l t m w n d)=woF k l t i w n d:=by rfl
theorem wo_pw {k l t w d v:V}{m n:Int}:putF "wishes" v (woF k l t m w n d)=woF k l t m v n d:=by rfl
theorem wo_pn {k l t w d:V}{m n i:Int}:putF "wishing" (.int i) (woF k l t m w n d)=woF k l t m w i d:=by rfl
theorem wo_len {k l t w d:V}{m n:Int}:(woF k l t m w n d).length < 1000:=by show 7 < 1000;decide
noncomputable def nosWo:List Str:=["kinds", "limits", "things", "marks", "wishes", "wishing", "last_done"]
noncomputable def spWoI (CWo CK C:Addr):Sp:=fun vs H Q _=>∃ (p dx q pk dl:Addr),vs=[.ref p,.ref q,.ref dl]∧H p=some (.ins CWo dx [])∧KB CK C H q pk∧H dl=some (.dK lim1) ∧
 ∀ H' dl' dt dd wv,H' p=some (.ins CWo dx (woF (.ref q) (.ref dl') (.ref dt) 0 wv 0 (.ref dd)))→H' dl'=some (.dK lim1)→H' dt=some (.dK [])→H' dd=some (.dK [])→dt≠dd→H dl'=none→H dt=none→H dd=none→(∀ b o,H b=some o→b≠p→b≠dl→H' b=some o)→Q .non H'
noncomputable def spLook (CWo CLo:Addr):Sp:=fun vs H Q _=>∃ (p dx q dl dt dd:Addr) (m n:Int) (wv:V) (kl kt kd:List (Key×V)),vs=[.ref p]∧H p=some (.ins CWo dx (woF (.ref q) (.ref dl) (.ref dt) m wv n (.ref dd)))∧Rd H dl (.dK kl)∧Rd H dt (.dK kt)∧Rd H dd (.dK kd) ∧
 ∀ H' lo dxl dl' dt' dd',H' lo=some (.ins CLo dxl (loF (.ref q) (.ref dl') (.ref dt') wv (.int n) (.ref dd')))→H' dl'=some (.dK kl)→H' dt'=some (.dK kt)→H' dd'=some (.dK kd)→H dt'=none→Same H H'→Q (.ref lo) H'
noncomputable def spKe (CWo:Addr):Sp:=fun vs H Q _=>∃ (p dx a dt:Addr) (q dl dd:V) (m n:Int) (wv:V) (x:Str) (kvs:List (Key×V)),vs=[.ref p,.str x,.ref a]∧H p=some (.ins CWo dx (woF q dl (.ref dt) m wv n dd))∧H dt=some (.dK kvs)∧kvs.length≤10 ∧
 ∀ H' tt,H' tt=some (.tup [.ref a,.int (m + 1)])→H' dt=some (.dK (putK kvs (Sum.inr x) (.ref tt)))→H' p=some (.ins CWo dx (woF q dl (.ref dt) (m + 1) wv n dd))→H tt=none→(∀ b o,H b=some o→b≠p→b≠dt→H' b=some o)→Q .non H'
section
variable {P:Program}{w:World}{K:PySem.W.Frag}{mg:Str→Option Value}{base:Heap}{CX:CXT}
variable {CK C fOf fOr fIk fO2 fOw fn fw fps:Addr}{dOf dOr fdn fdw fdps:FuncData}
theorem scWoI:FnScope ["self", "kinds", "limits"] ["self", "kinds", "limits"] (defScope sInitWo):=⟨rfl,rfl,rfl,by decide +kernel,rfl,by decide +kernel,by decide +kernel⟩
theorem scLook:FnScope ["self"] ["self"] (defScope sLook):=⟨rfl,rfl,rfl,by decide +kernel,rfl,by decide +kernel,by decide +kernel⟩
theorem scKe:FnScope ["self", "name", "state"] ["self", "name", "state"] (defScope sKeep):=⟨rfl,rfl,rfl,by decide +kernel,rfl,by decide +kernel,by decide +kernel⟩
theorem ok_ke {f CWo:Addr}{fd:FuncData} (L:DCo K CWo nosWo) (F:Fun K "keep" "World.keep" sKeep f fd):FnOk P w K mg base CX 1 f fd ["self", "name", "state"] (spKe CWo):=by
 refine Fun.okC F scKe (fun vs H Q E h=>?_) (fun cdv Ar outer s H vs Q E hr h=>?_)
 ·obtain ⟨p,dx,a,dt,q,dl,dd,m,n,wv,x,kvs,rfl,_⟩:=h;rfl
 ·obtain ⟨p,dx,a,dt,q,dl,dd,m,n,wv,x,kvs,rfl,hp,ht,kl,k⟩:=h;have hu:=zDb hr;have nd:=scKe.nd
  refine ⟨_,zA2 (zAp (pv 0) (zAt zBs (zAe (pv 0) rfl) zA7) rfl)
     (zA4 (zC6 hu (zAe (pv 0) rfl) (pv 1) (zBr (zA0 (pv 2) (zA0 (zAe (pv 0) rfl) zA3))) rfl)),?_⟩
  refine ⟨_,rfl,p,CWo,dx,_,_,rfl,hp,L.cl,L.no _ (.tail _ (.tail _ (.tail _ (.head _)))),wo_m,_,_,rfl,rfl,_,rfl,p,CWo,dx,_,rfl,hp,L.cl,L.no _ (.tail _ (.tail _ (.tail _ (.head _)))),wo_len,?_⟩;rw [wo_pm];have ntp:dt≠p:=fun z=>by rw [z,hp] at ht;cases ht
  have hp1:(upd H p (.ins CWo dx (woF q dl (.ref dt) (m + 1) wv n dd))) p=some (.ins CWo dx (woF q dl (.ref dt) (m + 1) wv n dd)):=zA1;have ht1:(upd H p (.ins CWo dx (woF q dl (.ref dt) (m + 1) wv n dd))) dt=some (.dK kvs):=by rw [zA6 ntp];exact ht
  have b1:But p H (upd H p (.ins CWo dx (woF q dl (.ref dt) (m + 1) wv n dd))):=fun b o e nb=>by rw [zA6 nb];exact e
  generalize upd H p (.ins CWo dx (woF q dl (.ref dt) (m + 1) wv n dd))=H1 at hp1 ht1 b1 ⊢;refine ⟨_,rfl,_,rfl,p,CWo,dx,_,_,rfl,hp1,L.cl,L.no _ (.tail _ (.tail _ (.tail _ (.head _)))),wo_m,Zd (small1000 (n:=2) (by decide)),fun tt ft=>?_⟩;have s2:=Same.new (o:=.tup [.ref a,.int (m + 1)]) ft;have e2:(upd H1 tt (.tup [.ref a,.int (m + 1)])) tt=some (.tup [.ref a,.int (m + 1)]):=zA1;generalize upd H1 tt (.tup [.ref a,.int (m + 1)])=H2 at s2 e2 ⊢;have ntt:tt≠dt:=Ne.symm (zA5 ht1 ft);have ntp':tt≠p:=Ne.symm (zA5 hp1 ft);refine ⟨_,rfl,p,CWo,dx,_,_,rfl,s2 _ _ hp1,L.cl,L.no _ (.tail _ (.tail _ (.head _))),wo_t,_,rfl,dt,_,rfl,DPut.k (k:=Sum.inr x) (s2 _ _ ht1) (small1000 (by omega)),?_⟩;refine k _ tt (by rw [zA6 ntt];exact e2) zA1 (by rw [zA6 (Ne.symm ntp)];exact s2 _ _ hp1) ?_ fun b o e n1 n2=>by rw [zA6 n2];exact s2 _ _ (b1 _ _ e n1)
  cases z:H tt with
  | none=>rfl
  | some o=>exact absurd rfl (zA5 (b1 _ _ z ntp') ft)
theorem ok_look {f CWo CLo fL:Addr}{fd fdL:FuncData} (hC:Calm CX) (L:DCo K CWo nosWo) (F:Fun K "look" "World.look" sLook f fd) (ML:Mk K CLo fL) (gL:mg "Look" = some (.ref CLo)) (GL:FnOk P w K mg base CX 1 fL fdL ["self", "kinds", "limits", "things", "wishes", "wishing", "last_done"] (spLi CLo)) (bL:Binds K fdL ["self", "kinds", "limits", "things", "wishes", "wishing", "last_done"] []):FnOk P w K mg base CX 3 f fd ["self"] (spLook CWo CLo):=by
 refine Fun.okC F scLook (fun vs H Q E h=>?_) (fun cdv Ar outer s H vs Q E hr h=>?_)
 ·obtain ⟨p,dx,q,dl,dt,dd,m,n,wv,kl,kt,kd,rfl,_⟩:=h;rfl
 ·obtain ⟨p,dx,q,dl,dt,dd,m,n,wv,kl,kt,kd,rfl,hp,rl,rt,rd,k⟩:=h;refine ⟨_,zA4 (zAb (zBj ML GL hr rfl gL bL .nil (passC hC) (zA0 (zAe (pv 0) rfl) (zA0 (zAe (pv 0) rfl) (zA0 (zAe (pv 0) rfl) (zA0 (zAe (pv 0) rfl) (zA0 (zAe (pv 0) rfl) (zA0 (zAe (pv 0) rfl) zA3)))))))),?_⟩;refine ⟨_,rfl,p,CWo,dx,_,_,rfl,hp,L.cl,L.no _ (.head _),wo_k,_,rfl,p,CWo,dx,_,_,rfl,hp,L.cl,L.no _ (.tail _ (.head _)),wo_l,_,rfl,p,CWo,dx,_,_,rfl,hp,L.cl,L.no _ (.tail _ (.tail _ (.head _))),wo_t,_,rfl,p,CWo,dx,_,_,rfl,hp,L.cl,L.no _ (.tail _ (.tail _ (.tail _ (.tail _ (.head _))))),wo_w,_,rfl,p,CWo,dx,_,_,rfl,hp,L.cl,L.no _ (.tail _ (.tail _ (.tail _ (.tail _ (.tail _ (.head _)))))),wo_n,_,rfl,p,CWo,dx,_,_,rfl,hp,L.cl,L.no _ (.tail _ (.tail _ (.tail _ (.tail _ (.tail _ (.tail _ (.head _))))))),wo_d,fun x dxl hx hdx ne=>?_⟩;have s1:Same H (upd (upd H dxl (.own x)) x (.ins CLo dxl [])):=zBm hx hdx ne;refine ⟨x,dxl,q,dl,dt,dd,wv,n,kl,kt,kd,rfl,zA1,zBf s1 rl,zBf s1 rt,zBf s1 rd,fun H' dl' dt' dd' e1 e2 e3 e4 e5 b=>?_⟩;exact ⟨rfl,k H' x dxl dl' dt' dd' e1 e2 e3 e4 (s1.free e5) (zCg hx hdx ne b)⟩
end
end L2.W
namespace L2.W
open PySem My
noncomputable def okD:=by have h:=@My.FunD.okC;rw [ePSs] at h;exact @h
section
variable {P:Program}{w:World}{K:PySem.W.Frag}{mg:Str→Option Value}{base:Heap}{CX:CXT}
theorem wo_ne1 {k l t w d:V}{m n:Int} (z:V):woF k l t m w n d≠ksF z:=fun h=>by
 have:=congrArg List.length h;cases this
theorem wo_ne2 {k l t w d:V}{m n:Int} (z:V):woF k l t m w n d≠kflds (.str "box") z .non:=fun h=>by
 have:=congrArg List.length h;cases this
structure WM (P:Program) (w:World) (K:PySem.W.Frag) (mg:Str→Option Value) (base:Heap) (CX:CXT) (CW CK C fW:Addr) (dW:FuncData):Prop where
 L:DCo K CW nosW
 M:Mk K CW fW
 g:mg "Wishes" = some (.ref CW)
 G:FnOk P w K mg base CX 6 fW dW ["self", "kinds", "rows"] (spWi CW CK C)
 b:Binds K dW ["self", "kinds", "rows"] []
 ki:KIsi K CW
theorem ok_woI {f CWo CW CK C fW fl:Addr}{fd dW fdl:FuncData}{dV:Value} (hC:Calm CX) (T:Tops K mg) (L:DCo K CWo nosWo) (W:WM P w K mg base CX CW CK C fW dW) (F:FunD K "__init__" "World.__init__" sInitWo dV f fd) (DL:Def K mg "are_limits" sAreLimits ["kinds", "thing"] fl fdl) (GL:FnOk P w K mg base CX 3 fl fdl ["kinds", "thing"] (spLm CK C)):FnOk P w K mg base CX 8 f fd ["self", "kinds", "limits"] (spWoI CWo CK C):=by
 refine okD F scWoI (fun vs H Q E h=>?_) (fun cdv Ar outer s H vs Q E hr h=>?_)
 ·obtain ⟨p,dx,q,pk,dl,rfl,_⟩:=h;rfl
 ·obtain ⟨p,dx,q,pk,dl,rfl,hp,kb,hl,k⟩:=h;have nd:=scWoI.nd;have hr3:=hr.mono (show 3≤7 by decide)
  refine ⟨_,zA2 (zAj (PW.pt (zCz (zB8 (zCf (pv 2))) (zC4 (zAm (zAk (zA8 GL hr3 rfl DL.at_ DL.fn.kp DL.bind .nil (passC hC) (zA0 (pv 1) (zA0 (pv 2) zA3))))))))
     zAc zAa)
     (zA2 (zAp (pv 0) (pv 1) rfl)
     (zA2 (zAp (pv 0) (zBe (zB8 (zBx (pv 2))) zBt (zB1 zBn rfl T.dict PyProof.Rows.boot_dict (zA0 (pv 2) zA3))) rfl)
     (zA2 (zAp (pv 0) zBt rfl)
     (zA2 (zAp (pv 0) zA7 rfl)
     (zA2 (zAp (pv 0) (zBj W.M W.G hr rfl W.g W.b .nil (passC hC) (zA0 (pv 1) (zA0 (zB4 zA3) zA3))) rfl)
     (zA2 (zAp (pv 0) zA7 rfl)
     (zA4 (zAp (pv 0) zBt rfl)))))))),?_⟩
  have sm0:([]:List V).length≤sizeLine:=Zl _;have npl:dl≠p:=fun z=>by rw [z,hp] at hl;cases hl
  refine ⟨_,rfl,_,rfl,iteT ⟨_,rfl,_,rfl,q,pk,dl,rfl,kb,hl,fun H1 kp1 rl1=>⟨_,rfl,iteF ?_⟩⟩⟩;have hp1:=kp1 _ _ hp (Ne.symm npl);have kb1:=kb.dct (.inl hl) lim_ne kp1;have hf1:∀ {b},H1 b=none→H b=none:=fun {b} e=>by
   cases z:H b with
   | none=>rfl
   | some o =>
    by_cases hb:b=dl
    ·subst hb;rcases rl1 with r | ⟨_,r⟩ <;> rw [r] at e <;> cases e
    ·rw [kp1 _ _ z hb] at e;cases e
  refine ⟨_,rfl,_,rfl,p,CWo,dx,[],rfl,hp1,L.cl,L.no _ (.head _),(by show 0 < 1000;decide),?_⟩;have rl2:Rd (upd H1 p (.ins CWo dx (putF "kinds" (.ref q) []))) dl (.dK lim1):=by
   rcases rl1 with r | ⟨o,r⟩
   ·exact .inl (by rw [zA6 npl];exact r)
   ·exact .inr ⟨o,by rw [zA6 npl];exact r⟩
  refine ⟨_,rfl,_,rfl,iteF ⟨_,rfl,dl,_,rfl,rl2,fun dl' f1=>⟨_,rfl,p,CWo,dx,_,rfl,(Same.new f1) _ _ zA1,L.cl,L.no _ (.tail _ (.head _)),(by show 1 < 1000;decide),?_⟩⟩⟩;have n1:dl'≠p:=fun z=>by rw [z,zA1] at f1;cases f1
  have g1:H1 dl'=none:=by rw [zA6 n1] at f1;exact f1
  have b2:But p H1 (upd (upd (upd H1 p (.ins CWo dx (putF "kinds" (.ref q) []))) dl' (.dK lim1)) p (.ins CWo dx (putF "limits" (.ref dl') (putF "kinds" (.ref q) [])))):=fun b o e n=>by rw [zA6 n,zA6 (zA5 e g1),zA6 n];exact e
  have e2:(upd (upd (upd H1 p (.ins CWo dx (putF "kinds" (.ref q) []))) dl' (.dK lim1)) p (.ins CWo dx (putF "limits" (.ref dl') (putF "kinds" (.ref q) [])))) p=some (.ins CWo dx (putF "limits" (.ref dl') (putF "kinds" (.ref q) []))):=zA1;have d2:(upd (upd (upd H1 p (.ins CWo dx (putF "kinds" (.ref q) []))) dl' (.dK lim1)) p (.ins CWo dx (putF "limits" (.ref dl') (putF "kinds" (.ref q) [])))) dl'=some (.dK lim1):=by rw [zA6 n1];exact zA1
  generalize upd (upd (upd H1 p (.ins CWo dx (putF "kinds" (.ref q) []))) dl' (.dK lim1)) p (.ins CWo dx (putF "limits" (.ref dl') (putF "kinds" (.ref q) [])))=H2 at b2 e2 d2 ⊢;refine fun dt f2=>⟨_,rfl,p,CWo,dx,_,rfl,(Same.new f2) _ _ e2,L.cl,L.no _ (.tail _ (.tail _ (.head _))),(by show 2 < 1000;decide),_,rfl,p,CWo,dx,_,rfl,zA1,L.cl,L.no _ (.tail _ (.tail _ (.tail _ (.head _)))),(by show 3 < 1000;decide),?_⟩;rw [zCr];have n2:dt≠p:=Ne.symm (zA5 e2 f2);have m2:dl'≠dt:=zA5 d2 f2
  let fs3:=putF "marks" (.int 0) (putF "things" (.ref dt) (putF "limits" (.ref dl') (putF "kinds" (.ref q) [])))
  have b3:But p H1 (upd (upd H2 dt (.dK [])) p (.ins CWo dx fs3)):=fun b o e n=>by rw [zA6 n];exact (Same.new f2) _ _ (b2 _ _ e n)
  have e3:(upd (upd H2 dt (.dK [])) p (.ins CWo dx fs3)) p=some (.ins CWo dx fs3):=zA1;have g3:(upd (upd H2 dt (.dK [])) p (.ins CWo dx fs3)) dt=some (.dK []):=by rw [zA6 n2];exact zA1
  have d3:(upd (upd H2 dt (.dK [])) p (.ins CWo dx fs3)) dl'=some (.dK lim1):=by rw [zA6 n1];exact (Same.new f2) _ _ d2
  have fr:∀ {b},H2 b=none→b≠p→H1 b=none:=fun {b} e n=>by
   cases z:H1 b with
   | none=>rfl
   | some o=>exact absurd rfl (zA5 (b2 _ _ z n) e)
  have ft:=fr f2 n2;show tSeq _ _ _ _ (upd (upd H2 dt (.dK [])) p (.ins CWo dx fs3));generalize upd (upd H2 dt (.dK [])) p (.ins CWo dx fs3)=H3 at b3 e3 g3 d3 ⊢;refine ⟨_,rfl,sm0,fun l0 f4=>fun x dxw hx hdx ne=>?_⟩;have s4:=Same.new (o:=.lst []) f4;have l4:(upd H3 l0 (.lst [])) l0=some (.lst []):=zA1;generalize upd H3 l0 (.lst [])=H4 at s4 l4 hx hdx ⊢;have s5:Same H4 (upd (upd H4 dxw (.own x)) x (.ins CW dxw [])):=zBm hx hdx ne;have kb3:=kb1.but hp1 (fun d z=>nomatch z) (fun l z=>nomatch z) b3;refine ⟨x,dxw,q,pk,l0,[],rfl,zA1,(kb3.same s4).same s5,s5 _ _ l4,⟨Zl _,fun x hx=>by cases hx⟩,fun H6 lr df ys e6 _ _ bx6=>⟨rfl,?_⟩⟩;have s6:=s4.trans (zCg hx hdx ne bx6);have e7:=s6 _ _ e3;refine ⟨_,rfl,p,CWo,dx,_,rfl,e7,L.cl,L.no _ (.tail _ (.tail _ (.tail _ (.tail _ (.head _))))),(by show 4 < 1000;decide),_,rfl,p,CWo,dx,_,rfl,zA1,L.cl,L.no _ (.tail _ (.tail _ (.tail _ (.tail _ (.tail _ (.head _)))))),(by show 5 < 1000;decide),?_⟩;rw [zCr];refine fun dd f8=>⟨_,rfl,p,CWo,dx,_,rfl,(Same.new f8) _ _ zA1,L.cl,L.no _ (.tail _ (.tail _ (.tail _ (.tail _ (.tail _ (.tail _ (.head _))))))),(by show 6 < 1000;decide),?_⟩;have n8:dd≠p:=fun z=>by rw [z,zA1] at f8;cases f8
  have g8:H6 dd=none:=by rw [zA6 n8] at f8;exact f8
  have m8:dt≠dd:=zA5 (s6 _ _ g3) g8;have m9:dl'≠dd:=zA5 (s6 _ _ d3) g8;refine k _ dl' dt dd (.ref x) zA1 ?_ ?_ ?_ m8 (hf1 g1) (hf1 ft) ?_ fun b o e nb nl=>?_
  ·rw [zA6 n1,zA6 m9,zA6 n1];exact s6 _ _ d3
  ·rw [zA6 n2,zA6 m8,zA6 n2];exact s6 _ _ g3
  ·rw [zA6 n8];exact zA1
  ·refine hf1 ?_;cases z:H1 dd with
   | none=>rfl
   | some o=>exact absurd rfl (zA5 (s6 _ _ (b3 _ _ z n8)) g8)
  ·have z:=s6 _ _ (b3 _ _ (kp1 _ _ e nl) nb);rw [zA6 nb,zA6 (zA5 z g8),zA6 nb];exact z
end
end L2.W
namespace L2.W
open PySem My
noncomputable def NBx (ls:List (Key×V)):Prop:=∀ x:V,ls≠[((Sum.inr "box" : Key),x)]
structure WB (CWo CK C:Addr) (H:Hp) (p q pk dl dt dd:Addr) (m n:Int) (kt kd:List (Key×V)):Prop where
 p:∃ dx wv,H p=some (.ins CWo dx (woF (.ref q) (.ref dl) (.ref dt) m wv n (.ref dd)))
 l:Rd H dl (.dK lim1)
 t:H dt=some (.dK kt)
 d:H dd=some (.dK kd)
 ne:dt≠dd
 kb:KB CK C H q pk
 nt:NBx kt
 nd:NBx kd
structure WAt (CWo CK C:Addr) (H:Hp) (p q pk dl dt dd tt ts:Addr) (a:Ab):Prop where
 b:WB CWo CK C H p q pk dl dt dd a.ma a.wi [(Sum.inr (bx 0),.ref tt)] a.ls
 e:H tt=some (.tup [.ref ts,.int a.ma])
 s:H ts=some (.tup [.str a.st])
 n:a.ls.length≤100
noncomputable def Fr (p dt dd:Addr) (H H':Hp):Prop:=∀ b o,H b=some o→b≠p→b≠dt→b≠dd→H' b=some o
theorem nbx0:NBx []:=fun x z=>nomatch z
theorem nbx1 {x:V}:NBx [(Sum.inr (bx 0),x)]:=fun y z=>by
 injection z with z _;injection z with z _;exact absurd (Sum.inr.inj z) (by decide +kernel)
section
variable {CWo CK C:Addr}{H H':Hp}{p q pk dl dt dd tt ts:Addr}{m n:Int}{kt kd:List (Key×V)}{a:Ab}
theorem WB.same (h:WB CWo CK C H p q pk dl dt dd m n kt kd) (s:Same H H'):WB CWo CK C H' p q pk dl dt dd m n kt kd:=by
 obtain ⟨⟨dx,wv,e⟩,l,t,d,ne,kb,nt,nd⟩:=h;exact ⟨⟨dx,wv,s _ _ e⟩,zBf s l,s _ _ t,s _ _ d,ne,kb.same s,nt,nd⟩
theorem WAt.same (h:WAt CWo CK C H p q pk dl dt dd tt ts a) (s:Same H H'):WAt CWo CK C H' p q pk dl dt dd tt ts a:=⟨h.b.same s,s _ _ h.e,s _ _ h.s,h.n⟩
theorem WB.nq (h:WB CWo CK C H p q pk dl dt dd m n kt kd) {b:Addr}{o:HO} (e:H b=some o) (s:isSeq o):b≠p∧b≠dt∧b≠dd:=by
 obtain ⟨dx,wv,hp⟩:=h.p;refine ⟨fun z=>?_,fun z=>?_,fun z=>?_⟩
 ·rw [z,hp] at e;cases e;exact s
 ·rw [z,h.t] at e;cases e;exact s
 ·rw [z,h.d] at e;cases e;exact s
theorem WB.nr (h:WB CWo CK C H p q pk dl dt dd m n kt kd) {b:Addr}{kvs:List (Key×V)} (r:Rd H b (.dK kvs)) (n1:kvs≠kt) (n2:kvs≠kd):b≠p∧b≠dt∧b≠dd:=by
 obtain ⟨dx,wv,hp⟩:=h.p;refine ⟨fun z=>?_,rd_ne r (.inl h.t) n1,rd_ne r (.inl h.d) n2⟩;rw [z] at r;rcases r with r | ⟨o,r⟩ <;> rw [hp] at r <;> cases r
theorem Fr.rd (f:Fr p dt dd H H') {b:Addr}{kvs:List (Key×V)} (r:Rd H b (.dK kvs)) (n:b≠p∧b≠dt∧b≠dd):Rd H' b (.dK kvs):=by
 rcases r with r | ⟨o,r⟩
 ·exact .inl (f _ _ r n.1 n.2.1 n.2.2)
 ·exact .inr ⟨o,f _ _ r n.1 n.2.1 n.2.2⟩
theorem WB.fkb (h:WB CWo CK C H p q pk dl dt dd m n kt kd) (f:Fr p dt dd H H'):KB CK C H' q pk:=by
 obtain ⟨dx,wv,hp⟩:=h.p;refine h.kb.all (fun b x d e=>f _ _ e (fun z=>?_) (fun z=>?_) fun z=>?_) (fun b x d e=>f _ _ e (fun z=>?_) (fun z=>?_) fun z=>?_) (fun b r=>f.rd r (h.nr r (Ne.symm (h.nt _)) (Ne.symm (h.nd _)))) fun b o e s=>let n:=h.nq e s;f _ _ e n.1 n.2.1 n.2.2
 ·rw [z,hp] at e;injection e with e;injection e with _ _ e;exact wo_ne1 _ e
 ·rw [z,h.t] at e;cases e
 ·rw [z,h.d] at e;cases e
 ·rw [z,hp] at e;injection e with e;injection e with _ _ e;exact wo_ne2 _ e
 ·rw [z,h.t] at e;cases e
 ·rw [z,h.d] at e;cases e
theorem WB.frd (h:WB CWo CK C H p q pk dl dt dd m n kt kd) (f:Fr p dt dd H H'):Rd H' dl (.dK lim1):=f.rd h.l (h.nr h.l (Ne.symm (h.nt _)) (Ne.symm (h.nd _)))
theorem WB.fsq (h:WB CWo CK C H p q pk dl dt dd m n kt kd) (f:Fr p dt dd H H') {b:Addr}{o:HO} (e:H b=some o) (s:isSeq o):H' b=some o:=let n:=h.nq e s;f _ _ e n.1 n.2.1 n.2.2
end
noncomputable def spPut (CWo CK C:Addr):Sp:=fun vs H Q _=>∃ (p q pk dl dt dd a:Addr),vs=[.ref p,.str (bx 0),.ref a]∧WB CWo CK C H p q pk dl dt dd 0 0 [] []∧H a=some (.tup [.str "red"])∧∀ H' tt,WAt CWo CK C H' p q pk dl dt dd tt a ⟨"red",1,0,[]⟩→Fr p dt dd H H'→Q .non H'
noncomputable def spTell (CWo CW CK C:Addr):Sp:=fun vs H Q _=>∃ (p q pk dl dt dd tt ts pw dxw lr:Addr) (a:Ab) (v1 v2:V) (ys:List V),vs=[.ref p,.ref pw]∧WAt CWo CK C H p q pk dl dt dd tt ts a∧H pw=some (.ins CW dxw (wiF v1 (.ref lr) v2))∧H lr=some (.lst ys)∧RL H ys∧∀ H',WAt CWo CK C H' p q pk dl dt dd tt ts { a with wi:=a.wi + 1 }→Fr p dt dd H H'→Q .non H'
noncomputable def spCa (B:DB) (CWo CK C:Addr):Sp:=fun vs H Q _=>∃ (p q pk dl dt dd tt ts pd:Addr) (a:Ab) (h:Str) (n w m:Int) (x:Str),vs=[.ref p,.ref pd,.ref ts]∧WAt CWo CK C H p q pk dl dt dd tt ts a∧DdAt B H pd ⟨h,n,w,.se m x⟩∧NBx (putK a.ls (Sum.inr h) (.int n))∧(putK a.ls (Sum.inr h) (V.int n)).length≤100 ∧
 ∀ H' tt' ts',WAt CWo CK C H' p q pk dl dt dd tt' ts' ⟨x,a.ma + 1,a.wi,putK a.ls (Sum.inr h) (.int n)⟩→Fr p dt dd H H'→Q .non H'
noncomputable def aft (a:Ab) (e:De) (last:Int):Ab:=if wordW a e last = "done" then match e.d with | .se _ x=>⟨x,a.ma + 1,a.wi,putK a.ls (Sum.inr e.h) (.int e.n)⟩ | _=>a else a
noncomputable def spDo (B:DB) (CWo CK C:Addr):Sp:=fun vs H Q _=>∃ (p q pk dl dt dd tt ts pd:Addr) (a:Ab) (e:De) (last:Int),vs=[.ref p,.ref pd]∧WAt CWo CK C H p q pk dl dt dd tt ts a∧DdAt B H pd e∧(valV a.ls (Sum.inr e.h)).getD (.int 0)=.int last∧NBx (putK a.ls (Sum.inr e.h) (.int e.n))∧(putK a.ls (Sum.inr e.h) (V.int e.n)).length≤100 ∧
 ∀ H' tt' ts',WAt CWo CK C H' p q pk dl dt dd tt' ts' (aft a e last)→Fr p dt dd H H'→Q (.str (wordW a e last)) H'
section
variable {P:Program}{w:World}{K:PySem.W.Frag}{mg:Str→Option Value}{base:Heap}{CX:CXT}
theorem scPut:FnScope ["self", "name", "state", "parts", "seen"] ["self", "name", "state"] (defScope sPut):=⟨rfl,rfl,rfl,by decide +kernel,rfl,by decide +kernel,by decide +kernel⟩
theorem scTell:FnScope ["self", "wishes"] ["self", "wishes"] (defScope sTell):=⟨rfl,rfl,rfl,by decide +kernel,rfl,by decide +kernel,by decide +kernel⟩
theorem scDo:FnScope ["self", "deed", "seen", "word"] ["self", "deed"] (defScope sDo):=⟨rfl,rfl,rfl,by decide +kernel,rfl,by decide +kernel,by decide +kernel⟩
theorem scCa:FnScope ["self", "deed", "state", "kind", "after"] ["self", "deed", "state"] (defScope sCarry):=⟨rfl,rfl,rfl,by decide +kernel,rfl,by decide +kernel,by decide +kernel⟩
theorem ok_tell {f CWo CW CK C fW:Addr}{fd dW:FuncData} (hC:Calm CX) (T:Tops K mg) (L:DCo K CWo nosWo) (W:WM P w K mg base CX CW CK C fW dW) (F:Fun K "tell" "World.tell" sTell f fd):FnOk P w K mg base CX 8 f fd ["self", "wishes"] (spTell CWo CW CK C):=by
 refine Fun.okC F scTell (fun vs H Q E h=>?_) (fun cdv Ar outer s H vs Q E hr h=>?_)
 ·obtain ⟨p,q,pk,dl,dt,dd,tt,ts,pw,dxw,lr,a,v1,v2,ys,rfl,_⟩:=h;rfl
 ·obtain ⟨p,q,pk,dl,dt,dd,tt,ts,pw,dxw,lr,a,v1,v2,ys,rfl,wa,hw,hlr,rl,k⟩:=h;have nd:=scTell.nd
  refine ⟨_,zA2 (zAj (zAm (zAk (zA9 zAg rfl T.isinst PyProof.Rows.boot_isinstance (zA0 (pv 1) (zA0 (zBc (v:=.ref CW) rfl W.g rfl) zA3)))))
     zAc zAa)
     (zA2 (zAp (pv 0) (zBj W.M W.G hr rfl W.g W.b .nil (passC hC) (zA0 (zAe (pv 0) rfl) (zA0 (zAe (pv 1) rfl) zA3))) rfl)
     (zA4 (zAp (pv 0) (zAt zBs (zAe (pv 0) rfl) zA7) rfl))),?_⟩
  obtain ⟨dx,wv,hp⟩:=wa.b.p;have ki:=W.ki;refine ⟨_,rfl,_,_,_,_,_,rfl,.ins hw W.L.cl ki.ha ki.hn ki.htk ki.hm,rfl,ki.one,_,rfl,iteF ?_⟩;refine ⟨_,rfl,p,CWo,dx,_,_,rfl,hp,L.cl,L.no _ (.head _),wo_k,_,rfl,pw,CW,dxw,_,_,rfl,hw,W.L.cl,W.L.no _ (.tail _ (.head _)),lk2 (by decide +kernel) lk1,fun x dx2 hx hdx ne=>?_⟩;have s1:Same H (upd (upd H dx2 (.own x)) x (.ins CW dx2 [])):=zBm hx hdx ne;refine ⟨x,dx2,q,pk,lr,ys,rfl,zA1,wa.b.kb.same s1,s1 _ _ hlr,rl.same s1,fun H2 lr2 df ys2 _ _ _ b2=>⟨rfl,?_⟩⟩;have s2:Same H H2:=zCg hx hdx ne b2;have hp2:=s2 _ _ hp;refine ⟨_,rfl,p,CWo,dx,_,rfl,hp2,L.cl,L.no _ (.tail _ (.tail _ (.tail _ (.tail _ (.head _))))),wo_len,?_⟩;rw [wo_pw];refine ⟨_,rfl,p,CWo,dx,_,_,rfl,zA1,L.cl,L.no _ (.tail _ (.tail _ (.tail _ (.tail _ (.tail _ (.head _)))))),wo_n,_,_,rfl,rfl,_,rfl,p,CWo,dx,_,rfl,zA1,L.cl,L.no _ (.tail _ (.tail _ (.tail _ (.tail _ (.tail _ (.head _)))))),wo_len,?_⟩;rw [wo_pn,zCr];have wa2:=wa.same s2;have e3:(upd H2 p (.ins CWo dx (woF (.ref q) (.ref dl) (.ref dt) a.ma (.ref x) (a.wi + 1) (.ref dd)))) p=some (.ins CWo dx (woF (.ref q) (.ref dl) (.ref dt) a.ma (.ref x) (a.wi + 1) (.ref dd))):=zA1;have b3:But p H2 (upd H2 p (.ins CWo dx (woF (.ref q) (.ref dl) (.ref dt) a.ma (.ref x) (a.wi + 1) (.ref dd)))):=fun b o e n=>by rw [zA6 n];exact e
  generalize upd H2 p (.ins CWo dx (woF (.ref q) (.ref dl) (.ref dt) a.ma (.ref x) (a.wi + 1) (.ref dd)))=H3 at e3 b3 ⊢;have f3:Fr p dt dd H2 H3:=fun b o e n _ _=>b3 _ _ e n;have np:∀ {b kvs},H2 b=some (.dK kvs)→b≠p:=fun {b kvs} e z=>by rw [z,hp2] at e;cases e
  exact k H3 ⟨⟨⟨dx,_,e3⟩,wa2.b.frd f3,b3 _ _ wa2.b.t (np wa2.b.t),b3 _ _ wa2.b.d (np wa2.b.d),wa2.b.ne,wa2.b.fkb f3,wa2.b.nt,wa2.b.nd⟩,wa2.b.fsq f3 wa2.e trivial,wa2.b.fsq f3 wa2.s trivial,wa2.n⟩ fun b o e n1 n2 n3=>f3 _ _ (s2 _ _ e) n1 n2 n3
end
end L2.W
namespace L2.W
open PySem My
section
variable {P:Program}{w:World}{K:PySem.W.Frag}{mg:Str→Option Value}{base:Heap}{CX:CXT}
structure WX (P:Program) (w:World) (K:PySem.W.Frag) (mg:Str→Option Value) (base:Heap) (CX:CXT) (CWo CLo CK C fIk fOr fOf fOw fp fLk fKe:Addr) (dOf fdp dLk dKe:FuncData):Prop where
 hC:Calm CX
 T:Tops K mg
 L:DCo K CWo nosWo
 LL:DCo K CLo nosL
 KS:KsCls K mg CK fIk fOr fOf fOw
 GO:FnOk P w K mg base CX 2 fOf dOf ["self", "name"] (spOfB CK C)
 bO:Binds K dOf ["self", "name"] []
 DP:Def K mg "parts_of" sPartsOf ["kinds", "name"] fp fdp
 GP:FnOk P w K mg base CX 3 fp fdp ["kinds", "name"] (spPtB CK C)
 mLk:Meth K CWo "look" fLk
 GLk:FnOk P w K mg base CX 3 fLk dLk ["self"] (spLook CWo CLo)
 bLk:Binds K dLk ["self"] []
 mKe:Meth K CWo "keep" fKe
 GKe:FnOk P w K mg base CX 1 fKe dKe ["self", "name", "state"] (spKe CWo)
 bKe:Binds K dKe ["self", "name", "state"] []
variable {CWo CLo CK C fIk fOr fOf fOw fp fLk fKe:Addr}{dOf fdp dLk dKe:FuncData}
theorem ok_put {f fs fTh fFu:Addr}{fd fds dTh dFu:FuncData} (X:WX P w K mg base CX CWo CLo CK C fIk fOr fOf fOw fp fLk fKe dOf fdp dLk dKe) (F:Fun K "put" "World.put" sPut f fd) (DS:Def K mg "is_state" sIsState ["kind", "thing"] fs fds) (GS:FnOk P w K mg base CX 3 fs fds ["kind", "thing"] (spIsS C)) (mTh:Meth K CLo "thing" fTh) (GTh:FnOk P w K mg base CX 1 fTh dTh ["self", "name"] (spThE CLo CK C)) (bTh:Binds K dTh ["self", "name"] []) (mFu:Meth K CLo "is_full" fFu) (GFu:FnOk P w K mg base CX 4 fFu dFu ["self", "kind"] (spFuE CLo CK C)) (bFu:Binds K dFu ["self", "kind"] []):FnOk P w K mg base CX 5 f fd ["self", "name", "state"] (spPut CWo CK C):=by
 have hC:=X.hC;have L:=X.L;have LL:=X.LL;refine Fun.okC F scPut (fun vs H Q E h=>?_) (fun cdv Ar outer s H vs Q E hr h=>?_)
 ·obtain ⟨p,q,pk,dl,dt,dd,a,rfl,_⟩:=h;rfl
 ·obtain ⟨p,q,pk,dl,dt,dd,a,rfl,wb,ha,k⟩:=h;have nd:=scPut.nd;have hr1:=hr.mono (show 1≤4 by decide);have hr2:=hr.mono (show 2≤4 by decide);have hr3:=hr.mono (show 3≤4 by decide)
  refine ⟨_,zA2 (zAd (i:=3) nd rfl (Or.inl rfl) (zA8 X.GP hr3 rfl X.DP.at_ X.DP.fn.kp X.DP.bind .nil (passC hC) (zA0 (zAe (pv 0) rfl) (zA0 (pv 1) zA3))))
     (zA2 (zAj (zAm (zAk (zA8 GS hr3 rfl DS.at_ DS.fn.kp DS.bind .nil (passC hC) (zA0 (zAl (zAe (pv 0) rfl) X.KS.cl X.KS.mOf X.GO hr2 X.bO .nil (passC hC) (zA0 (zAu zAq (pv 3) zA7 (fun _ _=>rfl)) zA3)) (zA0 (pv 2) zA3)))))
     zAc zAa)
     (zA2 (zAd (i:=4) nd rfl (Or.inl rfl) (zBd (pv 0) L.cl X.mLk X.GLk hr3 X.bLk .nil (passC hC)))
     (zA2 (zAj (zB8 (zCf (zAl (pv 4) LL.cl mTh GTh hr1 bTh .nil (passC hC) (zA0 (pv 1) zA3))))
     zAc zAa)
     (zA2 (zAj (PW.pt (zCz (zB8 (zCf (zAu zAq (pv 3) zA7 (fun _ _=>rfl)))) (zC4 (zB8 (zBx (zAl (pv 4) LL.cl mTh GTh hr1 bTh .nil (passC hC) (zA0 (zAu zAq (pv 3) zA7 (fun _ _=>rfl)) zA3)))))))
     zAc zAa)
     (zA2 (zAj (zAk (zAl (pv 4) LL.cl mFu GFu hr bFu .nil (passC hC) (zA0 (zAu zAq (pv 3) zA7 (fun _ _=>rfl)) zA3)))
     zAc zAa)
     (zA4 (zB6 (zAl (pv 0) L.cl X.mKe X.GKe hr1 X.bKe .nil (passC hC) (zA0 (pv 1) (zA0 (pv 2) zA3)))))))))),?_⟩
  obtain ⟨dx,wv,hp⟩:=id wb.p;refine ⟨_,rfl,p,CWo,dx,_,_,rfl,hp,L.cl,L.no _ (.head _),wo_k,_,rfl,q,pk,0,rfl,wb.kb,by decide,fun t H1 e1 s1=>?_⟩;have wb1:=wb.same s1;have hp1:=s1 _ _ hp;obtain ⟨dxq,dq,eq,_⟩:=wb1.kb.at_;refine ⟨_,rfl,p,CWo,dx,_,_,rfl,hp1,L.cl,L.no _ (.head _),wo_k,q,dxq,_,rfl,eq,zCp _ (by decide +kernel),_,rfl,t,_,0,_,rfl,rfl,SqT.of e1,rfl,q,pk,rfl,wb1.kb,fun H2 s2=>?_⟩;have s12:=s1.trans s2;refine ⟨_,rfl,CK,q,pk,a,rfl,wb1.kb.same s2,s12 _ _ ha,fun H3 s3=>⟨_,rfl,iteF ?_⟩⟩;have s13:=s12.trans s3;have wb3:=wb.same s13;have hp3:=s13 _ _ hp;refine ⟨_,rfl,p,dx,_,rfl,hp3,zEu (by decide +kernel),p,dx,q,dl,dt,dd,0,0,wv,_,_,_,rfl,hp3,wb3.l,.inl wb3.t,.inl wb3.d,fun H4 lo dxl dl' dt' dd' g1 g2 g3 g4 g5 s4=>?_⟩;have lk:LkE CLo CK C H4 lo q pk dt':=⟨⟨dxl,dl',dd',wv,g1,.inl g2⟩,.inl g3,wb3.kb.same s4⟩;have e4:=s4 _ _ (s3 _ _ (s2 _ _ e1));refine ⟨_,rfl,lo,dxl,_,rfl,g1,zCd (by decide +kernel),_,rfl,lo,q,pk,dt',rfl,lk,_,rfl,iteF ?_⟩;refine ⟨_,rfl,t,_,1,_,rfl,rfl,SqT.of e4,rfl,_,rfl,iteF (iteF ?_)⟩;refine ⟨_,rfl,lo,dxl,_,rfl,g1,zCd (by decide +kernel),_,rfl,t,_,0,_,rfl,rfl,SqT.of e4,rfl,lo,q,pk,dt',rfl,lk,fun H5 k5=>⟨_,rfl,iteF ?_⟩⟩;have wb4:=wb3.same s4;have nw:∀ {b o},H3 b=some o→b≠dt':=fun e z=>by rw [z,g5] at e;cases e
  have f5:∀ b o,H3 b=some o→H5 b=some o:=fun b o e=>k5 _ _ (s4 _ _ e) (nw e);have wb5:=wb3.same f5;have hp5:=f5 _ _ hp3;refine ⟨_,rfl,p,dx,_,rfl,hp5,zEu (by decide +kernel),_,rfl,_,rfl,p,dx,a,dt,_,_,_,0,0,wv,bx 0,[],rfl,hp5,wb5.t,Zl _,fun H6 tt j1 j2 j3 j4 k6=>?_⟩;have f6:Fr p dt dd H5 H6:=fun b o e n1 n2 _=>k6 _ _ e n1 n2;have s35:Same H H5:=s13.trans f5;refine k H6 tt ⟨⟨⟨dx,wv,j3⟩,wb5.frd f6,j2,k6 _ _ wb5.d (fun z=>by have e:=wb5.d;rw [z,hp5] at e;cases e) (Ne.symm wb5.ne),wb5.ne,wb5.fkb f6,nbx1,nbx0⟩,j1,wb5.fsq f6 (s35 _ _ ha) trivial,Zl _⟩ fun b o e n1 n2 n3=>f6 _ _ (s35 _ _ e) n1 n2 n3
theorem ok_ca {f fAf:Addr}{fd dAf:FuncData}{B:DB} (X:WX P w K mg base CX CWo CLo CK C fIk fOr fOf fOw fp fLk fKe dOf fdp dLk dKe) (D:DCl K B) (F:Fun K "carry_out" "World.carry_out" sCarry f fd) (mAf:Meth K B.se "state_after" fAf) (GAf:FnOk P w K mg base CX 3 fAf dAf ["self", "kind", "state"] (spAft B C B.se)) (bAf:Binds K dAf ["self", "kind", "state"] []):FnOk P w K mg base CX 4 f fd ["self", "deed", "state"] (spCa B CWo CK C):=by
 have hC:=X.hC;have L:=X.L;have c:=D.all _ (.inr (.inl rfl));refine Fun.okC F scCa (fun vs H Q E h=>?_) (fun cdv Ar outer s H vs Q E hr h=>?_)
 ·obtain ⟨p,q,pk,dl,dt,dd,tt,ts,pd,a,h,n,wn,m,x,rfl,_⟩:=h;rfl
 ·obtain ⟨p,q,pk,dl,dt,dd,tt,ts,pd,a,h,n,wn,m,x,rfl,wa,de,nb,nl,k⟩:=h;have nd:=scCa.nd;have hu:=zDb hr;have hr1:=hr.mono (show 1≤3 by decide);have hr2:=hr.mono (show 2≤3 by decide)
  refine ⟨_,zA2 (zAd (i:=3) nd rfl (Or.inl rfl) (zAl (zAe (pv 0) rfl) X.KS.cl X.KS.mOf X.GO hr2 X.bO .nil (passC hC) (zA0 (zAu zAq (zA8 X.GP hr rfl X.DP.at_ X.DP.fn.kp X.DP.bind .nil (passC hC) (zA0 (zAe (pv 0) rfl) (zA0 (zAe (pv 1) rfl) zA3))) zA7 (fun _ _=>rfl)) zA3)))
     (zA2 (zAd (i:=4) nd rfl (Or.inl rfl) (zAl (pv 1) c.cl mAf GAf hr bAf .nil (passC hC) (zA0 (pv 3) (zA0 (pv 2) zA3))))
     (zA2 (zAj (zB8 (zBx (pv 4)))
     zAc (zA4 (zB6 (zAl (pv 0) L.cl X.mKe X.GKe hr1 X.bKe .nil (passC hC) (zA0 (zAe (pv 1) rfl) (zA0 (pv 4) zA3))))))
     (zA4 (zC6 hu (zAe (pv 0) rfl) (zAe (pv 1) rfl) (zAe (pv 1) rfl) rfl)))),?_⟩
  obtain ⟨dx,wv,hp⟩:=id wa.b.p;obtain ⟨dxd,hd⟩:=id de.p;obtain ⟨dxq,dq,eq,_⟩:=wa.b.kb.at_;refine ⟨_,rfl,p,CWo,dx,_,_,rfl,hp,L.cl,L.no _ (.head _),wo_k,q,dxq,_,rfl,eq,zCp _ (by decide +kernel),_,rfl,p,CWo,dx,_,_,rfl,hp,L.cl,L.no _ (.head _),wo_k,_,rfl,pd,_,dxd,_,_,rfl,hd,c.cl,c.no _ (.tail _ (.tail _ (.tail _ (.head _)))),zE9 (e:=⟨h,n,wn,.se m x⟩) (by decide +kernel) dF_x,q,pk,0,rfl,wa.b.kb,by decide,fun t H1 e1 s1=>⟨t,_,0,_,rfl,rfl,SqT.of e1,rfl,q,pk,rfl,wa.b.kb.same s1,fun H2 s2=>?_⟩⟩;have s12:=s1.trans s2;have wa2:=wa.same s12;refine ⟨_,rfl,pd,dxd,_,rfl,s12 _ _ hd,fs_no (e:=⟨h,n,wn,.se m x⟩) (by decide +kernel) (by decide +kernel),_,rfl,_,rfl,CK,q,pk,pd,ts,h,n,wn,m,x,a.st,rfl,de.same s12,rfl,wa2.b.kb,wa2.s,fun ts' H3 e3 s3=>?_⟩;have s13:=s12.trans s3;have wa3:=wa.same s13;have hp3:=s13 _ _ hp;have hd3:=s13 _ _ hd;refine ⟨_,rfl,_,rfl,iteF ?_⟩;refine ⟨_,rfl,p,dx,_,rfl,hp3,zEu (by decide +kernel),_,rfl,pd,_,dxd,_,_,rfl,hd3,c.cl,c.no _ (.tail _ (.tail _ (.tail _ (.head _)))),zE9 (e:=⟨h,n,wn,.se m x⟩) (by decide +kernel) dF_x,_,rfl,p,dx,ts',dt,_,_,_,a.ma,a.wi,wv,bx 0,_,rfl,hp3,wa3.b.t,by show 1≤10;decide,fun H4 tt' j1 j2 j3 j4 k4=>?_⟩;have f4:Fr p dt dd H3 H4:=fun b o e n1 n2 _=>k4 _ _ e n1 n2;have npd:pd≠p∧pd≠dt∧pd≠dd:=by
   refine ⟨fun z=>?_,fun z=>?_,fun z=>?_⟩
   ·rw [z,hp3] at hd3;injection hd3 with hd3;injection hd3 with _ _ hd3;have:=congrArg (fun fs=>List.lookup ("limits" : Str) fs) hd3;rw [wo_l,fs_no (e:=⟨h,n,wn,.se m x⟩) (by decide +kernel) (by decide +kernel)] at this;cases this
   ·rw [z,wa3.b.t] at hd3;cases hd3
   ·rw [z,wa3.b.d] at hd3;cases hd3
  have hd4:=f4 _ _ hd3 npd.1 npd.2.1 npd.2.2;have ndp:dd≠p:=fun z=>by have e:=wa3.b.d;rw [z,hp3] at e;cases e
  have d4:=k4 _ _ wa3.b.d ndp (Ne.symm wa3.b.ne);refine ⟨_,rfl,pd,_,dxd,_,_,rfl,hd4,c.cl,c.no _ (.tail _ (.head _)),zE9 (e:=⟨h,n,wn,.se m x⟩) (by decide +kernel) dF_n,_,rfl,p,CWo,dx,_,_,rfl,j3,L.cl,L.no _ (.tail _ (.tail _ (.tail _ (.tail _ (.tail _ (.tail _ (.head _))))))),wo_d,_,rfl,pd,_,dxd,_,_,rfl,hd4,c.cl,c.no _ (.head _),zE9 (e:=⟨h,n,wn,.se m x⟩) (by decide +kernel) dF_h,dd,_,rfl,DPut.k (k:=Sum.inr h) d4 (small1000 (by have:=wa.n;omega)),?_⟩;have f5:Fr p dt dd H3 (upd H4 dd (.dK (putK a.ls (Sum.inr h) (.int n)))):=fun b o e n1 n2 n3=>by rw [zA6 n3];exact f4 _ _ e n1 n2 n3
  have ntd:tt'≠dd:=fun z=>by rw [z,d4] at j1;cases j1
  have jt:(upd H4 dd (.dK (putK a.ls (Sum.inr h) (.int n)))) dt=some (.dK [(Sum.inr (bx 0),.ref tt')]):=by
   rw [zA6 wa3.b.ne,j2,show putK [((Sum.inr (bx 0):Key),V.ref tt)] (Sum.inr (bx 0)) (V.ref tt')=[((Sum.inr (bx 0):Key),V.ref tt')] from if_pos rfl]
  exact k _ tt' ts' ⟨⟨⟨dx,wv,by rw [zA6 (Ne.symm ndp)];exact j3⟩,wa3.b.frd f5,jt,zA1,wa3.b.ne,wa3.b.fkb f5,nbx1,nb⟩,by rw [zA6 ntd];exact j1,wa3.b.fsq f5 e3 trivial,nl⟩ fun b o e n1 n2 n3=>f5 _ _ (s13 _ _ e) n1 n2 n3
end
end L2.W
namespace L2.W
open PySem My
section
variable {P:Program}{w:World}{K:PySem.W.Frag}{mg:Str→Option Value}{base:Heap}{CX:CXT}
variable {CWo CLo CK C fIk fOr fOf fOw fp fLk fKe:Addr}{dOf fdp dLk dKe:FuncData}
theorem ok_do {f fw fSo fCa:Addr}{fd fdw dSo dCa:FuncData}{B:DB} (X:WX P w K mg base CX CWo CLo CK C fIk fOr fOf fOw fp fLk fKe dOf fdp dLk dKe) (D:DCl K B) (G:DKi K mg B) (F:Fun K "do" "World.do" sDo f fd) (DW:Def K mg "word_for" sWordFor ["kinds", "seen", "deed"] fw fdw) (GW:FnOk P w K mg base CX 6 fw fdw ["kinds", "seen", "deed"] (spWd B CLo CK C)) (mSo:Meth K CLo "state_of" fSo) (GSo:FnOk P w K mg base CX 2 fSo dSo ["self", "name"] (spSo CLo CK C)) (bSo:Binds K dSo ["self", "name"] []) (mCa:Meth K CWo "carry_out" fCa) (GCa:FnOk P w K mg base CX 4 fCa dCa ["self", "deed", "state"] (spCa B CWo CK C)) (bCa:Binds K dCa ["self", "deed", "state"] []):FnOk P w K mg base CX 7 f fd ["self", "deed"] (spDo B CWo CK C):=by
 have hC:=X.hC;have T:=X.T;have L:=X.L;have LL:=X.LL;refine Fun.okC F scDo (fun vs H Q E h=>?_) (fun cdv Ar outer s H vs Q E hr h=>?_)
 ·obtain ⟨p,q,pk,dl,dt,dd,tt,ts,pd,a,e,last,rfl,_⟩:=h;rfl
 ·obtain ⟨p,q,pk,dl,dt,dd,tt,ts,pd,a,e,last,rfl,wa,de,hl,nb,nl,k⟩:=h;have nd:=scDo.nd;have hr2:=hr.mono (show 2≤6 by decide);have hr3:=hr.mono (show 3≤6 by decide);have hr4:=hr.mono (show 4≤6 by decide)
  refine ⟨_,zA2 (zAj (zAm (zAk (zA9 zAg rfl T.isinst PyProof.Rows.boot_isinstance (zA0 (pv 1) (zA0 (zBc (v:=.ref B.de) rfl G.gde rfl) zA3)))))
     zAc zAa)
     (zA2 (zAd (i:=2) nd rfl (Or.inl rfl) (zBd (pv 0) L.cl X.mLk X.GLk hr3 X.bLk .nil (passC hC)))
     (zA2 (zAd (i:=3) nd rfl (Or.inl rfl) (zA8 GW hr rfl DW.at_ DW.fn.kp DW.bind .nil (passC hC) (zA0 (zAe (pv 0) rfl) (zA0 (pv 2) (zA0 (pv 1) zA3)))))
     (zA2 (zAj (zAh zCt (pv 3) zAi (nomark _))
     (zA4 (zB6 (zAl (pv 0) L.cl mCa GCa hr4 bCa .nil (passC hC) (zA0 (pv 1) (zA0 (zAl (pv 2) LL.cl mSo GSo hr2 bSo .nil (passC hC) (zA0 (zAe (pv 1) rfl) zA3)) zA3))))) zAa)
     (zA4 (zAb (pv 3)))))),?_⟩
  have c:=D.all _ (zCk B e.d);have ki:=G.ki _ (zCk B e.d);obtain ⟨dxd,hd⟩:=id de.p;obtain ⟨dx,wv,hp⟩:=id wa.b.p;refine ⟨_,rfl,_,_,_,_,_,rfl,.ins hd c.cl ki.ha ki.hn ki.htk ki.hm,rfl,G.de _ (zCk B e.d),_,rfl,iteF ?_⟩;refine ⟨_,rfl,p,dx,_,rfl,hp,zEu (by decide +kernel),p,dx,q,dl,dt,dd,_,_,wv,_,_,_,rfl,hp,wa.b.l,.inl wa.b.t,.inl wa.b.d,fun H1 lo dxl dl' dt' dd' g1 g2 g3 g4 g5 s1=>?_⟩;have wa1:=wa.same s1;have lk:LkAt CLo CK C H1 lo q pk dt' tt ts a:=⟨⟨dxl,dl',dd',wv,g1,.inl g2,.inl g4⟩,.inl g3,wa1.b.kb,wa1.e,wa1.s⟩;refine ⟨_,rfl,p,CWo,dx,_,_,rfl,s1 _ _ hp,L.cl,L.no _ (.head _),wo_k,_,rfl,_,rfl,lo,q,pk,dt',tt,ts,pd,a,e,last,rfl,lk,de.same s1,hl,fun H2 k2 d2=>?_⟩;have s2:Same H H2:=fun b o e=>k2 _ _ (s1 _ _ e) fun z=>by rw [z,g5] at e;cases e
  have wa2:=wa.same s2;refine ⟨_,rfl,rfl,_,rfl,?_⟩;by_cases hw:wordW a e last = "done"
  ·have ha:aft a e last=match e.d with | .se _ x=>⟨x,a.ma + 1,a.wi,putK a.ls (Sum.inr e.h) (.int e.n)⟩ | _=>a:=if_pos hw
   have hse:∃ m x,e.d=.se m x:=by
    have hw':=hw;unfold wordW at hw';by_cases z1:e.n≤last
    ·rw [if_pos z1] at hw';exact absurd hw' (by decide +kernel)
    ·rw [if_neg z1] at hw';by_cases z2:e.w≠a.wi
     ·rw [if_pos z2] at hw';exact absurd hw' (by decide +kernel)
     ·rw [if_neg z2] at hw';by_cases z3:lateB a e.d=true
      ·rw [if_pos z3] at hw';exact absurd hw' (by decide +kernel)
      ·rw [if_neg z3] at hw';cases z4:e.d with
       | mk st=>rw [z4] at hw';exact absurd hw' (show ¬ ("full" : Str) = "done" by decide +kernel)
       | se m x=>exact ⟨m,x,rfl⟩
       | tk m=>rw [z4] at z3;exact absurd rfl z3
   rw [hw] at k ⊢;obtain ⟨eh,en,ew,ed⟩:=e;obtain ⟨m,x,rfl⟩:=hse;rw [show decide (V.str "done" = V.str "done")=true from decide_eq_true rfl];rw [ha] at k;have s12:Same H1 H2:=fun b o e=>by
    by_cases hb:b=dt'
    ·rw [hb,d2 hw,← hb];exact e
    ·exact k2 _ _ e hb
   have lk2:=lk.same s12;refine iteT ⟨_,rfl,p,dx,_,rfl,s2 _ _ hp,zEu (by decide +kernel),_,rfl,_,rfl,lo,dxl,_,rfl,s12 _ _ g1,zCd (by decide +kernel),_,rfl,pd,_,dxd,_,_,rfl,s2 _ _ hd,c.cl,c.no _ (.tail _ (.tail _ (.tail _ (.head _)))),zE9 (e:=⟨eh,en,ew,.se m x⟩) (by decide +kernel) dF_x,lo,q,pk,dt',tt,ts,a,rfl,lk2,?_⟩;refine ⟨p,q,pk,dl,dt,dd,tt,ts,pd,a,eh,en,ew,m,x,rfl,wa2,de.same s2,nb,nl,fun H3 tt' ts' w3 f3=>⟨_,rfl,k _ _ _ w3 fun b o e n1 n2 n3=>f3 _ _ (s2 _ _ e) n1 n2 n3⟩⟩
  ·have ha:aft a e last=a:=if_neg hw;rw [ha] at k;rw [show decide (V.str (wordW a e last)=V.str "done")=false from decide_eq_false fun z=>hw (V.str.inj z)];exact iteF ⟨_,rfl,k _ _ _ wa2 fun b o e _ _ _=>s2 _ _ e⟩
end
end L2.W
namespace L2.W
open PySem My
noncomputable def wayS (w:Int):Str:=if w=0 then "done" else if w=1 then "late" else "full"
noncomputable def dueW (n last w wi way:Int):Str:=if n≤last then "old" else if w≠wi then "wish" else wayS way
noncomputable def Way (w:Int):Prop:=w=0∨w=1∨w=2
noncomputable def spDue:Sp:=fun vs H Q _=>∃ (dL t:Addr) (kvs:List (Key×V)) (h:Str) (n w wi way last:Int),vs=[.ref dL,.int wi,.ref t,.int way]∧H t=some (.tup [.str h,.int n,.int w])∧H dL=some (.dK kvs)∧valV kvs (Sum.inr h)=some (.int last)∧Way way∧∀ H',Same H H'→Q (.str (dueW n last w wi way)) H'
noncomputable def dOf (way m:Int) (x:Str) (st:Addr):Dd:=if way=2 then .mk st else if way=1 then (if x = "red" then .tk 1 else .se (m + 1) x) else .se m x
noncomputable def spDeed (B:DB):Sp:=fun vs H Q _=>∃ (t:Addr) (h:Str) (n w way m:Int) (x:Str),vs=[.ref t,.int way,.int m,.str x]∧H t=some (.tup [.str h,.int n,.int w])∧nameOk h∧1≤n∧0≤w∧1≤m∧Way way∧Col x∧∀ p st H',DdAt B H' p ⟨h,n,w,dOf way m x st⟩→Same H H'→Q (.ref p) H'
structure DM (P:Program) (w:World) (K:PySem.W.Frag) (mg:Str→Option Value) (base:Heap) (CX:CXT) (B:DB) (fM fT fS:Addr) (dM dT dS:FuncData):Prop where
 D:DCl K B
 kM:Mk K B.ma fM
 kT:Mk K B.tk fT
 kS:Mk K B.se fS
 gM:mg "Make" = some (.ref B.ma)
 gT:mg "Take" = some (.ref B.tk)
 gS:mg "Set" = some (.ref B.se)
 M:FnOk P w K mg base CX 4 fM dM ["self", "hand", "number", "wishing", "name", "owner_mark", "state"] (spMi K)
 T:FnOk P w K mg base CX 4 fT dT ["self", "hand", "number", "wishing", "name", "mark", "owner_mark"] (spTi K)
 S:FnOk P w K mg base CX 4 fS dS ["self", "hand", "number", "wishing", "name", "mark", "owner_mark", "field", "value"] (spSi K)
 bM:Binds K dM ["self", "hand", "number", "wishing", "name", "owner_mark", "state"] []
 bT:Binds K dT ["self", "hand", "number", "wishing", "name", "mark", "owner_mark"] []
 bS:Binds K dS ["self", "hand", "number", "wishing", "name", "mark", "owner_mark", "field", "value"] []
theorem bx0s:bx 0 = "box.0":=by decide +kernel
theorem bx1s:bx 1 = "box.1":=by decide +kernel
theorem bx7s:bx 7 = "box.7":=by decide +kernel
section
variable {P:Program}{w:World}{K:PySem.W.Frag}{mg:Str→Option Value}{base:Heap}{CX:CXT}
theorem scDue:FnScope ["_law_lasts", "_law_wishing", "_law_told", "_law_way", "_law_hand", "_law_number", "_law_here"] ["_law_lasts", "_law_wishing", "_law_told", "_law_way"] (defScope sDue):=⟨rfl,rfl,rfl,by decide +kernel,rfl,by decide +kernel,by decide +kernel⟩
theorem scDeed:FnScope ["_law_told", "_law_way", "_law_mark", "_law_value", "_law_hand", "_law_number", "_law_here"] ["_law_told", "_law_way", "_law_mark", "_law_value"] (defScope sDeed):=⟨rfl,rfl,rfl,by decide +kernel,rfl,by decide +kernel,by decide +kernel⟩
theorem ok_due {f:Addr}{fd:FuncData} (F:Fun K "_law_due" "_law_due" sDue f fd):FnOk P w K mg base CX 1 f fd ["_law_lasts", "_law_wishing", "_law_told", "_law_way"] spDue:=by
 refine Fun.okC F scDue (fun vs H Q E h=>?_) (fun cdv Ar outer s H vs Q E hr h=>?_)
 ·obtain ⟨dL,t,kvs,h,n,w,wi,way,last,rfl,_⟩:=h;rfl
 ·obtain ⟨dL,t,kvs,h,n,w,wi,way,last,rfl,ht,hd,hv,hw,k⟩:=h;have nd:=scDue.nd;have hu:=zDb hr
  refine ⟨_,zA2 (zEp (pv 2) (pg_tup rfl (zBl (zAf (i:=4) nd rfl (Or.inl rfl)) (zBl (zAf (i:=5) nd rfl (Or.inl rfl)) (zBl (zAf (i:=6) nd rfl (Or.inl rfl)) zDw)))))
     (zA2 (zAj (zAh zEi (pv 5) (zBu hu (pv 0) (pv 4) (fun _ _=>rfl)) (nomark _))
     (zA4 (zAb zAi)) zAa)
     (zA2 (zAj (zAh zE2 (pv 6) (pv 1) (nomark _))
     (zA4 (zAb zAi)) zAa)
     (zA4 (zAb (zAu zBi (zB4 (zA0 zAi (zA0 zAi (zA0 zAi zA3)))) (pv 3) (fun _ _=>rfl)))))),?_⟩
  have dg:=DGet.k (k:=Sum.inr h) hd;rw [hv] at dg;refine ⟨_,rfl,t,_,rfl,SqT.of ht,rfl,_,_,rfl,_,_,rfl,_,_,rfl,rfl,?_⟩;refine ⟨_,rfl,_,rfl,_,rfl,dL,_,rfl,dg,_,_,rfl,rfl,_,rfl,?_⟩;by_cases z1:n≤last
  ·rw [decide_eq_true z1];have w1:dueW n last w wi way = "old":=if_pos z1;rw [w1] at k;exact iteT (k _ (Same.refl _))
  rw [decide_eq_false z1];refine iteF ⟨_,rfl,_,rfl,rfl,_,rfl,?_⟩;by_cases z2:w=wi
  ·rw [show decide (V.int w=V.int wi)=true from decide_eq_true (by rw [z2])];have w2:dueW n last w wi way=wayS way:=by
    unfold dueW;rw [if_neg z1,if_neg fun z=>z z2]
   rw [w2] at k;refine iteF ⟨Zd (small1000 (n:=3) (by decide)),fun l fl=>⟨_,rfl,l,_,way,_,rfl,rfl,SqL.of zA1,?_,k _ (Same.new fl)⟩⟩;rcases hw with rfl | rfl | rfl <;> rfl
  ·rw [show decide (V.int w=V.int wi)=false from decide_eq_false fun z=>z2 (V.int.inj z)];have w2:dueW n last w wi way = "wish":=by
    unfold dueW;rw [if_neg z1,if_pos z2]
   rw [w2] at k;exact iteT (k _ (Same.refl _))
theorem ok_deed {f fM fT fS:Addr}{fd dM dT dS:FuncData}{B:DB} (hC:Calm CX) (X:DM P w K mg base CX B fM fT fS dM dT dS) (F:Fun K "_law_deed" "_law_deed" sDeed f fd):FnOk P w K mg base CX 6 f fd ["_law_told", "_law_way", "_law_mark", "_law_value"] (spDeed B):=by
 have D:=X.D;refine Fun.okC F scDeed (fun vs H Q E h=>?_) (fun cdv Ar outer s H vs Q E hr h=>?_)
 ·obtain ⟨t,h,n,w,way,m,x,rfl,_⟩:=h;rfl
 ·obtain ⟨t,h,n,w,way,m,x,rfl,ht,hh,hn,hw0,hm,hw,hx,k⟩:=h;have nd:=scDeed.nd
  refine ⟨_,zA2 (zEp (pv 0) (pg_tup rfl (zBl (zAf (i:=4) nd rfl (Or.inl rfl)) (zBl (zAf (i:=5) nd rfl (Or.inl rfl)) (zBl (zAf (i:=6) nd rfl (Or.inl rfl)) zDw)))))
     (zA2 (zAj (zAh zCt (pv 1) zA7 (nomark _))
     (zA4 (zAb (zBj X.kM X.M hr rfl X.gM X.bM .nil (passC hC) (zA0 (pv 4) (zA0 (pv 5) (zA0 (pv 6) (zA0 zAi (zA0 zBp (zA0 (zBr (zA0 zAi zA3)) zA3))))))))) zAa)
     (zA2 (zAj (PW.pt (zCz (zAh zCt (pv 1) zA7 (nomark _)) (zC4 (zAh zCt (pv 3) zAi (nomark _)))))
     (zA4 (zAb (zBj X.kT X.T hr rfl X.gT X.bT .nil (passC hC) (zA0 (pv 4) (zA0 (pv 5) (zA0 (pv 6) (zA0 zAi (zA0 zA7 (zA0 zBp zA3))))))))) zAa)
     (zA2 (zAj (zAh zCt (pv 1) zA7 (nomark _))
     (zA4 (zAb (zBj X.kS X.S hr rfl X.gS X.bS .nil (passC hC) (zA0 (pv 4) (zA0 (pv 5) (zA0 (pv 6) (zA0 zAi (zA0 (zAt zBs (pv 2) zA7) (zA0 zBp (zA0 zAi (zA0 (pv 3) zA3))))))))))) zAa)
     (zA4 (zAb (zBj X.kS X.S hr rfl X.gS X.bS .nil (passC hC) (zA0 (pv 4) (zA0 (pv 5) (zA0 (pv 6) (zA0 zAi (zA0 (pv 2) (zA0 zBp (zA0 zAi (zA0 (pv 3) zA3)))))))))))))),?_⟩
  have cS:=D.all _ (.inr (.inl rfl));have cM:=D.all _ (.inl rfl);have cT:=D.all _ (.inr (.inr rfl));have big:∀ {H1:Hp}{m':Int},Same H H1→1≤m'→dOf way m x 0=.se m' x→∀ px dx,H1 px=none→H1 dx=none→dx≠px→∀ (Q':VK) (E':XK),(∀ H',Q (.ref px) H'→Q' .non H')→spSi K [.ref px,.str h,.int n,.int w,.str "box.0",.int m',.non,.str "colour",.str x] (upd (upd H1 dx (.own px)) px (.ins B.se dx [])) Q' E':=fun {H1 m'} s1 hm' hd px dx hp hdx ne Q' E' q' =>
   ⟨px,B.se,dx,h,n,w,0,m',x,by rw [bx0s],⟨zA1,cS,hh,hn,hw0,.inl rfl⟩,hm',hx,fun H' e b=>q' _ (k px 0 H' ⟨⟨dx,by rw [hd];exact e⟩,by rw [hd];exact hx⟩ (s1.trans (zCg hp hdx ne b)))⟩
  refine ⟨_,rfl,t,_,rfl,SqT.of ht,rfl,_,_,rfl,_,_,rfl,_,_,rfl,rfl,?_⟩;refine ⟨_,rfl,rfl,_,rfl,?_⟩;rcases hw with rfl | rfl | rfl
  ·refine iteF ⟨_,rfl,rfl,_,rfl,iteF (iteF ⟨_,rfl,rfl,_,rfl,iteF ?_⟩)⟩;refine ⟨_,rfl,_,rfl,_,rfl,_,rfl,_,rfl,fun px dx hp hdx ne=>big (Same.refl _) hm rfl px dx hp hdx ne _ _ fun H' z=>⟨rfl,z⟩⟩
  ·refine iteF ⟨_,rfl,rfl,_,rfl,iteT ⟨_,rfl,rfl,_,rfl,?_⟩⟩;by_cases hr':x = "red"
   ·subst hr';rw [show decide (V.str "red" = V.str "red")=true from decide_eq_true rfl];refine iteT ⟨_,rfl,_,rfl,_,rfl,fun px dx hp hdx ne=>?_⟩;exact ⟨px,B.tk,dx,h,n,w,7,1,by rw [bx7s];rfl,⟨zA1,cT,hh,hn,hw0,.inr (.inr rfl)⟩,by decide,fun H' e b=>⟨rfl,k px 0 H' ⟨⟨dx,e⟩,trivial⟩ (zCg hp hdx ne b)⟩⟩
   ·rw [show decide (V.str x=V.str "red")=false from decide_eq_false fun z=>hr' (V.str.inj z)];refine iteF ⟨_,rfl,rfl,_,rfl,iteT ?_⟩;exact ⟨_,rfl,_,rfl,_,rfl,_,rfl,_,_,rfl,rfl,_,rfl,fun px dx hp hdx ne=>big (Same.refl _) (by omega) (by unfold dOf;rw [if_neg (by decide),if_pos rfl,if_neg hr']) px dx hp hdx ne _ _ fun H' z=>⟨rfl,z⟩⟩
  ·refine iteT ⟨_,rfl,_,rfl,_,rfl,Zd (small1000 (n:=1) (by decide)),fun st fs=>fun px dx hp hdx ne=>?_⟩;exact ⟨px,B.ma,dx,h,n,w,1,st,by rw [bx1s];rfl,⟨zA1,cM,hh,hn,hw0,.inr (.inl rfl)⟩,zBm hp hdx ne _ _ zA1,fun H' e b=>⟨rfl,k px st H' ⟨⟨dx,e⟩,b _ _ (zBm hp hdx ne _ _ zA1) (fun z=>by rw [← z,zA1] at hp;cases hp)⟩ ((Same.new fs).trans (zCg hp hdx ne b))⟩⟩
end
end L2.W
namespace L2.W
open PySem My
noncomputable def lsK (L:Str→Int):List (Key×V):=[(Sum.inr "ann",.int (L "ann")),(Sum.inr "bob",.int (L "bob")),(Sum.inr "annb",.int (L "annb"))]
noncomputable def updL (L:Str→Int) (h:Str) (n:Int):Str→Int:=fun x=>if x=h then n else L x
noncomputable def Hand (h:Str):Prop:=h = "ann"∨h = "bob"∨h = "annb"
theorem ls_put {L:Str→Int}{h:Str}{n:Int} (hh:Hand h):putK (lsK L) (Sum.inr h) (.int n)=lsK (updL L h n):=by
 rcases hh with rfl | rfl | rfl <;> rfl
theorem ls_get {L:Str→Int}{h:Str} (hh:Hand h):valV (lsK L) (Sum.inr h)=some (.int (L h)):=by
 rcases hh with rfl | rfl | rfl <;> rfl
theorem Hand.ok {h:Str} (hh:Hand h):nameOk h:=by rcases hh with rfl | rfl | rfl <;> (refine ⟨?_,?_,?_⟩ <;> decide +kernel)
theorem Hand.no {h:Str} (hh:Hand h):¬ ("box" : Str)=h∧¬ ("cat" : Str)=h:=by rcases hh with rfl | rfl | rfl <;> (constructor <;> decide +kernel)
structure LsR (ls:List (Key×V)) (L:Str→Int):Prop where
 h:∀ h,Hand h→(valV ls (Sum.inr h)).getD (.int 0)=.int (L h)
 c:valV ls (Sum.inr "cat")=none
 b:valV ls (Sum.inr "box")=none
theorem LsR.put {ls:List (Key×V)}{L:Str→Int} (r:LsR ls L) {h:Str} (hh:Hand h) (n:Int):LsR (putK ls (Sum.inr h) (.int n)) (updL L h n):=by
 refine ⟨fun g hg=>?_,?_,?_⟩
 ·rw [zEv];unfold updL;by_cases z:g=h
  ·rw [if_pos (by rw [z]),if_pos z];rfl
  ·rw [if_neg (fun e=>z (Sum.inr.inj e)),if_neg z];exact r.h g hg
 ·rw [zEv,if_neg (fun e=>hh.no.2 (Sum.inr.inj e))];exact r.c
 ·rw [zEv,if_neg (fun e=>hh.no.1 (Sum.inr.inj e))];exact r.b
theorem nbx_of {ls:List (Key×V)} (h:valV ls (Sum.inr "box")=none):NBx ls:=fun x z=>by
 rw [z,zAy rfl] at h;cases h
theorem word_due {a:Ab}{h:Str}{n w way last:Int}{x:Str}{st:Addr} (hw:Way way):wordW a ⟨h,n,w,dOf way a.ma x st⟩ last=dueW n last w a.wi way:=by
 unfold wordW dueW;by_cases z1:n≤last
 ·rw [if_pos z1,if_pos z1]
 rw [if_neg z1,if_neg z1];by_cases z2:w≠a.wi
 ·rw [if_pos z2,if_pos z2]
 rw [if_neg z2,if_neg z2];rcases hw with rfl | rfl | rfl
 ·have e:dOf 0 a.ma x st=.se a.ma x:=rfl;simp only [e,lateB,decide_true,Bool.not_true,dnS,wayS];rfl
 ·by_cases zx:x = "red"
  ·have e:dOf 1 a.ma x st=.tk 1:=by unfold dOf;rw [if_neg (by decide),if_pos rfl,if_pos zx]
   simp only [e];rfl
  ·have e:dOf 1 a.ma x st=.se (a.ma + 1) x:=by unfold dOf;rw [if_neg (by decide),if_pos rfl,if_neg zx]
   have l:lateB a (.se (a.ma + 1) x)=true:=by
    show (!decide (a.ma + 1=a.ma))=true;rw [decide_eq_false (by omega)];rfl
   simp only [e,l];rfl
 ·have e:dOf 2 a.ma x st=.mk st:=rfl;simp only [e];rfl
theorem due_way {n last w wi way:Int} (hw:Way way) (h:dueW n last w wi way = "done"):way=0:=by
 unfold dueW at h;by_cases z1:n≤last
 ·rw [if_pos z1] at h;exact absurd h (by decide +kernel)
 rw [if_neg z1] at h;by_cases z2:w≠wi
 ·rw [if_pos z2] at h;exact absurd h (by decide +kernel)
 rw [if_neg z2] at h;rcases hw with rfl | rfl | rfl
 ·rfl
 ·exact absurd h (by decide +kernel)
 ·exact absurd h (by decide +kernel)
structure Ad where
 (CWo CK C p kq pk dl dt dd dL li:Addr)
structure G23 (A:Ad) (zs:List Int) (H:Hp) (q:Addr) (k:Int) (tt ts:Addr) (a:Ab) (L:Str→Int):Prop where
 w:WAt A.CWo A.CK A.C H A.p A.kq A.pk A.dl A.dt A.dd tt ts a
 S:Src H q k
 d:H A.dL=some (.dK (lsK L))
 l:H A.li=some (.lst (zs.map V.int))
 nq:A.li≠q
structure AdN (A:Ad):Prop where
 (p:A.dL≠A.p) (t:A.dL≠A.dt) (d:A.dL≠A.dd)
section
variable {A:Ad}{zs:List Int}{H H':Hp}{q tt ts tt' ts':Addr}{k:Int}{a a':Ab}{L:Str→Int}
theorem G23.same (g:G23 A zs H q k tt ts a L) (s:Same H H'):G23 A zs H' q k tt ts a L:=by
 obtain ⟨w,⟨x,y,z,e,r⟩,d,l,nq⟩:=g;exact ⟨w.same s,⟨x,y,z,s _ _ e,r⟩,s _ _ d,s _ _ l,nq⟩
theorem G23.fr (n:AdN A) (g:G23 A zs H q k tt ts a L) (w':WAt A.CWo A.CK A.C H' A.p A.kq A.pk A.dl A.dt A.dd tt' ts' a') (f:Fr A.p A.dt A.dd H H'):G23 A zs H' q k tt' ts' a' L:=by
 obtain ⟨w,⟨x,y,z,e,r⟩,d,l,nq⟩:=g;exact ⟨w',⟨x,y,z,w.b.fsq f e trivial,r⟩,f _ _ d n.p n.t n.d,w.b.fsq f l trivial,nq⟩
theorem G23.draw (g:G23 A zs H q k tt ts a L) (S:Src H' q (k + 1)) (o:∀ b,b≠q→H' b=H b):G23 A zs H' q (k + 1) tt ts a L:=by
 obtain ⟨⟨⟨⟨dx,wv,ep⟩,el,et,ed,ne,⟨⟨dx2,dq,e1,e2⟩,dk,l1,t1,lv,e3,e4,e5,e6⟩,nt,nd⟩,ee,es,en⟩,⟨x,y,z,e,r⟩,d,l,nq⟩:=g;have kp:∀ {b:Addr}{u:HO},H b=some u→(∀ x y z:Int,u≠.lst [.int x,.int y,.int z])→H' b=some u:=fun {b u} eb h=>by
  rw [o b fun zq=>by rw [zq,e] at eb;cases eb;exact h _ _ _ rfl];exact eb
 have kr:∀ {b:Addr}{kvs:List (Key×V)},Rd H b (.dK kvs)→Rd H' b (.dK kvs):=fun {b kvs} h=>by
  rcases h with h | ⟨u,h⟩
  ·exact .inl (kp h (fun _ _ _ z=>nomatch z))
  ·exact .inr ⟨u,kp h (fun _ _ _ z=>nomatch z)⟩
 exact ⟨⟨⟨⟨dx,wv,kp ep (fun _ _ _ z=>nomatch z)⟩,kr el,kp et (fun _ _ _ z=>nomatch z),kp ed (fun _ _ _ z=>nomatch z),ne,⟨⟨dx2,dq,kp e1 (fun _ _ _ z=>nomatch z),kr e2⟩,dk,l1,t1,lv,kp e3 (fun _ _ _ z=>nomatch z),kp e4 (fun _ _ _ z=>nomatch z),kp e5 (fun _ _ _ z=>nomatch z),kp e6 (fun _ _ _ z=>nomatch z)⟩,nt,nd⟩,kp ee (fun _ _ _ z=>nomatch z),kp es (fun _ _ _ z=>nomatch z),en⟩,S,kp d (fun _ _ _ z=>nomatch z),by rw [o _ nq];exact l,nq⟩
theorem G23.last (n:AdN A) (g:G23 A zs H q k tt ts a L) (L':Str→Int):G23 A zs (upd H A.dL (.dK (lsK L'))) q k tt ts a L':=by
 obtain ⟨⟨⟨⟨dx,wv,ep⟩,el,et,ed,ne,⟨⟨dx2,dq,e1,e2⟩,dk,l1,t1,lv,e3,e4,e5,e6⟩,nt,nd⟩,ee,es,en⟩,⟨x,y,z,e,r⟩,d,l,nq⟩:=g;have kp:∀ {b:Addr}{u:HO},H b=some u→(∀ kvs,u≠.dK kvs)→(upd H A.dL (.dK (lsK L'))) b=some u:=fun {b u} eb h=>by
  rw [zA6 fun zq=>by rw [zq,d] at eb;cases eb;exact h _ rfl];exact eb
 have kr:∀ {b:Addr}{kvs:List (Key×V)},Rd H b (.dK kvs)→kvs.length=1→Rd (upd H A.dL (.dK (lsK L'))) b (.dK kvs):=fun {b kvs} h h1=>by
  have nb:b≠A.dL:=rd_ne h (.inl d) fun z=>by rw [z] at h1;cases h1
  rcases h with h | ⟨u,h⟩
  ·exact .inl (by rw [zA6 nb];exact h)
  ·exact .inr ⟨u,by rw [zA6 nb];exact h⟩
 exact ⟨⟨⟨⟨dx,wv,kp ep (fun _ z=>nomatch z)⟩,kr el rfl,by rw [zA6 (Ne.symm n.t)];exact et,by rw [zA6 (Ne.symm n.d)];exact ed,ne,⟨⟨dx2,dq,kp e1 (fun _ z=>nomatch z),kr e2 rfl⟩,dk,l1,t1,lv,kp e3 (fun _ z=>nomatch z),kp e4 (fun _ z=>nomatch z),kp e5 (fun _ z=>nomatch z),kp e6 (fun _ z=>nomatch z)⟩,nt,nd⟩,kp ee (fun _ z=>nomatch z),kp es (fun _ z=>nomatch z),en⟩,⟨x,y,z,kp e (fun _ z=>nomatch z),r⟩,zA1,kp l (fun _ z=>nomatch z),nq⟩
theorem G23.keep (g:G23 A zs H q k tt ts a L) (o:∀ b,b≠q→H' b=H b) {b:Addr}{u:HO} (e:H b=some u) (n:b≠q):H' b=some u:=by rw [o b n];exact e
theorem G23.nw (g:G23 A zs H q k tt ts a L) {b:Addr} (e:H b=none):b≠q:=by
 obtain ⟨_,_,_,e',_⟩:=g.S;rintro rfl;rw [e'] at e;cases e
end
theorem at3 {α : Type}{x y z : α}{r:Int} (h0:0≤r) (h1:r < 3):∃ u,atI [x,y,z] r=some u∧(u=x∨u=y∨u=z):=by
 have:r=0∨r=1∨r=2:=by omega
 rcases this with rfl | rfl | rfl
 ·exact ⟨x,rfl,.inl rfl⟩
 ·exact ⟨y,rfl,.inr (.inl rfl)⟩
 ·exact ⟨z,rfl,.inr (.inr rfl)⟩
theorem k_hi {R:Hp→Int→Prop}{G:Hp→Int→Prop}{B:Prop} (t:∀ H n,G H n→R H n) (h:(∀ H n,G H n→R H n)→B):B:=h t
theorem k_his {R:Hp→Int→Str→Prop}{G:Hp→Int→Str→Prop}{B:Prop} (t:∀ H n x,G H n x→R H n x) (h:(∀ H n x,G H n x→R H n x)→B):B:=h t
theorem ne_same {G G':Addr→Prop}{H:Hp}{x y:V}{Q:VK}{d:PyData} (hx:Has G H x d) (hy:Has G' H y d) (hd:d.depth≤64) (q:Q (.bl false) H):rNeD x y H Q:=⟨d,d,hx.any,hy.any,hd,hd,by rw [hx.eqv];exact q⟩
end L2.W
namespace L2.W
open PySem My
structure Asks23 (P:Program) (w:World) (K:PySem.W.Frag) (mg:Str→Option Value) (base:Heap) (B:DB) (CWo CLo CW CK C fIk fOr fOf fOw fp fLk fKe fI fWo fPut fW fTell fDo fs fn fdu fde fTh fTn fNa fLa Pt:Addr) (dOf fdp dLk dKe dI dIk dWo dPut dW dTell dDo ds dn ddu dde dTh dTn dNa dLa:FuncData):Prop where
 X:WX P w K mg base (CXM P w) CWo CLo CK C fIk fOr fOf fOw fp fLk fKe dOf fdp dLk dKe
 KC:KCls K mg C fI
 GK:FnOk P w K mg base (CXM P w) 5 fI dI ["self", "name", "fields", "owner"] (spInit C)
 bK:Binds K dI ["self", "name", "fields", "owner"] []
 GIk:FnOk P w K mg base (CXM P w) 5 fIk dIk ["self", "kinds"] (spInitKs CK C Pt)
 bIk:Binds K dIk ["self", "kinds"] []
 kWo:Mk K CWo fWo
 gWo:mg "World" = some (.ref CWo)
 GWo:FnOk P w K mg base (CXM P w) 8 fWo dWo ["self", "kinds", "limits"] (spWoI CWo CK C)
 bWo:Binds K dWo ["self", "kinds", "limits"] []
 mPut:Meth K CWo "put" fPut
 GPut:FnOk P w K mg base (CXM P w) 5 fPut dPut ["self", "name", "state"] (spPut CWo CK C)
 bPut:Binds K dPut ["self", "name", "state"] []
 W:WM P w K mg base (CXM P w) CW CK C fW dW
 mTell:Meth K CWo "tell" fTell
 GTell:FnOk P w K mg base (CXM P w) 8 fTell dTell ["self", "wishes"] (spTell CWo CW CK C)
 bTell:Binds K dTell ["self", "wishes"] []
 mDo:Meth K CWo "do" fDo
 GDo:FnOk P w K mg base (CXM P w) 7 fDo dDo ["self", "deed"] (spDo B CWo CK C)
 bDo:Binds K dDo ["self", "deed"] []
 Ds:Def K mg "_law_source" sSource ["_law_cell"] fs ds
 Gs:FnOk P w K mg base (CXM P w) 1 fs ds ["_law_cell"] spDigits
 Dn:Def K mg "_law_next" sNext ["_law_source_here", "_law_many"] fn dn
 Gn:FnOk P w K mg base (CXM P w) 2 fn dn ["_law_source_here", "_law_many"] spNext
 Du:Def K mg "_law_due" sDue ["_law_lasts", "_law_wishing", "_law_told", "_law_way"] fdu ddu
 Gu:FnOk P w K mg base (CXM P w) 1 fdu ddu ["_law_lasts", "_law_wishing", "_law_told", "_law_way"] spDue
 De:Def K mg "_law_deed" sDeed ["_law_told", "_law_way", "_law_mark", "_law_value"] fde dde
 Ge:FnOk P w K mg base (CXM P w) 6 fde dde ["_law_told", "_law_way", "_law_mark", "_law_value"] (spDeed B)
 mTh:Meth K CLo "thing" fTh
 GTh:FnOk P w K mg base (CXM P w) 1 fTh dTh ["self", "name"] (spTh CLo CK C)
 bTh:Binds K dTh ["self", "name"] []
 mTn:Meth K CLo "turn" fTn
 GTn:FnOk P w K mg base (CXM P w) 1 fTn dTn ["self"] (spTn CLo CK C)
 bTn:Binds K dTn ["self"] []
 mNa:Meth K CLo "names" fNa
 GNa:FnOk P w K mg base (CXM P w) 1 fNa dNa ["self"] (spNa CLo CK C)
 bNa:Binds K dNa ["self"] []
 mLa:Meth K CLo "last" fLa
 GLa:FnOk P w K mg base (CXM P w) 1 fLa dLa ["self", "hand"] (spLa CLo CK C)
 bLa:Binds K dLa ["self", "hand"] []
noncomputable abbrev nL23:List Str:=["_law_script", "_law_kinds", "_law_world", "_law_lasts", "_law_wishing", "_law_mark", "_law_state", "_law_cell", "_law_source_here", "_law_hand", "_law_more", "_law_number", "_law_here", "_law_told", "_law_way", "_law_value", "_law_due_here", "_law_look"]
noncomputable def spLaw23 (K:PySem.W.Frag) (Pt:Addr):Sp:=fun vs H Q _=>∃ (a:Addr) (ns:List Int),vs=[.ref a]∧SqL K H a (ns.map V.int)∧ns.length≤63∧TabOk H Pt lamPos lamQ∧∀ H',Q (.bl true) H'
noncomputable abbrev row23:Row:=⟨"box",[("colour",["red", "grey"])],none⟩
theorem row23_ok:RowsP [row23]:=⟨[row23],⟨by decide,by decide,by decide +kernel,fun r hr=>by rw [List.mem_singleton.mp hr];exact ⟨box_ok,⟨by decide,by decide +kernel,fun f hf=>by rw [List.mem_singleton.mp hf];exact ⟨col_ok,⟨by decide,by decide,by decide +kernel,fun x hx=>by simp only [Zv,Zq,or_false] at hx;exact Col.ok hx⟩⟩,by decide⟩⟩,fun i r o hi ho=>by
 cases i with
 | zero=>cases hi;cases ho
 | succ i=>cases hi⟩,List.Perm.refl _⟩
theorem cut_ints (ns:List Int) (lo hi:Option Int):∃ ms:List Int,cutV (ns.map V.int) lo hi=ms.map V.int∧ms.length≤ns.length:=by
 unfold cutV;rw [← List.map_drop,← List.map_take];exact ⟨_,rfl,by rw [Zy,List.length_drop];omega⟩
theorem sqKeep {K:PySem.W.Frag}{H H':Hp}{a:Addr}{xs:List V} (h:SqL K H a xs) (k:∀ o,H a=some o→(o=.lst xs∨∃ x,o=.frz x (.lst xs))→H' a=some o):SqL K H' a xs:=by
 rcases h with (h | ⟨o,h⟩) | h
 ·exact .inl (.inl (k _ h (.inl rfl)))
 ·exact .inl (.inr ⟨o,k _ h (.inr ⟨_,rfl⟩)⟩)
 ·exact .inr h
section
variable {P:Program}{w:World}{K:PySem.W.Frag}{mg:Str→Option Value}{base:Heap}
theorem scL23:FnScope nL23 ["_law_script"] (defScope sLaw):=⟨rfl,rfl,rfl,by decide +kernel,rfl,by decide +kernel,by decide +kernel⟩
set_option maxHeartbeats 8000000 in
theorem ok_law23 {f CWo CLo CW CK C fIk fOr fOf fOw fp fLk fKe fI fWo fPut fW fTell fDo fs fn fdu fde fTh fTn fNa fLa Pt:Addr}{fdl dOf fdp dLk dKe dI dIk dWo dPut dW dTell dDo ds dn ddu dde dTh dTn dNa dLa:FuncData}{B:DB} (F:Fun K "law" "law" sLaw f fdl) (A:Asks23 P w K mg base B CWo CLo CW CK C fIk fOr fOf fOw fp fLk fKe fI fWo fPut fW fTell fDo fs fn fdu fde fTh fTn fNa fLa Pt dOf fdp dLk dKe dI dIk dWo dPut dW dTell dDo ds dn ddu dde dTh dTn dNa dLa):FnOk P w K mg base (CXM P w) 10 f fdl ["_law_script"] (spLaw23 K Pt):=by
 have X:=A.X;have T:=X.T;have W:=A.W;have hC:=X.hC;have L:=X.L;have LL:=X.LL;have KS:=X.KS;have KC:=A.KC;refine Fun.okC F scL23 (fun vs H Q E h=>?_) (fun cdv Ar outer s H vs Q E hr h=>?_)
 ·obtain ⟨a,ns,rfl,_⟩:=h;rfl
 obtain ⟨a,nums,rfl,hS,hlen,hT,k⟩:=h;have nd:=scL23.nd;have hu:=zDb hr;have hr1:=hr.mono (show 1≤9 by decide);have hr2:=hr.mono (show 2≤9 by decide);have hr3:=hr.mono (show 3≤9 by decide);have hr5:=hr.mono (show 5≤9 by decide);have hr6:=hr.mono (show 6≤9 by decide);have hr7:=hr.mono (show 7≤9 by decide);have hr8:=hr.mono (show 8≤9 by decide);refine zAx (zAd (i:=1) nd rfl (Or.inl rfl) (zBj KS.mkd A.GIk hr6 rfl KS.mgC A.bIk .nil (passC hC) (zA0 (zB4 (zA0 (zBj KC.mkd A.GK hr6 rfl KC.mgC A.bK .nil (passC hC) (zA0 zAi (zA0 (zB4 (zA0 (zBr (zA0 zAi (zA0 (zB4 (zA0 zAi (zA0 zAi zA3))) zA3))) zA3)) (zA0 zBp zA3)))) zA3)) zA3))) fun S1 h1=>?_;refine zAx (zAd (i:=2) nd rfl (Or.inl rfl) (zBj A.kWo A.GWo hr rfl A.gWo A.bWo .nil (passC hC) (zA0 (pv 1) (zA0 (zF2 (zCm zAi zA7 pps_nil) rfl rfl (fun h=>nomatch h) (by decide)) zA3)))) fun S2 h2=>?_;refine zAx (zB6 (zAl (pv 2) L.cl A.mPut A.GPut hr5 A.bPut .nil (passC hC) (zA0 zAi (zA0 (zBr (zA0 zAi zA3)) zA3)))) fun S3 h3=>?_;refine zAx (zAd (i:=3) nd rfl (Or.inl rfl) (zF2 (zCm zAi zA7 (zCm zAi zA7 (zCm zAi zA7 pps_nil))) rfl rfl (fun h=>nomatch h) (by decide))) fun S4 h4=>?_;refine zAx (zAd (i:=4) nd rfl (Or.inl rfl) zA7) fun S5 h5=>?_;refine zAx (zAd (i:=5) nd rfl (Or.inl rfl) zA7) fun S6 h6=>?_;refine zAx (zAd (i:=6) nd rfl (Or.inl rfl) zAi) fun S7 h7=>?_;refine bd_blk (fun tb pb=>zCb PassesOwn.never rfl (zAn (zAt op_cat (zCn sl_list (pv 0) zEz (zDh zA7)) (zB4 (zA0 zA7 zA3)))) (zAf (i:=7) nd rfl (Or.inl rfl)) pb) ?_;refine zAx (zAd (i:=8) nd rfl (Or.inl rfl) (zA8 A.Gs hr1 rfl A.Ds.at_ A.Ds.fn.kp A.Ds.bind .nil (passC hC) (zA0 (pv 7) zA3))) fun S8_1 h8_1=>?_
 refine zAx (zAj (zAh zCt (zA8 A.Gn hr2 rfl A.Dn.at_ A.Dn.fn.kp A.Dn.bind .nil (passC hC) (zA0 (pv 8) (zA0 zA7 zA3))) zA7 (nomark _))
    (zA2 (zB6 (zAl (pv 2) L.cl A.mTell A.GTell hr8 A.bTell .nil (passC hC) (zA0 (zBj W.M W.G hr7 rfl W.g W.b .nil (passC hC) (zA0 (pv 1) (zA0 (zB4 (zA0 (zBr (zA0 zAi (zA0 zA7 (zA0 (zB4 zA3) zA3)))) zA3)) zA3))) zA3)))
    (zA4 (zAd (i:=4) nd rfl (Or.inl rfl) (zAt zBs (pv 4) zA7)))) zAa) fun S8_2 h8_2=>?_
 refine zAx (zAd (i:=9) nd rfl (Or.inl rfl) (zAu zBi (zB4 (zA0 zAi (zA0 zAi (zA0 zAi zA3)))) (zA8 A.Gn hr2 rfl A.Dn.at_ A.Dn.fn.kp A.Dn.bind .nil (passC hC) (zA0 (pv 8) (zA0 zA7 zA3))) (fun _ _=>rfl))) fun S8_3 h8_3=>?_;refine zAx (zAd (i:=10) nd rfl (Or.inl rfl) (zAu zBi (zB4 (zA0 (zAt op_sub (zA8 A.Gn hr2 rfl A.Dn.at_ A.Dn.fn.kp A.Dn.bind .nil (passC hC) (zA0 (pv 8) (zA0 zA7 zA3))) zA7) (zA0 zA7 (zA0 (zAt zBs (zAt op_pow zA7 zA7) (zA8 A.Gn hr2 rfl A.Dn.at_ A.Dn.fn.kp A.Dn.bind .nil (passC hC) (zA0 (pv 8) (zA0 zA7 zA3)))) zA3)))) (zA8 A.Gn hr2 rfl A.Dn.at_ A.Dn.fn.kp A.Dn.bind .nil (passC hC) (zA0 (pv 8) (zA0 zA7 zA3))) (fun _ _=>rfl))) fun S8_4 h8_4=>?_;refine zAx (zAd (i:=11) nd rfl (Or.inl rfl) (zA9 (call_min2 rfl) rfl T.min PyProof.Rows.boot_min (zA0 (zAt op_sub (zAt op_pow zA7 zA7) zA7) (zA0 (zA9 (call_max2 rfl) rfl T.max PyProof.Rows.boot_max (zA0 zA7 (zA0 (zAt zBs (zBu hu (pv 3) (pv 9) (fun _ _=>rfl)) (pv 10)) zA3))) zA3)))) fun S8_5 h8_5=>?_
 refine zAx (zAj (zAh zCt (zA8 A.Gn hr2 rfl A.Dn.at_ A.Dn.fn.kp A.Dn.bind .nil (passC hC) (zA0 (pv 8) (zA0 zA7 zA3))) zA7 (nomark _))
    (zA4 (zAd (i:=11) nd rfl (Or.inl rfl) (zAt op_sub (zAt op_pow zA7 zA7) zA7))) zAa) fun S8_6 h8_6=>?_
 refine zAx (zAd (i:=12) nd rfl (Or.inl rfl) (zAu zBi (zB4 (zA0 (pv 4) (zA0 (pv 4) (zA0 (pv 4) (zA0 (zA9 (call_max2 rfl) rfl T.max PyProof.Rows.boot_max (zA0 zA7 (zA0 (zAt op_sub (pv 4) zA7) zA3))) (zA0 (zAt zBs (pv 4) zA7) zA3)))))) (zA8 A.Gn hr2 rfl A.Dn.at_ A.Dn.fn.kp A.Dn.bind .nil (passC hC) (zA0 (pv 8) (zA0 zA7 zA3))) (fun _ _=>rfl))) fun S8_7 h8_7=>?_;refine zAx (zAd (i:=13) nd rfl (Or.inl rfl) (zBr (zA0 (pv 9) (zA0 (pv 11) (zA0 (pv 12) zA3))))) fun S8_8 h8_8=>?_;refine zAx (zAd (i:=14) nd rfl (Or.inl rfl) (zAu zBi (zB4 (zA0 zA7 (zA0 zA7 (zA0 zA7 (zA0 zA7 zA3))))) (zA8 A.Gn hr2 rfl A.Dn.at_ A.Dn.fn.kp A.Dn.bind .nil (passC hC) (zA0 (pv 8) (zA0 zA7 zA3))) (fun _ _=>rfl))) fun S8_9 h8_9=>?_;refine zAx (zAd (i:=15) nd rfl (Or.inl rfl) (zAu zBi (zB4 (zA0 zAi (zA0 zAi zA3))) (zA8 A.Gn hr2 rfl A.Dn.at_ A.Dn.fn.kp A.Dn.bind .nil (passC hC) (zA0 (pv 8) (zA0 zA7 zA3))) (fun _ _=>rfl))) fun S8_10 h8_10=>?_;refine zAx (zAd (i:=16) nd rfl (Or.inl rfl) (zA8 A.Gu hr1 rfl A.Du.at_ A.Du.fn.kp A.Du.bind .nil (passC hC) (zA0 (pv 3) (zA0 (pv 4) (zA0 (pv 13) (zA0 (pv 14) zA3)))))) fun S8_11 h8_11=>?_
 refine zAx (zAj (zAh zE2 (zAl (pv 2) L.cl A.mDo A.GDo hr7 A.bDo .nil (passC hC) (zA0 (zA8 A.Ge hr6 rfl A.De.at_ A.De.fn.kp A.De.bind .nil (passC hC) (zA0 (pv 13) (zA0 (pv 14) (zA0 (pv 5) (zA0 (pv 15) zA3))))) zA3)) (pv 16) (nomark _))
    (zA4 (zAb zBq)) zAa) fun S8_12 h8_12=>?_
 refine zAx (zAj (zAh zCt (pv 16) zAi (nomark _))
    (zA2 (zC6 hu (pv 3) (pv 9) (pv 11) rfl)
    (zA2 (zAd (i:=5) nd rfl (Or.inl rfl) (zAt zBs (pv 5) zA7))
    (zA4 (zAd (i:=6) nd rfl (Or.inl rfl) (pv 15))))) zAa) fun S8_13 h8_13=>?_
 refine zAx (zAd (i:=17) nd rfl (Or.inr rfl) (zBd (pv 2) L.cl X.mLk X.GLk hr3 X.bLk .nil (passC hC))) fun S8_14 h8_14=>?_
 refine zAx (zAj (PW.pt (zCc (zAh (op_neD hr.units) (zAl (pv 17) LL.cl A.mTh A.GTh hr1 A.bTh .nil (passC hC) (zA0 zAi zA3)) (zBr (zA0 (zBr (zA0 (pv 6) zA3)) (zA0 (pv 5) zA3))) (nomark _)) (zCc (zAh zE2 (zBd (pv 17) LL.cl A.mTn A.GTn hr1 A.bTn .nil (passC hC)) (pv 4) (nomark _)) (zBo (zAh (op_neD hr.units) (zBd (pv 17) LL.cl A.mNa A.GNa hr1 A.bNa .nil (passC hC)) (zB4 (zA0 zAi zA3)) (nomark _))))))
    (zA4 (zAb zBq)) zAa) fun S8_15 h8_15=>?_
 refine bd_one (zAj (zAh (op_neD hr.units) (zAr (T:=["_law_one"]) rfl ScOk.auto (zAn (zB4 (zA0 zAi (zA0 zAi (zA0 zAi (zA0 zAi zA3)))))) (fun _ _ _ _=>zAf (i:=18) (by decide +kernel:(["_law_script", "_law_kinds", "_law_world", "_law_lasts", "_law_wishing", "_law_mark", "_law_state", "_law_cell", "_law_source_here", "_law_hand", "_law_more", "_law_number", "_law_here", "_law_told", "_law_way", "_law_value", "_law_due_here", "_law_look", "_law_one"]:List Str).Nodup) rfl (Or.inl rfl)) (fun _ _ _ _=>zB3) (fun _ _ _ _=>(zAl (pv 17) LL.cl A.mLa A.GLa hr1 A.bLa .nil (passC hC) (zA0 (pv 18) zA3)))) (zB4 (zA0 (zBu hu (pv 3) zAi (fun _ _=>rfl)) (zA0 (zBu hu (pv 3) zAi (fun _ _=>rfl)) (zA0 (zBu hu (pv 3) zAi (fun _ _=>rfl)) (zA0 zA7 zA3))))) (nomark _))
    (zA4 (zAb zBq)) zAa) fun S8_16 h8_16=>?_
 intro S8 h8;refine bd_one (zAb zBq) fun S9 h9=>?_;have small:∀ n:Nat,n≤1000→n≤sizeLine:=fun n h=>Zd (small1000 h);have sm:∀ {xs:List V},xs.length≤1000→xs.length≤sizeLine:=fun h=>small _ h;refine h1 _ _ _ ⟨small 2 (by decide),fun lv f1=>⟨small 2 (by decide),fun t0 f2=>⟨small 1 (by decide),fun l0 f3=>fun pk dxk hpk hdk nek=>?_⟩⟩⟩;have s1:=((Same.new (o:=.lst [.str "red",.str "grey"]) f1).trans (Same.new (o:=.tup [.str "colour",.ref lv]) f2)).trans (Same.new (o:=.lst [.ref t0]) f3);have c1:(upd (upd (upd H lv (.lst [.str "red",.str "grey"])) t0 (.tup [.str "colour",.ref lv])) l0 (.lst [.ref t0])) lv=some (.lst [.str "red",.str "grey"]):=(Same.new f3) _ _ ((Same.new f2) _ _ zA1);have c2:(upd (upd (upd H lv (.lst [.str "red",.str "grey"])) t0 (.tup [.str "colour",.ref lv])) l0 (.lst [.ref t0])) t0=some (.tup [.str "colour",.ref lv]):=(Same.new f3) _ _ zA1;have c3:(upd (upd (upd H lv (.lst [.str "red",.str "grey"])) t0 (.tup [.str "colour",.ref lv])) l0 (.lst [.ref t0])) l0=some (.lst [.ref t0]):=zA1;generalize upd (upd (upd H lv (.lst [.str "red",.str "grey"])) t0 (.tup [.str "colour",.ref lv])) l0 (.lst [.ref t0])=H1 at s1 c1 c2 c3 hpk hdk ⊢;have s2:Same H1 (upd (upd H1 dxk (.own pk)) pk (.ins C dxk [])):=zBm hpk hdk nek;have ok3:∀ x:Str,nameOk x→Has Any (upd (upd H1 dxk (.own pk)) pk (.ins C dxk [])) (.str x) (.str x):=fun x h=>.str _ (Za h.2.2 (by decide)) h.2.1;have hf:Has Any (upd (upd H1 dxk (.own pk)) pk (.ins C dxk [])) (.ref l0) (.list [.tuple [.str "colour",.list [.str "red",.str "grey"]]]):=.lst trivial (s2 _ _ c3) (by show 1≤1000;decide) (.cons (.tup trivial (s2 _ _ c2) (by show 2≤1000;decide) (.cons (ok3 _ col_ok) (.cons (.lst trivial (s2 _ _ c1) (by show 2≤1000;decide) (.cons (ok3 _ (Col.ok (.inl rfl))) (.cons (ok3 _ (Col.ok (.inr rfl))) .nil))) .nil))) .nil);refine ⟨pk,dxk,.ref l0,.non, "box",_,.none,rfl,zA1,by decide +kernel,by decide +kernel,by decide +kernel,hf,by decide +kernel,.non,rfl,by decide +kernel,fun H2 l2 e2 v2 b2=>⟨rfl,?_⟩⟩;have s3:=s1.trans (zCg hpk hdk nek b2);refine ⟨small 1 (by decide),fun lk f4=>fun kq dxq hkq hdq neq=>?_⟩;have s4:=Same.new (o:=.lst [.ref pk]) f4;have e4:=s4 _ _ e2;have g4:(upd H2 lk (.lst [.ref pk])) lk=some (.lst [.ref pk]):=zA1;have v4:=v2.mono s4;generalize upd H2 lk (.lst [.ref pk])=H4 at s4 e4 g4 v4 hkq hdq ⊢;have s5:Same H4 (upd (upd H4 dxq (.own kq)) kq (.ins CK dxq [])):=zBm hkq hdq neq;have hT5:=((hT.same s3).same s4).same s5;refine ⟨kq,dxq,lk,[(pk,row23)],rfl,zA1,s5 _ _ g4,⟨fun q hq=>by rw [List.mem_singleton.mp hq];exact ⟨dxk,l2,s5 _ _ e4⟩,(show (["box"]:List Str).Nodup by decide +kernel),by show 1≤50;decide⟩,row23_ok,hT5,fun d ord kvs H6 e6 hd6 g6 pl6 gr6 ol6 T6 k6=>⟨rfl,?_⟩⟩;have kv6:kvs=[((Sum.inr "box" : Key),V.ref pk)]:=by
  cases pl6 with
  | nil=>cases ol6
  | @cons n kv ord' kvs' r t =>
   obtain ⟨q,hq,rfl,rfl⟩:=r;rw [List.mem_singleton.mp hq];cases t with
   | nil=>rfl
   | cons _ _=>cases ol6
 have nP:∀ {b:Addr}{o:HO},H4 b=some o→(∀ ps,o≠.tbl ps)→H6 b=some o:=fun {b o} e h=>k6 _ _ (s5 _ _ e) (fun z=>by rw [z,hkq] at e;cases e) (hT5.ne (s5 _ _ e) h);have kb6:KB CK C H6 kq pk:=by
  obtain ⟨l',xs,e,_,hl1,_,hx⟩:=v4.list_inv;cases e;cases hx with
  | cons x1 y1 =>
   cases y1;obtain ⟨t',ys,rfl,_,ht1,_,hy⟩:=x1.tup_inv;cases hy with
   | cons x2 y2 =>
    cases y2 with
    | cons x3 y3 =>
     cases y3;cases x2;obtain ⟨lv',us,rfl,_,hv1,_,hz⟩:=x3.list_inv;cases hz with
     | cons x4 y4 =>
      cases y4 with
      | cons x5 y5 =>
       cases y5;cases x4;cases x5;exact ⟨⟨dxq,d,e6,.inl (by rw [g6,kv6])⟩,dxk,_,_,_,nP e4 (fun _ z=>nomatch z),nP hl1 (fun _ z=>nomatch z),nP ht1 (fun _ z=>nomatch z),nP hv1 (fun _ z=>nomatch z)⟩
 have hS6:SqL K H6 a (nums.map V.int):=sqKeep hS fun o e ho=>nP (s4 _ _ (s3 _ _ e)) (by rcases ho with rfl | ⟨_,rfl⟩ <;> exact fun _ z=>nomatch z);clear hT5 hT T6 k6 nP hS v4 v2 hf;refine h2 _ _ _ ⟨_,rfl,fun dl0 f7=>⟨zA1,[(Sum.inr "box",.int 1)],rfl,by decide,?_⟩⟩;rw [zCr,show mergeK [] [((Sum.inr "box" : Key),V.int 1)]=lim1 from rfl];have s7:=Same.new (o:=.dK lim1) f7;have g7:(upd H6 dl0 (.dK lim1)) dl0=some (.dK lim1):=zA1;have hS7:SqL K (upd H6 dl0 (.dK lim1)) a (nums.map V.int):=sqKeep hS6 fun o e _=>s7 _ _ e;have kb7:=kb6.same s7;generalize upd H6 dl0 (.dK lim1)=H7 at s7 g7 hS7 kb7 ⊢;intro p dxp hp hdp nep;have s8:Same H7 (upd (upd H7 dxp (.own p)) p (.ins CWo dxp [])):=zBm hp hdp nep;refine ⟨p,dxp,kq,pk,dl0,rfl,zA1,kb7.same s8,s8 _ _ g7,fun H9 dl dt dd wv j1 j2 j3 j4 j5 j6 j7 j8 k9=>⟨rfl,?_⟩⟩;have kp9:∀ {b:Addr}{o:HO},H7 b=some o→(∀ kvs,o≠.dK kvs)→H9 b=some o:=fun {b o} e h=>k9 _ _ (s8 _ _ e) (zA5 e hp) (fun z=>by rw [z,g7] at e;cases e;exact h _ rfl);have hS9:SqL K H9 a (nums.map V.int):=sqKeep hS7 fun o e ho=>kp9 e (by rcases ho with rfl | ⟨_,rfl⟩ <;> exact fun _ z=>nomatch z);have b9:But p (upd (upd H7 dxp (.own p)) p (.ins CWo dxp [])) H9∨True:=.inr trivial;have kb9:KB CK C H9 kq pk:=by
  refine kb7.all (fun b x d e=>kp9 e fun _ z=>nomatch z) (fun b x d e=>kp9 e fun _ z=>nomatch z) (fun b r=>?_) fun b o e s=>kp9 e fun _ z=>by rw [z] at s;exact s
  have nb:b≠dl0:=rd_ne r (.inl g7) lim_ne;rcases r with r | ⟨o,r⟩
  ·exact .inl (k9 _ _ (s8 _ _ r) (zA5 r hp) nb)
  ·exact .inr ⟨o,k9 _ _ (s8 _ _ r) (zA5 r hp) nb⟩
 have wb9:WB CWo CK C H9 p kq pk dl dt dd 0 0 [] []:=⟨⟨dxp,wv,j1⟩,.inl j2,j3,j4,j5,kb9,nbx0,nbx0⟩;clear b9 k9 kp9 kb9;refine h3 _ _ _ ⟨_,rfl,p,dxp,_,rfl,j1,zEu (by decide +kernel),small 1 (by decide),fun ts0 f10=>?_⟩;have s10:=Same.new (o:=.tup [.str "red"]) f10;have e10:(upd H9 ts0 (.tup [.str "red"])) ts0=some (.tup [.str "red"]):=zA1;generalize upd H9 ts0 (.tup [.str "red"])=H10 at s10 e10 ⊢;refine ⟨p,kq,pk,dl,dt,dd,ts0,by rw [bx0s];rfl,wb9.same s10,e10,fun H11 tt0 wa11 f11=>?_⟩;have hS11:SqL K H11 a (nums.map V.int):=sqKeep hS9 fun o e ho=>f11 _ _ (s10 _ _ e) (fun z=>by rw [z,j1] at e;cases e;rcases ho with ho | ⟨_,ho⟩ <;> cases ho) (fun z=>by rw [z,j3] at e;cases e;rcases ho with ho | ⟨_,ho⟩ <;> cases ho) (fun z=>by rw [z,j4] at e;cases e;rcases ho with ho | ⟨_,ho⟩ <;> cases ho);refine h4 _ _ _ fun dL fL=>⟨zA1,[(Sum.inr "ann",.int 0),(Sum.inr "bob",.int 0),(Sum.inr "annb",.int 0)],rfl,by decide,?_⟩;rw [zCr,show mergeK [] [((Sum.inr "ann" : Key),V.int 0),(Sum.inr "bob",.int 0),(Sum.inr "annb",.int 0)]=lsK (fun _=>0) from rfl];have s12:=Same.new (o:=.dK (lsK fun _=>0)) fL;have e12:(upd H11 dL (.dK (lsK fun _=>0))) dL=some (.dK (lsK fun _=>0)):=zA1;have hS12:SqL K (upd H11 dL (.dK (lsK fun _=>0))) a (nums.map V.int):=sqKeep hS11 fun o e _=>s12 _ _ e;have wa12:=wa11.same s12;obtain ⟨dx11,wv11,hp11⟩:=id wa11.b.p;have n1:dL≠p:=Ne.symm (zA5 hp11 fL);have n2:dL≠dt:=Ne.symm (zA5 wa11.b.t fL);have n3:dL≠dd:=Ne.symm (zA5 wa11.b.d fL);generalize upd H11 dL (.dK (lsK fun _=>0))=H12 at s12 e12 hS12 wa12 ⊢;refine h5 _ _ _ (h6 _ _ _ (h7 _ _ _ ?_));obtain ⟨ms,ems,hms⟩:=cut_ints nums none (some 50);refine h8 _ _ _ ⟨_,rfl,_,rfl,a,_,rfl,hS12,fun l1 f13=>?_⟩;rw [ems];refine ⟨small 1 (by decide),fun l2 f14=>⟨l1,l2,_,_,rfl,rfl,(Same.new f14) _ _ zA1,zA1,by rw [Z1];exact small _ (by show ms.length + 1≤1000;omega),fun li f15=>?_⟩⟩;rw [show ms.map V.int++[V.int 0]=(ms++[0]).map V.int by rw [Zu];rfl];obtain ⟨zs,hzs⟩:∃ zs,zs=ms++[0]:=⟨_,rfl⟩;have zl:zs.length≤64:=by rw [hzs,Zc];show ms.length + 1≤64;omega
 rw [← hzs];have s15:Same H12 (upd (upd (upd H12 l1 (.lst (ms.map V.int))) l2 (.lst [.int 0])) li (.lst (zs.map V.int))):=((Same.new f13).trans (Same.new f14)).trans (Same.new f15);have e15:(upd (upd (upd H12 l1 (.lst (ms.map V.int))) l2 (.lst [.int 0])) li (.lst (zs.map V.int))) li=some (.lst (zs.map V.int)):=zA1;have wa15:=wa12.same s15;have d15:=s15 _ _ e12
 let A0:Ad:=⟨CWo,CK,C,p,kq,pk,dl,dt,dd,dL,li⟩
 have AN:AdN A0:=⟨n1,n2,n3⟩
 refine ⟨li,rfl,⟨_,SqL.of e15⟩,zDc (K:=K) (a:=li) (xs:=zs.map V.int) (fun i σ H2=>∃ (tt ts:Addr) (bst:Str) (bma bwi:Int) (bls:List (Key×V)) (L2:Str→Int) (y7 y8 y9 y10 y11 y12 y13 y14 y15 y16 y17:Option V),σ = [some (.ref a),some (.ref kq),some (.ref p),some (.ref dL),some (.int bwi),some (.int bma),some (.str bst),y7,y8,y9,y10,y11,y12,y13,y14,y15,y16,y17]∧WAt CWo CK C H2 p kq pk dl dt dd tt ts ⟨bst,bma,bwi,bls⟩∧H2 dL=some (.dK (lsK L2))∧LsR bls L2∧1≤bma∧0≤bwi∧Col bst∧bls.length≤i∧H2 li=some (.lst (zs.map V.int)))
  ⟨tt0,ts0,_,_,_,_,fun _=>0,_,_,_,_,_,_,_,_,_,_,_,rfl,wa15,d15,⟨fun h _=>rfl,rfl,rfl⟩,by decide,by decide,.inl rfl,Zl _,e15⟩ (fun i σ H2 _ hz=>by obtain ⟨_,_,_,_,_,_,_,_,_,_,_,_,_,_,_,_,_,_,_,_,_,_,_,_,_,_,q⟩:=hz;exact SqL.of q) ?_ ?_⟩
 ·clear wa15 d15 wa12 wa11 wb9 hS12 hS11 hS9 hS7 hS6 kb7 kb6 e15 s15 e12 s12;have cp6:CPow 10 6:=⟨by decide,by decide,by decide⟩;have cp12:CPow 10 12:=⟨by decide,by decide,by decide⟩;have c12:(10:Int) ^ (12:Int).toNat - 1=999999999999:=by decide
  rintro i y σ H2 hi ⟨tt,ts,bst,bma,bwi,bls,L2,y7,y8,y9,y10,y11,y12,y13,y14,y15,y16,y17,rfl,wa,hd,lr,ma1,wi0,cst,bl,hli⟩;rw [Zf] at hi;obtain ⟨z,hz,rfl⟩:=Option.map_eq_some_iff.mp hi;have il:i < 64:=Z7 (List.getElem?_eq_some_iff.mp hz).1 zl;refine h8_1 _ _ _ ⟨_,rfl,z,rfl,fun q H3 hq S3 s3 k3=>?_⟩;have g3:G23 A0 zs H3 q 0 tt ts ⟨bst,bma,bwi,bls⟩ L2:=⟨wa.same s3,S3,s3 _ _ hd,s3 _ _ hli,zA5 hli hq⟩;clear wa hd hli S3 s3 k3;refine h8_2 _ _ _ ⟨_,rfl,q,6,0,rfl,g3.S,by decide,by decide,by decide,fun r4 H4 _ _ S4 k4=>⟨rfl,_,rfl,?_⟩⟩;have g4:=g3.draw S4 k4;refine' k_hi (G:=fun H5 wi=>0≤wi∧G23 A0 zs H5 q 1 tt ts ⟨bst,bma,wi,bls⟩ L2) _ (fun go=>_);rotate_left 2
  ·by_cases hz4:r4=0;rotate_left
   ·rw [show decide (V.int r4=V.int 0)=false from decide_eq_false fun z=>hz4 (V.int.inj z)];refine iteF ?_;obtain ⟨Hx,eH⟩:∃ Hx,Hx=H4:=⟨_,rfl⟩;obtain ⟨wx,eW⟩:∃ wx,wx=bwi:=⟨_,rfl⟩;rw [← eH,← eW];exact go Hx wx ⟨by rw [eW];exact wi0,by rw [eH,eW];exact g4⟩
   ·rw [show decide (V.int r4=V.int 0)=true from decide_eq_true (by rw [hz4])];obtain ⟨dxp4,wv4,hp4⟩:=id g4.w.b.p;refine iteT ⟨_,rfl,p,dxp4,_,rfl,hp4,zEu (by decide +kernel),_,rfl,small 0 (by decide),fun le fe=>⟨small 3 (by decide),fun t5 f5=>⟨small 1 (by decide),fun l5 f6=>fun pw dxw hpw hdw nw=>?_⟩⟩⟩;have s5:=((Same.new (o:=.lst []) fe).trans (Same.new (o:=.tup [.str "box",.int 1,.ref le]) f5)).trans (Same.new (o:=.lst [.ref t5]) f6);have x1:(upd (upd (upd H4 le (.lst [])) t5 (.tup [.str "box",.int 1,.ref le])) l5 (.lst [.ref t5])) le=some (.lst []):=(Same.new f6) _ _ ((Same.new f5) _ _ zA1);have x2:(upd (upd (upd H4 le (.lst [])) t5 (.tup [.str "box",.int 1,.ref le])) l5 (.lst [.ref t5])) t5=some (.tup [.str "box",.int 1,.ref le]):=(Same.new f6) _ _ zA1;have x3:(upd (upd (upd H4 le (.lst [])) t5 (.tup [.str "box",.int 1,.ref le])) l5 (.lst [.ref t5])) l5=some (.lst [.ref t5]):=zA1;generalize upd (upd (upd H4 le (.lst [])) t5 (.tup [.str "box",.int 1,.ref le])) l5 (.lst [.ref t5])=H5 at s5 x1 x2 x3 hpw hdw ⊢;have s6:Same H5 (upd (upd H5 dxw (.own pw)) pw (.ins CW dxw [])):=zBm hpw hdw nw;refine ⟨pw,dxw,kq,pk,l5,[.ref t5],rfl,zA1,(g4.w.b.kb.same s5).same s6,s6 _ _ x3,⟨Z2 _,fun x hx=>by rw [List.mem_singleton.mp hx];exact ⟨t5,le,rfl,s6 _ _ x2,s6 _ _ x1⟩⟩,fun H7 lr7 df7 ys7 e7 e8 e9 b7=>⟨rfl,?_⟩⟩;have g7:=(g4.same s5).same (zCg hpw hdw nw b7);refine ⟨p,kq,pk,dl,dt,dd,tt,ts,pw,dxw,lr7,_,_,_,ys7,rfl,g7.w,e7,e8,e9,fun H8 w8 f8=>?_⟩;refine ⟨_,rfl,_,_,rfl,rfl,go H8 (bwi + 1) ⟨by omega,g7.fr AN w8 f8⟩⟩
  rintro H5 wi ⟨wi1,g5⟩;clear g4 g3 S4 k4 wi0;refine h8_3 _ _ _ ⟨small 3 (by decide),fun l6 f6=>⟨_,rfl,q,3,1,rfl,(g5.same (Same.new f6)).S,by decide,by decide,by decide,fun r7 H7 r70 r71 S7 k7=>?_⟩⟩;obtain ⟨u,hu7,hh7⟩:=at3 (x:=V.str "ann") (y:=V.str "bob") (z:=V.str "annb") r70 r71;obtain ⟨h,rfl,hh⟩:∃ h,u=.str h∧Hand h:=by
   rcases hh7 with rfl | rfl | rfl
   ·exact ⟨_,rfl,.inl rfl⟩
   ·exact ⟨_,rfl,.inr (.inl rfl)⟩
   ·exact ⟨_,rfl,.inr (.inr rfl)⟩
  refine ⟨l6,_,r7,_,rfl,rfl,SqL.of (by rw [k7 l6 (g5.nw f6)];exact zA1),hu7,?_⟩;have g7:G23 A0 zs H7 q 2 tt ts ⟨bst,bma,wi,bls⟩ L2:=(g5.same (Same.new f6)).draw S7 k7;clear g5 S7 k7 f6 hu7 hh7;refine h8_4 _ _ _ ⟨_,rfl,q,5,2,rfl,g7.S,by decide,by decide,by decide,fun r8 H8 _ _ S8' k8=>⟨_,_,rfl,rfl,_,_,rfl,rfl,cp6,_,rfl,q,9,3,rfl,S8',by decide,by decide,by decide,fun r9 H9 _ _ S9' k9=>⟨_,_,rfl,rfl,small 3 (by decide),fun l10 f10=>?_⟩⟩⟩;have g9:G23 A0 zs H9 q 4 tt ts ⟨bst,bma,wi,bls⟩ L2:=(g7.draw S8' k8).draw S9' k9;refine ⟨_,rfl,q,3,4,rfl,(g9.same (Same.new f10)).S,by decide,by decide,by decide,fun r11 H11 r110 r111 S11 k11=>?_⟩;obtain ⟨u,hu11,hh11⟩:=at3 (x:=V.int (r8 - 2)) (y:=V.int 1) (z:=V.int ((10:Int) ^ (6:Int).toNat + r9)) r110 r111;obtain ⟨m,rfl⟩:∃ m,u=.int m:=by rcases hh11 with rfl | rfl | rfl <;> exact ⟨_,rfl⟩
  refine ⟨l10,_,r11,_,rfl,rfl,SqL.of (by rw [k11 l10 (g9.nw f10)];exact zA1),hu11,?_⟩;have g11:G23 A0 zs H11 q 5 tt ts ⟨bst,bma,wi,bls⟩ L2:=(g9.same (Same.new f10)).draw S11 k11;clear g7 g9 S8' k8 S9' k9 S11 k11 f10 hu11 hh11;have dg:=DGet.k (k:=Sum.inr h) g11.d;rw [ls_get hh] at dg;refine h8_5 _ _ _ ⟨_,_,rfl,rfl,cp12,_,_,rfl,rfl,_,rfl,_,rfl,dL,_,rfl,dg,_,rfl,_,_,rfl,rfl,_,_,rfl,_,_,rfl,?_⟩;obtain ⟨n1,hn1e⟩:∃ n1,n1=(if (if L2 h + m > 1 then L2 h + m else 1) < (10:Int) ^ (12:Int).toNat - 1 then (if L2 h + m > 1 then L2 h + m else 1) else (10:Int) ^ (12:Int).toNat - 1):=⟨_,rfl⟩;rw [← hn1e];have hn1:1≤n1:=by
   rw [hn1e,c12];split <;> (try split) <;> omega
  clear hn1e dg;refine h8_6 _ _ _ ⟨_,rfl,q,20,5,rfl,g11.S,by decide,by decide,by decide,fun r12 H12 _ _ S12 k12=>⟨rfl,_,rfl,?_⟩⟩;have g12:G23 A0 zs H12 q 6 tt ts ⟨bst,bma,wi,bls⟩ L2:=g11.draw S12 k12;refine' k_hi (G:=fun H5 n=>1≤n∧G23 A0 zs H5 q 6 tt ts ⟨bst,bma,wi,bls⟩ L2) _ (fun go=>_);rotate_left 2
  ·by_cases hz4:r12=0;rotate_left
   ·rw [show decide (V.int r12=V.int 0)=false from decide_eq_false fun z=>hz4 (V.int.inj z)];refine iteF ?_;obtain ⟨Hx,eH⟩:∃ Hx,Hx=H12:=⟨_,rfl⟩;obtain ⟨wx,eW⟩:∃ wx,wx=n1:=⟨_,rfl⟩;rw [← eH,← eW];exact go Hx wx ⟨by rw [eW];exact hn1,by rw [eH];exact g12⟩
   ·rw [show decide (V.int r12=V.int 0)=true from decide_eq_true (by rw [hz4])];exact iteT ⟨_,_,rfl,rfl,cp12,_,_,rfl,rfl,go H12 _ ⟨by rw [c12];decide,g12⟩⟩
  rintro H13 n ⟨hn,g13⟩;clear g11 g12 S12 k12 hn1;refine h8_7 _ _ _ ⟨_,rfl,_,rfl,_,rfl,_,rfl,_,_,rfl,rfl,_,_,rfl,_,rfl,_,_,rfl,rfl,small 5 (by decide),fun l13 f13=>⟨_,rfl,q,5,6,rfl,(g13.same (Same.new f13)).S,by decide,by decide,by decide,fun r14 H14 r140 r141 S14 k14=>?_⟩⟩;obtain ⟨wn,hat,wn0⟩:∃ wn,atI [V.int wi,.int wi,.int wi,.int (if wi - 1 > 0 then wi - 1 else 0),.int (wi + 1)] r14=some (V.int wn)∧0≤wn:=by
   have:r14=0∨r14=1∨r14=2∨r14=3∨r14=4:=by omega
   rcases this with rfl | rfl | rfl | rfl | rfl
   ·exact ⟨_,rfl,wi1⟩
   ·exact ⟨_,rfl,wi1⟩
   ·exact ⟨_,rfl,wi1⟩
   ·exact ⟨_,rfl,by split <;> omega⟩
   ·exact ⟨_,rfl,by omega⟩
  refine ⟨l13,_,r14,_,rfl,rfl,SqL.of (by rw [k14 l13 (g13.nw f13)];exact zA1),hat,?_⟩;have g14:G23 A0 zs H14 q 7 tt ts ⟨bst,bma,wi,bls⟩ L2:=(g13.same (Same.new f13)).draw S14 k14;clear g13 S14 k14 f13 hat;refine h8_8 _ _ _ ⟨_,rfl,_,rfl,_,rfl,small 3 (by decide),fun t15 f15=>?_⟩;have ntq:=g14.nw f15;have g15:=g14.same (Same.new (o:=.tup [.str h,.int n,.int wn]) f15);have e15:(upd H14 t15 (.tup [.str h,.int n,.int wn])) t15=some (.tup [.str h,.int n,.int wn]):=zA1;generalize upd H14 t15 (.tup [.str h,.int n,.int wn])=H15 at g15 e15 ⊢;refine h8_9 _ _ _ ⟨small 4 (by decide),fun l16 f16=>⟨_,rfl,q,4,7,rfl,(g15.same (Same.new f16)).S,by decide,by decide,by decide,fun r17 H17 r170 r171 S17 k17=>?_⟩⟩;obtain ⟨way,hway,hw⟩:∃ way,atI [V.int 0,.int 0,.int 1,.int 2] r17=some (V.int way)∧Way way:=by
   have:r17=0∨r17=1∨r17=2∨r17=3:=by omega
   rcases this with rfl | rfl | rfl | rfl
   ·exact ⟨_,rfl,.inl rfl⟩
   ·exact ⟨_,rfl,.inl rfl⟩
   ·exact ⟨_,rfl,.inr (.inl rfl)⟩
   ·exact ⟨_,rfl,.inr (.inr rfl)⟩
  refine ⟨l16,_,r17,_,rfl,rfl,SqL.of (by rw [k17 l16 (g15.nw f16)];exact zA1),hway,?_⟩;have g17:G23 A0 zs H17 q 8 tt ts ⟨bst,bma,wi,bls⟩ L2:=(g15.same (Same.new f16)).draw S17 k17;have e17:H17 t15=some (.tup [.str h,.int n,.int wn]):=by rw [k17 t15 ntq];exact (Same.new f16) _ _ e15
  clear g14 g15 e15 S17 k17 f16 f15 hway;refine h8_10 _ _ _ ⟨small 2 (by decide),fun l18 f18=>⟨_,rfl,q,2,8,rfl,(g17.same (Same.new f18)).S,by decide,by decide,by decide,fun r19 H19 r190 r191 S19 k19=>?_⟩⟩;obtain ⟨x,hxa,hx⟩:∃ x,atI [V.str "red",.str "grey"] r19=some (V.str x)∧Col x:=by
   have:r19=0∨r19=1:=by omega
   rcases this with rfl | rfl
   ·exact ⟨_,rfl,.inl rfl⟩
   ·exact ⟨_,rfl,.inr rfl⟩
  refine ⟨l18,_,r19,_,rfl,rfl,SqL.of (by rw [k19 l18 (g17.nw f18)];exact zA1),hxa,?_⟩;have g19:G23 A0 zs H19 q 9 tt ts ⟨bst,bma,wi,bls⟩ L2:=(g17.same (Same.new f18)).draw S19 k19;have e19:H19 t15=some (.tup [.str h,.int n,.int wn]):=by rw [k19 t15 ntq];exact (Same.new f18) _ _ e17
  clear g17 e17 S19 k19 f18 hxa;refine h8_11 _ _ _ ⟨_,rfl,_,rfl,_,rfl,_,rfl,dL,t15,_,h,n,wn,wi,way,L2 h,rfl,e19,g19.d,ls_get hh,hw,fun H20 s20=>?_⟩;have g20:=g19.same s20;have e20:=s20 _ _ e19;clear g19 e19 s20;obtain ⟨dxp,wv20,hp20⟩:=id g20.w.b.p;refine h8_12 _ _ _ ⟨_,rfl,p,dxp,_,rfl,hp20,zEu (by decide +kernel),_,rfl,_,rfl,_,rfl,_,rfl,t15,h,n,wn,way,bma,x,rfl,e20,hh.ok,hn,wn0,ma1,hw,hx,fun pd st H21 de s21=>?_⟩;have g21:=g20.same s21;have lr2:=lr.put hh n;have ln2:(putK bls (Sum.inr h) (V.int n)).length≤bls.length + 1:=zBv _ _ _;refine ⟨p,kq,pk,dl,dt,dd,tt,ts,pd,⟨bst,bma,wi,bls⟩,⟨h,n,wn,_root_.L2.W.dOf way bma x st⟩,L2 h,rfl,g21.w,de,lr.h h hh,nbx_of lr2.b,Za ln2 (by omega),fun H22 tt2 ts2 w22 f22=>⟨_,rfl,rfl,_,rfl,?_⟩⟩;have wd:=word_due (a:=⟨bst,bma,wi,bls⟩) (h:=h) (n:=n) (w:=wn) (way:=way) (last:=L2 h) (x:=x) (st:=st) hw;rw [show decide (V.str (wordW ⟨bst,bma,wi,bls⟩ ⟨h,n,wn,_root_.L2.W.dOf way bma x st⟩ (L2 h))=V.str (dueW n (L2 h) wn wi way))=true from decide_eq_true (by rw [wd])];refine iteF ?_;have g22:=g21.fr AN w22 f22;clear g20 g21 w22 f22 e20 de s21;refine h8_13 _ _ _ ⟨_,rfl,rfl,_,rfl,?_⟩;refine' k_his (G:=fun H5 ma st'=>1≤ma∧Col st'∧∃ tt3 ts3 ls3 L3,G23 A0 zs H5 q 9 tt3 ts3 ⟨st',ma,wi,ls3⟩ L3∧LsR ls3 L3∧ls3.length≤i + 1) _ (fun go=>_);rotate_left 2
  ·by_cases hdn:dueW n (L2 h) wn wi way = "done";rotate_left
   ·rw [show decide (V.str (dueW n (L2 h) wn wi way)=V.str "done")=false from decide_eq_false fun z=>hdn (V.str.inj z)];refine iteF ?_;have ha:aft ⟨bst,bma,wi,bls⟩ ⟨h,n,wn,_root_.L2.W.dOf way bma x st⟩ (L2 h)=⟨bst,bma,wi,bls⟩:=if_neg (by rw [wd];exact hdn);rw [ha] at g22;obtain ⟨Hx,eH⟩:∃ Hx,Hx=H22:=⟨_,rfl⟩;obtain ⟨mx,eM⟩:∃ mx,mx=bma:=⟨_,rfl⟩;obtain ⟨sx,eS⟩:∃ sx,sx=bst:=⟨_,rfl⟩;rw [← eH,← eM,← eS];exact go Hx mx sx ⟨by rw [eM];exact ma1,by rw [eS];exact cst,tt2,ts2,bls,L2,by rw [eH,eM,eS];exact g22,lr,by omega⟩
   ·have hw0:=due_way hw hdn;have ha:aft ⟨bst,bma,wi,bls⟩ ⟨h,n,wn,_root_.L2.W.dOf way bma x st⟩ (L2 h)=⟨x,bma + 1,wi,putK bls (Sum.inr h) (.int n)⟩:=by
     rw [hw0];exact if_pos (by rw [← hw0,wd];exact hdn)
    rw [ha] at g22;rw [show decide (V.str (dueW n (L2 h) wn wi way)=V.str "done")=true from decide_eq_true (by rw [hdn])];have gl:=g22.last AN (updL L2 h n);rw [← ls_put hh] at gl;refine iteT ⟨_,rfl,_,rfl,_,rfl,dL,_,rfl,DPut.k (k:=Sum.inr h) g22.d (small1000 (by show 3≤1000;decide)),_,rfl,_,_,rfl,rfl,_,rfl,?_⟩;exact go _ (bma + 1) x ⟨by omega,hx,tt2,ts2,_,updL L2 h n,gl,lr2,Za ln2 (by omega)⟩
  rintro H23 ma st3 ⟨ma2,cst2,tt3,ts3,ls3,L3,g23,lr3,le3⟩;clear g22 lr lr2 ln2 wd bl;obtain ⟨dxp3,wv3,hp3⟩:=id g23.w.b.p;refine h8_14 _ _ _ ⟨_,rfl,p,dxp3,_,rfl,hp3,zEu (by decide +kernel),p,dxp3,kq,dl,dt,dd,_,_,wv3,_,_,_,rfl,hp3,g23.w.b.l,.inl g23.w.b.t,.inl g23.w.b.d,fun H24 lo dxl dl' dt' dd' j1 j2 j3 j4 j5 s24=>?_⟩;have g24:=g23.same s24;have lk:LkAt CLo CK C H24 lo kq pk dt' tt3 ts3 ⟨st3,ma,wi,ls3⟩:=⟨⟨dxl,dl',dd',wv3,j1,.inl j2,.inl j4⟩,.inl j3,g24.w.b.kb,g24.w.e,g24.w.s⟩;refine h8_15 _ _ _ ⟨_,rfl,lo,dxl,_,rfl,j1,zCd (by decide +kernel),lo,kq,pk,dt',tt3,ts3,_,.str (bx 0),.ref tt3,by rw [bx0s];rfl,lk,.is,_,rfl,small 1 (by decide),fun u1 f25=>⟨_,rfl,small 2 (by decide),fun u2 f26=>?_⟩⟩;have s26:Same H24 (upd (upd H24 u1 (.tup [.str st3])) u2 (.tup [.ref u1,.int ma])):=(Same.new f25).trans (Same.new f26);have x1:(upd (upd H24 u1 (.tup [.str st3])) u2 (.tup [.ref u1,.int ma])) u1=some (.tup [.str st3]):=(Same.new f26) _ _ zA1;have x2:(upd (upd H24 u1 (.tup [.str st3])) u2 (.tup [.ref u1,.int ma])) u2=some (.tup [.ref u1,.int ma]):=zA1;generalize upd (upd H24 u1 (.tup [.str st3])) u2 (.tup [.ref u1,.int ma])=H26 at s26 x1 x2 ⊢;have okst:Has Any H26 (.str st3) (.str st3):=.str _ (Za cst2.ok.2.2 (by decide)) cst2.ok.2.1;refine ne_same (d:=.tuple [.tuple [.str st3],.int ma]) (G:=Any) (G':=Any) (.tup trivial (s26 _ _ g24.w.e) (by show 2≤1000;decide) (.cons (.tup trivial (s26 _ _ g24.w.s) (by show 1≤1000;decide) (.cons okst .nil)) (.cons (.int _) .nil))) (.tup trivial x2 (by show 2≤1000;decide) (.cons (.tup trivial x1 (by show 1≤1000;decide) (.cons okst .nil)) (.cons (.int _) .nil))) (by simp [PyData.depth,PyData.depthAll]) ⟨_,rfl,iteF ?_⟩;have lk26:=lk.same s26;have j26:=s26 _ _ j1;have g26:=g24.same s26;clear lk j1 j2 j3 j4 j5 s24 g24 g23 okst x1 x2 s26 hp3;refine ⟨_,rfl,lo,dxl,_,rfl,j26,zCd (by decide +kernel),lo,kq,pk,dt',tt3,ts3,_,rfl,lk26,_,rfl,rfl,_,rfl,?_⟩;rw [show decide (V.int wi=V.int wi)=true from decide_eq_true rfl];refine iteF ⟨_,rfl,lo,dxl,_,rfl,j26,zCd (by decide +kernel),lo,kq,pk,dt',tt3,ts3,_,rfl,lk26,fun l27 f27=>⟨small 1 (by decide),fun l28 f28=>?_⟩⟩;have s28:Same H26 (upd (upd H26 l27 (.lst [.str (bx 0)])) l28 (.lst [.str "box.0"])):=(Same.new f27).trans (Same.new f28);have x1:(upd (upd H26 l27 (.lst [.str (bx 0)])) l28 (.lst [.str "box.0"])) l27=some (.lst [.str "box.0"]):=by rw [← bx0s];exact (Same.new f28) _ _ zA1
  have x2:(upd (upd H26 l27 (.lst [.str (bx 0)])) l28 (.lst [.str "box.0"])) l28=some (.lst [.str "box.0"]):=zA1;generalize upd (upd H26 l27 (.lst [.str (bx 0)])) l28 (.lst [.str "box.0"])=H28 at s28 x1 x2 ⊢;have okb:HasAll Any H28 [.str "box.0"] [.str "box.0"]:=.cons (.str _ (by decide +kernel) (by decide +kernel)) .nil;refine ne_same (d:=.list [.str "box.0"]) (G:=Any) (G':=Any) (.lst trivial x1 (by show 1≤1000;decide) okb) (.lst trivial x2 (by show 1≤1000;decide) okb) (by decide +kernel) ⟨_,rfl,iteF ?_⟩;have lk28:=lk26.same s28;have j28:=s28 _ _ j26;have g28:=g26.same s28;clear lk26 j26 g26 okb x1 x2 s28;refine h8_16 _ _ _ ⟨small 4 (by decide),fun l29 f29=>?_⟩;have s29:=Same.new (o:=.lst [.str "ann",.str "bob",.str "annb",.str "cat"]) f29;have e29:(upd H28 l29 (.lst [.str "ann",.str "bob",.str "annb",.str "cat"])) l29=some (.lst [.str "ann",.str "bob",.str "annb",.str "cat"]):=zA1;generalize upd H28 l29 (.lst [.str "ann",.str "bob",.str "annb",.str "cat"])=H29 at s29 e29 ⊢;have lk29:=lk28.same s29;have j29:=s29 _ _ j28;have g29:=g28.same s29;clear lk28 j28 g28 s29;refine ⟨l29,rfl,⟨_,SqL.of e29⟩,zAo (xs:=[.str "ann",.str "bob",.str "annb",.str "cat"]) (fun j ys H'=>H29=H'∧ys=([.int (L3 "ann"),.int (L3 "bob"),.int (L3 "annb"),.int 0]:List V).take j) ⟨rfl,rfl⟩ (fun j ys H' z=>by rw [← z.1];exact SqL.of e29) (fun j ys H' hj z=>by rw [z.2];exact small _ (Za (Zp _ _) (Za hj (by show 4≤1000;decide)))) ?_ ?_⟩
  ·rintro j x' ys H' hj ⟨rfl,rfl⟩ N hN
   match j,hj with
   | 0,hj=>cases hj;exact pick ⟨_,rfl,lo,dxl,_,rfl,j29,zCd (by decide +kernel),_,rfl,lo,kq,pk,dt',tt3,ts3,_, "ann",rfl,lk29,by rw [lr3.h _ (.inl rfl)];exact hN _ _ ⟨rfl,rfl⟩⟩
   | 1,hj=>cases hj;exact pick ⟨_,rfl,lo,dxl,_,rfl,j29,zCd (by decide +kernel),_,rfl,lo,kq,pk,dt',tt3,ts3,_, "bob",rfl,lk29,by rw [lr3.h _ (.inr (.inl rfl))];exact hN _ _ ⟨rfl,rfl⟩⟩
   | 2,hj=>cases hj;exact pick ⟨_,rfl,lo,dxl,_,rfl,j29,zCd (by decide +kernel),_,rfl,lo,kq,pk,dt',tt3,ts3,_, "annb",rfl,lk29,by rw [lr3.h _ (.inr (.inr rfl))];exact hN _ _ ⟨rfl,rfl⟩⟩
   | 3,hj=>cases hj;exact pick ⟨_,rfl,lo,dxl,_,rfl,j29,zCd (by decide +kernel),_,rfl,lo,kq,pk,dt',tt3,ts3,_, "cat",rfl,lk29,by rw [show (valV ls3 (Sum.inr "cat")).getD (.int 0)=.int 0 by rw [lr3.c];rfl];exact hN _ _ ⟨rfl,rfl⟩⟩
   | j + 4,hj=>cases hj
  ·rintro ys H' ⟨rfl,rfl⟩ c hc;have s30:=Same.new (o:=.lst (([.int (L3 "ann"),.int (L3 "bob"),.int (L3 "annb"),.int 0]:List V).take 4)) hc;have e30:(upd H29 c (.lst (([.int (L3 "ann"),.int (L3 "bob"),.int (L3 "annb"),.int 0]:List V).take 4))) c=some (.lst [.int (L3 "ann"),.int (L3 "bob"),.int (L3 "annb"),.int 0]):=zA1;have g30:=g29.same s30;have dg:∀ {hd:Str},Hand hd→DGet (upd H29 c (.lst (([.int (L3 "ann"),.int (L3 "bob"),.int (L3 "annb"),.int 0]:List V).take 4))) dL (.str hd) (some (.int (L3 hd))):=fun {hd} hh=>by
    have:=DGet.k (k:=Sum.inr hd) g30.d;rw [ls_get hh] at this;exact this
   refine ⟨_,rfl,dL,_,rfl,dg (.inl rfl),_,rfl,dL,_,rfl,dg (.inr (.inl rfl)),_,rfl,dL,_,rfl,dg (.inr (.inr rfl)),small 4 (by decide),fun l31 f31=>?_⟩;have s31:=Same.new (o:=.lst [.int (L3 "ann"),.int (L3 "bob"),.int (L3 "annb"),.int 0]) f31;have oki:∀ {Hx:Hp},HasAll Any Hx [.int (L3 "ann"),.int (L3 "bob"),.int (L3 "annb"),.int 0] [.int (L3 "ann"),.int (L3 "bob"),.int (L3 "annb"),.int 0]:=.cons (.int _) (.cons (.int _) (.cons (.int _) (.cons (.int _) .nil)));have g31:=g30.same s31;refine ne_same (d:=.list [.int (L3 "ann"),.int (L3 "bob"),.int (L3 "annb"),.int 0]) (G:=Any) (G':=Any) (.lst trivial (s31 _ _ e30) (by show 4≤1000;decide) oki) (.lst trivial zA1 (by show 4≤1000;decide) oki) (by simp [PyData.depth,PyData.depthAll]) ⟨_,rfl,iteF ?_⟩;exact ⟨tt3,ts3,st3,ma,wi,ls3,L3,_,_,_,_,_,_,_,_,_,_,_,rfl,g31.w,g31.d,lr3,ma2,wi1,cst2,le3,g31.l⟩
 ·rintro σ H2 ⟨tt,ts,bst,bma,bwi,bls,L2,y7,y8,y9,y10,y11,y12,y13,y14,y15,y16,y17,rfl,_⟩;exact h9 _ _ _ (k _)
end
end L2.W
namespace L2.W
open PySem My
noncomputable def ckC (K:PySem.W.Frag) (C:Addr) (nos:List Str):Bool:=PySem.W.plainGet K C Str.empty && (PySem.W.hasDictIn K C && (PySem.W.plainOver K C && (decide (PySem.W.findIn K (.ref C) "__setattr__" = some (some (.builtin "object.__setattr__"))) && (decide (PySem.W.findIn K (.ref C) "__class__" = some (some (.builtin "object.__class__"))) && (decide (PySem.W.mroIn K C (.type "object")=some true) && (PySem.W.makesIn K C && (PySem.W.keepIn K (.ref C) && (decide (PySem.W.kitOne K (.ref C) (.ref C)=some true) && nos.all fun n=>decide (PySem.W.findIn K (.ref C) n=some none)))))))))
structure CkO (K:PySem.W.Frag) (C:Addr) (nos:List Str):Prop where
 co:DCo K C nos
 ki:KIsi K C
 ms:PySem.W.makesIn K C=true
 kp:PySem.W.keepIn K (.ref C)=true
theorem zEr {K:PySem.W.Frag}{C:Addr}{nos:List Str} (hn:PySem.W.specialIn K (.builtin "object.__class__") "__get__" = some (some (.builtin "getset_descriptor.__get__"))) (htk:PySem.W.takesIn K (.builtin "object.__class__")=some true) (z:ckC K C nos=true):CkO K C nos:=by
 unfold ckC at z;simp only [Zj,decide_eq_true_eq,List.all_eq_true] at z;obtain ⟨h1,h2,h3,h4,h5,h6,h9,h10,h7,h11⟩:=z;exact ⟨⟨⟨h1,h2,h3,h4⟩,h11⟩,⟨h5,hn,htk,h6,h7⟩,h9,h10⟩
noncomputable def dkB (K:PySem.W.Frag) (de ma se tk:Addr):Bool:=decide (PySem.W.kitOne K (.ref se) (.ref ma)=some false) && (decide (PySem.W.kitOne K (.ref ma) (.ref de)=some true) && (decide (PySem.W.kitOne K (.ref se) (.ref de)=some true) && decide (PySem.W.kitOne K (.ref tk) (.ref de)=some true)))
section
variable {P:Program}{w:World}{K:PySem.W.Frag}{mg:Str→Option Value}{base:Heap}{CX:CXT}
theorem dcl_mk {B:DB} (m:CkO K B.ma nosD) (s:CkO K B.se nosD) (t:CkO K B.tk nosD) (ne:[B.ma,B.se,B.tk].Nodup):DCl K B:=⟨fun C h=>by
 rcases h with rfl | rfl | rfl
 ·exact m.co
 ·exact s.co
 ·exact t.co,ne⟩
theorem dki_mk {B:DB} (m:CkO K B.ma nosD) (s:CkO K B.se nosD) (t:CkO K B.tk nosD) (h:dkB K B.de B.ma B.se B.tk=true) (g1:mg "Make" = some (.ref B.ma)) (g2:mg "Deed" = some (.ref B.de)):DKi K mg B:=by
 unfold dkB at h;simp only [Zj,decide_eq_true_eq] at h;obtain ⟨h1,h2,h3,h4⟩:=h;refine ⟨fun C hc=>?_,h1,fun C hc=>?_,g1,g2⟩
 ·rcases hc with rfl | rfl | rfl
  ·exact m.ki
  ·exact s.ki
  ·exact t.ki
 ·rcases hc with rfl | rfl | rfl
  ·exact h2
  ·exact h3
  ·exact h4
theorem disp3 {B:DB}{k:Nat}{m:Str}{ps:List Str}{sp:Addr→Sp} (a:Disp P w K mg base CX k m ps (sp B.ma) B.ma) (b:Disp P w K mg base CX k m ps (sp B.se) B.se) (c:Disp P w K mg base CX k m ps (sp B.tk) B.tk):∀ X,IsDd B X→Disp P w K mg base CX k m ps (sp X) X:=fun X h=>by
 rcases h with rfl | rfl | rfl
 ·exact a
 ·exact b
 ·exact c
end
end L2.W
namespace L2.W
open PySem My
theorem len1 {α : Type}{us:List α} (h:us.length=1):∃ a,us=[a]:=List.length_eq_one_iff.mp h
theorem len2 {α : Type}{us:List α} (h:us.length=2):∃ a0 a1,us=[a0,a1]:=by
 cases us with
 | nil=>cases h
 | cons a0 r=>obtain ⟨a1,rfl⟩:=len1 (show r.length=1 from Nat.succ.inj h);exact ⟨a0,a1,rfl⟩
theorem len3 {α : Type}{us:List α} (h:us.length=3):∃ a0 a1 a2,us=[a0,a1,a2]:=by
 cases us with
 | nil=>cases h
 | cons a0 r=>obtain ⟨a1,a2,rfl⟩:=len2 (show r.length=2 from Nat.succ.inj h);exact ⟨a0,a1,a2,rfl⟩
theorem len4 {α : Type}{us:List α} (h:us.length=4):∃ a0 a1 a2 a3,us=[a0,a1,a2,a3]:=by
 cases us with
 | nil=>cases h
 | cons a0 r=>obtain ⟨a1,a2,a3,rfl⟩:=len3 (show r.length=3 from Nat.succ.inj h);exact ⟨a0,a1,a2,a3,rfl⟩
theorem len5 {α : Type}{us:List α} (h:us.length=5):∃ a0 a1 a2 a3 a4,us=[a0,a1,a2,a3,a4]:=by
 cases us with
 | nil=>cases h
 | cons a0 r=>obtain ⟨a1,a2,a3,a4,rfl⟩:=len4 (show r.length=4 from Nat.succ.inj h);exact ⟨a0,a1,a2,a3,a4,rfl⟩
theorem len6 {α : Type}{us:List α} (h:us.length=6):∃ a0 a1 a2 a3 a4 a5,us=[a0,a1,a2,a3,a4,a5]:=by
 cases us with
 | nil=>cases h
 | cons a0 r=>obtain ⟨a1,a2,a3,a4,a5,rfl⟩:=len5 (show r.length=5 from Nat.succ.inj h);exact ⟨a0,a1,a2,a3,a4,a5,rfl⟩
theorem len7 {α : Type}{us:List α} (h:us.length=7):∃ a0 a1 a2 a3 a4 a5 a6,us=[a0,a1,a2,a3,a4,a5,a6]:=by
 cases us with
 | nil=>cases h
 | cons a0 r=>obtain ⟨a1,a2,a3,a4,a5,a6,rfl⟩:=len6 (show r.length=6 from Nat.succ.inj h);exact ⟨a0,a1,a2,a3,a4,a5,a6,rfl⟩
theorem len8 {α : Type}{us:List α} (h:us.length=8):∃ a0 a1 a2 a3 a4 a5 a6 a7,us=[a0,a1,a2,a3,a4,a5,a6,a7]:=by
 cases us with
 | nil=>cases h
 | cons a0 r=>obtain ⟨a1,a2,a3,a4,a5,a6,a7,rfl⟩:=len7 (show r.length=7 from Nat.succ.inj h);exact ⟨a0,a1,a2,a3,a4,a5,a6,a7,rfl⟩
theorem len9 {α : Type}{us:List α} (h:us.length=9):∃ a0 a1 a2 a3 a4 a5 a6 a7 a8,us=[a0,a1,a2,a3,a4,a5,a6,a7,a8]:=by
 cases us with
 | nil=>cases h
 | cons a0 r=>obtain ⟨a1,a2,a3,a4,a5,a6,a7,a8,rfl⟩:=len8 (show r.length=8 from Nat.succ.inj h);exact ⟨a0,a1,a2,a3,a4,a5,a6,a7,a8,rfl⟩
structure DL (K:PySem.W.Frag) (x:Str) (st:Stmt) (f:Addr) (fd:FuncData):Prop where
 a:PySem.W.nsIn K mainGlobals x=some (some (.ref f))
 F:Fun K x x st f fd
structure ML (K:PySem.W.Frag) (C:Addr) (x q:Str) (st:Stmt) (f:Addr) (fd:FuncData):Prop where
 a:PySem.W.findIn K (.ref C) x=some (some (.ref f))
 i:PySem.W.isFn K (.ref f)=true
 F:Fun K x q st f fd
theorem mkD {K:PySem.W.Frag}{h:Heap}{mg:Str→Option Value}{x:Str}{st:Stmt}{f:Addr}{fd:FuncData}{ps:List Str} (X:K.In h) (G:h.Ns mainGlobals mg) (D:DL K x st f fd) (hb:∀ (kV doc pm:Value) (an:Option Addr) (cdv ct:Value) (us:List Value),us.length=ps.length→bindArgs (PySem.W.fnOf x x (defArgs st) (defBody st) (defScope st) .none kV doc pm an cdv ct) ⟨us,[]⟩=pure (ps.zip us)):Def K mg x st ps f fd:=⟨D.F,PySem.W.mg_of X G D.a,D.F.binds hb⟩
theorem zB7 {K:PySem.W.Frag}{x:Str}{st:Stmt}{f:Addr}{oc:Value}{od an:Option Addr}{osl:Array (Option Value)}{kV doc pm cdv ct:Value} (a:PySem.W.nsIn K mainGlobals x=some (some (.ref f))) (l:K.lookup f=some ⟨oc,od,.func (PySem.W.fnOf x x (defArgs st) (defBody st) (defScope st) .none kV doc pm an cdv ct),osl⟩)
  (c:PySem.W.codeIn K cdv x=true) (k:PySem.W.keepIn K (.ref f)=true):DL K x st f (PySem.W.fnOf x x (defArgs st) (defBody st) (defScope st) .none kV doc pm an cdv ct):=⟨a,fun_mk l c k⟩
theorem zBh {K:PySem.W.Frag}{C:Addr}{x q:Str}{st:Stmt}{f:Addr}{oc:Value}{od an:Option Addr}{osl:Array (Option Value)}{kV doc pm cdv ct:Value} (a:PySem.W.findIn K (.ref C) x=some (some (.ref f))) (i:PySem.W.isFn K (.ref f)=true) (l:K.lookup f=some ⟨oc,od,.func (PySem.W.fnOf x q (defArgs st) (defBody st) (defScope st) .none kV doc pm an cdv ct),osl⟩)
  (c:PySem.W.codeIn K cdv q=true) (k:PySem.W.keepIn K (.ref f)=true):ML K C x q st f (PySem.W.fnOf x q (defArgs st) (defBody st) (defScope st) .none kV doc pm an cdv ct):=⟨a,i,fun_mk l c k⟩
set_option maxHeartbeats 0 in
theorem all_mk {l:PySem.W.OpenLaw}{w:World}{K:PySem.W.Frag}{h:Heap}{mg:Str→Option Value}{fx:Addr} (X:K.In h) (G:h.Ns mainGlobals mg) (hfa:mg "law" = some (.ref fx))
  {fN fU fP fF fCt fA fPl fHv fWv fSts fIs fAp fW fWf fWr fHf fPo fNo fCm fCo fPs fPf fRw fRs fEa fCw fWe fWb fLm fLt fWd fm fs fn fdu fde fIk fOf fOr fWi fLi fTh fSo fMo fNa fTn fLa fFu fLk fPu fTe fDo fCa fKe fDi fMi fSi fTi fsM fsS fsT fuM fuS fuT ffS:Addr}{ts:List Addr}{dN dU dP dF dCt dA dPl dHv dWv dSts dIs dAp dW dWf dWr dHf dPo dNo dCm dCo dPs dPf dRw dRs dEa dCw dWe dWb dLm dLt dWd dm ds dn ddu dde dIk dOf dOr dWi dLi dTh dSo dMo dNa dTn dLa dFu dLk dPu dTe dDo dCa dKe dDi dMi dSi dTi dsM dsS dsT duM duS duT dfS:FuncData}{C CK CW CLo CWo Be Bm Bs Bt CNo fI TD c Pt fWo TW:Addr}{ocI kVI dcI pmI cdI ctI:Value}{odI anI:Option Addr}{slI:Array (Option Value)}{ocT:Value}{odT:Option Addr}{slT:Array (Option Value)}{nT:Nat}{t0 t1 t2 t3 t4 t5 t6 t7:Tok}
  {fp:Addr}{ocp kVp dcp pmp ctp:Value}{odp anp:Option Addr}{slp:Array (Option Value)}
  {fL:Addr}{ocL kVL dcL pmL ctL cdL:Value}{odL anL:Option Addr}{slL:Array (Option Value)}
  {ocW kVW dcW pmW cdW ctW:Value}{odW anW:Option Addr}{slW:Array (Option Value)}{ocV:Value}{odV:Option Addr}{slV:Array (Option Value)}{nV:Nat}
  (aC:PySem.W.nsIn K mainGlobals "Kind" = some (some (.ref C)))
  (aCK:PySem.W.nsIn K mainGlobals "Kinds" = some (some (.ref CK)))
  (aCW:PySem.W.nsIn K mainGlobals "Wishes" = some (some (.ref CW)))
  (aCLo:PySem.W.nsIn K mainGlobals "Look" = some (some (.ref CLo)))
  (aCWo:PySem.W.nsIn K mainGlobals "World" = some (some (.ref CWo)))
  (aBe:PySem.W.nsIn K mainGlobals "Deed" = some (some (.ref Be)))
  (aBm:PySem.W.nsIn K mainGlobals "Make" = some (some (.ref Bm)))
  (aBs:PySem.W.nsIn K mainGlobals "Set" = some (some (.ref Bs)))
  (aBt:PySem.W.nsIn K mainGlobals "Take" = some (some (.ref Bt)))
  (aCNo:PySem.W.nsIn K mainGlobals "NoName" = some (some (.ref CNo)))
  (xN:DL K "is_name" sIsName fN dN)
  (xU:DL K "are_unlike_names" sUnlike fU dU)
  (xP:DL K "is_pair_with_values" sPair fP dP)
  (xF:DL K "are_fields" sFields fF dF)
  (xCt:DL K "count_states" sCount fCt dCt)
  (xA:DL K "are_kinds" sAreKinds fA dA)
  (xPl:DL K "place_of" sPlaceOf fPl dPl)
  (xHv:DL K "has_value" sHasVal fHv dHv)
  (xWv:DL K "with_value" sWithVal fWv dWv)
  (xSts:DL K "states" sStates fSts dSts)
  (xIs:DL K "is_state" sIsState fIs dIs)
  (xAp:DL K "all_picks" sPicks fAp dAp)
  (xW:DL K "is_whole" sIsWhole fW dW)
  (xWf:DL K "is_whole_from" sWholeFrom fWf dWf)
  (xWr:DL K "is_written_number" sWritten fWr dWr)
  (xHf:DL K "has_form" sHasForm fHf dHf)
  (xPo:DL K "parts_of" sPartsOf fPo dPo)
  (xNo:DL K "name_of" sNameOf fNo dNo)
  (xCm:DL K "check_mark" sCheckMark fCm dCm)
  (xCo:DL K "check_owner_mark" sCheckOwner fCo dCo)
  (xPs:DL K "are_pairs_of" sPairsOf fPs dPs)
  (xPf:DL K "is_pair_of" sPairOf fPf dPf)
  (xRw:DL K "is_row" sIsRow fRw dRw)
  (xRs:DL K "are_rows" sAreRows fRs dRs)
  (xEa:DL K "count_of_each" sEach fEa dEa)
  (xCw:DL K "count_wished" sCountW fCw dCw)
  (xWe:DL K "wished_of_each" sWEach fWe dWe)
  (xWb:DL K "wished_by_name" sWBy fWb dWb)
  (xLm:DL K "are_limits" sAreLimits fLm dLm)
  (xLt:DL K "is_late" sIsLate fLt dLt)
  (xWd:DL K "word_for" sWordFor fWd dWd)
  (xm:DL K "_law_mixed" sMixed fm dm)
  (xs:DL K "_law_source" sSource fs ds)
  (xn:DL K "_law_next" sNext fn dn)
  (xdu:DL K "_law_due" sDue fdu ddu)
  (xde:DL K "_law_deed" sDeed fde dde)
  (xIk:ML K CK "__init__" "Kinds.__init__" sInitKs fIk dIk)
  (xOf:ML K CK "of" "Kinds.of" sOf fOf dOf)
  (xOr:ML K CK "order" "Kinds.order" sOrder fOr dOr)
  (xWi:ML K CW "__init__" "Wishes.__init__" sInitW fWi dWi)
  (xLi:ML K CLo "__init__" "Look.__init__" sInitL fLi dLi)
  (xTh:ML K CLo "thing" "Look.thing" sLThing fTh dTh)
  (xSo:ML K CLo "state_of" "Look.state_of" sLState fSo dSo)
  (xMo:ML K CLo "mark_of" "Look.mark_of" sLMark fMo dMo)
  (xNa:ML K CLo "names" "Look.names" sLNames fNa dNa)
  (xTn:ML K CLo "turn" "Look.turn" sLTurn fTn dTn)
  (xLa:ML K CLo "last" "Look.last" sLLast fLa dLa)
  (xFu:ML K CLo "is_full" "Look.is_full" sLFull fFu dFu)
  (xLk:ML K CWo "look" "World.look" sLook fLk dLk)
  (xPu:ML K CWo "put" "World.put" sPut fPu dPu)
  (xTe:ML K CWo "tell" "World.tell" sTell fTe dTe)
  (xDo:ML K CWo "do" "World.do" sDo fDo dDo)
  (xCa:ML K CWo "carry_out" "World.carry_out" sCarry fCa dCa)
  (xKe:ML K CWo "keep" "World.keep" sKeep fKe dKe)
  (xDi:ML K Be "__init__" "Deed.__init__" sInitD fDi dDi)
  (xMi:ML K Bm "__init__" "Make.__init__" sInitM fMi dMi)
  (xSi:ML K Bs "__init__" "Set.__init__" sInitS fSi dSi)
  (xTi:ML K Bt "__init__" "Take.__init__" sInitT fTi dTi)
  (xsM:ML K Bm "seen_mark" "Make.seen_mark" sSeenM fsM dsM)
  (xsS:ML K Bs "seen_mark" "Set.seen_mark" sSeenS fsS dsS)
  (xsT:ML K Bt "seen_mark" "Take.seen_mark" sSeenT fsT dsT)
  (xuM:ML K Bm "suits_kind" "Make.suits_kind" sSuitM fuM duM)
  (xuS:ML K Bs "suits_kind" "Set.suits_kind" sSuitS fuS duS)
  (xuT:ML K Bt "suits_kind" "Take.suits_kind" sSuitT fuT duT)
  (xfS:ML K Bs "state_after" "Set.state_after" sAftS ffS dfS)
  (xap:PySem.W.nsIn K mainGlobals "placed_by_owners" = some (some (.ref fp))) (xlp:K.lookup fp=some ⟨ocp,odp,.func (PySem.W.fnOf "placed_by_owners" "placed_by_owners" (defArgs sPlaced) (defBody sPlaced) (defScope sPlaced) .none kVp dcp pmp anp (.ref c) ctp),slp⟩) (xcp:PySem.W.codeIn K (.ref c) "placed_by_owners" = true) (xkp:PySem.W.keepIn K (.ref fp)=true)
  (xaL:PySem.W.nsIn K mainGlobals "law" = some (some (.ref fL))) (xlL:K.lookup fL=some ⟨ocL,odL,.func (PySem.W.fnOf "law" "law" (defArgs sLaw) (defBody sLaw) (defScope sLaw) .none kVL dcL pmL anL cdL ctL),slL⟩) (xcL:PySem.W.codeIn K cdL "law" = true) (xkL:PySem.W.keepIn K (.ref fL)=true)
  (aI:PySem.W.findIn K (.ref C) "__init__" = some (some (.ref fI))) (iI:PySem.W.isFn K (.ref fI)=true)
  (lI:K.lookup fI=some ⟨ocI,odI,.func (PySem.W.fnOf "__init__" "Kind.__init__" (defArgs sInit) (defBody sInit) (defScope sInit) (.ref TD) kVI dcI pmI anI cdI ctI),slI⟩) (cI:PySem.W.codeIn K cdI "Kind.__init__" = true)
  (lT:K.lookup TD=some ⟨ocT,odT,.seq #[.none] nT,slT⟩)
  (kpg:PySem.W.plainGet K C Str.empty=true) (khd:PySem.W.hasDictIn K C=true) (kpo:PySem.W.plainOver K C=true) (ksa:PySem.W.findIn K (.ref C) "__setattr__" = some (some (.builtin "object.__setattr__"))) (kmk:PySem.W.makesIn K C=true) (kkc:PySem.W.keepIn K (.ref C)=true) (kno0:PySem.W.findIn K (.ref C) "name" = some none) (kno1:PySem.W.findIn K (.ref C) "fields" = some none) (kno2:PySem.W.findIn K (.ref C) "owner" = some none)
  (gpg:PySem.W.plainGet K CK Str.empty=true) (ghd:PySem.W.hasDictIn K CK=true) (gpo:PySem.W.plainOver K CK=true) (gsa:PySem.W.findIn K (.ref CK) "__setattr__" = some (some (.builtin "object.__setattr__"))) (gmk:PySem.W.makesIn K CK=true) (gkc:PySem.W.keepIn K (.ref CK)=true) (gno0:PySem.W.findIn K (.ref CK) "by_name" = some none)
  (hn:PySem.W.specialIn K (.builtin "object.__class__") "__get__" = some (some (.builtin "getset_descriptor.__get__"))) (htk:PySem.W.takesIn K (.builtin "object.__class__")=some true)
  (iha:PySem.W.findIn K (.ref C) "__class__" = some (some (.builtin "object.__class__"))) (ihm:PySem.W.mroIn K C (.type "object")=some true) (ihki:PySem.W.kitOne K (.ref C) (.ref C)=some true)
  (jha:PySem.W.findIn K (.ref CK) "__class__" = some (some (.builtin "object.__class__"))) (jhm:PySem.W.mroIn K CK (.type "object")=some true) (jhki:PySem.W.kitOne K (.ref CK) (.ref CK)=some true)
  (hts:ts=[Pt])
  (hcdp:PySem.W.codeHdIn K c Pt=true) (houtp:K.lookup Pt=none)
  (c0:PySem.W.nsIn K mainGlobals "LETTERS" = some (some (.str letters t0)))
  (c1:PySem.W.nsIn K mainGlobals "MOST_LETTERS" = some (some (.int 8 t1)))
  (c2:PySem.W.nsIn K mainGlobals "MOST_STATES" = some (some (.int 8 t2)))
  (c3:PySem.W.nsIn K mainGlobals "FIGURES" = some (some (.str "0123456789" t3)))
  (c4:PySem.W.nsIn K mainGlobals "MOST_FIGURES" = some (some (.int 6 t4)))
  (c5:PySem.W.nsIn K mainGlobals "MOST_NUMBER" = some (some (.int 999999 t5)))
  (c6:PySem.W.nsIn K mainGlobals "MOST_MANY" = some (some (.int 60 t6)))
  (c7:PySem.W.nsIn K mainGlobals "MOST_WISHED" = some (some (.int 60 t7)))
  (qW:ckC K CW nosW=true)
  (qLo:ckC K CLo nosL=true)
  (qWo:ckC K CWo nosWo=true)
  (qM:ckC K Bm nosD=true)
  (qS:ckC K Bs nosD=true)
  (qT:ckC K Bt nosD=true)
  (qnd:[Bm,Bs,Bt].Nodup)
  (qdk:dkB K Be Bm Bs Bt=true)
  (aWoI:PySem.W.findIn K (.ref CWo) "__init__" = some (some (.ref fWo)))
  (iWoI:PySem.W.isFn K (.ref fWo)=true)
  (lWoI:K.lookup fWo=some ⟨ocW,odW,.func (PySem.W.fnOf "__init__" "World.__init__" (defArgs sInitWo) (defBody sInitWo) (defScope sInitWo) (.ref TW) kVW dcW pmW anW cdW ctW),slW⟩)
  (cWoI:PySem.W.codeIn K cdW "World.__init__" = true)
  (lTW:K.lookup TW=some ⟨ocV,odV,.seq #[.none] nV,slV⟩)
  (rdD:PySem.W.readsIn K Be (.type "type")=true)
  (fcD:PySem.W.findCls K (.ref Be) (.type "type") "__init__" = some (.val (.ref fDi)))
  (hdD:PySem.W.handedIn (.ref fDi)=true)
  (spD:PySem.W.specialIn K (.ref Be) "__getattribute__" = some (some (.builtin "type.__getattribute__")))
  (z_isinstance:PySem.W.nsIn K mainGlobals "isinstance" = some none)
  (z_len:PySem.W.nsIn K mainGlobals "len" = some none)
  (z_all:PySem.W.nsIn K mainGlobals "all" = some none)
  (z_set:PySem.W.nsIn K mainGlobals "set" = some none)
  (z_str:PySem.W.nsIn K mainGlobals "str" = some none)
  (z_list:PySem.W.nsIn K mainGlobals "list" = some none)
  (z_tuple:PySem.W.nsIn K mainGlobals "tuple" = some none)
  (z_dict:PySem.W.nsIn K mainGlobals "dict" = some none)
  (z_min:PySem.W.nsIn K mainGlobals "min" = some none)
  (z_sorted:PySem.W.nsIn K mainGlobals "sorted" = some none)
  (z_enumerate:PySem.W.nsIn K mainGlobals "enumerate" = some none)
  (z_int:PySem.W.nsIn K mainGlobals "int" = some none)
  (z_bool:PySem.W.nsIn K mainGlobals "bool" = some none)
  (z_sum:PySem.W.nsIn K mainGlobals "sum" = some none)
  (z_max:PySem.W.nsIn K mainGlobals "max" = some none) :
  ∃ fd:FuncData,(∀ (s:Shared) (v:Value),BindsTo s fd ⟨[v],[]⟩ [("_law_script",v)])∧(∀ T∈ts,(K).lookup T=none∧∃ c,PySem.W.codeHdIn (K) c T=true)∧∃ Pt:Addr,Pt∈ts∧∀ base:Heap,(K).In base→base.Ns mainGlobals mg→BltAt mg base→FnOk l.prog w (K) mg base CX0 10 fx fd ["_law_script"] (spLaw23 K Pt):=by
 have e:=hfa.symm.trans (PySem.W.mg_of X G xaL);cases e;have T:Tops K mg:=⟨PySem.W.mg_none_of X G z_isinstance,PySem.W.mg_none_of X G z_len,PySem.W.mg_none_of X G z_all,PySem.W.mg_none_of X G z_set,PySem.W.mg_none_of X G z_str,PySem.W.mg_none_of X G z_list,PySem.W.mg_none_of X G z_tuple,PySem.W.mg_none_of X G z_dict,PySem.W.mg_none_of X G z_min,PySem.W.mg_none_of X G z_sorted,PySem.W.mg_none_of X G z_enumerate,PySem.W.mg_none_of X G z_int,PySem.W.mg_none_of X G z_bool,PySem.W.mg_none_of X G z_sum,PySem.W.mg_none_of X G z_max,⟨_,PySem.W.mg_of X G c0⟩,⟨_,PySem.W.mg_of X G c1⟩,⟨_,PySem.W.mg_of X G c2⟩,⟨_,PySem.W.mg_of X G c3⟩,⟨_,PySem.W.mg_of X G c4⟩,⟨_,PySem.W.mg_of X G c5⟩,⟨_,PySem.W.mg_of X G c6⟩,⟨_,PySem.W.mg_of X G c7⟩⟩;have DN:=mkD X G xN (ps:=["thing"]) fun _ _ _ _ _ _ us hl=>by obtain ⟨z0,rfl⟩:=len1 hl;rfl
 have DU:=mkD X G xU (ps:=["things"]) fun _ _ _ _ _ _ us hl=>by obtain ⟨z0,rfl⟩:=len1 hl;rfl
 have DP:=mkD X G xP (ps:=["thing"]) fun _ _ _ _ _ _ us hl=>by obtain ⟨z0,rfl⟩:=len1 hl;rfl
 have DF:=mkD X G xF (ps:=["things"]) fun _ _ _ _ _ _ us hl=>by obtain ⟨z0,rfl⟩:=len1 hl;rfl
 have DCt:=mkD X G xCt (ps:=["fields"]) fun _ _ _ _ _ _ us hl=>by obtain ⟨z0,rfl⟩:=len1 hl;rfl
 have DA:=mkD X G xA (ps:=["things"]) fun _ _ _ _ _ _ us hl=>by obtain ⟨z0,rfl⟩:=len1 hl;rfl
 have DPl:=mkD X G xPl (ps:=["kind", "field"]) fun _ _ _ _ _ _ us hl=>by obtain ⟨z0,z1,rfl⟩:=len2 hl;rfl
 have DHv:=mkD X G xHv (ps:=["kind", "field", "value"]) fun _ _ _ _ _ _ us hl=>by obtain ⟨z0,z1,z2,rfl⟩:=len3 hl;rfl
 have DWv:=mkD X G xWv (ps:=["kind", "state", "field", "value"]) fun _ _ _ _ _ _ us hl=>by obtain ⟨z0,z1,z2,z3,rfl⟩:=len4 hl;rfl
 have DSts:=mkD X G xSts (ps:=["kind"]) fun _ _ _ _ _ _ us hl=>by obtain ⟨z0,rfl⟩:=len1 hl;rfl
 have DIs:=mkD X G xIs (ps:=["kind", "thing"]) fun _ _ _ _ _ _ us hl=>by obtain ⟨z0,z1,rfl⟩:=len2 hl;rfl
 have DAp:=mkD X G xAp (ps:=["lists"]) fun _ _ _ _ _ _ us hl=>by obtain ⟨z0,rfl⟩:=len1 hl;rfl
 have DW:=mkD X G xW (ps:=["thing"]) fun _ _ _ _ _ _ us hl=>by obtain ⟨z0,rfl⟩:=len1 hl;rfl
 have DWf:=mkD X G xWf (ps:=["least", "thing"]) fun _ _ _ _ _ _ us hl=>by obtain ⟨z0,z1,rfl⟩:=len2 hl;rfl
 have DWr:=mkD X G xWr (ps:=["text", "most_figures"]) fun _ _ _ _ _ _ us hl=>by obtain ⟨z0,z1,rfl⟩:=len2 hl;rfl
 have DHf:=mkD X G xHf (ps:=["thing"]) fun _ _ _ _ _ _ us hl=>by obtain ⟨z0,rfl⟩:=len1 hl;rfl
 have DPo:=mkD X G xPo (ps:=["kinds", "name"]) fun _ _ _ _ _ _ us hl=>by obtain ⟨z0,z1,rfl⟩:=len2 hl;rfl
 have DNo:=mkD X G xNo (ps:=["kinds", "kind", "owner", "number"]) fun _ _ _ _ _ _ us hl=>by obtain ⟨z0,z1,z2,z3,rfl⟩:=len4 hl;rfl
 have DCm:=mkD X G xCm (ps:=["mark"]) fun _ _ _ _ _ _ us hl=>by obtain ⟨z0,rfl⟩:=len1 hl;rfl
 have DCo:=mkD X G xCo (ps:=["name", "owner_mark"]) fun _ _ _ _ _ _ us hl=>by obtain ⟨z0,z1,rfl⟩:=len2 hl;rfl
 have DPs:=mkD X G xPs (ps:=["kind", "things"]) fun _ _ _ _ _ _ us hl=>by obtain ⟨z0,z1,rfl⟩:=len2 hl;rfl
 have DPf:=mkD X G xPf (ps:=["kind", "thing"]) fun _ _ _ _ _ _ us hl=>by obtain ⟨z0,z1,rfl⟩:=len2 hl;rfl
 have DRw:=mkD X G xRw (ps:=["kinds", "thing"]) fun _ _ _ _ _ _ us hl=>by obtain ⟨z0,z1,rfl⟩:=len2 hl;rfl
 have DRs:=mkD X G xRs (ps:=["kinds", "things"]) fun _ _ _ _ _ _ us hl=>by obtain ⟨z0,z1,rfl⟩:=len2 hl;rfl
 have DEa:=mkD X G xEa (ps:=["kind", "rows"]) fun _ _ _ _ _ _ us hl=>by obtain ⟨z0,z1,rfl⟩:=len2 hl;rfl
 have DCw:=mkD X G xCw (ps:=["kinds", "rows"]) fun _ _ _ _ _ _ us hl=>by obtain ⟨z0,z1,rfl⟩:=len2 hl;rfl
 have DWe:=mkD X G xWe (ps:=["kind", "rows"]) fun _ _ _ _ _ _ us hl=>by obtain ⟨z0,z1,rfl⟩:=len2 hl;rfl
 have DWb:=mkD X G xWb (ps:=["kinds", "rows"]) fun _ _ _ _ _ _ us hl=>by obtain ⟨z0,z1,rfl⟩:=len2 hl;rfl
 have DLm:=mkD X G xLm (ps:=["kinds", "thing"]) fun _ _ _ _ _ _ us hl=>by obtain ⟨z0,z1,rfl⟩:=len2 hl;rfl
 have DLt:=mkD X G xLt (ps:=["kinds", "seen", "deed"]) fun _ _ _ _ _ _ us hl=>by obtain ⟨z0,z1,z2,rfl⟩:=len3 hl;rfl
 have DWd:=mkD X G xWd (ps:=["kinds", "seen", "deed"]) fun _ _ _ _ _ _ us hl=>by obtain ⟨z0,z1,z2,rfl⟩:=len3 hl;rfl
 have Dm:=mkD X G xm (ps:=["_law_cell", "_law_k"]) fun _ _ _ _ _ _ us hl=>by obtain ⟨z0,z1,rfl⟩:=len2 hl;rfl
 have Ds:=mkD X G xs (ps:=["_law_cell"]) fun _ _ _ _ _ _ us hl=>by obtain ⟨z0,rfl⟩:=len1 hl;rfl
 have Dn:=mkD X G xn (ps:=["_law_source_here", "_law_many"]) fun _ _ _ _ _ _ us hl=>by obtain ⟨z0,z1,rfl⟩:=len2 hl;rfl
 have Ddu:=mkD X G xdu (ps:=["_law_lasts", "_law_wishing", "_law_told", "_law_way"]) fun _ _ _ _ _ _ us hl=>by obtain ⟨z0,z1,z2,z3,rfl⟩:=len4 hl;rfl
 have Dde:=mkD X G xde (ps:=["_law_told", "_law_way", "_law_mark", "_law_value"]) fun _ _ _ _ _ _ us hl=>by obtain ⟨z0,z1,z2,z3,rfl⟩:=len4 hl;rfl
 obtain ⟨xaIk,xiIk,FIk⟩:=xIk;have bIk:=FIk.binds (ps:=["self", "kinds"]) fun _ _ _ _ _ _ us hl=>by obtain ⟨z0,z1,rfl⟩:=len2 hl;rfl
 obtain ⟨xaOf,xiOf,FOf⟩:=xOf;have bOf:=FOf.binds (ps:=["self", "name"]) fun _ _ _ _ _ _ us hl=>by obtain ⟨z0,z1,rfl⟩:=len2 hl;rfl
 obtain ⟨xaOr,xiOr,FOr⟩:=xOr;have bOr:=FOr.binds (ps:=["self"]) fun _ _ _ _ _ _ us hl=>by obtain ⟨z0,rfl⟩:=len1 hl;rfl
 obtain ⟨xaWi,xiWi,FWi⟩:=xWi;have bWi:=FWi.binds (ps:=["self", "kinds", "rows"]) fun _ _ _ _ _ _ us hl=>by obtain ⟨z0,z1,z2,rfl⟩:=len3 hl;rfl
 obtain ⟨xaLi,xiLi,FLi⟩:=xLi;have bLi:=FLi.binds (ps:=["self", "kinds", "limits", "things", "wishes", "wishing", "last_done"]) fun _ _ _ _ _ _ us hl=>by obtain ⟨z0,z1,z2,z3,z4,z5,z6,rfl⟩:=len7 hl;rfl
 obtain ⟨xaTh,xiTh,FTh⟩:=xTh;have bTh:=FTh.binds (ps:=["self", "name"]) fun _ _ _ _ _ _ us hl=>by obtain ⟨z0,z1,rfl⟩:=len2 hl;rfl
 obtain ⟨xaSo,xiSo,FSo⟩:=xSo;have bSo:=FSo.binds (ps:=["self", "name"]) fun _ _ _ _ _ _ us hl=>by obtain ⟨z0,z1,rfl⟩:=len2 hl;rfl
 obtain ⟨xaMo,xiMo,FMo⟩:=xMo;have bMo:=FMo.binds (ps:=["self", "name"]) fun _ _ _ _ _ _ us hl=>by obtain ⟨z0,z1,rfl⟩:=len2 hl;rfl
 obtain ⟨xaNa,xiNa,FNa⟩:=xNa;have bNa:=FNa.binds (ps:=["self"]) fun _ _ _ _ _ _ us hl=>by obtain ⟨z0,rfl⟩:=len1 hl;rfl
 obtain ⟨xaTn,xiTn,FTn⟩:=xTn;have bTn:=FTn.binds (ps:=["self"]) fun _ _ _ _ _ _ us hl=>by obtain ⟨z0,rfl⟩:=len1 hl;rfl
 obtain ⟨xaLa,xiLa,FLa⟩:=xLa;have bLa:=FLa.binds (ps:=["self", "hand"]) fun _ _ _ _ _ _ us hl=>by obtain ⟨z0,z1,rfl⟩:=len2 hl;rfl
 obtain ⟨xaFu,xiFu,FFu⟩:=xFu;have bFu:=FFu.binds (ps:=["self", "kind"]) fun _ _ _ _ _ _ us hl=>by obtain ⟨z0,z1,rfl⟩:=len2 hl;rfl
 obtain ⟨xaLk,xiLk,FLk⟩:=xLk;have bLk:=FLk.binds (ps:=["self"]) fun _ _ _ _ _ _ us hl=>by obtain ⟨z0,rfl⟩:=len1 hl;rfl
 obtain ⟨xaPu,xiPu,FPu⟩:=xPu;have bPu:=FPu.binds (ps:=["self", "name", "state"]) fun _ _ _ _ _ _ us hl=>by obtain ⟨z0,z1,z2,rfl⟩:=len3 hl;rfl
 obtain ⟨xaTe,xiTe,FTe⟩:=xTe;have bTe:=FTe.binds (ps:=["self", "wishes"]) fun _ _ _ _ _ _ us hl=>by obtain ⟨z0,z1,rfl⟩:=len2 hl;rfl
 obtain ⟨xaDo,xiDo,FDo⟩:=xDo;have bDo:=FDo.binds (ps:=["self", "deed"]) fun _ _ _ _ _ _ us hl=>by obtain ⟨z0,z1,rfl⟩:=len2 hl;rfl
 obtain ⟨xaCa,xiCa,FCa⟩:=xCa;have bCa:=FCa.binds (ps:=["self", "deed", "state"]) fun _ _ _ _ _ _ us hl=>by obtain ⟨z0,z1,z2,rfl⟩:=len3 hl;rfl
 obtain ⟨xaKe,xiKe,FKe⟩:=xKe;have bKe:=FKe.binds (ps:=["self", "name", "state"]) fun _ _ _ _ _ _ us hl=>by obtain ⟨z0,z1,z2,rfl⟩:=len3 hl;rfl
 obtain ⟨xaDi,xiDi,FDi⟩:=xDi;have bDi:=FDi.binds (ps:=["self", "hand", "number", "wishing", "name"]) fun _ _ _ _ _ _ us hl=>by obtain ⟨z0,z1,z2,z3,z4,rfl⟩:=len5 hl;rfl
 obtain ⟨xaMi,xiMi,FMi⟩:=xMi;have bMi:=FMi.binds (ps:=["self", "hand", "number", "wishing", "name", "owner_mark", "state"]) fun _ _ _ _ _ _ us hl=>by obtain ⟨z0,z1,z2,z3,z4,z5,z6,rfl⟩:=len7 hl;rfl
 obtain ⟨xaSi,xiSi,FSi⟩:=xSi;have bSi:=FSi.binds (ps:=["self", "hand", "number", "wishing", "name", "mark", "owner_mark", "field", "value"]) fun _ _ _ _ _ _ us hl=>by obtain ⟨z0,z1,z2,z3,z4,z5,z6,z7,z8,rfl⟩:=len9 hl;rfl
 obtain ⟨xaTi,xiTi,FTi⟩:=xTi;have bTi:=FTi.binds (ps:=["self", "hand", "number", "wishing", "name", "mark", "owner_mark"]) fun _ _ _ _ _ _ us hl=>by obtain ⟨z0,z1,z2,z3,z4,z5,z6,rfl⟩:=len7 hl;rfl
 obtain ⟨xasM,xisM,FsM⟩:=xsM;have bsM:=FsM.binds (ps:=["self"]) fun _ _ _ _ _ _ us hl=>by obtain ⟨z0,rfl⟩:=len1 hl;rfl
 obtain ⟨xasS,xisS,FsS⟩:=xsS;have bsS:=FsS.binds (ps:=["self"]) fun _ _ _ _ _ _ us hl=>by obtain ⟨z0,rfl⟩:=len1 hl;rfl
 obtain ⟨xasT,xisT,FsT⟩:=xsT;have bsT:=FsT.binds (ps:=["self"]) fun _ _ _ _ _ _ us hl=>by obtain ⟨z0,rfl⟩:=len1 hl;rfl
 obtain ⟨xauM,xiuM,FuM⟩:=xuM;have buM:=FuM.binds (ps:=["self", "kind"]) fun _ _ _ _ _ _ us hl=>by obtain ⟨z0,z1,rfl⟩:=len2 hl;rfl
 obtain ⟨xauS,xiuS,FuS⟩:=xuS;have buS:=FuS.binds (ps:=["self", "kind"]) fun _ _ _ _ _ _ us hl=>by obtain ⟨z0,z1,rfl⟩:=len2 hl;rfl
 obtain ⟨xauT,xiuT,FuT⟩:=xuT;have buT:=FuT.binds (ps:=["self", "kind"]) fun _ _ _ _ _ _ us hl=>by obtain ⟨z0,z1,rfl⟩:=len2 hl;rfl
 obtain ⟨xafS,xifS,FfS⟩:=xfS;have bfS:=FfS.binds (ps:=["self", "kind", "state"]) fun _ _ _ _ _ _ us hl=>by obtain ⟨z0,z1,z2,rfl⟩:=len3 hl;rfl
 have Fp:FunL K "placed_by_owners" "placed_by_owners" sPlaced fp _ c:=⟨⟨ocp,odp,kVp,dcp,pmp,anp,ctp,slp,rfl,xlp,xcp⟩,xkp⟩;have bp:=Fp.fn.binds (ps:=["kinds"]) fun _ _ _ _ _ _ us hl=>by obtain ⟨z0,rfl⟩:=len1 hl;rfl
 have FL:=fun_mk (st:=sLaw) xlL xcL xkL;have FI:FunD K "__init__" "Kind.__init__" sInit (.ref TD) fI _:=⟨⟨ocI,odI,kVI,dcI,pmI,anI,cdI,ctI,slI,rfl,lI,cI⟩⟩;have bK:Binds K (PySem.W.fnOf "__init__" "Kind.__init__" (defArgs sInit) (defBody sInit) (defScope sInit) (.ref TD) kVI dcI pmI anI cdI ctI) ["self", "name", "fields", "owner"] []:=by
  intro s us hK hl;rw [List.append_nil] at hl ⊢;obtain ⟨a,n,f,o,rfl⟩:=len4 hl;exact PySem.W.binds_K hK rfl lT rfl (by rfl) (by rfl)
 have KC:KCls K mg C fI:=⟨⟨kpg,khd,kpo,ksa⟩,kno0,kno1,kno2,PySem.W.mg_of X G aC,⟨kmk,aI,iI,kkc⟩⟩;have KS:KsCls K mg CK fIk fOf fOf fOf:=⟨⟨gpg,ghd,gpo,gsa⟩,gno0,PySem.W.mg_of X G aCK,⟨gmk,xaIk,xiIk,gkc⟩,⟨xaOf,xiOf,FOf.kp⟩⟩;have kW:=zEr hn htk qW;have kLo:=zEr hn htk qLo;have kWo:=zEr hn htk qWo;have kM:=zEr hn htk qM;have kS:=zEr hn htk qS;have kT:=zEr hn htk qT;have DC:DCl K (⟨Be,Bm,Bs,Bt⟩:DB):=dcl_mk kM kS kT qnd;have DK:DKi K mg (⟨Be,Bm,Bs,Bt⟩:DB):=dki_mk kM kS kT qdk (PySem.W.mg_of X G aBm) (PySem.W.mg_of X G aBe);have FWo:FunD K "__init__" "World.__init__" sInitWo (.ref TW) fWo (PySem.W.fnOf "__init__" "World.__init__" (defArgs sInitWo) (defBody sInitWo) (defScope sInitWo) (.ref TW) kVW dcW pmW anW cdW ctW):=⟨⟨ocW,odW,kVW,dcW,pmW,anW,cdW,ctW,slW,rfl,lWoI,cWoI⟩⟩;have bWo:Binds K (PySem.W.fnOf "__init__" "World.__init__" (defArgs sInitWo) (defBody sInitWo) (defScope sInitWo) (.ref TW) kVW dcW pmW anW cdW ctW) ["self", "kinds", "limits"] []:=by
  intro s us hK hl;rw [List.append_nil] at hl ⊢;obtain ⟨a,n,f,rfl⟩:=len3 hl;exact PySem.W.binds_K hK rfl lTW rfl (by rfl) (by rfl)
 subst hts;refine ⟨PySem.W.fnOf "law" "law" (defArgs sLaw) (defBody sLaw) (defScope sLaw) .none kVL dcL pmL anL cdL ctL,fun s v=>.of_eq rfl,fun T hT=>?_,Pt,.head _,fun base _ _ bl=>?_⟩
 ·simp only [Zv,Zq,or_false] at hT;rcases hT with rfl
  ·exact ⟨houtp,c,hcdp⟩
 ·have Lp:LamTxt K mg base c Pt:=⟨hcdp,bl⟩;have hC:Calm (CXM l.prog w):=calmM;have GK:=ok_init (P:=l.prog) (w:=w) (base:=base) hC T FI KC DN DU DP DF DCt;have GIk:=ok_initKs (P:=l.prog) (w:=w) (base:=base) hC T KC ⟨iha,hn,htk,ihm,ihki⟩ KS Lp FIk DN DU DA Fp (PySem.W.mg_of X G xap) bp;have Gn:=ok_next (P:=l.prog) (w:=w) (base:=base) hC Dn.fn Dm;have GOf:=ok_ofB (P:=l.prog) (w:=w) (base:=base) (C:=C) hC T KS FOf DN;have GOr:=ok_order (P:=l.prog) (w:=w) (base:=base) (CX:=CXM l.prog w) T KS FOr;have GPo:=ok_ptB (P:=l.prog) (w:=w) (base:=base) hC T KC KS DPo.fn DN DWr DHf FOf bOf;have GNo:=ok_noB (P:=l.prog) (w:=w) (base:=base) hC T KC KS DNo.fn DN DW DWr DHf DPo FOf bOf;have GPs:=ok_ps (P:=l.prog) (w:=w) (base:=base) hC T DPs.fn DN DU DPf;have A:=WA.mk (P:=l.prog) (w:=w) (base:=base) (CX:=CXM l.prog w) (C:=C) T hC KS GOf bOf ⟨xaOr,xiOr,FOr.kp⟩ GOr bOr DN DW DPs GPs;have GRs:=ok_rws (P:=l.prog) (w:=w) (base:=base) A DRs.fn DRw;have GCw:=ok_cw (P:=l.prog) (w:=w) (base:=base) A KC DCw.fn DEa;have GWb:=ok_wb (P:=l.prog) (w:=w) (base:=base) A KC DWb.fn DWe DNo GNo;have GWi:=ok_wi (P:=l.prog) (w:=w) (base:=base) A ⟨jha,hn,htk,jhm,jhki⟩ kW.co FWi DRs GRs DCw GCw DWb GWb;have WMm:WM l.prog w K mg base (CXM l.prog w) CW CK C fWi dWi:=⟨kW.co,⟨kW.ms,xaWi,xiWi,kW.kp⟩,(PySem.W.mg_of X G aCW),GWi,bWi,kW.ki⟩;have GWf:=ok_wf (P:=l.prog) (w:=w) (base:=base) hC T DWf.fn DW;have GLm:=ok_lm (P:=l.prog) (w:=w) (base:=base) A DLm.fn DWf GWf;have GWo:=ok_woI (P:=l.prog) (w:=w) (base:=base) hC T kWo.co WMm FWo DLm GLm;have GLi:=ok_li (P:=l.prog) (w:=w) (base:=base) (CX:=CXM l.prog w) T kLo.co FLi;have GLk:=ok_look (P:=l.prog) (w:=w) (base:=base) hC kWo.co FLk ⟨kLo.ms,xaLi,xiLi,kLo.kp⟩ (PySem.W.mg_of X G aCLo) GLi bLi;have GKe:=ok_ke (P:=l.prog) (w:=w) (base:=base) (mg:=mg) (CX:=CXM l.prog w) kWo.co FKe;have XX:WX l.prog w K mg base (CXM l.prog w) CWo CLo CK C fIk fOf fOf fOf fPo fLk fKe dOf dPo dLk dKe:=⟨hC,T,kWo.co,kLo.co,KS,GOf,bOf,DPo,GPo,⟨xaLk,xiLk,FLk.kp⟩,GLk,bLk,⟨xaKe,xiKe,FKe.kp⟩,GKe,bKe⟩;have GThE:=ok_thE (P:=l.prog) (w:=w) (base:=base) (CX:=CXM l.prog w) (CK:=CK) (C:=C) T kLo.co FTh;have GTh:=ok_th (P:=l.prog) (w:=w) (base:=base) (CX:=CXM l.prog w) (CK:=CK) (C:=C) T kLo.co FTh;have GFuE:=ok_fuE (P:=l.prog) (w:=w) (base:=base) hC T kLo.co KC KS FFu DPo GPo GOf bOf;have GFu:=ok_fu (P:=l.prog) (w:=w) (base:=base) hC T kLo.co KC KS FFu DPo GPo GOf bOf;have GIs:=ok_isS (P:=l.prog) (w:=w) (base:=base) hC T KC DIs.fn DN DSts DAp;have GPu:=ok_put (P:=l.prog) (w:=w) (base:=base) XX FPu DIs GIs ⟨xaTh,xiTh,FTh.kp⟩ GThE bTh ⟨xaFu,xiFu,FFu.kp⟩ GFuE bFu;have GTe:=ok_tell (P:=l.prog) (w:=w) (base:=base) hC T kWo.co WMm FTe;have GMo:=ok_mo (P:=l.prog) (w:=w) (base:=base) hC kLo.co FMo ⟨xaTh,xiTh,FTh.kp⟩ GTh bTh;have GSo:=ok_so (P:=l.prog) (w:=w) (base:=base) hC kLo.co FSo ⟨xaTh,xiTh,FTh.kp⟩ GTh bTh;have GTn:=ok_tn (P:=l.prog) (w:=w) (base:=base) (mg:=mg) (CX:=CXM l.prog w) (CK:=CK) (C:=C) kLo.co FTn;have GLa:=ok_la (P:=l.prog) (w:=w) (base:=base) (CX:=CXM l.prog w) (CK:=CK) (C:=C) T kLo.co FLa;have GNa:=ok_na (P:=l.prog) (w:=w) (base:=base) (CX:=CXM l.prog w) (CK:=CK) (C:=C) T kLo.co FNa;have LM:LkM l.prog w K mg base (CXM l.prog w) CLo CK C fMo fSo fTn fLa fFu dMo dSo dTn dLa dFu:=⟨kLo.co,⟨xaMo,xiMo,FMo.kp⟩,GMo,bMo,⟨xaTn,xiTn,FTn.kp⟩,GTn,bTn,⟨xaLa,xiLa,FLa.kp⟩,GLa,bLa,⟨xaFu,xiFu,FFu.kp⟩,GFu,bFu⟩;have GHv:=ok_hvB (P:=l.prog) (w:=w) (base:=base) hC KC DHv.fn DPl;have GWv:=ok_wvB (P:=l.prog) (w:=w) (base:=base) hC KC DWv.fn DPl;have Se:=disp3 (B:=(⟨Be,Bm,Bs,Bt⟩:DB)) (sp:=spSeen (⟨Be,Bm,Bs,Bt⟩:DB)) ⟨_,_,kM.co.cl,⟨xasM,xisM,FsM.kp⟩,ok_seM (P:=l.prog) (w:=w) (base:=base) (CX:=CXM l.prog w) (mg:=mg) DC FsM,bsM⟩ ⟨_,_,kS.co.cl,⟨xasS,xisS,FsS.kp⟩,ok_seS (P:=l.prog) (w:=w) (base:=base) (CX:=CXM l.prog w) (mg:=mg) DC FsS,bsS⟩ ⟨_,_,kT.co.cl,⟨xasT,xisT,FsT.kp⟩,ok_seT (P:=l.prog) (w:=w) (base:=base) (CX:=CXM l.prog w) (mg:=mg) DC FsT,bsT⟩;have Su:=disp3 (B:=(⟨Be,Bm,Bs,Bt⟩:DB)) (sp:=spSuit (⟨Be,Bm,Bs,Bt⟩:DB) C) ⟨_,_,kM.co.cl,⟨xauM,xiuM,FuM.kp⟩,ok_suM (P:=l.prog) (w:=w) (base:=base) hC DC FuM DIs GIs,buM⟩ ⟨_,_,kS.co.cl,⟨xauS,xiuS,FuS.kp⟩,ok_suS (P:=l.prog) (w:=w) (base:=base) hC DC FuS DHv GHv,buS⟩ ⟨_,_,kT.co.cl,⟨xauT,xiuT,FuT.kp⟩,ok_suT (P:=l.prog) (w:=w) (base:=base) (CX:=CXM l.prog w) (mg:=mg) (fd:=duT) DC,buT⟩;have GLt:=ok_late (P:=l.prog) (w:=w) (base:=base) hC DC LM KS (PySem.W.mg_of X G aCNo) DLt.fn DPo GPo GOf bOf Se Su;have GWd:=ok_wd (P:=l.prog) (w:=w) (base:=base) hC T DC DK LM DWd.fn DPo GPo DLt GLt;have GfS:=ok_afS (P:=l.prog) (w:=w) (base:=base) hC DC FfS DWv GWv;have GCa:=ok_ca (P:=l.prog) (w:=w) (base:=base) XX DC FCa ⟨xafS,xifS,FfS.kp⟩ GfS bfS;have GDo:=ok_do (P:=l.prog) (w:=w) (base:=base) XX DC DK FDo DWd GWd ⟨xaSo,xiSo,FSo.kp⟩ GSo bSo ⟨xaCa,xiCa,FCa.kp⟩ GCa bCa;have GDi:=ok_dI (P:=l.prog) (w:=w) (base:=base) hC T FDi DN DW DWf DHf DWr;have GCm:=ok_cm (P:=l.prog) (w:=w) (base:=base) hC T DCm.fn DW DWf;have DA2:DAll l.prog w K mg base (CXM l.prog w) Be fN fCm fCo fDi dN dCm dCo dDi:=⟨T,hC,⟨rdD,fcD,hdD,spD,FDi.kp⟩,(PySem.W.mg_of X G aBe),bDi,GDi,DN,DCm,GCm,DCo,ok_co DCo.fn⟩;have DMm:DM l.prog w K mg base (CXM l.prog w) (⟨Be,Bm,Bs,Bt⟩:DB) fMi fTi fSi dMi dTi dSi:=⟨DC,⟨kM.ms,xaMi,xiMi,kM.kp⟩,⟨kT.ms,xaTi,xiTi,kT.kp⟩,⟨kS.ms,xaSi,xiSi,kS.kp⟩,(PySem.W.mg_of X G aBm),(PySem.W.mg_of X G aBt),(PySem.W.mg_of X G aBs),ok_mi DA2 FMi,ok_ti DA2 FTi,ok_si DA2 FSi,bMi,bTi,bSi⟩;have Gde:=ok_deed (P:=l.prog) (w:=w) (base:=base) hC DMm Dde.fn;exact (ok_law23 FL ⟨XX,KC,GK,bK,GIk,bIk,⟨kWo.ms,aWoI,iWoI,kWo.kp⟩,(PySem.W.mg_of X G aCWo),GWo,bWo,⟨xaPu,xiPu,FPu.kp⟩,GPu,bPu,WMm,⟨xaTe,xiTe,FTe.kp⟩,GTe,bTe,⟨xaDo,xiDo,FDo.kp⟩,GDo,bDo,Ds,ok_digits Ds.fn,Dn,Gn,Ddu,ok_due Ddu.fn,Dde,Gde,⟨xaTh,xiTh,FTh.kp⟩,GTh,bTh,⟨xaTn,xiTn,FTn.kp⟩,GTn,bTn,⟨xaNa,xiNa,FNa.kp⟩,GNa,bNa,⟨xaLa,xiLa,FLa.kp⟩,GLa,bLa⟩).calm calmM
theorem walk {l:PySem.W.OpenLaw}{q:Program}{loose:List Str}{XP:(Str→Option Value)→Heap→Prop}{YP:World→Heap→Prop}{d:DefRec}{K:Params→PySem.W.Frag}{ts:List Addr} (hn:l.most=some 63) (hdf:d.params.defaults=[])
  (hY:∀ (w:World) (h:Heap),YP w h→(K w.params).In h∧∀ T∈ts,h.get? T=some (PySem.W.tabObj #[]))
  (F:∀ (w:World) (mg:Str→Option Value) (fa:Addr) (h:Heap),(K w.params).In h→h.Ns mainGlobals mg→mg d.name=some (.ref fa) →
   ∃ fd:FuncData,(∀ (s:Shared) (v:Value),BindsTo s fd ⟨[v],[]⟩ [("_law_script",v)])∧(∀ T∈ts,(K w.params).lookup T=none∧∃ c,PySem.W.codeHdIn (K w.params) c T=true)∧∃ Pt:Addr,Pt∈ts∧∀ base:Heap,(K w.params).In base→base.Ns mainGlobals mg→BltAt mg base→FnOk l.prog w (K w.params) mg base CX0 10 fa fd ["_law_script"] (spLaw23 (K w.params) Pt)) :
  PySem.W.WalkO q loose XP YP l.row.toRowW d [] (fun f vs=>PySem.call f vs):=by
 refine Att.attach_call hn hdf fun w s₀ s₁ mg mb fa o pm cd doc a vs ns G Y ho hd hcd hmg hobj hints hlen hg=>?_;obtain ⟨KX,hT⟩:=hY w _ Y;obtain ⟨fd,hb,hall,Pt,m0,hF⟩:=F w mg fa _ KX G.T.g hmg;exact law_callTs KX G.T.g G.T.b G.T.builtins G.T.nolimit hg (blt_of G.T) hT (fun T h=>(hall T h).1) (fun T h=>(hall T h).2) hobj hints (Za hlen (by decide)) ⟨fun _=>rfl,by decide,by decide⟩ hF hb (fun H hO hS=>⟨a,ns,rfl,hS,hlen,.inl (hO.1 Pt m0),fun _=>rfl⟩) fun _ _ _ z=>z
end L2.W
theorem PySem.W.Fast.tw8636427980004681186:True:=trivial
theorem PySem.W.Fast.tw6726965157441970831:True:=trivial
theorem PySem.W.Fast.tw7712711112377964416:True:=trivial
theorem PySem.W.Fast.tw5924282793437394323:True:=trivial
theorem PySem.W.Fast.tw15579803231353906820:True:=trivial
theorem PySem.W.Fast.tw17633363303705324381:True:=trivial
theorem PySem.W.Fast.tw10612470123014239563:True:=trivial
theorem PySem.W.Fast.tw13751479277882725404:True:=trivial
theorem PySem.W.Fast.tw1209507691834445899:True:=trivial
theorem PySem.W.Fast.tw12068882660339930629:True:=trivial
theorem PySem.W.Fast.tw8777211147130420552:True:=trivial
theorem PySem.W.Fast.tw1110059516124383585:True:=trivial
theorem PySem.W.Fast.tw1579690893592886049:True:=trivial
theorem PySem.W.Fast.tw15539689442756315747:True:=trivial
theorem PySem.W.Fast.tw16415669526129363816:True:=trivial
theorem PySem.W.Fast.tw15229217223550237645:True:=trivial
theorem PySem.W.Fast.tw17766719605828982431:True:=trivial
theorem PySem.W.Fast.tw14596182066218982680:True:=trivial
theorem PySem.W.Fast.tw13711941560489954288:True:=trivial
theorem PySem.W.Fast.tw10472769517651748241:True:=trivial
theorem PySem.W.Fast.tw13251055424399304437:True:=trivial
theorem PySem.W.Fast.tw13857567005978853638:True:=trivial
theorem PySem.W.Fast.tw15218650325110710947:True:=trivial
theorem PySem.W.Fast.tw18181051810062668269:True:=trivial
theorem PySem.W.Fast.tw5061299649300196980:True:=trivial
theorem PySem.W.Fast.tw5881366452518087925:True:=trivial
theorem PySem.W.Fast.tw8345147703821642832:True:=trivial
theorem PySem.W.Fast.tw5463009152335962899:True:=trivial
theorem PySem.W.Fast.tw5636513395127750350:True:=trivial
theorem PySem.W.Fast.tw14564557297768240502:True:=trivial
theorem PySem.W.Fast.tw2467399851785566393:True:=trivial
theorem PySem.W.Fast.tw1218944943437556110:True:=trivial
theorem PySem.W.Fast.tw2234955625568041045:True:=trivial
theorem PySem.W.Fast.tw14511378154737611269:True:=trivial
theorem PySem.W.Fast.tw3408793504539764649:True:=trivial
theorem PySem.W.Fast.tw8244505775401923358:True:=trivial
theorem PySem.W.Fast.tw4857599289151943520:True:=trivial
theorem PySem.W.Fast.tw11654446697180957859:True:=trivial
theorem PySem.W.Fast.tw9357083109121837840:True:=trivial
theorem PySem.W.Fast.tw298243339517614660:True:=trivial
theorem PySem.W.Fast.tw7706520242340870708:True:=trivial
theorem PySem.W.Fast.tw10692008109509094704:True:=trivial
theorem PySem.W.Fast.tw1117422840549556769:True:=trivial
theorem PySem.W.Fast.tw1659859070859687879:True:=trivial
theorem PySem.W.Fast.tw5480362723404912624:True:=trivial
theorem PySem.W.Fast.tw5954600648565540652:True:=trivial
theorem PySem.W.Fast.tw7739088728242151178:True:=trivial
theorem PySem.W.Fast.tw7877760868326381488:True:=trivial
theorem PySem.W.Fast.tw5120951399778578691:True:=trivial
theorem PySem.W.Fast.tw2521373481923391517:True:=trivial
theorem PySem.W.Fast.tw17470461169679980366:True:=trivial
theorem PySem.W.Fast.tw16154220567397812026:True:=trivial
theorem PySem.W.Fast.tw8829606167455702751:True:=trivial
theorem PySem.W.Fast.tw100776760191707229:True:=trivial
theorem PySem.W.Fast.tw421833860872303193:True:=trivial
theorem PySem.W.Fast.tw7590898734940982761:True:=trivial
theorem PySem.W.Fast.tw1612623267378426963:True:=trivial
theorem PySem.W.Fast.tw11509568433629655801:True:=trivial
theorem PySem.W.Fast.tw2736035649641146517:True:=trivial
theorem PySem.W.Fast.tw9159817870949265798:True:=trivial
theorem PySem.W.Fast.tw904621824517728178:True:=trivial
theorem PySem.W.Fast.tw14338506731331938325:True:=trivial
theorem PySem.W.Fast.tw6922261428400066460:True:=trivial
theorem PySem.W.Fast.tw6503731188183260595:True:=trivial
theorem PySem.W.Fast.tw10444314400098972514:True:=trivial
theorem PySem.W.Fast.tw10730350028705308380:True:=trivial
theorem PySem.W.Fast.tw10840422293313454455:True:=trivial
theorem PySem.W.Fast.tw4535893326561473952:True:=trivial
theorem PySem.W.Fast.tw430441463789026288:True:=trivial
theorem PySem.W.Fast.tw13325068487784154056:True:=trivial
theorem PySem.W.Fast.tw6883331101439295824:True:=trivial
theorem PySem.W.Fast.tw4984684266936808584:True:=trivial
theorem PySem.W.Fast.tw15634614840413736159:True:=trivial
theorem PySem.W.Fast.tw16083265161136319947:True:=trivial
theorem PySem.W.Fast.tw16774556870333582346:True:=trivial
theorem PySem.W.Fast.tw4753947151506239020:True:=trivial
theorem PySem.W.Fast.tw7109021895551660204:True:=trivial
theorem PySem.W.Fast.tw18175517933056736681:True:=trivial
theorem PySem.W.Fast.tw5608872758149144120:True:=trivial
theorem PySem.W.Fast.tw13005196333900485269:True:=trivial
theorem PySem.W.Fast.tw18015397583988630893:True:=trivial
theorem PySem.W.Fast.tw3026526979848330003:True:=trivial
theorem PySem.W.Fast.tw11772871409741407876:True:=trivial
theorem PySem.W.Fast.tw4012794257298970300:True:=trivial
theorem PySem.W.Fast.tw2806441133343503356:True:=trivial
theorem PySem.W.Fast.tw10196453174437164555:True:=trivial
theorem PySem.W.Fast.tw1440151270334419562:True:=trivial
theorem PySem.W.Fast.tw4563555280134490851:True:=trivial
theorem PySem.W.Fast.tw7260606495953064303:True:=trivial
theorem PySem.W.Fast.tw3832964542668894397:True:=trivial
theorem PySem.W.Fast.tw3497954333292409557:True:=trivial
theorem PySem.W.Fast.tw7081177989717458323:True:=trivial
theorem PySem.W.Fast.tw3482886020059810116:True:=trivial
theorem PySem.W.Fast.tw4630882624080454527:True:=trivial
theorem PySem.W.Fast.tw10180779964598035946:True:=trivial
theorem PySem.W.Fast.tw9449750034473800619:True:=trivial
theorem PySem.W.Fast.tw2529373650081741979:True:=trivial
theorem PySem.W.Fast.tw2326213538975264501:True:=trivial
theorem PySem.W.Fast.tw2913310964531043388:True:=trivial
theorem PySem.W.Fast.tw12201520958615284878:True:=trivial
theorem PySem.W.Fast.tw13079576644290239762:True:=trivial
theorem PySem.W.Fast.tw8872466090880788500:True:=trivial
theorem PySem.W.Fast.tw1139770241332004473:True:=trivial
theorem PySem.W.Fast.tw6633934907487509192:True:=trivial
theorem PySem.W.Fast.tw6691398508876391112:True:=trivial
theorem PySem.W.Fast.tw11022316886252192397:True:=trivial
theorem PySem.W.Fast.tw2398845412563802184:True:=trivial
theorem PySem.W.Fast.tw2882194496284446299:True:=trivial
theorem PySem.W.Fast.tw7875383740418372160:True:=trivial
theorem PySem.W.Fast.tw13100683260344682484:True:=trivial
theorem PySem.W.Fast.tw16006534685530191303:True:=trivial
theorem PySem.W.Fast.tw2956459233099048497:True:=trivial
theorem PySem.W.Fast.tw12462279596930168816:True:=trivial
theorem PySem.W.Fast.tw6782373928938827838:True:=trivial
theorem PySem.W.Fast.tw10058445303683439268:True:=trivial
theorem PySem.W.Fast.tw6998172348523798703:True:=trivial
theorem PySem.W.Fast.tw15171284270732089697:True:=trivial
theorem PySem.W.Fast.tw6066272771724553847:True:=trivial
theorem PySem.W.Fast.tw17180910282264149725:True:=trivial
theorem PySem.W.Fast.tw4452933413036555772:True:=trivial
theorem PySem.W.Fast.tw10283935192503026039:True:=trivial
theorem PySem.W.Fast.tw6730507308257502074:True:=trivial
theorem PySem.W.Fast.tw4178851774691862679:True:=trivial
theorem PySem.W.Fast.tw12076647848996422421:True:=trivial
theorem PySem.W.Fast.tw7768339476283014732:True:=trivial
theorem PySem.W.Fast.tw3943376855316051828:True:=trivial
theorem PySem.W.Fast.tw3454336333236449850:True:=trivial
theorem PySem.W.Fast.tw573885422325010259:True:=trivial
theorem PySem.W.Fast.tw7350054880074451579:True:=trivial
theorem PySem.W.Fast.tw3127918646533680553:True:=trivial
theorem PySem.W.Fast.tw14286124973799739440:True:=trivial
theorem PySem.W.Fast.tw17930140974652156735:True:=trivial
theorem PySem.W.Fast.tw6349839534197071078:True:=trivial
theorem PySem.W.Fast.tw8437721536133162673:True:=trivial
theorem PySem.W.Fast.tw13966501070657097351:True:=trivial
theorem PySem.W.Fast.tw6898238529849835138:True:=trivial
theorem PySem.W.Fast.tw9758467498339325210:True:=trivial
theorem PySem.W.Fast.tw14303590278585478804:True:=trivial
theorem PySem.W.Fast.tw2200835547985985651:True:=trivial
theorem PySem.W.Fast.tw9693722409358993211:True:=trivial
theorem PySem.W.Fast.tw14858314908409753502:True:=trivial
theorem PySem.W.Fast.tw5306672371673791763:True:=trivial
theorem PySem.W.Fast.tw14723396721239749178:True:=trivial
theorem PySem.W.Fast.tw1143396182908464865:True:=trivial
theorem PySem.W.Fast.tw13374963984186572821:True:=trivial
theorem PySem.W.Fast.tw1495978224977450106:True:=trivial
theorem PySem.W.Fast.tw9658926269364771446:True:=trivial
theorem PySem.W.Fast.tw904250063080115926:True:=trivial
theorem PySem.W.Fast.tw2718338275588287675:True:=trivial
theorem PySem.W.Fast.tw7718346766963516841:True:=trivial
theorem PySem.W.Fast.tw17192492452452166984:True:=trivial
theorem PySem.W.Fast.tw15116419348974890162:True:=trivial
theorem PySem.W.Fast.tw5046315026023125404:True:=trivial
theorem PySem.W.Fast.tw5620493179397960453:True:=trivial
theorem PySem.W.Fast.tw13882797444171185060:True:=trivial
theorem PySem.W.Fast.tw7782921633983376417:True:=trivial
theorem PySem.W.Fast.tw14682376753309238116:True:=trivial
theorem PySem.W.Fast.tw6905757059179120656:True:=trivial
theorem PySem.W.Fast.tw74418572148273554:True:=trivial
theorem PySem.W.Fast.tw8512682355878474929:True:=trivial
theorem PySem.W.Fast.tw13764848861962768246:True:=trivial
theorem PySem.W.Fast.tw3119258678056477614:True:=trivial
theorem PySem.W.Fast.tw18396728009730558778:True:=trivial
theorem PySem.W.Fast.tw18155618008322180694:True:=trivial
theorem PySem.W.Fast.tw4489012264121087964:True:=trivial
theorem PySem.W.Fast.tw16679283723975663080:True:=trivial
theorem PySem.W.Fast.tw4550243219971626619:True:=trivial
theorem PySem.W.Fast.tw6453729135600320736:True:=trivial
theorem PySem.W.Fast.tw13738807440004408944:True:=trivial
theorem PySem.W.Fast.tw4363512854181167913:True:=trivial
theorem PySem.W.Fast.tw6975325883816203490:True:=trivial
open PySem PySem.W PyProof.Rows
set_option maxRecDepth 100000 in
set_option maxHeartbeats 0 in
theorem PySem.Challenge.cw_cometorest_k23_old_ones_and_other_wishin_holds : PySem.Challenge.rw_cometorest_k23_old_ones_and_other_wishin.Holds := by
 w_on;o_law;k_head;(case hw=>w_witness2)
 k_fill
 refine L2.W.walk (l:=PySem.Challenge.rw_cometorest_k23_old_ones_and_other_wishin) rfl rfl (fun w h Y=>⟨PySem.W.km_in_of Y,PySem.W.km_tabs_of Y⟩) ?F
 case F =>
  intro w mg fa h KX G hmg;refine' L2.W.all_mk KX G hmg ?aC ?aCK ?aCW ?aCLo ?aCWo ?aBe ?aBm ?aBs ?aBt ?aCNo ?xN ?xU ?xP ?xF ?xCt ?xA ?xPl ?xHv ?xWv ?xSts ?xIs ?xAp ?xW ?xWf ?xWr ?xHf ?xPo ?xNo ?xCm ?xCo ?xPs ?xPf ?xRw ?xRs ?xEa ?xCw ?xWe ?xWb ?xLm ?xLt ?xWd ?xm ?xs ?xn ?xdu ?xde ?xIk ?xOf ?xOr ?xWi ?xLi ?xTh ?xSo ?xMo ?xNa ?xTn ?xLa ?xFu ?xLk ?xPu ?xTe ?xDo ?xCa ?xKe ?xDi ?xMi ?xSi ?xTi ?xsM ?xsS ?xsT ?xuM ?xuS ?xuT ?xfS ?xap ?xlp ?xcp ?xkp ?xaL ?xlL ?xcL ?xkL ?aI ?iI ?lI ?cI ?lT ?kpg ?khd ?kpo ?ksa ?kmk ?kkc ?kno0 ?kno1 ?kno2 ?gpg ?ghd ?gpo ?gsa ?gmk ?gkc ?gno0 ?hn ?htk ?iha ?ihm ?ihki ?jha ?jhm ?jhki ?hts ?hcdp ?houtp ?c0 ?c1 ?c2 ?c3 ?c4 ?c5 ?c6 ?c7 ?qW ?qLo ?qWo ?qM ?qS ?qT ?qnd ?qdk ?aWoI ?iWoI ?lWoI ?cWoI ?lTW ?rdD ?fcD ?hdD ?spD ?z_isinstance ?z_len ?z_all ?z_set ?z_str ?z_list ?z_tuple ?z_dict ?z_min ?z_sorted ?z_enumerate ?z_int ?z_bool ?z_sum ?z_max
  (case aC=>k_is)
  (case aCK=>k_is)
  (case aCW=>k_is)
  (case aCLo=>k_is)
  (case aCWo=>k_is)
  (case aBe=>k_is)
  (case aBm=>k_is)
  (case aBs=>k_is)
  (case aBt=>k_is)
  (case aCNo=>k_is)
  (case xN=>apply L2.W.zB7;iterate 4 k_is)
  (case xU=>apply L2.W.zB7;iterate 4 k_is)
  (case xP=>apply L2.W.zB7;iterate 4 k_is)
  (case xF=>apply L2.W.zB7;iterate 4 k_is)
  (case xCt=>apply L2.W.zB7;iterate 4 k_is)
  (case xA=>apply L2.W.zB7;iterate 4 k_is)
  (case xPl=>apply L2.W.zB7;iterate 4 k_is)
  (case xHv=>apply L2.W.zB7;iterate 4 k_is)
  (case xWv=>apply L2.W.zB7;iterate 4 k_is)
  (case xSts=>apply L2.W.zB7;iterate 4 k_is)
  (case xIs=>apply L2.W.zB7;iterate 4 k_is)
  (case xAp=>apply L2.W.zB7;iterate 4 k_is)
  (case xW=>apply L2.W.zB7;iterate 4 k_is)
  (case xWf=>apply L2.W.zB7;iterate 4 k_is)
  (case xWr=>apply L2.W.zB7;iterate 4 k_is)
  (case xHf=>apply L2.W.zB7;iterate 4 k_is)
  (case xPo=>apply L2.W.zB7;iterate 4 k_is)
  (case xNo=>apply L2.W.zB7;iterate 4 k_is)
  (case xCm=>apply L2.W.zB7;iterate 4 k_is)
  (case xCo=>apply L2.W.zB7;iterate 4 k_is)
  (case xPs=>apply L2.W.zB7;iterate 4 k_is)
  (case xPf=>apply L2.W.zB7;iterate 4 k_is)
  (case xRw=>apply L2.W.zB7;iterate 4 k_is)
  (case xRs=>apply L2.W.zB7;iterate 4 k_is)
  (case xEa=>apply L2.W.zB7;iterate 4 k_is)
  (case xCw=>apply L2.W.zB7;iterate 4 k_is)
  (case xWe=>apply L2.W.zB7;iterate 4 k_is)
  (case xWb=>apply L2.W.zB7;iterate 4 k_is)
  (case xLm=>apply L2.W.zB7;iterate 4 k_is)
  (case xLt=>apply L2.W.zB7;iterate 4 k_is)
  (case xWd=>apply L2.W.zB7;iterate 4 k_is)
  (case xm=>apply L2.W.zB7;iterate 4 k_is)
  (case xs=>apply L2.W.zB7;iterate 4 k_is)
  (case xn=>apply L2.W.zB7;iterate 4 k_is)
  (case xdu=>apply L2.W.zB7;iterate 4 k_is)
  (case xde=>apply L2.W.zB7;iterate 4 k_is)
  (case xIk=>apply L2.W.zBh;iterate 5 k_is)
  (case xOf=>apply L2.W.zBh;iterate 5 k_is)
  (case xOr=>apply L2.W.zBh;iterate 5 k_is)
  (case xWi=>apply L2.W.zBh;iterate 5 k_is)
  (case xLi=>apply L2.W.zBh;iterate 5 k_is)
  (case xTh=>apply L2.W.zBh;iterate 5 k_is)
  (case xSo=>apply L2.W.zBh;iterate 5 k_is)
  (case xMo=>apply L2.W.zBh;iterate 5 k_is)
  (case xNa=>apply L2.W.zBh;iterate 5 k_is)
  (case xTn=>apply L2.W.zBh;iterate 5 k_is)
  (case xLa=>apply L2.W.zBh;iterate 5 k_is)
  (case xFu=>apply L2.W.zBh;iterate 5 k_is)
  (case xLk=>apply L2.W.zBh;iterate 5 k_is)
  (case xPu=>apply L2.W.zBh;iterate 5 k_is)
  (case xTe=>apply L2.W.zBh;iterate 5 k_is)
  (case xDo=>apply L2.W.zBh;iterate 5 k_is)
  (case xCa=>apply L2.W.zBh;iterate 5 k_is)
  (case xKe=>apply L2.W.zBh;iterate 5 k_is)
  (case xDi=>apply L2.W.zBh;iterate 5 k_is)
  (case xMi=>apply L2.W.zBh;iterate 5 k_is)
  (case xSi=>apply L2.W.zBh;iterate 5 k_is)
  (case xTi=>apply L2.W.zBh;iterate 5 k_is)
  (case xsM=>apply L2.W.zBh;iterate 5 k_is)
  (case xsS=>apply L2.W.zBh;iterate 5 k_is)
  (case xsT=>apply L2.W.zBh;iterate 5 k_is)
  (case xuM=>apply L2.W.zBh;iterate 5 k_is)
  (case xuS=>apply L2.W.zBh;iterate 5 k_is)
  (case xuT=>apply L2.W.zBh;iterate 5 k_is)
  (case xfS=>apply L2.W.zBh;iterate 5 k_is)
  (case xap=>k_is)
  (case xlp=>k_is)
  (case xcp=>k_is)
  (case xkp=>k_is)
  (case xaL=>k_is)
  (case xlL=>k_is)
  (case xcL=>k_is)
  (case xkL=>k_is)
  (case aI=>k_is)
  (case iI=>k_is)
  (case lI=>k_is)
  (case cI=>k_is)
  (case lT=>k_is)
  (case kpg=>k_is)
  (case khd=>k_is)
  (case kpo=>k_is)
  (case ksa=>k_is)
  (case kmk=>k_is)
  (case kkc=>k_is)
  (case kno0=>k_is)
  (case kno1=>k_is)
  (case kno2=>k_is)
  (case gpg=>k_is)
  (case ghd=>k_is)
  (case gpo=>k_is)
  (case gsa=>k_is)
  (case gmk=>k_is)
  (case gkc=>k_is)
  (case gno0=>k_is)
  (case hn=>k_is)
  (case htk=>k_is)
  (case iha=>k_is)
  (case ihm=>k_is)
  (case ihki=>first | k_is | rfl | kernel_rfl | decide +kernel)
  (case jha=>k_is)
  (case jhm=>k_is)
  (case jhki=>first | k_is | rfl | kernel_rfl | decide +kernel)
  (case hts=>rfl)
  (case hcdp=>first | k_is | rfl | kernel_rfl | decide +kernel)
  (case houtp=>first | k_is | rfl | kernel_rfl | decide +kernel)
  (case c0=>k_is)
  (case c1=>k_is)
  (case c2=>k_is)
  (case c3=>k_is)
  (case c4=>k_is)
  (case c5=>k_is)
  (case c6=>k_is)
  (case c7=>k_is)
  (case qW=>first | k_is | rfl | kernel_rfl | decide +kernel)
  (case qLo=>first | k_is | rfl | kernel_rfl | decide +kernel)
  (case qWo=>first | k_is | rfl | kernel_rfl | decide +kernel)
  (case qM=>first | k_is | rfl | kernel_rfl | decide +kernel)
  (case qS=>first | k_is | rfl | kernel_rfl | decide +kernel)
  (case qT=>first | k_is | rfl | kernel_rfl | decide +kernel)
  (case qnd=>first | k_is | rfl | kernel_rfl | decide +kernel)
  (case qdk=>first | k_is | rfl | kernel_rfl | decide +kernel)
  (case aWoI=>first | k_is | rfl | kernel_rfl | decide +kernel)
  (case iWoI=>first | k_is | rfl | kernel_rfl | decide +kernel)
  (case lWoI=>first | k_is | rfl | kernel_rfl | decide +kernel)
  (case cWoI=>first | k_is | rfl | kernel_rfl | decide +kernel)
  (case lTW=>first | k_is | rfl | kernel_rfl | decide +kernel)
  (case rdD=>first | k_is | rfl | kernel_rfl | decide +kernel)
  (case fcD=>first | k_is | rfl | kernel_rfl | decide +kernel)
  (case hdD=>first | k_is | rfl | kernel_rfl | decide +kernel)
  (case spD=>first | k_is | rfl | kernel_rfl | decide +kernel)
  (case z_isinstance=>k_is)
  (case z_len=>k_is)
  (case z_all=>k_is)
  (case z_set=>k_is)
  (case z_str=>k_is)
  (case z_list=>k_is)
  (case z_tuple=>k_is)
  (case z_dict=>k_is)
  (case z_min=>k_is)
  (case z_sorted=>k_is)
  (case z_enumerate=>k_is)
  (case z_int=>k_is)
  (case z_bool=>k_is)
  (case z_sum=>k_is)
  (case z_max=>k_is)
