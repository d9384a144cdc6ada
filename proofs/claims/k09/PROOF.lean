import PyProof.Rows.All
import Wide.All
import OpenK.AllK
import Wide.FinOn
import Lean
import PyProof.EqAt
import PyProof.EqKinds
import PyProof.TupleCall
import PySem.Challenge.RW_cometorest_k09_no_names_of_things
import KE.KMinKey
import KE.KLam
import KE.KNestM
import KE.KDictList
import PyProof.EnumMake
import PyProof.EnumFor
import PyProof.EnumStmt
import PyProof.AttrMissHeap
import KE.KDictOf
import PyProof.StrLawsChain
import PyProof.StrLawsTight
import PyProof.Rows.StrItems
import PyProof.Rows.StrSplitCount
import PyProof.FString
import KE.KIntText
import KE.KTryMore
import PyProof.NsDelKeeps
import PyProof.ExcClass3
import PyProof.ExcBaseAll.ValueError
import PyProof.ExcAttrAll.ValueError
import PyProof.NeKinds
import PyProof.FactsAll.dict
import KE.KDictSum
import PyProof.DictItems
import KE.KPairComp
import KE.KxWritten
import PyProof.SumAny
import PyProof.Rows.StrLen
import PyProof.CallStr
import PyProof.StrCalls6
import PyProof.Rows.StrCase
set_option Elab.async false
set_option linter.all false
set_option maxRecDepth 100000
abbrev Z0:=@List.length_map
abbrev Z1:=@List.getElem?_eq_getElem
abbrev Z2:=@PySem.Heap.get?_push_of_some
abbrev Z3:=@List.mem_of_getElem?
abbrev Z4:=@List.length_append
abbrev Z5:=@Nat.le_refl
abbrev Z6:=@List.mem_cons_of_mem
abbrev Z7:=@Nat.lt_of_lt_of_le
abbrev Z8:=@PySem.Heap.lt_size
abbrev Z9:=@List.mem_cons_self
abbrev Za:=@List.getElem?_map
abbrev Zb:=@List.size_toArray
abbrev Zc:=@Nat.ne_of_lt
abbrev Zd:=@Nat.le_trans
abbrev Ze:=@List.length_cons
abbrev Zf:=@List.not_mem_nil
abbrev Zg:=@PySem.Heap.get?_push_size
abbrev Zh:=@List.map_append
abbrev Zi:=@Option.some.inj
abbrev Zj:=@List.mem_cons
abbrev Zk:=@List.take_add_one
abbrev Zl:=@Nat.le_of_lt
abbrev Zm:=@List.take_length
abbrev Zn:=@Bool.false_ne_true
abbrev Zo:=@List.getElem?_append_left
abbrev Zp:=@List.map_cons
abbrev Zq:=@List.mem_append_right
abbrev Zr:=@List.mem_append_left
abbrev Zt:=@List.length_take
abbrev Zu:=@Bool.and_eq_true
abbrev Zv:=@List.length_drop
abbrev Zw:=@List.getElem?_append_right
abbrev Zx:=@List.length_take_le
abbrev Zy:=@List.map_map
abbrev Zz:=@Nat.zero_le
abbrev Y0:=@List.foldl_cons
abbrev Y1:=@List.getElem_of_mem
abbrev Y2:=@List.lookup_cons
abbrev Y3:=@List.filterMap_cons
abbrev Y4:=@Array.length_toList
abbrev Y5:=@Nat.lt_irrefl
abbrev Y6:=@List.length_replicate
abbrev Y7:=@List.find?_cons
abbrev Y8:=@PySem.Heap.get?_none_of_le
abbrev Y9:=@List.reverse_cons
abbrev Ya:=@List.all_map
abbrev Yb:=@Option.getD_some
abbrev Yc:=@List.length_nil
abbrev Yd:=@List.length_range
abbrev Ye:=@Bool.and_false
abbrev Yf:=@Nat.mod_lt
abbrev Yg:=@List.length_take_le'
abbrev Yh:=@List.mem_of_mem_take
abbrev Yi:=@Nat.lt_succ_self
abbrev Yj:=@List.all_cons
abbrev Yk:=@Bool.true_and
abbrev Yl:=@Bool.eq_iff_iff
abbrev Ym:=@List.filter_append
abbrev Yn:=@List.filterMap_map
abbrev Yo:=@Int.emod_lt_of_pos
abbrev Yp:=@Nat.ne_of_gt
abbrev Yq:=@PySem.Heap.size_push
namespace L2
open PySem PySem.Spec PyProof.Rows
noncomputable abbrev Key:=Sum Int Str
noncomputable def keyIs:Key→Value→Bool
 | .inl k,v=>Value.isInt k v
 | .inr x,v=>Value.isStrOf x v
noncomputable def keyH (w:World):Key→Int
 | .inl k=>hashInt k
 | .inr x=>hashStr w x
theorem zAx:∀ {k:Key}{v:Value},keyIs k v=true→(∃ i t,k=Sum.inl i∧v=Value.int i t)∨(∃ x t,k=Sum.inr x∧v=Value.str x t)
 | .inl i,v,h=>by
  obtain ⟨t,e⟩:=Value.isInt_shape (k:=i) (v:=v) h;exact .inl ⟨i,t,rfl,e⟩
 | .inr x,v,h=>by
  obtain ⟨t,e⟩:=Value.isStrOf_shape (x:=x) (v:=v) h;exact .inr ⟨x,t,rfl,e⟩
theorem keyIs_int (i:Int) (t:Tok):keyIs (.inl i) (.int i t)=true:=by simp [keyIs,Value.isInt]
theorem keyIs_str (x:Str) (t:Tok):keyIs (.inr x) (.str x t)=true:=by simp [keyIs,Value.isStrOf]
theorem key_ll (a b:Int):decide ((Sum.inl a:Key)=Sum.inl b)=(a == b):=by
 by_cases e:a=b
 ·subst e;simp
 ·have h:¬ (Sum.inl a:Key)=Sum.inl b:=fun q=>e (Sum.inl.inj q);rw [decide_eq_false h];exact (beq_eq_false_iff_ne.mpr e).symm
theorem key_rr (a b:Str):decide ((Sum.inr a:Key)=Sum.inr b)=decide (a=b):=by
 by_cases e:a=b
 ·subst e;simp
 ·have h:¬ (Sum.inr a:Key)=Sum.inr b:=fun q=>e (Sum.inr.inj q);rw [decide_eq_false h,decide_eq_false e]
theorem key_lr (a:Int) (b:Str):decide ((Sum.inl a:Key)=Sum.inr b)=false:=decide_eq_false (fun q=>nomatch q)
theorem key_rl (a:Str) (b:Int):decide ((Sum.inr a:Key)=Sum.inl b)=false:=decide_eq_false (fun q=>nomatch q)
noncomputable def mixKind (prog:Program) (w:World):PySem.KeyKind prog w Key where
 is:=keyIs
 hash:=keyH w
 inj:=fun v a b ha hb=>by
  rcases zAx ha with ⟨i,t,rfl,rfl⟩ | ⟨x,t,rfl,rfl⟩
  ·rcases zAx hb with ⟨j,u,rfl,e⟩ | ⟨y,u,rfl,e⟩
   ·injection e with e1 _;rw [e1]
   ·exact nomatch e
  ·rcases zAx hb with ⟨j,u,rfl,e⟩ | ⟨y,u,rfl,e⟩
   ·exact nomatch e
   ·injection e with e1 _;rw [e1]
 byValue:=fun k v h=>by
  rcases zAx h with ⟨i,t,rfl,rfl⟩ | ⟨x,t,rfl,rfl⟩ <;> rfl
 pyHash:=fun hv h=>by
  rcases zAx hv with ⟨i,t,rfl,rfl⟩ | ⟨x,t,rfl,rfl⟩
  ·exact wpAny_pyHash_int h
  ·exact wpAny_pyHash_str h
 eqBool:=fun hu hv h=>by
  rcases zAx hu with ⟨i,t,rfl,rfl⟩ | ⟨x,t,rfl,rfl⟩
  ·rcases zAx hv with ⟨j,u,rfl,rfl⟩ | ⟨y,u,rfl,rfl⟩
   ·rw [key_ll] at h;exact wpAny_eqBool_int h
   ·rw [key_lr] at h;exact SeqAt.EqAt.int_str i t y u _ _ _ _ h
  ·rcases zAx hv with ⟨j,u,rfl,rfl⟩ | ⟨y,u,rfl,rfl⟩
   ·rw [key_rl] at h;exact SeqAt.EqAt.str_int x t j u _ _ _ _ h
   ·rw [key_rr] at h;exact wpAny_eqBool_str h
 «strs»:=fun k x t v h=>by
  rcases zAx h with ⟨i,u,rfl,e⟩ | ⟨y,u,rfl,e⟩
  ·exact nomatch e
  ·injection e with e1 _;subst e1;cases v <;> rfl
theorem mixKind_int (prog:Program) (w:World) (i:Int) (t:Tok):(mixKind prog w).is (.inl i) (.int i t)=true:=keyIs_int i t
theorem mixKind_str (prog:Program) (w:World) (x:Str) (t:Tok):(mixKind prog w).is (.inr x) (.str x t)=true:=keyIs_str x t
end L2
namespace L2
open PySem PySem.Spec PyProof.Rows
inductive V where
 | non | bl (b:Bool) | int (i:Int) | str (x:Str) | byt (b:Array UInt8) | flt (b:UInt64) | ref (a:Addr) | ty (n:String)
 deriving DecidableEq
noncomputable def RelV:V→Value→Prop
 | .non,u=>u=Value.none
 | .bl b,u=>u=Value.bool b
 | .int i,u=>∃ t,u=Value.int i t
 | .str x,u=>∃ t,u=Value.str x t
 | .byt b,u=>∃ t,u=Value.bytes b t
 | .flt b,u=>∃ t,u=Value.float b t
 | .ref a,u=>u=Value.ref a
 | .ty n,u=>u=Value.type n
noncomputable abbrev Vals:List V→List Value→Prop:=Paired RelV
theorem Vals.length {xs:List V}{us:List Value} (r:Vals xs us):xs.length=us.length:=Paired.length r
theorem Vals.get:∀ {xs:List V}{us:List Value}{i:Nat}{x:V},Vals xs us→xs[i]? = some x→∃ u,us[i]? = some u∧RelV x u
 | _,_,_,_,.nil,e=>by simp at e
 | _,_,0,_,.cons r _,e=>by simp at e;subst e;exact ⟨_,rfl,r⟩
 | _,_,i + 1,x,.cons _ t,e=>by
  obtain ⟨u,h1,h2⟩:=Vals.get (i:=i) (x:=x) t (by simpa using e);exact ⟨u,by simpa using h1,h2⟩
theorem Vals.set {x:V}{u:Value} (r:RelV x u):∀ {xs:List V}{us:List Value} (i:Nat),Vals xs us→Vals (xs.set i x) (us.set i u)
 | _,_,_,.nil=>.nil
 | _,_,0,.cons _ t=>.cons r t
 | _,_,i + 1,.cons q t=>.cons q (Vals.set r i t)
theorem Vals.append:∀ {xs ys:List V}{us ws:List Value},Vals xs us→Vals ys ws→Vals (xs++ys) (us++ws)
 | _,_,_,_,.nil,s=>s
 | _,_,_,_,.cons r t,s=>.cons r (Vals.append t s)
theorem Vals.take:∀ {xs:List V}{us:List Value} (n:Nat),Vals xs us→Vals (xs.take n) (us.take n)
 | _,_,0,_=>.nil
 | _,_,_ + 1,.nil=>.nil
 | _,_,n + 1,.cons r t=>.cons r (Vals.take n t)
theorem Vals.drop:∀ {xs:List V}{us:List Value} (n:Nat),Vals xs us→Vals (xs.drop n) (us.drop n)
 | _,_,0,r=>r
 | _,_,_ + 1,.nil=>.nil
 | _,_,n + 1,.cons _ t=>Vals.drop n t
noncomputable def RelO:Option V→Option Value→Prop
 | some v,some u=>RelV v u
 | none,none=>True
 | _,_=>False
noncomputable def KV {κ : Type}:List (κ×V)→List (κ×Value)→Prop:=Paired fun (p : κ×V) (q : κ×Value)=>p.1=q.1∧RelV p.2 q.2
noncomputable def kV:Key→V
 | .inl i=>.int i
 | .inr x=>.str x
inductive HO where
 | lst (xs:List V)
 | tup (xs:List V)
 | dK (kvs:List (Key×V)) | dT (kvs:List (List Key×V))
 | set (S:Int→Bool) (n:Nat)
 | ins (C dx:Addr) (fs:List (Str×V))
 | own (x:Addr)
 | xd (fs:List (Str×V))
 | met (f x:Addr)
 | rng (lo hi:Int)
 | frz (o:Obj) (u:HO)
 | tbl (ps:Array Value)
 | ext (φ : Heap→Prop)
noncomputable abbrev Hp:=Addr→Option HO
noncomputable def upd (H:Hp) (a:Addr) (o:HO):Hp:=fun b=>if b=a then some o else H b
theorem zA1 {H:Hp}{a:Addr}{o:HO}:upd H a o a=some o:=by unfold upd;rw [if_pos rfl]
theorem zAa {H:Hp}{a b:Addr}{o:HO} (h:b≠a):upd H a o b=H b:=by unfold upd;rw [if_neg h]
theorem ne_of {H:Hp}{a b:Addr}{o u:HO} (h:H a=some o) (h':H b=some u) (d:o≠u):a≠b:=by
 intro e;subst e;rw [h] at h';exact d (Zi h')
theorem zA5 {H:Hp}{a b:Addr}{o:HO} (h:H a=some o) (h':H b=none):a≠b:=by
 intro e;subst e;rw [h] at h';cases h'
section
variable (P:Program) (w:World)
noncomputable def ObjOk (H:Hp) (h:Heap) (a:Addr):HO→Prop
 | .lst xs=>xs.length≤sizeLine∧∃ (its:List Value) (n:Nat),Vals xs its∧h.get? a=some { cls:=.type "list",data:=.seq its.toArray n }
 | .tup xs=>xs.length≤sizeLine∧∃ its:List Value,Vals xs its∧IsTup h a its.toArray
 | .dK kvs=>kvs.length≤sizeLine∧(a == sysModules)=false∧∃ vs,KV kvs vs∧h.DictOf (mixKind P w) a vs
 | .dT kvs=>kvs.length≤sizeLine∧(a == sysModules)=false∧∃ xs:List (List Key×Addr×Value),
   Paired (fun (p:List Key×V) (q:List Key×Addr×Value)=>p.1=q.1∧H q.2.1=some (.tup (p.1.map kV))∧RelV p.2 q.2.2) kvs xs ∧
   ∃ o es ep,h.get? a=some o∧o.ExactDict∧o.data=.dict es ep∧es.toList=xs.map (entryOfKey (tupleKind (mixKind P w)))∧(xs.map (·.1)).Nodup
 | .set S n=>h.SetOf (intKind P w) a S n
 | .ins C dx fs=>H dx=some (.own a)∧fs.length≤1000∧dx≠a∧h.get? a=some (PySem.W.instObj C dx) ∧
   ∃ mA,h.Ns1 dx mA∧(∀ f,RelO (fs.lookup f) (mA f))∧PySem.Within mA (fs.map (·.1))
 | .own _=>∃ o,h.get? a=some o
 | .xd fs=>∃ mA,h.Ns1 a mA∧∀ f,RelO (fs.lookup f) (mA f)
 | .rng lo hi=>∃ t u v,h.get? a=some { cls:=.type "range",data:=.fields #[.int lo t,.int hi u,.int 1 v] }
 | .frz o u=>h.get? a=some o∧ObjOk H h a u
 | .tbl ps=>h.get? a=some { cls:=.none,data:=.fields ps }
 | .met f x=>h.get? a=some (PySem.W.methodObj (.ref f) (.ref x))
 | .ext φ=>φ h∧(∃ o,h.get? a=some o)∧∀ h1 h2:Heap,φ h1→(∀ o,h1.get? a=some o→h2.get? a=some o)→φ h2
noncomputable def HOk (H:Hp) (h:Heap):Prop:=∀ a o,H a=some o→ObjOk P w H h a o
end
section
variable {P:Program}{w:World}{H H':Hp}{h h':Heap}{a:Addr}{o:HO}
theorem ObjOk.lt (x:ObjOk P w H h a o):a < h.objs.size:=by
 cases o with
 | lst xs=>obtain ⟨_,_,_,_,e⟩:=x;exact Z8 e
 | tup xs=>obtain ⟨_,_,_,p⟩:=x;exact p.lt
 | dK kvs=>obtain ⟨_,_,_,_,o,_,_,e,_⟩:=x;exact Z8 e
 | dT kvs=>obtain ⟨_,_,_,_,o,_,_,e,_⟩:=x;exact Z8 e
 | set S n=>obtain ⟨o,_,_,_,e,_⟩:=x;exact Z8 e
 | ins C dx fs=>obtain ⟨_,_,_,e,_⟩:=x;exact Z8 e
 | own y=>obtain ⟨_,e⟩:=x;exact Z8 e
 | xd fs=>obtain ⟨_,⟨_,_,_,e,_⟩,_⟩:=x;exact Z8 e
 | rng lo hi=>obtain ⟨_,_,_,e⟩:=x;exact Z8 e
 | frz ob u=>obtain ⟨e,_⟩:=x;exact Z8 e
 | tbl ps=>exact Z8 (show h.get? a=some _ from x)
 | met f y=>exact Z8 (show h.get? a=some _ from x)
 | ext φ=>obtain ⟨_,⟨_,e⟩,_⟩:=x;exact Z8 e
theorem Paired.mapP {α β : Type}{F G : α→β→Prop}:∀ {l₁ : List α}{l₂ : List β},Paired F l₁ l₂→(∀ a b,F a b→G a b)→Paired G l₁ l₂
 | _,_,.nil,_=>.nil
 | _,_,.cons r t,f=>.cons (f _ _ r) (Paired.mapP t f)
theorem ObjOk.stay (x:ObjOk P w H h a o) (k:∀ b u,(b=a∨H b=some (.own a))→h.get? b=some u→h'.get? b=some u)
  (ho:∀ b,H b=some (.own a)→H' b=some (.own a)) (ht:∀ b xs,H b=some (.tup xs)→H' b=some (.tup xs)):ObjOk P w H' h' a o:=by
 induction o with
 | lst xs=>obtain ⟨z,its,n,r,e⟩:=x;exact ⟨z,its,n,r,k _ _ (.inl rfl) e⟩
 | tup xs=>obtain ⟨z,its,r,ob,e,c⟩:=x;exact ⟨z,its,r,ob,k _ _ (.inl rfl) e,c⟩
 | dK kvs=>obtain ⟨z,y,vs,r,ob,es,ep,e,c⟩:=x;exact ⟨z,y,vs,r,ob,es,ep,k _ _ (.inl rfl) e,c⟩
 | dT kvs =>
  obtain ⟨z,y,xs,r,ob,es,ep,e,c⟩:=x;exact ⟨z,y,xs,Paired.mapP r fun p q z=>⟨z.1,ht _ _ z.2.1,z.2.2⟩,ob,es,ep,k _ _ (.inl rfl) e,c⟩
 | set S n=>obtain ⟨ob,es,ep,t,e,c⟩:=x;exact ⟨ob,es,ep,t,k _ _ (.inl rfl) e,c⟩
 | ins C dx fs =>
  obtain ⟨d,z,ne,e,mA,⟨od,es,ep,e2,c⟩,r⟩:=x;exact ⟨ho _ d,z,ne,k _ _ (.inl rfl) e,mA,⟨od,es,ep,k _ _ (.inr d) e2,c⟩,r⟩
 | own y=>obtain ⟨ob,e⟩:=x;exact ⟨ob,k _ _ (.inl rfl) e⟩
 | xd fs=>obtain ⟨mA,⟨od,es,ep,e,c⟩,r⟩:=x;exact ⟨mA,⟨od,es,ep,k _ _ (.inl rfl) e,c⟩,r⟩
 | rng lo hi=>obtain ⟨t,u,v,e⟩:=x;exact ⟨t,u,v,k _ _ (.inl rfl) e⟩
 | frz ob u ih=>obtain ⟨e,q⟩:=x;exact ⟨k _ _ (.inl rfl) e,ih q⟩
 | tbl ps =>
  have e:h.get? a=some { cls:=.none,data:=.fields ps }:=x;show h'.get? a=some { cls:=.none,data:=.fields ps };exact k a _ (.inl rfl) e
 | met f y =>
  have e:h.get? a=some (PySem.W.methodObj (.ref f) (.ref y)):=x;show h'.get? a=some (PySem.W.methodObj (.ref f) (.ref y));exact k a _ (.inl rfl) e
 | ext φ=>obtain ⟨p,⟨o,e⟩,st⟩:=x;exact ⟨st _ _ p fun o q=>k _ _ (.inl rfl) q,⟨o,k _ _ (.inl rfl) e⟩,st⟩
theorem HOk.lt (x:HOk P w H h) (e:H a=some o):a < h.objs.size:=(x a o e).lt
theorem HOk.fresh (x:HOk P w H h) (e:h.objs.size≤a):H a=none:=by
 cases q:H a with
 | none=>rfl
 | some u=>exact absurd (Z7 (x.lt q) e) (Y5 _)
theorem HOk.kept (x:HOk P w H h) (k:∀ b u,h.get? b=some u→h'.get? b=some u):HOk P w H h':=fun a o e =>
 (x a o e).stay (fun b u _ q=>k b u q) (fun _ q=>q) fun _ _ q=>q
theorem HOk.laid (x:HOk P w H h) (k:∀ b u,h.get? b=some u→h'.get? b=some u) (hp:h.objs.size≤a) (new:ObjOk P w (upd H a o) h' a o):HOk P w (upd H a o) h':=fun b u e=>by
 have hn:=x.fresh hp;by_cases hb:b=a
 ·subst hb;rw [zA1] at e;cases e;exact new
 ·rw [zAa hb] at e;exact (x b u e).stay (fun c v _ q=>k c v q) (fun c q=>by rw [zAa (zA5 q hn)];exact q) fun c xs q=>by rw [zAa (zA5 q hn)];exact q
end
noncomputable def Rd (H:Hp) (a:Addr) (u:HO):Prop:=H a=some u∨∃ o,H a=some (.frz o u)
theorem Rd.ok {P:Program}{w:World}{H:Hp}{h:Heap}{a:Addr}{u:HO} (r:Rd H a u) (x:HOk P w H h):ObjOk P w H h a u:=by
 rcases r with r | ⟨o,r⟩
 ·exact x a u r
 ·obtain ⟨_,q⟩:=x a _ r;exact q
noncomputable def Mut:Option HO→Prop
 | some (.lst _)=>True
 | some (.dK _)=>True
 | some (.dT _)=>True
 | some (.set _ _)=>True
 | some (.ins _ _ _)=>True
 | some (.ext _)=>True
 | _=>False
section
variable {P:Program}{w:World}{H:Hp}{h h':Heap}{x e:Addr}{o':HO}
theorem HOk.write (ok:HOk P w H h) (mu:Mut (H x)) (he:e=x∨H e=some (.own x)) (k:∀ b u,b≠e→h.get? b=some u→h'.get? b=some u) (heo:∃ u,h'.get? e=some u)
  (new:ObjOk P w (upd H x o') h' x o'):HOk P w (upd H x o') h':=fun b u q=>by
 have nown:∀ c y,H c=some (.own y)→c≠x:=fun c y r z=>by subst z;rw [r] at mu;exact mu
 have ntup:∀ c xs,H c=some (.tup xs)→c≠x:=fun c xs r z=>by subst z;rw [r] at mu;exact mu
 by_cases hb:b=x
 ·subst hb;rw [zA1] at q;cases q;exact new
 ·rw [zAa hb] at q;by_cases hbe:b=e
  ·have q':H b=some (.own x):=by
    rcases he with z | z
    ·exact absurd (hbe.trans z) hb
    ·rw [hbe];exact z
   rw [q] at q';cases q';obtain ⟨v,hv⟩:=heo;exact ⟨v,by rw [hbe];exact hv⟩
  ·refine (ok b u q).stay (fun c v hc r=>k c v ?_ r) (fun c r=>by rw [zAa (nown c b r)];exact r) fun c xs r=>by rw [zAa (ntup c xs r)];exact r
   rcases hc with rfl | hc
   ·exact hbe
   ·rintro rfl;rcases he with z | z
    ·exact nown c b hc z
    ·rw [hc] at z;cases z;exact hb rfl
end
structure Un (fs ex:List Addr) (H H':Hp) (h h':Heap):Prop where
 keep:∀ b o,h.get? b=some o→H b=none→b∉fs→b∉ex→h'.get? b=some o
 slot:∀ b o,h.get? b=some o→H b=none→b∈fs→b∉ex→∃ sl,h'.get? b=some { o with slots:=sl }
 free:∀ b o,h.get? b=some o→H b=none→b∉ex→H' b=none
 there:∀ b o,h.get? b=some o→b∉ex→∃ o',h'.get? b=some o'
 tups:∀ b xs,H b=some (.tup xs)→H' b=some (.tup xs)
 frzs:∀ b o u,H b=some (.frz o u)→H' b=some (.frz o u)
 tbls:∀ b ps,H b=some (.tbl ps)→∃ more,H' b=some (.tbl (ps++more))
section
variable {fs fs' ex ex':List Addr}{H H1 H2:Hp}{h h1 h2 h':Heap}{a x e:Addr}{o:HO}
theorem Un.any (u:Un fs ex H H1 h h1) {b:Addr}{ob:Obj} (q:h.get? b=some ob) (n:H b=none) (hx:b∉ex):∃ sl,h1.get? b=some { ob with slots:=sl }:=by
 by_cases hb:b∈fs
 ·exact u.slot b ob q n hb hx
 ·exact ⟨ob.slots,u.keep b ob q n hb hx⟩
theorem Un.trans (a:Un fs ex H H1 h h1) (b:Un fs ex H1 H2 h1 h2):Un fs ex H H2 h h2 where
 keep:=fun c ob q n hc hx=>b.keep c ob (a.keep c ob q n hc hx) (a.free c ob q n hx) hc hx
 slot:=fun c ob q n hc hx=>by
  obtain ⟨sl,e1⟩:=a.slot c ob q n hc hx;obtain ⟨sl',e2⟩:=b.slot c _ e1 (a.free c ob q n hx) hc hx;exact ⟨sl',e2⟩
 free:=fun c ob q n hx=>by
  obtain ⟨o',e1⟩:=a.there c ob q hx;exact b.free c o' e1 (a.free c ob q n hx) hx
 there:=fun c ob q hx=>by
  obtain ⟨o',e1⟩:=a.there c ob q hx;exact b.there c o' e1 hx
 tups:=fun c xs q=>b.tups c xs (a.tups c xs q)
 frzs:=fun c ob xs q=>b.frzs c ob xs (a.frzs c ob xs q)
 tbls:=fun c ps q=>by
  obtain ⟨m1,e1⟩:=a.tbls c ps q;obtain ⟨m2,e2⟩:=b.tbls c _ e1;exact ⟨m1++m2,by rw [e2,Array.append_assoc]⟩
theorem Un.kept (k:∀ b u,h.get? b=some u→h'.get? b=some u):Un fs ex H H h h' :=
 ⟨fun b ob q _ _ _=>k b ob q,fun b ob q _ _ _=>⟨ob.slots,k b ob q⟩,fun _ _ _ n _=>n,fun b ob q _=>⟨ob,k b ob q⟩,fun _ _ q=>q,fun _ _ _ q=>q,fun _ ps q=>⟨#[],by rw [q];simp⟩⟩
theorem Un.refl:Un fs ex H H h h:=Un.kept fun _ _ q=>q
theorem Un.laid (k:∀ b u,h.get? b=some u→h'.get? b=some u) (hp:h.objs.size≤a) (hn:H a=none):Un fs ex H (upd H a o) h h' where
 keep:=fun b u q _ _ _=>k b u q
 slot:=fun b u q _ _ _=>⟨u.slots,k b u q⟩
 free:=fun b u q n _=>by rw [zAa (Zc (Z7 (Z8 q) hp))];exact n
 there:=fun b u q _=>⟨u,k b u q⟩
 tups:=fun b xs q=>by rw [zAa (zA5 q hn)];exact q
 frzs:=fun b u xs q=>by rw [zAa (zA5 q hn)];exact q
 tbls:=fun b ps q=>⟨#[],by rw [zAa (zA5 q hn),q];simp⟩
theorem Un.write (mu:Mut (H x)) (he:e=x∨H e=some (.own x)) (k:∀ b u,b≠e→h.get? b=some u→h'.get? b=some u) (heo:∃ u,h'.get? e=some u):Un fs ex H (upd H x o) h h':=by
 have hx:∀ b,H b=none→b≠x:=fun b n z=>by subst z;rw [n] at mu;exact mu
 have hb:∀ b,H b=none→b≠e:=fun b n z=>by
  subst z;rcases he with r | r
  ·exact hx b n r
  ·rw [n] at r;cases r
 have hm:∀ b u,H b=some u→¬ Mut (some u)→b≠x:=fun b u q nm z=>by subst z;rw [q] at mu;exact nm mu
 refine ⟨fun b u q n _ _=>k b u (hb b n) q,fun b u q n _ _=>⟨u.slots,k b u (hb b n) q⟩,fun b u q n _=>by rw [zAa (hx b n)];exact n,fun b u q _=>?_,
  fun b xs q=>by rw [zAa (hm b _ q fun z=>z)];exact q,fun b u xs q=>by rw [zAa (hm b _ q fun z=>z)];exact q,fun b ps q=>⟨#[],by rw [zAa (hm b _ q fun z=>z),q];simp⟩⟩
 by_cases hbe:b=e
 ·subst hbe;exact heo
 ·exact ⟨u,k b u hbe q⟩
end
noncomputable def trk (h:Heap) (H:Hp):List Addr:=(List.range h.objs.size).filter fun a=>(H a).isSome
noncomputable def hidT (h:Heap) (H:Hp):Heap:=PySem.W.hideAll h (trk h H)
theorem hidT_size (h:Heap) (H:Hp):(hidT h H).objs.size=h.objs.size:=PySem.W.hideAll_size _ _
theorem hidT_get {h:Heap}{H:Hp}{b:Addr}{o:Obj} (e:h.get? b=some o) (n:H b=none):(hidT h H).get? b=some o :=
 PySem.W.hideAll_get _ e fun hm=>by
  have q:(H b).isSome=true:=(List.mem_filter.mp hm).2;rw [n] at q;simp at q
theorem of_hidT {h:Heap}{H:Hp}{b:Addr}{o:Obj} (e:(hidT h H).get? b=some o):h.get? b=some o∧H b=none:=by
 have e':h.get? b=some o:=PySem.W.of_hideAll (trk h H) e;refine ⟨e',?_⟩;cases q:H b with
 | none=>rfl
 | some x =>
  have hm:b∈trk h H:=List.mem_filter.mpr ⟨List.mem_range.mpr (Z8 e'),by simp [q]⟩;have z:(hidT h H).get? b=none:=PySem.W.hideAll_none (trk h H) hm;rw [z] at e;cases e
noncomputable def allNews (g h:Heap) (L:Addr):List (Addr×Obj):=(List.range h.objs.size).filterMap fun a=>if a=L∨(g.get? a).isSome=true then none else (h.get? a).map fun o=>(a,o)
noncomputable def rest (g h:Heap) (L d:Addr):List (Addr×Obj):=(allNews g h L).filter fun p=>decide (p.1≠d)
end L2
namespace L2
open PySem PySem.Spec PyProof.Rows
structure Mod (K:PySem.W.Frag) (mg:Str→Option Value) (base:Heap):Prop where
 kin:K.In base
 glob:base.Ns mainGlobals mg
 blt:∃ mb,base.Ns builtinsNs mb∧∀ x:Str,x≠"__name__"→mb x=bootBuiltins x
 nolimit:base.NoLimit
structure Cx where
 prog:Program
 w:World
 K:PySem.W.Frag
 mg:Str→Option Value
 base:Heap
 A:Around
 N:List Str
 s₀ : Shared
 H₀ : Hp
 env:Env
 outer:List Env
 stack:List Env
 ex:List Addr
 fn:Str→Bool
 calm:Bool
 pn:List (Addr×Obj)
 xe:Value→Shared→Prop
noncomputable def frs (l:List Env):List Addr:=l.filterMap (·.frame)
noncomputable abbrev Cx.fs (X:Cx):List Addr:=frs X.outer
noncomputable def Vis (sc:Scope) (x:Str):Prop:=sc.names.lookup x=some .local∨sc.names.lookup x=some .cell∨sc.names.lookup x=some .free
noncomputable def Loc (sc:Scope) (x:Str):Prop:=sc.names.lookup x=some .local∨sc.names.lookup x=some .cell
noncomputable def Look (env:Env) (h:Heap) (m:Str→Option Value) (x:Str) (u:Value):Prop :=
 (env.kindOf x=some .local∧m x=some u)∨((env.kindOf x=some .cell∨env.kindOf x=some .free)∧∃ c,env.cells.lookup x=some c∧h.IsCell c (some u))
structure Cx.Ok (X:Cx):Prop where
 mod:Mod X.K X.mg X.base
 kind:X.env.scope.kind=.function
 glob:X.env.globals=mainGlobals
 blt:X.env.builtins=builtinsNs
 above:X.s₀.heap.objs.size≤X.env.locals
 inj:∀ x y c,X.env.cells.lookup x=some c→X.env.cells.lookup y=some c→x=y
 has:∀ x,(X.env.kindOf x=some .cell∨X.env.kindOf x=some .free)→∃ c,X.env.cells.lookup x=some c
 cab:∀ x c,X.fn x=true→X.env.cells.lookup x=some c→X.s₀.heap.objs.size≤c
 hd:X.calm=true→X.A.handled=none
 frames:X.A.frames=some X.stack
 stk:X.stack=X.outer∨(X.stack=X.env :: X.outer∧X.env.frame=some X.env.locals)
 exf:∀ b∈X.ex,b≠X.env.locals∧∀ x c,X.env.cells.lookup x=some c→c≠b
 bs:∀ b o,X.base.get? b=some o→X.s₀.heap.get? b=some o∧X.H₀ b=none
 bsz:X.base.objs.size≤X.s₀.heap.objs.size
 noex:∀ b o,X.base.get? b=some o→b∉X.ex
 exfs:∀ b∈X.ex,b∉X.fs
 funs:X.s₀.heap.FunFrames X.base X.outer
 frf:∀ b∈X.fs,X.H₀ b=none
structure Inv (X:Cx) (pins:List (Addr×Obj)) (σ : List (Option V)) (H:Hp) (s:Shared):Prop where
 ok:X.Ok
 os:s.os=X.s₀.os
 bare:AllBare s.gens
 base:Un X.fs X.ex X.H₀ H X.s₀.heap s.heap
 loc:∃ m,s.heap.Ns X.env.locals m∧∀ (i:Nat) (x:Str) (v:V),X.N[i]? = some x→σ[i]? = some (some v)→Vis X.env.scope x→∃ u,RelV v u∧Look X.env s.heap m x u
 cell:∀ x c,X.env.cells.lookup x=some c→∃ v,s.heap.IsCell c v
 free:H X.env.locals=none
 freeC:∀ x c,X.env.cells.lookup x=some c→H c=none
 pin:∀ p∈X.pn++pins,s.heap.get? p.1=some p.2∧H p.1=none∧p.1≠X.env.locals∧p.1∉X.fs∧∀ v,p.2.data≠.cell v
 hok:HOk X.prog X.w H s.heap
 len : σ.length=X.N.length
section
variable {X:Cx}{pins:List (Addr×Obj)}{σ : List (Option V)}{H H':Hp}{s:Shared}{h':Heap}
theorem Cx.Ok.nofr (ok:X.Ok) {b:Addr}{o:Obj} (e:X.base.get? b=some o):b∉X.fs:=fun hb=>by
 have:=(ok.funs.mem hb).1;rw [e] at this;cases this
theorem Inv.bs (I:Inv X pins σ H s):∀ b o,X.base.get? b=some o→s.heap.get? b=some o∧H b=none:=fun b o e =>
 ⟨I.base.keep b o (I.ok.bs b o e).1 (I.ok.bs b o e).2 (I.ok.nofr e) (I.ok.noex b o e),I.base.free b o (I.ok.bs b o e).1 (I.ok.bs b o e).2 (I.ok.noex b o e)⟩
theorem Inv.bk (I:Inv X pins σ H s):∀ b o,X.base.get? b=some o→s.heap.get? b=some o:=fun b o e=>(I.bs b o e).1
theorem Inv.mod (I:Inv X pins σ H s):Mod X.K X.mg X.base:=I.ok.mod
theorem Inv.kIn (I:Inv X pins σ H s):X.K.In s.heap:=I.ok.mod.kin.keeps I.bk
theorem Inv.nolimit (I:Inv X pins σ H s):s.heap.NoLimit:=I.ok.mod.nolimit.keeps I.bk
theorem Inv.lt (I:Inv X pins σ H s):X.env.locals < s.heap.objs.size:=let ⟨_,hn,_⟩:=I.loc;hn.lt
theorem Inv.sz (I:Inv X pins σ H s):X.s₀.heap.objs.size≤s.heap.objs.size:=Zd I.ok.above (Zl I.lt)
theorem Inv.nofs (I:Inv X pins σ H s) {a:Addr} (h:s.heap.objs.size≤a):a∉X.fs:=fun hb=>by
 obtain ⟨_,o,ho,_⟩:=I.ok.funs.mem hb;exact absurd (Z7 (Z8 ho) (Zd I.sz h)) (Y5 _)
theorem Inv.cne (I:Inv X pins σ H s):∀ x c,X.env.cells.lookup x=some c→c≠X.env.locals:=fun x c e z=>by
 obtain ⟨v,o,ho,hd⟩:=I.cell x c e;obtain ⟨m,⟨o',es,ep,ho',hd',_⟩,_⟩:=I.loc;rw [z,ho'] at ho;cases ho;rw [hd'] at hd;cases hd
theorem Inv.funs (I:Inv X pins σ H s):s.heap.FunFrames X.base X.outer:=by
 have all:∀ (l:List Env),(∀ b∈frs l,b∈X.fs)→X.s₀.heap.FunFrames X.base l→s.heap.FunFrames X.base l:=by
  intro l
  induction l with
  | nil=>intro _ _;trivial
  | cons env r ih =>
   intro hs hl;obtain ⟨hk,⟨L,o,hf,hn,ho,hd⟩,hr⟩:=hl;have hL:L∈X.fs:=hs L (by unfold frs;rw [Y3,hf];exact Z9);obtain ⟨sl,e⟩:=I.base.slot L o ho (I.ok.frf L hL) hL fun z=>I.ok.exfs L z hL;exact ⟨hk,⟨L,_,hf,hn,e,hd⟩,ih (fun b hb=>hs b (by unfold frs;rw [Y3,hf];exact Z6 _ hb)) hr⟩
 exact all X.outer (fun _ hb=>hb) I.ok.funs
theorem Inv.stack (I:Inv X pins σ H s):s.heap.FunFrames X.base X.stack:=by
 rcases I.ok.stk with e | ⟨e,hf⟩
 ·rw [e];exact I.funs
 ·rw [e];obtain ⟨m,hn,_⟩:=I.loc;refine .cons (by rw [I.ok.kind];decide) hf hn ?_ I.funs;exact Y8 (Zd I.ok.bsz I.ok.above)
theorem Inv.stkSub (I:Inv X pins σ H s):∀ b∈frs X.stack,b∈X.env.locals :: X.fs:=fun b hb=>by
 rcases I.ok.stk with e | ⟨e,hf⟩
 ·rw [e] at hb;exact Z6 _ hb
 ·rw [e] at hb;unfold frs at hb;rw [Y3,hf] at hb;exact hb
theorem Inv.stkFree (I:Inv X pins σ H s):∀ b∈frs X.stack,H b=none:=fun b hb=>by
 rcases List.mem_cons.mp (I.stkSub b hb) with e | hb
 ·rw [e];exact I.free
 ·obtain ⟨_,o,ho,_⟩:=I.ok.funs.mem hb;exact I.base.free b o ho (I.ok.frf b hb) fun z=>I.ok.exfs b z hb
theorem Inv.step {g':Array GenState}{t':Nat}{d':Drawn}{ch:List Addr} (I:Inv X pins σ H s)
  (hch:∀ b∈ch,(b∈X.ex∨X.s₀.heap.get? b=none)∧b≠X.env.locals∧(∀ x c,X.env.cells.lookup x=some c→c≠b)∧∀ p∈X.pn++pins,p.1≠b)
  (keep:∀ b o,b≠X.env.locals→b∉X.fs→b∉ch→s.heap.get? b=some o→H b=none→h'.get? b=some o)
  (slot:∀ b o,b≠X.env.locals→b∈X.fs→b∉ch→s.heap.get? b=some o→H b=none→∃ sl,h'.get? b=some { o with slots:=sl }) (free:∀ b o,b∉ch→s.heap.get? b=some o→H b=none→H' b=none)
  (there:∀ b o,b∉ch→s.heap.get? b=some o→∃ o',h'.get? b=some o')
  (tups:∀ b xs,H b=some (.tup xs)→H' b=some (.tup xs)) (frzs:∀ b o u,H b=some (.frz o u)→H' b=some (.frz o u)) (tbls:∀ b ps,H b=some (.tbl ps)→∃ more,H' b=some (.tbl (ps++more)))
  (ns:∀ m,s.heap.Ns X.env.locals m→h'.Ns X.env.locals m) (hok:HOk X.prog X.w H' h') (hg:AllBare g') :
  Inv X pins σ H' { s with heap:=h',gens:=g',drawn:=d',toks:=t' }:=by
 have neL:∀ b o,X.s₀.heap.get? b=some o→b≠X.env.locals:=fun b o e=>Zc (Z7 (Z8 e) I.ok.above);have neC:∀ b o,X.s₀.heap.get? b=some o→b∉X.ex→b∉ch:=fun b o e hx hb=>by
  rcases (hch b hb).1 with z | z
  ·exact hx z
  ·rw [z] at e;cases e
 have cellK:∀ x c,X.env.cells.lookup x=some c→∀ v,s.heap.IsCell c v→h'.IsCell c v:=fun x c e v ⟨o,ho,hd⟩=>by
  have nch:c∉ch:=fun z=>(hch c z).2.2.1 x c e rfl;by_cases hc:c∈X.fs
  ·obtain ⟨sl,q⟩:=slot c o (I.cne x c e) hc nch ho (I.freeC x c e);exact ⟨_,q,hd⟩
  ·exact ⟨o,keep c o (I.cne x c e) hc nch ho (I.freeC x c e),hd⟩
 refine ⟨I.ok,I.os,hg,⟨fun b o e n hb hx=>?_,fun b o e n hb hx=>?_,fun b o e n hx=>?_,fun b o e hx=>?_,fun b xs e=>tups b xs (I.base.tups b xs e),fun b o xs e=>frzs b o xs (I.base.frzs b o xs e),fun b ps e=>?_⟩,?_,fun x c e=>?_,?_,fun x c e=>?_,fun p hp=>?_,hok,I.len⟩
 ·exact keep b o (neL b o e) hb (neC b o e hx) (I.base.keep b o e n hb hx) (I.base.free b o e n hx)
 ·obtain ⟨sl,e1⟩:=I.base.slot b o e n hb hx;obtain ⟨sl',e2⟩:=slot b _ (neL b o e) hb (neC b o e hx) e1 (I.base.free b o e n hx);exact ⟨sl',e2⟩
 ·obtain ⟨o',e1⟩:=I.base.there b o e hx;exact free b o' (neC b o e hx) e1 (I.base.free b o e n hx)
 ·obtain ⟨o',e1⟩:=I.base.there b o e hx;exact there b o' (neC b o e hx) e1
 ·obtain ⟨m1,e1⟩:=I.base.tbls b ps e;obtain ⟨m2,e2⟩:=tbls b _ e1;exact ⟨m1++m2,by rw [e2,Array.append_assoc]⟩
 ·obtain ⟨m,hn,hl⟩:=I.loc;refine ⟨m,ns m hn,fun i x v e1 e2 e3=>?_⟩;obtain ⟨u,r,l⟩:=hl i x v e1 e2 e3;refine ⟨u,r,?_⟩;rcases l with l | ⟨k,c,e,z⟩
  ·exact .inl l
  ·exact .inr ⟨k,c,e,cellK x c e _ z⟩
 ·obtain ⟨v,z⟩:=I.cell x c e;exact ⟨v,cellK x c e v z⟩
 ·obtain ⟨m,⟨o,_,_,ho,_⟩,_⟩:=I.loc;exact free _ o (fun z=>(hch _ z).2.1 rfl) ho I.free
 ·obtain ⟨v,o,ho,hd⟩:=I.cell x c e;exact free c o (fun z=>(hch c z).2.2.1 x c e rfl) ho (I.freeC x c e)
 ·obtain ⟨e,n,ne,nf,d⟩:=I.pin p hp;have nch:p.1∉ch:=fun z=>(hch p.1 z).2.2.2 p hp rfl;exact ⟨keep p.1 p.2 ne nf nch e n,free p.1 p.2 nch e n,ne,nf,d⟩
theorem Inv.un {t':Nat} (I:Inv X pins σ H s) (u:Un X.fs [] H H' s.heap h') (hok:HOk X.prog X.w H' h'):Inv X pins σ H' { s with heap:=h',toks:=t' }:=by
 obtain ⟨m,⟨o,es,ep,ho,r⟩,_⟩:=id I.loc;obtain ⟨sl,hL⟩:=u.any ho I.free (by simp)
 exact I.step (g':=s.gens) (d':=s.drawn) (ch:=[]) (fun _ z=>nomatch z) (fun b o _ hb _ e n=>u.keep b o e n hb (by simp)) (fun b o _ hb _ e n=>u.slot b o e n hb (by simp)) (fun b o _ e n=>u.free b o e n (by simp)) (fun b o _ e=>u.there b o e (by simp)) u.tups u.frzs u.tbls (fun m' hm=>by
  obtain ⟨o',es',ep',ho',r'⟩:=hm;rw [ho] at ho';cases ho'
  exact ⟨_,es',ep',hL,r'⟩) hok I.bare
theorem Inv.call {g':Array GenState}{t':Nat}{d':Drawn}{ch:List Addr} (I:Inv X pins σ H s) (u:Un (frs X.stack) ch H H' s.heap h') (hok:HOk X.prog X.w H' h') (hg:AllBare g')
  (hch:∀ b∈ch,(b∈X.ex∨X.s₀.heap.objs.size≤b)∧b≠X.env.locals∧(∀ x c,X.env.cells.lookup x=some c→c≠b)∧∀ p∈X.pn++pins,p.1≠b) :
  Inv X pins σ H' { s with heap:=h',gens:=g',drawn:=d',toks:=t' }:=by
 obtain ⟨m,⟨o,es,ep,ho,r⟩,_⟩:=id I.loc;obtain ⟨sl,hL⟩:=u.any ho I.free fun z=>(hch _ z).2.1 rfl
 exact I.step (ch:=ch) (fun b hb=>⟨(hch b hb).1.imp_right fun z=>Y8 z,(hch b hb).2⟩) (fun b o hL hb hc e n=>u.keep b o e n (fun z=>(List.mem_cons.mp (I.stkSub b z)).elim hL hb) hc) (fun b o _ _ hc e n=>u.any e n hc) (fun b o hc e n=>u.free b o e n hc) (fun b o hc e=>u.there b o e hc) u.tups u.frzs u.tbls (fun m' hm=>by
  obtain ⟨o',es',ep',ho',r'⟩:=hm;rw [ho] at ho';cases ho'
  exact ⟨_,es',ep',hL,r'⟩) hok hg
theorem Inv.turned {t':Nat}{it:Addr} (I:Inv X pins σ H s) (k:∀ b o,b≠it→s.heap.get? b=some o→h'.get? b=some o) (hn:H it=none) (hL:it≠X.env.locals)
  (h1:it∈X.ex∨X.s₀.heap.objs.size≤it) (h2:∀ x c,X.env.cells.lookup x=some c→c≠it) (h3:∀ p∈X.pn++pins,p.1≠it):Inv X pins σ H { s with heap:=h',toks:=t' }:=by
 have nit:∀ b u,H b=some u→b≠it:=fun b u e z=>by rw [z,hn] at e;cases e
 refine I.step (g':=s.gens) (d':=s.drawn) (ch:=[it]) (fun b hb=>?_) (fun b o _ _ hc e _=>k b o (fun z=>hc (by simp [z])) e) (fun b o _ _ hc e _=>⟨o.slots,k b o (fun z=>hc (by simp [z])) e⟩) (fun _ _ _ _ n=>n)
  (fun b o hc e=>⟨o,k b o (fun z=>hc (by simp [z])) e⟩) (fun _ _ e=>e) (fun _ _ _ e=>e) (fun b ps e=>⟨#[],by rw [e];simp⟩) (fun m hm=>?_) (fun b u e=>?_) I.bare
 ·have e:b=it:=by simpa using hb
  subst e;exact ⟨h1.imp_right fun z=>Y8 z,hL,h2,h3⟩
 ·obtain ⟨o,es,ep,ho,r⟩:=hm;exact ⟨o,es,ep,k _ o (Ne.symm hL) ho,r⟩
 ·refine (I.hok b u e).stay (fun c v hc q=>k c v ?_ q) (fun _ q=>q) fun _ _ q=>q;rcases hc with z | z
  ·rw [z];exact nit b u e
  ·exact nit c _ z
theorem Inv.tok (I:Inv X pins σ H s) (t:Nat):Inv X pins σ H { s with toks:=t }:=I.un (h':=s.heap) (t':=t) Un.refl I.hok
theorem Inv.kept {t':Nat} (I:Inv X pins σ H s) (k:∀ b u,s.heap.get? b=some u→h'.get? b=some u):Inv X pins σ H { s with heap:=h',toks:=t' }:=I.un (Un.kept k) (I.hok.kept k)
theorem Inv.laid {a:Addr}{o:HO}{t':Nat} (I:Inv X pins σ H s) (k:∀ b u,s.heap.get? b=some u→h'.get? b=some u) (hp:s.heap.objs.size≤a) (new:ObjOk X.prog X.w (upd H a o) h' a o) :
  Inv X pins σ (upd H a o) { s with heap:=h',toks:=t' }:=I.un (Un.laid k hp (I.hok.fresh hp)) (I.hok.laid k hp new)
theorem Inv.write {x e:Addr}{o:HO}{t':Nat} (I:Inv X pins σ H s) (mu:Mut (H x)) (he:e=x∨H e=some (.own x)) (k:∀ b u,b≠e→s.heap.get? b=some u→h'.get? b=some u) (heo:∃ u,h'.get? e=some u)
  (new:ObjOk X.prog X.w (upd H x o) h' x o):Inv X pins σ (upd H x o) { s with heap:=h',toks:=t' }:=I.un (Un.write mu he k heo) (I.hok.write mu he k heo new)
theorem Inv.pins_of {pins':List (Addr×Obj)} (I:Inv X pins σ H s) (h:∀ p∈pins',s.heap.get? p.1=some p.2∧H p.1=none∧p.1≠X.env.locals∧p.1∉X.fs∧∀ v,p.2.data≠.cell v):Inv X pins' σ H s :=
 ⟨I.ok,I.os,I.bare,I.base,I.loc,I.cell,I.free,I.freeC,fun p hp=>(List.mem_append.mp hp).elim (fun z=>I.pin p (Zr _ z)) (h p),I.hok,I.len⟩
theorem zGg {N:List Str} (hN:N.Nodup) {i j:Nat}{x:Str} (a:N[i]? = some x) (b:N[j]? = some x):i=j:=by
 obtain ⟨h1,e1⟩:=List.getElem?_eq_some_iff.mp a;obtain ⟨h2,e2⟩:=List.getElem?_eq_some_iff.mp b;exact (List.getElem_inj hN).mp (e1.trans e2.symm)
theorem store_ok2 {M:Model}{A:Around}{E:Value→Shared→Prop}{i:Nat}{x:Str}{v:V}{u:Value}{Q:Unit→Shared→Prop} (I:Inv X pins σ H s) (hN:X.N.Nodup) (hi:X.N[i]? = some x) (hx:Loc X.env.scope x) (r:RelV v u)
  (h:∀ s',Inv X pins (σ.set i (some v)) H s'→(∃ a,Heap.SameBut a s.heap s'.heap∧(a=X.env.locals∨X.env.cells.lookup x=some a))→Q () s') (hf:X.fn x=true∨X.env.scope.names.lookup x=some .local:=by first | exact .inl rfl | exact .inr rfl | assumption):wpAny M A (storeName X.env x u) Q E s:=by
 obtain ⟨m,hn,hl⟩:=id I.loc;have hcls:(X.env.scope.kind == .class || (X.env.scope.kind == .module && X.env.locals != X.env.globals))=false:=by rw [I.ok.kind];rfl
 have hiσ : i < σ.length:=by rw [I.len];exact (List.getElem?_eq_some_iff.mp hi).1
 have cne:=I.cne;have tracked:∀ {a:Addr}{h':Heap},(∃ o,s.heap.get? a=some o∧H a=none)→Heap.SameBut a s.heap h'→HOk X.prog X.w H h':=fun {a h'} ha hs b ob e=>by
  obtain ⟨_,_,hfree⟩:=ha;refine (I.hok b ob e).stay (fun c w' hc q=>(hs.2 c ?_).trans q) (fun _ q=>q) fun _ _ q=>q;rintro rfl;rcases hc with rfl | hc
  ·rw [hfree] at e;cases e
  ·rw [hfree] at hc;cases hc
 rcases hx with hk | hk
 ·refine wpAny_storeName_local hk hn (fun h' hn' hs=>?_) hcls;obtain ⟨oL,_,_,hoL,_⟩:=id hn;refine h _ ⟨I.ok,I.os,I.bare,⟨fun b o e n hb hx=>?_,fun b o e n hb hx=>?_,I.base.free,fun b o e hx=>?_,I.base.tups,I.base.frzs,I.base.tbls⟩,⟨_,hn',fun j y v' e1 e2 e3=>?_⟩,fun y c e=>?_,I.free,I.freeC,fun p hp=>?_,tracked ⟨oL,hoL,I.free⟩ hs,by simpa using I.len⟩ ⟨_,hs,.inl rfl⟩
  ·exact (hs.2 b (Zc (Z7 (Z8 e) I.ok.above))).trans (I.base.keep b o e n hb hx)
  ·obtain ⟨sl,e1⟩:=I.base.slot b o e n hb hx;exact ⟨sl,(hs.2 b (Zc (Z7 (Z8 e) I.ok.above))).trans e1⟩
  ·obtain ⟨o',e1⟩:=I.base.there b o e hx;exact ⟨o',(hs.2 b (Zc (Z7 (Z8 e) I.ok.above))).trans e1⟩
  ·by_cases hj:j=i
   ·subst hj;rw [hi] at e1;cases e1;rw [List.getElem?_set_self hiσ] at e2;cases e2;exact ⟨u,r,.inl ⟨hk,by simp⟩⟩
   ·rw [List.getElem?_set_ne (Ne.symm hj)] at e2;obtain ⟨u',r',q⟩:=hl j y v' e1 e2 e3;refine ⟨u',r',?_⟩;rcases q with ⟨k,e⟩ | ⟨k,c,e,z⟩
    ·refine .inl ⟨k,?_⟩;have:y≠x:=fun e=>hj (zGg hN e1 (e ▸ hi));simp [this,e]
    ·exact .inr ⟨k,c,e,z.sameBut hs (cne y c e)⟩
  ·obtain ⟨w',z⟩:=I.cell y c e;exact ⟨w',z.sameBut hs (cne y c e)⟩
  ·obtain ⟨e,n,ne,nf,d⟩:=I.pin p hp;exact ⟨(hs.2 p.1 ne).trans e,n,ne,nf,d⟩
 ·have hfn:X.fn x=true:=by
   rcases hf with z | z
   ·exact z
   ·rw [z] at hk;cases hk
  obtain ⟨c,hc⟩:=I.ok.has x (.inl hk);obtain ⟨w',z⟩:=I.cell x c hc;refine wpAny_storeName_cell I.ok.kind hk hc z (fun h' hc' hs=>?_);obtain ⟨oc,hoc,hocd⟩:=id z;refine h { s with heap:=h' } ⟨I.ok,I.os,I.bare,⟨fun b o e n hb hx=>?_,fun b o e n hb hx=>?_,I.base.free,fun b o e hx=>?_,I.base.tups,I.base.frzs,I.base.tbls⟩,⟨m,hn.sameBut hs (Ne.symm (cne x c hc)),fun j y v' e1 e2 e3=>?_⟩,fun y c' e=>?_,I.free,I.freeC,fun p hp=>?_,tracked ⟨oc,hoc,I.freeC x c hc⟩ hs,by simpa using I.len⟩ ⟨c,hs,.inr hc⟩
  ·exact (hs.2 b (Zc (Z7 (Z8 e) (I.ok.cab x c hfn hc)))).trans (I.base.keep b o e n hb hx)
  ·obtain ⟨sl,e1⟩:=I.base.slot b o e n hb hx;exact ⟨sl,(hs.2 b (Zc (Z7 (Z8 e) (I.ok.cab x c hfn hc)))).trans e1⟩
  ·obtain ⟨o',e1⟩:=I.base.there b o e hx;exact ⟨o',(hs.2 b (Zc (Z7 (Z8 e) (I.ok.cab x c hfn hc)))).trans e1⟩
  ·by_cases hj:j=i
   ·subst hj;rw [hi] at e1;cases e1;rw [List.getElem?_set_self hiσ] at e2;cases e2;exact ⟨u,r,.inr ⟨.inl hk,c,hc,hc'⟩⟩
   ·rw [List.getElem?_set_ne (Ne.symm hj)] at e2;obtain ⟨u',r',q⟩:=hl j y v' e1 e2 e3;refine ⟨u',r',?_⟩;rcases q with q | ⟨k,c',e,z'⟩
    ·exact .inl q
    ·refine .inr ⟨k,c',e,z'.sameBut hs ?_⟩;rintro rfl;exact hj (zGg hN e1 (I.ok.inj _ _ _ e hc ▸ hi))
  ·by_cases hcc:c'=c
   ·subst hcc;exact ⟨_,hc'⟩
   ·obtain ⟨w2,z2⟩:=I.cell y c' e;exact ⟨w2,z2.sameBut hs hcc⟩
  ·obtain ⟨e,n,ne,nf,d⟩:=I.pin p hp;refine ⟨(hs.2 p.1 ?_).trans e,n,ne,nf,d⟩;intro q;rw [q,hoc] at e;have q':oc=p.2:=Zi e;exact d w' (by rw [← q'];exact hocd)
theorem zFz {M:Model}{A:Around}{E:Value→Shared→Prop}{i:Nat}{x:Str}{v:V}{u:Value}{Q:Unit→Shared→Prop} (I:Inv X pins σ H s) (hN:X.N.Nodup) (hi:X.N[i]? = some x) (hx:Loc X.env.scope x) (r:RelV v u)
  (h:∀ s',Inv X pins (σ.set i (some v)) H s'→Q () s') (hf:X.fn x=true∨X.env.scope.names.lookup x=some .local:=by first | exact .inl rfl | exact .inr rfl | assumption):wpAny M A (storeName X.env x u) Q E s :=
 store_ok2 I hN hi hx r (fun s' I' _=>h s' I') hf
theorem Inv.call' {s':Shared}{ch:List Addr} (I:Inv X pins σ H s) (ho:s'.os=s.os) (u:Un (frs X.stack) ch H H' s.heap s'.heap) (hok:HOk X.prog X.w H' s'.heap) (hg:AllBare s'.gens)
  (hch:∀ b∈ch,(b∈X.ex∨X.s₀.heap.objs.size≤b)∧b≠X.env.locals∧(∀ x c,X.env.cells.lookup x=some c→c≠b)∧∀ p∈X.pn++pins,p.1≠b):Inv X pins σ H' s':=by
 obtain ⟨h',g',d',t',o'⟩:=s';have e:o'=s.os:=ho;subst e;exact I.call (g':=g') (t':=t') (d':=d') u hok hg hch
end
noncomputable abbrev XK:=Value→Option Addr→Hp→Prop
noncomputable abbrev St:=List (Option V)
noncomputable abbrev VK:=V→Hp→Prop
noncomputable abbrev TE:=St→Hp→VK→Prop
noncomputable abbrev TT:=St→Hp→(Bool→Hp→Prop)→Prop
noncomputable abbrev TA:=St→Hp→(List V→Hp→Prop)→Prop
structure Ends where
 nx:St→Hp→Prop
 rt:VK
 bk:St→Hp→Prop:=fun _ _=>False
 ct:St→Hp→Prop:=fun _ _=>False
noncomputable abbrev TS:=Ends→St→Hp→Prop
noncomputable def EP (X:Cx) (pins:List (Addr×Obj)) (σ : St) (Q:VK) (u:Value) (s':Shared):Prop:=∃ v H',Inv X pins σ H' s'∧RelV v u∧Q v H'
noncomputable def TP (X:Cx) (pins:List (Addr×Obj)) (σ : St) (Q:Bool→Hp→Prop) (b:Bool) (s':Shared):Prop:=∃ H',Inv X pins σ H' s'∧Q b H'
noncomputable def AP (X:Cx) (pins:List (Addr×Obj)) (σ : St) (Q:List V→Hp→Prop) (us:List Value) (s':Shared):Prop:=∃ vs H',Inv X pins σ H' s'∧Vals vs us∧Q vs H'
noncomputable def SP (X:Cx) (pins:List (Addr×Obj)) (D:Ends) (f:Flow) (s':Shared):Prop :=
 match f with
 | .next=>∃ σ' H',Inv X pins σ' H' s'∧D.nx σ' H'
 | .brk=>∃ σ' H',Inv X pins σ' H' s'∧D.bk σ' H'
 | .cont=>∃ σ' H',Inv X pins σ' H' s'∧D.ct σ' H'
 | .ret u=>∃ v σ' H',Inv X pins σ' H' s'∧RelV v u∧D.rt v H'
noncomputable def PE (X:Cx) (e:Expr) (t:TE):Prop :=
 ∀ (pins:List (Addr×Obj)) (s:Shared) (σ : St) (H:Hp) (Q:VK),Inv X pins σ H s→t σ H Q→wpAny (model X.prog X.w) X.A (eval e X.env) (EP X pins σ Q) X.xe s
noncomputable def PT (X:Cx) (e:Expr) (t:TT):Prop :=
 ∀ (pins:List (Addr×Obj)) (s:Shared) (σ : St) (H:Hp) (Q:Bool→Hp→Prop),Inv X pins σ H s→t σ H Q→wpAny (model X.prog X.w) X.A (isTrue e X.env (eval e X.env)) (TP X pins σ Q) X.xe s
noncomputable def PW (X:Cx) (e:Expr) (t:TT):Prop :=
 ∀ (whole:Sem Value) (pins:List (Addr×Obj)) (s:Shared) (σ : St) (H:Hp) (Q:Bool→Hp→Prop),Inv X pins σ H s→t σ H Q→wpAny (model X.prog X.w) X.A (isTrue e X.env whole) (TP X pins σ Q) X.xe s
theorem PW.pt {X:Cx}{e:Expr}{t:TT} (h:PW X e t):PT X e t:=h _
noncomputable def PA (X:Cx) (es:List Expr) (t:TA):Prop :=
 ∀ (pos:Pos) (pins:List (Addr×Obj)) (s:Shared) (σ : St) (H:Hp) (Q:List V→Hp→Prop),Inv X pins σ H s→t σ H Q→wpAny (model X.prog X.w) X.A (spliced (backTo pos (starEach es X.env))) (AP X pins σ Q) X.xe s
noncomputable def PS (X:Cx) (st:Stmt) (t:TS):Prop :=
 ∀ (pins:List (Addr×Obj)) (s:Shared) (σ : St) (H:Hp) (D:Ends),Inv X pins σ H s→t D σ H→wpAny (model X.prog X.w) X.A (exec st X.env) (SP X pins D) X.xe s
noncomputable def PSs (X:Cx) (st:List Stmt) (t:TS):Prop :=
 ∀ (pins:List (Addr×Obj)) (s:Shared) (σ : St) (H:Hp) (D:Ends),Inv X pins σ H s→t D σ H→wpAny (model X.prog X.w) X.A (execs st X.env) (SP X pins D) X.xe s
theorem thn {α : Type}{t:Sem α}{Q Q' : α→Shared→Prop}{M:Model}{A:Around}{E:Value→Shared→Prop}{s:Shared} (h:wpAny M A t Q E s) (hQ:∀ a s,Q a s→Q' a s):wpAny M A t Q' E s:=wpAny_mono h hQ fun _ _ x=>x
end L2
namespace L2
open PySem PySem.Spec PyProof.Rows
section
variable {X:Cx}
theorem bin {a b:Expr}{ta tb:TE} (ha:PE X a ta) (hb:PE X b tb) {pins:List (Addr×Obj)}{s:Shared}{σ : St}{H:Hp}{R:V→V→Hp→Prop} (I:Inv X pins σ H s) (h:ta σ H fun x H1=>tb σ H1 fun y H2=>R x y H2)
  {α : Type}{Q : α→Shared→Prop}{f:Value→Value→Sem α}
  (hf:∀ v u s2 x y H2,Inv X pins σ H2 s2→RelV x v→RelV y u→R x y H2→wpAny (model X.prog X.w) X.A (f v u) Q X.xe s2) :
  wpAny (model X.prog X.w) X.A (eval a X.env) (fun v s₁=>wpAny (model X.prog X.w) X.A (eval b X.env) (fun u s₂=>wpAny (model X.prog X.w) X.A (f v u) Q X.xe s₂) X.xe s₁) X.xe s:=by
 refine thn (ha pins s σ H _ I h) fun v s1 ⟨x,H1,I1,r1,q1⟩=>?_;refine thn (hb pins s1 σ H1 _ I1 q1) fun u s2 ⟨y,H2,I2,r2,q2⟩=>?_;exact hf v u s2 x y H2 I2 r1 r2 q2
noncomputable def tVar (i:Nat):TE:=fun σ H Q=>∃ v,σ[i]? = some (some v)∧Q v H
noncomputable def tC (v:V):TE:=fun _ H Q=>Q v H
theorem pe_var {i:Nat}{x:Str}{pos:Pos} (hN:X.N[i]? = some x) (hv:Vis X.env.scope x) (hd:(x == ("__debug__" : Str))=false:=by decide) (hcd:(x == ("__classdict__" : Str))=false:=by decide):PE X (.Name x pos) (tVar i):=by
 intro pins s σ H Q I h;obtain ⟨v,e,h⟩:=h;obtain ⟨m,hn,hl⟩:=I.loc;obtain ⟨u,r,l⟩:=hl i x v hN e hv;have fin:EP X pins σ Q u s:=⟨v,H,I,r,h⟩;rcases l with ⟨hk,hm⟩ | ⟨hk,c,hc,hcell⟩
 ·exact wpAny_Name (wpAny_loadName_local I.ok.kind hk hn hm fin) hd
 ·rcases hk with hk | hk
  ·exact wpAny_Name (wpAny_loadName_cell I.ok.kind hk hc hcell fin) hd
  ·exact wpAny_Name (wpAny_loadName_free I.ok.kind hk hc hcell fin hcd) hd
theorem zA4 {i j pos}:PE X (.Constant (.int i) j pos) (tC (.int i)):=fun _ _ _ H _ I h=>wpAny_Constant_int ⟨.int i,H,I.tok _,⟨_,rfl⟩,h⟩
theorem zBj {b j pos}:PE X (.Constant (.bool b) j pos) (tC (.bl b)):=fun _ _ _ H _ I h=>Constant_bool ⟨.bl b,H,I,rfl,h⟩
theorem zCc {j pos}:PE X (.Constant .none j pos) (tC .non):=fun _ _ _ H _ I h=>Constant_none ⟨.non,H,I,rfl,h⟩
theorem zAe {x j pos}:PE X (.Constant (.str x) j pos) (tC (.str x)):=fun _ _ _ H _ I h=>Calls.Constant_str ⟨.str x,H,I.tok _,⟨_,rfl⟩,h⟩
noncomputable def Gl (X:Cx) (x:Str):Prop:=X.env.kindOf x=some .globalImplicit
theorem zDt {E:Value→Shared→Prop}{pins:List (Addr×Obj)}{s:Shared}{σ : St}{H:Hp}{x:Str}{u:Value}{pos:Pos}{Q:Value→Shared→Prop} (I:Inv X pins σ H s) (hg:Gl X x) (hm:X.mg x=some u) (h:Q u s)
  (hd:(x == ("__debug__" : Str))=false:=by decide):wpAny (model X.prog X.w) X.A (eval (.Name x pos) X.env) Q E s :=
 Calls.Name_function_global I.ok.kind hg (Calls.loadGlobal_global (by rw [I.ok.glob];exact I.mod.glob.keeps I.bk) hm h) hd
theorem zEu {E:Value→Shared→Prop}{pins:List (Addr×Obj)}{s:Shared}{σ : St}{H:Hp}{x:Str}{u:Value}{pos:Pos}{Q:Value→Shared→Prop} (I:Inv X pins σ H s) (hg:Gl X x) (hm:X.mg x=none) (hv:bootBuiltins x=some u) (h:Q u s)
  (hn:x≠"__name__":=by decide) (hd:(x == ("__debug__" : Str))=false:=by decide):wpAny (model X.prog X.w) X.A (eval (.Name x pos) X.env) Q E s:=by
 obtain ⟨mb,h1,h2⟩:=I.mod.blt;exact Calls.Name_function_global I.ok.kind hg (Calls.loadGlobal_builtin (by rw [I.ok.glob];exact I.mod.glob.keeps I.bk) hm (by rw [I.ok.blt];exact h1.keeps I.bk) ((h2 x hn).trans hv) h) hd
theorem zBb {x:Str}{v:V}{u:Value}{pos:Pos} (hg:Gl X x) (hm:X.mg x=some u) (r:RelV v u) (hd:(x == ("__debug__" : Str))=false:=by decide):PE X (.Name x pos) (tC v) :=
 fun _ _ _ H _ I h=>zDt I hg hm ⟨v,H,I,r,h⟩ hd
theorem zBq {x:Str}{v:V}{u:Value}{pos:Pos} (hg:Gl X x) (hm:X.mg x=none) (hv:bootBuiltins x=some u) (r:RelV v u) (hn:x≠"__name__":=by decide) (hd:(x == ("__debug__" : Str))=false:=by decide):PE X (.Name x pos) (tC v) :=
 fun _ _ _ H _ I h=>zEu I hg hm hv ⟨v,H,I,r,h⟩ hn hd
variable {a b:Expr}{ta tb:TE}{pos:Pos}
noncomputable def PC (X:Cx) (op:CmpOp) (a b:Expr) (t:TE):Prop :=
 ∀ (pins:List (Addr×Obj)) (s:Shared) (σ : St) (H:Hp) (Q:VK),Inv X pins σ H s→t σ H Q →
  wpAny (model X.prog X.w) X.A (eval a X.env) (fun v s₁=>wpAny (model X.prog X.w) X.A (eval b X.env) (fun u s₂=>wpAny (model X.prog X.w) X.A (compareOp op v u) (EP X pins σ Q) X.xe s₂) X.xe s₁) X.xe s
theorem nobehind (b:Expr) {op:CmpOp} (h:op≠.In) (h2:op≠.NotIn):behindInMarks op b=false:=by
 have e1:(op == CmpOp.In)=false:=by cases op <;> first | rfl | exact absurd rfl h
 have e2:(op == CmpOp.NotIn)=false:=by cases op <;> first | rfl | exact absurd rfl h2
 cases b <;> simp [behindInMarks,e1,e2]
noncomputable def tIsN (ta:TE):TE:=fun σ H Q=>ta σ H fun x H1=>Q (.bl (decide (x=.non))) H1
noncomputable def tNotN (ta:TE):TE:=fun σ H Q=>ta σ H fun x H1=>Q (.bl (!decide (x=.non))) H1
theorem RelV.none_iff {x:V}{v:Value} (r:RelV x v):(v == Value.none)=decide (x=.non):=by
 cases x with
 | non=>cases r;rfl
 | bl _=>cases r;rfl
 | int _=>obtain ⟨t,rfl⟩:=r;rfl
 | str _=>obtain ⟨t,rfl⟩:=r;rfl
 | byt _=>obtain ⟨t,rfl⟩:=r;rfl
 | flt _=>obtain ⟨t,rfl⟩:=r;rfl
 | ref _=>cases r;rfl
 | ty _=>cases r;rfl
theorem zFk {j pos'} (ha:PE X a ta):PC X .Is a (.Constant .none j pos') (tIsN ta):=by
 intro pins s σ H Q I h;refine thn (ha pins s σ H _ I h) fun v s1 ⟨x,H1,I1,r1,q1⟩=>?_;exact Constant_none (is_none_gen ⟨.bl _,H1,I1,by rw [r1.none_iff];rfl,q1⟩)
theorem zDq {j pos'} (ha:PE X a ta):PC X .IsNot a (.Constant .none j pos') (tNotN ta):=by
 intro pins s σ H Q I h;refine thn (ha pins s σ H _ I h) fun v s1 ⟨x,H1,I1,r1,q1⟩=>?_;exact Constant_none (isnot_none_gen ⟨.bl _,H1,I1,by rw [r1.none_iff];rfl,q1⟩)
noncomputable def tB (t:TE):TT:=fun σ H Q=>t σ H fun x H1=>∃ c,x=.bl c∧Q c H1
theorem zBz {op:CmpOp}{t:TE} (h:PC X op a b t) (h1:behindInMarks op b=false:=by first | exact nobehind _ (by decide) (by decide) | rfl):PT X (.Compare a [op] [b] pos) (tB t):=by
 intro pins s σ H Q I hw;refine wpAny_isTrue_Compare1 (thn (h pins s σ H _ I hw) fun v s1 h1=>thn h1 fun u s2 h2=>thn h2 fun c s3 ⟨x,H1,I1,r1,q1⟩=>?_) h1;obtain ⟨d,rfl,q⟩:=q1;cases r1;exact wpAny_truthy_bool ⟨H1,I1,q⟩
theorem zB2 {e:Expr}{t:TE} (h:PE X e t) (he:∀ whole,isTrue e X.env whole=(do let v ← whole;standAt e.pos;holding [v] (truthy v)):=by intro _;rfl):PT X e (tB t):=by
 intro pins s σ H Q I hw;refine isTrue_plain (thn (h pins s σ H _ I hw) fun v s1 ⟨x,H1,I1,r1,q1⟩=>?_) (he _);obtain ⟨d,rfl,q⟩:=q1;cases r1;exact wpAny_truthy_bool ⟨H1,I1,q⟩
variable {tA tB':TT}{rest:List Expr}
noncomputable def tAnd (t u:TT):TT:=fun σ H Q=>t σ H fun c H1=>if c=true then u σ H1 Q else Q false H1
noncomputable def tOr (t u:TT):TT:=fun σ H Q=>t σ H fun c H1=>if c=true then Q true H1 else u σ H1 Q
noncomputable def tNot (t:TT):TT:=fun σ H Q=>t σ H fun c H1=>Q (!c) H1
theorem zD0 (ha:PT X a tA):PW X (.BoolOp .And [a] pos) tA:=by
 intro wh pins s σ H Q I h;refine isTrue_and (thn (ha pins s σ H Q I h) fun c s1 e=>?_);cases c with
 | true=>exact isTrue_and_nil e
 | false=>exact e
theorem zCw (ha:PT X a tA):PW X (.BoolOp .Or [a] pos) tA:=by
 intro wh pins s σ H Q I h;refine isTrue_or (thn (ha pins s σ H Q I h) fun c s1 e=>?_);cases c with
 | false=>exact isTrue_or_nil e
 | true=>exact e
theorem zEf (ha:PT X a tA) (hb:PW X (.BoolOp .And (b :: rest) pos) tB'):PW X (.BoolOp .And (a :: b :: rest) pos) (tAnd tA tB'):=by
 intro wh pins s σ H Q I h;refine isTrue_and (thn (ha pins s σ H _ I h) fun c s1 ⟨H1,I1,q1⟩=>?_);cases c with
 | true=>exact hb wh pins s1 σ H1 Q I1 q1
 | false=>exact ⟨H1,I1,q1⟩
theorem zF7 (ha:PT X a tA) (hb:PW X (.BoolOp .Or (b :: rest) pos) tB'):PW X (.BoolOp .Or (a :: b :: rest) pos) (tOr tA tB'):=by
 intro wh pins s σ H Q I h;refine isTrue_or (thn (ha pins s σ H _ I h) fun c s1 ⟨H1,I1,q1⟩=>?_);cases c with
 | true=>exact ⟨H1,I1,q1⟩
 | false=>exact hb wh pins s1 σ H1 Q I1 q1
theorem zB0 (ha:PT X a tA):PT X (.UnaryOp .Not a pos) (tNot tA):=by
 intro pins s σ H Q I h;exact isTrue_not (ha pins s σ H (fun c H1=>Q (!c) H1) I h)
noncomputable def tAndV (ta tb:TE):TE:=fun σ H Q=>ta σ H fun x H1=>∃ c,x=.bl c∧if c=true then tb σ H1 Q else Q (.bl false) H1
noncomputable def tNotV (ta:TE):TE:=fun σ H Q=>ta σ H fun x H1=>∃ c,x=.bl c∧Q (.bl (!c)) H1
theorem zEi {op}{t:TE} (h:PE X a t):PE X (.BoolOp op [a] pos) t:=fun pins s σ H Q I hw=>BoolOp_one (h pins s σ H Q I hw)
theorem zDd (ha:PE X a ta) (hb:PE X (.BoolOp .And (b :: rest) pos) tb):PE X (.BoolOp .And (a :: b :: rest) pos) (tAndV ta tb):=by
 intro pins s σ H Q I h;refine BoolOp_and (thn (ha pins s σ H _ I h) fun v s1 ⟨x,H1,I1,r1,q1⟩=>?_);obtain ⟨c,rfl,q1⟩:=q1;cases r1;refine wpAny_truthy_bool ?_;cases c with
 | true=>exact hb pins s1 σ H1 Q I1 q1
 | false=>exact ⟨.bl false,H1,I1,rfl,q1⟩
theorem pe_not (ha:PE X a ta):PE X (.UnaryOp .Not a pos) (tNotV ta):=by
 intro pins s σ H Q I h;refine UnaryOp_ (thn (ha pins s σ H _ I h) fun v s1 ⟨x,H1,I1,r1,q1⟩=>?_);obtain ⟨c,rfl,q1⟩:=q1;cases r1;exact not_of (wpAny_truthy_bool ⟨.bl (!c),H1,I1,rfl,q1⟩)
noncomputable def tIf (t:TT) (ta tb:TE):TE:=fun σ H Q=>t σ H fun c H1=>if c=true then ta σ H1 Q else tb σ H1 Q
theorem zG6 {c:Expr} (hc:PT X c tA) (ha:PE X a ta) (hb:PE X b tb):PE X (.IfExp c a b pos) (tIf tA ta tb):=by
 intro pins s σ H Q I h;refine wpAny_IfExp (thn (hc pins s σ H _ I h) fun d s1 ⟨H1,I1,q1⟩=>?_);cases d with
 | true=>exact ha pins s1 σ H1 Q I1 q1
 | false=>exact hb pins s1 σ H1 Q I1 q1
end
end L2
namespace L2
open PySem PySem.Spec PyProof.Rows
noncomputable def SqL (K:PySem.W.Frag) (H:Hp) (a:Addr) (xs:List V):Prop :=
 Rd H a (.lst xs) ∨
  ∃ (o:Obj) (its:Array Value) (n:Nat),K.lookup a=some o∧o.cls=.type "list"∧o.dict=none∧o.data=.seq its n∧its.size≤sizeLine∧Vals xs its.toList
noncomputable def SqT (K:PySem.W.Frag) (H:Hp) (a:Addr) (xs:List V):Prop :=
 Rd H a (.tup xs) ∨
  ∃ (o:Obj) (its:Array Value) (n:Nat),K.lookup a=some o∧o.cls=.type "tuple"∧o.data=.seq its n∧its.size≤sizeLine∧Vals xs its.toList
noncomputable def absV:Value→Option V
 | .none=>some .non
 | .bool b=>some (.bl b)
 | .int i _=>some (.int i)
 | .str x _=>some (.str x)
 | .bytes b _=>some (.byt b)
 | .float b _=>some (.flt b)
 | .ref a=>some (.ref a)
 | .type n=>some (.ty n)
 | _=>none
theorem RelV.abs {x:V}{u:Value} (r:RelV x u):absV u=some x:=by
 cases x with
 | non=>cases r;rfl
 | bl _=>cases r;rfl
 | int _=>obtain ⟨t,rfl⟩:=r;rfl
 | str _=>obtain ⟨t,rfl⟩:=r;rfl
 | byt _=>obtain ⟨t,rfl⟩:=r;rfl
 | flt _=>obtain ⟨t,rfl⟩:=r;rfl
 | ref _=>cases r;rfl
 | ty _=>cases r;rfl
theorem RelV.inj {x y:V}{u:Value} (r:RelV x u) (q:RelV y u):x=y:=Zi (r.abs.symm.trans q.abs)
theorem Vals.inj:∀ {xs ys:List V}{us:List Value},Vals xs us→Vals ys us→xs=ys
 | _,_,_,.nil,.nil=>rfl
 | _,_,_,.cons r t,.cons r' t'=>by rw [r.inj r',Vals.inj t t']
section
variable {X:Cx}{pins:List (Addr×Obj)}{σ : St}{H:Hp}{s:Shared}{a:Addr}{xs ys:List V}
theorem SqL.of {K:PySem.W.Frag} (h:H a=some (.lst xs)):SqL K H a xs:=.inl (.inl h)
theorem SqT.of {K:PySem.W.Frag} (h:H a=some (.tup xs)):SqT K H a xs:=.inl (.inl h)
theorem Inv.list (I:Inv X pins σ H s) (h:SqL X.K H a xs):∃ its:List Value,Vals xs its∧PlainL s.heap a its.toArray∧xs.length≤sizeLine:=by
 rcases h with h | ⟨o,its,n,hk,hc,hd,hs,hz,r⟩
 ·obtain ⟨z,its,n,r,e⟩:=h.ok I.hok;exact ⟨its,r,⟨_,n,e,rfl,rfl,rfl⟩,z⟩
 ·refine ⟨its.toList,r,⟨o,n,I.kIn a o hk,hc,hd,by simpa using hs⟩,?_⟩;have e:=r.length;simp only [Y4] at e;omega
theorem Inv.tuple (I:Inv X pins σ H s) (h:SqT X.K H a xs):∃ its:List Value,Vals xs its∧IsTup s.heap a its.toArray∧xs.length≤sizeLine:=by
 rcases h with h | ⟨o,its,n,hk,hc,hs,hz,r⟩
 ·obtain ⟨z,its,r,p⟩:=h.ok I.hok;exact ⟨its,r,p,z⟩
 ·refine ⟨its.toList,r,⟨o,I.kIn a o hk,hc,n,by simpa using hs⟩,?_⟩;have e:=r.length;simp only [Y4] at e;omega
theorem Inv.list_inj (I:Inv X pins σ H s) (h:SqL X.K H a xs) (h':SqL X.K H a ys):xs=ys:=by
 obtain ⟨its,r,⟨o,n,e,_,_,d⟩,_⟩:=I.list h;obtain ⟨its',r',⟨o',n',e',_,_,d'⟩,_⟩:=I.list h';rw [e] at e';cases e';rw [d] at d';injection d' with d1 _;have:its=its':=by simpa using congrArg Array.toList d1
 subst this;exact r.inj r'
end
noncomputable abbrev Cx.wish (X:Cx) (E:Value→Shared→Prop):Cx:={ X with xe:=E }
noncomputable abbrev Cx.nox (X:Cx):Cx:=X.wish fun _ _=>False
theorem Cx.Ok.wish {X:Cx} (ok:X.Ok) (E:Value→Shared→Prop):(X.wish E).Ok :=
 ⟨ok.mod,ok.kind,ok.glob,ok.blt,ok.above,ok.inj,ok.has,ok.cab,ok.hd,ok.frames,ok.stk,ok.exf,ok.bs,ok.bsz,ok.noex,ok.exfs,ok.funs,ok.frf⟩
theorem Cx.Ok.unwish {X:Cx}{E:Value→Shared→Prop} (ok:(X.wish E).Ok):X.Ok :=
 ⟨ok.mod,ok.kind,ok.glob,ok.blt,ok.above,ok.inj,ok.has,ok.cab,ok.hd,ok.frames,ok.stk,ok.exf,ok.bs,ok.bsz,ok.noex,ok.exfs,ok.funs,ok.frf⟩
section
variable {X:Cx}{pins:List (Addr×Obj)}{σ : St}{H:Hp}{s:Shared}{E:Value→Shared→Prop}
theorem Inv.wish (I:Inv X pins σ H s) (E:Value→Shared→Prop):Inv (X.wish E) pins σ H s:=⟨I.ok.wish E,I.os,I.bare,I.base,I.loc,I.cell,I.free,I.freeC,I.pin,I.hok,I.len⟩
theorem Inv.unwish (I:Inv (X.wish E) pins σ H s):Inv X pins σ H s:=⟨I.ok.unwish,I.os,I.bare,I.base,I.loc,I.cell,I.free,I.freeC,I.pin,I.hok,I.len⟩
theorem SP.unwish {D:Ends}{f:Flow}{s':Shared} (h:SP (X.wish E) pins D f s'):SP X pins D f s':=by
 cases f with
 | next=>obtain ⟨σ',H',I,q⟩:=h;exact ⟨σ',H',I.unwish,q⟩
 | brk=>obtain ⟨σ',H',I,q⟩:=h;exact ⟨σ',H',I.unwish,q⟩
 | cont=>obtain ⟨σ',H',I,q⟩:=h;exact ⟨σ',H',I.unwish,q⟩
 | ret u=>obtain ⟨v,σ',H',I,r,q⟩:=h;exact ⟨v,σ',H',I.unwish,r,q⟩
theorem PE.nox {e:Expr}{t:TE} (h:PE X.nox e t):PE X e t:=fun pins s σ H Q I hw =>
 wpAny_mono (h pins s σ H Q (I.wish _) hw) (fun _ _ ⟨v,H',I',r,q⟩=>⟨v,H',I'.unwish,r,q⟩) fun _ _ z=>False.elim z
theorem PT.nox {e:Expr}{t:TT} (h:PT X.nox e t):PT X e t:=fun pins s σ H Q I hw =>
 wpAny_mono (h pins s σ H Q (I.wish _) hw) (fun _ _ ⟨H',I',q⟩=>⟨H',I'.unwish,q⟩) fun _ _ z=>False.elim z
theorem PSs.nox {st:List Stmt}{t:TS} (h:PSs X.nox st t):PSs X st t:=fun pins s σ H D I hw =>
 wpAny_mono (h pins s σ H D (I.wish _) hw) (fun _ _ q=>q.unwish) fun _ _ z=>False.elim z
end
section
variable {X:Cx}{st:Stmt}{rest:List Stmt}{t u:TS}{e:Expr}{te:TE}{pos:Pos}
noncomputable def tNext:TS:=fun D σ H=>D.nx σ H
noncomputable def tSeq (t u:TS):TS:=fun D σ H=>t { D with nx:=u D } σ H
theorem zAg:PSs X [] tNext:=fun _ _ σ H _ I h=>wpAny_execs_nil ⟨σ,H,I,h⟩
theorem zA3 (h1:PS X st t) (h2:PSs X rest u):PSs X (st :: rest) (tSeq t u):=by
 intro pins s σ H D I h;refine wpAny_execs_cons (thn (h1 pins s σ H { D with nx:=u D } I h) fun f s1 q=>?_);cases f with
 | next =>
  obtain ⟨σ',H',I',q⟩:=q;exact h2 pins s1 σ' H' D I' q
 | ret v=>exact q
 | brk=>exact q
 | cont=>exact q
theorem zA6 (h1:PS X st t):PSs X [st] t:=by
 intro pins s σ H D I h;refine wpAny_execs_cons (thn (h1 pins s σ H D I h) fun f s1 q=>?_);cases f with
 | next=>exact wpAny_execs_nil q
 | ret v=>exact q
 | brk=>exact q
 | cont=>exact q
theorem Inv.quiet {pins:List (Addr×Obj)}{σ : St}{H:Hp}{s:Shared} (I:Inv X pins σ H s):interactive X.env=false:=by simp [interactive,I.ok.kind]
noncomputable def tDrop (te:TE):TS:=fun D σ H=>te σ H fun _ H1=>D.nx σ H1
theorem zDn (he:PE X e te) (hs:swapsWith e none pos.line X.env=pure false:=by rfl):PS X (.Expr e pos) (tDrop te):=by
 intro pins s σ H D I h;exact wpAny_Expr_any (thn (he pins s σ H _ I h) fun v s1 ⟨x,H1,I1,r1,q1⟩=>⟨σ,H1,I1,q1⟩) I.quiet hs
noncomputable def tRet (te:TE):TS:=fun D σ H=>te σ H D.rt
theorem zAj (he:PE X e te):PS X (.Return (some e) pos) (tRet te):=by
 intro pins s σ H D I h;exact wpAny_Return_some (thn (he pins s σ H _ I h) fun v s1 ⟨x,H1,I1,r1,q1⟩=>⟨x,σ,H1,I1,r1,q1⟩)
noncomputable def tIfS (c:TT) (t u:TS):TS:=fun D σ H=>c σ H fun b H1=>if b=true then t D σ H1 else u D σ H1
theorem zAw {c:Expr}{a b:List Stmt}{tc:TT} (hc:PT X c tc) (ha:PSs X a t) (hb:PSs X b u):PS X (.If c a b pos) (tIfS tc t u):=by
 intro pins s σ H D I h;refine wpAny_If (thn (hc pins s σ H _ I h) fun d s1 ⟨H1,I1,q1⟩=>?_);cases d with
 | true=>exact ha pins s1 σ H1 D I1 q1
 | false=>exact hb pins s1 σ H1 D I1 q1
noncomputable def tNever:TS:=fun _ _ _=>False
theorem zAq {sts:List Stmt}:PSs X sts tNever:=fun _ _ _ _ _ _ h=>h.elim
end
noncomputable abbrev TG:=V→St→Hp→(St→Hp→Prop)→Prop
noncomputable abbrev TGs:=List V→St→Hp→(St→Hp→Prop)→Prop
noncomputable def PG (X:Cx) (target:Expr) (t:TG):Prop :=
 ∀ (pins:List (Addr×Obj)) (s:Shared) (σ : St) (H:Hp) (v:V) (u:Value) (Q:St→Hp→Prop),Inv X pins σ H s→RelV v u→t v σ H Q →
  wpAny (model X.prog X.w) X.A (assign target X.env u) (fun _ s'=>∃ σ' H',Inv X pins σ' H' s'∧Q σ' H') X.xe s
noncomputable def PGs (X:Cx) (ts:List Expr) (t:TGs):Prop :=
 ∀ (pins:List (Addr×Obj)) (s:Shared) (σ : St) (H:Hp) (vs:List V) (us:List Value) (Q:St→Hp→Prop),Inv X pins σ H s→Vals vs us→t vs σ H Q →
  wpAny (model X.prog X.w) X.A (assignInOrder ((assignEach ts X.env).map (·.2)) us) (fun _ s'=>∃ σ' H',Inv X pins σ' H' s'∧Q σ' H') X.xe s
noncomputable abbrev TSet:=V→V→V→Hp→(Hp→Prop)→Prop
noncomputable def PSet (X:Cx) (t:TSet):Prop :=
 ∀ (pins:List (Addr×Obj)) (s:Shared) (σ : St) (H:Hp) (o i v:V) (ov iv u:Value) (Q:Hp→Prop),Inv X pins σ H s→RelV o ov→RelV i iv→RelV v u→t o i v H Q →
  wpAny (model X.prog X.w) X.A (setItem ov iv u) (fun _ s'=>∃ H',Inv X pins σ H' s'∧Q H') X.xe s
section
variable {X:Cx}{pos:Pos}
noncomputable def gName (i:Nat):TG:=fun v σ H Q=>Q (σ.set i (some v)) H
theorem zAc {i:Nat}{x:Str} (hN:X.N.Nodup) (hi:X.N[i]? = some x) (hx:Loc X.env.scope x) (hf:X.fn x=true∨X.env.scope.names.lookup x=some .local:=by first | exact .inl rfl | exact .inr rfl | assumption):PG X (.Name x pos) (gName i):=by
 intro pins s σ H v u Q I r h;exact wpAny_assign_Name (zFz I hN hi hx r (fun s' I'=>⟨_,H,I',h⟩) hf)
noncomputable def gNil:TGs:=fun vs σ H Q=>vs=[]∧Q σ H
noncomputable def gCons (t:TG) (u:TGs):TGs:=fun vs σ H Q=>∃ v r,vs=v :: r∧t v σ H fun σ' H'=>u r σ' H' Q
theorem zC1:PGs X [] gNil:=by
 intro pins s σ H vs us Q I r h;obtain ⟨e,h⟩:=h;subst e;cases r;exact assignInOrder_nil ⟨σ,H,I,h⟩
theorem zAm {e:Expr}{es:List Expr}{t:TG}{u:TGs} (h1:PG X e t) (h2:PGs X es u)
  (hs:(assignEach (e :: es) X.env).map (·.2)=assign e X.env :: (assignEach es X.env).map (·.2):=by rfl):PGs X (e :: es) (gCons t u):=by
 intro pins s σ H vs us Q I r h;obtain ⟨v,vr,e1,h⟩:=h;subst e1;cases r with
 | cons r rr =>
  rw [hs];refine assignInOrder_cons (thn (h1 pins s σ H _ _ _ I r h) fun _ s1 ⟨σ1,H1,I1,q1⟩=>?_);exact h2 pins s1 σ1 H1 _ _ Q I1 rr q1
noncomputable def gTup (K:PySem.W.Frag) (n:Nat) (t:TGs):TG:=fun v σ H Q=>∃ a xs,v=.ref a∧SqT K H a xs∧xs.length=n∧t xs σ H Q
theorem zDz {es:List Expr}{k:Nat}{t:TGs}{n:Nat} (hc:X.calm=true) (h:PGs X es t)
  (hn:(assignEach es X.env).length=n:=by rfl) (hst:(assignEach es X.env).findIdx? (·.1)=none:=by rfl):PG X (.Tuple es k pos) (gTup X.K n t):=by
 intro pins s σ H v u Q I r hw;obtain ⟨a,xs,e1,hq,hl,hw⟩:=hw;subst e1;cases r;obtain ⟨its,rv,ht,hz⟩:=I.tuple hq;refine assign_Tuple_tuple (I.ok.hd hc) ht (by simp [hn,← hl,rv.length]) hst fun h' hx=>?_;have I1:Inv X pins σ H { s with heap:=h' }:=I.kept (t':=s.toks) fun b o e=>hx b o (Zc (Z8 e)) e;exact h pins _ σ H xs _ Q I1 (by simpa using rv) hw
noncomputable def gSub (to ti:TE) (t:TSet):TG:=fun v σ H Q=>to σ H fun o H1=>ti σ H1 fun i H2=>t o i v H2 fun H3=>Q σ H3
theorem pg_sub {o i:Expr}{to ti:TE}{t:TSet} (ho:PE X o to) (hi:PE X i ti) (hs:PSet X t)
  (ha:∀ v,assign (.Subscript o i pos) X.env v=(do
   let ov ← holding [v] (eval o X.env)
   let iv ← holding [v,ov] (eval i X.env)
   standAt pos
   holding [v,ov,iv] (setItem ov iv v)
   release [v,ov,iv] []):=by intro _;rfl):PG X (.Subscript o i pos) (gSub to ti t):=by
 intro pins s σ H v u Q I r h;rw [ha];refine wpAny_bind (wpAny_holding (thn (ho pins s σ H _ I h) fun ov s1 ⟨x,H1,I1,r1,q1⟩=>?_));refine wpAny_bind (wpAny_holding (thn (hi pins s1 σ H1 _ I1 q1) fun iv s2 ⟨y,H2,I2,r2,q2⟩=>?_));refine wpAny_bind (wpAny_standAt (wpAny_bind (wpAny_holding (thn (hs pins s2 σ H2 x y v ov iv u _ I2 r1 r2 r q2) fun _ s3 ⟨H3,I3,q3⟩=>?_))));exact wpAny_release ⟨σ,H3,I3,q3⟩
noncomputable def tAsg (te:TE) (g:TG):TS:=fun D σ H=>te σ H fun x H1=>g x σ H1 D.nx
theorem zEg {tg e:Expr}{te:TE}{g:TG} (he:PE X e te) (hg:PG X tg g) (hs:swapsWithSole [tg] e pos.line X.env=pure false:=by rfl) (hw:swappedStores [tg] e X.env=pure none:=by rfl)
  (h1:(assignEach [tg] X.env).map (·.2)=[assign tg X.env]:=by rfl):PS X (.Assign [tg] e pos) (tAsg te g):=by
 intro pins s σ H D I h;refine wpAny_Assign_stores (thn (he pins s σ H _ I h) fun v s1 ⟨x,H1,I1,r1,q1⟩=>?_) hs hw;rw [h1];exact thn (hg pins s1 σ H1 x v _ I1 r1 q1) fun _ s2 q=>q
theorem zAb {i:Nat}{x:Str}{e:Expr}{te:TE}{pos':Pos} (hN:X.N.Nodup) (hi:X.N[i]? = some x) (hx:Loc X.env.scope x) (he:PE X e te) (hs:swapsWith e (some (.Name x pos')) pos.line X.env=pure false:=by rfl) (hf:X.fn x=true∨X.env.scope.names.lookup x=some .local:=by first | exact .inl rfl | exact .inr rfl | assumption) :
  PS X (.Assign [.Name x pos'] e pos) (tAsg te (gName i)):=by
 intro pins s σ H D I h;refine wpAny_Assign_Name (thn (he pins s σ H _ I h) fun v s1 ⟨y,H1,I1,r1,q1⟩=>?_) hs;exact zFz I1 hN hi hx r1 (fun s2 I2=>⟨_,H1,I2,q1⟩) hf
end
section
variable {X:Cx}{pos:Pos}
noncomputable def tWhile (c:TT) (tb:TS):TS:=fun D σ H=>∃ W:Nat→St→Hp→Prop,(∃ m,W m σ H)∧∀ m σ H,W m σ H →
 c σ H fun b H1=>if b=true then ∃ N:St→Hp→Prop,(∀ σ' H',N σ' H'→∃ m',m' < m∧W m' σ' H')∧tb { D with nx:=N,ct:=N,bk:=D.nx } σ H1 else D.nx σ H1
theorem zE3 {c:Expr}{body:List Stmt}{tc:TT}{tb:TS} (hp:PassesOwn (model X.prog X.w) X.A X.env X.xe) (hc:PT X c tc) (hb:PSs X body tb):PS X (.While c body [] pos) (tWhile tc tb):=by
 intro pins s σ H D I h;obtain ⟨W,⟨m0,w0⟩,turn⟩:=h;refine wpAny_While (codeAny_whileLoop (fun n s'=>∃ σ' H',Inv X pins σ' H' s'∧W n σ' H') ?_ m0 ⟨σ,H,I,w0⟩);rintro n s1 ⟨σ1,H1,I1,w1⟩;refine wpAny_passesOwn hp (thn (hc pins s1 σ1 H1 _ I1 (turn n σ1 H1 w1)) fun b s2 ⟨H2,I2,q2⟩=>?_);cases b with
 | true =>
  obtain ⟨N,hN,q2⟩:=q2;rw [if_pos rfl];refine wpAny_passesOwn hp (thn (hb pins s2 σ1 H2 _ I2 q2) fun f s3 q3=>?_);cases f with
  | next =>
   obtain ⟨σ3,H3,I3,n3⟩:=q3;obtain ⟨m',hm,w3⟩:=hN σ3 H3 n3;exact ⟨m',hm,σ3,H3,I3,w3⟩
  | cont =>
   obtain ⟨σ3,H3,I3,n3⟩:=q3;obtain ⟨m',hm,w3⟩:=hN σ3 H3 n3;exact ⟨m',hm,σ3,H3,I3,w3⟩
  | brk=>exact q3
  | ret v=>exact q3
 | false =>
  rw [if_neg Zn];exact wpAny_execs_nil ⟨σ1,H2,I2,q2⟩
end
structure It where
 go:Nat→Hp→Prop
 yld:Nat→Hp→V→Hp→Prop
 stop:Nat→Hp→Prop
noncomputable def FpOk (X:Cx) (pins:List (Addr×Obj)) (H:Hp) (b:Addr):Prop :=
 H b=none∧b≠X.env.locals∧b∉X.fs∧(b∈X.ex∨X.s₀.heap.objs.size≤b)∧(∀ x c,X.env.cells.lookup x=some c→c≠b)∧∀ p∈X.pn++pins,p.1≠b
theorem Inv.fpOk {X:Cx}{pins:List (Addr×Obj)}{σ : St}{H H':Hp}{s:Shared}{b:Addr} (I:Inv X pins σ H s) (hb:s.heap.objs.size≤b) (hn:H' b=none):FpOk X pins H' b:=by
 refine ⟨hn,Yp (Z7 I.lt hb),I.nofs hb,.inr (Zd I.sz hb),fun x c e z=>?_,fun p hp z=>?_⟩
 ·obtain ⟨v,q⟩:=I.cell x c e;exact absurd (Z7 q.lt (by rw [z];exact hb)) (Y5 _)
 ·exact absurd (Z7 (Z8 (I.pin p hp).1) (by rw [z];exact hb)) (Y5 _)
structure Turn (P:Program) (w:World) (K:PySem.W.Frag) (tg:Expr) (J:It) (fp:List Addr) (it:Addr) (tn:Nat→Heap→Prop):Prop where
 mem:it∈fp
 obj:∀ i h,tn i h→∀ b∈fp,∃ o,h.get? b=some o∧∀ v,o.data≠.cell v
 keep:∀ i h h',tn i h→(∀ b∈fp,∀ o,h.get? b=some o→h'.get? b=some o)→tn i h'
 item:∀ (X:Cx),X.prog=P→X.w=w→X.K=K→X.calm=true→∀ (i:Nat) (pins:List (Addr×Obj)) (s:Shared) (σ : St) (H:Hp) (E:Value→Shared→Prop),Inv X pins σ H s→(∀ b∈fp,FpOk X pins H b)→tn i s.heap→J.go i H →
  wpAny (model P w) X.A (pyNext (.ref it)) (fun r s1=>∃ u,r=some u ∧
   wpAny (model P w) X.A (letOwnedTupleGo tg (.ref it) u) (fun _ s2=>∃ x H',Inv X pins σ H' s2∧RelV x u∧J.yld i H x H'∧tn (i + 1) s2.heap∧∀ b∈fp,H' b=none) E s1) E s
 done:∀ (X:Cx),X.prog=P→X.w=w→X.K=K→X.calm=true→∀ (i:Nat) (pins:List (Addr×Obj)) (s:Shared) (σ : St) (H:Hp) (E:Value→Shared→Prop),Inv X pins σ H s→(∀ b∈fp,FpOk X pins H b)→tn i s.heap→J.stop i H →
  wpAny (model P w) X.A (pyNext (.ref it)) (fun r s1=>r=none∧Inv X pins σ H s1) E s
 self:∀ (A:Around) (i:Nat) (s:Shared) (Q:Value→Shared→Prop) (E:Value→Shared→Prop),tn i s.heap→Q (.ref it) s→wpAny (model P w) A (pyIter (.ref it)) Q E s
noncomputable abbrev TI:=St→Hp→(It→Hp→Prop)→Prop
noncomputable def PIE (X:Cx) (pins:List (Addr×Obj)) (σ : St) (tg:Expr) (R:It→Hp→Prop) (itv:Value) (s2:Shared):Prop :=
 ∃ (it:Addr) (fp:List Addr) (tn:Nat→Heap→Prop) (J:It) (H':Hp),itv=.ref it∧Inv X pins σ H' s2∧Turn X.prog X.w X.K tg J fp it tn∧tn 0 s2.heap∧(∀ b∈fp,FpOk X pins H' b)∧R J H'
noncomputable def PI (X:Cx) (tg iter:Expr) (wi:TI):Prop :=
 ∀ (pins:List (Addr×Obj)) (s:Shared) (σ : St) (H:Hp) (R:It→Hp→Prop),Inv X pins σ H s→wi σ H R →
  wpAny (model X.prog X.w) X.A (eval iter X.env) (fun v s1=>wpAny (model X.prog X.w) X.A (pyIter v) (PIE X pins σ tg R) X.xe s1) X.xe s
theorem go_of {M:Model}{A:Around}{E:Value→Shared→Prop}{s:Shared}{tg:Expr}{it:Addr}{u:Value}{o:Obj}{n:String}{vs:Array Value}{Q:Unit→Shared→Prop} (ho:s.heap.get? it=some o) (hc:o.cls=.type n) (hd:o.data=.fields vs)
  (hn:["enumerate", "zip", "dict_itemiterator", "dict_reverseitemiterator", "odict_iterator", "itertools.zip_longest", "itertools.pairwise"].contains n=false) (hQ:Q () s):wpAny M A (letOwnedTupleGo tg (.ref it) u) Q E s:=by
 unfold letOwnedTupleGo
 cases tg <;> first
  | exact wpAny_pure hQ
  | (cases u <;> first
    | exact wpAny_pure hQ
    | (refine wpAny_bind (wpAny_load ho ?_)
       rw [hc,hd];show wpAny M A (if (["enumerate", "zip", "dict_itemiterator", "dict_reverseitemiterator", "odict_iterator", "itertools.zip_longest", "itertools.pairwise"].contains n && vs[0]? == some (rawInt _))=true then _ else _) Q E s;rw [if_neg (by intro h;rw [hn,Bool.false_and] at h;cases h)]
       exact wpAny_pure hQ))
noncomputable def Itl (K:PySem.W.Frag) (a:Addr):It :=
 ⟨fun i H=>∃ xs x,SqL K H a xs∧xs[i]? = some x,fun i H x H'=>H'=H∧∀ xs,SqL K H a xs→xs[i]? = some x,fun i H=>∃ xs,SqL K H a xs∧xs.length≤i⟩
noncomputable def Itr (lo:Int) (n:Nat):It:=⟨fun i _=>i < n,fun i H x H'=>H'=H∧x=.int (lo + i),fun i _=>n≤i⟩
theorem turn_list {P:Program}{w:World}{K:PySem.W.Frag}{tg:Expr} (a it:Addr):Turn P w K tg (Itl K a) [it] it (fun i h=>h.IsListIter it a i) where
 mem:=by simp
 obj:=fun i h st b hb=>by
  have e:b=it:=by simpa using hb
  subst e;obtain ⟨o,e,c,d⟩:=st;exact ⟨o,e,fun v z=>by rw [d] at z;cases z⟩
 keep:=fun i h h' st k=>st.at fun o e=>k it (by simp) o e
 item:=by
  intro X hP hw hK hc i pins s σ H E I hf st hg;subst hP hw hK;obtain ⟨xs,x,hq,hx⟩:=hg;obtain ⟨its,rv,p,hz⟩:=I.list hq;obtain ⟨u,hu,ru⟩:=rv.get hx;obtain ⟨f0,f1,f2,f3,f4,f5⟩:=hf it (by simp);refine wpAny_pyNext_list_item st p.isList (x:=u) (by simpa using hu) fun h' st' sb=>?_;have I1:Inv X pins σ H { s with heap:=h' }:=I.turned (t':=s.toks) (fun b o hb e=>(sb.2 b hb).trans e) f0 f1 f3 f4 f5;obtain ⟨o,e,c,d⟩:=id st';exact ⟨u,rfl,go_of (s:={ s with heap:=h' }) e c d (by decide) ⟨x,H,I1,ru,⟨rfl,fun ys hy=>by rw [I.list_inj hy hq];exact hx⟩,st',fun b hb=>(hf b hb).1⟩⟩
 done:=by
  intro X hP hw hK hc i pins s σ H E I hf st hg;subst hP hw hK;obtain ⟨xs,hq,hx⟩:=hg;obtain ⟨its,rv,p,hz⟩:=I.list hq;obtain ⟨f0,f1,f2,f3,f4,f5⟩:=hf it (by simp);have hl:=rv.length;exact wpAny_pyNext_list_end (I.ok.hd hc) st p.isList (by simp;omega) fun h' eb=>⟨rfl,I.turned (t':=s.toks) (fun b o hb e=>eb b o hb e) f0 f1 f3 f4 f5⟩
 self:=fun _ _ _ _ _ st h=>wpAny_pyIter_listiter st h
theorem turn_range {P:Program}{w:World}{K:PySem.W.Frag}{tg:Expr} (it:Addr) (lo:Int) (n:Nat):Turn P w K tg (Itr lo n) [it] it (fun i h=>IsRangeIter h it (lo + (i:Nat) * 1) ((n:Int) - (i:Nat)) 1) where
 mem:=by simp
 obj:=fun i h st b hb=>by
  have e:b=it:=by simpa using hb
  subst e
  exact ⟨_,st,fun v z=>by
   have z':Data.fields _=Data.cell v:=z
   cases z'⟩
 keep:=fun i h h' st k=>k it (by simp) _ st
 item:=by
  intro X hP hw hK hc i pins s σ H E I hf st hg;subst hP hw hK;obtain ⟨f0,f1,f2,f3,f4,f5⟩:=hf it (by simp);have W:=Walks.range (prog:=X.prog) (w:=X.w) (I.ok.hd hc) it lo 1 n;refine W.item i s _ _ hg st fun v h' tk hv st' kk=>?_;obtain ⟨t,rfl⟩:=hv;have I1:Inv X pins σ H { s with heap:=h',toks:=tk }:=I.turned (fun b o hb e=>kk b o (by simpa using hb) e) f0 f1 f3 f4 f5;refine ⟨_,rfl,go_of (s:={ s with heap:=h',toks:=tk }) (n:="range_iterator") st' rfl rfl (by decide) ⟨.int (lo + i),H,I1,⟨t,?_⟩,⟨rfl,rfl⟩,st',fun b hb=>(hf b hb).1⟩⟩;rw [Int.mul_one]
 done:=by
  intro X hP hw hK hc i pins s σ H E I hf st hg;subst hP hw hK;obtain ⟨f0,f1,f2,f3,f4,f5⟩:=hf it (by simp);exact wpAny_pyNext_range_end (I.ok.hd hc) st (by have:n≤i:=hg;omega) fun h' eb=>⟨rfl,I.turned (t':=s.toks) (fun b o hb e=>eb b o hb e) f0 f1 f3 f4 f5⟩
 self:=fun _ _ _ _ _ st h=>wpAny_pyIter_rangeiter st h
end L2
namespace L2
open PySem PySem.Spec PyProof.Rows
section
variable {X:Cx}{tg:Expr}
noncomputable def iList (K:PySem.W.Frag) (tl:TE):TI:=fun σ H R=>tl σ H fun x H1=>∃ a,x=.ref a∧(∃ xs,SqL K H1 a xs)∧R (Itl K a) H1
theorem zAn {l:Expr}{tl:TE} (hl:PE X l tl):PI X tg l (iList X.K tl):=by
 intro pins s σ H R I h;refine thn (hl pins s σ H _ I h) fun v s1 ⟨x,H1,I1,r1,q1⟩=>?_;obtain ⟨a,e,⟨xs,hq⟩,q⟩:=q1;subst e;cases r1;obtain ⟨its,rv,p,hz⟩:=I1.list hq;refine wpAny_pyIter_list p.isList ?_;refine ⟨s1.heap.objs.size,[s1.heap.objs.size],_,_,H1,rfl,I1.kept (t':=s1.toks) fun b o e=>Z2 _ e,turn_list a _,⟨_,Zg _ rfl,rfl,rfl⟩,fun b hb=>?_,q⟩;have e:b=s1.heap.objs.size:=by simpa using hb
 subst e;exact I1.fpOk (Z5 _) (I1.hok.fresh (Z5 _))
theorem range_it {pins:List (Addr×Obj)}{σ : St}{H:Hp}{s:Shared}{R:It→Hp→Prop}{E:Value→Shared→Prop}{lo hi:Int}{t u v:Tok}{tk:Nat} (I:Inv X pins σ H s) (h1 : -(2 ^ 62)≤lo) (h2:lo < 2 ^ 62) (h3 : -(2 ^ 62)≤hi) (h4:hi < 2 ^ 62)
  (q:R (Itr lo (hi - lo).toNat) H):wpAny (model X.prog X.w) X.A (pyIter (.ref s.heap.objs.size)) (PIE X pins σ tg R) E { s with heap:=s.heap.push { cls:=.type "range",data:=.fields #[.int lo t,.int hi u,.int 1 v] },toks:=tk }:=by
 refine wpAny_pyIter_range (IsRange.new ..) (small_one h1 h2 h3 h4) ?_;have I1:Inv X pins σ H { s with heap:=s.heap.push { cls:=.type "range",data:=.fields #[.int lo t,.int hi u,.int 1 v] },toks:=tk }:=I.kept fun b o e=>Z2 _ e
 refine ⟨(s.heap.push { cls:=.type "range",data:=.fields #[.int lo t,.int hi u,.int 1 v] }).objs.size,[(s.heap.push { cls:=.type "range",data:=.fields #[.int lo t,.int hi u,.int 1 v] }).objs.size],_,_,H,rfl,
  I1.kept (t':=tk) fun b o e=>Z2 _ e,turn_range _ lo (hi - lo).toNat,?_,fun b hb=>?_,q⟩
 ·have e1:lo + ((0:Nat):Int) * 1=lo:=by simp
  have e2:(((hi - lo).toNat:Nat):Int) - ((0:Nat):Int)=Builtin.Range.rangeSize lo hi 1:=by rw [rangeSize_one];split <;> omega
  show IsRangeIter _ _ (lo + ((0:Nat):Int) * 1) ((((hi - lo).toNat:Nat):Int) - ((0:Nat):Int)) 1;rw [e1,e2];exact Zg _ rfl
 ·have e:b=(s.heap.push { cls:=.type "range",data:=.fields #[.int lo t,.int hi u,.int 1 v] }).objs.size:=by simpa using hb
  subst e;exact I1.fpOk (Z5 _) (I1.hok.fresh (Z5 _))
noncomputable def iRng1 (ta:TA):TI:=fun σ H R=>ta σ H fun vs H1=>∃ j:Int,vs=[.int j]∧-(2 ^ 62)≤j∧j < 2 ^ 62∧R (Itr 0 j.toNat) H1
theorem zDc {a:Expr}{ta:TA}{p pos:Pos} (hg:Gl X "range") (hm:X.mg "range" = none) (ha:PA X [a] ta) (hs:starEach [a] X.env=[(false,eval a X.env)]:=by rfl):PI X tg (.Call (.Name "range" p) [a] [] pos) (iRng1 ta):=by
 intro pins s σ H R I h;refine Call_ (zEu I hg hm boot_range (PyProof.Rows.callWith_type1 (thn (ha pos pins s σ H _ I h) fun us s1 ⟨vs,H1,I1,r1,q1⟩=>?_) hs rfl));obtain ⟨j,e,q1,q2,q⟩:=q1;subst e;cases r1 with
 | cons r rr =>
  cases rr;obtain ⟨t,rfl⟩:=r;exact call_range_1 (range_it I1 (by omega) (by omega) q1 q2 (by simpa using q))
noncomputable def tFor (wi:TI) (g:TG) (tb:TS):TS:=fun D σ H=>wi σ H fun J H1=>∃ W:Nat→Nat→St→Hp→Prop,(∃ m,W 0 m σ H1)∧∀ i m σ H,W i m σ H →
 (J.stop i H∧D.nx σ H)∨(J.go i H∧∃ N:St→Hp→Prop,(∀ σ' H',N σ' H'→∃ m',m' < m∧W (i + 1) m' σ' H')∧∀ x H',J.yld i H x H'→g x σ H' fun σ2 H2=>tb { D with nx:=N,ct:=N,bk:=D.nx } σ2 H2)
noncomputable def pinsAt (fp:List Addr) (h:Heap):List (Addr×Obj):=fp.filterMap fun b=>(h.get? b).map fun o=>(b,o)
theorem zDs {fp:List Addr}{h:Heap}{b:Addr}{o:Obj} (hb:b∈fp) (e:h.get? b=some o):(b,o)∈pinsAt fp h:=List.mem_filterMap.mpr ⟨b,hb,by rw [e];rfl⟩
theorem of_pinsAt {fp:List Addr}{h:Heap}{p:Addr×Obj} (hp:p∈pinsAt fp h):p.1∈fp∧h.get? p.1=some p.2:=by
 obtain ⟨b,hb,e⟩:=List.mem_filterMap.mp hp;cases q:h.get? b with
 | none=>rw [q] at e;cases e
 | some o =>
  rw [q] at e;have e':(b,o)=p:=Zi e;subst e';exact ⟨hb,q⟩
theorem Inv.pinned {pins:List (Addr×Obj)}{σ : St}{H:Hp}{s:Shared}{fp:List Addr} (I:Inv X pins σ H s) (hf:∀ b∈fp,FpOk X pins H b) (ho:∀ b∈fp,∃ o,s.heap.get? b=some o∧∀ v,o.data≠.cell v):Inv X (pins++pinsAt fp s.heap) σ H s :=
 I.pins_of fun p hp=>(List.mem_append.mp hp).elim (fun z=>I.pin p (Zq _ z)) fun z=>by
  obtain ⟨hb,e⟩:=of_pinsAt z;obtain ⟨f0,f1,f2,_⟩:=hf p.1 hb;obtain ⟨o,e',d⟩:=ho p.1 hb;rw [e] at e';cases e';exact ⟨e,f0,f1,f2,d⟩
theorem Inv.unpinned {pins pl:List (Addr×Obj)}{σ : St}{H:Hp}{s:Shared} (I:Inv X (pins++pl) σ H s):Inv X pins σ H s:=I.pins_of fun p hp=>I.pin p (Zq _ (Zr _ hp))
theorem zDa {iter:Expr}{body:List Stmt}{wi:TI}{g:TG}{tb:TS}{pos:Pos} (hp:PassesOwn (model X.prog X.w) X.A X.env X.xe) (hc:X.calm=true) (hi:PI X tg iter wi) (hg:PG X tg g) (hb:PSs X body tb)
  (hs:∀ x,foldedSetIterable iter X.env x=pure x:=by intro _;rfl):PS X (.For tg iter body [] pos) (tFor wi g tb):=by
 intro pins s σ H D I h;refine wpAny_For (thn (hi pins s σ H _ I h) fun v s1 h1=>thn h1 fun itv s2 h2=>?_) hs;obtain ⟨it,fp,tn,J,H2,e,I2,T,st2,f2,W,⟨m0,w0⟩,turn⟩:=h2;subst e;have stat:∀ {H':Hp},(∀ b∈fp,H' b=none)→∀ b∈fp,FpOk X pins H' b:=fun hn b hb=>⟨hn b hb,(f2 b hb).2⟩;refine codeAny_forLoop_any (fun n s'=>∃ i σ' H',Inv X pins σ' H' s'∧tn i s'.heap∧(∀ b∈fp,H' b=none)∧W i n σ' H') ?_ m0 ⟨0,σ,H2,I2,st2,fun b hb=>(f2 b hb).1,w0⟩;rintro n s3 ⟨i,σ3,H3,I3,st3,fr3,w3⟩;rcases turn i n σ3 H3 w3 with ⟨stop,qn⟩ | ⟨go,N,hN,step⟩
 ·refine wpAny_passesOwn hp (thn (T.done X rfl rfl rfl hc i pins s3 σ3 H3 X.xe I3 (stat fr3) st3 stop) fun r s4 ⟨hr,I4⟩=>?_);subst hr;exact wpAny_execs_nil ⟨σ3,H3,I4,qn⟩
 ·refine wpAny_passesOwn hp (thn (T.item X rfl rfl rfl hc i pins s3 σ3 H3 X.xe I3 (stat fr3) st3 go) fun r s4 ⟨u,hr,h4⟩=>?_);subst hr;refine wpAny_passesOwn hp (thn h4 fun _ s5 ⟨x,H5,I5,r5,y5,st5,fr5⟩=>?_);have I5':=I5.pinned (stat fr5) (T.obj _ _ st5);refine wpAny_passesOwn hp (thn (hg _ s5 σ3 H5 x u _ I5' r5 (step x H5 y5)) fun _ s6 ⟨σ6,H6,I6,q6⟩=>?_);refine wpAny_passesOwn hp (thn (hb _ s6 σ6 H6 _ I6 q6) fun f s7 q7=>?_);have again:∀ {σ7:St}{H7:Hp},Inv X (pins++pinsAt fp s5.heap) σ7 H7 s7→N σ7 H7→∃ m,m < n∧∃ i σ' H',Inv X pins σ' H' s7∧tn i s7.heap∧(∀ b∈fp,H' b=none)∧W i m σ' H':=fun {σ7 H7} I7 n7=>by
   obtain ⟨m',hm,w7⟩:=hN σ7 H7 n7;refine ⟨m',hm,i + 1,σ7,H7,I7.unpinned,T.keep _ _ _ st5 fun b hb o e=>(I7.pin (b,o) (Zq _ (Zq _ (zDs hb e)))).1,fun b hb=>?_,w7⟩;obtain ⟨o,e,d⟩:=T.obj _ _ st5 b hb;exact (I7.pin (b,o) (Zq _ (Zq _ (zDs hb e)))).2.1
  cases f with
  | next=>obtain ⟨σ7,H7,I7,n7⟩:=q7;exact again I7 n7
  | cont=>obtain ⟨σ7,H7,I7,n7⟩:=q7;exact again I7 n7
  | brk=>obtain ⟨σ7,H7,I7,q7⟩:=q7;exact ⟨σ7,H7,I7.unpinned,q7⟩
  | ret v=>obtain ⟨x7,σ7,H7,I7,r7,q7⟩:=q7;exact ⟨x7,σ7,H7,I7.unpinned,r7,q7⟩
end
theorem zDh {K:PySem.W.Frag}{a:Addr}{xs:List V}{g:TG}{tb:TS}{D:Ends}{σ : St}{H:Hp} (Pv:Nat→St→Hp→Prop) (h0:Pv 0 σ H) (hl:∀ i σ H,i≤xs.length→Pv i σ H→SqL K H a xs)
  (hs:∀ i x σ H,xs[i]? = some x→Pv i σ H→g x σ H fun σ2 H2=>tb { D with nx:=Pv (i + 1),ct:=Pv (i + 1),bk:=D.nx } σ2 H2) (hd:∀ σ H,Pv xs.length σ H→D.nx σ H) :
  ∃ W:Nat→Nat→St→Hp→Prop,(∃ m,W 0 m σ H)∧∀ i m σ H,W i m σ H →
   ((Itl K a).stop i H∧D.nx σ H)∨((Itl K a).go i H∧∃ N:St→Hp→Prop,(∀ σ' H',N σ' H'→∃ m',m' < m∧W (i + 1) m' σ' H')∧∀ x H',(Itl K a).yld i H x H'→g x σ H' fun σ2 H2=>tb { D with nx:=N,ct:=N,bk:=D.nx } σ2 H2):=by
 refine ⟨fun i m σ H=>m=xs.length - i∧i≤xs.length∧Pv i σ H,⟨xs.length,by simp,Zz _,h0⟩,?_⟩;rintro i m σ H ⟨rfl,hi,p⟩;have q:=hl i σ H hi p;by_cases hlt:i < xs.length
 ·refine .inr ⟨⟨xs,xs[i],q,by simp [hlt]⟩,Pv (i + 1),fun σ' H' p'=>⟨xs.length - (i + 1),by omega,rfl,hlt,p'⟩,fun x H' y=>?_⟩;obtain ⟨e,y⟩:=y;subst e;exact hs i x σ _ (y xs q) p
 ·have e:i=xs.length:=by omega
  subst e;exact .inl ⟨⟨xs,q,Z5 _⟩,hd σ H p⟩
theorem for_range {lo:Int}{n:Nat}{g:TG}{tb:TS}{D:Ends}{σ : St}{H:Hp} (Pv:Nat→St→Hp→Prop) (h0:Pv 0 σ H)
  (hs:∀ i σ H,i < n→Pv i σ H→g (.int (lo + i)) σ H fun σ2 H2=>tb { D with nx:=Pv (i + 1),ct:=Pv (i + 1),bk:=D.nx } σ2 H2) (hd:∀ σ H,Pv n σ H→D.nx σ H) :
  ∃ W:Nat→Nat→St→Hp→Prop,(∃ m,W 0 m σ H)∧∀ i m σ H,W i m σ H →
   ((Itr lo n).stop i H∧D.nx σ H)∨((Itr lo n).go i H∧∃ N:St→Hp→Prop,(∀ σ' H',N σ' H'→∃ m',m' < m∧W (i + 1) m' σ' H')∧∀ x H',(Itr lo n).yld i H x H'→g x σ H' fun σ2 H2=>tb { D with nx:=N,ct:=N,bk:=D.nx } σ2 H2):=by
 refine ⟨fun i m σ H=>m=n - i∧i≤n∧Pv i σ H,⟨n,by simp,Zz _,h0⟩,?_⟩;rintro i m σ H ⟨rfl,hi,p⟩;by_cases hlt:i < n
 ·refine .inr ⟨hlt,Pv (i + 1),fun σ' H' p'=>⟨n - (i + 1),by omega,rfl,hlt,p'⟩,fun x H' y=>?_⟩;obtain ⟨e,y⟩:=y;subst e y;exact hs i σ _ hlt p
 ·have e:i=n:=by omega
  subst e;exact .inl ⟨Z5 _,hd σ H p⟩
end L2
namespace L2
open PySem PySem.Spec PyProof.Rows
noncomputable abbrev R2:=V→V→Hp→VK→Prop
noncomputable def OpR (X:Cx) (f:Value→Value→Sem Value) (r:R2):Prop :=
 ∀ (pins:List (Addr×Obj)) (s:Shared) (σ : St) (H:Hp) (x y:V) (v u:Value) (Q:VK),Inv X pins σ H s→RelV x v→RelV y u→r x y H Q →
  wpAny (model X.prog X.w) X.A (f v u) (EP X pins σ Q) X.xe s
noncomputable def UnR (X:Cx) (f:Value→Sem Value) (r:V→Hp→VK→Prop):Prop :=
 ∀ (pins:List (Addr×Obj)) (s:Shared) (σ : St) (H:Hp) (x:V) (v:Value) (Q:VK),Inv X pins σ H s→RelV x v→r x H Q →
  wpAny (model X.prog X.w) X.A (f v) (EP X pins σ Q) X.xe s
noncomputable def CallR (X:Cx) (f:Value) (r:List V→Hp→VK→Prop):Prop :=
 ∀ (pins:List (Addr×Obj)) (s:Shared) (σ : St) (H:Hp) (xs:List V) (us:List Value) (Q:VK),Inv X pins σ H s→Vals xs us→r xs H Q →
  wpAny (model X.prog X.w) X.A (call f us) (EP X pins σ Q) X.xe s
noncomputable def TruR (X:Cx) (r:V→Hp→(Bool→Hp→Prop)→Prop):Prop :=
 ∀ (pins:List (Addr×Obj)) (s:Shared) (σ : St) (H:Hp) (x:V) (v:Value) (Q:Bool→Hp→Prop),Inv X pins σ H s→RelV x v→r x H Q →
  wpAny (model X.prog X.w) X.A (truthy v) (TP X pins σ Q) X.xe s
noncomputable def tOp (r:R2) (ta tb:TE):TE:=fun σ H Q=>ta σ H fun x H1=>tb σ H1 fun y H2=>r x y H2 Q
noncomputable def tUn (r:V→Hp→VK→Prop) (ta:TE):TE:=fun σ H Q=>ta σ H fun x H1=>r x H1 Q
noncomputable def rI (C:Int→Int→Prop) (g:Int→Int→V):R2:=fun x y H Q=>∃ i j,x=.int i∧y=.int j∧C i j∧Q (g i j) H
noncomputable def rI0 (g:Int→Int→V):R2:=fun x y H Q=>∃ i j,x=.int i∧y=.int j∧Q (g i j) H
noncomputable def rU (g:Int→V):V→Hp→VK→Prop:=fun x H Q=>∃ i,x=.int i∧Q (g i) H
section
variable {X:Cx}{a b c:Expr}{ta tb tc:TE}{pos:Pos}
theorem binT (ha:PE X a ta) (hb:PE X b tb) {pins:List (Addr×Obj)}{s:Shared}{σ : St}{H:Hp}{R:V→V→Hp→Prop} (I:Inv X pins σ H s)
  (h:ta σ H fun x H1=>tb σ H1 fun y H2=>R x y H2) {Q:Value→Shared→Prop}{f:Value→Value→Sem Value}
  (hf:∀ v u s2 x y H2,Inv X pins σ H2 s2→RelV x v→RelV y u→R x y H2→wpAny (model X.prog X.w) X.A (f v u) Q X.xe s2) :
  wpAny (model X.prog X.w) X.A (eval a X.env) (fun v s₁=>wpAny (model X.prog X.w) X.A (eval b X.env) (fun u s₂=>wpAny (model X.prog X.w) X.A (f v u) Q X.xe s₂) X.xe s₁) X.xe s:=by
 refine thn (ha pins s σ H _ I h) fun v s1 ⟨x,H1,I1,r1,q1⟩=>?_;refine thn (hb pins s1 σ H1 _ I1 q1) fun u s2 ⟨y,H2,I2,r2,q2⟩=>?_;exact hf v u s2 x y H2 I2 r1 r2 q2
theorem zAh {op:Operator}{r:R2} (ho:OpR X (binaryOp op) r) (ha:PE X a ta) (hb:PE X b tb):PE X (.BinOp a op b pos) (tOp r ta tb):=by
 intro pins s σ H Q I h;exact wpAny_BinOp (binT ha hb I h fun v u s2 x y H2 I2 rx ry q=>ho pins s2 σ H2 x y v u Q I2 rx ry q)
theorem zDo {op:UnaryOp}{r:V→Hp→VK→Prop} (ho:UnR X (unaryOp op) r) (ha:PE X a ta):PE X (.UnaryOp op a pos) (tUn r ta):=by
 intro pins s σ H Q I h;exact UnaryOp_ (thn (ha pins s σ H _ I h) fun v s1 ⟨x,H1,I1,r1,q1⟩=>ho pins s1 σ H1 x v Q I1 r1 q1)
theorem opI {f:Value→Value→Sem Value}{C:Int→Int→Prop}{g:Int→Int→Int}
  (rule:∀ (i j:Int) (t u:Tok) (s:Shared) (Q:Value→Shared→Prop) (E:Value→Shared→Prop),C i j→Q (.int (g i j) s.toks) { s with toks:=s.toks + 1 }→wpAny (model X.prog X.w) X.A (f (.int i t) (.int j u)) Q E s) :
  OpR X f (rI C fun i j=>.int (g i j)):=by
 intro pins s σ H x y v u Q I rx ry h;obtain ⟨i,j,rfl,rfl,hc,q⟩:=h;obtain ⟨t,rfl⟩:=rx;obtain ⟨t',rfl⟩:=ry;exact rule i j t t' s _ _ hc ⟨.int (g i j),H,I.tok _,⟨_,rfl⟩,q⟩
theorem opI0 {f:Value→Value→Sem Value}{g:Int→Int→Int}
  (rule:∀ (i j:Int) (t u:Tok) (s:Shared) (Q:Value→Shared→Prop) (E:Value→Shared→Prop),Q (.int (g i j) s.toks) { s with toks:=s.toks + 1 }→wpAny (model X.prog X.w) X.A (f (.int i t) (.int j u)) Q E s) :
  OpR X f (rI0 fun i j=>.int (g i j)):=by
 intro pins s σ H x y v u Q I rx ry h;obtain ⟨i,j,rfl,rfl,q⟩:=h;obtain ⟨t,rfl⟩:=rx;obtain ⟨t',rfl⟩:=ry;exact rule i j t t' s _ _ ⟨.int (g i j),H,I.tok _,⟨_,rfl⟩,q⟩
theorem opB0 {f:Value→Value→Sem Value}{g:Int→Int→Bool}
  (rule:∀ (i j:Int) (t u:Tok) (s:Shared) (Q:Value→Shared→Prop) (E:Value→Shared→Prop),Q (.bool (g i j)) s→wpAny (model X.prog X.w) X.A (f (.int i t) (.int j u)) Q E s) :
  OpR X f (rI0 fun i j=>.bl (g i j)):=by
 intro pins s σ H x y v u Q I rx ry h;obtain ⟨i,j,rfl,rfl,q⟩:=h;obtain ⟨t,rfl⟩:=rx;obtain ⟨t',rfl⟩:=ry;exact rule i j t t' s _ _ ⟨.bl (g i j),H,I,rfl,q⟩
noncomputable def CDiv (i j:Int):Prop:=0 < j∧j < 1073741824
noncomputable def CPow (i j:Int):Prop:=0≤j∧j≤1000000∧i.natAbs < 2 ^ 64
noncomputable def CMul (i j:Int):Prop:=(-(2 ^ 64) < i∧i < 2 ^ 64)∨(-(2 ^ 64) < j∧j < 2 ^ 64)
theorem CMul.ok {i j:Int} (h:CMul i j):IntMulOk i j:=by
 rcases h with ⟨h1,h2⟩ | ⟨h1,h2⟩
 ·exact .of_left (intBits_le_64 h1 h2)
 ·exact .of_right (intBits_le_64 h1 h2)
theorem zC6:OpR X (binaryOp .Add) (rI0 fun i j=>.int (i + j)):=opI0 fun _ _ _ _ _ _ _ q=>add_int q
theorem op_sub:OpR X (binaryOp .Sub) (rI0 fun i j=>.int (i - j)):=opI0 fun _ _ _ _ _ _ _ q=>sub_int q
theorem zE0:OpR X (binaryOp .Mult) (rI CMul fun i j=>.int (i * j)):=opI fun _ _ _ _ _ _ _ hc q=>mul_int q hc.ok
theorem zGc:OpR X (binaryOp .FloorDiv) (rI CDiv fun i j=>.int (i / j)):=opI fun i j _ _ _ _ _ hc q=>by
 have h1:(0:Int) < j:=hc.1;have h2:j < 1073741824:=hc.2;exact floordiv_int (by omega) (by rw [Int.fdiv_eq_ediv_of_nonneg i (by omega)];exact q) (.inl (PyProof.noPylong_small (by omega)))
theorem zCd:OpR X (binaryOp .Mod) (rI (fun _ j=>0 < j) fun i j=>.int (i % j)):=opI fun i j _ _ _ _ _ hc q=>by
 have h1:(0:Int) < j:=hc;exact mod_int' (by omega) (by rw [Int.fmod_eq_emod_of_nonneg i (by omega)];exact q)
theorem op_pow:OpR X (binaryOp .Pow) (rI CPow fun i j=>.int (i ^ j.toNat)):=opI fun _ _ _ _ _ _ _ hc q=>pow_int_small hc.1 hc.2.1 hc.2.2 q
theorem unI {f:Value→Sem Value}{g:Int→Int}
  (rule:∀ (i:Int) (t:Tok) (s:Shared) (Q:Value→Shared→Prop) (E:Value→Shared→Prop),Q (.int (g i) s.toks) { s with toks:=s.toks + 1 }→wpAny (model X.prog X.w) X.A (f (.int i t)) Q E s) :
  UnR X f (rU fun i=>.int (g i)):=by
 intro pins s σ H x v Q I rx h;obtain ⟨i,rfl,q⟩:=h;obtain ⟨t,rfl⟩:=rx;exact rule i t s _ _ ⟨.int (g i),H,I.tok _,⟨_,rfl⟩,q⟩
theorem zCg:UnR X (unaryOp .USub) (rU fun i=>.int (-i)):=unI fun _ _ _ _ _ q=>neg_int q
end
noncomputable def scal:V→V→Bool
 | .non,.non=>true | .non,.int _=>true | .int _,.non=>true | .non,.bl _=>true | .bl _,.non=>true | .non,.str _=>true | .str _,.non=>true
 | .int _,.int _=>true | .bl _,.bl _=>true | .str _,.str _=>true | .byt _,.byt _=>true
 | .int _,.str _=>true | .str _,.int _=>true | .bl _,.str _=>true | .str _,.bl _=>true
 | _,_=>false
noncomputable def rEq:R2:=fun x y H Q=>scal x y=true∧Q (.bl (decide (x=y))) H
noncomputable def rNe:R2:=fun x y H Q=>scal x y=true∧Q (.bl (!decide (x=y))) H
theorem dec_int {i j:Int}:decide (V.int i=V.int j)=(i == j):=by
 rw [Yl];simp
theorem dec_bl {i j:Bool}:decide (V.bl i=V.bl j)=(i == j):=by
 rw [Yl];simp
theorem dec_str {i j:Str}:decide (V.str i=V.str j)=(i == j):=by
 rw [Yl];simp
theorem dec_byt {i j:Array UInt8}:decide (V.byt i=V.byt j)=(i.toList == j.toList):=by
 rw [Yl];cases i;cases j;simp
section
variable {X:Cx}{a b c:Expr}{ta tb tc:TE}{pos:Pos}
theorem zAt {pins:List (Addr×Obj)}{σ : St}{H:Hp}{s:Shared}{Q:VK}{k k':Bool} (I:Inv X pins σ H s) (q:Q (.bl k) H) (e:k=k'):EP X pins σ Q (.bool k') s:=by
 subst e;exact ⟨.bl k,H,I,rfl,q⟩
theorem op_eq:OpR X (compareOp .Eq) rEq:=by
 intro pins s σ H x y v u Q I rx ry h;obtain ⟨hs,q⟩:=h;cases x with
 | non =>
  cases rx;cases y with
  | non=>cases ry;exact PySem.EqNone.eq_none_none (zAt I q (by simp))
  | bl j=>cases ry;exact PySem.EqNone.eq_none_bool (zAt I q (by simp))
  | int j=>obtain ⟨t',rfl⟩:=ry;exact PySem.EqNone.eq_none_int (zAt I q (by simp))
  | str j=>obtain ⟨t',rfl⟩:=ry;exact PySem.EqNone.eq_none_str (zAt I q (by simp))
  | _=>exact absurd (show false=true from hs) Zn
 | bl i =>
  cases rx;cases y with
  | non=>cases ry;exact PySem.EqNone.eq_bool_none (zAt I q (by simp))
  | bl j=>cases ry;exact eq_bool (zAt I q dec_bl)
  | str j=>obtain ⟨t',rfl⟩:=ry;exact PySem.EqMixed.eq_bool_str (zAt I q (by simp))
  | _=>exact absurd (show false=true from hs) Zn
 | int i =>
  obtain ⟨t,rfl⟩:=rx;cases y with
  | non=>cases ry;exact PySem.EqNone.eq_int_none (zAt I q (by simp))
  | int j=>obtain ⟨t',rfl⟩:=ry;exact eq_int (zAt I q dec_int)
  | str j=>obtain ⟨t',rfl⟩:=ry;exact PySem.EqMixed.eq_int_str (zAt I q (by simp))
  | _=>exact absurd (show false=true from hs) Zn
 | str i =>
  obtain ⟨t,rfl⟩:=rx;cases y with
  | non=>cases ry;exact PySem.EqNone.eq_str_none (zAt I q (by simp))
  | bl j=>cases ry;exact PySem.EqMixed.eq_str_bool (zAt I q (by simp))
  | int j=>obtain ⟨t',rfl⟩:=ry;exact PySem.EqMixed.eq_str_int (zAt I q (by simp))
  | str j=>obtain ⟨t',rfl⟩:=ry;exact eq_str (zAt I q dec_str)
  | _=>exact absurd (show false=true from hs) Zn
 | byt i =>
  obtain ⟨t,rfl⟩:=rx;cases y with
  | byt j=>obtain ⟨t',rfl⟩:=ry;exact PySem.W.eq_bytes (zAt I q dec_byt)
  | _=>exact absurd (show false=true from hs) Zn
 | _=>cases y <;> exact absurd (show false=true from hs) Zn
theorem op_ne:OpR X (compareOp .NotEq) rNe:=by
 intro pins s σ H x y v u Q I rx ry h;obtain ⟨hs,q⟩:=h;cases x with
 | non =>
  cases rx;cases y with
  | non=>cases ry;exact PySem.EqNone.ne_none_none (zAt I q (by simp))
  | bl j=>cases ry;exact PySem.EqNone.ne_none_bool (zAt I q (by simp))
  | int j=>obtain ⟨t',rfl⟩:=ry;exact PySem.EqNone.ne_none_int (zAt I q (by simp))
  | str j=>obtain ⟨t',rfl⟩:=ry;exact PySem.EqNone.ne_none_str (zAt I q (by simp))
  | _=>exact absurd (show false=true from hs) Zn
 | bl i =>
  cases rx;cases y with
  | non=>cases ry;exact PySem.EqNone.ne_bool_none (zAt I q (by simp))
  | bl j=>cases ry;exact ne_bool (zAt I q (congrArg not dec_bl))
  | str j=>obtain ⟨t',rfl⟩:=ry;exact PySem.EqMixed.ne_bool_str (zAt I q (by simp))
  | _=>exact absurd (show false=true from hs) Zn
 | int i =>
  obtain ⟨t,rfl⟩:=rx;cases y with
  | non=>cases ry;exact PySem.EqNone.ne_int_none (zAt I q (by simp))
  | int j=>obtain ⟨t',rfl⟩:=ry;exact ne_int (zAt I q (congrArg not dec_int))
  | str j=>obtain ⟨t',rfl⟩:=ry;exact PySem.EqMixed.ne_int_str (zAt I q (by simp))
  | _=>exact absurd (show false=true from hs) Zn
 | str i =>
  obtain ⟨t,rfl⟩:=rx;cases y with
  | non=>cases ry;exact PySem.EqNone.ne_str_none (zAt I q (by simp))
  | bl j=>cases ry;exact PySem.EqMixed.ne_str_bool (zAt I q (by simp))
  | int j=>obtain ⟨t',rfl⟩:=ry;exact PySem.EqMixed.ne_str_int (zAt I q (by simp))
  | str j=>obtain ⟨t',rfl⟩:=ry;exact ne_str (zAt I q (congrArg not dec_str))
  | _=>exact absurd (show false=true from hs) Zn
 | byt i =>
  obtain ⟨t,rfl⟩:=rx;cases y with
  | byt j=>obtain ⟨t',rfl⟩:=ry;exact PySem.W.ne_bytes (zAt I q (congrArg not dec_byt))
  | _=>exact absurd (show false=true from hs) Zn
 | _=>cases y <;> exact absurd (show false=true from hs) Zn
theorem op_lt:OpR X (compareOp .Lt) (rI0 fun i j=>.bl (decide (i < j))):=opB0 fun _ _ _ _ _ _ _ q=>lt_int q
theorem op_le:OpR X (compareOp .LtE) (rI0 fun i j=>.bl (decide (i≤j))):=opB0 fun _ _ _ _ _ _ _ q=>le_int q
theorem zF8:OpR X (compareOp .Gt) (rI0 fun i j=>.bl (decide (j < i))):=opB0 fun _ _ _ _ _ _ _ q=>gt_int q
theorem zEn:OpR X (compareOp .In) (fun x y H Q=>∃ i j,x=.str i∧y=.str j∧Q (.bl (!(Builtin.Str.occurrences j i 0 j.length 1).isEmpty)) H):=by
 intro pins s σ H x y v u Q I rx ry h;obtain ⟨i,j,rfl,rfl,q⟩:=h;obtain ⟨t,rfl⟩:=rx;obtain ⟨t',rfl⟩:=ry;exact in_str (zAt I q rfl)
theorem nomark (b:Expr) {op:CmpOp} (h:op≠.In:=by decide) (h2:op≠.NotIn:=by decide):behindInMarks op b=false:=by
 have e1:(op == CmpOp.In)=false:=by cases op <;> first | rfl | exact absurd rfl h
 have e2:(op == CmpOp.NotIn)=false:=by cases op <;> first | rfl | exact absurd rfl h2
 cases b <;> simp [behindInMarks,e1,e2]
theorem zD2 {op:CmpOp}{r:R2} (ho:OpR X (compareOp op) r) (ha:PE X a ta) (hb:PE X b tb) (hm:behindInMarks op b=false):PE X (.Compare a [op] [b] pos) (tOp r ta tb):=by
 intro pins s σ H Q I h;exact wpAny_Compare1 (binT ha hb I h fun v u s2 x y H2 I2 rx ry q=>ho pins s2 σ H2 x y v u Q I2 rx ry q) hm
noncomputable def tTest (t:TE):TT:=fun σ H Q=>t σ H fun x H'=>∃ k,x=.bl k∧Q k H'
theorem zAp {op:CmpOp}{r:R2} (ho:OpR X (compareOp op) r) (ha:PE X a ta) (hb:PE X b tb) (hm:behindInMarks op b=false):PT X (.Compare a [op] [b] pos) (tTest (tOp r ta tb)):=by
 intro pins s σ H Q I h
 refine wpAny_isTrue_Compare1 (thn (ha pins s σ H _ I h) fun v s1 ⟨x,H1,I1,r1,q1⟩=>thn (hb pins s1 σ H1 _ I1 q1) fun u s2 ⟨y,H2,I2,r2,q2⟩ =>
  thn (ho pins s2 σ H2 x y v u _ I2 r1 r2 q2) fun c s3 ⟨z,H3,I3,r3,k,e,q3⟩=>?_) hm
 subst e;cases r3;exact wpAny_truthy_bool ⟨H3,I3,q3⟩
noncomputable def tChain (r r':R2) (ta tb tc:TE):TE:=fun σ H Q=>ta σ H fun x H1=>tb σ H1 fun y H2=>r x y H2 fun z H3=>∃ k,z=.bl k ∧
 (if k=true then tc σ H3 fun w' H4=>r' y w' H4 Q else Q (.bl false) H3)
theorem zG8 {op op':CmpOp}{r r':R2} (ho:OpR X (compareOp op) r) (ho':OpR X (compareOp op') r') (ha:PE X a ta) (hb:PE X b tb) (hc:PE X c tc)
  (hm:lastMarks [op,op'] [b,c]=false:=by with_unfolding_all rfl):PE X (.Compare a [op,op'] [b,c] pos) (tChain r r' ta tb tc):=by
 intro pins s σ H Q I h
 refine Compare_chain (thn (ha pins s σ H _ I h) fun v s1 ⟨x,H1,I1,r1,q1⟩=>chain_link (thn (hb pins s1 σ H1 _ I1 q1) fun u s2 ⟨y,H2,I2,r2,q2⟩ =>
  thn (ho pins s2 σ H2 x y v u _ I2 r1 r2 q2) fun d s3 ⟨z,H3,I3,r3,k,e,q3⟩=>?_)) hm
 subst e;cases r3;refine wpAny_truthy_bool ?_;cases k with
 | false=>exact ite_ff ⟨.bl false,H3,I3,rfl,q3⟩
 | true=>exact ite_tt (chain_last (thn (hc pins s3 σ H3 _ I3 q3) fun w' s4 ⟨z',H4,I4,r4,q4⟩=>ho' pins s4 σ H4 y z' u w' Q I4 r2 r4 q4))
theorem zD9 {op op':CmpOp}{r r':R2} (ho:OpR X (compareOp op) r) (ho':OpR X (compareOp op') r') (ha:PE X a ta) (hb:PE X b tb) (hc:PE X c tc)
  (hm:lastMarks [op,op'] [b,c]=false:=by with_unfolding_all rfl):PT X (.Compare a [op,op'] [b,c] pos) (tTest (tChain r r' ta tb tc)):=by
 intro pins s σ H Q I h
 refine isTrue_chain (thn (ha pins s σ H _ I h) fun v s1 ⟨x,H1,I1,r1,q1⟩=>test_link (thn (hb pins s1 σ H1 _ I1 q1) fun u s2 ⟨y,H2,I2,r2,q2⟩ =>
  thn (ho pins s2 σ H2 x y v u _ I2 r1 r2 q2) fun d s3 ⟨z,H3,I3,r3,k,e,q3⟩=>?_)) hm
 subst e;cases r3;refine wpAny_truthy_bool ?_;cases k with
 | false =>
  obtain ⟨k',e',q'⟩:=q3;cases e';exact ite_ff ⟨H3,I3,q'⟩
 | true =>
  refine ite_tt (test_last (thn (hc pins s3 σ H3 _ I3 q3) fun w' s4 ⟨z',H4,I4,r4,q4⟩=>thn (ho' pins s4 σ H4 y z' u w' _ I4 r2 r4 q4) fun d' s5 ⟨z2,H5,I5,r5,k2,e2,q5⟩=>?_));subst e2;cases r5;exact wpAny_truthy_bool ⟨H5,I5,q5⟩
noncomputable def TruV (K:PySem.W.Frag) (x:V) (H:Hp) (k:Bool):Prop :=
 match x with
 | .non=>k=false
 | .bl b=>k=b
 | .int i=>k=(i != 0)
 | .str y=>y.length≤sizeLine∧k=((y.length:Int) != 0)
 | .byt y=>y.size≤sizeLine∧k=((y.size:Int) != 0)
 | .ref p=>(∃ xs,SqL K H p xs∧k = !xs.isEmpty)∨(∃ xs,SqT K H p xs∧k = !xs.isEmpty)∨∃ kvs,H p=some (.dK kvs)∧k = !kvs.isEmpty
 | _=>False
theorem isEmpty_kv {κ : Type}{kvs:List (κ×V)}{vs:List (κ×Value)} (r:KV kvs vs):(!vs.isEmpty) = !kvs.isEmpty:=by
 cases r <;> rfl
theorem zFr {xs:List V}{its:List Value} (r:Vals xs its):(!its.toArray.isEmpty) = !xs.isEmpty:=by
 cases r <;> simp
theorem line63:(sizeLine:Nat) < 2 ^ 63:=by rw [sizeLine_eq];decide
theorem tru_ok:TruR X (fun x H Q=>∃ k,TruV X.K x H k∧Q k H):=by
 intro pins s σ H x v Q I rx h;obtain ⟨k,e,q⟩:=h;have hl:=line63;have hs:sizeLine=16777216:=sizeLine_eq;cases x with
 | non =>
  cases rx;have e':k=false:=e;subst e';exact truthy_none ⟨H,I,q⟩
 | bl b =>
  cases rx;have e':k=b:=e;subst e';exact wpAny_truthy_bool ⟨H,I,q⟩
 | int i =>
  obtain ⟨t,rfl⟩:=rx;have e':k=(i != 0):=e;subst e';exact PySem.P.truthy_int ⟨H,I,q⟩
 | str y =>
  obtain ⟨t,rfl⟩:=rx;obtain ⟨hy,e'⟩:y.length≤sizeLine∧k=((y.length:Int) != 0):=e;subst e';exact PySem.P.truthy_str (by omega) ⟨H,I.tok _,q⟩
 | byt y =>
  obtain ⟨t,rfl⟩:=rx;obtain ⟨hy,e'⟩:y.size≤sizeLine∧k=((y.size:Int) != 0):=e;subst e';exact PySem.W.truthy_bytes (by omega) ⟨H,I.tok _,q⟩
 | ref p =>
  cases rx;have e':(∃ xs,SqL X.K H p xs∧k = !xs.isEmpty)∨(∃ xs,SqT X.K H p xs∧k = !xs.isEmpty)∨∃ kvs,H p=some (.dK kvs)∧k = !kvs.isEmpty:=e;rcases e' with ⟨xs,hx,e'⟩ | ⟨xs,hx,e'⟩ | ⟨kvs,hx,e'⟩
  ·subst e';obtain ⟨its,r,pl,hz⟩:=I.list hx;have hlen:=r.length;exact wpAny_truthy_list pl.isList (by simp only [Zb];omega) ⟨H,I.tok _,by rw [zFr r];exact q⟩
  ·subst e';obtain ⟨its,r,pl,hz⟩:=I.tuple hx;have hlen:=r.length;exact truthy_tuple pl (by simp only [Zb];omega) ⟨H,I.tok _,by rw [zFr r];exact q⟩
  ·subst e';obtain ⟨hz,hS,vs,r,m⟩:kvs.length≤sizeLine∧(p == sysModules)=false∧∃ vs,KV kvs vs∧s.heap.DictOf (mixKind X.prog X.w) p vs:=I.hok p _ hx;have hlen:kvs.length=vs.length:=Paired.length r;exact wpAny_truthy_dict hS m (by omega) ⟨H,I.tok _,by rw [isEmpty_kv r];exact q⟩
 | _=>exact (show False from e).elim
theorem zG2 (ha:PE X a ta) (he:∀ whole,isTrue a X.env whole=(do let v ← whole;standAt a.pos;holding [v] (truthy v))) :
  PT X a (fun σ H Q=>ta σ H fun x H'=>∃ k,TruV X.K x H' k∧Q k H'):=by
 intro pins s σ H Q I h;exact isTrue_plain (thn (ha pins s σ H _ I h) fun v s1 ⟨x,H1,I1,r1,q1⟩=>tru_ok pins s1 σ H1 x v Q I1 r1 q1) (he _)
theorem zAf:OpR X (binaryOp .Add) (fun x y H Q=>∃ i j,x=.str i∧y=.str j∧i.length + j.length≤sizeLine∧Q (.str (i++j)) H):=by
 intro pins s σ H x y v u Q I rx ry h;obtain ⟨i,j,rfl,rfl,hz,q⟩:=h;obtain ⟨t,rfl⟩:=rx;obtain ⟨t',rfl⟩:=ry;exact add_str (fun t' tk=>⟨.str (i++j),H,I.tok _,⟨_,rfl⟩,q⟩) hz
theorem vals1 {x:V}{us:List Value} (r:Vals [x] us):∃ u,us=[u]∧RelV x u:=by
 cases r with
 | cons r1 r2=>cases r2;exact ⟨_,rfl,r1⟩
theorem zBo:CallR X (.type "str") (fun xs H Q=>∃ i,xs=[.int i]∧i.natAbs.log2 < 1920∧Q (.str (toString i)) H):=by
 intro pins s σ H xs us Q I r h;obtain ⟨i,rfl,hz,q⟩:=h;obtain ⟨u,rfl,t,rfl⟩:=vals1 r;exact PySem.P.str_of_int hz ⟨.str _,H,I.tok _,⟨_,rfl⟩,q⟩
end
end L2
namespace L2
open PySem PySem.Spec PyProof.Rows
structure ObjM (h:Heap) (x dx C:Addr) (mA:Str→Option Value):Prop where
 obj:h.get? x=some (PySem.W.instObj C dx)
 ns:h.Ns1 dx mA
 ne:dx≠x
theorem lookIn_ns {h:Heap}{dx:Addr}{mA:Str→Option Value} (n:h.Ns1 dx mA):∃ od,h.get? dx=some od∧∀ name,PySem.W.lookIn name od=some (mA name):=by
 obtain ⟨o,es,ep,ho,hd,hk,_,hm⟩:=n;refine ⟨o,ho,fun name=>?_⟩;have e:=hm name;unfold nsFind findBy at e;rw [← Array.find?_toList] at e;unfold PySem.W.lookIn;rw [hd];dsimp only;split
 ·rename_i y q
  rw [q] at e;exact congrArg some e
 ·rename_i q
  rw [q] at e;have a:es.toList.any (·.refKey)=false:=by
   rw [List.any_eq_false];intro y hy;obtain ⟨z,t,hkey⟩:=hk y (Array.mem_toList_iff.mp hy);simp [DictEntry.refKey,hkey]
  have a':¬ es.toList.any (·.refKey)=true:=by rw [a];exact Zn
  rw [if_neg a'];exact congrArg some e
theorem ObjM.look {h:Heap}{x dx C:Addr}{mA:Str→Option Value} (I:ObjM h x dx C mA):∃ od,PySem.W.InstAt h x (PySem.W.instObj C dx) C (some od)∧∀ name,PySem.W.lookIn name od=some (mA name) :=
 let ⟨od,ho,hl⟩:=lookIn_ns I.ns
 ⟨od,⟨I.obj,rfl,rfl,ho⟩,hl⟩
section
variable {prog:Program}{w:World}{A:Around}{E:Value→Shared→Prop}{s:Shared}{K:PySem.W.Frag}{x dx C f:Addr}{mA:Str→Option Value}{name:Str}{v:Value}
theorem get_map {expr:Bool}{Q:Value→Shared→Prop} (X:K.In s.heap) (I:ObjM s.heap x dx C mA) (hg:PySem.W.plainGet K C name=true) (hh:PySem.W.hasDictIn K C=true)
  (ha:PySem.W.findIn K (.ref C) name=some none) (hv:mA name=some v) (hv':PySem.W.handedIn v=true) (h:Q v { s with toks:=s.toks + 1 }) :
  wpAny (model prog w) A (getAttr (.ref x) name expr) Q E s:=by
 obtain ⟨od,J,hl⟩:=I.look;exact PySem.W.get_value X J (PySem.W.plainGet_of hg).1 (PySem.W.findObj_own hh ha rfl (by rw [hl,hv])) hv' h
theorem get_meth {pl:Sem Bool}{Q:Value×List Value→Shared→Prop} (X:K.In s.heap) (I:ObjM s.heap x dx C mA) (hg:PySem.W.plainGet K C name=true)
  (hf:PySem.W.findIn K (.ref C) name=some (some (.ref f))) (ht:PySem.W.isFn K (.ref f)=true) (hv:mA name=none) (h:Q (.ref f,[.ref x]) s) :
  wpAny (model prog w) A (getMethod (.ref x) name pl) Q E s:=by
 obtain ⟨od,J,hl⟩:=I.look;exact PySem.W.method_fn X J (PySem.W.plainGet_of hg).1 (PySem.W.plainGet_of hg).2 hf (beq_iff_eq.mp ht) (by show (PySem.W.lookIn name od).map (·.isSome)=some false;rw [hl,hv];rfl) h
theorem set_map {ns:List Str}{Q:Unit→Shared→Prop} (X:K.In s.heap) (I:ObjM s.heap x dx C mA)
  (hs:PySem.W.findIn K (.ref C) "__setattr__" = some (some (.builtin "object.__setattr__"))) (hp:PySem.W.plainOver K C=true) (ht:PySem.W.takerIn K C name=some none) (hh:PySem.W.hasDictIn K C=true)
  (hw:PySem.Within mA ns) (hsz:ns.length≤sizeLine)
  (h:∀ h',ObjM h' x dx C (fun y=>if y=name then some v else mA y)→Heap.SameBut dx s.heap h'→Q () { s with heap:=h',toks:=s.toks + 2 }) :
  wpAny (model prog w) A (setAttr (.ref x) name v) Q E s:=by
 obtain ⟨od,J,hl⟩:=I.look;refine PySem.W.set_plain X J hs (PySem.W.osa_open (s:={ s with toks:=s.toks + 1 }) (r:=none) X J hp ht fun b=>?_);obtain ⟨cd,hc,hd'⟩:=PySem.W.any_some hh;have hx:s.heap.get? x=some ⟨.ref C,some dx,.plain,#[]⟩:=I.obj;refine wpAny_bind (wpAny_pure (wpAny_bind (wpAny_bind (wpAny_loadPart hx (wpAny_bind (PySem.W.Looks.here (s:={ s with toks:=s.toks + 1 }) (PySem.W.looks_clsIn X hc) ?_))))));rw [hd'];refine wpAny_pure (a:=some dx) (wpAny_bind (wpAny_pure (wpAny_bind ?_)));refine wpAny_nsSet1 (s:={ s with toks:=s.toks + 1 }) I.ns fun h' hn2 hs2=>?_;obtain ⟨oD,esD,epD,hoD,hdD,hcD⟩:=hn2.count (PySem.Within.cons name v hw);refine wpAny_bind (wpAny_lookBehind hoD (by rw [hdD];exact pastItsLine_dict (Zd hcD (by rw [Ze];omega))) ?_);exact wpAny_pure (h _ ⟨(hs2.2 _ (Ne.symm I.ne)).trans I.obj,hn2,I.ne⟩ hs2)
theorem make_map {R:Result→Shared→Prop}{vs:List Value}{kw:List (Str×Value)} (X:K.In s.heap) (hm:PySem.W.makesIn K C=true)
  (hi:PySem.W.findIn K (.ref C) "__init__" = some (some (.ref f))) (hf:PySem.W.typeIn K (.ref f)=some (.type "function"))
  (h:codeAny (model prog w) (A.under (.builtin "type.__call__" ⟨.ref C :: vs,kw⟩)) (.call (.ref f) ⟨.ref (s.heap.objs.size + 1) :: vs,kw⟩) (PySem.W.InitBack (s.heap.objs.size + 1) R)
   { s with heap:=(s.heap.push PySem.W.emptyDict).push (PySem.W.instObj C s.heap.objs.size) }) :
  codeAny (model prog w) A (.call (.ref C) ⟨vs,kw⟩) R s:=by
 obtain ⟨hh,g,d,t,os⟩:=s;exact PySem.W.make_core (PySem.W.makes_of X hm) (PySem.W.looks_findIn X hi) (fun self=>PySem.W.bind_fn X self hf) (.inl rfl) h
end
noncomputable def putF (f:Str) (v:V):List (Str×V)→List (Str×V)
 | []=>[(f,v)]
 | (g,x) :: r=>if g=f then (g,v) :: r else (g,x) :: putF f v r
theorem zB7 (f g:Str) (v:V):∀ fs:List (Str×V),(putF f v fs).lookup g=if g=f then some v else fs.lookup g
 | []=>by
  show List.lookup g [(f,v)]=_;by_cases h:g=f
  ·have hb:(g == f)=true:=beq_iff_eq.mpr h;simp only [List.lookup,hb,if_pos h]
  ·have hb:(g == f)=false:=beq_eq_false_iff_ne.mpr h;simp only [List.lookup,hb,if_neg h]
 | (k,x) :: r=>by
  have ih:=zB7 f g v r;rw [show putF f v ((k,x) :: r)=(if k=f then (k,v) :: r else (k,x) :: putF f v r) from rfl];by_cases hk:k=f
  ·rw [if_pos hk];by_cases h:g=k
   ·have hb:(g == k)=true:=beq_iff_eq.mpr h;simp only [List.lookup,hb,if_pos (h.trans hk)]
   ·have hb:(g == k)=false:=beq_eq_false_iff_ne.mpr h;simp only [List.lookup,hb,if_neg (fun e:g=f=>h (e.trans hk.symm))]
  ·rw [if_neg hk];by_cases h:g=k
   ·have hb:(g == k)=true:=beq_iff_eq.mpr h;simp only [List.lookup,hb,if_neg (fun e:g=f=>hk (h.symm.trans e))]
   ·have hb:(g == k)=false:=beq_eq_false_iff_ne.mpr h;simp only [List.lookup,hb];exact ih
theorem zEv (f:Str) (v:V):∀ fs:List (Str×V),f∈(putF f v fs).map (·.1)∧∀ g,g∈fs.map (·.1)→g∈(putF f v fs).map (·.1)
 | []=>⟨by simp [putF],fun g h=>by simp at h⟩
 | (k,x) :: r=>by
  obtain ⟨i1,i2⟩:=zEv f v r;rw [show putF f v ((k,x) :: r)=(if k=f then (k,v) :: r else (k,x) :: putF f v r) from rfl];by_cases hk:k=f
  ·rw [if_pos hk];subst hk;exact ⟨by simp,fun g h=>by simpa using h⟩
  ·rw [if_neg hk];refine ⟨?_,fun g h=>?_⟩
   ·rw [Zp];exact Z6 _ i1
   ·rw [Zp] at h ⊢;rcases List.mem_cons.mp h with e | e
    ·exact List.mem_cons.mpr (.inl e)
    ·exact Z6 _ (i2 g e)
theorem zD5 (f:Str) (v:V):∀ fs:List (Str×V),(putF f v fs).length≤fs.length + 1
 | []=>by simp [putF]
 | (k,x) :: r=>by
  have ih:=zD5 f v r;rw [show putF f v ((k,x) :: r)=(if k=f then (k,v) :: r else (k,x) :: putF f v r) from rfl];by_cases hk:k=f
  ·rw [if_pos hk,Ze,Ze];omega
  ·rw [if_neg hk,Ze,Ze];omega
theorem RelO.some_of {v:V}{o:Option Value} (r:RelO (some v) o):∃ u,o=some u∧RelV v u:=by
 cases o with
 | none=>exact (show False from r).elim
 | some u=>exact ⟨u,rfl,r⟩
theorem RelO.none_of {o:Option Value} (r:RelO none o):o=none:=by
 cases o with
 | none=>rfl
 | some u=>exact (show False from r).elim
theorem handed_of {v:V}{u:Value} (r:RelV v u):PySem.W.handedIn u=true:=by
 cases v with
 | non=>cases (show u=Value.none from r);rfl
 | bl b=>cases (show u=Value.bool b from r);rfl
 | int i=>obtain ⟨t,e⟩:=(show ∃ t,u=Value.int i t from r);cases e;rfl
 | str x=>obtain ⟨t,e⟩:=(show ∃ t,u=Value.str x t from r);cases e;rfl
 | byt b=>obtain ⟨t,e⟩:=(show ∃ t,u=Value.bytes b t from r);cases e;rfl
 | flt b=>obtain ⟨t,e⟩:=(show ∃ t,u=Value.float b t from r);cases e;rfl
 | ref a=>cases (show u=Value.ref a from r);rfl
 | ty n=>cases (show u=Value.type n from r);rfl
section
variable {P:Program}{w:World}{H H':Hp}{h h':Heap}{a C dx:Addr}{fs fs':List (Str×V)}
theorem zEx (hok:HOk P w H h) (e:H a=some (.ins C dx fs)):∃ mA,ObjM h a dx C mA∧(∀ f,RelO (fs.lookup f) (mA f))∧PySem.Within mA (fs.map (·.1))∧fs.length≤1000∧H dx=some (.own a):=by
 obtain ⟨d,z,ne,ob,mA,n,r,q⟩:=(show ObjOk P w H h a (.ins C dx fs) from hok a _ e);exact ⟨mA,⟨ob,n,ne⟩,r,q,z,d⟩
end
structure Cls (K:PySem.W.Frag) (C:Addr):Prop where
 pg:PySem.W.plainGet K C Str.empty=true
 hd:PySem.W.hasDictIn K C=true
 po:PySem.W.plainOver K C=true
 sa:PySem.W.findIn K (.ref C) "__setattr__" = some (some (.builtin "object.__setattr__"))
theorem Cls.get {K:PySem.W.Frag}{C:Addr} (c:Cls K C) (f:Str):PySem.W.plainGet K C f=true:=c.pg
noncomputable def NoAttr (K:PySem.W.Frag) (C:Addr) (f:Str):Prop:=PySem.W.findIn K (.ref C) f=some none
theorem NoAttr.taker {K:PySem.W.Frag}{C:Addr}{f:Str} (n:NoAttr K C f):PySem.W.takerIn K C f=some none:=by
 unfold PySem.W.takerIn;rw [show PySem.W.findIn K (.ref C) f=some none from n];rfl
structure Meth (K:PySem.W.Frag) (C:Addr) (m:Str) (f:Addr):Prop where
 at_:PySem.W.findIn K (.ref C) m=some (some (.ref f))
 fn:PySem.W.isFn K (.ref f)=true
 kp:PySem.W.keepIn K (.ref f)=true
section
variable {X:Cx}{pins:List (Addr×Obj)}{σ : St}{H:Hp}{s:Shared}{a C dx:Addr}{fs:List (Str×V)}{f:Str}{v:V}{A:Around}{E:Value→Shared→Prop}
theorem getattr_ok {b:Bool}{Q:Value→Shared→Prop} (I:Inv X pins σ H s) (e:H a=some (.ins C dx fs)) (c:Cls X.K C) (n:NoAttr X.K C f) (l:fs.lookup f=some v)
  (h:∀ u s',Inv X pins σ H s'→RelV v u→Q u s'):wpAny (model X.prog X.w) A (getAttr (.ref a) f b) Q E s:=by
 obtain ⟨mA,O,r,_,_,_⟩:=zEx I.hok e;obtain ⟨u,hu,ru⟩:=RelO.some_of (v:=v) (o:=mA f) (by rw [← l];exact r f);exact get_map I.kIn O (c.get f) c.hd n hu (handed_of ru) (h u _ (I.tok _) ru)
theorem zFu {m:Str}{g:Addr}{pl:Sem Bool}{Q:Value×List Value→Shared→Prop} (I:Inv X pins σ H s) (e:H a=some (.ins C dx fs)) (c:Cls X.K C) (k:Meth X.K C m g) (l:fs.lookup m=none)
  (h:Q (.ref g,[.ref a]) s):wpAny (model X.prog X.w) A (getMethod (.ref a) m pl) Q E s:=by
 obtain ⟨mA,O,r,_,_,_⟩:=zEx I.hok e;have hn:mA m=none:=RelO.none_of (by rw [← l];exact r m);exact get_meth I.kIn O (c.get m) k.at_ k.fn hn h
theorem setattr_ok {y:V}{u:Value}{Q:Unit→Shared→Prop} (I:Inv X pins σ H s) (e:H a=some (.ins C dx fs)) (c:Cls X.K C) (n:NoAttr X.K C f) (hl:fs.length < 1000) (ry:RelV y u)
  (h:∀ s',Inv X pins σ (upd H a (.ins C dx (putF f y fs))) s'→Q () s'):wpAny (model X.prog X.w) A (setAttr (.ref a) f u) Q E s:=by
 obtain ⟨mA,O,r,wi,_,ho⟩:=zEx I.hok e;have hz:(fs.map (·.1)).length≤sizeLine:=by rw [Z0,sizeLine_eq];omega
 refine set_map I.kIn O c.sa c.po n.taker c.hd wi hz fun h' O' sb=>h _ ?_;have hd:∃ o,h'.get? dx=some o:=let ⟨o,_,_,e',_⟩:=O'.ns;⟨o,e'⟩;refine I.write (x:=a) (e:=dx) (by rw [e];exact True.intro) (.inr ho) (fun b q hb z=>(sb.2 b hb).trans z) hd ?_;refine ⟨by rw [zAa O.ne];exact ho,?_,O.ne,O'.obj,_,O'.ns,fun g=>?_,fun g hg=>?_⟩
 ·have:=zD5 f y fs;omega
 ·show RelO ((putF f y fs).lookup g) (if g=f then some u else mA g);rw [zB7];by_cases q:g=f
  ·rw [if_pos q,if_pos q];exact ry
  ·rw [if_neg q,if_neg q];exact r g
 ·by_cases q:g=f
  ·rw [q];exact (zEv f y fs).1
  ·refine (zEv f y fs).2 g (wi g fun z=>hg ?_);show (if g=f then some u else mA g)=none;rw [if_neg q];exact z
theorem Inv.made (I:Inv X pins σ H s):Inv X pins σ (upd (upd H s.heap.objs.size (.own (s.heap.objs.size + 1))) (s.heap.objs.size + 1) (.ins C s.heap.objs.size []))
  { s with heap:=(s.heap.push PySem.W.emptyDict).push (PySem.W.instObj C s.heap.objs.size) }:=by
 have e1:(s.heap.push PySem.W.emptyDict).get? s.heap.objs.size=some PySem.W.emptyDict:=Zg s.heap rfl;have e2:((s.heap.push PySem.W.emptyDict).push (PySem.W.instObj C s.heap.objs.size)).get? (s.heap.objs.size + 1)=some (PySem.W.instObj C s.heap.objs.size):=by
  have:=Zg (s.heap.push PySem.W.emptyDict) (o:=PySem.W.instObj C s.heap.objs.size) rfl
  rwa [Yq] at this
 have e3:(s.heap.push PySem.W.emptyDict).Ns s.heap.objs.size (fun _=>none):=⟨PySem.W.emptyDict,#[],_,e1,rfl,(fun e he=>absurd he (by simp)),fun _=>rfl⟩;have I1:=I.laid (a:=s.heap.objs.size) (o:=.own (s.heap.objs.size + 1)) (h':=s.heap.push PySem.W.emptyDict) (t':=s.toks) (fun b u q=>Z2 _ q) (Z5 _) ⟨_,e1⟩;refine I1.laid (a:=s.heap.objs.size + 1) (o:=.ins C s.heap.objs.size []) (t':=s.toks) (fun b u q=>Z2 _ q) (Nat.le_of_eq (Yq _ _)) ?_;have ne:s.heap.objs.size≠s.heap.objs.size + 1:=Zc (Yi _);refine ⟨by rw [zAa ne,zA1],Zz _,ne,e2,fun _=>none,(Heap.Ns1.of_empty e3).at fun o q=>Z2 _ q,fun _=>True.intro,fun y hy=>absurd rfl hy⟩
theorem attr_of {prog:Program}{w:World}{env:Env}{e:Expr}{f:Str}{pos:Pos}{s:Shared}{Q:Value→Shared→Prop} (hb:attributeBase e f env (eval e env)=eval e env)
  (h:wpAny (model prog w) A (eval e env) (fun o s₁=>wpAny (model prog w) A (getAttr o f true) Q E s₁) E s):wpAny (model prog w) A (eval (.Attribute e f pos) env) Q E s :=
 Attribute_any_ h (by rw [arm_eval_Attribute,hb])
end
noncomputable def tFld (K:PySem.W.Frag) (ta:TE) (f:Str):TE:=fun σ H Q=>ta σ H fun x H1=>∃ a C dx fs v,x=.ref a∧H1 a=some (.ins C dx fs)∧Cls K C∧NoAttr K C f∧fs.lookup f=some v∧Q v H1
noncomputable def sFld (K:PySem.W.Frag) (ta tv:TE) (f:Str):TS:=fun D σ H=>tv σ H fun y H1=>ta σ H1 fun x H2=>∃ a C dx fs,x=.ref a∧H2 a=some (.ins C dx fs)∧Cls K C∧NoAttr K C f∧fs.length < 1000 ∧
 D.nx σ (upd H2 a (.ins C dx (putF f y fs)))
section
variable {X:Cx}{o e value:Expr}{f:Str}{pos pos' tpos:Pos}{ta tv:TE}
theorem zCx (he:PE X e ta) (hb:attributeBase e f X.env (eval e X.env)=eval e X.env):PE X (.Attribute e f pos) (tFld X.K ta f):=by
 intro pins s σ H Q I h;refine attr_of hb (thn (he pins s σ H _ I h) fun u s1 ⟨x,H1,I1,rx,a,C,dx,fs,v,ex,ea,c,n,l,q⟩=>?_);subst ex;obtain rfl:u=Value.ref a:=rx;exact getattr_ok I1 ea c n l fun u' s2 I2 ru=>⟨v,H1,I2,ru,q⟩
theorem zFi (ha:PE X o ta) (hv:PE X value tv) (hs:swapsWith value (some (.Attribute o f pos')) pos.line X.env=pure false):PS X (.Assign [.Attribute o f pos'] value pos) (sFld X.K ta tv f):=by
 intro pins s σ H D I h;refine plainObj_wpAny_Assign_Attribute (thn (hv pins s σ H _ I h) fun u s1 ⟨y,H1,I1,ry,q⟩=>thn (ha pins s1 σ H1 _ I1 q) fun ov s2 ⟨x,H2,I2,rx,a,C,dx,fs,ex,ea,c,n,l,q2⟩=>?_) hs;subst ex;obtain rfl:ov=Value.ref a:=rx;exact setattr_ok I2 ea c n l ry fun s3 I3=>⟨σ,_,I3,q2⟩
theorem zEr {pl:Sem Bool}{m:Str}{apos:Pos}{args:List Expr}{pins:List (Addr×Obj)}{s:Shared}{σ : St}{H:Hp}{Q:Value→Shared→Prop}{te:TE} (he:PE X e te) (I:Inv X pins σ H s)
  (h:te σ H fun x H1=>∃ a C dx fs g,x=.ref a∧H1 a=some (.ins C dx fs)∧Cls X.K C∧Meth X.K C m g∧fs.lookup m=none ∧
   ∀ s1,Inv X pins σ H1 s1→wpAny (model X.prog X.w) X.A (callWith pos (.ref g) [.ref a] (backTo pos (starEach args X.env)) (backToKw pos (keywordEach [] X.env))) Q X.xe s1)
  (ht:eval (.Call (.Attribute e m apos) args [] pos) X.env=(do
   let ov ← eval e X.env
   standAt apos.atName
   let (f,first) ← holding [ov] (getMethod ov m pl)
   callWith pos f first (backTo pos (starEach args X.env)) (backToKw pos (keywordEach [] X.env)))) :
  wpAny (model X.prog X.w) X.A (eval (.Call (.Attribute e m apos) args [] pos) X.env) Q X.xe s:=by
 refine PySem.W.methodCall_KW (pl:=pl) (thn (he pins s σ H _ I h) fun u s1 ⟨x,H1,I1,rx,a,C,dx,fs,g,ex,ea,c,k,l,q⟩=>?_) ht;subst ex;obtain rfl:u=Value.ref a:=rx;exact zFu I1 ea c k l (q s1 I1)
end
section
variable {X:Cx}{pins:List (Addr×Obj)}{σ : St}{H:Hp}{s:Shared}{A:Around}{E:Value→Shared→Prop}{Q:Value→Shared→Prop}{c:Value}{b:Bool}
inductive TyOf (K:PySem.W.Frag) (H:Hp):V→Value→Prop where
 | non:TyOf K H .non (.type "NoneType")
 | bl (x:Bool):TyOf K H (.bl x) (.type "bool")
 | int (i:Int):TyOf K H (.int i) (.type "int")
 | str (x:Str):TyOf K H (.str x) (.type "str")
 | flt (x:UInt64):TyOf K H (.flt x) (.type "float")
 | lst {a:Addr}{xs:List V} (e:H a=some (.lst xs)):TyOf K H (.ref a) (.type "list")
 | frz {a:Addr}{o:Obj}{xs:List V} (e:H a=some (.frz o (.lst xs))):TyOf K H (.ref a) (.type "list")
 | tup {a:Addr}{xs:List V} (e:H a=some (.tup xs)):TyOf K H (.ref a) (.type "tuple")
 | dK {a:Addr}{kvs:List (Key×V)} (e:H a=some (.dK kvs)):TyOf K H (.ref a) (.type "dict")
 | dT {a:Addr}{kvs:List (List Key×V)} (e:H a=some (.dT kvs)):TyOf K H (.ref a) (.type "dict")
 | ins {a C dx:Addr}{fs:List (Str×V)} (e:H a=some (.ins C dx fs)) (cl:Cls K C) (ha:PySem.W.findIn K (.ref C) "__class__" = some (some (.builtin "object.__class__")))
   (hn:PySem.W.specialIn K (.builtin "object.__class__") "__get__" = some (some (.builtin "getset_descriptor.__get__"))) (htk:PySem.W.takesIn K (.builtin "object.__class__")=some true)
   (hm:PySem.W.mroIn K C (.type "object")=some true):TyOf K H (.ref a) (.ref C)
theorem isinst_ok {x:V}{u t:Value} (I:Inv X pins σ H s) (rx:RelV x u) (ty:TyOf X.K H x t) (e:PySem.W.kitOne X.K t c=some b) (h:∀ tk,Q (.bool b) { s with toks:=tk }) :
  wpAny (model X.prog X.w) A (call (.builtin "isinstance") [u,c]) Q E s:=by
 cases ty with
 | non=>cases (show u=Value.none from rx);exact PySem.W.kia_one PySem.W.kitx_none I.kIn True.intro e (fun z=>nomatch z) h
 | bl y=>cases (show u=Value.bool y from rx);exact PySem.W.kia_one PySem.W.kitx_bool I.kIn True.intro e (fun z=>nomatch z) h
 | int i=>obtain ⟨t,q⟩:=(show ∃ t,u=Value.int i t from rx);cases q;exact PySem.W.kia_one PySem.W.kitx_int I.kIn True.intro e (fun z=>nomatch z) h
 | str y=>obtain ⟨t,q⟩:=(show ∃ t,u=Value.str y t from rx);cases q;exact PySem.W.kia_one PySem.W.kitx_str I.kIn True.intro e (fun z=>nomatch z) h
 | flt y=>obtain ⟨t,q⟩:=(show ∃ t,u=Value.float y t from rx);cases q;exact PySem.W.kia_one PySem.W.kitx_float I.kIn True.intro e (fun z=>nomatch z) h
 | @lst a xs ea =>
  cases (show u=Value.ref a from rx);obtain ⟨_,_,n,_,h1⟩:=(show ObjOk X.prog X.w H s.heap a (.lst xs) from I.hok a _ ea);exact PySem.W.kia_one PySem.W.kitx_list I.kIn ⟨_,h1,rfl⟩ e (fun z=>nomatch z) h
 | @frz a ob xs ea =>
  cases (show u=Value.ref a from rx);obtain ⟨_,_,_,n,_,h1⟩:=(show ObjOk X.prog X.w H s.heap a (.frz ob (.lst xs)) from I.hok a _ ea);exact PySem.W.kia_one PySem.W.kitx_list I.kIn ⟨_,h1,rfl⟩ e (fun z=>nomatch z) h
 | @tup a xs ea =>
  cases (show u=Value.ref a from rx);obtain ⟨_,_,_,p⟩:=(show ObjOk X.prog X.w H s.heap a (.tup xs) from I.hok a _ ea);obtain ⟨o,h1,h2,_⟩:=p;exact PySem.W.kia_one PySem.W.kitx_tuple I.kIn ⟨o,h1,h2⟩ e (fun z=>nomatch z) h
 | @dK a kvs ea =>
  cases (show u=Value.ref a from rx);obtain ⟨_,_,vs,_,p⟩:=(show ObjOk X.prog X.w H s.heap a (.dK kvs) from I.hok a _ ea);obtain ⟨o,es,ep,h1,h2,_⟩:=p;exact PySem.W.kia_one PySem.W.kitx_dict I.kIn ⟨o,h1,h2.1⟩ e (fun z=>nomatch z) h
 | @dT a kvs ea =>
  cases (show u=Value.ref a from rx);obtain ⟨_,_,xs,_,o,es,ep,h1,h2,_⟩:=(show ObjOk X.prog X.w H s.heap a (.dT kvs) from I.hok a _ ea);exact PySem.W.kia_one PySem.W.kitx_dict I.kIn ⟨o,h1,h2.1⟩ e (fun z=>nomatch z) h
 | @ins a C dx fs ea cl ha hn htk hm =>
  cases (show u=Value.ref a from rx);obtain ⟨mA,O,_⟩:=zEx I.hok ea;obtain ⟨od,J,_⟩:=O.look;exact PySem.W.kia_one (PySem.W.kitx_own (cl.get _) cl.hd ha hn htk hm) I.kIn J e (fun z=>nomatch z) h
end
end L2
namespace L2
open PySem PySem.Spec PyProof.Rows
structure Room (k:Nat) (A:Around):Prop where
 hd:A.handled=none
 dp:A.depth + 3 * k + 5 < recursionLimit
 un:A.units + 16 * k + 200 < cLine
theorem Room.mono {j k:Nat}{A:Around} (r:Room k A) (h:j≤k):Room j A:=⟨r.hd,by have:=r.dp;omega,by have:=r.un;omega⟩
theorem Room.deeper {k:Nat}{A:Around} (r:Room (k + 1) A) (env:Env):Room k (A.deeper env) :=
 ⟨r.hd,by have:=r.dp;show A.depth + 1 + 3 * k + 5 < _;omega,by have:=r.un;show A.units + 3 + 16 * k + 200 < _;omega⟩
theorem Room.in1 {k:Nat}{A:Around} (r:Room (k + 1) A):Room k A.in1 :=
 ⟨r.hd,by have:=r.dp;show A.depth + 3 * k + 5 < _;omega,by have:=r.un;show A.units + 1 + 16 * k + 200 < _;omega⟩
theorem make_depth {A:Around}{C:Addr}{us:List Value}{kw:List (Str×Value)}:(A.under (.builtin "type.__call__" ⟨.ref C :: us,kw⟩)).depth=A.depth + 1:=by
 first | rfl | simp [Around.under,Code.weight,Code.isCreation,Code.isGuard,Code.isCaller,Code.frames,Code.isFrame,guardIds]
theorem make_units {A:Around}{C:Addr}{us:List Value}{kw:List (Str×Value)}:(A.under (.builtin "type.__call__" ⟨.ref C :: us,kw⟩)).units=A.units + 1:=by
 first | rfl | simp [Around.under,Code.cUnits,Code.frames,Code.isFrame]
theorem Room.make {k:Nat}{A:Around} (r:Room (k + 1) A) (C:Addr) (us:List Value) (kw:List (Str×Value)):Room k (A.under (.builtin "type.__call__" ⟨.ref C :: us,kw⟩)) :=
 ⟨r.hd,by have:=r.dp;rw [make_depth];omega,by have:=r.un;rw [make_units];omega⟩
theorem Room.depth {k:Nat}{A:Around} (r:Room k A):A.depth < recursionLimit:=by have:=r.dp;omega
theorem Room.units {k:Nat}{A:Around} (r:Room k A):A.units + 64 < cLine:=by have:=r.un;omega
noncomputable def tNil:TA:=fun _ H Q=>Q [] H
noncomputable def tCons (ta:TE) (tr:TA):TA:=fun σ H Q=>ta σ H fun x H1=>tr σ H1 fun xs H2=>Q (x :: xs) H2
section
variable {X:Cx}{e:Expr}{es:List Expr}{te:TE}{t:TA}{pos:Pos}
theorem zA2:PA X [] tNil:=fun _ _ _ _ H Q I h=>Calls.spliced_nil ⟨[],H,I,.nil,h⟩
theorem zA0 (ha:PE X e te) (hr:PA X es t) (hs:starEach (e :: es) X.env=(false,eval e X.env) :: starEach es X.env:=by rfl):PA X (e :: es) (tCons te t):=by
 intro pos pins s σ H Q I h;rw [hs];show wpAny _ _ (spliced ((false,eval e X.env) :: backTo pos (starEach es X.env))) _ _ s;refine Calls.spliced_cons (thn (ha pins s σ H _ I h) fun u s1 ⟨x,H1,I1,r1,q1⟩=>?_);exact thn (hr pos pins s1 σ H1 _ I1 q1) fun us s2 ⟨xs,H2,I2,r2,q2⟩=>⟨x :: xs,H2,I2,.cons r1 r2,q2⟩
noncomputable def tTup (t:TA):TE:=fun σ H Q=>t σ H fun xs H1=>xs.length≤sizeLine∧∀ p,H1 p=none→Q (.ref p) (upd H1 p (.tup xs))
noncomputable def tLst (t:TA):TE:=fun σ H Q=>t σ H fun xs H1=>xs.length≤sizeLine∧∀ p,H1 p=none→Q (.ref p) (upd H1 p (.lst xs))
theorem zBc {x1} (h:PA X es t):PE X (.Tuple es x1 pos) (tTup t):=by
 intro pins s σ H Q I hq;refine wpAny_Tuple_spliced (thn (h pos pins s σ H _ I hq) fun us s1 ⟨xs,H1,I1,r,z,q⟩=>⟨by rw [← r.length];exact z,?_⟩);have hf:H1 s1.heap.objs.size=none:=I1.hok.fresh (Z5 _);refine ⟨.ref s1.heap.objs.size,upd H1 s1.heap.objs.size (.tup xs),I1.laid (t':=s1.toks) (fun b u e=>Z2 _ e) (Z5 _) ?_,rfl,q _ hf⟩;exact ⟨z,us,r,⟨_,Zg _ rfl,rfl,_,rfl⟩⟩
theorem zAr (h:PA X es t):PE X (.List es pos) (tLst t):=by
 intro pins s σ H Q I hq;refine wpAny_List_spliced (thn (h pos pins s σ H _ I hq) fun us s1 ⟨xs,H1,I1,r,z,q⟩=>⟨by rw [← r.length];exact z,?_⟩);have hf:H1 s1.heap.objs.size=none:=I1.hok.fresh (Z5 _);refine ⟨.ref s1.heap.objs.size,upd H1 s1.heap.objs.size (.lst xs),I1.laid (t':=s1.toks) (fun b u e=>Z2 _ e) (Z5 _) ?_,rfl,q _ hf⟩;exact ⟨z,us,0,r,Zg _ rfl⟩
end
noncomputable abbrev Sp:=List V→Hp→VK→XK→Prop
noncomputable abbrev CXT:=List Env→Hp→Shared→XK→Value→Shared→Prop
structure Env0 (P:Program) (w:World) (K:PySem.W.Frag) (mg:Str→Option Value) (base:Heap) (A:Around) (outer:List Env) (s:Shared) (H:Hp):Prop where
 frames:A.frames=some outer
 mod:Mod K mg base
 bs:∀ b o,base.get? b=some o→s.heap.get? b=some o∧H b=none
 bsz:base.objs.size≤s.heap.objs.size
 funs:s.heap.FunFrames base outer
 frf:∀ b∈frs outer,H b=none
 hok:HOk P w H s.heap
 bare:AllBare s.gens
noncomputable def CE (outer:List Env) (P:Program) (w:World) (H:Hp) (s:Shared) (Q:VK) (u:Value) (s':Shared):Prop :=
 ∃ v H',s'.os=s.os∧AllBare s'.gens∧Un (frs outer) [] H H' s.heap s'.heap∧HOk P w H' s'.heap∧RelV v u∧Q v H'
noncomputable def CR (CX:CXT) (outer:List Env) (P:Program) (w:World) (H:Hp) (s:Shared) (Q:VK) (E:XK) (r:Result) (s':Shared):Prop :=
 match r with
 | .ok (.ret u)=>CE outer P w H s Q u s'
 | .ok _=>False
 | .error e=>CX outer H s E e s'
structure FnOk (P:Program) (w:World) (K:PySem.W.Frag) (mg:Str→Option Value) (base:Heap) (CX:CXT) (k:Nat) (f:Addr) (fd:FuncData) (ps:List Str) (sp:Sp):Prop where
 len:∀ vs H Q E,sp vs H Q E→vs.length=ps.length
 run:∀ (A:Around) (outer:List Env) (s:Shared) (H:Hp) (args:Args) (us:List Value) (vs:List V) (Q:VK) (E:XK),Room k A→Env0 P w K mg base A outer s H→BindsTo s fd args (ps.zip us)→Vals vs us→sp vs H Q E →
  codeAny (model P w) A (.call (.ref f) args) (CR CX outer P w H s Q E) s
theorem FnOk.imp {P:Program}{w:World}{K:PySem.W.Frag}{mg:Str→Option Value}{base:Heap}{CX:CXT}{k:Nat}{f:Addr}{fd:FuncData}{ps:List Str}{sp sp':Sp} (F:FnOk P w K mg base CX k f fd ps sp)
  (h:∀ vs H Q E,sp' vs H Q E→sp vs H Q E):FnOk P w K mg base CX k f fd ps sp' :=
 ⟨fun vs H Q E q=>F.len vs H Q E (h _ _ _ _ q),fun A outer s H args us vs Q E hr he hb hv hs=>F.run A outer s H args us vs Q E hr he hb hv (h _ _ _ _ hs)⟩
theorem Env0.make {P:Program}{w:World}{K:PySem.W.Frag}{mg:Str→Option Value}{base:Heap}{A:Around}{outer:List Env}{s:Shared}{H:Hp} (e:Env0 P w K mg base A outer s H) (C:Addr) (us:List Value) (kw:List (Str×Value)) :
  Env0 P w K mg base (A.under (.builtin "type.__call__" ⟨.ref C :: us,kw⟩)) outer s H:=⟨by first | exact e.frames | (simpa [Around.under,Code.envs,Code.isFrame,pushEnvs] using e.frames),e.mod,e.bs,e.bsz,e.funs,e.frf,e.hok,e.bare⟩
section
variable {X:Cx}{pins:List (Addr×Obj)}{σ : St}{H:Hp}{s s':Shared}
theorem Inv.env0 (I:Inv X pins σ H s):Env0 X.prog X.w X.K X.mg X.base X.A X.stack s H :=
 ⟨I.ok.frames,I.ok.mod,I.bs,Zd I.ok.bsz I.sz,I.stack,I.stkFree,I.hok,I.bare⟩
theorem Inv.after {Q:VK}{u:Value} (I:Inv X pins σ H s) (h:CE X.stack X.prog X.w H s Q u s'):EP X pins σ Q u s':=by
 obtain ⟨v,H',os,bare,un,hok,r,q⟩:=h;obtain ⟨hh,g,d,t,os'⟩:=s';obtain rfl:os'=s.os:=os;exact ⟨v,H',I.call (h':=hh) (g':=g) (d':=d) (t':=t) (ch:=[]) un hok bare (fun b z=>absurd z (by simp)),r,q⟩
end
noncomputable def tCall (sp:Sp) (dvs:List V) (E:St→XK) (t:TA):TE:=fun σ H Q=>t σ H fun vs H1=>sp (vs++dvs) H1 Q (E σ)
noncomputable def tMeth (C:Addr) (m:Str) (sp:Sp) (dvs:List V) (E:St→XK) (ta:TE) (t:TA):TE:=fun σ H Q=>ta σ H fun x H1=>∃ a dx fs,x=.ref a∧H1 a=some (.ins C dx fs)∧fs.lookup m=none ∧
 t σ H1 fun vs H2=>sp (x :: (vs++dvs)) H2 Q (E σ)
noncomputable def tMake (C:Addr) (sp:Sp) (dvs:List V) (E:St→XK) (t:TA):TE:=fun σ H Q=>t σ H fun vs H1=>∀ x dx,H1 x=none→H1 dx=none→dx≠x →
 sp (.ref x :: (vs++dvs)) (upd (upd H1 dx (.own x)) x (.ins C dx [])) (fun v H2=>v=.non∧Q (.ref x) H2) (E σ)
noncomputable def Binds (K:PySem.W.Frag) (fd:FuncData) (ps:List Str) (ds:List Value):Prop :=
 ∀ (s:Shared) (us:List Value),K.In s.heap→(us++ds).length=ps.length→BindsTo s fd ⟨us,[]⟩ (ps.zip (us++ds))
theorem Binds.all {K:PySem.W.Frag}{fd:FuncData}{ps:List Str} (h:∀ us:List Value,us.length=ps.length→bindArgs fd ⟨us,[]⟩=pure (ps.zip us)):Binds K fd ps []:=fun s us _ hl=>by
 rw [List.append_nil] at hl ⊢;exact .of_eq (h us hl)
noncomputable def Passes (CX:CXT) (X:Cx) (E:St→XK):Prop:=∀ (pins:List (Addr×Obj)) (σ : St) (H:Hp) (s:Shared) (e:Value) (s':Shared),Inv X pins σ H s→CX X.stack H s (E σ) e s'→X.xe e s'
section
variable {X:Cx}{CX:CXT}{k:Nat}{f C:Addr}{fd:FuncData}{ps:List Str}{sp:Sp}{dvs:List V}{ds:List Value}{E:St→XK}{x m:Str}{p pos apos:Pos}{e o:Expr}{es:List Expr}{ta:TE}{t:TA}
theorem run_fn {pins:List (Addr×Obj)}{σ : St}{H:Hp}{s:Shared}{Q:VK}{us:List Value}{vs:List V} (F:FnOk X.prog X.w X.K X.mg X.base CX k f fd ps sp) (hr:Room k X.A) (hb:Binds X.K fd ps ds) (hd:Vals dvs ds) (hx:Passes CX X E)
  (I:Inv X pins σ H s) (r:Vals vs us) (h:sp (vs++dvs) H Q (E σ)):wpAny (model X.prog X.w) X.A (call (.ref f) us) (EP X pins σ Q) X.xe s:=by
 have r2:Vals (vs++dvs) (us++ds):=r.append hd;have hl:(us++ds).length=ps.length:=by rw [← r2.length];exact F.len _ _ _ _ h
 refine wpAny_call (codeAny_mono (F.run X.A X.stack s H ⟨us,[]⟩ (us++ds) (vs++dvs) Q (E σ) hr I.env0 (hb s us I.kIn hl) r2 h) fun r s' hq=>?_);cases r with
 | error e=>exact hx pins σ H s e s' I hq
 | ok fl =>
  cases fl with
  | ret u=>exact I.after hq
  | next=>exact False.elim hq
  | brk=>exact False.elim hq
  | cont=>exact False.elim hq
theorem zA7 (F:FnOk X.prog X.w X.K X.mg X.base CX k f fd ps sp) (hr:Room k X.A) (hg:Gl X x) (hm:X.mg x=some (.ref f)) (hk:PySem.W.keepIn X.K (.ref f)=true) (hb:Binds X.K fd ps ds) (hd:Vals dvs ds) (hx:Passes CX X E)
  (ha:PA X (e :: es) t) (hdb:(x == ("__debug__" : Str))=false:=by decide) (he:starEach (e :: es) X.env=(false,eval e X.env) :: starEach es X.env:=by rfl) (hpl:(backTo pos (starEach es X.env)).any (·.1)=false:=by rfl) :
  PE X (.Call (.Name x p) (e :: es) [] pos) (tCall sp dvs E t):=by
 intro pins s σ H Q I h;refine wpAny_Call_Name_kw (zDt I hg hm ?_ hdb);refine PySem.W.callWith_K (h₀:=X.base) I.ok.mod.kin hk (thn (ha pos pins s σ H _ I h) fun us s1 ⟨vs,H1,I1,r,q⟩=>⟨I1.kIn,?_⟩) he hpl;exact run_fn F hr hb hd hx I1 r q
theorem zEk {pl:Sem Bool} (he:PE X o ta) (c:Cls X.K C) (hm:Meth X.K C m f) (F:FnOk X.prog X.w X.K X.mg X.base CX k f fd ps sp) (hr:Room k X.A) (hb:Binds X.K fd ps ds) (hd:Vals dvs ds) (hx:Passes CX X E) (ha:PA X (e :: es) t)
  (hst:starEach (e :: es) X.env=(false,eval e X.env) :: starEach es X.env:=by rfl) (hpl:(backTo pos (starEach es X.env)).any (·.1)=false:=by rfl)
  (ht:eval (.Call (.Attribute o m apos) (e :: es) [] pos) X.env=(do
   let ov ← eval o X.env
   standAt apos.atName
   let (f,first) ← holding [ov] (getMethod ov m pl)
   callWith pos f first (backTo pos (starEach (e :: es) X.env)) (backToKw pos (keywordEach [] X.env))):=by rfl) :
  PE X (.Call (.Attribute o m apos) (e :: es) [] pos) (tMeth C m sp dvs E ta t):=by
 intro pins s σ H Q I h;refine PySem.W.methodCall_KW (pl:=pl) (thn (he pins s σ H _ I h) fun u s1 ⟨x,H1,I1,rx,a,dx,fs,ex,ea,l,q⟩=>?_) ht;subst ex;obtain rfl:u=Value.ref a:=rx;refine zFu I1 ea c hm l ?_;refine PySem.W.callWith_K (first:=[.ref a]) (h₀:=X.base) I.ok.mod.kin hm.kp (thn (ha pos pins s1 σ H1 _ I1 q) fun us s2 ⟨vs,H2,I2,r,q2⟩=>⟨I2.kIn,?_⟩) hst hpl;exact run_fn (us:=.ref a :: us) (vs:=.ref a :: vs) F hr hb hd hx I2 (.cons rfl r) q2
structure Mk (K:PySem.W.Frag) (C f:Addr):Prop where
 makes:PySem.W.makesIn K C=true
 init:PySem.W.findIn K (.ref C) "__init__" = some (some (.ref f))
 fn:PySem.W.isFn K (.ref f)=true
 kp:PySem.W.keepIn K (.ref C)=true
theorem run_make {pins:List (Addr×Obj)}{σ : St}{H:Hp}{s:Shared}{Q:VK}{us:List Value}{vs:List V} (M:Mk X.K C f) (F:FnOk X.prog X.w X.K X.mg X.base CX k f fd ps sp) (hr:Room (k + 1) X.A) (hb:Binds X.K fd ps ds) (hd:Vals dvs ds)
  (hx:Passes CX X E) (I:Inv X pins σ H s) (r:Vals vs us)
  (h:∀ x dx,H x=none→H dx=none→dx≠x→sp (.ref x :: (vs++dvs)) (upd (upd H dx (.own x)) x (.ins C dx [])) (fun v H2=>v=.non∧Q (.ref x) H2) (E σ)) :
  wpAny (model X.prog X.w) X.A (call (.ref C) us) (EP X pins σ Q) X.xe s:=by
 have hq:=h (s.heap.objs.size + 1) s.heap.objs.size (I.hok.fresh (Nat.le_succ _)) (I.hok.fresh (Z5 _)) (Zc (Yi _));have I2:=Inv.made (C:=C) I;have r2:Vals (V.ref (s.heap.objs.size + 1) :: (vs++dvs)) (Value.ref (s.heap.objs.size + 1) :: (us++ds)):=.cons rfl (r.append hd);have hl:(Value.ref (s.heap.objs.size + 1) :: us++ds).length=ps.length:=by
  have e:=r2.length;rw [F.len _ _ _ _ hq] at e;exact e.symm
 refine wpAny_call (make_map (f:=f) I.kIn M.makes M.init (beq_iff_eq.mp M.fn) (codeAny_mono (F.run _ X.stack _ _ ⟨Value.ref (s.heap.objs.size + 1) :: us,[]⟩ (Value.ref (s.heap.objs.size + 1) :: (us++ds)) _ _ (E σ) (hr.make C us [])
  (I2.env0.make C us []) (hb _ (Value.ref (s.heap.objs.size + 1) :: us) I2.kIn hl) r2 hq) fun r s' hq'=>?_))
 cases r with
 | error e=>exact hx pins σ _ _ e s' I2 hq'
 | ok fl =>
  cases fl with
  | ret u =>
   obtain ⟨v,H',I3,rv,ev,q3⟩:=I2.after hq';subst ev;exact ⟨rv,⟨V.ref (s.heap.objs.size + 1),H',I3,rfl,q3⟩⟩
  | next=>exact False.elim hq'
  | brk=>exact False.elim hq'
  | cont=>exact False.elim hq'
theorem zG4 (M:Mk X.K C f) (F:FnOk X.prog X.w X.K X.mg X.base CX k f fd ps sp) (hr:Room (k + 1) X.A) (hg:Gl X x) (hm:X.mg x=some (.ref C)) (hb:Binds X.K fd ps ds) (hd:Vals dvs ds) (hx:Passes CX X E)
  (ha:PA X (e :: es) t) (hdb:(x == ("__debug__" : Str))=false:=by decide) (he:starEach (e :: es) X.env=(false,eval e X.env) :: starEach es X.env:=by rfl) (hpl:(backTo pos (starEach es X.env)).any (·.1)=false:=by rfl) :
  PE X (.Call (.Name x p) (e :: es) [] pos) (tMake C sp dvs E t):=by
 intro pins s σ H Q I h;refine wpAny_Call_Name_kw (zDt I hg hm ?_ hdb);refine PySem.W.callWith_K (h₀:=X.base) I.ok.mod.kin M.kp (thn (ha pos pins s σ H _ I h) fun us s1 ⟨vs,H1,I1,r,q⟩=>⟨I1.kIn,?_⟩) he hpl;exact run_make M F hr hb hd hx I1 r q
end
section
variable {X:Cx}{CX:CXT}{k:Nat}{f C:Addr}{fd:FuncData}{ps ks:List Str}{sp:Sp}{E:St→XK}{x m:Str}{p pos apos kpos:Pos}{e o:Expr}{es:List Expr}{kws:List Keyword}{te ta:TE}{t tk:TA}{nm:Option Str}
variable {g:List Value→List Value→List Value}{gV:List V→List V→List V}
end
structure FnScope (N P:List Str) (sc:Scope):Prop where
 kind:sc.kind=.function
 co:sc.isCoroutine=false
 gen:sc.isGenerator=false
 nd:N.Nodup
 pre:N.take P.length=P
 par:∀ x∈P,sc.names.lookup x=some .local∨sc.names.lookup x=some .cell
 nofree:∀ y∈sc.names,y.2≠.free
theorem bindL_out {kindOf:Str→Option NameKind}{x:Str}:∀ {binds:List (Str×Value)}{m:Str→Option Value},(∀ v,(x,v)∉binds)→bindL kindOf binds m x=m x
 | [],_,_=>rfl
 | (n,v) :: r,m,h=>by
  unfold bindL;rw [bindL_out fun w hw=>h w (Z6 _ hw)];split
  ·have:x≠n:=by rintro rfl;exact h v Z9
   simp [this]
  ·rfl
theorem bindC_out {kindOf:Str→Option NameKind}{x:Str}:∀ {binds:List (Str×Value)}{m:Str→Option Value},(∀ v,(x,v)∉binds)→bindC kindOf binds m x=m x
 | [],_,_=>rfl
 | (n,v) :: r,m,h=>by
  unfold bindC;rw [bindC_out fun w hw=>h w (Z6 _ hw)];split
  ·rfl
  ·have:x≠n:=by rintro rfl;exact h v Z9
   simp [this]
theorem bindL_get {kindOf:Str→Option NameKind}{x:Str}{v:Value}:∀ {P:List Str}{vs:List Value}{i:Nat}{m:Str→Option Value},P.Nodup→P[i]? = some x→vs[i]? = some v→kindOf x=some .local →
  bindL kindOf (P.zip vs) m x=some v
 | [],_,_,_,_,h,_,_=>by simp at h
 | _ :: _,[],_,_,_,_,h,_=>by simp at h
 | p :: P,w :: vs,0,m,nd,h1,h2,hk=>by
  simp at h1 h2;subst h1;subst h2;show bindL kindOf ((p,w) :: P.zip vs) m p=_;unfold bindL;rw [bindL_out fun v hv=>(List.nodup_cons.mp nd).1 (List.of_mem_zip hv).1,if_pos hk];simp
 | p :: P,w :: vs,i + 1,m,nd,h1,h2,hk=>by
  show bindL kindOf ((p,w) :: P.zip vs) m x=_;unfold bindL;exact bindL_get (i:=i) (List.nodup_cons.mp nd).2 (by simpa using h1) (by simpa using h2) hk
theorem bindC_get {kindOf:Str→Option NameKind}{x:Str}{v:Value}:∀ {P:List Str}{vs:List Value}{i:Nat}{m:Str→Option Value},P.Nodup→P[i]? = some x→vs[i]? = some v→kindOf x≠some .local →
  bindC kindOf (P.zip vs) m x=some v
 | [],_,_,_,_,h,_,_=>by simp at h
 | _ :: _,[],_,_,_,_,h,_=>by simp at h
 | p :: P,w :: vs,0,m,nd,h1,h2,hk=>by
  simp at h1 h2;subst h1;subst h2;show bindC kindOf ((p,w) :: P.zip vs) m p=_;unfold bindC;rw [bindC_out fun v hv=>(List.nodup_cons.mp nd).1 (List.of_mem_zip hv).1,if_neg hk];simp
 | p :: P,w :: vs,i + 1,m,nd,h1,h2,hk=>by
  show bindC kindOf ((p,w) :: P.zip vs) m x=_;unfold bindC;exact bindC_get (i:=i) (List.nodup_cons.mp nd).2 (by simpa using h1) (by simpa using h2) hk
noncomputable def start (N:List Str) (vs:List V):St:=vs.map some++List.replicate (N.length - vs.length) none
noncomputable def cxOf (CX:CXT) (P:Program) (w:World) (K:PySem.W.Frag) (mg:Str→Option Value) (base:Heap) (N:List Str) (qual:Str) (scope:Scope) (f:Addr) (cd:Value) (A:Around) (outer:List Env) (s:Shared) (H:Hp) (E:XK):Cx where
 prog:=P
 w:=w
 K:=K
 mg:=mg
 base:=base
 A:=A.deeper (envOfC qual scope s.heap.objs.size f cd)
 N:=N
 s₀:=s
 H₀:=H
 env:=envOfC qual scope s.heap.objs.size f cd
 outer:=outer
 stack:=envOfC qual scope s.heap.objs.size f cd :: outer
 ex:=[]
 calm:=true
 fn:=fun _=>true
 pn:=[]
 xe:=fun e s'=>wpAny (model P w) (A.deeper (envOfC qual scope s.heap.objs.size f cd)) (leaving (envOfC qual scope s.heap.objs.size f cd) e) (fun _ s''=>CX outer H s E e s'') (fun e' s''=>CX outer H s E e' s'') s'
theorem cell_has {sc:Scope}{n:Nat}{x:Str} (h:sc.names.lookup x=some .cell):∃ c,(cellsFrom n sc.names []).lookup x=some c:=by
 have q:=PySem.W.cellsFrom_some sc.names n [] (.inl h);exact Option.isSome_iff_exists.mp q
theorem inv_start {CX:CXT}{P:Program}{w:World}{K:PySem.W.Frag}{mg:Str→Option Value}{base:Heap}{N ps:List Str}{qual:Str}{scope:Scope}{f:Addr}{cd:Value}{A:Around}{outer:List Env}{s s1:Shared}{H:Hp}{E:XK}{us:List Value}{vs:List V}
  (S:FnScope N ps scope) (hd:A.handled=none) (e0:Env0 P w K mg base A outer s H) (hl:vs.length=ps.length) (r:Vals vs us)
  (x:InCallC s s.heap.objs.size (bindL (envOfC qual scope s.heap.objs.size f cd).kindOf (ps.zip us) fun _=>none) (cellsFrom (s.heap.objs.size + 1) scope.names []) (bindC (envOfC qual scope s.heap.objs.size f cd).kindOf (ps.zip us) fun _=>none) s1) :
  Inv (cxOf CX P w K mg base N qual scope f cd A outer s H E) [] (start N vs) H s1:=by
 have hpl:ps.length≤N.length:=by have:=congrArg List.length S.pre;rw [Zt] at this;omega
 obtain ⟨h1,tk,rfl,hk⟩:=x.done;have noA:∀ b:Addr,b∉(cxOf CX P w K mg base N qual scope f cd A outer s H E).ex:=fun b z=>absurd (show b∈([]:List Addr) from z) (by simp)
 refine ⟨⟨e0.mod,S.kind,rfl,rfl,Z5 _,fun y z c h1 h2=>?_,fun y hy=>?_,fun y c _ h=>?_,fun _=>hd,Around.frames_deeper e0.frames,.inr ⟨rfl,rfl⟩,fun b z=>absurd z (noA b),e0.bs,e0.bsz,fun b _ _=>noA b,fun b z=>absurd z (noA b),e0.funs,e0.frf⟩,
  rfl,e0.bare,Un.kept hk,⟨_,x.toInCall.ns,fun i y v h1 h2 h3=>?_⟩,fun y c h=>⟨_,x.cell y c h⟩,e0.hok.fresh (Z5 _),fun y c h=>?_,fun p hp=>absurd (show p∈([]:List (Addr×Obj)) from hp) (by simp),e0.hok.kept hk,?_⟩
 ·exact name_of_addr x.apart (PySem.mem_of_lookup h1) (PySem.mem_of_lookup h2)
 ·have hy:scope.names.lookup y=some .cell∨scope.names.lookup y=some .free:=hy;rcases hy with hy | hy
  ·exact cell_has hy
  ·exact absurd rfl (S.nofree _ (PySem.mem_of_lookup hy))
 ·exact Zl (x.above y c (PySem.mem_of_lookup h))
 ·have hi:i < vs.length:=by
   unfold start at h2;by_cases hi:i < vs.length
   ·exact hi
   ·rw [Zw (by simpa using hi)] at h2;rw [List.getElem?_replicate] at h2;split at h2 <;> cases h2
  have ha:vs[i]? = some v:=by
   unfold start at h2;rw [Zo (by simpa using hi),Za] at h2;cases e:vs[i]? with
   | none=>rw [e] at h2;cases h2
   | some a=>rw [e] at h2;cases h2;rfl
  obtain ⟨u,hu,rv⟩:=r.get ha;have hp:ps[i]? = some y:=by
   rw [← S.pre,List.getElem?_take_of_lt (by omega)];exact h1
  have ndP:ps.Nodup:=by rw [← S.pre];exact S.nd.sublist (List.take_sublist _ _)
  refine ⟨u,rv,?_⟩;rcases S.par y (Z3 hp) with k | k
  ·exact .inl ⟨k,bindL_get ndP hp hu k⟩
  ·obtain ⟨c,e⟩:=cell_has (n:=s.heap.objs.size + 1) k;refine .inr ⟨.inl k,c,e,?_⟩;have q:=x.cell y c e;rw [bindC_get ndP hp hu (by show scope.names.lookup y≠_;rw [k];decide)] at q;exact q
 ·exact e0.hok.fresh (Zl (x.above y c (PySem.mem_of_lookup h)))
 ·unfold start;show _=N.length;rw [Z4,Z0,Y6];omega
theorem fn_of {CX:CXT}{P:Program}{w:World}{K:PySem.W.Frag}{mg:Str→Option Value}{base:Heap}{k:Nat}{f:Addr}{name qual:Str}{params:Arguments}{body:List Stmt}{scope:Scope}{dV kV doc pm cdv ct oc:Value}{an od:Option Addr}
  {osl:Array (Option Value)}{N ps:List Str}{sp:Sp} (lk:K.lookup f=some ⟨oc,od,.func (PySem.W.fnOf name qual params body scope dV kV doc pm an cdv ct),osl⟩) (hcd:PySem.W.codeIn K cdv qual=true) (S:FnScope N ps scope)
  (len:∀ vs H Q E,sp vs H Q E→vs.length=ps.length)
  (hbody:∀ (A:Around) (outer:List Env) (s:Shared) (H:Hp) (vs:List V) (Q:VK) (E:XK),Room k (A.deeper (envOfC qual scope s.heap.objs.size f cdv))→sp vs H Q E →
   ∃ t,PSs (cxOf CX P w K mg base N qual scope f cdv A outer s H E) body t∧t { nx:=fun _ H'=>Q .non H',rt:=Q } (start N vs) H) :
  FnOk P w K mg base CX (k + 1) f (PySem.W.fnOf name qual params body scope dV kV doc pm an cdv ct) ps sp:=by
 refine ⟨len,fun A outer s H args us vs Q E hr e0 hb r hsp=>?_⟩;have hl:=len _ _ _ _ hsp;have KX:K.In s.heap:=e0.mod.kin.keeps fun b o e=>(e0.bs b o e).1;have lim:s.heap.NoLimit:=e0.mod.nolimit.keeps fun b o e=>(e0.bs b o e).1;have hkind:∀ y∈ps.zip us,scope.names.lookup y.1=some .local∨(scope.names.lookup y.1=some .cell∧((cellsFrom (s.heap.objs.size + 1) scope.names []).lookup y.1).isSome=true):=fun ⟨n,v⟩ hy=>by
  rcases S.par n (List.of_mem_zip hy).1 with q | q
  ·exact .inl q
  ·exact .inr ⟨q,PySem.W.cellsFrom_some _ _ _ (.inl q)⟩
 refine codeAny_call_function hr.depth (KX _ _ lk) rfl S.co S.gen rfl (PySem.W.codeRec_of KX hcd) (hb _ _ _ _ ?_);refine wpAny_newFunctionEnv_cells S.kind hkind fun env he s1 x=>?_;subst he;refine ⟨lim.keeps x.toInCall.keep,codeAny_func ?_⟩;obtain ⟨t,ht,hq⟩:=hbody A outer s H vs Q E (hr.deeper _) hsp;have I:Inv (cxOf CX P w K mg base N qual scope f cdv A outer s H E) [] (start N vs) H s1:=inv_start S hr.hd e0 hl r x;refine wpAny_mono (ht [] s1 (start N vs) H _ I hq) (fun fl s' hs=>?_) fun e s' hs=>hs;have fin:∀ {σ':St}{H':Hp}{v:V}{u:Value},Inv (cxOf CX P w K mg base N qual scope f cdv A outer s H E) [] σ' H' s'→RelV v u→Q v H'→CE outer P w H s Q u s' :=
  fun {σ' H' v u} J rv q=>⟨v,H',J.os,J.bare,J.base,J.hok,rv,q⟩
 cases fl with
 | ret u =>
  obtain ⟨v,σ',H',J,rv,q⟩:=hs;exact fin J rv q
 | next =>
  obtain ⟨σ',H',J,q⟩:=hs;exact fin (v:=V.non) (u:=Value.none) J rfl q
 | brk =>
  obtain ⟨_,_,_,q⟩:=hs;exact False.elim q
 | cont =>
  obtain ⟨_,_,_,q⟩:=hs;exact False.elim q
end L2
namespace L2
open PySem PySem.Spec PyProof.Rows
section
variable {X:Cx}{x:Str}{p pos:Pos}{e:Expr}{es:List Expr}{t:TA}{id T:String}{r:List V→Hp→VK→Prop}
noncomputable def tCB (r:List V→Hp→VK→Prop) (t:TA):TE:=fun σ H Q=>t σ H fun vs H1=>r vs H1 Q
theorem zA9 (hc:CallR X (.builtin id) r) (hg:Gl X x) (hm:X.mg x=none) (hv:bootBuiltins x=some (.builtin id)) (ha:PA X (e :: es) t) (hn:x≠"__name__":=by decide) (hdb:(x == ("__debug__" : Str))=false:=by decide)
  (he:starEach (e :: es) X.env=(false,eval e X.env) :: starEach es X.env:=by rfl) (hpl:(backTo pos (starEach es X.env)).any (·.1)=false:=by rfl):PE X (.Call (.Name x p) (e :: es) [] pos) (tCB r t):=by
 intro pins s σ H Q I h;refine wpAny_Call_Name_kw (zEu I hg hm hv ?_ hn hdb);exact PyProof.Rows.callWith_builtin1 (thn (ha pos pins s σ H _ I h) fun us s1 ⟨vs,H1,I1,r1,q1⟩=>hc pins s1 σ H1 vs us Q I1 r1 q1) he hpl
theorem zB3 (hc:CallR X (.type T) r) (hg:Gl X x) (hm:X.mg x=none) (hv:bootBuiltins x=some (.type T)) (ha:PA X (e :: es) t) (hn:x≠"__name__":=by decide) (hdb:(x == ("__debug__" : Str))=false:=by decide)
  (he:starEach (e :: es) X.env=(false,eval e X.env) :: starEach es X.env:=by rfl) (hpl:(backTo pos (starEach es X.env)).any (·.1)=false:=by rfl):PE X (.Call (.Name x p) (e :: es) [] pos) (tCB r t):=by
 intro pins s σ H Q I h;refine wpAny_Call_Name_kw (zEu I hg hm hv ?_ hn hdb);exact PyProof.Rows.callWith_type1 (thn (ha pos pins s σ H _ I h) fun us s1 ⟨vs,H1,I1,r1,q1⟩=>hc pins s1 σ H1 vs us Q I1 r1 q1) he hpl
end
end L2
namespace HT
open PySem PyProof.Rows
section
open PySem.SeqAt
open PySem.AutoSeq1 (wpAny_loadPart')
open PySem.MeetsSeq PySem.MeetsSeq2 PySem.MeetsSeq3
end
section
variable {prog:Program}{w:World}{A:Around}{E:Value→Shared→Prop}{s:Shared}
noncomputable def sIx (n d:Nat):Option Int→Nat
 | none=>d
 | some v=>if v < 0 then (v + (n:Int)).toNat else min v.toNat n
end
end HT
namespace L2
open PySem PySem.Spec PyProof.Rows
noncomputable abbrev TO:=St→Hp→(Option Int→Hp→Prop)→Prop
noncomputable def PO (X:Cx) (e:Option Expr) (t:TO):Prop :=
 ∀ (pins:List (Addr×Obj)) (s:Shared) (σ : St) (H:Hp) (Q:Option Int→Hp→Prop),Inv X pins σ H s→t σ H Q →
  wpAny (model X.prog X.w) X.A (evalPart e X.env) (fun u s'=>∃ o H',Inv X pins σ H' s'∧IsPart u o∧Q o H') X.xe s
noncomputable def tNoPart:TO:=fun _ H Q=>Q none H
noncomputable def tPart (t:TE):TO:=fun σ H Q=>t σ H fun x H1=>∃ i,x=.int i∧Q (some i) H1
section
variable {X:Cx}{e:Expr}{te:TE}{lo hi:Option Expr}{tl th:TO}{pos p2:Pos}
theorem zBf:PO X none tNoPart:=by
 intro pins s σ H Q I h;rw [evalPart_none];exact wpAny_pure ⟨none,H,I,.none,h⟩
theorem zB9 (h:PE X e te):PO X (some e) (tPart te):=by
 intro pins s σ H Q I hw;rw [evalPart_some];refine thn (h pins s σ H _ I hw) fun u s1 ⟨x,H1,I1,r1,q1⟩=>?_;obtain ⟨i,rfl,q⟩:=q1;obtain ⟨t,rfl⟩:=r1;exact ⟨some i,H1,I1,.int i t,q⟩
noncomputable def SlR (X:Cx) (r:V→Option Int→Option Int→Hp→VK→Prop):Prop :=
 ∀ (pins:List (Addr×Obj)) (s:Shared) (σ : St) (H:Hp) (x:V) (v vl vu:Value) (lo hi:Option Int) (sl:Addr) (Q:VK),Inv X pins σ H s→RelV x v→s.heap.IsSliceOf sl vl vu .none→IsPart vl lo→IsPart vu hi→r x lo hi H Q →
  ∃ T id,typeLookup (.type T) "__getitem__" = pure (some (.builtin id))∧s.TypeIs v T∧wpAny (model X.prog X.w) X.A (getItem v (.ref sl)) (EP X pins σ Q) X.xe s
noncomputable def tSl (r:V→Option Int→Option Int→Hp→VK→Prop) (te:TE) (tl th:TO):TE:=fun σ H Q=>te σ H fun x H1=>tl σ H1 fun l H2=>th σ H2 fun u H3=>r x l u H3 Q
theorem zAz {r:V→Option Int→Option Int→Hp→VK→Prop} (hr:SlR X r) (he:PE X e te) (hl:PO X lo tl) (hu:PO X hi th):PE X (.Subscript e (.Slice lo hi none p2) pos) (tSl r te tl th):=by
 intro pins s σ H Q I h;refine Subscript_ (thn (he pins s σ H _ I h) fun v s1 ⟨x,H1,I1,r1,q1⟩=>?_);refine wpAny_Slice (thn (hl pins s1 σ H1 _ I1 q1) fun vl s2 ⟨l,H2,I2,pl,q2⟩=>thn (hu pins s2 σ H2 _ I2 q2) fun vu s3 ⟨u,H3,I3,pu,q3⟩=>?_);rw [evalPart_none];refine wpAny_pure ?_;have I4:Inv X pins σ H3 { s3 with heap:=s3.heap.push { cls:=.type "slice",data:=.fields #[vl,vu,.none] } }:=I3.kept (t':=s3.toks) fun b ob q=>Z2 _ q;obtain ⟨T,id,hT,ht,hg⟩:=hr pins { s3 with heap:=s3.heap.push { cls:=.type "slice",data:=.fields #[vl,vu,.none] } } σ H3 x v vl vu l u s3.heap.objs.size Q I4 r1 (Heap.IsSliceOf.new ..) pl pu q3;show wpAny (model X.prog X.w) X.A (subscriptTail e (.Slice lo hi none p2) v (.ref s3.heap.objs.size)) (EP X pins σ Q) X.xe { s3 with heap:=s3.heap.push { cls:=.type "slice",data:=.fields #[vl,vu,.none] } };exact tail_any (ops:=[.ref s3.heap.objs.size,v]) ht hT hg (by with_unfolding_all rfl)
noncomputable def cutV (xs:List V) (lo hi:Option Int):List V:=(xs.drop (HT.sIx xs.length 0 lo)).take (HT.sIx xs.length xs.length hi - HT.sIx xs.length 0 lo)
theorem cutV_length (xs:List V) (lo hi:Option Int):(cutV xs lo hi).length≤xs.length:=by
 unfold cutV;rw [Zt,Zv];omega
end
end L2
namespace L2
open PySem PySem.Spec PyProof.Rows
noncomputable def ixN (n:Nat) (i:Int):Option Nat:=if 0≤i then (if i < n then some i.toNat else none) else if -(n:Int)≤i then some (i + n).toNat else none
noncomputable def atI {α : Type} (xs:List α) (i:Int):Option α:=(ixN xs.length i).bind fun j=>xs[j]?
theorem ixN_seq {n:Nat}{i:Int}{j:Nat} (h:ixN n i=some j):seqIndex? i n=some j∧j < n∧-(n:Int)≤i∧i < n:=by
 unfold ixN at h;by_cases h0:0≤i
 ·rw [if_pos h0] at h;by_cases h1:i < n
  ·rw [if_pos h1] at h;have e:i.toNat=j:=Zi h;exact ⟨by rw [seqIndex_of h0 h1,e],by omega,by omega,h1⟩
  ·rw [if_neg h1] at h;cases h
 ·rw [if_neg h0] at h;by_cases h1 : -(n:Int)≤i
  ·rw [if_pos h1] at h;have e:(i + n).toNat=j:=Zi h;exact ⟨by rw [seqIndex_neg (by omega) h1,e],by omega,h1,by omega⟩
  ·rw [if_neg h1] at h;cases h
theorem atI_get {α : Type}{xs:List α}{i:Int}{v : α} (h:atI xs i=some v):∃ j,seqIndex? i xs.length=some j∧xs[j]? = some v∧j < xs.length∧-(xs.length:Int)≤i∧i < xs.length:=by
 unfold atI at h;cases e:ixN xs.length i with
 | none=>rw [e] at h;cases h
 | some j =>
  rw [e] at h;obtain ⟨h1,h2,h3,h4⟩:=ixN_seq e;exact ⟨j,h1,h,h2,h3,h4⟩
theorem zBh {α : Type}{xs:List α}{j:Nat}{v : α} (h:xs[j]? = some v):atI xs (j:Int)=some v:=by
 have hj:j < xs.length:=(List.getElem?_eq_some_iff.mp h).1;have e:ixN xs.length (j:Int)=some j:=by
  unfold ixN;rw [if_pos (by omega),if_pos (by omega)];simp
 unfold atI;rw [e];exact h
noncomputable def PlainIx (b:Expr):Prop:=∀ o i,subscripted b false o i=operate [o,i] (getItem o i)
noncomputable def IxR (X:Cx) (r:R2):Prop :=
 ∀ (value slice:Expr) (pins:List (Addr×Obj)) (s:Shared) (σ : St) (H:Hp) (x y:V) (v u:Value) (Q:VK),Inv X pins σ H s→RelV x v→RelV y u→r x y H Q →
  subscripted slice false v u=operate [v,u] (getItem v u)→wpAny (model X.prog X.w) X.A (subscriptTail value slice v u) (EP X pins σ Q) X.xe s
noncomputable def MtR (X:Cx) (id:String) (r:V→List V→Hp→VK→Prop):Prop :=
 ∀ (pins:List (Addr×Obj)) (s:Shared) (σ : St) (H:Hp) (x:V) (xs:List V) (v:Value) (us:List Value) (Q:VK),Inv X pins σ H s→RelV x v→Vals xs us→r x xs H Q →
  wpAny (model X.prog X.w) X.A (call (.builtin id) (v :: us)) (EP X pins σ Q) X.xe s
section
variable {X:Cx}{a b:Expr}{ta tb:TE}{pos:Pos}
theorem zAs {r:R2} (hr:IxR X r) (ha:PE X a ta) (hb:PE X b tb) (hs:PlainIx b):PE X (.Subscript a b pos) (tOp r ta tb):=by
 intro pins s σ H Q I h;exact Subscript_ (binT ha hb I h fun v u s2 x y H2 I2 rx ry q=>hr a b pins s2 σ H2 x y v u Q I2 rx ry q (hs _ _))
noncomputable def rIxL (K:PySem.W.Frag):R2:=fun x y H Q=>∃ p xs i v,x=.ref p∧y=.int i∧SqL K H p xs∧atI xs i=some v∧Q v H
noncomputable def rIxT (K:PySem.W.Frag):R2:=fun x y H Q=>∃ p xs i v,x=.ref p∧y=.int i∧SqT K H p xs∧atI xs i=some v∧Q v H
noncomputable def rIxS:R2:=fun x y H Q=>∃ z i c,x=.str z∧y=.int i∧z.length≤sizeLine∧atI z.cps.toList i=some c∧Q (.str ⟨#[c]⟩) H
theorem zAk:IxR X (rIxL X.K):=by
 intro value slice pins s σ H x y v u Q I rx ry h hs;obtain ⟨p,xs,i,z,rfl,rfl,hq,he,q⟩:=h;cases rx;obtain ⟨t,rfl⟩:=ry;obtain ⟨its,r,pl,hz⟩:=I.list hq;obtain ⟨j,h1,h2,h3,h4,h5⟩:=atI_get he;obtain ⟨w,ew,rw'⟩:=r.get h2;have hl:=r.length;have hn:=line63;have fin:EP X pins σ Q w s:=⟨z,H,I,rw',q⟩;by_cases h0:0≤i
 ·have hj:i.toNat=j:=by
   rw [seqIndex_of h0 h5] at h1;exact Zi h1
  exact item_listR pl.isList h0 (by omega) (by rw [hj];simpa using ew) fin hs
 ·have hj:(i + (its.toArray.size:Int)).toNat=j:=by
   rw [seqIndex_neg (by omega) h4] at h1;rw [Zb,← hl];exact Zi h1
  exact subscriptTail_builtinR (x:=w) pl.isList.typeIs slot_list_getitem.lookup
   (wpAny_getItem_list_neg (Q:=fun r s'=>r=w∧EP X pins σ Q r s') pl.isList (by omega) (by rw [Zb] <;> omega) (by omega) (by rw [hj];simpa using ew) ⟨rfl,fin⟩) hs
theorem zBr:IxR X (rIxT X.K):=by
 intro value slice pins s σ H x y v u Q I rx ry h hs;obtain ⟨p,xs,i,z,rfl,rfl,hq,he,q⟩:=h;cases rx;obtain ⟨t,rfl⟩:=ry;obtain ⟨its,r,pl,hz⟩:=I.tuple hq;obtain ⟨j,h1,h2,h3,h4,h5⟩:=atI_get he;obtain ⟨w,ew,rw'⟩:=r.get h2;have hl:=r.length;have hn:=line63;have fin:EP X pins σ Q w s:=⟨z,H,I,rw',q⟩;exact subscriptTail_builtinR (x:=w) pl.typeIs slot_tuple_getitem.lookup
  (getItem_tuple (j:=j) (Q:=fun r s'=>r=w∧EP X pins σ Q r s') pl (by omega) (by omega) (by rw [Zb,← hl];exact h1) (by simpa using ew) ⟨rfl,fin⟩) hs
theorem ix_str:IxR X rIxS:=by
 intro value slice pins s σ H x y v u Q I rx ry h hs;obtain ⟨z,i,c,rfl,rfl,hz,he,q⟩:=h;obtain ⟨t,rfl⟩:=rx;obtain ⟨t',rfl⟩:=ry;obtain ⟨j,h1,h2,h3,h4,h5⟩:=atI_get he;have hl:z.cps.toList.length=z.length:=by simp [Str.length]
 rw [hl] at h1 h4 h5;have hn:=line63
 exact tail_any (typeIs_str s z t) slot_str_getitem.lookup (getItem_str (c:=c) (by
  have e1:decide (i < -(2 ^ 63:Int))=false:=decide_eq_false (by omega);have e2:decide (i ≥ 2 ^ 63)=false:=decide_eq_false (by omega)
  rw [e1,e2,Bool.or_false]) (by rw [h1];simpa using h2) ⟨.str ⟨#[c]⟩,H,I.tok _,⟨_,rfl⟩,q⟩) hs
theorem mapSeq_set (its:List Value) (n j:Nat) (u:Value):Obj.mapSeq (·.setIfInBounds j u) { cls:=.type "list",data:=.seq its.toArray n }={ cls:=.type "list",data:=.seq (its.set j u).toArray n }:=by
 simp [Obj.mapSeq]
theorem Inv.lst {pins:List (Addr×Obj)}{σ : St}{H:Hp}{s:Shared}{p:Addr}{xs:List V} (I:Inv X pins σ H s) (h:H p=some (.lst xs)) :
  ∃ (its:List Value) (n:Nat),Vals xs its∧s.heap.get? p=some { cls:=.type "list",data:=.seq its.toArray n }∧xs.length≤sizeLine:=by
 obtain ⟨z,its,n,r,e⟩:=I.hok p _ h;exact ⟨its,n,r,e,z⟩
theorem Inv.lstUpd {pins:List (Addr×Obj)}{σ : St}{H:Hp}{s:Shared}{p:Addr}{xs ys:List V}{its its':List Value}{n n':Nat}{f:Obj→Obj} (I:Inv X pins σ H s) (h:H p=some (.lst xs))
  (ho:s.heap.get? p=some { cls:=.type "list",data:=.seq its.toArray n }) (hf:f { cls:=.type "list",data:=.seq its.toArray n }={ cls:=.type "list",data:=.seq its'.toArray n' }) (r:Vals ys its') (hz:ys.length≤sizeLine) (t:Nat) :
  Inv X pins σ (upd H p (.lst ys)) { s with heap:=s.heap.update p f,toks:=t }:=by
 have e:(s.heap.update p f).get? p=some { cls:=.type "list",data:=.seq its'.toArray n' }:=by
  rw [Heap.get?_update_self f ho (by rw [hf] <;> rfl),hf]
 refine I.write (x:=p) (e:=p) (by rw [h];trivial) (.inl rfl) (fun b u hb q=>(Heap.get?_update_other _ _ (Ne.symm hb)).trans q) ⟨_,e⟩ ?_;exact ⟨hz,its',n',r,e⟩
noncomputable def rSetL:V→V→V→Hp→(Hp→Prop)→Prop:=fun o i v H Q=>∃ p xs k j,o=.ref p∧i=.int k∧H p=some (.lst xs)∧ixN xs.length k=some j∧Q (upd H p (.lst (xs.set j v)))
theorem set_list:PSet X rSetL:=by
 intro pins s σ H o i v ov iv u Q I ro ri rv h;obtain ⟨p,xs,k,j,rfl,rfl,hp,hj,q⟩:=h;cases ro;obtain ⟨t,rfl⟩:=ri;obtain ⟨its,n,r,ho,hz⟩:=I.lst hp;obtain ⟨h1,h2,h3,h4⟩:=ixN_seq hj;have hl:=r.length;have hn:=line63;have I':Inv X pins σ (upd H p (.lst (xs.set j v))) { s with heap:=s.heap.update p (Obj.mapSeq (·.setIfInBounds j u)) } :=
  I.lstUpd hp ho (mapSeq_set its n j u) (r.set rv j) (by rw [List.length_set];exact hz) s.toks
 by_cases h0:0≤k
 ·have hk:k.toNat=j:=by
   rw [seqIndex_of h0 h4] at h1;exact Zi h1
  exact PySem.W.ki_setAt ho h0 (by omega) (by rw [Zb,← hl];exact h4) (by rw [hk];exact ⟨_,I',q⟩)
 ·have hk:(k + (its.toArray.size:Int)).toNat=j:=by
   rw [seqIndex_neg (by omega) h3] at h1;rw [Zb,← hl];exact Zi h1
  exact PySem.W.ki_setBack ho (by omega) (by rw [Zb,← hl];exact h3) (by omega) (by rw [hk];exact ⟨_,I',q⟩)
theorem slice_bounds (lo hi:Option Int) (n:Nat):(sliceBounds lo hi none n).1=((HT.sIx n 0 lo:Nat):Int)∧(sliceBounds lo hi none n).2.1=((HT.sIx n n hi:Nat):Int)∧(sliceBounds lo hi none n).2.2=1:=by
 refine ⟨?_,?_,rfl⟩
 ·cases lo with
  | none=>simp [sliceBounds,HT.sIx]
  | some i =>
   simp only [sliceBounds,HT.sIx,Option.getD_none,show (1:Int) > 0 by decide,if_true];by_cases h:i < 0
   ·simp only [h,if_true] <;> omega
   ·simp only [h,if_false] <;> omega
 ·cases hi with
  | none=>simp [sliceBounds,HT.sIx]
  | some i =>
   simp only [sliceBounds,HT.sIx,Option.getD_none,show (1:Int) > 0 by decide,if_true];by_cases h:i < 0
   ·simp only [h,if_true] <;> omega
   ·simp only [h,if_false] <;> omega
theorem zG0 (its:List Value) (lo hi:Option Int):slicePick its.toArray lo hi none=((its.drop (HT.sIx its.length 0 lo)).take (HT.sIx its.length its.length hi - HT.sIx its.length 0 lo)).toArray:=by
 obtain ⟨h1,h2,h3⟩:=slice_bounds lo hi its.toArray.size;unfold slicePick;rw [h1,h2,h3];simp only [sliceRange_one,pick_run,Zb] <;> rfl
noncomputable def rSlL (K:PySem.W.Frag):V→Option Int→Option Int→Hp→VK→Prop:=fun x lo hi H Q=>∃ a xs,x=.ref a∧SqL K H a xs∧∀ p,H p=none→Q (.ref p) (upd H p (.lst (cutV xs lo hi)))
theorem zBp:SlR X (rSlL X.K):=by
 intro pins s σ H x v vl vu lo hi sl Q I rx hs pl pu h;obtain ⟨a,xs,rfl,hx,q⟩:=h;cases rx;obtain ⟨its,r,ht,hz⟩:=I.list hx;have hlen:=r.length;refine ⟨"list",_,slot_list_getitem.lookup,ht.isList.typeIs,?_⟩;refine wpAny_getItem_list_slice ht.isList hs pl pu .none (by simp) ?_ (by rw [Zb] <;> omega);rw [zG0,← hlen];refine ⟨.ref s.heap.objs.size,_,I.laid (t':=s.toks) (o:=.lst (cutV xs lo hi)) (fun b ob q=>Z2 _ q) (Z5 _) ?_,rfl,q _ (I.hok.fresh (Z5 _))⟩;exact ⟨Zd (cutV_length xs lo hi) hz,_,0,(r.drop (HT.sIx xs.length 0 lo)).take (HT.sIx xs.length xs.length hi - HT.sIx xs.length 0 lo),Zg _ rfl⟩
theorem zAi:CallR X (.builtin "len") (fun xs H Q=>∃ p ys,xs=[.ref p]∧(SqL X.K H p ys∨SqT X.K H p ys)∧Q (.int ys.length) H):=by
 intro pins s σ H xs us Q I r h;obtain ⟨p,ys,rfl,hq,q⟩:=h;obtain ⟨u,rfl,rx⟩:=vals1 r;cases rx;have hn:=line63;rcases hq with hq | hq
 ·obtain ⟨its,r',pl,hz⟩:=I.list hq;have hlen:=r'.length;exact Calls.call_len_list pl.isList (by simp only [Zb] <;> omega) ⟨.int ys.length,H,I.tok _,⟨s.toks + 1,by rw [Zb,hlen]⟩,q⟩
 ·obtain ⟨its,r',pl,hz⟩:=I.tuple hq;have hlen:=r'.length;exact len_tuple pl (by simp only [Zb] <;> omega) ⟨.int ys.length,H,I.tok _,⟨s.toks + 1,by rw [Zb,hlen]⟩,q⟩
theorem zB8:CallR X (.builtin "len") (fun xs H Q=>∃ z,xs=[.str z]∧z.length≤sizeLine∧Q (.int z.length) H):=by
 intro pins s σ H xs us Q I r h;obtain ⟨z,rfl,hz,q⟩:=h;obtain ⟨u,rfl,t,rfl⟩:=vals1 r;have hn:=line63;exact len_str (by omega) ⟨.int z.length,H,I.tok _,⟨_,rfl⟩,q⟩
theorem zE1:CallR X (.type "list") (fun xs H Q=>∃ p ys,xs=[.ref p]∧(SqL X.K H p ys∨SqT X.K H p ys)∧∀ l,H l=none→Q (.ref l) (upd H l (.lst ys))):=by
 intro pins s σ H xs us Q I r h;obtain ⟨p,ys,rfl,hq,q⟩:=h;obtain ⟨u,rfl,rx⟩:=vals1 r;cases rx
 have fin:∀ (its:List Value),Vals ys its→ys.length≤sizeLine→∀ (h':Heap) (c':Nat),(∀ b o',s.heap.get? b=some o'→h'.get? b=some o') →
   h'.get? s.heap.objs.size=some { cls:=.type "list",dict:=none,data:=.seq its.toArray c',slots:=#[] }→EP X pins σ Q (.ref s.heap.objs.size) { s with heap:=h' }:=fun its r' hz h' c' kp e =>
  ⟨.ref s.heap.objs.size,_,I.laid (t':=s.toks) kp (Z5 _) (show ObjOk X.prog X.w _ h' _ (.lst ys) from ⟨hz,its,c',r',e⟩),rfl,q _ (I.hok.fresh (Z5 _))⟩
 rcases hq with hq | hq
 ·obtain ⟨its,r',pl,hz⟩:=I.list hq;have hlen:=r'.length;obtain ⟨o,ho,hc,n,hd⟩:=pl.isList;exact call_list_seq p (.inl rfl) ho hc hd (fun h' c' kp e=>fin its r' hz h' c' kp e) (by simp only [Zb] <;> omega)
 ·obtain ⟨its,r',pl,hz⟩:=I.tuple hq;have hlen:=r'.length;obtain ⟨o,ho,hc,n,hd⟩:=pl;exact call_list_seq p (.inr rfl) ho hc hd (fun h' c' kp e=>fin its r' hz h' c' kp e) (by simp only [Zb] <;> omega)
noncomputable def tyV (K:PySem.W.Frag) (T:String) (x:V) (H:Hp):Prop:=match x with
 | .str _=>T = "str"
 | .int _=>T = "int"
 | .ref p=>(T = "list"∧∃ xs,SqL K H p xs)∨(T = "tuple"∧∃ o,K.lookup p=some o∧o.cls=.type "tuple"∧o.dict=none) ∨
   (T = "dict"∧((∃ kvs,H p=some (.dK kvs))∨∃ kvs,H p=some (.dT kvs)))∨(T = "set"∧∃ S n,H p=some (.set S n))
 | _=>False
theorem tyV_is {pins:List (Addr×Obj)}{σ : St}{H:Hp}{s:Shared}{T:String}{x:V}{v:Value} (I:Inv X pins σ H s) (r:RelV x v) (ty:tyV X.K T x H) :
  s.TypeIs v T∧∀ a,v=.ref a→∃ ob,s.heap.get? a=some ob∧ob.dict=none:=by
 cases x with
 | str z =>
  obtain ⟨t,rfl⟩:=r;cases (show T = "str" from ty);exact ⟨typeIs_str s z t,fun _ e=>nomatch e⟩
 | int i =>
  obtain ⟨t,rfl⟩:=r;cases (show T = "int" from ty);exact ⟨typeIs_int s i t,fun _ e=>nomatch e⟩
 | ref p =>
  cases r;rcases ty with ⟨rfl,xs,hq⟩ | ⟨rfl,o,hk,hc,hd⟩ | ⟨rfl,hk⟩ | ⟨rfl,S,n,hk⟩
  ·obtain ⟨its,_,pl,_⟩:=I.list hq;refine ⟨pl.isList.typeIs,fun a e=>?_⟩;cases e;obtain ⟨o,n,e,c,hd,_⟩:=pl;exact ⟨o,e,hd⟩
  ·refine ⟨⟨o,I.kIn p o hk,hc⟩,fun a e=>?_⟩;cases e;exact ⟨o,I.kIn _ o hk,hd⟩
  ·have z:∃ o,s.heap.get? p=some o∧o.ExactDict:=by
    rcases hk with ⟨kvs,hk⟩ | ⟨kvs,hk⟩
    ·obtain ⟨_,_,_,_,o,_,_,e,ex,_⟩:=I.hok p _ hk;exact ⟨o,e,ex⟩
    ·obtain ⟨_,_,_,_,o,_,_,e,ex,_⟩:=I.hok p _ hk;exact ⟨o,e,ex⟩
   obtain ⟨o,e,ex⟩:=z;refine ⟨⟨o,e,ex.1⟩,fun a e2=>?_⟩;cases e2;exact ⟨o,e,ex.2.1⟩
  ·obtain ⟨o,_,_,_,e,ex,_⟩:=I.hok p _ hk;refine ⟨⟨o,e,ex.1⟩,fun a e2=>?_⟩;cases e2;exact ⟨o,e,ex.2.1⟩
 | _=>exact False.elim ty
noncomputable def tBM0 (K:PySem.W.Frag) (T:String) (r:V→List V→Hp→VK→Prop) (to:TE):TE:=fun σ H Q=>to σ H fun x H1=>tyV K T x H1∧r x [] H1 Q
noncomputable def tBM (K:PySem.W.Frag) (T:String) (r:V→List V→Hp→VK→Prop) (to:TE) (t:TA):TE:=fun σ H Q=>to σ H fun x H1=>tyV K T x H1∧t σ H1 fun xs H2=>r x xs H2 Q
variable {o e:Expr}{es:List Expr}{to:TE}{t:TA}{name:Str}{apos cpos:Pos}{T id:String}{r:V→List V→Hp→VK→Prop}
theorem pe_bm0 (pa:PlainAttrs T) (slot:Slot T name id) (hty:typeOf (.builtin id)=pure (.type "method_descriptor")) (hm:MtR X id r) (ho:PE X o to)
  (hbase:attributeBase o name X.env (eval o X.env)=eval o X.env:=by rfl) (hline:(apos.endLine == cpos.line)=true:=by rfl):PE X (.Call (.Attribute o name apos) [] [] cpos) (tBM0 X.K T r to):=by
 intro pins s σ H Q I h;refine wpAny_Call_method0_late hbase hline (thn (ho pins s σ H _ I h) fun v s1 ⟨x,H1,I1,r1,ty,q1⟩=>?_);obtain ⟨h1,h2⟩:=tyV_is I1 r1 ty;exact ⟨T,id,pa,slot,hty,h1,h2,Calls.callWith_builtin rfl (PySem.evalArgs_none (hm pins s1 σ H1 x [] v [] Q I1 r1 .nil q1))⟩
theorem zD3 (pa:PlainAttrs T) (slot:Slot T name id) (hty:typeOf (.builtin id)=pure (.type "method_descriptor")) (hm:MtR X id r) (ho:PE X o to) (ha:PA X (e :: es) t)
  (hbase:attributeBase o name X.env (eval o X.env)=eval o X.env:=by rfl)
  (hfew:((backTo cpos (starEach (e :: es) X.env)).all (fun x=>!x.1) && (backToKw cpos (keywordEach [] X.env)).all (fun x=>x.1.isSome)
   && decide ((e :: es).length + ([]:List Keyword).length + (if ([]:List Keyword).isEmpty then 0 else 1) < 30))=true:=by rfl)
  (hline:(apos.endLine == cpos.line)=true:=by rfl) (hs:starEach (e :: es) X.env=(false,eval e X.env) :: starEach es X.env:=by rfl) (hplain:(backTo cpos (starEach es X.env)).any (·.1)=false:=by rfl) :
  PE X (.Call (.Attribute o name apos) (e :: es) [] cpos) (tBM X.K T r to t):=by
 intro pins s σ H Q I h;refine wpAny_Call_method_late hbase hfew hline rfl (thn (ho pins s σ H _ I h) fun v s1 ⟨x,H1,I1,r1,ty,q1⟩=>?_);obtain ⟨h1,h2⟩:=tyV_is I1 r1 ty;refine ⟨T,id,pa,slot,hty,h1,h2,?_⟩;have hA:=ha cpos pins s1 σ H1 _ I1 q1;rw [hs] at hA ⊢;refine Calls.callWith_builtin (by show (false || (backTo cpos (starEach es X.env)).any (·.1))=false;rw [hplain] <;> rfl) (Calls.evalArgs_plain ?_);exact thn hA fun us s2 ⟨vs,H2,I2,r2,q2⟩=>hm pins s2 σ H2 x vs v us Q I2 r1 r2 q2
end
end L2
namespace L2
open PySem PySem.Spec PyProof.Rows
noncomputable def MtM (X:Cx) (id:String) (r:V→List V→Hp→VK→Prop):Prop :=
 ∀ (pins:List (Addr×Obj)) (s:Shared) (σ : St) (H:Hp) (x:V) (xs:List V) (v:Value) (us:List Value) (Q:VK),Inv X pins σ H s→RelV x v→Vals xs us→r x xs H Q →
  wpAny (model X.prog X.w) X.A (call (.builtin id) (v :: us)) (EP X pins σ Q) X.xe s
theorem Vals.one:∀ {x:V}{us:List Value},Vals [x] us→∃ u,us=[u]∧RelV x u
 | _,_,.cons r .nil=>⟨_,rfl,r⟩
theorem Vals.zero:∀ {us:List Value},Vals [] us→us=[]
 | _,.nil=>rfl
theorem Vals.dropLast {xs:List V}{us:List Value} (h:Vals xs us):Vals xs.dropLast us.dropLast:=by
 induction h with
 | nil=>exact .nil
 | cons r t ih =>
  cases t with
  | nil=>exact .nil
  | cons q t'=>exact .cons r ih
theorem Vals.eraseIdx:∀ {xs:List V}{us:List Value} (i:Nat),Vals xs us→Vals (xs.eraseIdx i) (us.eraseIdx i)
 | _,_,_,.nil=>.nil
 | _,_,0,.cons _ t=>t
 | _,_,i + 1,.cons r t=>.cons r (Vals.eraseIdx i t)
theorem Vals.reverse {xs:List V}{us:List Value} (h:Vals xs us):Vals xs.reverse us.reverse:=by
 induction h with
 | nil=>exact .nil
 | cons r t ih=>rw [Y9,Y9];exact Vals.append ih (.cons r .nil)
theorem erase_last {α : Type} (l:List α):l.eraseIdx (l.length - 1)=l.dropLast:=by
 induction l with
 | nil=>rfl
 | cons a r ih =>
  cases r with
  | nil=>rfl
  | cons b r =>
   have e:(a :: b :: r).length - 1=((b :: r).length - 1) + 1:=by
    have h1:(a :: b :: r).length=r.length + 2:=rfl;have h2:(b :: r).length=r.length + 1:=rfl;omega
   rw [e,List.eraseIdx_cons_succ,ih]
   all_goals rfl
section
variable {X:Cx}{pins:List (Addr×Obj)}{σ : St}{H:Hp}{s:Shared}{l b:Addr}{xs ys zs:List V}
theorem Inv.lset {its its':List Value}{n:Nat}{f:Array Value→Array Value}{t':Nat} (I:Inv X pins σ H s) (hH:H l=some (.lst xs))
  (e:s.heap.get? l=some { cls:=.type "list",data:=.seq its.toArray n }) (hf:f its.toArray=its'.toArray) (hv:Vals ys its') (hz:ys.length≤sizeLine) :
  Inv X pins σ (upd H l (.lst ys)) { s with heap:=s.heap.update l (Obj.mapSeq f),toks:=t' }:=by
 have q:=PySem.IsL.update e f;rw [hf] at q;refine I.write (x:=l) (e:=l) (by rw [hH];exact trivial) (.inl rfl) (fun b' u hb hu=>(Heap.get?_update_other s.heap (Obj.mapSeq f) (Ne.symm hb)).trans hu) ⟨_,q⟩ ?_;exact ⟨hz,its',_,hv,q⟩
theorem Inv.lnew {its:List Value}{t':Nat} (I:Inv X pins σ H s) (hv:Vals ys its) (hz:ys.length≤sizeLine) :
  Inv X pins σ (upd H s.heap.objs.size (.lst ys)) { s with heap:=s.heap.push { cls:=.type "list",data:=.seq its.toArray },toks:=t' } :=
 I.laid (fun _ _ q=>Z2 _ q) (Z5 _) ⟨hz,its,0,hv,Zg _ rfl⟩
theorem Inv.fresh (I:Inv X pins σ H s):H s.heap.objs.size=none:=I.hok.fresh (Z5 _)
theorem Inv.lstM (I:Inv X pins σ H s) (hH:H l=some (.lst xs)):xs.length≤sizeLine∧∃ (its:List Value) (n:Nat),Vals xs its∧xs.length=its.length∧s.heap.get? l=some { cls:=.type "list",data:=.seq its.toArray n }:=by
 obtain ⟨z,its,n,r,e⟩:=I.hok l _ hH;exact ⟨z,its,n,r,r.length,e⟩
theorem notLongL {n:Nat} (h:n≤sizeLine):Builtin.List.listTooLong n=false:=by
 unfold Builtin.List.listTooLong;exact decide_eq_false (by omega)
end
section
variable {X:Cx}
noncomputable def rAppend:V→List V→Hp→VK→Prop:=fun x vs H Q=>∃ l xs y,x=.ref l∧vs=[y]∧H l=some (.lst xs)∧xs.length < sizeLine∧Q .non (upd H l (.lst (xs++[y])))
theorem zEq:MtM X "list.append" rAppend:=by
 intro pins s σ H x vs v us Q I rx rv h;obtain ⟨l,xs,y,rfl,rfl,hH,hz,q⟩:=h;cases rx;obtain ⟨u,rfl,ru⟩:=rv.one;obtain ⟨z,its,n,r,hl,e⟩:=I.lstM hH;refine call_meets F.slot_list_append ⟨_,e,rfl⟩ F.entry_list_append (F.args_list_append_2 _ _) (PySem.list_append l its.toArray n u (by rw [Zb];omega)) ⟨e,?_⟩;refine ⟨.non,_,I.lset (its':=its++[u]) hH e (by simp) (r.append (.cons ru .nil)) ?_,rfl,q⟩;rw [Z4,List.length_singleton];omega
noncomputable def rExtend:V→List V→Hp→VK→Prop:=fun x vs H Q=>∃ l b xs zs,x=.ref l∧vs=[.ref b]∧H l=some (.lst xs)∧H b=some (.lst zs)∧xs.length + zs.length≤sizeLine∧Q .non (upd H l (.lst (xs++zs)))
theorem mt_extend:MtM X "list.extend" rExtend:=by
 intro pins s σ H x vs v us Q I rx rv h;obtain ⟨l,b,xs,zs,rfl,rfl,hH,hB,hz,q⟩:=h;cases rx;obtain ⟨u,rfl,ru⟩:=rv.one;cases ru;obtain ⟨z,its,n,r,hl,e⟩:=I.lstM hH;obtain ⟨z2,its2,n2,r2,hl2,e2⟩:=I.lstM hB;have hsz:its.toArray.size + its2.toArray.size≤sizeLine:=by rw [Zb,Zb];omega
 have hlong:¬ (!its.toArray.isEmpty && Builtin.List.listTooLong (its.toArray.size + its2.toArray.size))=true:=by
  rw [notLongL hsz,Ye];exact Zn
 refine call_meets F.slot_list_extend ⟨_,e,rfl⟩ F.entry_list_extend (F.args_list_extend_2 _ _)
  (AutoSeq1.list_extend_list_list_0 l its.toArray n b its2.toArray n2 hlong (by rw [Zb];omega) (by omega)) ⟨e,e2,?_⟩
 refine ⟨.non,_,I.lset (its':=its++its2) hH e (by simp) (r.append r2) ?_,rfl,q⟩;rw [Z4];omega
noncomputable def rCat:R2:=fun x y H Q=>∃ l b xs zs,x=.ref l∧y=.ref b∧H l=some (.lst xs)∧H b=some (.lst zs)∧xs.length + zs.length≤sizeLine∧∀ p,H p=none→Q (.ref p) (upd H p (.lst (xs++zs)))
theorem zC5:OpR X (binaryOp .Add) rCat:=by
 intro pins s σ H x y v u Q I rx ry h;obtain ⟨l,b,xs,zs,rfl,rfl,hH,hB,hz,q⟩:=h;cases rx;cases ry;obtain ⟨z,its,n,r,hl,e⟩:=I.lstM hH;obtain ⟨z2,its2,n2,r2,hl2,e2⟩:=I.lstM hB;refine PySem.P.add_list e e2 ?_ (by rw [Zb,Zb];omega);have ea:its.toArray++its2.toArray=(its++its2).toArray:=by simp
 rw [ea];exact ⟨.ref _,_,I.lnew (t':=s.toks) (r.append r2) (by rw [Z4];omega),rfl,q _ I.fresh⟩
end
section
variable {prog:Program}{w:World}{A:Around}{E:Value→Shared→Prop}{s:Shared}
set_option maxRecDepth 100000 in
end
section
variable {X:Cx}
end
end L2
namespace Att
open PySem PySem.W PySem.Calls PyProof.Rows
theorem zEw {P:Params}{h:Heap}:∀ (ns:List Int) (vs:List Value),WellAll P h vs (ns.map WData.int)→IntsAre vs ns:=by
 intro ns
 induction ns with
 | nil =>
  intro vs w;rw [List.map_nil] at w;cases w;exact .nil
 | cons n ns ih =>
  intro vs w;rw [Zp] at w;cases w with
  | cons a b =>
   cases a;exact .cons _ _ (ih _ b)
theorem script_of {l:OpenLaw}{n:Nat} (hn:l.most=some n) {P:Params}{h:Heap}{args:List WData}{vals:List Value}
  (hpre:l.row.toRowW.claim.pre args=true) (hwl:WellAll P h vals args) :
  ∃ a vs ns,vals=[Value.ref a]∧args=[WData.list (ns.map WData.int)]∧h.get? a=some { cls:=.type "list",data:=.seq vs.toArray }∧IntsAre vs ns∧ns.length≤n:=by
 have hsh:WShape.hasAll [] args [.list .int]=true:=(pre_splitW hpre).1;have hc:l.pre.holds [] { args:=args }=true:=(pre_splitW hpre).2;obtain ⟨d,r,rfl,h1,h2⟩:=hasAllW_cons hsh;obtain rfl:=hasAllW_nil h2;obtain ⟨xs,rfl,h3⟩:=hasW_list h1;obtain ⟨ns,rfl⟩:=items_int h3;have hlen:ns.length≤n:=by
  unfold OpenLaw.pre at hc;have h4:(WTm.not (.lt (.lit (.int (n:Int))) (.len (.arg 0)))).holds [] { args:=[.list (ns.map .int)] }=true:=by
   have h4:=(holds_andW hc).1;rw [hn] at h4;exact h4
  have h5:=condW_of h4 (w_not (w_lt w_lit (w_len_list (w_arg rfl))));rw [Z0] at h5;refine Nat.le_of_not_lt fun q=>?_;have q':(n:Int) < ((ns.length:Nat):Int):=by omega
  first
   | (rw [decide_eq_true q'] at h5;exact absurd h5 (by decide))
   | (simp at h5;omega)
 cases hwl with
 | cons w1 w2 =>
  cases w2;cases w1 with
  | list ho hall=>exact ⟨_,_,ns,rfl,rfl,ho,zEw ns _ hall,hlen⟩
theorem post_true (l:OpenLaw) (args:List WData):l.row.toRowW.claim.post args (.bool true) args=true :=
 postW_of (r:=l.row.toRowW) (X:=(true == true))
  (show WShape.has [] (.bool true) .bool=true by first | rfl | decide | simp [WShape.has,WShape.arms,WShape.armsAll])
  (show (WTm.eq .res (.lit (.bool true))).value [] { args:=args,res:=some (.bool true),after:=args }=some (.bool (true == true)) from w_eq_bool (w_res rfl) w_lit) rfl
theorem attach_call {l:OpenLaw}{n:Nat}{q:Program}{loose:List Str}{XP:(Str→Option Value)→Heap→Prop}{YP:World→Heap→Prop}{d:DefRec}
  (hn:l.most=some n) (hdf:d.params.defaults=[])
  (call:∀ (w:World) (s₀ s₁ : Shared) (mg mb:Str→Option Value) (fa:Addr) (o:Obj) (pm cd doc:Value) (a:Addr) (vs:List Value) (ns:List Int),
   Ground q loose [] XP w s₀ mg mb s₁.heap→YP w s₁.heap →
   s₁.heap.get? fa=some o→o.data=.func (docDef d.name d.params d.body d.scope pm cd doc)→s₁.heap.CodeRec cd d.name→mg d.name=some (.ref fa) →
   s₁.heap.get? a=some { cls:=.type "list",data:=.seq vs.toArray }→IntsAre vs ns→ns.length≤n→s₁.gens = #[] →
   codeAny (model l.prog w) callerA (.call (.ref fa) ⟨[.ref a],[]⟩) (fun r s'=>r=.ok (.ret (.bool true))∧OldK s₁.heap s'.heap∧s'.os=s₁.os∧AllBare s'.gens) s₁) :
  WalkO q loose XP YP l.row.toRowW d [] (fun f vs=>PySem.call f vs):=by
 intro w s₀ s₁ mg mb G Y fa o pm cd doc dV kV ho hd hcd hD hmg hg args vals as hpre hlay hrd hwl hlo;obtain rfl:dV=.none:=Dflts.none hD hdf;obtain rfl:kV=.none:=Dflts.noKw hD;obtain ⟨a,vs,ns,rfl,rfl,hobj,hints,hlen⟩:=script_of hn hpre hwl;refine enter_call (codeAny_mono (call w s₀ s₁ mg mb fa o pm cd doc a vs ns G Y ho (fd_plain hd) hcd hmg hobj hints hlen hg) fun r s' hq=>?_);obtain ⟨rfl,h2,h3,h4⟩:=hq;exact ⟨.inl ⟨.bool true,.bool true,[],rfl,fun _=>rfl,.bool true,post_true l _,fun _=>⟨List.Pairwise.nil,fun _ hm=>(nomatch hm)⟩⟩,h2,h3,h4⟩
section
variable {prog:Program}{w:World}{A:Around}{E:Value→Shared→Prop}{s:Shared}{K:Frag}
noncomputable def ledger (h:Heap) (L d:Addr):List (Addr×Obj):=(List.range h.objs.size).filterMap fun a=>if a=L∨a=d then none else (h.get? a).map fun o=>(a,o)
end
end Att
namespace L2
open PySem PySem.Spec PyProof.Rows
theorem vals_ints:∀ {vs:List Value}{ns:List Int},IntsAre vs ns→Vals (ns.map V.int) vs
 | _,_,.nil=>.nil
 | _,_,.cons n t h=>.cons ⟨t,rfl⟩ (vals_ints h)
end L2
namespace L2
open PySem PySem.Spec PyProof.Rows
noncomputable abbrev KOf {K:PySem.W.Frag}{h:Heap} (_:K.In h):PySem.W.Frag:=K
end L2
namespace L2
open PySem PySem.Spec PyProof.Rows
noncomputable def inClass (s:Stmt) (j:Nat):Stmt:=match s with
 | .ClassDef _ _ _ body _ _ _ _ _ _ _=>body.getD j (.Pass ⟨0,0,0,0⟩)
 | _=>.Pass ⟨0,0,0,0⟩
noncomputable def defArgs (s:Stmt):Arguments:=match s with
 | .FunctionDef _ a _ _ _ _ _ _ _ _=>a
 | _=>{ posonlyargs:=[],args:=[],vararg:=none,kwonlyargs:=[],kw_defaults:=[],kwarg:=none,defaults:=[] }
noncomputable def defBody (s:Stmt):List Stmt:=match s with
 | .FunctionDef _ _ b _ _ _ _ _ _ _=>b
 | _=>[]
noncomputable def defScope (s:Stmt):Scope:=match s with
 | .FunctionDef _ _ _ _ _ _ sc _ _ _=>sc
 | _=>{ kind:=.function,names:=[],isGenerator:=false,isCoroutine:=false }
noncomputable abbrev CX0:CXT:=fun _ _ _ _ _ _=>False
noncomputable abbrev E0:St→XK:=fun _ _ _ _=>False
structure Fun (K:PySem.W.Frag) (x qual:Str) (st:Stmt) (f:Addr) (fd:FuncData):Prop where
 ex:∃ (oc:Value) (od:Option Addr) (kV doc pm:Value) (an:Option Addr) (cdv ct:Value) (osl:Array (Option Value)),
  fd=PySem.W.fnOf x qual (defArgs st) (defBody st) (defScope st) .none kV doc pm an cdv ct∧K.lookup f=some ⟨oc,od,.func fd,osl⟩∧PySem.W.codeIn K cdv qual=true
 kp:PySem.W.keepIn K (.ref f)=true
section
variable {P:Program}{w:World}{K:PySem.W.Frag}{mg:Str→Option Value}{base:Heap}
theorem Fun.ok {x qual:Str}{st:Stmt}{f:Addr}{fd:FuncData}{N ps:List Str}{k:Nat}{sp:Sp} (F:Fun K x qual st f fd) (S:FnScope N ps (defScope st)) (len:∀ vs H Q E,sp vs H Q E→vs.length=ps.length)
  (hbody:∀ (cdv:Value) (A:Around) (outer:List Env) (s:Shared) (H:Hp) (vs:List V) (Q:VK) (E:XK),Room k (A.deeper (envOfC qual (defScope st) s.heap.objs.size f cdv))→sp vs H Q E →
   ∃ t,PSs (cxOf CX0 P w K mg base N qual (defScope st) f cdv A outer s H E).nox (defBody st) t∧t { nx:=fun _ H'=>Q .non H',rt:=Q } (start N vs) H):FnOk P w K mg base CX0 (k + 1) f fd ps sp:=by
 obtain ⟨oc,od,kV,doc,pm,an,cdv,ct,osl,rfl,lk,hcd⟩:=F.ex;refine fn_of lk hcd S len fun A outer s H vs Q E hr hsp=>?_;obtain ⟨t,h,q⟩:=hbody cdv A outer s H vs Q E hr hsp;exact ⟨t,h.nox,q⟩
theorem Fun.binds {x qual:Str}{st:Stmt}{f:Addr}{fd:FuncData}{ps:List Str} (F:Fun K x qual st f fd)
  (h:∀ (kV doc pm:Value) (an:Option Addr) (cdv ct:Value) (us:List Value),us.length=ps.length→bindArgs (PySem.W.fnOf x qual (defArgs st) (defBody st) (defScope st) .none kV doc pm an cdv ct) ⟨us,[]⟩=pure (ps.zip us)):Binds K fd ps []:=by
 obtain ⟨oc,od,kV,doc,pm,an,cdv,ct,osl,rfl,lk,hcd⟩:=F.ex;exact .all (h kV doc pm an cdv ct)
theorem fun_mk {x qual:Str}{st:Stmt}{f:Addr}{oc:Value}{od an:Option Addr}{osl:Array (Option Value)}{kV doc pm cdv ct:Value} (l:K.lookup f=some ⟨oc,od,.func (PySem.W.fnOf x qual (defArgs st) (defBody st) (defScope st) .none kV doc pm an cdv ct),osl⟩)
  (c:PySem.W.codeIn K cdv qual=true) (k:PySem.W.keepIn K (.ref f)=true):Fun K x qual st f (PySem.W.fnOf x qual (defArgs st) (defBody st) (defScope st) .none kV doc pm an cdv ct):=⟨⟨oc,od,kV,doc,pm,an,cdv,ct,osl,rfl,l,c⟩,k⟩
end
theorem hu_of {A:Around}{k:Nat} (hr:Room k A):A.units + 1 < cLine:=Nat.lt_of_le_of_lt (Nat.add_le_add_left (by decide:1≤64) _) hr.units
theorem small1000 {n:Nat} (h:n≤1000):n < sizeLine:=Nat.lt_of_le_of_lt h (by decide)
section
variable {X:Cx}
theorem pv (i:Nat) {x:Str}{pos:Pos} (hN:X.N[i]? = some x:=by rfl) (hv:Vis X.env.scope x:=by first | exact Or.inl rfl | exact Or.inr (Or.inl rfl) | exact Or.inr (Or.inr rfl)) (hd:(x == ("__debug__" : Str))=false:=by decide)
  (hcd:(x == ("__classdict__" : Str))=false:=by decide):PE X (.Name x pos) (tVar i):=pe_var hN hv hd hcd
end
theorem iteF {A B:Prop} (h:B):if false=true then A else B:=by
 rw [if_neg Zn];exact h
theorem iteT {A B:Prop} (h:A):if true=true then A else B:=by
 rw [if_pos rfl];exact h
theorem ite2 {c A B:Prop} [Decidable c] (h1:c→A) (h2:¬ c→B):if c then A else B:=by
 by_cases h:c
 ·rw [if_pos h];exact h1 h
 ·rw [if_neg h];exact h2 h
noncomputable def Same (H H':Hp):Prop:=∀ b o,H b=some o→H' b=some o
theorem Same.refl (H:Hp):Same H H:=fun _ _ h=>h
theorem Same.trans {H H1 H2:Hp} (a:Same H H1) (b:Same H1 H2):Same H H2:=fun c o h=>b c o (a c o h)
theorem Same.free {H H':Hp} (e:Same H H') {l:Addr} (h:H' l=Option.none):H l=Option.none:=by
 cases q:H l with
 | none=>rfl
 | some o =>
  rw [e l o q] at h;cases h
end L2
namespace L2
open PySem PySem.Spec PyProof.Rows
section
variable {κ : Type} [DecidableEq κ]
noncomputable def valV (kvs:List (κ×V)) (k : κ):Option V:=(kvs.find? fun kv=>decide (kv.1=k)).map (·.2)
noncomputable def putK (kvs:List (κ×V)) (k : κ) (v:V):List (κ×V) :=
 if (kvs.any fun kv=>decide (kv.1=k))=true then kvs.map (fun kv=>if kv.1=k then (kv.1,v) else kv) else kvs++[(k,v)]
theorem zCr {p : κ×V}{r:List (κ×V)}{k : κ} (e:p.1=k):valV (p :: r) k=some p.2:=by simp [valV,Y7,e]
theorem zCs {p : κ×V}{r:List (κ×V)}{k : κ} (e:¬ p.1=k):valV (p :: r) k=valV r k:=by simp [valV,Y7,e]
theorem zFw (k : κ):∀ kvs:List (κ×V),(kvs.any fun kv=>decide (kv.1=k))=(valV kvs k).isSome
 | []=>rfl
 | p :: r=>by
  rw [List.any_cons];by_cases e:p.1=k
  ·simp only [zCr e,decide_eq_true e,Bool.true_or,Option.isSome_some]
  ·rw [zCs e,decide_eq_false e,Bool.false_or];exact zFw k r
theorem zEt (kvs:List (κ×V)) (k : κ) (v:V):(putK kvs k v).length≤kvs.length + 1:=by
 unfold putK;split
 ·rw [Z0];omega
 ·rw [Z4,Ze,Yc];omega
theorem RelO.isSome_eq {o:Option V}{u:Option Value} (r:RelO o u):o.isSome=u.isSome:=by
 cases o with
 | none=>cases u with
  | none=>rfl
  | some _=>exact (show False from r).elim
 | some _=>cases u with
  | none=>exact (show False from r).elim
  | some _=>rfl
theorem KV.val {kvs:List (κ×V)}{vs:List (κ×Value)} (r:KV kvs vs) (k : κ):RelO (valV kvs k) (valueAt vs k):=by
 unfold KV at r
 induction r with
 | nil=>exact True.intro
 | @cons p q ps qs h t ih =>
  obtain ⟨h1,h2⟩:=h;by_cases e:p.1=k
  ·have e':q.1=k:=h1.symm.trans e;have b:valueAt (q :: qs) k=some q.2:=by simp [valueAt,Y7,e']
   rw [zCr e,b];exact h2
  ·have e':¬ q.1=k:=fun z=>e (h1.trans z);have b:valueAt (q :: qs) k=valueAt qs k:=by simp [valueAt,Y7,e']
   rw [zCs e,b];exact ih
theorem KV.any {kvs:List (κ×V)}{vs:List (κ×Value)} (r:KV kvs vs) (k : κ):(kvs.any fun kv=>decide (kv.1=k))=vs.any fun kv=>decide (kv.1=k):=by
 unfold KV at r
 induction r with
 | nil=>rfl
 | cons h t ih=>rw [List.any_cons,List.any_cons,ih,h.1]
theorem KV.repl {kvs:List (κ×V)}{vs:List (κ×Value)} (r:KV kvs vs) (k : κ) {y:V}{u:Value} (ry:RelV y u) :
  KV (kvs.map fun kv=>if kv.1=k then (kv.1,y) else kv) (vs.map fun kv=>if kv.1=k then (kv.1,u) else kv):=by
 unfold KV at r ⊢
 induction r with
 | nil=>exact .nil
 | @cons p q ps qs h t ih =>
  rw [Zp,Zp];refine .cons ?_ ih;obtain ⟨h1,h2⟩:=h;by_cases e:p.1=k
  ·rw [if_pos e,if_pos (h1.symm.trans e)];exact ⟨h1,ry⟩
  ·rw [if_neg e,if_neg (fun z=>e (h1.trans z))];exact ⟨h1,h2⟩
theorem KV.put {kvs:List (κ×V)}{vs:List (κ×Value)} (r:KV kvs vs) (k : κ) {y:V}{u:Value} (ry:RelV y u):KV (putK kvs k y) (stored vs k u):=by
 unfold putK stored;rw [r.any k];by_cases e:(vs.any fun kv=>decide (kv.1=k))=true
 ·rw [if_pos e,if_pos e];exact r.repl k ry
 ·rw [if_neg e,if_neg e];exact Paired.snoc r ⟨rfl,ry⟩
theorem KV.length {kvs:List (κ×V)}{vs:List (κ×Value)} (r:KV kvs vs):kvs.length=vs.length:=Paired.length r
end
theorem kV_is {P:Program}{w:World}{k:Key}{u:Value} (r:RelV (kV k) u):(mixKind P w).is k u=true:=by
 cases k with
 | inl i=>obtain ⟨t,e⟩:=(show ∃ t,u=Value.int i t from r);subst e;exact mixKind_int P w i t
 | inr x=>obtain ⟨t,e⟩:=(show ∃ t,u=Value.str x t from r);subst e;exact mixKind_str P w x t
theorem items_are {P:Program}{w:World}:∀ {ks:List Key}{us:List Value},Vals (ks.map kV) us→ItemsAre (mixKind P w) ks us
 | [],_,r=>by rw [List.map_nil] at r;cases r;exact .nil
 | k :: ks,_,r=>by
  rw [Zp] at r;cases r with
  | cons h t=>exact .cons (kV_is h) (items_are t)
noncomputable abbrev KT (H:Hp):List (List Key×V)→List (List Key×Addr×Value)→Prop:=Paired fun p q=>p.1=q.1∧H q.2.1=some (.tup (p.1.map kV))∧RelV p.2 q.2.2
theorem KT.val {H:Hp}{kvs:List (List Key×V)}{xs:List (List Key×Addr×Value)} (r:KT H kvs xs) (k:List Key):RelO (valV kvs k) ((atKey xs k).map (·.2)):=by
 induction r with
 | nil=>exact True.intro
 | @cons p q ps qs h t ih =>
  obtain ⟨h1,_,h2⟩:=h;by_cases e:p.1=k
  ·have e':q.1=k:=h1.symm.trans e;have b:atKey (q :: qs) k=some q.2:=by simp [atKey,Y7,e']
   rw [zCr e,b];exact h2
  ·have e':¬ q.1=k:=fun z=>e (h1.trans z);have b:atKey (q :: qs) k=atKey qs k:=by simp [atKey,Y7,e']
   rw [zCs e,b];exact ih
theorem KT.repl {H:Hp}{kvs:List (List Key×V)}{xs:List (List Key×Addr×Value)} (r:KT H kvs xs) (k:List Key) {y:V}{u:Value} (ry:RelV y u) :
  KT H (kvs.map fun kv=>if kv.1=k then (kv.1,y) else kv) (xs.map (putAt k u)):=by
 induction r with
 | nil=>exact .nil
 | @cons p q ps qs h t ih =>
  rw [Zp,Zp];refine .cons ?_ ih;obtain ⟨h1,h2,h3⟩:=h;unfold putAt;by_cases e:p.1=k
  ·rw [if_pos e,if_pos (h1.symm.trans e)];exact ⟨h1,h2,ry⟩
  ·rw [if_neg e,if_neg (fun z=>e (h1.trans z))];exact ⟨h1,h2,h3⟩
theorem KT.put {H:Hp}{kvs:List (List Key×V)}{xs:List (List Key×Addr×Value)} (r:KT H kvs xs) (k:List Key) {b:Addr}{y:V}{u:Value} (hb:H b=some (.tup (k.map kV))) (ry:RelV y u) :
  KT H (putK kvs k y) (storedH xs k b u):=by
 have e:(kvs.any fun kv=>decide (kv.1=k))=(atKey xs k).isSome:=by
  rw [zFw,(r.val k).isSome_eq,Option.isSome_map]
 unfold putK storedH;rw [e];by_cases q:(atKey xs k).isSome=true
 ·rw [if_pos q,if_pos q];exact r.repl k ry
 ·rw [if_neg q,if_neg q];exact Paired.snoc r ⟨rfl,hb,ry⟩
theorem KT.keeps {H H':Hp}{kvs:List (List Key×V)}{xs:List (List Key×Addr×Value)} (r:KT H kvs xs) (ht:∀ b ys,H b=some (.tup ys)→H' b=some (.tup ys)):KT H' kvs xs :=
 Paired.mapP r fun _ _ z=>⟨z.1,ht _ _ z.2.1,z.2.2⟩
section
variable {P:Program}{w:World}{H:Hp}{h:Heap}{a:Addr}
theorem rd_of {u:HO} (ok:HOk P w H h) (e:Rd H a u):ObjOk P w H h a u:=e.ok ok
theorem dk_rd {kvs:List (Key×V)} (ok:HOk P w H h) (e:Rd H a (.dK kvs)):kvs.length≤sizeLine∧(a == sysModules)=false∧∃ vs,KV kvs vs∧h.DictOf (mixKind P w) a vs :=
 show ObjOk P w H h a (.dK kvs) from rd_of ok e
theorem dk_of {kvs:List (Key×V)} (ok:HOk P w H h) (e:H a=some (.dK kvs)):kvs.length≤sizeLine∧(a == sysModules)=false∧∃ vs,KV kvs vs∧h.DictOf (mixKind P w) a vs:=dk_rd ok (.inl e)
theorem key_of {ks:List Key} (ok:HOk P w H h) (e:H a=some (.tup (ks.map kV))):(tupleKind (mixKind P w)).is h ks a:=by
 obtain ⟨_,its,r,o,h1,h2,n,h3⟩:=(show ObjOk P w H h a (.tup (ks.map kV)) from ok a _ e);exact ⟨o,its.toArray,n,h1,h2,h3,by simpa using items_are r⟩
theorem dt_rd {kvs:List (List Key×V)} (ok:HOk P w H h) (e:Rd H a (.dT kvs)):kvs.length≤sizeLine∧(a == sysModules)=false ∧
  ∃ xs,KT H kvs xs∧h.DictOfH (tupleKind (mixKind P w)) a xs:=by
 obtain ⟨z,y,xs,r,o,es,ep,h1,h2,h3,h4,h5⟩:=(show ObjOk P w H h a (.dT kvs) from rd_of ok e);refine ⟨z,y,xs,r,o,es,ep,h1,h2,h3,h4,fun x hx=>?_,h5⟩;have all:∀ {l:List (List Key×V)}{m:List (List Key×Addr×Value)},KT H l m→∀ x∈m,(tupleKind (mixKind P w)).is h x.1 x.2.1:=by
  intro l m q
  induction q with
  | nil=>intro x hx;exact nomatch hx
  | @cons p q ps qs hq t ih =>
   intro x hx;rcases List.mem_cons.mp hx with e | hx
   ·subst e;exact key_of ok (by rw [← hq.1];exact hq.2.1)
   ·exact ih x hx
 exact all r x hx
theorem dt_of {kvs:List (List Key×V)} (ok:HOk P w H h) (e:H a=some (.dT kvs)):kvs.length≤sizeLine∧(a == sysModules)=false ∧
  ∃ xs,KT H kvs xs∧h.DictOfH (tupleKind (mixKind P w)) a xs:=dt_rd ok (.inl e)
end
noncomputable def DGet (H:Hp) (a:Addr) (y:V) (r:Option V):Prop :=
 (∃ kvs k,Rd H a (.dK kvs)∧y=kV k∧r=valV kvs k)∨∃ kvs k b,Rd H a (.dT kvs)∧y=.ref b∧H b=some (.tup (k.map kV))∧r=valV kvs k
noncomputable def DPut (H:Hp) (a:Addr) (y v:V) (H':Hp):Prop :=
 (∃ kvs k,H a=some (.dK kvs)∧y=kV k∧kvs.length < sizeLine∧H'=upd H a (.dK (putK kvs k v))) ∨
 ∃ kvs k b,H a=some (.dT kvs)∧y=.ref b∧H b=some (.tup (k.map kV))∧kvs.length < sizeLine∧H'=upd H a (.dT (putK kvs k v))
theorem DGet.k {H:Hp}{a:Addr}{kvs:List (Key×V)}{k:Key} (e:H a=some (.dK kvs)):DGet H a (kV k) (valV kvs k):=.inl ⟨kvs,k,.inl e,rfl,rfl⟩
theorem DGet.t {H:Hp}{a b:Addr}{kvs:List (List Key×V)}{k:List Key} (e:H a=some (.dT kvs)) (eb:H b=some (.tup (k.map kV))):DGet H a (.ref b) (valV kvs k):=.inr ⟨kvs,k,b,.inl e,rfl,eb,rfl⟩
theorem DPut.k {H:Hp}{a:Addr}{kvs:List (Key×V)}{k:Key}{v:V} (e:H a=some (.dK kvs)) (hl:kvs.length < sizeLine):DPut H a (kV k) v (upd H a (.dK (putK kvs k v))):=.inl ⟨kvs,k,e,rfl,hl,rfl⟩
theorem DPut.t {H:Hp}{a b:Addr}{kvs:List (List Key×V)}{k:List Key}{v:V} (e:H a=some (.dT kvs)) (eb:H b=some (.tup (k.map kV))) (hl:kvs.length < sizeLine) :
  DPut H a (.ref b) v (upd H a (.dT (putK kvs k v))):=.inr ⟨kvs,k,b,e,rfl,eb,hl,rfl⟩
section
variable {X:Cx}{pins:List (Addr×Obj)}{σ : St}{H:Hp}{s:Shared}{a:Addr}{y v:V}{u r:Value}{o:Option V}{A:Around}{E:Value→Shared→Prop}
theorem Inv.big (I:Inv X pins σ H s):sysModules < s.heap.objs.size:=by
 have h:mainGlobals < s.heap.objs.size:=(I.mod.glob.keeps I.bk).lt;exact Nat.lt_trans (by decide) h
theorem d_getItem {Q:Value→Shared→Prop} (hu:A.units + 1 < cLine) (I:Inv X pins σ H s) (g:DGet H a y (some v)) (ry:RelV y u) (h:∀ w' s',Inv X pins σ H s'→RelV v w'→Q w' s') :
  wpAny (model X.prog X.w) A (getItem (.ref a) u) Q E s:=by
 rcases g with ⟨kvs,k,e,ey,l⟩ | ⟨kvs,k,b,e,ey,eb,l⟩
 ·subst ey;obtain ⟨z,hd,vs,rel,dd⟩:=dk_rd I.hok e;obtain ⟨w',hw,rw'⟩:=RelO.some_of (v:=v) (o:=valueAt vs k) (by rw [l];exact rel.val k);exact wpAny_getItem_of (kV_is ry) dd.mapOf hw (h w' _ (I.tok _) rw')
 ·subst ey;cases (show u=Value.ref b from ry);obtain ⟨z,hd,xs,rel,dd⟩:=dt_rd I.hok e;obtain ⟨w',hw,rw'⟩:=RelO.some_of (v:=v) (o:=(atKey xs k).map (·.2)) (by rw [l];exact rel.val k);obtain ⟨p,hp,hp2⟩:=Option.map_eq_some_iff.mp hw;refine wpAny_getItem_heap (tupleKind_room_in1 hu) (key_of I.hok eb) dd hp ?_;rw [hp2];exact h w' _ (I.tok _) rw'
theorem d_in {Q:Value→Shared→Prop} (hu:A.units + 1 < cLine) (I:Inv X pins σ H s) (g:DGet H a y o) (ry:RelV y u) (h:∀ s',Inv X pins σ H s'→Q (.bool o.isSome) s') :
  wpAny (model X.prog X.w) A (compareOp .In u (.ref a)) Q E s:=by
 rcases g with ⟨kvs,k,e,ey,l⟩ | ⟨kvs,k,b,e,ey,eb,l⟩
 ·subst ey;obtain ⟨z,hd,vs,rel,dd⟩:=dk_rd I.hok e;refine wpAny_in_of (kV_is ry) hd dd.mapOf ?_;rw [← (rel.val k).isSome_eq,← l];exact h _ (I.tok _)
 ·subst ey;cases (show u=Value.ref b from ry);obtain ⟨z,hd,xs,rel,dd⟩:=dt_rd I.hok e;refine wpAny_in_heap (tupleKind_room_in1 hu) (key_of I.hok eb) hd dd ?_;have q:=(rel.val k).isSome_eq;rw [Option.isSome_map] at q;rw [← q,← l];exact h _ (I.tok _)
theorem d_notIn {Q:Value→Shared→Prop} (hu:A.units + 1 < cLine) (I:Inv X pins σ H s) (g:DGet H a y o) (ry:RelV y u) (h:∀ s',Inv X pins σ H s'→Q (.bool (!o.isSome)) s') :
  wpAny (model X.prog X.w) A (compareOp .NotIn u (.ref a)) Q E s:=by
 rcases g with ⟨kvs,k,e,ey,l⟩ | ⟨kvs,k,b,e,ey,eb,l⟩
 ·subst ey;obtain ⟨z,hd,vs,rel,dd⟩:=dk_rd I.hok e;refine wpAny_notIn_of (kV_is ry) hd dd.mapOf ?_;rw [← (rel.val k).isSome_eq,← l];exact h _ (I.tok _)
 ·subst ey;cases (show u=Value.ref b from ry);obtain ⟨z,hd,xs,rel,dd⟩:=dt_rd I.hok e;refine wpAny_notIn_heap (tupleKind_room_in1 hu) (key_of I.hok eb) hd dd ?_;have q:=(rel.val k).isSome_eq;rw [Option.isSome_map] at q;rw [← q,← l];exact h _ (I.tok _)
theorem d_write {h':Heap}{t':Nat}{ob:HO} (I:Inv X pins σ H s) (mu:Mut (H a)) (hs:Heap.SameBut a s.heap h') (he:∃ q,h'.get? a=some q) (new:ObjOk X.prog X.w (upd H a ob) h' a ob) :
  Inv X pins σ (upd H a ob) { s with heap:=h',toks:=t' } :=
 I.write (x:=a) (e:=a) mu (.inl rfl) (fun b q hb z=>(hs.2 b hb).trans z) he new
theorem dk_new {P:Program}{w:World}{H':Hp}{h':Heap}{kvs:List (Key×V)}{vs:List (Key×Value)} (z:kvs.length≤sizeLine) (hd:(a == sysModules)=false) (rel:KV kvs vs) (dd:h'.DictOf (mixKind P w) a vs) :
  ObjOk P w H' h' a (.dK kvs):=⟨z,hd,vs,rel,dd⟩
theorem d_setItem {H':Hp}{Q:Unit→Shared→Prop} (hu:A.units + 1 < cLine) (I:Inv X pins σ H s) (g:DPut H a y v H') (ry:RelV y u) (rv:RelV v r) (h:∀ s',Inv X pins σ H' s'→Q () s') :
  wpAny (model X.prog X.w) A (setItem (.ref a) u r) Q E s:=by
 rcases g with ⟨kvs,k,e,ey,l,eH⟩ | ⟨kvs,k,b,e,ey,eb,l,eH⟩
 ·subst ey eH;obtain ⟨z,hd,vs,rel,dd⟩:=dk_of I.hok e;have hz:vs.length≤sizeLine:=by rw [← rel.length];exact z
  have hl:(putK kvs k v).length≤sizeLine:=by have:=zEt kvs k v;omega
  refine wpAny_setItem_pairs (hsz:=hz) (kV_is ry) dd fun h' dd' hs=>h _ ?_;have he:∃ q,h'.get? a=some q:=let ⟨q,_,_,hq,_⟩:=dd';⟨q,hq⟩;exact d_write I (by rw [e];exact True.intro) hs he (dk_new hl hd (rel.put k rv) dd')
 ·subst ey eH;cases (show u=Value.ref b from ry);obtain ⟨z,hd,xs,rel,dd⟩:=dt_of I.hok e;have hz:xs.length≤sizeLine:=by rw [← Paired.length rel];exact z
  have hl:(putK kvs k v).length≤sizeLine:=by have:=zEt kvs k v;omega
  refine wpAny_setItem_heap (hsz:=hz) (tupleKind_room_in1 hu) (key_of I.hok eb) dd fun h' dd' hs=>h _ ?_;obtain ⟨q,es,ep,hq,h2,h3,h4,_,h5⟩:=dd';refine d_write I (by rw [e];exact True.intro) hs ⟨q,hq⟩ ⟨hl,hd,_,(rel.put k eb rv).keeps fun c ys ec=>?_,q,es,ep,hq,h2,h3,h4,h5⟩;rw [zAa (ne_of ec e (fun z=>nomatch z))];exact ec
end
section
variable {X:Cx}{pins:List (Addr×Obj)}{σ : St}{H:Hp}{s:Shared}{a:Addr}{kvs:List (Key×V)}{k:Key}{u:Value}{A:Around}{E:Value→Shared→Prop}
theorem d_len {Q:Value→Shared→Prop} (I:Inv X pins σ H s) (e:Rd H a (.dK kvs)) (h:∀ t s',Inv X pins σ H s'→Q (.int kvs.length t) s'):wpAny (model X.prog X.w) A (call (.builtin "len") [.ref a]) Q E s:=by
 obtain ⟨z,hd,vs,rel,dd⟩:=dk_rd I.hok e;refine call_len_dict hd dd (by rw [← rel.length];rw [sizeLine_eq] at z;omega) ?_;rw [← rel.length];exact h _ _ (I.tok _)
end
noncomputable def NoSl (i:Expr):Prop:=∀ ov iv,subscripted i false ov iv=operate [ov,iv] (getItem ov iv)
theorem subD_of {prog:Program}{w:World}{A:Around}{E:Value→Shared→Prop}{s:Shared}{env:Env}{value slice:Expr}{pos:Pos}{T id:String}{Q:Value→Shared→Prop}
  (hl:typeLookup (.type T) "__getitem__" = pure (some (.builtin id))) (hs:NoSl slice)
  (h:wpAny (model prog w) A (eval value env) (fun o s₁=>wpAny (model prog w) A (eval slice env) (fun i s₂=>s₂.TypeIs o T∧wpAny (model prog w) A (getItem o i) Q E s₂) E s₁) E s) :
  wpAny (model prog w) A (eval (.Subscript value slice pos) env) Q E s:=by
 refine Subscript_ (wpAny_mono h (fun o s₁ h₁=>wpAny_mono h₁ (fun i s₂ h₂=>?_) fun _ _ x=>x) fun _ _ x=>x);obtain ⟨hT,h₂⟩:=h₂;unfold subscriptTail;refine wpAny_bind ?_;rw [getitemInPython_of_ne hT.not_modules];refine wpAny_bind (wpAny_specialOf hT hl ?_);have fin:wpAny (model prog w) A (subscripted slice false o i) (fun r s₃=>wpAny (model prog w) A (letTemporaryGo value o r >>= fun _=>pure r) Q E s₃) E s₂:=by
  rw [hs o i];exact wpAny_operating (wpAny_mono h₂ (fun r s₃ h₃=>wpAny_bind (wpAny_letTemporaryGo (wpAny_pure h₃))) fun _ _ x=>x)
 first
  | exact wpAny_pure (wpAny_bind fin)
  | exact wpAny_bind (wpAny_pure (wpAny_bind fin))
  | exact wpAny_bind fin
theorem dict_typeIs {X:Cx}{pins:List (Addr×Obj)}{σ : St}{H:Hp}{s:Shared}{a:Addr}{y:V}{o:Option V} (I:Inv X pins σ H s) (g:DGet H a y o):s.TypeIs (.ref a) "dict":=by
 rcases g with ⟨kvs,k,e,_,_⟩ | ⟨kvs,k,b,e,_,_,_⟩
 ·obtain ⟨_,_,vs,_,dd⟩:=dk_rd I.hok e;exact dd.typeIs
 ·obtain ⟨_,_,xs,_,dd⟩:=dt_rd I.hok e;exact dd.typeIs
noncomputable def tDGet (td ty:TE):TE:=fun σ H Q=>td σ H fun x H1=>ty σ H1 fun y H2=>∃ a v,x=.ref a∧DGet H2 a y (some v)∧Q v H2
noncomputable def tDIn (ty td:TE):TE:=fun σ H Q=>ty σ H fun y H1=>td σ H1 fun x H2=>∃ a o,x=.ref a∧DGet H2 a y o∧Q (.bl o.isSome) H2
noncomputable def tDNotIn (ty td:TE):TE:=fun σ H Q=>ty σ H fun y H1=>td σ H1 fun x H2=>∃ a o,x=.ref a∧DGet H2 a y o∧Q (.bl (!o.isSome)) H2
noncomputable def sDPut (td ty tv:TE):TS:=fun D σ H=>tv σ H fun v H1=>td σ H1 fun x H2=>ty σ H2 fun y H3=>∃ a H4,x=.ref a∧DPut H3 a y v H4∧D.nx σ H4
section
variable {X:Cx}{o i e value:Expr}{pos pos' tpos:Pos}{td ty tv:TE}
theorem zEl (hu:X.A.units + 1 < cLine) (ho:PE X o td) (hi:PE X i ty) (hs:NoSl i):PE X (.Subscript o i pos) (tDGet td ty):=by
 intro pins s σ H Q I h;refine subD_of PySem.F.slot_dict_getitem.lookup hs (thn (ho pins s σ H _ I h) fun u s1 ⟨x,H1,I1,rx,q1⟩=>thn (hi pins s1 σ H1 _ I1 q1) fun iv s2 ⟨y,H2,I2,ry,a,v,ex,g,q2⟩=>?_);subst ex;obtain rfl:u=Value.ref a:=rx;exact ⟨dict_typeIs I2 g,d_getItem hu I2 g ry fun w' s3 I3 rw'=>⟨v,H2,I3,rw',q2⟩⟩
theorem pc_din (hu:X.A.units + 1 < cLine) (hi:PE X i ty) (ho:PE X o td):PC X .In i o (tDIn ty td):=by
 intro pins s σ H Q I h;refine thn (hi pins s σ H _ I h) fun iv s1 ⟨y,H1,I1,ry,q1⟩=>thn (ho pins s1 σ H1 _ I1 q1) fun u s2 ⟨x,H2,I2,rx,a,ov,ex,g,q2⟩=>?_;subst ex;obtain rfl:u=Value.ref a:=rx;exact d_in hu I2 g ry fun s3 I3=>⟨.bl ov.isSome,H2,I3,rfl,q2⟩
theorem zCj (hu:X.A.units + 1 < cLine) (hi:PE X i ty) (ho:PE X o td):PC X .NotIn i o (tDNotIn ty td):=by
 intro pins s σ H Q I h;refine thn (hi pins s σ H _ I h) fun iv s1 ⟨y,H1,I1,ry,q1⟩=>thn (ho pins s1 σ H1 _ I1 q1) fun u s2 ⟨x,H2,I2,rx,a,ov,ex,g,q2⟩=>?_;subst ex;obtain rfl:u=Value.ref a:=rx;exact d_notIn hu I2 g ry fun s3 I3=>⟨.bl (!ov.isSome),H2,I3,rfl,q2⟩
theorem ps_dput (hu:X.A.units + 1 < cLine) (ho:PE X o td) (hi:PE X i ty) (hv:PE X value tv) (hs:swapsWith value (some (.Subscript o i pos')) pos.line X.env=pure false) :
  PS X (.Assign [.Subscript o i pos'] value pos) (sDPut td ty tv):=by
 intro pins s σ H D I h;refine wpAny_Assign_Subscript (thn (hv pins s σ H _ I h) fun r s1 ⟨v,H1,I1,rv,q1⟩=>thn (ho pins s1 σ H1 _ I1 q1) fun u s2 ⟨x,H2,I2,rx,q2⟩=>thn (hi pins s2 σ H2 _ I2 q2) fun iv s3 ⟨y,H3,I3,ry,a,H4,ex,g,q3⟩=>?_) hs;subst ex;obtain rfl:u=Value.ref a:=rx;exact d_setItem hu I3 g ry rv fun s4 I4=>⟨σ,H4,I4,q3⟩
end
theorem dk_empty {P:Program}{w:World}{H:Hp} (h:Heap) (hb:sysModules < h.objs.size):ObjOk P w H (h.push { cls:=.type "dict",data:=.dict #[] }) h.objs.size (.dK []) :=
 ⟨Zz _,beq_eq_false_iff_ne.mpr (Ne.symm (Zc hb)),[],.nil,Heap.DictOf.new h⟩
noncomputable def tDNewK:TE:=fun _ H Q=>∀ p,H p=none→Q (.ref p) (upd H p (.dK []))
section
variable {X:Cx}{pos:Pos}
theorem zG7:PE X (.Dict [] [] pos) tDNewK:=fun pins s σ H Q I h =>
 wpAny_Dict_empty ⟨.ref s.heap.objs.size,_,I.laid (a:=s.heap.objs.size) (o:=.dK []) (t':=s.toks) (fun _ _ q=>Z2 _ q) (Z5 _) (dk_empty s.heap I.big),rfl,h _ (I.hok.fresh (Z5 _))⟩
end
section
variable {X:Cx}{pins:List (Addr×Obj)}{σ : St}{H:Hp}{s:Shared}{a:Addr}{y d:V}{u r:Value}{o:Option V}{A:Around}{E:Value→Shared→Prop}
end
section
variable {X:Cx}{o e f:Expr}{apos cpos:Pos}{td ty tx:TE}
end
section
variable {X:Cx}{pins:List (Addr×Obj)}{σ : St}{H:Hp}{s:Shared}{a:Addr}{kvs:List (Key×V)}{A:Around}{E:Value→Shared→Prop}
end
section
variable {X:Cx}{pins:List (Addr×Obj)}{σ : St}{H:Hp}{s:Shared}{a:Addr}{y:V}{u:Value}{A:Around}{E:Value→Shared→Prop}
end
end L2
namespace L2
open PySem PySem.Spec PyProof.Rows
noncomputable def PFs (X:Cx) (ifs:List Expr) (t:TT):Prop :=
 ∀ (pins:List (Addr×Obj)) (s:Shared) (σ : St) (H:Hp) (Q:Bool→Hp→Prop),Inv X pins σ H s→t σ H Q →
  wpAny (model X.prog X.w) X.A (forIn ifs true fun c r=>if r=true then do let ok ← isTrue c X.env (eval c X.env);pure (ForInStep.yield ok) else pure (ForInStep.yield r)) (TP X pins σ Q) X.xe s
noncomputable def tYes:TT:=fun _ H Q=>Q true H
theorem zB6 {X:Cx}:PFs X [] tYes:=fun _ _ _ H _ I h=>wpAny_tests_nil ⟨H,I,h⟩
theorem pf_one {X:Cx}{c:Expr}{t:TT} (h:PT X c t):PFs X [c] t:=fun pins s σ H Q I q=>wpAny_tests_one (h pins s σ H Q I q)
section
variable {prog:Program}{w:World}{A:Around}{R:Result→Shared→Prop}
theorem comp_loop {elt tg iter:Expr}{ifs:List Expr}{sc:Scope}{pos:Pos}{it acc:Value}{env:Env} (J:Nat→Shared→Prop) (N:Value→Shared→Prop)
  (hN:N=notedBy (model prog w) A env fun e z=>R (.error e) z)
  (turn:∀ k z,J k z→wpAny (model prog w) A (pyNext it) (fun r z1=>match r with
   | none=>R (.ok .next) z1
   | some v=>wpAny (model prog w) A (letOwnedTupleGo tg it v) (fun _ z2=>wpAny (model prog w) A (assign tg env v) (fun _ z3 =>
     wpAny (model prog w) A (forIn ifs true fun c r=>if r=true then do let ok ← isTrue c env (eval c env);pure (ForInStep.yield ok) else pure (ForInStep.yield r)) (fun ok z4 =>
      if ok=true then wpAny (model prog w) A (eval elt env) (fun y z5=>wpAny (model prog w) A (call (.builtin "list.append") [acc,y]) (fun _ z6=>∃ j,j < k∧J j z6) N z5) N z4
      else ∃ j,j < k∧J j z4) N z3) N z2) N z1) N z)
  {z:Shared} (k:Nat) (h:J k z):codeAny (model prog w) A (.compLoop (.ListComp elt [⟨tg,iter,ifs,0⟩] sc pos) 0 it acc env) R z:=by
 subst hN;refine codeAny_loop rfl J (fun k z hJ=>?_) k h;show wpAny _ A ((compTurn (.ListComp elt [⟨tg,iter,ifs,0⟩] sc pos) 0 it acc env).onRaise (fun x=>do noteFrame x env;theTreesLotGoes x)) _ _ z;refine wpAny_noted ?_;rw [compTurn_list];refine wpAny_bind (wpAny_standAt (wpAny_bind (thn (turn k z hJ) fun r z1 h1=>?_)));cases r with
 | none=>exact wpAny_pure h1
 | some v =>
  refine wpAny_bind (thn h1 fun _ z2 h2=>?_);refine wpAny_bind (thn h2 fun _ z3 h3=>?_);refine wpAny_bind (thn h3 fun ok z4 h4=>?_);cases ok with
  | false=>exact wpAny_pure ⟨rfl,h4⟩
  | true=>exact wpAny_bind (wpAny_bind (thn h4 fun y z5 h5=>wpAny_bind (thn h5 fun _ z6 h6=>wpAny_pure (wpAny_pure ⟨rfl,h6⟩))))
end
noncomputable def cxComp (X:Cx) (sc:Scope) (cl:List (Str×Addr)) (T:List Str) (C:Addr) (s2:Shared) (H2:Hp) (fp:List Addr):Cx where
 prog:=X.prog
 w:=X.w
 K:=X.K
 mg:=X.mg
 base:=X.base
 A:=X.A
 N:=X.N++T
 s₀:=s2
 H₀:=H2
 env:=compEnvC sc cl C X.env
 outer:=X.stack
 stack:=X.stack
 ex:=fp
 fn:=fun _=>false
 calm:=X.calm
 pn:=[]
 xe:=fun _ _=>False
noncomputable def ClOk (X:Cx):List (Str×Addr)→Prop
 | []=>True
 | p :: r=>X.env.cells.lookup p.1=some p.2∧ClOk X r
theorem ClOk.look {X:Cx}:∀ {cl:List (Str×Addr)},ClOk X cl→∀ x c,cl.lookup x=some c→X.env.cells.lookup x=some c
 | [],_,_,_,h=>by cases h
 | p :: r,k,x,c,h=>by
  cases e:x == p.1 with
  | true =>
   rw [Y2,e] at h;have ex:x=p.1:=by simpa using e
   rw [ex,k.1];exact h
  | false =>
   rw [Y2,e] at h;exact ClOk.look k.2 x c h
structure ScOk (X:Cx) (sc:Scope) (cl:List (Str×Addr)) (T:List Str):Prop where
 clos:closureFor sc X.env=pure cl
 cell:∀ y∈sc.names,y.2≠.cell
 kind:sc.kind=.function
 names:∀ x∈sc.names,x.2=.local→sc.names.lookup x.1=some .local
 cls:ClOk X cl
 has:∀ x∈sc.names,x.2=.free→(cl.lookup x.1).isSome=true∧(X.env.scope.names.lookup x.1=some .cell∨X.env.scope.names.lookup x.1=some .free)
 out:∀ x∈X.N,sc.names.lookup x≠some .local
theorem zDm {sc:Scope}{env:Env}{x:Str}{k:NameKind}:∀ {names:List (Str×NameKind)},
  (names.map fun (n,k)=>if (k == NameKind.free && env.scope.kind == .function && env.kindOf n == some .cell) then (n,NameKind.cell) else (n,k)).lookup x=some k →
  ∃ j,(x,j)∈names∧names.lookup x=some j∧(j=k∨(j=.free∧k=.cell))
 | [],h=>by cases h
 | (n,j) :: r,h=>by
  cases e:x == n with
  | true =>
   have ex:x=n:=by simpa using e
   subst ex;refine ⟨j,Z9,by rw [Y2,e],?_⟩;have h':List.lookup x ((if (j == NameKind.free && env.scope.kind == .function && env.kindOf x == some .cell)=true then (x,NameKind.cell) else (x,j)) :: _)=some k:=h;by_cases c:(j == NameKind.free && env.scope.kind == .function && env.kindOf x == some .cell)=true
   ·rw [if_pos c,Y2,e] at h';have c1:(j == NameKind.free)=true:=by
     cases q:(j == NameKind.free) with
     | true=>rfl
     | false=>rw [q] at c;simp at c
    exact .inr ⟨by simpa using c1,(Zi h').symm⟩
   ·rw [if_neg c,Y2,e] at h';exact .inl (Zi h')
  | false =>
   have h':List.lookup x ((if (j == NameKind.free && env.scope.kind == .function && env.kindOf n == some .cell)=true then (n,NameKind.cell) else (n,j)) :: _)=some k:=h;have h2:(List.map (fun (n,k)=>if (k == NameKind.free && env.scope.kind == .function && env.kindOf n == some .cell) then (n,NameKind.cell) else (n,k)) r).lookup x=some k:=by
    by_cases c:(j == NameKind.free && env.scope.kind == .function && env.kindOf n == some .cell)=true
    ·rw [if_pos c,Y2,e] at h';exact h'
    ·rw [if_neg c,Y2,e] at h';exact h'
   obtain ⟨i,m,l,q⟩:=zDm (sc:=sc) (env:=env) h2;exact ⟨i,Z6 _ m,by rw [Y2,e];exact l,q⟩
section
variable {X:Cx}{sc:Scope}{cl:List (Str×Addr)}{T:List Str}
theorem ScOk.seen (S:ScOk X sc cl T) {C:Addr}{x:Str} (h:(compEnvC sc cl C X.env).scope.names.lookup x=some .cell∨(compEnvC sc cl C X.env).scope.names.lookup x=some .free) :
  (∃ c,cl.lookup x=some c)∧(X.env.scope.names.lookup x=some .cell∨X.env.scope.names.lookup x=some .free):=by
 have key:∀ k,(k=.cell∨k=.free)→(relabel sc X.env).names.lookup x=some k→(∃ c,cl.lookup x=some c)∧(X.env.scope.names.lookup x=some .cell∨X.env.scope.names.lookup x=some .free):=by
  intro k hk h;obtain ⟨j,m,l,q⟩:=zDm (sc:=sc) (env:=X.env) h;have jf:j=.free:=by
   rcases q with rfl | ⟨q,_⟩
   ·rcases hk with rfl | rfl
    ·exact absurd rfl (S.cell _ m)
    ·rfl
   ·exact q
  subst jf;obtain ⟨a,b⟩:=S.has _ m rfl;exact ⟨Option.isSome_iff_exists.mp a,b⟩
 rcases h with h | h
 ·exact key _ (.inl rfl) h
 ·exact key _ (.inr rfl) h
theorem ScOk.local_out (S:ScOk X sc cl T) {C:Addr}{x:Str} (hx:x∈X.N):(compEnvC sc cl C X.env).scope.names.lookup x≠some .local:=by
 intro h;obtain ⟨j,m,l,q⟩:=zDm (sc:=sc) (env:=X.env) h;rcases q with rfl | ⟨_,q⟩
 ·exact S.out x hx l
 ·cases q
variable {pins:List (Addr×Obj)}{σ : St}{H:Hp}{s:Shared}{fp:List Addr}{C:Addr}
theorem comp_ok (S:ScOk X sc cl T) (I:Inv X pins σ H s) (hf:∀ b∈fp,FpOk X pins H b) (hl:∀ b∈fp,b < s.heap.objs.size) (hC:s.heap.objs.size≤C):(cxComp X sc cl T C s H fp).Ok where
 mod:=I.ok.mod
 kind:=S.kind
 glob:=I.ok.glob
 blt:=I.ok.blt
 above:=hC
 inj:=fun x y c h1 h2=>I.ok.inj x y c (S.cls.look x c h1) (S.cls.look y c h2)
 has:=fun x hx=>(S.seen hx).1
 cab:=fun x c h=>by cases h
 hd:=I.ok.hd
 frames:=I.ok.frames
 stk:=.inl rfl
 exf:=fun b hb=>⟨Zc (Z7 (hl b hb) hC),fun x c h=>(hf b hb).2.2.2.2.1 x c (S.cls.look x c h)⟩
 bs:=I.bs
 bsz:=Zd I.ok.bsz I.sz
 noex:=fun b o e hb=>by
  rcases (hf b hb).2.2.2.1 with z | z
  ·exact I.ok.noex b o e z
  ·exact absurd (Z7 (Z8 e) (Zd I.ok.bsz z)) (Y5 _)
 exfs:=fun b hb z=>by
  rcases List.mem_cons.mp (I.stkSub b z) with e | e
  ·exact (hf b hb).2.1 e
  ·exact (hf b hb).2.2.1 e
 funs:=I.stack
 frf:=I.stkFree
theorem comp_inv (S:ScOk X sc cl T) (I:Inv X pins σ H s) (hf:∀ b∈fp,FpOk X pins H b) (hl:∀ b∈fp,b < s.heap.objs.size) (hC:s.heap.objs.size≤C) {h1:Heap}{m:Str→Option Value}{t1:Nat}
  (k:∀ b o,s.heap.get? b=some o→h1.get? b=some o) (hn:h1.Ns C m):Inv (cxComp X sc cl T C s H fp) [] (σ++List.replicate T.length none) H { s with heap:=h1,toks:=t1 } where
 ok:=comp_ok S I hf hl hC
 os:=rfl
 bare:=I.bare
 base:=Un.kept k
 loc:=by
  refine ⟨m,hn,fun i x v e1 e2 e3=>?_⟩;have hi:i < σ.length:=by
   by_cases hi:i < σ.length
   ·exact hi
   ·rw [Zw (Nat.not_lt.mp hi),List.getElem?_replicate] at e2;split at e2 <;> cases e2
  rw [Zo hi] at e2;have e1':X.N[i]? = some x:=by
   have e:(X.N++T)[i]? = some x:=e1
   rwa [Zo (by rw [← I.len];exact hi)] at e
  have hx:x∈X.N:=Z3 e1';have e3':(compEnvC sc cl C X.env).scope.names.lookup x=some .cell∨(compEnvC sc cl C X.env).scope.names.lookup x=some .free:=by
   rcases e3 with z | z | z
   ·exact absurd z (S.local_out hx)
   ·exact .inl z
   ·exact .inr z
  obtain ⟨⟨c,hc⟩,ko⟩:=S.seen e3';obtain ⟨m0,hn0,hl0⟩:=I.loc;obtain ⟨u,r,l⟩:=hl0 i x v e1' e2 (.inr ko);refine ⟨u,r,.inr ⟨e3',c,hc,?_⟩⟩;have hc':=S.cls.look x c hc;rcases l with ⟨kl,_⟩ | ⟨_,c',hc2,z⟩
  ·have kl':X.env.scope.names.lookup x=some .local:=kl;rcases ko with q | q
   ·rw [q] at kl';cases kl'
   ·rw [q] at kl';cases kl'
  ·rw [hc'] at hc2;cases hc2;obtain ⟨o,ho,hd⟩:=z;exact ⟨o,k _ _ ho,hd⟩
 cell:=fun x c hc=>by
  obtain ⟨v,o,ho,hd⟩:=I.cell x c (S.cls.look x c hc);exact ⟨v,o,k _ _ ho,hd⟩
 free:=I.hok.fresh hC
 freeC:=fun x c hc=>I.freeC x c (S.cls.look x c hc)
 pin:=fun p hp=>absurd (show p∈([]:List (Addr×Obj)) from hp) (by simp)
 hok:=I.hok.kept k
 len:=by
  show (σ++List.replicate T.length none).length=(X.N++T).length;rw [Z4,Z4,Y6,I.len]
theorem comp_out (S:ScOk X sc cl T) (I:Inv X pins σ H s) (hf:∀ b∈fp,FpOk X pins H b) {D:Addr} (hD:s.heap.objs.size≤D) (hC:s.heap.objs.size≤C) (hDC:D≠C) {s1:Shared}{H1:Hp}{σ1:St}{p1:List (Addr×Obj)}{ys:List V}{its:List Value}
  (J:Inv (cxComp X sc cl T C s H fp) p1 σ1 H1 s1) (hH:H1 D=none) (rv:Vals ys its) (hz:ys.length≤sizeLine) (hget:s1.heap.get? D=some (LCg.lst its)) :
  Inv X pins σ (upd H1 D (.lst ys)) s1:=by
 have fD:H D=none:=I.hok.fresh hD;have nD:∀ b o,s.heap.get? b=some o→b≠D:=fun b o e=>Zc (Z7 (Z8 e) hD);refine I.call' (ch:=fp) J.os ⟨fun b o e n hb hx=>J.base.keep b o e n hb hx,fun b o e n hb hx=>J.base.slot b o e n hb hx,fun b o e n hx=>?_,fun b o e hx=>J.base.there b o e hx,fun b xs e=>?_,fun b o u e=>?_,fun b ps e=>?_⟩ (fun b u e=>?_) J.bare fun b hb=>⟨(hf b hb).2.2.2.1,(hf b hb).2.1,(hf b hb).2.2.2.2.1,(hf b hb).2.2.2.2.2⟩
 ·rw [zAa (nD b o e)];exact J.base.free b o e n hx
 ·rw [zAa (zA5 e fD)];exact J.base.tups b xs e
 ·rw [zAa (zA5 e fD)];exact J.base.frzs b o u e
 ·rw [zAa (zA5 e fD)];exact J.base.tbls b ps e
 ·by_cases hb:b=D
  ·subst hb;rw [zA1] at e;cases e;exact ⟨hz,its,its.length,rv,hget⟩
  ·rw [zAa hb] at e;exact (J.hok b u e).stay (fun c v _ q=>q) (fun c q=>by rw [zAa (zA5 q hH)];exact q) fun c xs q=>by rw [zAa (zA5 q hH)];exact q
end
noncomputable def CompGoal (J:It) (k:Nat) (σ : St) (H1:Hp) (g:TG) (tt:TT) (te:TE) (Q:VK):Prop:=∃ W:Nat→Nat→List V→Hp→Prop,(∃ m,W 0 m [] H1)∧∀ i m ys H,W i m ys H →
 (J.stop i H∧ys.length≤sizeLine∧∀ p,H p=none→Q (.ref p) (upd H p (.lst ys))) ∨
 (J.go i H∧ys.length≤sizeLine∧∀ x H',J.yld i H x H'→g x (σ++List.replicate k none) H' fun σ2 H2=>tt σ2 H2 fun b H3 =>
  if b=true then te σ2 H3 fun y H4=>∃ m',m' < m∧W (i + 1) m' (ys++[y]) H4 else ∃ m',m' < m∧W (i + 1) m' ys H3)
noncomputable def tComp (k:Nat) (wi:TI) (g:TG) (tt:TT) (te:TE):TE:=fun σ H Q=>wi σ H fun J H1=>CompGoal J k σ H1 g tt te Q
section
variable {X:Cx}{elt tg iter:Expr}{ifs:List Expr}{sc:Scope}{pos:Pos}{cl:List (Str×Addr)}{T:List Str}{wi:TI}{g:TG}{tt:TT}{te:TE}
theorem zE9 {pins:List (Addr×Obj)}{σ : St}{s2:Shared}{H2:Hp}{Q:VK}{E:Value→Shared→Prop}{R:Value→Addr→Result→Shared→Prop}{it:Addr}{fp:List Addr}{tn:Nat→Heap→Prop}{J:It}
  (hc:X.calm=true) (S:ScOk X sc cl T)
  (hg:∀ C s H fp,PG (cxComp X sc cl T C s H fp) tg g) (hf:∀ C s H fp,PFs (cxComp X sc cl T C s H fp) ifs tt) (he:∀ C s H fp,PE (cxComp X sc cl T C s H fp) elt te)
  (I:Inv X pins σ H2 s2) (TT':Turn X.prog X.w X.K tg J fp it tn) (st:tn 0 s2.heap) (f2:∀ b∈fp,FpOk X pins H2 b)
  (W:Nat→Nat→List V→Hp→Prop) (m0:Nat) (w0:W 0 m0 [] H2)
  (turn:∀ i m ys H,W i m ys H→(J.stop i H∧ys.length≤sizeLine∧∀ p,H p=none→Q (.ref p) (upd H p (.lst ys))) ∨
   (J.go i H∧ys.length≤sizeLine∧∀ x H',J.yld i H x H'→g x (σ++List.replicate T.length none) H' fun σ2 H2=>tt σ2 H2 fun b H3 =>
    if b=true then te σ2 H3 fun y H4=>∃ m',m' < m∧W (i + 1) m' (ys++[y]) H4 else ∃ m',m' < m∧W (i + 1) m' ys H3))
  (hR:∀ (D C:Addr) (s1:Shared) (H1:Hp) (m:Str→Option Value),Inv X pins σ H1 s1→H1 C=none→C≠X.env.locals→X.s₀.heap.objs.size≤C→(∀ x c,X.env.cells.lookup x=some c→c≠C)→(∀ p∈X.pn++pins,p.1≠C) →
   s1.heap.Ns C m→Q (.ref D) H1→R (.ref D) C (.ok .next) s1) :
  wpAny (model X.prog X.w) X.A (newList []) (fun acc s₃=>wpAny (model X.prog X.w) X.A (newFunctionEnv sc X.env.globals cl [] X.env.qual none .none (some X.env)) (fun cenv s₄ =>
   codeAny (model X.prog X.w) X.A (.compStart (.ListComp elt [⟨tg,iter,ifs,0⟩] sc pos) 0 (.ref it) acc { cenv with scope:=relabel sc X.env }) (R acc cenv.locals) s₄) E s₃) E s2:=by
 refine wpAny_newObj_type (wpAny_newFunctionEnv S.cell (by intro y hy;simp at hy) (fun h1 hn1 sb1=>?_) S.kind);dsimp only at hn1 sb1 ⊢;generalize hH:s2.heap.push { cls:=.type "list",dict:=none,data:=.seq ([]:List Value).toArray }=G at hn1 sb1 ⊢;have hC:G.objs.size=s2.heap.objs.size + 1:=by rw [← hH,Yq]
 have hDC:s2.heap.objs.size≠G.objs.size:=by rw [hC];exact Zc (Yi _)
 have hCle:s2.heap.objs.size≤G.objs.size:=by rw [hC];exact Nat.le_succ _
 have old:∀ b o,s2.heap.get? b=some o→h1.get? b=some o:=fun b o e=>by
  exact sb1.extBut b o (Zc (Z7 (Z8 e) hCle)) (Z2 _ (hH ▸ Z2 _ e))
 have hacc:h1.get? s2.heap.objs.size=some (LCg.lst []):=sb1.extBut _ _ hDC (Z2 _ (hH ▸ Zg _ rfl));have fl:∀ b∈fp,b < s2.heap.objs.size:=fun b hb=>by
  obtain ⟨o,e,_⟩:=TT'.obj _ _ st b hb;exact Z8 e
 have DS:s2.heap.objs.size∉frs X.stack:=fun z=>by
  rcases List.mem_cons.mp (I.stkSub _ z) with e | e
  ·exact Zc I.lt e.symm
  ·exact I.nofs (Z5 _) e
 have keepT:∀ (i:Nat) (h h':Heap),tn i h→(∀ b o,b < s2.heap.objs.size→h.get? b=some o→h'.get? b=some o)→tn i h':=fun i h h' z k=>TT'.keep i h h' z fun b hb o e=>k b o (fl b hb) e;have fpo:∀ {H':Hp}{pl:List (Addr×Obj)},(∀ b∈fp,H' b=none)→(∀ p∈pl,s2.heap.objs.size≤p.1)→∀ b∈fp,FpOk (cxComp X sc cl T G.objs.size s2 H2 fp) pl H' b:=fun {H' pl} hn hp b hb=>by
  refine ⟨hn b hb,fun z=>?_,fun z=>?_,.inl hb,fun x c h=>(f2 b hb).2.2.2.2.1 x c (S.cls.look x c h),fun p hp' z=>?_⟩
  ·exact Zc (Z7 (fl b hb) hCle) z
  ·rcases List.mem_cons.mp (I.stkSub b z) with e | e
   ·exact (f2 b hb).2.1 e
   ·exact (f2 b hb).2.2.1 e
  ·exact Zc (Z7 (fl b hb) (hp p (show p∈pl from hp'))) z.symm
 let Y:=cxComp X sc cl T G.objs.size s2 H2 fp
 have loop:∀ z:Shared,z={ s2 with heap:=h1,toks:=s2.toks + ([]:List (Str×Value)).length } →
   codeAny (model X.prog X.w) X.A (.compLoop (.ListComp elt [⟨tg,iter,ifs,0⟩] sc pos) 0 (.ref it) (.ref s2.heap.objs.size) (compEnvC sc cl G.objs.size X.env)) (R (.ref s2.heap.objs.size) G.objs.size) z:=by
  rintro z rfl;refine comp_loop (fun n z=>∃ i ys its H',Inv Y [] (σ++List.replicate T.length none) H' z∧tn i z.heap∧(∀ b∈fp,H' b=none)∧H' s2.heap.objs.size=none∧Vals ys its∧z.heap.get? s2.heap.objs.size=some (LCg.lst its)∧W i n ys H') _ rfl ?_ m0
   ⟨0,[],[],H2,comp_inv S I f2 fl hCle old hn1,TT'.keep _ _ _ st fun b hb o e=>old b o e,fun b hb=>(f2 b hb).1,I.hok.fresh (Z5 _),.nil,hacc,w0⟩
  rintro n z ⟨i,ys,its,H',IY,stz,frz,fD,rv,hget,wz⟩;have IP:Inv Y [(s2.heap.objs.size,LCg.lst its)] (σ++List.replicate T.length none) H' z:=IY.pins_of fun p hp=>by
   have e:p=(s2.heap.objs.size,LCg.lst its):=by simpa using hp
   subst e;exact ⟨hget,fD,hDC,DS,fun v q=>by cases (show Data.seq _ _=Data.cell v from q)⟩
  have hpl:∀ p∈[(s2.heap.objs.size,LCg.lst its)],s2.heap.objs.size≤p.1:=fun p hp=>by
   have e:p=(s2.heap.objs.size,LCg.lst its):=by simpa using hp
   subst e;exact Z5 _
  rcases turn i n ys H' wz with ⟨stop,hz,q⟩ | ⟨go,hz,step⟩
  ·refine thn (TT'.done Y rfl rfl rfl hc i _ z _ H' _ IP (fpo frz hpl) stz stop) fun r z1 ⟨hr,I1⟩=>?_;subst hr;have g1:z1.heap.get? s2.heap.objs.size=some (LCg.lst its):=(I1.pin (s2.heap.objs.size,LCg.lst its) (by simp [Y,cxComp])).1;obtain ⟨mC,hnC,_⟩:=I1.loc;have out:=comp_out S I f2 (Z5 _) hCle hDC I1 fD rv hz g1;refine hR _ _ z1 _ mC out ?_ ?_ ?_ ?_ ?_ hnC (q _ fD)
   ·rw [zAa (Ne.symm hDC)];exact I1.free
   ·exact (Zc (Z7 I.lt hCle)).symm
   ·exact Zd I.sz hCle
   ·intro x c hcc;obtain ⟨v,zc⟩:=I.cell x c hcc;exact Zc (Z7 zc.lt hCle)
   ·intro p hp;exact Zc (Z7 (Z8 (I.pin p hp).1) hCle)
  ·refine thn (TT'.item Y rfl rfl rfl hc i _ z _ H' _ IP (fpo frz hpl) stz go) fun r z1 ⟨u,hr,h1'⟩=>?_;subst hr;refine thn h1' fun _ z2 ⟨x,H3,I3,r3,y3,st3,fr3⟩=>?_;have I3':=I3.pinned (fpo fr3 hpl) (TT'.obj _ _ st3);have fin:∀ {H':Hp}{σ':St}{z':Shared},Inv Y ([(s2.heap.objs.size,LCg.lst its)]++pinsAt fp z2.heap) σ' H' z'→tn (i + 1) z'.heap∧(∀ b∈fp,H' b=none)∧H' s2.heap.objs.size=none∧z'.heap.get? s2.heap.objs.size=some (LCg.lst its):=fun {H' σ' z'} I'=>by
    have a1:∀ b∈fp,∀ o,z2.heap.get? b=some o→z'.heap.get? b=some o∧H' b=none:=fun b hb o e =>
     let p:=I'.pin (b,o) (Zq _ (Zq _ (zDs hb e)))
     ⟨p.1,p.2.1⟩
    have a2:=I'.pin (s2.heap.objs.size,LCg.lst its) (Zq _ (by simp))
    exact ⟨TT'.keep _ _ _ st3 fun b hb o e=>(a1 b hb o e).1,fun b hb=>by
     obtain ⟨o,e,_⟩:=TT'.obj _ _ st3 b hb
     exact (a1 b hb o e).2,a2.2.1,a2.1⟩
   have bare:∀ {H':Hp}{σ':St}{z':Shared},Inv Y ([(s2.heap.objs.size,LCg.lst its)]++pinsAt fp z2.heap) σ' H' z'→Inv Y [] σ' H' z':=fun I'=>I'.pins_of fun p hp=>absurd hp (by simp);refine wpAny_mono (hg G.objs.size s2 H2 fp _ z2 _ H3 x u _ I3' r3 (step x H3 y3)) (fun _ z3 ⟨σ4,H4,I4,q4⟩=>?_) fun _ _ e=>e.elim;refine wpAny_mono (hf G.objs.size s2 H2 fp _ z3 _ H4 _ I4 q4) (fun ok z4 ⟨H5,I5,q5⟩=>?_) fun _ _ e=>e.elim;have lenσ : ∀ {H':Hp}{σ':St}{z':Shared}{pl},Inv Y pl σ' H' z'→(σ++List.replicate T.length none).length = σ'.length:=fun I'=>by rw [I'.len];exact IY.len
   have weak:∀ {H':Hp}{z':Shared},Inv Y [] σ4 H' z'→Inv Y [] (σ++List.replicate T.length none) H' z':=fun {H' z'} I'=>by
    have c0:=comp_inv (T:=T) (t1:=z'.toks) S I f2 fl hCle old hn1;obtain ⟨m',hn',hl'⟩:=I'.loc;obtain ⟨_,_,hl0⟩:=I.loc;refine ⟨I'.ok,I'.os,I'.bare,I'.base,⟨m',hn',fun j x v e1 e2 e3=>?_⟩,I'.cell,I'.free,I'.freeC,I'.pin,I'.hok,(lenσ I').trans I'.len⟩;have hj:j < σ.length:=by
     by_cases hj:j < σ.length
     ·exact hj
     ·rw [Zw (Nat.not_lt.mp hj),List.getElem?_replicate] at e2;split at e2 <;> cases e2
    have e2':=e2;rw [Zo hj] at e2';have e1':X.N[j]? = some x:=by
     have e:(X.N++T)[j]? = some x:=e1
     rwa [Zo (by rw [← I.len];exact hj)] at e
    have hx:x∈X.N:=Z3 e1';have e3':(compEnvC sc cl G.objs.size X.env).scope.names.lookup x=some .cell∨(compEnvC sc cl G.objs.size X.env).scope.names.lookup x=some .free:=by
     rcases e3 with z | z | z
     ·exact absurd z (S.local_out hx)
     ·exact .inl z
     ·exact .inr z
    obtain ⟨⟨c,hc'⟩,ko⟩:=S.seen e3';obtain ⟨u,r,l⟩:=hl0 j x v e1' e2' (.inr ko);have hcX:=S.cls.look x c hc';refine ⟨u,r,.inr ⟨e3',c,hc',?_⟩⟩;rcases l with ⟨kl,_⟩ | ⟨_,c',hc2,zc⟩
    ·have kl':X.env.scope.names.lookup x=some .local:=kl;rcases ko with q | q
     ·rw [q] at kl';cases kl'
     ·rw [q] at kl';cases kl'
    ·rw [hcX] at hc2;cases hc2;obtain ⟨o,ho,hd⟩:=zc;have nfp:c∉fp:=fun hb=>(f2 c hb).2.2.2.2.1 x c hcX rfl;obtain ⟨sl,e⟩:=I'.base.any ho (I.freeC x c hcX) nfp;exact ⟨_,e,hd⟩
   cases ok with
   | false =>
    rw [if_neg Zn] at q5 ⊢;obtain ⟨m',hm,w'⟩:=q5;obtain ⟨b1,b2,b3,b4⟩:=fin I5;exact ⟨m',hm,i + 1,ys,its,H5,weak (bare I5),b1,b2,b3,rv,b4,w'⟩
   | true =>
    rw [if_pos rfl] at q5 ⊢;refine wpAny_mono (he G.objs.size s2 H2 fp _ z4 _ H5 _ I5 q5) (fun y z5 ⟨yv,H6,I6,r6,q6⟩=>?_) fun _ _ e=>e.elim;obtain ⟨m',hm,w'⟩:=q6;obtain ⟨b1,b2,b3,b4⟩:=fin I6;refine append_at (hsz:=by show its.toArray.size≤sizeLine;rw [Zb,← rv.length];exact hz) b4 fun h6 sb6 g6=>?_
    have I7:Inv Y [] (σ++List.replicate T.length none) H6 { z5 with heap:=h6 }:=(weak (bare I6)).turned (t':=z5.toks) (it:=s2.heap.objs.size) (fun b o hb e=>(sb6.2 b hb).trans e) b3 hDC (.inr (Z5 _)) (fun x c h=>by
     obtain ⟨v,zc⟩:=I.cell x c (S.cls.look x c h)
     exact Zc zc.lt) fun p hp=>absurd (show p∈([]:List (Addr×Obj)) from hp) (by simp)
    refine ⟨m',hm,i + 1,ys++[yv],its++[y],H6,I7,keepT _ _ _ b1 fun b o hb e=>(sb6.2 b (Zc hb)).trans e,b2,b3,rv.append (.cons r6 .nil),g6.trans (congrArg some (LCg.lst_snoc its y)),w'⟩
 exact codeAny_compStart_list (loop _ rfl) (TT'.self _ 0 _ _ _ (TT'.keep _ _ _ st fun b hb o e=>old b o e) (loop _ rfl))
theorem zAu (hc:X.calm=true) (S:ScOk X sc cl T) (hi:PI X tg iter wi)
  (hg:∀ C s H fp,PG (cxComp X sc cl T C s H fp) tg g) (hf:∀ C s H fp,PFs (cxComp X sc cl T C s H fp) ifs tt) (he:∀ C s H fp,PE (cxComp X sc cl T C s H fp) elt te)
  (hs:∀ x,foldedSetIterable iter X.env x=pure x:=by intro _;rfl):PE X (.ListComp elt [⟨tg,iter,ifs,0⟩] sc pos) (tComp T.length wi g tt te):=by
 intro pins s σ H Q I h;rw [eval_ListComp];refine wpAny_comprehension_free (use:=none) rfl hs S.clos S.kind S.names (thn (hi pins s σ H _ I h) fun v s1 h1=>thn h1 fun itv s2 h2=>?_);obtain ⟨it,fp,tn,J,H2,e,I2,TT',st2,f2,W,⟨m0,w0⟩,turn⟩:=h2;subst e;refine zE9 (Q:=Q) hc S hg hf he I2 TT' st2 f2 W m0 w0 turn fun D C z H1 m I1 n1 n2 n3 n4 n5 hn q=>?_;exact ⟨m,hn,fun h' sb=>⟨.ref D,H1,I1.turned (t':=z.toks) (it:=C) (fun b o hb e=>(sb.2 b hb).trans e) n1 n2 (.inr n3) n4 n5,rfl,q⟩⟩
theorem zBu {i:Nat}{y:Str}{py spos:Pos} (hc:X.calm=true) (S:ScOk X sc cl T) (hi:PI X tg iter wi)
  (hg:∀ C s H fp,PG (cxComp X sc cl T C s H fp) tg g) (hf:∀ C s H fp,PFs (cxComp X sc cl T C s H fp) ifs tt) (he:∀ C s H fp,PE (cxComp X sc cl T C s H fp) elt te)
  (hN:X.N.Nodup) (hix:X.N[i]? = some y) (hx:X.env.scope.names.lookup y=some .local)
  (hsw:swapsWith (.ListComp elt [⟨tg,iter,ifs,0⟩] sc pos) (some (.Name y py)) spos.line X.env=pure true)
  (hs:∀ x,foldedSetIterable iter X.env x=pure x:=by intro _;rfl) :
  PS X (.Assign [.Name y py] (.ListComp elt [⟨tg,iter,ifs,0⟩] sc pos) spos) (tAsg (tComp T.length wi g tt te) (gName i)):=by
 intro pins s σ H D I h;rw [exec_Assign_Name_used _ _ _ _ hsw];refine wpAny_bind (wpAny_standAt (wpAny_bind ?_));show wpAny _ X.A (do let _ ← comprehension (.ListComp elt [⟨tg,iter,ifs,0⟩] sc pos) sc X.env _ (newList []) false (eval iter X.env) (some (assign (.Name y py) X.env))) _ _ s;refine wpAny_bind (thn (wpAny_comprehension_free (use:=some (assign (.Name y py) X.env)) (Q:=fun _ s'=>SP X pins D .next s') rfl hs S.clos S.kind S.names (thn (hi pins s σ H _ I h) fun v s1 h1=>thn h1 fun itv s2 h2=>?_)) fun _ s' hq=>wpAny_pure (wpAny_pure hq));obtain ⟨it,fp,tn,J,H2,e,I2,TT',st2,f2,W,⟨m0,w0⟩,turn⟩:=h2;subst e;refine zE9 (Q:=fun x H1=>gName i x σ H1 D.nx) hc S hg hf he I2 TT' st2 f2 W m0 w0 turn fun A C z H1 m I1 n1 n2 n3 n4 n5 hn q=>?_;show wpAny _ X.A (assign (.Name y py) X.env (.ref A)) _ _ z;refine wpAny_assign_Name (store_ok2 (v:=.ref A) I1 hN hix (.inl hx) rfl (fun z' I' ⟨a,sb,ha⟩=>?_) (.inr hx));have hCa:C≠a:=by
  rcases ha with e | e
  ·rw [e];exact n2
  ·exact (n4 y a e).symm
 refine ⟨m,hn.sameBut sb hCa,fun h' sb'=>⟨_,H1,I'.turned (t':=z'.toks) (it:=C) (fun b o hb e=>(sb'.2 b hb).trans e) n1 n2 (.inr n3) n4 n5,q⟩⟩
end
end L2
namespace L2
open PySem PySem.Spec PyProof.Rows
section
variable {X:Cx}
theorem v1 {x:V}{us:List Value} (r:Vals [x] us):∃ u,us=[u]∧RelV x u:=by
 cases r with
 | cons a b=>cases b;exact ⟨_,rfl,a⟩
theorem v2 {x y:V}{us:List Value} (r:Vals [x,y] us):∃ u v,us=[u,v]∧RelV x u∧RelV y v:=by
 cases r with
 | cons a b =>
  cases b with
  | cons c d=>cases d;exact ⟨_,_,rfl,a,c⟩
theorem zAy:CallR X (.builtin "isinstance") (fun xs H Q=>∃ x c t cv b,xs=[x,c]∧TyOf X.K H x t∧RelV c cv∧PySem.W.kitOne X.K t cv=some b∧Q (.bl b) H):=by
 intro pins s σ H xs us Q I r h;obtain ⟨x,c,t,cv,b,rfl,ty,rc,e,q⟩:=h;obtain ⟨u,v,rfl,ru,rv⟩:=v2 r;have hv:v=cv:=by
  cases c with
  | non=>exact (show v=Value.none from rv).trans (show cv=Value.none from rc).symm
  | bl z=>exact (show v=Value.bool z from rv).trans (show cv=Value.bool z from rc).symm
  | int i =>
   obtain ⟨t1,rfl⟩:=rc;exact absurd e (by unfold PySem.W.kitOne;cases ty <;> simp [PySem.W.kitCls])
  | str i =>
   obtain ⟨t1,rfl⟩:=rc;exact absurd e (by unfold PySem.W.kitOne;cases ty <;> simp [PySem.W.kitCls])
  | byt i =>
   obtain ⟨t1,rfl⟩:=rc;exact absurd e (by unfold PySem.W.kitOne;cases ty <;> simp [PySem.W.kitCls])
  | flt i =>
   obtain ⟨t1,rfl⟩:=rc;exact absurd e (by unfold PySem.W.kitOne;cases ty <;> simp [PySem.W.kitCls])
  | ref a=>exact (show v=Value.ref a from rv).trans (show cv=Value.ref a from rc).symm
  | ty n=>exact (show v=Value.type n from rv).trans (show cv=Value.type n from rc).symm
 subst hv;exact isinst_ok I ru ty e fun tk=>⟨.bl b,H,I.tok tk,rfl,q⟩
theorem bools_get:∀ {bs:List Bool}{us:List Value}{i:Nat}{v:Value},Vals (bs.map V.bl) us→us[i]? = some v→∃ b,bs[i]? = some b∧v=Value.bool b
 | [],_,i,v,.nil,h=>by simp at h
 | b :: r,_,0,v,.cons a t,h=>by
  simp at h;subst h;exact ⟨b,rfl,a⟩
 | b :: r,_,i + 1,v,.cons a t,h=>by
  obtain ⟨b',e,q⟩:=bools_get (bs:=r) (i:=i) t (by simpa using h);exact ⟨b',by simpa using e,q⟩
theorem all_range:∀ (bs:List Bool),((List.range bs.length).all fun i=>(bs[i]?).getD true)=bs.all id
 | []=>rfl
 | b :: r=>by
  rw [Ze,List.range_succ_eq_map,Yj,Ya,Yj];have e:=all_range r;simp only [Function.comp_def,List.getElem?_cons_succ,List.getElem?_cons_zero,Yb,id] at *;rw [← e]
theorem zBl (hc:X.calm=true):CallR X (.builtin "all") (fun xs H Q=>∃ (p:Addr) (bs:List Bool),xs=[.ref p]∧SqL X.K H p (bs.map V.bl)∧Q (.bl (bs.all id)) H):=by
 intro pins s σ H xs us Q I r h;obtain ⟨p,bs,rfl,hp,q⟩:=h;obtain ⟨u,rfl,ru⟩:=v1 r;cases (show u=Value.ref p from ru);obtain ⟨its,rv,pl,hz⟩:=I.list hp;have hl:=pl.isList;have hlt:p < s.heap.objs.size:=by obtain ⟨_,e,_⟩:=hl;exact Z8 e
 have hlen:its.length=bs.length:=by rw [← rv.length,Z0]
 refine call_all_walk (wpAny_pyIter_list hl ?_)
 refine ⟨s.heap.objs.size,[s.heap.objs.size,p],[s.heap.objs.size],its.toArray.size,_,_,fun i=>(bs[i]?).getD true,rfl,Walks.list (A:=X.A.in1) (I.ok.hd hc) _ p (Zc hlt) its.toArray,
  ⟨⟨_,Zg _ rfl,rfl,rfl⟩,hl.push _⟩,fun i v s' Q' E' hP hQ=>?_,fun h' tk hk=>?_⟩
 ·obtain ⟨b,e,rfl⟩:=bools_get rv (by simpa using hP);simp only [e,Yb] at hQ;exact wpAny_truthy_bool hQ
 ·rw [Zb,hlen,all_range];exact ⟨.bl _,H,I.kept (t':=tk) fun b o e=>hk b o (fun hm=>by rw [List.mem_singleton.mp hm] at e;exact Y5 _ (Z8 e)) (Z2 _ e),rfl,q⟩
noncomputable def Its (x:Str):It:=⟨fun i _=>i < x.length,fun i H v H'=>H'=H∧∃ c,x.cps[i]? = some c∧v=.str ⟨#[c]⟩,fun i _=>x.length≤i⟩
noncomputable def iStr (tl:TE):TI:=fun σ H R=>tl σ H fun v H1=>∃ x,v=.str x∧R (Its x) H1
theorem turn_str {P:Program}{w:World}{K:PySem.W.Frag}{y:Str}{py:Pos}{x:Str}{it:Addr}{St:Nat→Heap→Prop} (ho:∀ i h,St i h→∃ o,h.get? it=some o∧∀ v,o.data≠.cell v)
  (W:∀ A':Around,A'.handled=none→Walks P w A' it [it] [it] x.cps.size (SignAt x) St) (hself:∀ (A:Around) (i:Nat) (s:Shared) (Q:Value→Shared→Prop) (E:Value→Shared→Prop),St i s.heap→Q (.ref it) s→wpAny (model P w) A (pyIter (.ref it)) Q E s)
  (hst:∀ i h,St i h→i≤x.cps.size→True):Turn P w K (.Name y py) (Its x) [it] it (fun i h=>i≤x.cps.size∧St i h) where
 mem:=by simp
 obj:=fun i h st b hb=>by
  have e:b=it:=by simpa using hb
  subst e;exact ho i h st.2
 keep:=fun i h h' st k=>⟨st.1,(W { callerA with handled:=none } rfl).frame i h h' st.2 k⟩
 item:=by
  intro X hP hw hK hc i pins s σ H E I hf st hg;subst hP hw hK;obtain ⟨f0,f1,f2,f3,f4,f5⟩:=hf it (by simp);refine (W X.A (I.ok.hd hc)).item i s _ _ hg st.2 fun v h' tk hv st' kk=>?_;obtain ⟨c,u,hc',rfl⟩:=hv;have I1:Inv X pins σ H { s with heap:=h',toks:=tk }:=I.turned (fun b o hb e=>kk b o (by simpa using hb) e) f0 f1 f3 f4 f5;exact ⟨_,rfl,wpAny_pure ⟨.str ⟨#[c]⟩,H,I1,⟨u,rfl⟩,⟨rfl,c,hc',rfl⟩,⟨hg,st'⟩,fun b hb=>(hf b hb).1⟩⟩
 done:=by
  intro X hP hw hK hc i pins s σ H E I hf st hg;subst hP hw hK;obtain ⟨f0,f1,f2,f3,f4,f5⟩:=hf it (by simp);have e:i=x.cps.size:=Nat.le_antisymm st.1 hg;have st2:=st.2;rw [e] at st2;exact (W X.A (I.ok.hd hc)).done s _ _ st2 fun h' tk kk=>⟨rfl,I.turned (fun b o hb e=>kk b o (by simpa using hb) e) f0 f1 f3 f4 f5⟩
 self:=fun A i s Q E st h=>hself A i s Q E st.2 h
theorem zFj {y:Str}{py:Pos}{l:Expr}{tl:TE} (hl:PE X l tl):PI X (.Name y py) l (iStr tl):=by
 intro pins s σ H R I h;refine thn (hl pins s σ H _ I h) fun v s1 ⟨x,H1,I1,r1,q1⟩=>?_;obtain ⟨z,rfl,q⟩:=q1;obtain ⟨t,rfl⟩:=r1;have fin:∀ {o:Obj}{St:Nat→Heap→Prop},Turn X.prog X.w X.K (.Name y py) (Its z) [s1.heap.objs.size] s1.heap.objs.size St→St 0 (s1.heap.push o)→PIE X pins σ (.Name y py) R (.ref s1.heap.objs.size) { s1 with heap:=s1.heap.push o }:=fun {o St} T st=>by
  refine ⟨s1.heap.objs.size,[s1.heap.objs.size],St,_,H1,rfl,I1.kept (t':=s1.toks) fun b o e=>Z2 _ e,T,st,fun b hb=>?_,q⟩;have e:b=s1.heap.objs.size:=by simpa using hb
  subst e;exact I1.fpOk (Z5 _) (I1.hok.fresh (Z5 _))
 cases ha:z.cps.all (· < 128)
 ·refine wpAny_pyIter_wide ha (fin (turn_str (fun i h st=>?_) (fun A' hA=>Walks.strWide hA _ z t) (fun A i s Q E st h=>wpAny_pyIter_striter_wide st h) fun _ _ _ _=>trivial) ⟨Zz _,⟨_,Zg _ rfl,rfl,rfl⟩⟩);obtain ⟨o,e,c,d⟩:=st;exact ⟨o,e,fun v q=>by rw [d] at q;cases q⟩
 ·refine wpAny_pyIter_ascii ha (fin (turn_str (fun i h st=>?_) (fun A' hA=>Walks.strAscii hA _ z t) (fun A i s Q E st h=>wpAny_pyIter_striter_ascii st h) fun _ _ _ _=>trivial) ⟨Zz _,⟨_,Zg _ rfl,rfl,rfl⟩⟩);obtain ⟨o,e,c,d⟩:=st;exact ⟨o,e,fun v q=>by rw [d] at q;cases q⟩
theorem sl_str:SlR X (fun x lo hi H Q=>∃ z,x=.str z∧z.length≤sizeLine∧Q (.str (Txt.slice z lo hi)) H):=by
 intro pins s σ H x v vl vu lo hi sl Q I rx hs pl pu h;obtain ⟨z,rfl,hz,q⟩:=h;obtain ⟨t,rfl⟩:=rx;obtain ⟨os,ho,hc,hd⟩:=id hs;have fin:∀ t' k,EP X pins σ Q (.str (Txt.slice z lo hi) t') { s with toks:=k }:=fun t' k=>⟨.str _,H,I.tok k,⟨t',rfl⟩,q⟩;refine ⟨"str",_,F.slot_str_getitem.lookup,typeIs_str _ _ _,?_⟩;cases pl with
 | none =>
  cases pu with
  | none=>exact wpAny_getItem_str_slice (l:=none) (u:=none) (st:=none) hs rfl (post_val_or_str ⟨Zd (Txt.slice_le z _ _) hz,fin⟩)
  | int j uj=>exact wpAny_getItem_str_slice (l:=none) (u:=some (j,uj)) (st:=none) hs rfl (post_val_or_str ⟨Zd (Txt.slice_le z _ _) hz,fin⟩)
 | int i ui =>
  cases pu with
  | none=>exact wpAny_getItem_str_slice (l:=some (i,ui)) (u:=none) (st:=none) hs rfl (post_val_or_str ⟨Zd (Txt.slice_le z _ _) hz,fin⟩)
  | int j uj=>exact wpAny_getItem_str_slice (l:=some (i,ui)) (u:=some (j,uj)) (st:=none) hs rfl (post_val_or_str ⟨Zd (Txt.slice_le z _ _) hz,fin⟩)
end
section
variable {X:Cx}{CX:CXT}{k:Nat}{f C:Addr}{fd:FuncData}{ps ks:List Str}{sp:Sp}{E:St→XK}{x:Str}{p pos:Pos}{e:Expr}{es:List Expr}{kws:List Keyword}{t tk:TA}{g:List Value→List Value→List Value}{gV:List V→List V→List V}
end
end L2
namespace L2
open PySem PySem.Spec PyProof.Rows
theorem log2_lt64 {j:Int} (h0:0 < j) (h1:j < 2 ^ 64):j.natAbs.log2 < 9000:=by
 have:j.natAbs < 2 ^ 64:=by omega
 have h:j.natAbs.log2 < 64:=(Nat.log2_lt (by omega)).mpr this;omega
noncomputable def CDivB (i j:Int):Prop:=0 < j∧j < 2 ^ 64
theorem op_fdivB {X:Cx}:OpR X (binaryOp .FloorDiv) (rI CDivB fun i j=>.int (i / j)):=opI fun i j _ _ _ _ _ hc q=>by
 have h1:(0:Int) < j:=hc.1;exact floordiv_int (by omega) (by rw [Int.fdiv_eq_ediv_of_nonneg i (by omega)];exact q) (.inl (PyProof.noPylong_of_log2 (log2_lt64 hc.1 hc.2)))
mutual
inductive Has (G:Addr→Prop) (H:Hp):V→PyData→Prop where
 | non:Has G H .non .none
 | bl (b:Bool):Has G H (.bl b) (.bool b)
 | int (i:Int):Has G H (.int i) (.int i)
 | str (x:Str) (hx:x.length≤1000) (ho:PyData.strOk x=true):Has G H (.str x) (.str x)
 | lst {a:Addr}{xs:List V}{ds:List PyData}:G a→H a=some (.lst xs)→xs.length≤1000→HasAll G H xs ds→Has G H (.ref a) (.list ds)
 | tup {a:Addr}{xs:List V}{ds:List PyData}:G a→H a=some (.tup xs)→xs.length≤1000→HasAll G H xs ds→Has G H (.ref a) (.tuple ds)
inductive HasAll (G:Addr→Prop) (H:Hp):List V→List PyData→Prop where
 | nil:HasAll G H [] []
 | cons {x:V}{xs:List V}{d:PyData}{ds:List PyData}:Has G H x d→HasAll G H xs ds→HasAll G H (x :: xs) (d :: ds)
end
noncomputable abbrev Any:Addr→Prop:=fun _=>True
noncomputable def isSeq:HO→Prop
 | .lst _=>True
 | .tup _=>True
 | _=>False
mutual
theorem Has.frameS {G G':Addr→Prop}{H H':Hp} (e:∀ a o,G a→isSeq o→H a=some o→G' a∧H' a=some o):∀ {v:V}{d:PyData},Has G H v d→Has G' H' v d
 | _,_,.non=>.non
 | _,_,.bl b=>.bl b
 | _,_,.int i=>.int i
 | _,_,.str x hx ho=>.str x hx ho
 | _,_,.lst (xs:=xs) g s z h=>.lst (e _ (.lst xs) g trivial s).1 (e _ (.lst xs) g trivial s).2 z (HasAll.frameS e h)
 | _,_,.tup (xs:=xs) g s z h=>.tup (e _ (.tup xs) g trivial s).1 (e _ (.tup xs) g trivial s).2 z (HasAll.frameS e h)
theorem HasAll.frameS {G G':Addr→Prop}{H H':Hp} (e:∀ a o,G a→isSeq o→H a=some o→G' a∧H' a=some o):∀ {vs:List V}{ds:List PyData},HasAll G H vs ds→HasAll G' H' vs ds
 | _,_,.nil=>.nil
 | _,_,.cons h t=>.cons (Has.frameS e h) (HasAll.frameS e t)
end
theorem Has.frame {G G':Addr→Prop}{H H':Hp}{v:V}{d:PyData} (h:Has G H v d) (e:∀ a o,G a→H a=some o→G' a∧H' a=some o):Has G' H' v d:=h.frameS fun a o g _ q=>e a o g q
theorem HasAll.frame {G G':Addr→Prop}{H H':Hp}{v:List V}{d:List PyData} (h:HasAll G H v d) (e:∀ a o,G a→H a=some o→G' a∧H' a=some o):HasAll G' H' v d:=h.frameS fun a o g _ q=>e a o g q
theorem Has.mono {G:Addr→Prop}{H H':Hp}{v:V}{d:PyData} (h:Has G H v d) (e:Same H H'):Has G H' v d:=h.frame fun a o g q=>⟨g,e a o q⟩
theorem HasAll.mono {G:Addr→Prop}{H H':Hp}{v:List V}{d:List PyData} (h:HasAll G H v d) (e:Same H H'):HasAll G H' v d:=h.frame fun a o g q=>⟨g,e a o q⟩
theorem Has.any {G:Addr→Prop}{H:Hp}{v:V}{d:PyData} (h:Has G H v d):Has Any H v d:=h.frame fun _ _ _ q=>⟨trivial,q⟩
section
variable {G:Addr→Prop}{H:Hp}
theorem HasAll.length:∀ {xs:List V}{ds:List PyData},HasAll G H xs ds→xs.length=ds.length
 | _,_,.nil=>rfl
 | _,_,.cons _ t=>by rw [Ze,Ze,HasAll.length t]
theorem HasAll.get:∀ {xs:List V}{ds:List PyData}{i:Nat}{x:V},HasAll G H xs ds→xs[i]? = some x→∃ d,ds[i]? = some d∧Has G H x d
 | _,_,i,x,.nil,h=>by simp at h
 | _,_,0,x,.cons a t,h=>by simp at h;subst h;exact ⟨_,rfl,a⟩
 | _,_,i + 1,x,.cons a t,h=>by
  obtain ⟨d,e,q⟩:=HasAll.get (i:=i) t (by simpa using h);exact ⟨d,by simpa using e,q⟩
theorem HasAll.snoc:∀ {xs:List V}{ds:List PyData}{x:V}{d:PyData},HasAll G H xs ds→Has G H x d→HasAll G H (xs++[x]) (ds++[d])
 | _,_,_,_,.nil,h=>.cons h .nil
 | _,_,_,_,.cons a t,h=>.cons a (HasAll.snoc t h)
theorem Has.list_inv {v:V}{ds:List PyData} (h:Has G H v (.list ds)):∃ a xs,v=.ref a∧G a∧H a=some (.lst xs)∧xs.length≤1000∧HasAll G H xs ds:=by
 cases h with
 | lst g s z q=>exact ⟨_,_,rfl,g,s,z,q⟩
theorem Has.tup_inv {v:V}{ds:List PyData} (h:Has G H v (.tuple ds)):∃ a xs,v=.ref a∧G a∧H a=some (.tup xs)∧xs.length≤1000∧HasAll G H xs ds:=by
 cases h with
 | tup g s z q=>exact ⟨_,_,rfl,g,s,z,q⟩
theorem Has.str_inv {v:V}{x:Str} (h:Has G H v (.str x)):v=.str x∧x.length≤1000∧PyData.strOk x=true:=by
 cases h with
 | str _ a b=>exact ⟨rfl,a,b⟩
end
section
variable {X:Cx}{pins:List (Addr×Obj)}{σ : St}{H:Hp}{s:Shared}{G:Addr→Prop}
end
section
variable {κ : Type} [DecidableEq κ]
noncomputable def dstep (acc:List κ) (x : κ):List κ:=if x∈acc then acc else acc++[x]
noncomputable def dl (l:List κ):List κ:=l.foldl dstep []
theorem dl_snoc (l:List κ) (x : κ):dl (l++[x])=dstep (dl l) x:=by unfold dl;rw [List.foldl_append];rfl
theorem zCn:∀ (l acc:List κ) (k : κ),k∈l.foldl dstep acc ↔ k∈acc∨k∈l
 | [],acc,k=>by simp
 | x :: r,acc,k=>by
  rw [Y0,zCn r];unfold dstep;by_cases h:x∈acc
  ·rw [if_pos h];constructor
   ·rintro (a | a)
    ·exact .inl a
    ·exact .inr (Z6 _ a)
   ·rintro (a | a)
    ·exact .inl a
    ·rcases List.mem_cons.mp a with rfl | a
     ·exact .inl h
     ·exact .inr a
  ·rw [if_neg h];simp only [List.mem_append,Zj,Zf,or_false];constructor
   ·rintro ((a | a) | a)
    ·exact .inl a
    ·exact .inr (.inl a)
    ·exact .inr (.inr a)
   ·rintro (a | a | a)
    ·exact .inl (.inl a)
    ·exact .inl (.inr a)
    ·exact .inr a
theorem mem_dl {l:List κ}{k : κ}:k∈dl l ↔ k∈l:=by unfold dl;rw [zCn];simp
theorem zBx:∀ (l acc:List κ),(l.foldl dstep acc).length≤acc.length + l.length
 | [],acc=>Z5 _
 | x :: r,acc=>by
  rw [Y0];refine Zd (zBx r _) ?_;unfold dstep;split
  ·rw [Ze];omega
  ·simp only [Z4,Ze,Yc];omega
theorem dl_len_le (l:List κ):(dl l).length≤l.length:=by have:=zBx l [];simpa [dl] using this
theorem zC8:∀ (l acc:List κ),(∀ x∈l,x∉acc)→l.Nodup→(l.foldl dstep acc).length=acc.length + l.length
 | [],acc,_,_=>rfl
 | x :: r,acc,h,hn=>by
  obtain ⟨h1,h2⟩:=List.nodup_cons.mp hn;have hx:x∉acc:=h x Z9;rw [Y0,show dstep acc x=acc++[x] from if_neg hx,zC8 r _ (fun y hy m=>?_) h2]
  ·simp;omega
  ·rcases List.mem_append.mp m with m | m
   ·exact h y (Z6 _ hy) m
   ·rw [List.mem_singleton.mp m] at hy;exact h1 hy
theorem zCo:∀ (l acc:List κ),((∃ x∈l,x∈acc)∨¬ l.Nodup)→(l.foldl dstep acc).length < acc.length + l.length
 | [],acc,h=>by
  rcases h with ⟨x,hx,_⟩ | h
  ·simp at hx
  ·exact absurd List.nodup_nil h
 | x :: r,acc,h=>by
  rw [Y0];by_cases hx:x∈acc
  ·rw [show dstep acc x=acc from if_pos hx];have:=zBx r acc;simp only [Ze];omega
  ·rw [show dstep acc x=acc++[x] from if_neg hx];have ih:=zCo r (acc++[x]) ?_
   ·simp only [Z4,Ze,Yc] at *;omega
   ·rcases h with ⟨y,hy,ha⟩ | h
    ·rcases List.mem_cons.mp hy with rfl | hy
     ·exact absurd ha hx
     ·exact .inl ⟨y,hy,Zr _ ha⟩
    ·by_cases hr:x∈r
     ·exact .inl ⟨x,hr,by simp⟩
     ·exact .inr fun z=>h (List.nodup_cons.mpr ⟨hr,z⟩)
theorem dl_len_iff (l:List κ):decide ((dl l).length=l.length)=decide l.Nodup:=by
 by_cases h:l.Nodup
 ·have:=zC8 l [] (fun _ _ z=>by simp at z) h;rw [decide_eq_true h,decide_eq_true (by simpa [dl] using this)]
 ·have:=zCo l [] (.inr h);rw [decide_eq_false h,decide_eq_false (by simp [dl] at *;omega)]
variable {prog:Program}{w:World}{A:Around}{R:Result→Shared→Prop}{I:Addr}{fp wr:List Addr}{n:Nat}{P:Nat→Value→Prop}{St:Nat→Heap→Prop}
theorem SetOf_eqv {knd:KeyKind prog w κ}{h:Heap}{a:Addr}{S S' : κ→Bool}{m m':Nat} (x:h.SetOf knd a S m) (e:∀ k,S k=S' k) (em:m=m'):h.SetOf knd a S' m':=by
 have e':S=S':=funext e;subst e' em;exact x
theorem set_loopK (W:Walks prog w A.in1 I fp wr n P St) {D:Addr} (hD:D∉fp) {knd:KeyKind prog w κ}{ks:List κ} (hn:ks.length=n) (hval:∀ i v k,P i v→ks[i]? = some k→knd.is k v=true∧v.scannable=true) (hb:n + 1 < scanBound) :
  ∀ (j i:Nat) (z:Shared),n - i=j→i≤n→St i z.heap→z.heap.SetOf knd D (fun k=>decide (k∈ks.take i)) (dl (ks.take i)).length →
   (∀ h' tk,(∀ b o,b∉D :: wr→z.heap.get? b=some o→h'.get? b=some o)→h'.SetOf knd D (fun k=>decide (k∈ks)) (dl ks).length→R (.ok (.ret .none)) { z with heap:=h',toks:=tk }) →
   codeAny (model prog w) A (.builtin "set.update.loop" ⟨[.ref D,.ref I],[]⟩) R z:=by
 have hDw:D∉wr:=fun h=>hD (W.sub _ h);intro j
 induction j with
 | zero =>
  intro i z hj hi st hS hR;obtain rfl:i=n:=by omega
  refine codeAny_builtin PyProof.Rows.F.entry_set_update_loop ?_;rw [Around.under_plainId PyProof.Rows.F.plain_set_update_loop _];show wpAny _ A.in1 (pyNext (.ref I) >>= _) _ _ z;refine wpAny_bind (W.done z _ _ st fun h' tk kk=>?_);rw [List.take_of_length_le (Nat.le_of_eq hn)] at hS;obtain ⟨o,es,ep,t,ho,more⟩:=hS;exact wpAny_pure (hR h' tk (fun b o hb e=>kk b o (fun m=>hb (Z6 _ m)) e) ⟨o,es,ep,t,kk D _ hDw ho,more⟩)
 | succ j ih =>
  intro i z hj hi st hS hR;have lt:i < n:=by omega
  refine codeAny_builtin PyProof.Rows.F.entry_set_update_loop ?_;rw [Around.under_plainId PyProof.Rows.F.plain_set_update_loop _];show wpAny _ A.in1 (pyNext (.ref I) >>= _) _ _ z;refine wpAny_bind (W.item i z _ _ lt st fun v h1 tk1 hP st1 k1=>?_);have hk:ks[i]? = some (ks[i]'(by omega)):=Z1 _;obtain ⟨hv,hs⟩:=hval i v _ hP hk;obtain ⟨o,es,ep,t,ho,more⟩:=hS;have hS1:h1.SetOf knd D (fun k=>decide (k∈ks.take i)) (dl (ks.take i)).length:=⟨o,es,ep,t,k1 D _ hDw ho,more⟩;show wpAny _ A.in1 (holding [v] (setAdd D v) >>= _) _ _ _;refine wpAny_bind (wpAny_holding ?_);unfold setAdd;refine wpAny_holding (wpAny_bind (knd.pyHash hv ?_));have room:(dl (ks.take i)).length + 1 < scanBound:=by
   have a1:=dl_len_le (ks.take i);have a2:(ks.take i).length≤i:=Zx _ _;omega
  refine wpAny_setAddHashed_of (knd:=knd) (s:={ z with heap:=h1,toks:=tk1 + 1 }) hv hs hS1 room fun h2 sb2 hS2=>?_;have et:ks.take (i + 1)=ks.take i++[ks[i]'(by omega)]:=by rw [Zk,hk];rfl
  have hS3:h2.SetOf knd D (fun k=>decide (k∈ks.take (i + 1))) (dl (ks.take (i + 1))).length:=by
   refine SetOf_eqv hS2 (fun k=>?_) ?_
   ·rw [et,Yl];simp only [Bool.or_eq_true,decide_eq_true_eq,List.mem_append,List.mem_singleton]
   ·rw [et,dl_snoc];unfold dstep;by_cases q:ks[i]'(by omega)∈ks.take i
    ·rw [if_pos (by simpa using q),if_pos (mem_dl.mpr q)]
    ·rw [if_neg (by simpa using q),if_neg (fun z=>q (mem_dl.mp z)),Z4,List.length_singleton]
  refine wpAny_pure ⟨plainId_quiet PyProof.Rows.F.plain_set_update_loop _,ih (i + 1) _ (by omega) lt (W.frame _ h1 _ st1 fun b hb o e=>?_) hS3 fun h' tk kk hS'=>hR h' tk (fun b o hb e=>kk b o hb ?_) hS'⟩
  ·rw [sb2.2 b (fun q:b=D=>hD (by rw [← q];exact hb))];exact e
  ·rw [sb2.2 b (fun q:b=D=>hb (by rw [q];exact Z9))];exact k1 b o (fun m=>hb (Z6 _ m)) e
end
end L2
namespace L2
open PySem PySem.Spec PyProof.Rows
noncomputable abbrev bareSet (b:Bool):Obj:={ cls:=.type "set",dict:=none,data:=.set #[] 0 (.fresh 0 0 b) }
section
variable {κ : Type} [DecidableEq κ] {prog:Program}{w:World}{A:Around}{E:Value→Shared→Prop}{z:Shared}
noncomputable def SetMade (knd:KeyKind prog w κ) (ks:List κ) (z:Shared) (r:Value) (z':Shared):Prop :=
 r=.none∧∃ h' tk,z'={ z with heap:=h',toks:=tk }∧h'.SetOf knd z.heap.objs.size (fun k=>decide (k∈ks)) (dl ks).length∧∀ b o,b < z.heap.objs.size→z.heap.get? b=some o→h'.get? b=some o
set_option maxHeartbeats 6400000 in
theorem call_setK {knd:KeyKind prog w κ}{l:Addr}{its:Array Value}{ks:List κ}{Q:Value→Shared→Prop} (hh:A.handled=none) (hl:z.heap.IsList l its) (hn:ks.length=its.size)
  (hv:∀ (i:Nat) (v:Value) (k : κ),its[i]? = some v→ks[i]? = some k→knd.is k v=true∧v.scannable=true) (hb:its.size + 1 < scanBound)
  (h:∀ z',SetMade knd ks z .none z'→Q (.ref z.heap.objs.size) z'):wpAny (model prog w) A (call (.type "set") [.ref l]) Q E z:=by
 obtain ⟨mc,mt,m0⟩:=PySem.F.called_set.mro;have m1:=PySem.F.called_set.made;have m2:=PySem.F.called_set.sub;refine wpAny_call (codeAny_of_tree ?_);show wpAny _ _ (callAny (.type "set") _) _ _ _;refine wpAny_pure ⟨Code.quiet_builtin _ (by decide +kernel),codeAny_builtin PySem.F.entry_type_call ?_⟩;rw [Around.under_plain (weight_type_call_type "set" [.ref l] []) rfl];have m3:=PySem.F.called_set.notType;have m4:=PySem.F.called_set.canCreate;have m5:=PySem.F.typeCall_set_1 (.ref l)
 repeat (any_goals (first | assumption | wp_step))
 refine codeAny_mono (code_set_new_1 (.ref l) (E:=E) (Q₁:=fun r z1=>∃ b:Bool,r=.ref z.heap.objs.size∧z1={ z with heap:=z.heap.push (bareSet b) }) fun b=>⟨b,rfl,rfl⟩) fun r z1 hr=>?_;cases r with
 | error e=>exact hr
 | ok fl =>
  cases fl with
  | next=>exact hr.elim
  | brk=>exact hr.elim
  | cont=>exact hr.elim
  | ret r =>
   obtain ⟨b,rfl,rfl⟩:=hr;have g0:(z.heap.push (bareSet b)).get? z.heap.objs.size=some (bareSet b):=Zg _ rfl;have ty:Shared.TypeIs { z with heap:=z.heap.push (bareSet b) } (.ref z.heap.objs.size) "set":=⟨_,g0,rfl⟩;have i1:=PySem.F.called_set.init.lookup;have i2:=PySem.F.called_set.init.bind (.ref z.heap.objs.size)
   repeat (any_goals (first | assumption | wp_step))
   refine codeAny_mono (codeAny_call_builtin (R:=wants (SetMade knd ks z) E) PySem.F.called_set.init.plain PySem.F.entry_set_init (check_set_init_1 ty ?_)) fun r2 z2 hr2=>?_
   ·obtain ⟨⟨oc,od,odt,osl⟩,ho,c1,nl,d1⟩:=hl;simp only at c1 d1;subst c1 d1;have ho1:(z.heap.push (bareSet b)).get? l=some { cls:=.type "list",dict:=od,data:=.seq its nl,slots:=osl }:=Z2 _ ho;have s1:=PySem.F.sub_list_set;have s2:=PySem.F.sub_list_frozenset;have s3:(Value.type "list" == Value.type "dict")=false:=by decide
    have hl1:(z.heap.push (bareSet b)).IsList l its:=⟨_,ho1,rfl,nl,rfl⟩;unfold Builtin.«set.__init__» noKeywords Builtin.Frozenset.updateFrom;generalize ePI:pyIter=PI
    wp_walk
    subst ePI;refine wpAny_pyIter_list hl1 ?_;refine wpAny_bind (wpAny_runValue ?_);have lt:l < z.heap.objs.size:=Z8 ho;have sz1:(z.heap.push (bareSet b)).objs.size=z.heap.objs.size + 1:=Yq _ _;have neI:l≠(z.heap.push (bareSet b)).objs.size:=by rw [sz1];exact Zc (Nat.lt_succ_of_lt lt)
    have nD:z.heap.objs.size∉[(z.heap.push (bareSet b)).objs.size,l]:=by
     rw [sz1];simp only [Zj,Zf,or_false,not_or];exact ⟨Zc (Yi _),Yp lt⟩
    refine set_loopK (Walks.list (by simp [hh]) _ l neI its) nD (knd:=knd) (ks:=ks) hn hv hb (its.size - 0) 0 _ (by omega) (Zz _) ⟨⟨_,Zg _ rfl,rfl,rfl⟩,hl1.push _⟩ ?_ fun h' tk kk hS=>?_
    ·refine SetOf_eqv ((PyProof.Rows.setObjOf_fresh (knd:=knd) b).setOf (Z2 _ g0) (by unfold scanBound;omega)) (fun k=>?_) rfl;simp
    ·show wpAny _ _ _ _ _ _;refine wpAny_pure ?_;show wpAny _ _ (ret Value.none) _ _ _;refine wpAny_pure ⟨rfl,h',tk,rfl,hS,fun c o hc e=>kk c o ?_ (Z2 _ (Z2 _ e))⟩;rw [sz1];simp only [Zj,Zf,or_false,not_or];exact ⟨Zc hc,Zc (Nat.lt_succ_of_lt hc)⟩
   ·cases r2 with
    | error e=>exact hr2
    | ok fl2 =>
     cases fl2 with
     | next=>exact hr2.elim
     | brk=>exact hr2.elim
     | cont=>exact hr2.elim
     | ret r =>
      have hs:=hr2;obtain ⟨rfl,h',tk,rfl,hS,kk⟩:=hr2
      repeat (any_goals (first | assumption | wp_step))
      exact h _ hs
end
noncomputable def SetS (P:Program) (w:World) (p:Addr) (ks:List Str):HO:=.ext fun h=>h.SetOf (strKind P w) p (fun k=>decide (k∈ks)) (dl ks).length
section
variable {X:Cx}
theorem strs_get:∀ {ks:List Str}{us:List Value}{i:Nat}{v:Value}{k:Str},Vals (ks.map V.str) us→us[i]? = some v→ks[i]? = some k→∃ t,v=Value.str k t
 | [],_,i,v,k,.nil,h,_=>by simp at h
 | b :: r,_,0,v,k,.cons a t,h,hk=>by
  simp at h hk;subst h hk;exact a
 | b :: r,_,i + 1,v,k,.cons a t,h,hk=>strs_get (ks:=r) (i:=i) t (by simpa using h) (by simpa using hk)
theorem zGp (hc:X.calm=true):CallR X (.type "set") (fun xs H Q=>∃ (p:Addr) (ks:List Str),xs=[.ref p]∧SqL X.K H p (ks.map V.str)∧ks.length≤4000∧∀ d,H d=none→Q (.ref d) (upd H d (SetS X.prog X.w d ks))):=by
 intro pins s σ H xs us Q I r h;obtain ⟨p,ks,rfl,hp,hz,q⟩:=h;obtain ⟨u,rfl,ru⟩:=v1 r;cases (show u=Value.ref p from ru);obtain ⟨its,rv,pl,_⟩:=I.list hp;have hlen:its.length=ks.length:=by rw [← rv.length,Z0]
 refine call_setK (knd:=strKind X.prog X.w) (ks:=ks) (I.ok.hd hc) pl.isList (by rw [Zb,hlen]) (fun i v k h1 h2=>?_) (by rw [Zb,hlen];unfold scanBound;omega) fun z' hs=>?_
 ·obtain ⟨t,rfl⟩:=strs_get rv (by simpa using h1) h2;exact ⟨strKind_is _ _ _ _,rfl⟩
 ·obtain ⟨_,h',tk,rfl,hS,kk⟩:=hs;refine ⟨.ref s.heap.objs.size,_,I.laid (t':=tk) (a:=s.heap.objs.size) (o:=SetS X.prog X.w s.heap.objs.size ks) (fun b o e=>kk b o (Z8 e) e) (Z5 _) ?_,rfl,q _ (I.hok.fresh (Z5 _))⟩;refine ⟨hS,?_,fun h1 h2 hs1 k12=>?_⟩
  ·obtain ⟨o,_,_,_,e,_⟩:=hS;exact ⟨o,e⟩
  ·obtain ⟨o,es,ep,t,e,more⟩:=hs1;exact ⟨o,es,ep,t,k12 o e,more⟩
theorem zDw:CallR X (.builtin "len") (fun xs H Q=>∃ (d:Addr) (ks:List Str),xs=[.ref d]∧H d=some (SetS X.prog X.w d ks)∧ks.length≤4000∧Q (.int (dl ks).length) H):=by
 intro pins s σ H xs us Q I r h;obtain ⟨d,ks,rfl,hd,hz,q⟩:=h;obtain ⟨u,rfl,ru⟩:=v1 r;cases (show u=Value.ref d from ru);obtain ⟨hS,_,_⟩:=I.hok d _ hd;obtain ⟨o,es,ep,t,e,hex,hdt,_,_,hb,hf,hn⟩:=hS;refine call_len_set e hex hdt hf ?_ ?_
 ·unfold scanBound at hb;omega
 ·rw [hn];exact ⟨.int _,H,I.tok _,⟨_,rfl⟩,q⟩
end
end L2
namespace L2
open PySem PySem.Spec PyProof.Rows
theorem ScOk.auto {X:Cx}{sc:Scope}{cl:List (Str×Addr)}{T:List Str} (h1:closureFor sc X.env=pure cl:=by rfl) (h2:(sc.names.all fun y=>y.2 != .cell)=true:=by rfl) (h3:sc.kind=.function:=by rfl)
  (h4:(sc.names.all fun x=>x.2 != .local || sc.names.lookup x.1 == some .local)=true:=by rfl)
  (h5:ClOk X cl:=by first | exact trivial | exact ⟨rfl,trivial⟩ | exact ⟨rfl,rfl,trivial⟩ | exact ⟨rfl,rfl,rfl,trivial⟩ | exact ⟨rfl,rfl,rfl,rfl,trivial⟩)
  (h6:(sc.names.all fun x=>x.2 != .free || ((cl.lookup x.1).isSome && (X.env.scope.names.lookup x.1 == some .cell || X.env.scope.names.lookup x.1 == some .free)))=true:=by rfl)
  (h7:(X.N.all fun x=>sc.names.lookup x != some .local)=true:=by rfl):ScOk X sc cl T where
 clos:=h1
 cell:=fun y hy=>by have:=List.all_eq_true.mp h2 y hy;simpa using this
 kind:=h3
 names:=fun x hx hl=>by
  have:=List.all_eq_true.mp h4 x hx;rw [hl] at this
  simpa using this
 cls:=h5
 has:=fun x hx hf=>by
  have:=List.all_eq_true.mp h6 x hx;rw [hf] at this
  simpa using this
 out:=fun x hx=>by have:=List.all_eq_true.mp h7 x hx;simpa using this
theorem zF4 {J:It}{n k:Nat}{σ : St}{H:Hp}{g:TG}{tt:TT}{te:TE}{Q:VK} (Pv:Nat→List V→Hp→Prop) (h0:Pv 0 [] H) (go:∀ i ys H,i < n→Pv i ys H→J.go i H) (stop:∀ ys H,Pv n ys H→J.stop n H)
  (hz:∀ i ys H,i≤n→Pv i ys H→ys.length≤sizeLine)
  (hs:∀ i ys H x H',i < n→Pv i ys H→J.yld i H x H'→∀ N:List V→Hp→Prop,(∀ ys H,Pv (i + 1) ys H→N ys H)→g x (σ++List.replicate k none) H' fun σ2 H2=>tt σ2 H2 fun b H3=>if b=true then te σ2 H3 fun y H4=>N (ys++[y]) H4 else N ys H3)
  (hd:∀ ys H,Pv n ys H→∀ p,H p=none→Q (.ref p) (upd H p (.lst ys))):CompGoal J k σ H g tt te Q:=by
 refine ⟨fun i m ys H=>m=n - i∧i≤n∧Pv i ys H,⟨n,by simp,Zz _,h0⟩,?_⟩;rintro i m ys H ⟨rfl,hi,p⟩;by_cases lt:i < n
 ·exact .inr ⟨go i ys H lt p,hz _ _ _ hi p,fun x H' y=>hs i ys H x H' lt p y (fun ys' H'=>∃ m',m' < n - i∧m'=n - (i + 1)∧i + 1≤n∧Pv (i + 1) ys' H') fun ys' H' q=>⟨n - (i + 1),by omega,rfl,lt,q⟩⟩
 ·obtain rfl:i=n:=by omega
  exact .inl ⟨stop _ _ p,hz _ _ _ hi p,hd _ _ p⟩
theorem zC9 {x:Str}{k:Nat}{σ : St}{H:Hp}{g:TG}{tt:TT}{te:TE}{Q:VK} (p:Nat→Bool) (f:Nat→V) (hz:x.length≤sizeLine)
  (hs:∀ c (Ry:VK) (Rn:Hp→Prop),(p c=true→Ry (f c) H)→(p c=false→Rn H)→g (.str ⟨#[c]⟩) (σ++List.replicate k none) H fun σ2 H2=>tt σ2 H2 fun b H3=>if b=true then te σ2 H3 Ry else Rn H3)
  (hd:∀ q,H q=none→Q (.ref q) (upd H q (.lst ((x.cps.toList.filter p).map f)))):CompGoal (Its x) k σ H g tt te Q:=by
 have hlen:x.cps.toList.length=x.length:=by rw [Y4];rfl
 refine zF4 (J:=Its x) (n:=x.length) (fun i ys H'=>H'=H∧ys=((x.cps.toList.take i).filter p).map f) ⟨rfl,rfl⟩ (fun i ys H' lt _=>lt) (fun ys H' _=>Z5 _) (fun i ys H' hi q=>?_) ?_ ?_
 ·obtain ⟨_,rfl⟩:=q;rw [Z0];have a:=List.length_filter_le p (x.cps.toList.take i);have b:=Zx i x.cps.toList;omega
 ·rintro i ys H' v H2 lt ⟨rfl,rfl⟩ ⟨rfl,c,hc,rfl⟩ N hN;have hc':x.cps.toList[i]? = some c:=by rw [Array.getElem?_toList];exact hc
  refine hs c _ _ (fun e=>hN _ _ ⟨rfl,?_⟩) (fun e=>hN _ _ ⟨rfl,?_⟩)
  ·rw [Zk,hc',Ym];simp [e]
  ·rw [Zk,hc',Ym];simp [e]
 ·rintro ys H' ⟨rfl,rfl⟩ q hq;rw [← hlen,Zm];exact hd q hq
theorem zAl {K:PySem.W.Frag}{a:Addr}{xs:List V}{k:Nat}{σ : St}{H:Hp}{g:TG}{tt:TT}{te:TE}{Q:VK} (Pv:Nat→List V→Hp→Prop) (h0:Pv 0 [] H) (hl:∀ i ys H,Pv i ys H→SqL K H a xs)
  (hz:∀ i ys H,i≤xs.length→Pv i ys H→ys.length≤sizeLine)
  (hs:∀ i x ys H,xs[i]? = some x→Pv i ys H→∀ N:List V→Hp→Prop,(∀ ys H,Pv (i + 1) ys H→N ys H)→g x (σ++List.replicate k none) H fun σ2 H2=>tt σ2 H2 fun b H3=>if b=true then te σ2 H3 fun y H4=>N (ys++[y]) H4 else N ys H3)
  (hd:∀ ys H,Pv xs.length ys H→∀ p,H p=none→Q (.ref p) (upd H p (.lst ys))):CompGoal (Itl K a) k σ H g tt te Q:=by
 refine zF4 (J:=Itl K a) (n:=xs.length) Pv h0 (fun i ys H lt p=>⟨xs,xs[i],hl i ys H p,Z1 lt⟩) (fun ys H p=>⟨xs,hl _ ys H p,Z5 _⟩) hz ?_ hd;rintro i ys H x H' lt p ⟨rfl,y⟩ N hN;exact hs i x ys _ (y xs (hl _ _ _ p)) p N hN
theorem comp_range {lo:Int}{n k:Nat}{σ : St}{H:Hp}{g:TG}{tt:TT}{te:TE}{Q:VK} (Pv:Nat→List V→Hp→Prop) (h0:Pv 0 [] H)
  (hz:∀ i ys H,i≤n→Pv i ys H→ys.length≤sizeLine)
  (hs:∀ i ys H,i < n→Pv i ys H→∀ N:List V→Hp→Prop,(∀ ys H,Pv (i + 1) ys H→N ys H)→g (.int (lo + i)) (σ++List.replicate k none) H fun σ2 H2=>tt σ2 H2 fun b H3=>if b=true then te σ2 H3 fun y H4=>N (ys++[y]) H4 else N ys H3)
  (hd:∀ ys H,Pv n ys H→∀ p,H p=none→Q (.ref p) (upd H p (.lst ys))):CompGoal (Itr lo n) k σ H g tt te Q:=by
 refine zF4 (J:=Itr lo n) (n:=n) Pv h0 (fun i ys H lt p=>lt) (fun ys H p=>Z5 _) hz ?_ hd;rintro i ys H x H' lt p ⟨rfl,rfl⟩ N hN;exact hs i ys _ lt p N hN
theorem pick {A B:St→Hp→Prop}{σ : St}{H:Hp}{i:Nat}{x:V} (h:A (σ.set i (some x)) H):gName i x σ H fun σ2 H2=>tYes σ2 H2 fun b H3=>if b=true then A σ2 H3 else B σ2 H3:=by
 show if true=true then A (σ.set i (some x)) H else B (σ.set i (some x)) H
 rw [if_pos rfl];exact h
theorem Fun.okC {P:Program}{w:World}{K:PySem.W.Frag}{mg:Str→Option Value}{base:Heap}{CX:CXT}{x qual:Str}{st:Stmt}{f:Addr}{fd:FuncData}{N ps:List Str}{k:Nat}{sp:Sp} (F:Fun K x qual st f fd) (S:FnScope N ps (defScope st)) (len:∀ vs H Q E,sp vs H Q E→vs.length=ps.length)
  (hbody:∀ (cdv:Value) (A:Around) (outer:List Env) (s:Shared) (H:Hp) (vs:List V) (Q:VK) (E:XK),Room k (A.deeper (envOfC qual (defScope st) s.heap.objs.size f cdv))→sp vs H Q E →
   ∃ t,PSs (cxOf CX P w K mg base N qual (defScope st) f cdv A outer s H E).nox (defBody st) t∧t { nx:=fun _ H'=>Q .non H',rt:=Q } (start N vs) H):FnOk P w K mg base CX (k + 1) f fd ps sp:=by
 obtain ⟨oc,od,kV,doc,pm,an,cdv,ct,osl,rfl,lk,hcd⟩:=F.ex;refine fn_of lk hcd S len fun A outer s H vs Q E hr hsp=>?_;obtain ⟨t,h,q⟩:=hbody cdv A outer s H vs Q E hr hsp;exact ⟨t,h.nox,q⟩
noncomputable def Calm (CX:CXT):Prop:=∀ o H s e s',CX o H s (fun _ _ _=>False) e s'→False
theorem passC {CX:CXT} (h:Calm CX) {X:Cx}:Passes CX X E0:=fun _ _ _ _ _ _ _ q=>(h _ _ _ _ _ q).elim
structure Def (K:PySem.W.Frag) (mg:Str→Option Value) (x:Str) (st:Stmt) (ps:List Str) (f:Addr) (fd:FuncData):Prop where
 fn:Fun K x x st f fd
 at_:mg x=some (.ref f)
 bind:Binds K fd ps []
theorem Same.new {H:Hp}{p:Addr}{o:HO} (h:H p=none):Same H (upd H p o):=fun b u e=>by rw [zAa (zA5 e h)];exact e
end L2
namespace L2
open PySem PySem.Spec PyProof.Rows
section
variable {X:Cx}{pins:List (Addr×Obj)}{σ : St}{H:Hp}{s:Shared}
theorem Inv.adopt {T:Addr}{o:HO} (I:Inv X pins σ H s) (hn:H T=none) (h1:X.s₀.heap.objs.size≤T) (hL:T≠X.env.locals) (h2:∀ x c,X.env.cells.lookup x=some c→c≠T) (h3:∀ p∈X.pn++pins,p.1≠T)
  (new:ObjOk X.prog X.w (upd H T o) s.heap T o):Inv X pins σ (upd H T o) s:=by
 refine I.step (h':=s.heap) (g':=s.gens) (d':=s.drawn) (t':=s.toks) (ch:=[T]) (fun b hb=>?_) (fun b o _ _ _ e _=>e) (fun b o _ _ _ e _=>⟨o.slots,e⟩) (fun b o hc e n=>?_) (fun b o _ e=>⟨o,e⟩)
  (fun b xs e=>?_) (fun b o u e=>?_) (fun b ps e=>⟨#[],?_⟩) (fun m h=>h) (fun b u e=>?_) I.bare
 ·have e:b=T:=by simpa using hb
  subst e;exact ⟨.inr (Y8 h1),hL,h2,h3⟩
 ·rw [zAa (fun z=>hc (by simp [z]))];exact n
 ·rw [zAa (zA5 e hn)];exact e
 ·rw [zAa (zA5 e hn)];exact e
 ·rw [zAa (zA5 e hn),e];simp
 ·by_cases hb:b=T
  ·subst hb;rw [zA1] at e;cases e;exact new
  ·rw [zAa hb] at e;exact (I.hok b u e).stay (fun c v _ q=>q) (fun c q=>by rw [zAa (zA5 q hn)];exact q) fun c xs q=>by rw [zAa (zA5 q hn)];exact q
theorem Inv.turns {h':Heap}{t':Nat}{ch:List Addr} (I:Inv X pins σ H s) (k:∀ b o,b∉ch→s.heap.get? b=some o→h'.get? b=some o) (hf:∀ b∈ch,FpOk X pins H b):Inv X pins σ H { s with heap:=h',toks:=t' }:=by
 have nit:∀ b u,H b=some u→b∉ch:=fun b u e z=>by rw [(hf b z).1] at e;cases e
 refine I.step (g':=s.gens) (d':=s.drawn) (ch:=ch) (fun b hb=>⟨(hf b hb).2.2.2.1.imp_right fun z=>Y8 z,(hf b hb).2.1,(hf b hb).2.2.2.2.1,(hf b hb).2.2.2.2.2⟩) (fun b o _ _ hc e _=>k b o hc e) (fun b o _ _ hc e _=>⟨o.slots,k b o hc e⟩) (fun _ _ _ _ n=>n)
  (fun b o hc e=>⟨o,k b o hc e⟩) (fun _ _ e=>e) (fun _ _ _ e=>e) (fun b ps e=>⟨#[],by rw [e];simp⟩) (fun m hm=>?_) (fun b u e=>?_) I.bare
 ·obtain ⟨o,es,ep,ho,r⟩:=hm;exact ⟨o,es,ep,k _ o (fun z=>(hf _ z).2.1 rfl) ho,r⟩
 ·refine (I.hok b u e).stay (fun c v hc q=>k c v ?_ q) (fun _ q=>q) fun _ _ q=>q;rcases hc with z | z
  ·rw [z];exact nit b u e
  ·exact nit c _ z
end
noncomputable def Itz (K:PySem.W.Frag) (a b:Addr):It :=
 ⟨fun i H=>∃ xs ys x y,SqL K H a xs∧SqL K H b ys∧xs[i]? = some x∧ys[i]? = some y,
  fun i H v H'=>∃ p x y,v=.ref p∧H p=none∧H'=upd H p (.tup [x,y])∧(∀ xs,SqL K H a xs→xs[i]? = some x)∧∀ ys,SqL K H b ys→ys[i]? = some y,
  fun i H=>∃ xs ys,SqL K H a xs∧SqL K H b ys∧(xs.length≤i∨ys.length≤i)⟩
theorem turn_zip {P:Program}{w:World}{K:PySem.W.Frag}{es:List Expr}{x1:_}{pos:Pos}{l1 l2 z TI TO i1 i2:Addr} (D:ZipApart z TI TO i1 i2 l1 l2) :
  Turn P w K (.Tuple es x1 pos) (Itz K l1 l2) [z,TO,i1,i2,TI] z (fun i h=>IsZip h z TI TO .none∧IsPair h TI (.ref i1) (.ref i2)∧(∃ a b,IsPair h TO a b)∧h.IsListIter i1 l1 i∧h.IsListIter i2 l2 i) where
 mem:=by simp
 obj:=fun i h st b hb=>by
  obtain ⟨h1,h2,⟨a,c,h3⟩,⟨o4,h4,_,d4⟩,⟨o5,h5,_,d5⟩⟩:=st;simp only [Zj,Zf,or_false] at hb;rcases hb with rfl | rfl | rfl | rfl | rfl
  ·exact ⟨_,h1,fun v q=>by cases (show Data.fields _=Data.cell v from q)⟩
  ·exact ⟨_,h3,fun v q=>by cases (show Data.seq _ _=Data.cell v from q)⟩
  ·exact ⟨_,h4,fun v q=>by rw [d4] at q;cases q⟩
  ·exact ⟨_,h5,fun v q=>by rw [d5] at q;cases q⟩
  ·exact ⟨_,h2,fun v q=>by cases (show Data.seq _ _=Data.cell v from q)⟩
 keep:=fun i h h' st k=>by
  obtain ⟨h1,h2,⟨a,c,h3⟩,h4,h5⟩:=st;exact ⟨k z (by simp) _ h1,k TI (by simp) _ h2,⟨a,c,k TO (by simp) _ h3⟩,h4.at fun o e=>k i1 (by simp) o e,h5.at fun o e=>k i2 (by simp) o e⟩
 item:=by
  intro X hP hw hK hc i pins s σ H E I hf st hg;subst hP hw hK;obtain ⟨h1,h2,⟨a,c,h3⟩,h4,h5⟩:=st;obtain ⟨xs,ys,x,y,qx,qy,ex,ey⟩:=hg;obtain ⟨its,rx,px,_⟩:=I.list qx;obtain ⟨jts,ry,py,_⟩:=I.list qy;obtain ⟨u,hu,ru⟩:=rx.get ex;obtain ⟨v,hv,rv⟩:=ry.get ey;refine wpAny_pyNext_zip_item D h1 h2 h3 h4 h5 px.isList py.isList (by simpa using hu) (by simpa using hv) fun h' a1 a2 a3 a4 a5 a6 a7=>?_;refine ⟨_,rfl,wpAny_letOwnedTupleGo_zip a1 fun h2' b1 sb=>?_⟩;have nz:s.heap.objs.size≠z:=fun e=>by have:=Z8 h1;rw [← e] at this;exact Y5 _ this
  have J:Inv X pins σ H { s with heap:=h2' }:=I.turns (t':=s.toks) (ch:=[z,TO,i1,i2,TI]) (fun b o hb e=>by
   simp only [Zj,Zf,or_false,not_or] at hb
   exact (sb.2 b hb.1).trans (a7 b o hb.1 hb.2.1 hb.2.2.1 hb.2.2.2.1 e)) hf
  have gT:h2'.get? s.heap.objs.size=some { cls:=.type "tuple",data:=.seq #[u,v] }:=(sb.2 _ nz).trans a5;have fT:H s.heap.objs.size=none:=I.hok.fresh (Z5 _)
  have J2:Inv X pins σ (upd H s.heap.objs.size (.tup [x,y])) { s with heap:=h2' }:=J.adopt fT I.sz (Yp I.lt) (fun n c e=>by
    obtain ⟨w',q⟩:=I.cell n c e
    exact Zc q.lt) (fun p hp=>Zc (Z8 (I.pin p hp).1)) ⟨by show 2≤sizeLine;decide,[u,v],.cons ru (.cons rv .nil),⟨_,gT,rfl,_,rfl⟩⟩
  have keepB:∀ b o,b≠z→h'.get? b=some o→h2'.get? b=some o:=fun b o hb e=>(sb.2 b hb).trans e;refine ⟨.ref s.heap.objs.size,_,J2,rfl,⟨_,x,y,rfl,fT,rfl,fun zs hz=>by rw [I.list_inj hz qx];exact ex,fun zs hz=>by rw [I.list_inj hz qy];exact ey⟩,⟨b1,keepB _ _ D.TIz (a7 _ _ D.TIz D.TITO D.TIi1 D.TIi2 h2),⟨_,_,keepB _ _ D.TOz a2⟩,a3.at fun o e=>keepB _ _ D.i1z e,a4.at fun o e=>keepB _ _ D.i2z e⟩,fun b hb=>?_⟩;have hb':=(hf b hb).1;have:b≠s.heap.objs.size:=by
   rintro rfl;obtain ⟨o,e⟩:∃ o,s.heap.get? s.heap.objs.size=some o:=by
    simp only [Zj,Zf,or_false] at hb;rcases hb with e | e | e | e | e <;> rw [e]
    ·exact ⟨_,h1⟩
    ·exact ⟨_,h3⟩
    ·obtain ⟨o,q,_⟩:=h4;exact ⟨o,q⟩
    ·obtain ⟨o,q,_⟩:=h5;exact ⟨o,q⟩
    ·exact ⟨_,h2⟩
   exact Y5 _ (Z8 e)
  rw [zAa this];exact hb'
 done:=by
  intro X hP hw hK hc i pins s σ H E I hf st hg;subst hP hw hK;obtain ⟨h1,h2,⟨a,c,h3⟩,h4,h5⟩:=st;obtain ⟨xs,ys,qx,qy,hend⟩:=hg;obtain ⟨its,rx,px,_⟩:=I.list qx;obtain ⟨jts,ry,py,_⟩:=I.list qy;have e1:=rx.length;have e2:=ry.length;refine wpAny_pyNext_zip_end (I.ok.hd hc) D h1 h2 h3 h4 h5 px.isList py.isList ?_ fun h' kk=>⟨rfl,I.turns (t':=s.toks) (ch:=[z,TO,i1,i2,TI]) (fun b o hb e=>?_) hf⟩
  ·rcases hend with q | q
   ·exact .inl (by simp;omega)
   ·exact .inr (by simp;omega)
  ·simp only [Zj,Zf,or_false,not_or] at hb;exact kk b o hb.1 hb.2.1 hb.2.2.1 hb.2.2.2.1 e
 self:=fun _ _ _ _ _ st h=>wpAny_pyIter_zip st.1 h
noncomputable def iZip (K:PySem.W.Frag) (ta:TA):TI:=fun σ H R=>ta σ H fun vs H1=>∃ a b,vs=[.ref a,.ref b]∧(∃ xs,SqL K H1 a xs)∧(∃ ys,SqL K H1 b ys)∧R (Itz K a b) H1
section
variable {X:Cx}
theorem pi_zip {es:List Expr}{x1:_}{tp:Pos}{e1 e2:Expr}{ta:TA}{p pos:Pos} (hg:Gl X "zip") (hm:X.mg "zip" = none) (ha:PA X [e1,e2] ta) (hs:starEach [e1,e2] X.env=[(false,eval e1 X.env),(false,eval e2 X.env)]:=by rfl) (hs2:starEach [e2] X.env=[(false,eval e2 X.env)]:=by rfl) :
  PI X (.Tuple es x1 tp) (.Call (.Name "zip" p) [e1,e2] [] pos) (iZip X.K ta):=by
 intro pins s σ H R I h;refine Call_ (zEu I hg hm boot_zip (PyProof.Rows.callWith_type1 (thn (ha pos pins s σ H _ I h) fun us s1 ⟨vs,H1,I1,r1,q1⟩=>?_) (by rw [hs,hs2]) (by rw [hs2];rfl)));obtain ⟨a,b,rfl,⟨xs,qx⟩,⟨ys,qy⟩,q⟩:=q1;obtain ⟨u,v,rfl,ru,rv⟩:=v2 r1;cases (show u=Value.ref a from ru);cases (show v=Value.ref b from rv);obtain ⟨its,rx,px,_⟩:=I1.list qx;obtain ⟨jts,ry,py,_⟩:=I1.list qy;have la:a < s1.heap.objs.size:=by obtain ⟨_,e,_⟩:=px.isList;exact Z8 e
 have lb:b < s1.heap.objs.size:=by obtain ⟨_,e,_⟩:=py.isList;exact Z8 e
 refine call_zip_2 px.isList py.isList fun h' a1 a2 a3 a4 a5 a6 a7=>wpAny_pyIter_zip a1 ?_;have I2:Inv X pins σ H1 { s1 with heap:=h' }:=I1.kept (t':=s1.toks) a7;refine ⟨s1.heap.objs.size + 4,[s1.heap.objs.size + 4,s1.heap.objs.size + 3,s1.heap.objs.size,s1.heap.objs.size + 1,s1.heap.objs.size + 2],_,_,H1,rfl,I2,turn_zip (PyProof.Rows.zipApart_new la lb),⟨a1,a2,⟨_,_,a3⟩,a4,a5⟩,fun c hc=>?_,q⟩;have hc':s1.heap.objs.size≤c:=by
  simp only [Zj,Zf,or_false] at hc;rcases hc with e | e | e | e | e
  ·rw [e];exact Nat.le_add_right _ _
  ·rw [e];exact Nat.le_add_right _ _
  ·rw [e];exact Z5 _
  ·rw [e];exact Nat.le_add_right _ _
  ·rw [e];exact Nat.le_add_right _ _
 exact I1.fpOk hc' (I1.hok.fresh hc')
theorem mt_index:MtR X "str.index" (fun x xs H Q=>∃ z y i r,x=.str z∧xs=[.str y]∧Builtin.Str.occurrences z y 0 z.length 1=i :: r∧Q (.int (i:Nat)) H):=by
 intro pins s σ H x xs v us Q I rx rs h;obtain ⟨z,y,i,r,rfl,rfl,ho,q⟩:=h;obtain ⟨t,rfl⟩:=rx;obtain ⟨u,rfl,ru⟩:=v1 rs;obtain ⟨t',rfl⟩:=ru;exact PySem.SC.index ho ⟨.int _,H,I.tok _,⟨_,rfl⟩,q⟩
theorem strs_vals:∀ {ks:List Str}{us:List Value},Vals (ks.map V.str) us→∃ l:List (Str×Tok),us=strValues l∧l.map (·.1)=ks
 | [],_,.nil=>⟨[],rfl,rfl⟩
 | k :: r,_,.cons a t=>by
  obtain ⟨tk,rfl⟩:=a;obtain ⟨l,e1,e2⟩:=strs_vals t;exact ⟨(k,tk) :: l,by rw [e1];rfl,by rw [Zp,e2]⟩
theorem mt_join {K:PySem.W.Frag} (hK:X.K=K):MtR X "str.join" (fun x xs H Q=>∃ (z:Str) (p:Addr) (ks:List Str),x=.str z∧xs=[.ref p]∧SqL K H p (ks.map V.str)∧PySem.JoinOk z ks=true∧Q (.str (Txt.join z ks)) H):=by
 subst hK;intro pins s σ H x xs v us Q I rx rs h;obtain ⟨z,p,ks,rfl,rfl,hp,hj,q⟩:=h;obtain ⟨t,rfl⟩:=rx;obtain ⟨u,rfl,ru⟩:=v1 rs;cases (show u=Value.ref p from ru);obtain ⟨its,rv,pl,_⟩:=I.list hp;obtain ⟨l,rfl,el⟩:=strs_vals rv;exact PySem.SC.join pl.isList el hj fun t' k=>⟨.str _,H,I.tok k,⟨t',rfl⟩,q⟩
end
end L2
namespace L2
open PySem PySem.Spec PyProof.Rows
section
variable {X:Cx}{K:PySem.W.Frag}{o e:Expr}{es:List Expr}{to ta tl:TE}{t:TA}{name f:Str}{apos cpos pos:Pos}{T id:String}{r:V→List V→Hp→VK→Prop}{tg:Expr}
theorem pe_bmK (hK:X.K=K) (pa:PlainAttrs T) (slot:Slot T name id) (hty:typeOf (.builtin id)=pure (.type "method_descriptor")) (hm:MtR X id r) (ho:PE X o to) (ha:PA X (e :: es) t)
  (hbase:attributeBase o name X.env (eval o X.env)=eval o X.env:=by rfl)
  (hfew:((backTo cpos (starEach (e :: es) X.env)).all (fun x=>!x.1) && (backToKw cpos (keywordEach [] X.env)).all (fun x=>x.1.isSome)
   && decide ((e :: es).length + ([]:List Keyword).length + (if ([]:List Keyword).isEmpty then 0 else 1) < 30))=true:=by rfl)
  (hline:(apos.endLine == cpos.line)=true:=by rfl) (hs:starEach (e :: es) X.env=(false,eval e X.env) :: starEach es X.env:=by rfl) (hplain:(backTo cpos (starEach es X.env)).any (·.1)=false:=by rfl) :
  PE X (.Call (.Attribute o name apos) (e :: es) [] cpos) (tBM K T r to t):=by
 subst hK;exact zD3 pa slot hty hm ho ha hbase hfew hline hs hplain
theorem zD1 (hK:X.K=K) (he:PE X e ta) (hb:attributeBase e f X.env (eval e X.env)=eval e X.env):PE X (.Attribute e f pos) (tFld K ta f):=by
 subst hK;exact zCx he hb
theorem zEh (hK:X.K=K) {es:List Expr}{k:Nat}{t:TGs}{n:Nat} (hc:X.calm=true) (h:PGs X es t)
  (hn:(assignEach es X.env).length=n:=by rfl) (hst:(assignEach es X.env).findIdx? (·.1)=none:=by rfl):PG X (.Tuple es k pos) (gTup K n t):=by
 subst hK;exact zDz hc h hn hst
end
end L2
namespace L2
open PySem PySem.Spec PyProof.Rows
noncomputable def constV:Expr→Option V
 | .Constant (.int i) _ _=>some (.int i)
 | .Constant (.str x) _ _=>some (.str x)
 | .Constant (.bool b) _ _=>some (.bl b)
 | .Constant .none _ _=>some .non
 | _=>none
theorem zGo {X:Cx}{e:Expr}{v:V} (h:constV e=some v):PE X e (tC v)∧∀ es,starEach (e :: es) X.env=(false,eval e X.env) :: starEach es X.env:=by
 unfold constV at h;split at h
 ·cases h;exact ⟨zA4,fun _=>rfl⟩
 ·cases h;exact ⟨zAe,fun _=>rfl⟩
 ·cases h;exact ⟨zBj,fun _=>rfl⟩
 ·cases h;exact ⟨zCc,fun _=>rfl⟩
 ·cases h
noncomputable def tConsts (vs:List V):TA:=fun _ H Q=>Q vs H
theorem zC4 {X:Cx}:∀ {es:List Expr}{vs:List V},es.map constV=vs.map some→PA X es (tConsts vs)
 | [],[],_=>zA2
 | [],_ :: _,h=>by cases h
 | _ :: _,[],h=>by cases h
 | e :: es,v :: vs,h=>by
  rw [Zp,Zp] at h;injection h with h1 h2;obtain ⟨p,q⟩:=zGo (X:=X) h1;exact zA0 p (zC4 h2) (q es)
noncomputable def constL:Expr→Option (List V)
 | .List es _=>es.mapM constV
 | _=>none
theorem zFp:∀ {es:List Expr}{vs:List V},es.mapM constV=some vs→es.map constV=vs.map some
 | [],vs,h=>by
  rw [List.mapM_nil] at h;cases h;rfl
 | e :: es,vs,h=>by
  rw [List.mapM_cons] at h;cases q:constV e with
  | none=>rw [q] at h;cases h
  | some v =>
   rw [q] at h;cases r:es.mapM constV with
   | none=>rw [r] at h;cases h
   | some ws =>
    rw [r] at h;cases h;rw [Zp,Zp,q,zFp r]
noncomputable def Laid (H H':Hp):List (List V)→List V→Prop:=Paired fun vs r=>∃ a,r=V.ref a∧H a=none∧H' a=some (.lst vs)
theorem Laid.mono {H0 H H' H2:Hp} (s0:Same H0 H) (s:Same H' H2) {vss:List (List V)}{rs:List V} (h:Laid H H' vss rs):Laid H0 H2 vss rs :=
 Paired.mapP h fun vs r ⟨a,e,n,q⟩=>⟨a,e,s0.free n,s _ _ q⟩
noncomputable def tLists (vss:List (List V)):TA:=fun _ H Q=>∀ rs H',Same H H'→Laid H H' vss rs→Q rs H'
theorem zE4 {X:Cx}:∀ {es:List Expr}{vss:List (List V)},es.map constL=vss.map some→(vss.all fun vs=>decide (vs.length≤1000))=true→PA X es (tLists vss)
 | [],[],_,_=>fun pos pins s σ H Q I h=>zA2 pos pins s σ H Q I (h [] H (Same.refl _) .nil)
 | [],_ :: _,h,_=>by cases h
 | _ :: _,[],h,_=>by cases h
 | e :: es,vs :: vss,h,hz=>by
  rw [Zp,Zp] at h;injection h with h1 h2;rw [Yj,Zu] at hz;have ih:=zE4 (X:=X) h2 hz.2;cases e with
  | List ls lp =>
   have hc:=zFp (show ls.mapM constV=some vs from h1);have pe:PE X (.List ls lp) (tLst (tConsts vs)):=zAr (zC4 hc);intro pos pins s σ H Q I q;refine zA0 pe ih rfl pos pins s σ H Q I ?_;refine ⟨Zl (small1000 (of_decide_eq_true hz.1)),fun p hp rs H' s' l'=>?_⟩;exact q _ _ ((Same.new hp).trans s') (.cons ⟨p,rfl,hp,s' _ _ zA1⟩ (l'.mono (Same.new hp) (Same.refl _)))
  | _=>cases h1
end L2
namespace L2
open PySem PySem.Spec PyProof.Rows
section
variable {X:Cx}
noncomputable def rRev (K:PySem.W.Frag) (te:TE):TE:=fun σ H Q=>te σ H fun x H1=>∃ a xs,x=.ref a∧SqL K H1 a xs∧∀ p,H1 p=none→Q (.ref p) (upd H1 p (.lst xs.reverse))
theorem pe_rev {e:Expr}{te:TE}{k:Nat}{p1 p2 p3 pos:Pos} (he:PE X e te):PE X (.Subscript e (.Slice none none (some (.UnaryOp .USub (.Constant (.int 1) k p1) p2)) p3) pos) (rRev X.K te):=by
 intro pins s σ H Q I h;refine Subscript_ (thn (he pins s σ H _ I h) fun v s1 ⟨x,H1,I1,r1,q1⟩=>?_);obtain ⟨a,xs,rfl,hx,q⟩:=q1;cases r1;refine wpAny_Slice ?_;rw [evalPart_none];refine wpAny_pure (wpAny_pure ?_);rw [evalPart_some];refine thn (zDo zCg (zA4 (X:=X) (i:=1)) pins s1 σ H1 (fun y H2=>y=.int (-1)∧H2=H1) I1 ⟨1,rfl,rfl,rfl⟩) fun u s2 ⟨y,H2,I2,r2,ey,eh⟩=>?_;subst ey eh;obtain ⟨t,rfl⟩:=r2;have I4:Inv X pins σ H2 { s2 with heap:=s2.heap.push { cls:=.type "slice",data:=.fields #[.none,.none,.int (-1) t] } }:=I2.kept (t':=s2.toks) fun b ob q=>Z2 _ q;obtain ⟨its,r,ht,hz⟩:=I4.list hx;have hlen:=r.length;refine tail_any (ops:=[.ref a,.ref s2.heap.objs.size]) ht.isList.typeIs slot_list_getitem.lookup ?_ (by with_unfolding_all rfl);refine wpAny_getItem_list_slice ht.isList (Heap.IsSliceOf.new ..) .none .none (.int _ _) (by decide) ?_ (by rw [Zb];omega);rw [PySem.W.krv_pick];exact ⟨.ref _,_,I4.laid (t':=s2.toks) (o:=.lst xs.reverse) (fun b ob q=>Z2 _ q) (Z5 _) ⟨by rw [List.length_reverse];exact hz,_,0,r.reverse,Zg _ rfl⟩,rfl,q _ (I4.hok.fresh (Z5 _))⟩
end
end L2
namespace L2
open PySem PySem.Spec PyProof.Rows
noncomputable def Kept (h h':Heap):Prop:=∀ b o,h.get? b=some o→h'.get? b=some o
theorem Kept.trans {a b c:Heap} (x:Kept a b) (y:Kept b c):Kept a c:=fun p o e=>y p o (x p o e)
theorem Kept.push (h:Heap) (o:Obj):Kept h (h.push o):=fun _ _ e=>Z2 _ e
theorem Kept.same {g h h':Heap}{a:Addr} (k:Kept g h) (ha:g.objs.size≤a) (sb:Heap.SameBut a h h'):Kept g h':=fun b o e =>
 (sb.2 b (Zc (Z7 (Z8 e) ha))).trans (k b o e)
theorem Kept.but {g h h':Heap}{a:Addr} (k:Kept g h) (ha:g.objs.size≤a) (sb:∀ b o,b∉[a]→h.get? b=some o→h'.get? b=some o):Kept g h':=fun b o e =>
 sb b o (fun z=>Zc (Z7 (Z8 e) ha) (List.mem_singleton.mp z)) (k b o e)
noncomputable def ltS (a b:Str):Prop:=a.cps.toList < b.cps.toList
noncomputable instance (a b:Str):Decidable (ltS a b):=inferInstanceAs (Decidable (a.cps.toList < b.cps.toList))
theorem ltS_trans {a b c:Str} (x:ltS a b) (y:ltS b c):ltS a c:=List.lt_trans x y
section
variable {P:Program}{w:World}{A:Around}{E:Value→Shared→Prop}{z:Shared}{g:Heap}{l q I S:Addr}{vs:List Value}{R:Result→Shared→Prop}
noncomputable def KeyEnd (z:Shared) (h:Heap) (k:Str) (u:Value) (y:Shared):Prop:=∃ (h':Heap) (tk':Nat) (t:Tok),u=.str k t∧y={ z with heap:=h',toks:=tk' }∧Kept h h'
theorem min_loop (ks:Nat→Str) (hh:A.handled=none) (hl:g.IsList l vs.toArray) (hI:g.objs.size≤I) (hS:g.objs.size≤S) (ne:S≠I)
  (turn:∀ i v,vs[i]? = some v→∀ (h:Heap) (tk:Nat),Kept g h→wpAny (model P w) A.in1 (call (.ref q) [v]) (KeyEnd z h (ks i)) (fun _ _=>False) { z with heap:=h,toks:=tk })
  (fin:∀ i v h tk,vs[i]? = some v→(∀ j,j < vs.length→¬ ltS (ks j) (ks i))→Kept g h→R (.ok (.ret v)) { z with heap:=h,toks:=tk }) :
  ∀ (r j i:Nat) (h:Heap) (tk:Nat) (b:Value) (t:Tok) (n:Nat),vs.length - (j + 1)=r→j + 1≤vs.length→Kept g h→h.get? S=some (seqObj "list" #[b,.str (ks i) t] n)→h.IsListIter I l (j + 1) →
   vs[i]? = some b→i≤j→(∀ k,k≤j→¬ ltS (ks k) (ks i))→codeAny (model P w) A (.builtin "min.loop" ⟨[.ref I,.ref q,.ref S],[]⟩) R { z with heap:=h,toks:=tk }:=by
 have nm:(toString "min"++toString ".loop" : String) = "min.loop":=by decide
 have hlI:l≠I:=by
  obtain ⟨o,e,_⟩:=hl;exact Zc (Z7 (Z8 e) hI)
 have W:=Walks.list (prog:=P) (w:=w) (A:=A.in1) hh I l hlI vs.toArray;have sz:vs.toArray.size=vs.length:=by simp
 have lst:∀ {h},Kept g h→h.IsList l vs.toArray:=fun {h} k=>by
  obtain ⟨o,e,r⟩:=hl;exact ⟨o,k _ _ e,r⟩
 intro r
 induction r with
 | zero =>
  intro j i h tk b t n hr hj k hs it hb hij best;have hin:j + 1=vs.length:=by omega
  refine codeAny_builtin PySem.F.entry_min_loop ?_;rw [Around.under_plainId PySem.F.plain_min_loop _];show wpAny _ A.in1 (seqItems? (Value.ref S) >>= _) _ _ _;refine wpAny_bind (wpAny_seqItems hs rfl ?_);show wpAny _ A.in1 (tryCatch (pyNext (Value.ref I)) _ >>= _) _ _ _;refine wpAny_bind (wpAny_tryCatch (W.done _ _ _ ⟨by rw [sz,← hin];exact it,lst k⟩ fun h1 tk1 k1=>?_));have e1:=k1 S _ (by simpa using ne) hs;show wpAny _ A.in1 (updateSeq S (fun _=>(#[]:Array Value)) >>= _) _ _ _;refine wpAny_bind (wpAny_updateSeq e1 rfl (wpAny_bind (wpAny_letGo (wpAny_pure ?_))));exact fin i b _ _ hb (fun k' hk=>best k' (by omega)) ((k.but hI k1).same hS (Heap.SameBut.update h1 S _))
 | succ r ih =>
  intro j i h tk b t n hr hj k hs it hb hij best;have hlt:j + 1 < vs.length:=by omega
  refine codeAny_builtin PySem.F.entry_min_loop ?_;rw [Around.under_plainId PySem.F.plain_min_loop _];show wpAny _ A.in1 (seqItems? (Value.ref S) >>= _) _ _ _;refine wpAny_bind (wpAny_seqItems hs rfl ?_);show wpAny _ A.in1 (tryCatch (pyNext (Value.ref I)) _ >>= _) _ _ _;refine wpAny_bind (wpAny_tryCatch (W.item (j + 1) _ _ _ (by rw [sz];exact hlt) ⟨it,lst k⟩ fun v h1 tk1 hp st k1=>?_));have hv:vs[j + 1]? = some v:=by simpa using hp
  have e1:=k1 S _ (by simpa using ne) hs;have kg:=k.but hI k1;show wpAny _ A.in1 (tryCatch (holding [v] (call (Value.ref q) [v])) _ >>= _) _ _ _;refine wpAny_bind (wpAny_tryCatch (wpAny_holding (wpAny_mono (turn (j + 1) v hv h1 tk1 kg) (fun u y he=>?_) fun _ _ f=>f.elim)));obtain ⟨h2,tk2,t2,rfl,rfl,k2⟩:=he;have e2:=k2 S _ e1;have it2:h2.IsListIter I l (j + 1 + 1):=st.1.at fun o e=>k2 _ _ e;have kg2:=kg.trans k2;show wpAny _ A.in1 (tryCatch (holding [v,Value.str (ks (j + 1)) t2] (richCompare .Lt (Value.str (ks (j + 1)) t2) (Value.str (ks i) t) >>= _)) _ >>= _) _ _ _;refine wpAny_bind (wpAny_tryCatch (wpAny_holding (wpAny_bind (show wpAny _ _ (compareOp .Lt (Value.str (ks (j + 1)) t2) (Value.str (ks i) t)) _ _ _ from lt_str ?_))));refine wpAny_bind (wpAny_holding (wpAny_truthy_bool ?_));refine wpAny_bind (wpAny_letGo (wpAny_pure ?_));by_cases c:ltS (ks (j + 1)) (ks i)
  ·have c':(ks (j + 1)).cps.toList < (ks i).cps.toList:=c;obtain ⟨n2,g2⟩:∃ n2,(h2.update S (Obj.mapSeq fun _=>#[v,Value.str (ks (j + 1)) t2])).get? S=some (seqObj "list" #[v,Value.str (ks (j + 1)) t2] n2):=⟨_,get?_update_seq e2 fun _=>#[v,Value.str (ks (j + 1)) t2]⟩;have s2:=Heap.SameBut.update h2 S (Obj.mapSeq fun _=>#[v,Value.str (ks (j + 1)) t2]);simp only [c',decide_true,if_true];refine wpAny_bind (wpAny_updateSeq e2 rfl (wpAny_bind (wpAny_letGo ?_)));rw [nm];refine wpAny_pure ⟨plainId_quiet PySem.F.plain_min_loop _,ih (j + 1) (j + 1) _ _ v t2 n2 (by omega) hlt (kg2.same hS s2) g2 (it2.at fun o e=>(s2.2 I (Ne.symm ne)).trans e) hv (Z5 _) fun k' hk=>?_⟩;by_cases e:k'=j + 1
   ·subst e;exact fun z=>List.lt_irrefl _ z
   ·exact fun z=>best k' (by omega) (ltS_trans z c)
  ·have c':¬ (ks (j + 1)).cps.toList < (ks i).cps.toList:=c;simp only [c',decide_false,Bool.false_eq_true,if_false];refine wpAny_bind (wpAny_letGo ?_);rw [nm];refine wpAny_pure ⟨plainId_quiet PySem.F.plain_min_loop _,ih (j + 1) i _ _ b t n (by omega) hlt kg2 e2 it2 hb (by omega) fun k' hk=>?_⟩;by_cases e:k'=j + 1
   ·subst e;exact c
   ·exact best k' (by omega)
theorem min_key {Q:Value→Shared→Prop} (ks:Nat→Str) (hh:A.handled=none) (hl:z.heap.IsList l vs.toArray) (h0:0 < vs.length)
  (turn:∀ i v,vs[i]? = some v→∀ (h:Heap) (tk:Nat),Kept z.heap h→wpAny (model P w) A.in1 (call (.ref q) [v]) (KeyEnd z h (ks i)) (fun _ _=>False) { z with heap:=h,toks:=tk })
  (fin:∀ i v h tk,vs[i]? = some v→(∀ j,j < vs.length→¬ ltS (ks j) (ks i))→Kept z.heap h→Q v { z with heap:=h,toks:=tk }) :
  wpAny (model P w) A (call (.builtin "min") [.ref l] [(Str.ofString "key",.ref q)]) Q E z:=by
 have nm:(toString "min"++toString ".loop" : String) = "min.loop":=by decide
 refine kmk_tree PySem.F.kind_min PySem.F.plain_min PySem.F.entry_min (kmk_min_key _ _) ?_;show wpAny _ A.in1 (Builtin.Builtins.bindParams "min" ["key", "default"] 0 ⟨[],[(Str.ofString "key",Value.ref q)]⟩ >>= _) _ _ z;refine wpAny_bind (wpAny_of_eq (show Builtin.Builtins.bindParams "min" ["key", "default"] 0 ⟨[],[(Str.ofString "key",Value.ref q)]⟩=pure [some (Value.ref q),none] from rfl) ?_);refine wpAny_bind (wpAny_pure (wpAny_bind (wpAny_pyIter_list hl (wpAny_bind (wpAny_newList ?_ (Zz _))))));rw [nm];refine wpAny_pure ⟨plainId_quiet PySem.F.plain_min_loop _,?_⟩
 let oI:Obj:={ cls:=.type "list_iterator",data:=.fields #[.ref l,.int 0 0] }
 have sz1:(z.heap.push oI).objs.size=z.heap.objs.size + 1:=Yq ..;have gI:((z.heap.push oI).push (seqObj "list" #[] 0)).get? z.heap.objs.size=some oI:=Z2 _ (Zg _ rfl);have gS:((z.heap.push oI).push (seqObj "list" #[] 0)).get? (z.heap.push oI).objs.size=some (seqObj "list" #[] 0):=Zg _ rfl;have kk:Kept z.heap ((z.heap.push oI).push (seqObj "list" #[] 0)):=(Kept.push _ _).trans (Kept.push _ _);have hI:z.heap.objs.size≤z.heap.objs.size:=Z5 _;have hS:z.heap.objs.size≤(z.heap.push oI).objs.size:=by rw [sz1];exact Nat.le_succ _
 have ne:(z.heap.push oI).objs.size≠z.heap.objs.size:=by rw [sz1];exact Nat.succ_ne_self _
 have hlI:l≠z.heap.objs.size:=by
  obtain ⟨o,e,_⟩:=hl;exact Zc (Z8 e)
 have W:=Walks.list (prog:=P) (w:=w) (A:=A.in1) hh z.heap.objs.size l hlI vs.toArray;have sz:vs.toArray.size=vs.length:=by simp
 have lst:∀ {h},Kept z.heap h→h.IsList l vs.toArray:=fun {h} k=>by
  obtain ⟨o,e,r⟩:=hl;exact ⟨o,k _ _ e,r⟩
 refine codeAny_builtin PySem.F.entry_min_loop ?_;rw [Around.under_plainId PySem.F.plain_min_loop _];show wpAny _ A.in1 (seqItems? (Value.ref (z.heap.push oI).objs.size) >>= _) _ _ _;refine wpAny_bind (wpAny_seqItems gS rfl ?_);show wpAny _ A.in1 (tryCatch (pyNext (Value.ref z.heap.objs.size)) _ >>= _) _ _ _;refine wpAny_bind (wpAny_tryCatch (W.item 0 _ _ _ (by rw [sz];exact h0) ⟨⟨_,gI,rfl,rfl⟩,lst kk⟩ fun v h1 tk1 hp st k1=>?_));have hv:vs[0]? = some v:=by simpa using hp
 have e1:=k1 _ _ (by simpa using ne) gS;have kg:=kk.but hI k1;show wpAny _ A.in1 (tryCatch (holding [v] (call (Value.ref q) [v])) _ >>= _) _ _ _;refine wpAny_bind (wpAny_tryCatch (wpAny_holding (wpAny_mono (turn 0 v hv h1 tk1 kg) (fun u y he=>?_) fun _ _ f=>f.elim)));obtain ⟨h2,tk2,t2,rfl,rfl,k2⟩:=he;have e2:=k2 _ _ e1;have s2:=Heap.SameBut.update h2 (z.heap.push oI).objs.size (Obj.mapSeq fun _=>#[v,Value.str (ks 0) t2]);obtain ⟨n2,g2⟩:∃ n2,(h2.update (z.heap.push oI).objs.size (Obj.mapSeq fun _=>#[v,Value.str (ks 0) t2])).get? (z.heap.push oI).objs.size=some (seqObj "list" #[v,Value.str (ks 0) t2] n2):=⟨_,get?_update_seq e2 fun _=>#[v,Value.str (ks 0) t2]⟩;show wpAny _ A.in1 (updateSeq (z.heap.push oI).objs.size (fun _=>#[v,Value.str (ks 0) t2]) >>= _) _ _ _;refine wpAny_bind (wpAny_updateSeq e2 rfl ?_);rw [nm];refine wpAny_pure ⟨plainId_quiet PySem.F.plain_min_loop _,min_loop ks hh hl hI hS ne turn fin _ 0 0 _ _ v t2 n2 rfl h0 ((kg.trans k2).same hS s2) g2 ((st.1.at fun o e=>k2 _ _ e).at fun o e=>(s2.2 _ (Ne.symm ne)).trans e) hv (Z5 _) fun k' hk=>?_⟩;have:k'=0:=by omega
 subst this;exact fun z=>List.lt_irrefl _ z
end
end L2
namespace L2
open PySem PySem.Spec PyProof.Rows
noncomputable def CodeO (c:Addr) (q:Str):HO:=.ext fun h=>h.CodeRec (.ref c) q
noncomputable def TabOk (H:Hp) (P:Addr) (pos:Pos) (q:Str):Prop:=H P=some (.tbl #[])∨∃ c,H P=some (.tbl #[rawInt pos.line,rawInt pos.col,.ref c])∧H c=some (CodeO c q)
noncomputable def GrownBut (P:Addr) (H H':Hp):Prop:=∀ b o,H b=some o→b≠P→H' b=some o
theorem TabOk.ne {H:Hp}{P:Addr}{pos:Pos}{q:Str} (T:TabOk H P pos q) {a:Addr}{o:HO} (e:H a=some o) (h:∀ ps,o≠.tbl ps):a≠P:=by
 rintro rfl;rcases T with z | ⟨c,z,_⟩ <;> rw [e] at z <;> exact h _ (Zi z)
theorem TabOk.stay {H H':Hp}{P:Addr}{pos:Pos}{q:Str} (T:TabOk H P pos q) (k:∀ b o,H b=some o→H' b=some o):TabOk H' P pos q:=by
 rcases T with z | ⟨c,z,y⟩
 ·exact .inl (k _ _ z)
 ·exact .inr ⟨c,k _ _ z,k _ _ y⟩
theorem TabOk.but {H H':Hp}{P:Addr}{pos:Pos}{q:Str}{p:Addr}{u:HO} (T:TabOk H P pos q) (hp:H p=some u) (h1:∀ ps,u≠.tbl ps) (h2:∀ f,u≠.ext f) (k:∀ b o,H b=some o→b≠p→H' b=some o):TabOk H' P pos q:=by
 have n1:=T.ne hp h1;rcases T with z | ⟨c,z,y⟩
 ·exact .inl (k _ _ z (Ne.symm n1))
 ·refine .inr ⟨c,k _ _ z (Ne.symm n1),k _ _ y ?_⟩;rintro rfl;rw [hp] at y;exact h2 _ (Zi y)
noncomputable def BltAt (mg:Str→Option Value) (base:Heap):Prop:=∃ (bm:Addr) (ob:Obj),mg "__builtins__" = some (.ref bm)∧bm≠builtinsNs∧bm≠mainGlobals∧base.get? bm=some ob∧ob.cls=.type "module"∧ob.dict=some builtinsNs∧ob.data=.plain
structure LamTxt (K:PySem.W.Frag) (mg:Str→Option Value) (base:Heap) (c P:Addr):Prop where
 hd:PySem.W.codeHdIn K c P=true
 blt:BltAt mg base
section
variable {X:Cx}{pins:List (Addr×Obj)}{σ : St}{H:Hp}{s:Shared}{A:Around}{E:Value→Shared→Prop}
theorem zCh {c:Addr}{q:Str}:∀ h1 h2:Heap,h1.CodeRec (.ref c) q→(∀ o,h1.get? c=some o→h2.get? c=some o)→h2.CodeRec (.ref c) q:=fun h1 h2 ⟨c',o,vs,t,e,ho,r⟩ k=>by
 cases e;exact ⟨c,o,vs,t,rfl,k o ho,r⟩
theorem lam_made {params:Arguments}{body:Expr}{scope:Scope}{pos:Pos}{c P:Addr}{q:Str}{Q:Value→Shared→Prop} (I:Inv X pins σ H s) (T:LamTxt X.K X.mg X.base c P) (hcode:X.env.code=.ref c) (hq:X.env.qual++"<lambda>" = q)
  (hcl:closureFor scope X.env=pure []) (hdef:defaultsOf params X.env=([],[])) (W:TabOk H P pos q)
  (h:∀ (H':Hp) (s':Shared) (f c':Addr) (pm ctv:Value),Inv X pins σ H' s'→s'.heap.get? f=some (PySem.W.kla_obj "<lambda>" q params body scope [] pm c' ctv)→s'.heap.CodeRec (.ref c') q→TabOk H' P pos q→GrownBut P H H'→Q (.ref f) s') :
  wpAny (model X.prog X.w) A (eval (.Lambda params body scope pos) X.env) Q E s:=by
 subst hq;refine PySem.W.kla_eval hdef ?_;obtain ⟨bm,ob,e1,e3,e4,e2,e5,e6,e7⟩:=T.blt;have hbP:bm≠P:=by
  rintro rfl;have:=(I.bs _ _ e2).2;rcases W with z | ⟨c',z,_⟩ <;> rw [this] at z <;> cases z
 have hb:s.heap.BuiltinsAt X.mg P:=⟨bm,ob,e1,e3,e4,hbP,I.bk _ _ e2,e5,e6,e7⟩;have hg:=I.mod.glob.keeps I.bk;have C:=PySem.W.codeHd_of_K I.kIn T.hd;have tab:∀ {ps},H P=some (.tbl ps)→s.heap.get? P=some (PySem.W.tabObj ps):=fun {ps} e=>I.hok P _ e;have hgP:mainGlobals≠P:=by
  rintro rfl;obtain ⟨o,es,ep,ho,hd,_⟩:=hg;rcases W with z | ⟨c',z,_⟩ <;> (rw [tab z] at ho;cases ho;cases hd)
 rcases W with z | ⟨c',z,y⟩
 ·refine PySem.W.kla_makeFunction hcl I.ok.glob hg hcode C (tab z) trivial rfl hgP hb fun c' ctv h' tk hx hge hlt hrec htb=>?_;have fc:H c'=none:=I.hok.fresh hge;have nP:c'≠P:=Ne.symm (zA5 z fc)
  let H':Hp:=upd (upd H P (.tbl #[rawInt pos.line,rawInt pos.col,.ref c'])) c' (CodeO c' (X.env.qual++"<lambda>"))
  have hP':H' P=some (.tbl #[rawInt pos.line,rawInt pos.col,.ref c']):=by show upd _ _ _ _=_;rw [zAa (Ne.symm nP),zA1]
  have hc':H' c'=some (CodeO c' (X.env.qual++"<lambda>")):=zA1;have gr:∀ b o,H b=some o→b≠P→H' b=some o:=fun b o e nb=>by
   show upd _ _ _ _=_;rw [zAa (zA5 e fc),zAa nb];exact e
  have I1:Inv X pins σ H' { s with heap:=h',toks:=tk }:=by
   refine I.step (g':=s.gens) (d':=s.drawn) (ch:=[]) (fun _ m=>nomatch m) (fun b o _ _ _ e n=>hx b o (Ne.symm (zA5 z n)) e) (fun b o _ _ _ e n=>⟨o.slots,hx b o (Ne.symm (zA5 z n)) e⟩) (fun b o _ e n=>?_) (fun b o _ e=>?_)
    (fun b xs e=>gr b _ e fun k=>by subst k;rw [z] at e;cases e) (fun b o u e=>gr b _ e fun k=>by subst k;rw [z] at e;cases e) (fun b ps e=>?_) (fun m hm=>?_) (fun b u e=>?_) I.bare
   ·show upd _ _ _ _=_;rw [zAa (Zc (Z7 (Z8 e) hge)),zAa (Ne.symm (zA5 z n))];exact n
   ·by_cases k:b=P
    ·subst k;exact ⟨_,htb⟩
    ·exact ⟨o,hx b o k e⟩
   ·by_cases k:b=P
    ·subst k;rw [z] at e;cases e;exact ⟨#[rawInt pos.line,rawInt pos.col,.ref c'],by rw [hP'];rfl⟩
    ·exact ⟨#[],by rw [gr b _ e k];simp⟩
   ·exact hm.extBut hx fun k=>by have:=I.free;rw [k,z] at this;cases this
   ·by_cases k1:b=c'
    ·subst k1;rw [hc'] at e;cases e;obtain ⟨_,o,_,_,e',ho,_⟩:=id hrec;cases e';exact ⟨hrec,⟨o,ho⟩,zCh⟩
    ·by_cases k2:b=P
     ·subst k2;rw [hP'] at e;cases e;exact htb
     ·have e':H b=some u:=by
       have e2:upd (upd H P _) c' _ b=some u:=e
       rwa [zAa k1,zAa k2] at e2
      refine (I.hok b u e').stay (fun d v hd' r=>hx d v ?_ r) (fun d r=>gr d _ r ?_) fun d xs r=>gr d _ r ?_
      ·rcases hd' with k | k
       ·rw [k];exact k2
       ·rintro rfl;rw [z] at k;cases k
      ·rintro rfl;rw [z] at r;cases r
      ·rintro rfl;rw [z] at r;cases r
  have I2:Inv X pins σ H' { s with heap:=h'.push _,toks:=tk }:=I1.kept (t':=tk) (h':=h'.push (PySem.W.kla_obj "<lambda>" (X.env.qual++"<lambda>") params body scope [] ((X.mg "__name__").getD .none) c' ctv)) fun b u e=>Z2 _ e;refine h H' _ h'.objs.size c' ((X.mg "__name__").getD .none) ctv I2 (Zg _ rfl) ?_ (.inr ⟨c',hP',hc'⟩) gr;exact zCh h' _ hrec fun o e=>Z2 _ e
 ·refine PySem.W.kla_makeFunctionHit (cv:=.ref c') hcl I.ok.glob hg hcode C (tab z) trivial ?_ hb fun ctv h' tk kk sz=>?_
  ·simp [codeAmong,rawInt]
  ·have I2:Inv X pins σ H { s with heap:=h'.push _,toks:=tk }:=I.kept (t':=tk) (h':=h'.push (PySem.W.kla_obj "<lambda>" (X.env.qual++"<lambda>") params body scope [] ((X.mg "__name__").getD .none) c' ctv)) fun b u e=>Z2 _ (kk b u e);refine h H _ h'.objs.size c' ((X.mg "__name__").getD .none) ctv I2 (Zg _ rfl) ?_ (.inr ⟨c',z,y⟩) fun b o e _=>e;obtain ⟨hr,_,_⟩:=I.hok c' _ y;exact zCh s.heap _ hr fun o e=>Z2 _ (kk _ _ e)
end
structure LamSc (scope:Scope) (x:Str):Prop where
 co:scope.isCoroutine=false
 gen:scope.isGenerator=false
 kind:scope.kind=.function
 cell:∀ y∈scope.names,y.2≠.cell
 loc:scope.names.lookup x=some .local
section
variable {P:Program}{w:World}{A:Around}{z:Shared}
theorem lam_fld {f c':Addr}{nm q x fld k:Str}{params:Arguments}{p1 p2:Pos}{scope:Scope}{pm ctv v:Value} (ho:z.heap.get? f=some (PySem.W.kla_obj nm q params (.Attribute (.Name x p1) fld p2) scope [] pm c' ctv)) (hc:z.heap.CodeRec (.ref c') q)
  (hroom:A.depth < recursionLimit) (hlim:z.heap.NoLimit) (hb:bindArgs (PySem.W.kla_fn nm q params (.Attribute (.Name x p1) fld p2) scope [] pm (.ref c') ctv) ⟨[v],[]⟩=pure [(x,v)]) (S:LamSc scope x) (hx:(x == ("__debug__" : Str))=false)
  (hat:∀ env:Env,attributeBase (.Name x p1) fld env (eval (.Name x p1) env)=eval (.Name x p1) env)
  (hget:∀ (A':Around) (E':Value→Shared→Prop) (h:Heap) (tk:Nat),Kept z.heap h→wpAny (model P w) A' (getAttr v fld true) (fun u y=>∃ t tk',u=.str k t∧y={ z with heap:=h,toks:=tk' }) E' { z with heap:=h,toks:=tk }) :
  wpAny (model P w) A (call (.ref f) [v]) (KeyEnd z z.heap k) (fun _ _=>False) z:=by
 refine wpAny_call (PySem.W.kla_callFunE hroom ho rfl S.co S.gen rfl hc ?_);rw [hb];refine wpAny_pure (wpAny_newFunctionEnv S.cell (fun y hy=>by rw [List.mem_singleton.mp hy];exact S.loc) (fun h1 hns hsb=>?_) S.kind);have kk:Kept z.heap h1:=fun b o e=>(hsb.2 b (Zc (Z8 e))).trans (Z2 _ e);refine ⟨hlim.keeps kk,PySem.W.kla_codeExpr (attr_of (hat _) (wpAny_Name (wpAny_loadName_local S.kind S.loc hns (v:=v) (by simp) ?_) hx))⟩;refine thn (hget _ _ h1 _ kk) fun u y ⟨t,tk',eu,ey⟩=>?_;exact ⟨h1,tk',t,eu,ey,kk⟩
end
noncomputable def tMinKey (K:PySem.W.Frag) (P:Addr) (pos:Pos) (q fld:Str) (ta:TA):TE:=fun σ H Q=>ta σ H fun vs H1=>∃ (l:Addr) (xs:List V) (ks:List Str),vs=[.ref l]∧SqL K H1 l xs∧0 < xs.length∧TabOk H1 P pos q∧ks.length=xs.length ∧
 (∀ (i:Nat) (v:V) (k:Str),xs[i]? = some v→ks[i]? = some k→∃ a C dx fs,v=.ref a∧H1 a=some (.ins C dx fs)∧Cls K C∧NoAttr K C fld∧fs.lookup fld=some (.str k)) ∧
 ∀ (i:Nat) (v:V) (k:Str) (H2:Hp),xs[i]? = some v→ks[i]? = some k→(∀ y∈ks,¬ ltS y k)→TabOk H2 P pos q→GrownBut P H1 H2→Q v H2
section
variable {X:Cx}
theorem zEj {e:Expr}{ta:TA}{x fld q:Str}{params:Arguments}{p p1 p2 lpos kpos pos:Pos}{scope:Scope}{c P:Addr} (T:LamTxt X.K X.mg X.base c P) (hcode:X.env.code=.ref c) (hr:Room 2 X.A) (hcm:X.calm=true) (hg:Gl X "min") (hm:X.mg "min" = none) (ha:PA X [e] ta)
  (S:LamSc scope x) (hq:X.env.qual++"<lambda>" = q:=by rfl) (hcl:closureFor scope X.env=pure []:=by rfl) (hdef:defaultsOf params X.env=([],[]):=by rfl)
  (hb:∀ (pm cd ctv v:Value),bindArgs (PySem.W.kla_fn "<lambda>" q params (.Attribute (.Name x p1) fld p2) scope [] pm cd ctv) ⟨[v],[]⟩=pure [(x,v)]:=by intros;rfl) (hx:(x == ("__debug__" : Str))=false:=by decide)
  (hat:∀ env:Env,attributeBase (.Name x p1) fld env (eval (.Name x p1) env)=eval (.Name x p1) env:=by intros;rfl)
  (he:backTo pos (starEach [e] X.env)=(false,eval e X.env) :: backTo pos (starEach [] X.env):=by rfl) (hpl:(backTo pos (starEach [e] X.env)).any (·.1)=false:=by rfl) :
  PE X (.Call (.Name "min" p) [e] [⟨some "key",.Lambda params (.Attribute (.Name x p1) fld p2) scope lpos,kpos⟩] pos) (tMinKey X.K P lpos q fld ta):=by
 intro pins s σ H Q I h;refine wpAny_Call_Name_kw (zEu I hg hm PyProof.Rows.boot_min ?_);refine PyProof.Rows.callWith_kw (thn (ha pos pins s σ H _ I h) fun us s1 ⟨vs,H1,I1,r1,q1⟩=>?_) he hpl rfl rfl;obtain ⟨l,xs,ks,rfl,hl,h0,W,hlen,hat1,fin⟩:=q1;obtain ⟨u,rfl,ru⟩:=v1 r1;cases (show u=Value.ref l from ru);refine PyProof.Rows.evalAll_cons (wpAny_bind (lam_made I1 T hcode hq hcl hdef W fun H2 s2 f c' pm ctv I2 ho hrec W2 gr=>wpAny_bind (wpAny_standAt (wpAny_pure ?_))));refine PyProof.Rows.evalAll_nil ?_;have hlP:SqL X.K H2 l xs:=by
  rcases hl with (z | ⟨o,z⟩) | z
  ·exact .inl (.inl (gr _ _ z (W.ne z (fun _ k=>nomatch k))))
  ·exact .inl (.inr ⟨o,gr _ _ z (W.ne z (fun _ k=>nomatch k))⟩)
  ·exact .inr z
 obtain ⟨its,rv,pl,_⟩:=I2.list hlP;have il:=rv.length;refine min_key (vs:=its) (fun i=>ks.getD i Str.empty) (I2.ok.hd hcm) pl.isList (by omega) (fun i v hv h tk kk=>?_) fun i v h tk hv hbest kk=>?_
 ·have hi:i < its.length:=(List.getElem?_eq_some_iff.mp hv).1;obtain ⟨y,hy⟩:∃ y,xs[i]? = some y:=⟨_,Z1 (by omega)⟩;obtain ⟨k,hk⟩:∃ k,ks[i]? = some k:=⟨_,Z1 (by omega)⟩;obtain ⟨u,hu,ry⟩:=rv.get hy;rw [hv] at hu;cases hu;obtain ⟨a,C,dx,fs,rfl,ea,cc,nn,lf⟩:=hat1 i y k hy hk;cases (show v=Value.ref a from ry);have ek:ks.getD i Str.empty=k:=by simp [hk]
  show wpAny _ _ _ (KeyEnd s2 h (ks.getD i Str.empty)) _ _;rw [ek];have I3:Inv X pins σ H2 { s2 with heap:=h,toks:=tk }:=I2.kept (t':=tk) kk;have ea2:H2 a=some (.ins C dx fs):=gr _ _ ea (W.ne ea (fun _ k=>nomatch k));refine lam_fld (z:={ s2 with heap:=h,toks:=tk }) (kk _ _ ho) (zCh _ _ hrec fun o e=>kk _ _ e) hr.in1.depth I3.nolimit (hb _ _ _ _) S hx hat fun A' E' h2 tk2 k2=>?_;have I4:Inv X pins σ H2 { s2 with heap:=h2,toks:=tk2 }:=I3.kept (t':=tk2) k2;obtain ⟨mA,O,r,_,_,_⟩:=zEx I4.hok ea2;obtain ⟨w',hw,rw'⟩:=RelO.some_of (v:=V.str k) (o:=mA fld) (by rw [← lf];exact r fld);obtain ⟨t,rfl⟩:=rw';exact get_map I4.kIn O (cc.get fld) cc.hd nn hw rfl ⟨t,_,rfl,rfl⟩
 ·have hi:i < its.length:=(List.getElem?_eq_some_iff.mp hv).1;obtain ⟨y,hy⟩:∃ y,xs[i]? = some y:=⟨_,Z1 (by omega)⟩;obtain ⟨k,hk⟩:∃ k,ks[i]? = some k:=⟨_,Z1 (by omega)⟩;obtain ⟨u,hu,ry⟩:=rv.get hy;rw [hv] at hu;cases hu;have ek:ks.getD i Str.empty=k:=by simp [hk]
  refine ⟨y,H2,I2.kept (t':=tk) kk,ry,fin i y k H2 hy hk (fun y' hy'=>?_) W2 gr⟩;obtain ⟨j,hj,ej⟩:=Y1 hy';have:=hbest j (by omega);rw [ek] at this;have e2:ks.getD j Str.empty=y':=by simp [Z1 hj,ej]
  rw [e2] at this;exact this
end
end L2
namespace L2
open PySem PySem.Spec PyProof.Rows
theorem blt_of {p:Program}{loose:List Str}{mean:ExcName→Option Value}{mg mb:Str→Option Value}{h:Heap} (T:PyProof.Rows.Top p loose mean mg mb h):BltAt mg h:=by
 obtain ⟨bm,ob,b1,b2,b3,b4,b5,b6⟩:=T.bmain;refine ⟨bm,ob,b1,b2,fun q=>?_,b3,b4,b5,b6⟩;obtain ⟨o,es,ep,e,hd,_⟩:=T.g;rw [q,e] at b3;cases b3;rw [hd] at b6;cases b6
end L2
namespace L2
open PySem PySem.Spec PyProof.Rows
noncomputable def Ite (K:PySem.W.Frag) (a:Addr):It :=
 ⟨fun i H=>∃ xs x,SqL K H a xs∧xs[i]? = some x,
  fun i H v H'=>∃ p x,v=.ref p∧H p=none∧H'=upd H p (.tup [.int (i:Nat),x])∧∀ xs,SqL K H a xs→xs[i]? = some x,
  fun i H=>∃ xs,SqL K H a xs∧xs.length≤i⟩
theorem turn_enum {P:Program}{w:World}{K:PySem.W.Frag}{es:List Expr}{x1:_}{pos:Pos}{l e it:Addr} (D:e≠it) :
  Turn P w K (.Tuple es x1 pos) (Ite K l) [e,it] e (fun i h=>(∃ old,IsEnum h e it ((i:Nat):Int) old)∧h.IsListIter it l i) where
 mem:=by simp
 obj:=fun i h st b hb=>by
  obtain ⟨⟨old,h1⟩,⟨o4,h4,_,d4⟩⟩:=st;simp only [Zj,Zf,or_false] at hb;rcases hb with rfl | rfl
  ·exact ⟨_,h1,fun v q=>by cases (show Data.fields _=Data.cell v from q)⟩
  ·exact ⟨_,h4,fun v q=>by rw [d4] at q;cases q⟩
 keep:=fun i h h' st k=>by
  obtain ⟨⟨old,h1⟩,h4⟩:=st;exact ⟨⟨old,k e (by simp) _ h1⟩,h4.at fun o q=>k it (by simp) o q⟩
 item:=by
  intro X hP hw hK hc i pins s σ H E I hf st hg;subst hP hw hK;obtain ⟨⟨old,h1⟩,h4⟩:=st;obtain ⟨xs,x,qx,ex⟩:=hg;obtain ⟨its,rx,px,_⟩:=I.list qx;obtain ⟨u,hu,ru⟩:=rx.get ex;refine wpAny_pyNext_enum_item h1 h4 px.isList (x:=u) (by simpa using hu) D fun h' a1 a2 a3 a4 a5=>?_;refine ⟨_,rfl,wpAny_letOwnedTupleGo_enum a1 fun h2' b1 sb=>?_⟩;have ne:s.heap.objs.size≠e:=fun q=>by have:=Z8 h1;rw [← q] at this;exact Y5 _ this
  have J:Inv X pins σ H { s with heap:=h2',toks:=s.toks + 1 }:=I.turns (t':=s.toks + 1) (ch:=[e,it]) (fun b o hb q=>by
   simp only [Zj,Zf,or_false,not_or] at hb
   exact (sb.2 b hb.1).trans (a5 b o hb.1 hb.2 q)) hf
  have gT:h2'.get? s.heap.objs.size=some { cls:=.type "tuple",data:=.seq #[.int (i:Nat) s.toks,u] }:=(sb.2 _ ne).trans a3;have fT:H s.heap.objs.size=none:=I.hok.fresh (Z5 _)
  have J2:Inv X pins σ (upd H s.heap.objs.size (.tup [.int (i:Nat),x])) { s with heap:=h2',toks:=s.toks + 1 }:=J.adopt fT I.sz (Yp I.lt) (fun n c q=>by
    obtain ⟨w',q⟩:=I.cell n c q
    exact Zc q.lt) (fun p hp=>Zc (Z8 (I.pin p hp).1)) ⟨by show 2≤sizeLine;decide,[.int (i:Nat) s.toks,u],.cons ⟨_,rfl⟩ (.cons ru .nil),⟨_,gT,rfl,_,rfl⟩⟩
  refine ⟨.ref s.heap.objs.size,_,J2,rfl,⟨_,x,rfl,fT,rfl,fun zs hz=>by rw [I.list_inj hz qx];exact ex⟩,⟨⟨u,?_⟩,a2.at fun o q=>(sb.2 _ (Ne.symm D)).trans q⟩,fun b hb=>?_⟩
  ·have:(((i + 1:Nat)):Int)=(i:Int) + 1:=by push_cast;rfl
   rw [this];exact b1
  ·have hb':=(hf b hb).1;have:b≠s.heap.objs.size:=by
    rintro rfl;obtain ⟨o,q⟩:∃ o,s.heap.get? s.heap.objs.size=some o:=by
     simp only [Zj,Zf,or_false] at hb;rcases hb with q | q <;> rw [q]
     ·exact ⟨_,h1⟩
     ·obtain ⟨o,q,_⟩:=h4;exact ⟨o,q⟩
    exact Y5 _ (Z8 q)
   rw [zAa this];exact hb'
 done:=by
  intro X hP hw hK hc i pins s σ H E I hf st hg;subst hP hw hK;obtain ⟨⟨old,h1⟩,h4⟩:=st;obtain ⟨xs,qx,hend⟩:=hg;obtain ⟨its,rx,px,_⟩:=I.list qx;have e1:=rx.length;refine wpAny_pyNext_enum_end (I.ok.hd hc) h1 h4 px.isList (by simp;omega) fun h' kk=>⟨rfl,I.turns (t':=s.toks) (ch:=[e,it]) (fun b o hb q=>?_) hf⟩;simp only [Zj,Zf,or_false,not_or] at hb;exact kk b o hb.2 q
 self:=fun _ _ _ _ _ st h=>wpAny_pyIter_enum st.1.choose_spec h
noncomputable def iEnum (K:PySem.W.Frag) (ta:TA):TI:=fun σ H R=>ta σ H fun vs H1=>∃ a,vs=[.ref a]∧(∃ xs,SqL K H1 a xs)∧R (Ite K a) H1
section
variable {X:Cx}
theorem pi_enum {es:List Expr}{x1:_}{tp:Pos}{e1:Expr}{ta:TA}{p pos:Pos} (hg:Gl X "enumerate") (hm:X.mg "enumerate" = none) (ha:PA X [e1] ta) (hs:starEach [e1] X.env=[(false,eval e1 X.env)]:=by rfl) :
  PI X (.Tuple es x1 tp) (.Call (.Name "enumerate" p) [e1] [] pos) (iEnum X.K ta):=by
 intro pins s σ H R I h;refine Call_ (zEu I hg hm boot_enumerate (PyProof.Rows.callWith_type1 (thn (ha pos pins s σ H _ I h) fun us s1 ⟨vs,H1,I1,r1,q1⟩=>?_) hs rfl));obtain ⟨a,rfl,⟨xs,qx⟩,q⟩:=q1;obtain ⟨u,rfl,ru⟩:=v1 r1;cases (show u=Value.ref a from ru);obtain ⟨its,rx,px,_⟩:=I1.list qx;refine call_enumerate_list px.isList fun h' a1 a2 a3 a4=>wpAny_pyIter_enum a1 ?_;have I2:Inv X pins σ H1 { s1 with heap:=h' }:=I1.kept (t':=s1.toks) a4;refine ⟨s1.heap.objs.size + 1,[s1.heap.objs.size + 1,s1.heap.objs.size],_,_,H1,rfl,I2,turn_enum (Nat.succ_ne_self _),⟨⟨_,a1⟩,a2⟩,fun c hc=>?_,q⟩;have hc':s1.heap.objs.size≤c:=by
  simp only [Zj,Zf,or_false] at hc;rcases hc with q | q
  ·rw [q];exact Nat.le_succ _
  ·rw [q];exact Z5 _
 exact I1.fpOk hc' (I1.hok.fresh hc')
end
noncomputable def Froze (H:Hp) (d:Addr) (kvs:List (Key×V)) (H':Hp):Prop:=∃ o,H'=upd H d (.frz o (.dK kvs))
theorem Froze.at {H H':Hp}{d:Addr}{kvs:List (Key×V)} (z:Froze H d kvs H'):Rd H' d (.dK kvs):=by
 obtain ⟨o,rfl⟩:=z;exact .inr ⟨o,zA1⟩
theorem Froze.ne {H H':Hp}{d:Addr}{kvs:List (Key×V)} (z:Froze H d kvs H') {b:Addr} (h:b≠d):H' b=H b:=by
 obtain ⟨o,rfl⟩:=z;exact zAa h
section
variable {X:Cx}{pins:List (Addr×Obj)}{σ : St}{H:Hp}{s:Shared}{d:Addr}{kvs:List (Key×V)}
end
theorem KV.len {κ : Type}{kvs:List (κ×V)}{vs:List (κ×Value)} (h:KV kvs vs):kvs.length=vs.length:=Paired.length h
theorem key_rel {k:Key}{v:Value} (h:keyIs k v=true):RelV (kV k) v:=by
 rcases zAx h with ⟨i,t,rfl,rfl⟩ | ⟨x,t,rfl,rfl⟩
 ·exact ⟨t,rfl⟩
 ·exact ⟨t,rfl⟩
section
variable {X:Cx}{tg:Expr}
end
end L2
namespace L2
open PySem PySem.Spec PyProof.Rows
theorem lk_list_keys:typeLookup (.type "list") "keys" = pure none:=by rw [typeLookup_type,builtinLookup_eq_fast];kernel_rfl
theorem entry_dul:entryFor table "dict.update.loop" = some Builtin.«dict.update.loop»:=entryFor_of_tree (by kernel_rfl)
theorem zDb:plainId "dict.update.loop" = true:=by decide +kernel
section
variable {P:Program}{w:World}{A:Around}{E:Value→Shared→Prop}
theorem no_keys {s:Shared}{a:Addr}{o:Obj}{xs:Array Value}{k:Nat}{Q:Option Value→Shared→Prop} (hx:s.heap.get? a=some o) (hc:o.cls=.type "list") (hdat:o.data=.seq xs k) (hd:o.dict=none) (hA:A.handled=none)
  (h:∀ h' tk,Kept s.heap h'→Q none { s with heap:=h',toks:=tk }):wpAny (model P w) A (getAttr? (.ref a) "keys") Q E s:=by
 obtain ⟨c,dct,dat,sl⟩:=o;simp only at hc hdat hd;subst hc hdat hd;obtain ⟨hp,g,d,tk,os⟩:=s;have hT:∀ n,(⟨hp,g,d,n,os⟩:Shared).TypeIs (.ref a) "list":=fun _=>⟨_,hx,rfl⟩;have f1:=sub_AttributeError;have f3:=F.slot_list_getattribute.lookup;have f4:=F.slot_list_getattribute.bind (.ref a);have f5:=am_list_getattr_none;unfold getAttr? getAttrBy? getAttrBy
 repeat (any_goals (first | assumption | exact hT _ | ((with_reducible show wpAny _ _ (call (Value.builtin "list.__getattribute__") _ _) _ _ _);refine call_meets F.slot_list_getattribute (hT _) am_entry_list_getattribute (F.args_list_getattribute_2 _ _) (meets_getattribute_miss_list a xs k sl "keys" _ lk_list_keys (by decide) (by size_fits)) ⟨hx,hA,fun h' tk' e hx'=>?_⟩) | wp_step))
 obtain ⟨t',u',he⟩:=hx'.there;show wpAny _ _ (getattributeRaised _ _ _ _ _ _ _) _ _ _;unfold getattributeRaised hookOrError attributeErrorLeaves
 repeat (any_goals (first | assumption | wp_step))
 exact h _ _ hx'.of.keeps
theorem zGh {α : Type}{l:List α} (h:l.Nodup) {i j:Nat}{x : α} (a:l[i]? = some x) (b:l[j]? = some x):i=j:=by
 obtain ⟨h1,e1⟩:=List.getElem?_eq_some_iff.mp a;obtain ⟨h2,e2⟩:=List.getElem?_eq_some_iff.mp b;exact (List.getElem_inj h).mp (e1.trans e2.symm)
theorem pairs_loop {z:Shared}{g:Heap}{l I d:Addr}{its:List Value}{ps:List (Key×Value)}{R:Result→Shared→Prop} (hh:A.handled=none) (hl:g.IsList l its.toArray) (hI:g.objs.size≤I) (hd:g.objs.size≤d) (ne:d≠I) (hz:its.length≤sizeLine)
  (len:ps.length=its.length) (nd:(ps.map (·.1)).Nodup) (hp:∀ (i:Nat) (v:Value) (k:Key) (u:Value),its[i]? = some v→ps[i]? = some (k,u)→∃ (t:Addr) (y:Value),v=.ref t∧IsTup g t #[y,u]∧keyIs k y=true)
  (fin:∀ h tk,Kept g h→h.DictOf (mixKind P w) d ps→R (.ok (.ret .none)) { z with heap:=h,toks:=tk }) :
  ∀ (r i:Nat) (h:Heap) (tk:Nat),its.length - i=r→i≤its.length→Kept g h→h.DictOf (mixKind P w) d (ps.take i)→h.IsListIter I l i →
   codeAny (model P w) A (.builtin "dict.update.loop" ⟨[.ref d,.ref I,rawInt (i:Nat),.none],[]⟩) R { z with heap:=h,toks:=tk }:=by
 have hlI:l≠I:=by
  obtain ⟨o,e,_⟩:=hl;exact Zc (Z7 (Z8 e) hI)
 have W:=Walks.list (prog:=P) (w:=w) (A:=A.in1) hh I l hlI its.toArray;have sz:its.toArray.size=its.length:=by simp
 have lst:∀ {h},Kept g h→h.IsList l its.toArray:=fun {h} k=>by
  obtain ⟨o,e,r⟩:=hl;exact ⟨o,k _ _ e,r⟩
 have dk:∀ {h h':Heap}{q:List (Key×Value)},h.DictOf (mixKind P w) d q→(∀ b o,b∉[I]→h.get? b=some o→h'.get? b=some o)→h'.DictOf (mixKind P w) d q:=fun ⟨o,es,ep,e,r⟩ k=>⟨o,es,ep,k _ _ (by simpa using ne) e,r⟩;intro r
 induction r with
 | zero =>
  intro i h tk hr hi k hm it;have hin:i=its.length:=by omega
  subst hin;refine codeAny_builtin entry_dul ?_;rw [Around.under_plainId zDb _];show wpAny _ A.in1 (pyNext (Value.ref I) >>= _) _ _ _;refine wpAny_bind (W.done _ _ _ ⟨by rw [sz];exact it,lst k⟩ fun h1 tk1 k1=>?_);show wpAny _ A.in1 (Builtin.Dict.addKeywords d [] >>= _) _ _ _;refine wpAny_bind (wpAny_pure (wpAny_pure ?_));rw [← len,Zm] at hm;exact fin _ _ (k.but hI k1) (dk hm k1)
 | succ r ih =>
  intro i h tk hr hi k hm it;have hlt:i < its.length:=by omega
  refine codeAny_builtin entry_dul ?_;rw [Around.under_plainId zDb _];show wpAny _ A.in1 (pyNext (Value.ref I) >>= _) _ _ _;refine wpAny_bind (W.item i _ _ _ (by rw [sz];exact hlt) ⟨it,lst k⟩ fun v h1 tk1 hv st k1=>?_);have hv':its[i]? = some v:=by simpa using hv
  obtain ⟨⟨key,u⟩,hk⟩:∃ p,ps[i]? = some p:=⟨_,Z1 (by omega)⟩;obtain ⟨t,y,rfl,ht,hy⟩:=hp i v key u hv' hk;have kg:=k.but hI k1;have ht1:=ht.keeps kg;obtain ⟨o,ho,hc,n,hdt⟩:=id ht1;have hT:({ z with heap:=h1,toks:=tk1 }:Shared).TypeIs (.ref t) "tuple":=⟨o,ho,hc⟩;refine wpAny_bind (wpAny_holding (wpAny_bind (wpAny_tryCatch ?_)));unfold Builtin.Dict.pairItems;refine wpAny_bind (wpAny_typeOf hT ?_);rw [if_pos (by decide)];refine wpAny_bind (wpAny_seqItems ho hdt (wpAny_pure ?_));show wpAny _ A.in1 (holding [y,u] (dictSet d y u)) _ _ _;have hm1:=dk hm k1;have nk:key∉(ps.take i).map (·.1):=fun m=>by
   obtain ⟨q,hq,e⟩:=List.mem_map.mp m;obtain ⟨j,hj,ej⟩:=Y1 hq;have hj':j < i:=by simp at hj;omega
   have e1:(ps.map (·.1))[j]? = some key:=by
    have:ps[j]? = some q:=by
     have:=Z1 hj;rw [List.getElem?_take_of_lt hj'] at this;rw [this,ej]
    simp [this,e]
   have e2:(ps.map (·.1))[i]? = some key:=by simp [hk]
   have:=zGh nd e1 e2;omega
  have st1:stored (ps.take i) key u=ps.take (i + 1):=by
   have hany:¬ ((ps.take i).any fun kv=>decide (kv.1=key))=true:=by
    rw [List.any_eq_true];rintro ⟨kv,h1,h2⟩;exact nk (List.mem_map.mpr ⟨kv,h1,of_decide_eq_true h2⟩)
   rw [stored,if_neg hany,Zk,hk];rfl
  refine wpAny_holding (wpAny_dictSet_pairs (knd:=mixKind P w) (k:=key) hy hm1 (fun h2 hm2 sb=>?_) (by have:=Zx i ps;omega));rw [st1] at hm2;refine wpAny_pure ⟨plainId_quiet zDb _,?_⟩;have e3:((i:Nat):Int) + 1=((i + 1:Nat):Int):=by push_cast;rfl
  show codeAny _ A (.builtin "dict.update.loop" ⟨[.ref d,.ref I,rawInt (((i:Nat):Int) + 1),.none],[]⟩) _ _;rw [e3];exact ih (i + 1) h2 _ (by omega) (by omega) (kg.same hd sb) hm2 (st.1.at fun o e=>(sb.2 I (Ne.symm ne)).trans e)
theorem call_pairs {z:Shared}{l:Addr}{its:List Value}{ps:List (Key×Value)}{Q:Value→Shared→Prop} (hh:A.handled=none) (hl:PlainL z.heap l its.toArray) (hz:its.length≤sizeLine)
  (len:ps.length=its.length) (nd:(ps.map (·.1)).Nodup) (hp:∀ (i:Nat) (v:Value) (k:Key) (u:Value),its[i]? = some v→ps[i]? = some (k,u)→∃ (t:Addr) (y:Value),v=.ref t∧IsTup z.heap t #[y,u]∧keyIs k y=true)
  (fin:∀ h tk,Kept z.heap h→h.DictOf (mixKind P w) z.heap.objs.size ps→Q (.ref z.heap.objs.size) { z with heap:=h,toks:=tk }) :
  wpAny (model P w) A (call (.type "dict") [.ref l]) Q E z:=by
 refine callType_codes (Q₁:=fun obj s₁=>obj=.ref z.heap.objs.size∧s₁ = { z with heap:=z.heap.push { cls:=.type "dict",data:=.dict #[] } }) F.kt_called_dict (F.kt_typeCall_dict_1 _) F.entry_dict_init (kt_code_dict_new _ ⟨rfl,rfl⟩) ?_;rintro obj s₁ ⟨rfl,rfl⟩;have hnew:(z.heap.push { cls:=.type "dict",data:=.dict #[] }).DictOf (mixKind P w) z.heap.objs.size []:=Heap.DictOf.new z.heap;have k0:Kept z.heap (z.heap.push { cls:=.type "dict",data:=.dict #[] }):=Kept.push _ _;obtain ⟨ol,n,el,cl,dl,sl⟩:=id hl;refine ⟨hnew.typeIs,F.args_dict_init_2 _ _,?_⟩;unfold Builtin.«dict.__init__»;refine wpAny_bind ?_;unfold Builtin.Dict.selfAndRest;refine wpAny_bind (wpAny_notOrdered_dict hnew.typeIs ?_);show wpAny _ _ (pure (z.heap.objs.size,[Value.ref l])) _ _ _;refine wpAny_pure ?_;show wpAny _ _ (Builtin.Dict.updateFrom "dict.__init__" z.heap.objs.size (.ref l) [] .none) _ _ _;unfold Builtin.Dict.updateFrom;have hT:({ z with heap:=z.heap.push { cls:=.type "dict",data:=.dict #[] } }:Shared).TypeIs (.ref l) "list":=⟨ol,k0 _ _ el,cl⟩;refine wpAny_bind (wpAny_typeOf hT ?_);rw [if_pos (by decide)];refine wpAny_bind (no_keys (k0 _ _ el) cl sl dl hh fun h1 tk1 k1=>?_);simp only [Option.isNone_none,if_true];have hl1:h1.IsList l its.toArray:=by
  obtain ⟨o,e,r⟩:=hl.isList;exact ⟨o,k1 _ _ (k0 _ _ e),r⟩
 refine wpAny_bind (wpAny_rule (wpAny_bind (wpAny_pyIter_list hl1 (wpAny_pure ⟨plainId_quiet zDb _,?_⟩))));have sz1:z.heap.objs.size + 1≤h1.objs.size:=by
  have:=Z8 (k1 _ _ (Zg z.heap (o:={ cls:=.type "dict",data:=.dict #[] }) rfl));exact this
 refine pairs_loop (g:=z.heap) (z:=z) (A:=A.in1) hh hl.isList (I:=h1.objs.size) (d:=z.heap.objs.size) (by omega) (Z5 _) (Zc (by omega)) hz len nd hp (fun h tk kk hm=>⟨rfl,fin h tk kk hm⟩) _ 0 _ _ rfl (Zz _) ((k0.trans k1).trans (Kept.push _ _)) ?_ ⟨_,Zg _ rfl,rfl,rfl⟩;obtain ⟨o,es,ep,e,r⟩:=hnew;exact ⟨o,es,ep,Z2 _ (k1 _ _ e),r⟩
end
section
variable {X:Cx}
theorem zF5 {K:PySem.W.Frag} (hK:X.K=K):CallR X (.type "dict") (fun vs H Q=>∃ (l:Addr) (ts:List Addr) (kvs:List (Key×V)),vs=[.ref l]∧SqL K H l (ts.map V.ref)∧X.calm=true∧(kvs.map (·.1)).Nodup∧kvs.length=ts.length ∧
  (∀ (i:Nat) (t:Addr) (k:Key) (v:V),ts[i]? = some t→kvs[i]? = some (k,v)→H t=some (.tup [kV k,v]))∧∀ p,H p=none→Q (.ref p) (upd H p (.dK kvs))):=by
 subst hK;intro pins s σ H vs us Q I rv h;obtain ⟨l,ts,kvs,rfl,hl,hc,nd,ln,ht,q⟩:=h;obtain ⟨u,rfl,ru⟩:=v1 rv;cases (show u=Value.ref l from ru);obtain ⟨its,rx,pl,hz⟩:=I.list hl;have il:=rx.length;simp only [Z0] at il hz;have one:∀ (i:Nat) (v:Value),its[i]? = some v→∃ (t:Addr) (k:Key) (x:V) (y u:Value),v=.ref t∧kvs[i]? = some (k,x)∧IsTup s.heap t #[y,u]∧keyIs k y=true∧RelV x u:=fun i v e=>by
  have hi:i < its.length:=(List.getElem?_eq_some_iff.mp e).1;obtain ⟨t,et⟩:∃ t,ts[i]? = some t:=⟨_,Z1 (by omega)⟩;obtain ⟨⟨k,x⟩,ek⟩:∃ p,kvs[i]? = some p:=⟨_,Z1 (by omega)⟩;obtain ⟨v',hv',r⟩:=rx.get (i:=i) (x:=.ref t) (by simp [et]);rw [e] at hv';cases hv';cases (show v=Value.ref t from r);obtain ⟨_,is,rr,it⟩:=I.hok t _ (ht i t k x et ek);obtain ⟨y,u,rfl,ry,ru⟩:=v2 rr;refine ⟨t,k,x,y,u,rfl,ek,it,?_,ru⟩;cases k with
  | inl n=>obtain ⟨tk,rfl⟩:=ry;exact keyIs_int n tk
  | inr z=>obtain ⟨tk,rfl⟩:=ry;exact keyIs_str z tk
 obtain ⟨ps,lp,hps⟩:∃ ps:List (Key×Value),ps.length=its.length∧∀ i,i < its.length→∃ (t:Addr) (k:Key) (x:V) (y u:Value),its[i]? = some (.ref t)∧kvs[i]? = some (k,x)∧IsTup s.heap t #[y,u]∧keyIs k y=true∧RelV x u∧ps[i]? = some (k,u):=by
  have:∀ i:Fin its.length,∃ p:Key×Value,∃ (t:Addr) (k:Key) (x:V) (y u:Value),its[i.1]? = some (.ref t)∧kvs[i.1]? = some (k,x)∧IsTup s.heap t #[y,u]∧keyIs k y=true∧RelV x u∧p=(k,u):=fun i=>by
   obtain ⟨v,hv⟩:∃ v,its[i.1]? = some v:=⟨_,Z1 i.2⟩;obtain ⟨t,k,x,y,u,rfl,h2,h3,h4,h5⟩:=one i.1 v hv;exact ⟨(k,u),t,k,x,y,u,hv,h2,h3,h4,h5,rfl⟩
  refine ⟨List.ofFn fun i=>(this i).choose,by simp,fun i hi=>?_⟩;obtain ⟨t,k,x,y,u,a1,a2,a3,a4,a5,a6⟩:=(this ⟨i,hi⟩).choose_spec;exact ⟨t,k,x,y,u,a1,a2,a3,a4,a5,by rw [List.getElem?_ofFn,dif_pos hi,a6]⟩
 have keys:ps.map (·.1)=kvs.map (·.1):=by
  refine List.ext_getElem? fun i=>?_;by_cases hi:i < its.length
  ·obtain ⟨t,k,x,y,u,a1,a2,a3,a4,a5,a6⟩:=hps i hi;simp [a2,a6]
  ·rw [List.getElem?_eq_none (by simp;omega),List.getElem?_eq_none (by simp;omega)]
 have kv:KV kvs ps:=by
  have:∀ (a:List (Key×V)) (b:List (Key×Value)),a.length=b.length→(∀ (i:Nat) (k:Key) (x:V) (k':Key) (u:Value),a[i]? = some (k,x)→b[i]? = some (k',u)→k=k'∧RelV x u)→KV a b:=by
   intro a
   induction a with
   | nil =>
    intro b hb _;cases b with
    | nil=>exact .nil
    | cons _ _=>cases hb
   | cons p t ih =>
    intro b hb hr;cases b with
    | nil=>cases hb
    | cons c d=>exact .cons (hr 0 p.1 p.2 c.1 c.2 rfl rfl) (ih d (by simpa using hb) fun i k x k' u h1 h2=>hr (i + 1) k x k' u (by simpa using h1) (by simpa using h2))
  refine this _ _ (by omega) fun i k x k' u h1 h2=>?_;obtain ⟨t,k2,x2,y,u2,a1,a2,a3,a4,a5,a6⟩:=hps i (by rw [← lp];exact (List.getElem?_eq_some_iff.mp h2).1);rw [h1] at a2;cases a2;rw [h2] at a6;cases a6;exact ⟨rfl,a5⟩
 have fr:H s.heap.objs.size=none:=I.hok.fresh (Z5 _);refine call_pairs (P:=X.prog) (w:=X.w) (ps:=ps) (I.ok.hd hc) pl (by omega) lp (by rw [keys];exact nd) (fun i v k u hv hk=>?_) fun h tk kk hm=>?_
 ·obtain ⟨t,k2,x2,y,u2,a1,a2,a3,a4,a5,a6⟩:=hps i (List.getElem?_eq_some_iff.mp hv).1;rw [hv] at a1;cases a1;rw [hk] at a6;cases a6;exact ⟨t,y,rfl,a3,a4⟩
 ·refine ⟨.ref s.heap.objs.size,_,I.laid (t':=tk) (a:=s.heap.objs.size) (o:=.dK kvs) kk (Z5 _) ⟨by omega,?_,ps,kv,hm⟩,rfl,q _ fr⟩;have:=I.big;exact beq_false_of_ne (Yp this)
end
end L2
namespace L2
open PySem PySem.Spec PyProof.Rows
section
variable {X:Cx}
theorem call_isinstK {K:PySem.W.Frag} (hK:X.K=K):CallR X (.builtin "isinstance") (fun xs H Q=>∃ x c t cv b,xs=[x,c]∧TyOf K H x t∧RelV c cv∧PySem.W.kitOne K t cv=some b∧Q (.bl b) H):=by
 subst hK;exact zAy
end
structure FunL (K:PySem.W.Frag) (x qual:Str) (st:Stmt) (f:Addr) (fd:FuncData) (c:Addr):Prop where
 ex:∃ (oc:Value) (od:Option Addr) (kV doc pm:Value) (an:Option Addr) (ct:Value) (osl:Array (Option Value)),
  fd=PySem.W.fnOf x qual (defArgs st) (defBody st) (defScope st) .none kV doc pm an (.ref c) ct∧K.lookup f=some ⟨oc,od,.func fd,osl⟩∧PySem.W.codeIn K (.ref c) qual=true
 kp:PySem.W.keepIn K (.ref f)=true
theorem FunL.fn {K:PySem.W.Frag}{x qual:Str}{st:Stmt}{f c:Addr}{fd:FuncData} (F:FunL K x qual st f fd c):Fun K x qual st f fd:=by
 obtain ⟨oc,od,kV,doc,pm,an,ct,osl,e,lk,hcd⟩:=F.ex;exact ⟨⟨oc,od,kV,doc,pm,an,.ref c,ct,osl,e,lk,hcd⟩,F.kp⟩
theorem FunL.okC {P:Program}{w:World}{K:PySem.W.Frag}{mg:Str→Option Value}{base:Heap}{CX:CXT}{x qual:Str}{st:Stmt}{f c:Addr}{fd:FuncData}{N ps:List Str}{k:Nat}{sp:Sp} (F:FunL K x qual st f fd c) (S:FnScope N ps (defScope st)) (len:∀ vs H Q E,sp vs H Q E→vs.length=ps.length)
  (hbody:∀ (A:Around) (outer:List Env) (s:Shared) (H:Hp) (vs:List V) (Q:VK) (E:XK),Room k (A.deeper (envOfC qual (defScope st) s.heap.objs.size f (.ref c)))→sp vs H Q E →
   ∃ t,PSs (cxOf CX P w K mg base N qual (defScope st) f (.ref c) A outer s H E).nox (defBody st) t∧t { nx:=fun _ H'=>Q .non H',rt:=Q } (start N vs) H):FnOk P w K mg base CX (k + 1) f fd ps sp:=by
 obtain ⟨oc,od,kV,doc,pm,an,ct,osl,rfl,lk,hcd⟩:=F.ex;refine fn_of lk hcd S len fun A outer s H vs Q E hr hsp=>?_;obtain ⟨t,h,q⟩:=hbody A outer s H vs Q E hr hsp;exact ⟨t,h.nox,q⟩
end L2
namespace L2
open PySem PySem.Spec PyProof.Rows
theorem cut_first {c:Nat}:∀ {p q A B:List Nat},(∀ d∈p,d≠c)→(∀ d∈q,d≠c)→p++c :: A=q++c :: B→p=q∧A=B
 | [],[],_,_,_,_,h=>⟨rfl,by simpa using h⟩
 | [],y :: q,_,_,_,hq,h=>by
  simp at h;exact absurd h.1.symm (hq y (by simp))
 | x :: p,[],_,_,hp,_,h=>by
  simp at h;exact absurd h.1 (hp x (by simp))
 | x :: p,y :: q,_,_,hp,hq,h=>by
  simp at h;obtain ⟨e1,e2⟩:=h;obtain ⟨a,b⟩:=cut_first (fun d hd=>hp d (by simp [hd])) (fun d hd=>hq d (by simp [hd])) e2;exact ⟨by rw [e1,a],b⟩
noncomputable def freeOf (c:Nat) (x:Str):Prop:=∀ d∈x.cps.toList,d≠c
theorem zBi {x y:Str} (h:x.cps.toList=y.cps.toList):x=y:=by
 obtain ⟨⟨a⟩⟩:=x;obtain ⟨⟨b⟩⟩:=y;simp at h;rw [h]
theorem zA8 (x y:Str):(x++y).cps.toList=x.cps.toList++y.cps.toList:=by
 show (x.cps++y.cps).toList=_;simp
theorem join_inj {c:Nat}:∀ {ps qs:List Str},(∀ p∈ps,freeOf c p)→(∀ q∈qs,freeOf c q)→ps≠[]→qs≠[]→Str.join ⟨#[c]⟩ ps=Str.join ⟨#[c]⟩ qs→ps=qs
 | [],_,_,_,h,_,_=>absurd rfl h
 | _,[],_,_,_,h,_=>absurd rfl h
 | [p],[q],_,_,_,_,h=>by
  have:p=q:=h;rw [this]
 | [p],q :: q2 :: r,hp,_,_,_,h=>by
  have h':p=q++⟨#[c]⟩++Str.join ⟨#[c]⟩ (q2 :: r):=h;exact absurd rfl (hp p (by simp) c (by rw [h',zA8,zA8];simp))
 | p :: p2 :: r,[q],_,hq,_,_,h=>by
  have h':p++⟨#[c]⟩++Str.join ⟨#[c]⟩ (p2 :: r)=q:=h;exact absurd rfl (hq q (by simp) c (by rw [← h',zA8,zA8];simp))
 | p :: p2 :: r,q :: q2 :: t,hp,hq,_,_,h=>by
  have h':p++⟨#[c]⟩++Str.join ⟨#[c]⟩ (p2 :: r)=q++⟨#[c]⟩++Str.join ⟨#[c]⟩ (q2 :: t):=h;have e:=congrArg (fun x:Str=>x.cps.toList) h';simp only [zA8] at e;have e2:p.cps.toList++c :: (Str.join ⟨#[c]⟩ (p2 :: r)).cps.toList=q.cps.toList++c :: (Str.join ⟨#[c]⟩ (q2 :: t)).cps.toList:=by simpa using e
  obtain ⟨a,b⟩:=cut_first (hp p (by simp)) (hq q (by simp)) e2;rw [zBi a,join_inj (fun x hx=>hp x (Z6 _ hx)) (fun x hx=>hq x (Z6 _ hx)) (by simp) (by simp) (zBi b)]
theorem zFh {c:Nat}{ws:List Str} (h:∀ w∈ws,freeOf c w) (ne:ws≠[]):Txt.split (Str.join ⟨#[c]⟩ ws) ⟨#[c]⟩=ws:=by
 refine join_inj (fun p hp d hd e=>?_) h ?_ ne (StrLaws.join_split _ _)
 ·exact StrLaws.split_free _ c p hp (e ▸ hd)
 ·intro z;have:=split_pos (Str.join ⟨#[c]⟩ ws) ⟨#[c]⟩;rw [z] at this;simp at this
noncomputable def evens {α : Type}:List α→List α
 | []=>[]
 | [a]=>[a]
 | a :: _ :: r=>a :: evens r
noncomputable def odds {α : Type}:List α→List α
 | []=>[]
 | [_]=>[]
 | _ :: b :: r=>b :: odds r
theorem pick_even {α : Type}:∀ (n:Nat) (l:List α),l.length≤n→(List.range ((l.length + 1) / 2)).filterMap (fun k=>l[2 * k]?)=evens l
 | 0,[],_=>by simp [evens]
 | _ + 1,[],_=>by simp [evens]
 | n + 1,[a],_=>by simp [List.range_succ,evens]
 | n + 1,a :: b :: r,h=>by
  have e:((a :: b :: r).length + 1) / 2=(r.length + 1) / 2 + 1:=by simp;omega
  rw [e,List.range_succ_eq_map,Y3];show a :: _=a :: evens r;have f:((fun k=>(a :: b :: r)[2 * k]?) ∘ Nat.succ)=fun k=>r[2 * k]?:=by
   funext k;show (a :: b :: r)[2 * (k + 1)]? = r[2 * k]?;rw [show 2 * (k + 1)=2 * k + 1 + 1 by omega];rfl
  rw [Yn,← pick_even n r (by simp at h;omega),f]
theorem pick_odd {α : Type}:∀ (n:Nat) (l:List α),l.length≤n→(List.range (l.length / 2)).filterMap (fun k=>l[2 * k + 1]?)=odds l
 | 0,[],_=>by simp [odds]
 | _ + 1,[],_=>by simp [odds]
 | n + 1,[a],_=>by simp [odds]
 | n + 1,a :: b :: r,h=>by
  have e:(a :: b :: r).length / 2=r.length / 2 + 1:=by simp;omega
  rw [e,List.range_succ_eq_map,Y3];show b :: _=b :: odds r;have f:((fun k=>(a :: b :: r)[2 * k + 1]?) ∘ Nat.succ)=fun k=>r[2 * k + 1]?:=by
   funext k;show (a :: b :: r)[2 * (k + 1) + 1]? = r[2 * k + 1]?;rw [show 2 * (k + 1) + 1=2 * k + 1 + 1 + 1 by omega];rfl
  rw [Yn,← pick_odd n r (by simp at h;omega),f]
theorem slice_even (its:List Value):slicePick its.toArray none none (some 2)=(evens its).toArray:=by
 unfold slicePick sliceBounds sliceRange;simp only [Zb];rw [← pick_even its.length its (Z5 _)]
 congr 1
 have hc:(if (2:Int) > 0 then if (0:Int) < (its.length:Int) then ((its.length:Int) - 0 + 2 - 1) / 2 else 0 else if (0:Int) > (its.length:Int) then (0 - (its.length:Int) - 2 - 1) / (-2) else 0).toNat=(its.length + 1) / 2:=by
  rw [if_pos (by decide)];split <;> omega
 show List.filterMap (fun (k:Nat)=>its.toArray[k]?) (List.map _ (List.range (if (2:Int) > 0 then if (0:Int) < (its.length:Int) then ((its.length:Int) - 0 + 2 - 1) / 2 else 0 else if (0:Int) > (its.length:Int) then (0 - (its.length:Int) - 2 - 1) / (-2) else 0).toNat))=_;rw [hc,Yn]
 congr 1
 funext k;show its.toArray[((0:Int) + 2 * (k:Int)).toNat]? = its[2 * k]?;rw [show ((0:Int) + 2 * (k:Int)).toNat=2 * k by omega];simp
theorem bounds_odd (n:Nat) (h:1≤n):sliceBounds (some 1) none (some 2) n=((1:Int),(n:Int),(2:Int)):=by
 unfold sliceBounds;have:max (0:Int) (min 1 (n:Int))=1:=by omega
 simp [this]
theorem slice_odd (its:List Value) (h:1≤its.length):slicePick its.toArray (some 1) none (some 2)=(odds its).toArray:=by
 unfold slicePick;rw [Zb,bounds_odd _ h,← pick_odd its.length its (Z5 _)]
 congr 1
 have hc:(if (2:Int) > 0 then if (1:Int) < (its.length:Int) then ((its.length:Int) - 1 + 2 - 1) / 2 else 0 else if (1:Int) > (its.length:Int) then (1 - (its.length:Int) - 2 - 1) / (-2) else 0).toNat=its.length / 2:=by
  rw [if_pos (by decide)];split <;> omega
 show List.filterMap (fun (k:Nat)=>its.toArray[k]?) (List.map (fun (k:Nat)=>((1:Int) + 2 * (k:Int)).toNat) (List.range (if (2:Int) > 0 then if (1:Int) < (its.length:Int) then ((its.length:Int) - 1 + 2 - 1) / 2 else 0 else if (1:Int) > (its.length:Int) then (1 - (its.length:Int) - 2 - 1) / (-2) else 0).toNat))=_;rw [hc,Yn]
 congr 1
 funext k;show its.toArray[((1:Int) + 2 * (k:Int)).toNat]? = its[2 * k + 1]?;rw [show ((1:Int) + 2 * (k:Int)).toNat=2 * k + 1 by omega];simp
end L2
namespace L2
open PySem PySem.Spec PyProof.Rows
section
variable {X:Cx}
theorem zDg:MtR X "str.startswith" (fun x xs H Q=>∃ z y,x=.str z∧xs=[.str y]∧Q (.bl (Txt.startswith z y)) H):=by
 intro pins s σ H x xs v us Q I rx rs h;obtain ⟨z,y,rfl,rfl,q⟩:=h;obtain ⟨t,rfl⟩:=rx;obtain ⟨u,rfl,ru⟩:=v1 rs;obtain ⟨t',rfl⟩:=ru;exact PySem.SC.startswith ⟨.bl _,H,I,rfl,q⟩
theorem zDy:∀ {l:List (Str×Tok)},Vals ((l.map (·.1)).map V.str) (strValues l)
 | []=>.nil
 | (k,t) :: r=>.cons ⟨t,rfl⟩ zDy
theorem zE5:MtR X "str.split" (fun x xs H Q=>∃ z y,x=.str z∧xs=[.str y]∧(y.length == 0)=false∧z.length≤100000∧∀ p,H p=none→Q (.ref p) (upd H p (.lst ((Txt.split z y).map V.str)))):=by
 intro pins s σ H x xs v us Q I rx rs h;obtain ⟨z,y,rfl,rfl,hy,hz,q⟩:=h;obtain ⟨t,rfl⟩:=rx;obtain ⟨u,rfl,ru⟩:=v1 rs;obtain ⟨t',rfl⟩:=ru;have sl:z.length + 2≤sizeLine:=by rw [sizeLine_eq];omega
 have hl:=split_le z y;have fr:H s.heap.objs.size=none:=I.hok.fresh (Z5 _);have fin:∀ (l:List (Str×Tok)) (k:Nat),l.map (·.1)=Txt.split z y→EP X pins σ Q (.ref s.heap.objs.size) { s with heap:=s.heap.push { cls:=.type "list",data:=.seq (strValues l).toArray },toks:=k }:=fun l k e=>by
  have vv:Vals ((Txt.split z y).map V.str) (strValues l):=by rw [← e];exact zDy
  exact ⟨.ref _,_,I.laid (t':=k) (a:=s.heap.objs.size) (o:=.lst ((Txt.split z y).map V.str)) (fun b o e=>Z2 _ e) (Z5 _) ⟨by rw [Z0];omega,_,_,vv,Zg _ rfl⟩,rfl,q _ fr⟩
 have at_:=F.slot_str_split;cases h1:(decide (z.length < y.length) || decide (Builtin.Str.strKind z < Builtin.Str.strKind y)) with
 | true=>exact call_meets at_ (typeIs_str _ _ _) F.entry_str_split (F.args_str_split_2 _ _) (meets_str_split_cannot_occur z y t t' h1) (fin [(z,t)] s.toks (if_pos h1).symm)
 | false =>
  have n1:¬ (decide (z.length < y.length) || decide (Builtin.Str.strKind z < Builtin.Str.strKind y))=true:=by rw [h1];decide
  cases hf:(Builtin.Str.occurrences z y 0 z.length (z.length + 1)).isEmpty with
  | true=>exact call_meets at_ (typeIs_str _ _ _) F.entry_str_split (F.args_str_split_2 _ _) (meets_str_split_not_found z y t t' h1 hy hf) (fin [(z,t)] s.toks ((if_neg n1).trans (if_pos hf)).symm)
  | false =>
   have n2:¬ (Builtin.Str.occurrences z y 0 z.length (z.length + 1)).isEmpty=true:=by rw [hf];decide
   have e:Txt.split z y=Builtin.Str.partsBetween z (Builtin.Str.occurrences z y 0 z.length (z.length + 1)) y.length:=(if_neg n1).trans (if_neg n2);refine call_meets at_ (typeIs_str _ _ _) F.entry_str_split (F.args_str_split_2 _ _) (meets_str_split_sep z y t t' h1 hy hf (by omega) (by rw [← e];omega)) ?_;have:=fin (numbered s.toks (Builtin.Str.partsBetween z (Builtin.Str.occurrences z y 0 z.length (z.length + 1)) y.length)) (s.toks + (Builtin.Str.partsBetween z (Builtin.Str.occurrences z y 0 z.length (z.length + 1)) y.length).length) ((numbered_texts _ _).trans e.symm);rw [← strsFrom_eq] at this;exact this
theorem Vals.evens:∀ {xs:List V}{us:List Value},Vals xs us→Vals (evens xs) (evens us)
 | [],_,h=>by cases h;exact .nil
 | [_],_,h=>by
  cases h with
  | cons a t=>cases t;exact .cons a .nil
 | _ :: _ :: _,_,h=>by
  cases h with
  | cons a t =>
   cases t with
   | cons b t=>exact .cons a (Vals.evens t)
theorem Vals.odds:∀ {xs:List V}{us:List Value},Vals xs us→Vals (odds xs) (odds us)
 | [],_,h=>by cases h;exact .nil
 | [_],_,h=>by
  cases h with
  | cons a t=>cases t;exact .nil
 | _ :: _ :: _,_,h=>by
  cases h with
  | cons a t =>
   cases t with
   | cons b t=>exact .cons b (Vals.odds t)
theorem zGm {α : Type}:∀ l:List α,(evens l).length≤l.length
 | []=>Z5 _
 | [_]=>Z5 _
 | _ :: _ :: r=>by
  have:=zGm r;simp [evens];omega
theorem odds_le {α : Type}:∀ l:List α,(odds l).length≤l.length
 | []=>Z5 _
 | [_]=>Zz _
 | _ :: _ :: r=>by
  have:=odds_le r;simp [odds];omega
noncomputable def rEven (K:PySem.W.Frag) (te:TE):TE:=fun σ H Q=>te σ H fun x H1=>∃ a xs,x=.ref a∧SqL K H1 a xs∧∀ p,H1 p=none→Q (.ref p) (upd H1 p (.lst (evens xs)))
noncomputable def rOdd (K:PySem.W.Frag) (te:TE):TE:=fun σ H Q=>te σ H fun x H1=>∃ a xs,x=.ref a∧SqL K H1 a xs∧1≤xs.length∧∀ p,H1 p=none→Q (.ref p) (upd H1 p (.lst (odds xs)))
theorem zDp {e:Expr}{te:TE}{k:Nat}{p1 p3 pos:Pos} (he:PE X e te):PE X (.Subscript e (.Slice none none (some (.Constant (.int 2) k p1)) p3) pos) (rEven X.K te):=by
 intro pins s σ H Q I h;refine Subscript_ (thn (he pins s σ H _ I h) fun v s1 ⟨x,H1,I1,r1,q1⟩=>?_);obtain ⟨a,xs,rfl,hx,q⟩:=q1;cases r1;refine wpAny_Slice ?_;rw [evalPart_none];refine wpAny_pure (wpAny_pure ?_);rw [evalPart_some];refine thn (zA4 (X:=X) (i:=2) pins s1 σ H1 (fun y H2=>y=.int 2∧H2=H1) I1 ⟨rfl,rfl⟩) fun u s2 ⟨y,H2,I2,r2,ey,eh⟩=>?_;subst ey eh;obtain ⟨t,rfl⟩:=r2;have I4:Inv X pins σ H2 { s2 with heap:=s2.heap.push { cls:=.type "slice",data:=.fields #[.none,.none,.int 2 t] } }:=I2.kept (t':=s2.toks) fun b ob q=>Z2 _ q;obtain ⟨its,r,ht,hz⟩:=I4.list hx;have hlen:=r.length;refine tail_any (ops:=[.ref a,.ref s2.heap.objs.size]) ht.isList.typeIs slot_list_getitem.lookup ?_ (by with_unfolding_all rfl);refine wpAny_getItem_list_slice ht.isList (Heap.IsSliceOf.new ..) .none .none (.int _ _) (by decide) ?_ (by rw [Zb];omega);rw [slice_even];have le:=zGm xs;exact ⟨.ref _,_,I4.laid (t':=s2.toks) (o:=.lst (evens xs)) (fun b ob q=>Z2 _ q) (Z5 _) ⟨by omega,_,0,r.evens,Zg _ rfl⟩,rfl,q _ (I4.hok.fresh (Z5 _))⟩
theorem pe_odd {e:Expr}{te:TE}{k k':Nat}{p1 p2 p3 pos:Pos} (he:PE X e te):PE X (.Subscript e (.Slice (some (.Constant (.int 1) k' p2)) none (some (.Constant (.int 2) k p1)) p3) pos) (rOdd X.K te):=by
 intro pins s σ H Q I h;refine Subscript_ (thn (he pins s σ H _ I h) fun v s1 ⟨x,H1,I1,r1,q1⟩=>?_);obtain ⟨a,xs,rfl,hx,h1,q⟩:=q1;cases r1;refine wpAny_Slice ?_;rw [evalPart_some];refine thn (zA4 (X:=X) (i:=1) pins s1 σ H1 (fun y H2=>y=.int 1∧H2=H1) I1 ⟨rfl,rfl⟩) fun u0 s0 ⟨y0,H0,I0,r0,ey0,eh0⟩=>?_;subst ey0 eh0;obtain ⟨t0,rfl⟩:=r0;rw [evalPart_none];refine wpAny_pure ?_;rw [evalPart_some];refine thn (zA4 (X:=X) (i:=2) pins s0 σ H0 (fun y H2=>y=.int 2∧H2=H0) I0 ⟨rfl,rfl⟩) fun u s2 ⟨y,H2,I2,r2,ey,eh⟩=>?_;subst ey eh;obtain ⟨t,rfl⟩:=r2;have I4:Inv X pins σ H2 { s2 with heap:=s2.heap.push { cls:=.type "slice",data:=.fields #[.int 1 t0,.none,.int 2 t] } }:=I2.kept (t':=s2.toks) fun b ob q=>Z2 _ q;obtain ⟨its,r,ht,hz⟩:=I4.list hx;have hlen:=r.length;refine tail_any (ops:=[.ref a,.ref s2.heap.objs.size]) ht.isList.typeIs slot_list_getitem.lookup ?_ (by with_unfolding_all rfl);refine wpAny_getItem_list_slice ht.isList (Heap.IsSliceOf.new ..) (.int _ _) .none (.int _ _) (by decide) ?_ (by rw [Zb];omega);rw [slice_odd _ (by omega)];have le:=odds_le xs;exact ⟨.ref _,_,I4.laid (t':=s2.toks) (o:=.lst (odds xs)) (fun b ob q=>Z2 _ q) (Z5 _) ⟨by omega,_,0,r.odds,Zg _ rfl⟩,rfl,q _ (I4.hok.fresh (Z5 _))⟩
theorem zGq:CallR X (.type "int") (fun vs H Q=>∃ n:Int,vs=[.str (Str.ofString (toString n))]∧0≤n∧n < 10 ^ 10∧Q (.int n) H):=by
 intro pins s σ H vs us Q I rv h;obtain ⟨n,rfl,h0,h1,q⟩:=h;obtain ⟨u,rfl,ru⟩:=L2.v1 rv;obtain ⟨t,rfl⟩:=ru;exact PySem.W.KIN.call_num h0 h1 ⟨.int n,H,I.tok _,⟨_,rfl⟩,q⟩
end
end L2
namespace L2
open PySem PySem.Spec PyProof.Rows
noncomputable abbrev OKey:=Option Str
section
variable {P:Program}{w:World}{H:Hp}{h:Heap}{a:Addr}{kvs:List (OKey×V)}
end
section
variable {X:Cx}{o i e value:Expr}{pos pos' tpos:Pos}{td ty tv tk:TE}
end
end L2
namespace L2
open PySem PySem.Spec PyProof.Rows
noncomputable def figs (n:Nat):Str:=Str.ofString (toString ((n:Nat):Int))
theorem zF1 (n:Nat):(figs n).cps.toList=(Nat.toDigits 10 n).map Char.toNat:=PySem.W.KIN.signs_num n
theorem zE8 {n c:Nat} (h:c∈(figs n).cps.toList):48≤c∧c≤57:=by
 rw [zF1] at h;obtain ⟨ch,hch,e⟩:=List.mem_map.mp h;have d:=Nat.isDigit_of_mem_toDigits (by decide) (by decide) hch;rw [← e];simp only [Char.isDigit,Zu,decide_eq_true_eq] at d;have d1:(48:Nat)≤ch.val.toNat:=d.1;have d2:ch.val.toNat≤57:=d.2;exact ⟨d1,d2⟩
theorem len_list (x:Str):x.cps.toList.length=x.length:=Y4
theorem dig_ne (n:Nat):Nat.toDigits 10 n≠[]:=by
 by_cases h:n < 10
 ·rw [Nat.toDigits_of_lt_base h];simp
 ·have hm:n % 10 < 10:=Yf n (by decide);have t:Nat.toDigits 10 (n / 10)++Nat.toDigits 10 (n % 10)=Nat.toDigits 10 (10 * (n / 10) + n % 10):=Nat.toDigits_append_toDigits (by decide) (by omega) hm;rw [Nat.div_add_mod,Nat.toDigits_of_lt_base hm] at t;rw [← t];simp
theorem figs_ge (n:Nat):1≤(figs n).length:=by
 rw [← len_list,zF1,Z0];exact List.length_pos_iff.mpr (dig_ne n)
theorem zC2 {n:Nat} (h:n≤999999):(figs n).length≤6:=by
 have e:(10:Int) ^ 6=1000000:=by decide
 exact toString_length_le (by omega) (by decide) (by rw [e];omega)
theorem dig_lead (n:Nat):0 < n→∀ c r,Nat.toDigits 10 n=c :: r→c≠'0':=by
 induction n using Nat.strongRecOn with
 | _ n ih =>
  intro h0 c r e;by_cases h:n < 10
  ·rw [Nat.toDigits_of_lt_base h] at e;injection e with e1 _;rw [← e1];have:∀ d:Nat,d < 10→0 < d→Nat.digitChar d≠'0':=by decide
   exact this n h h0
  ·have hm:n % 10 < 10:=Yf n (by decide);have t:Nat.toDigits 10 (n / 10)++Nat.toDigits 10 (n % 10)=Nat.toDigits 10 (10 * (n / 10) + n % 10):=Nat.toDigits_append_toDigits (by decide) (by omega) hm;rw [Nat.div_add_mod] at t;cases q:Nat.toDigits 10 (n / 10) with
   | nil=>exact absurd q (dig_ne _)
   | cons d s =>
    rw [q,e] at t;injection t with t1 _;rw [← t1];exact ih (n / 10) (by omega) (by omega) d s q
theorem figs_start {n:Nat} (h:1 < (figs n).length):Txt.startswith (figs n) "0" = false:=by
 have h0:0 < n:=by
  rcases Nat.eq_zero_or_pos n with e | e
  ·subst e;exact absurd h (by decide +kernel)
  ·exact e
 cases q:Nat.toDigits 10 n with
 | nil=>exact absurd q (dig_ne n)
 | cons c r =>
  have hc:=dig_lead n h0 c r q;unfold Txt.startswith;rw [StrLaws.subAt_eq,zF1,q];have e1:("0" : Str).cps.toList=[48]:=by decide +kernel
  have e2:("0" : Str).length=1:=by decide +kernel
  rw [e1,e2,List.drop_zero,Zp];have:¬ c.toNat=48:=fun z=>hc (Char.toNat_inj.mp (z.trans (by decide)));simp [this]
theorem dot_eq:("." : Str)=⟨#[46]⟩:=by decide +kernel
noncomputable def wordsP:List (Str×Nat)→List Str
 | []=>[]
 | (k,n) :: t=>k :: figs n :: wordsP t
noncomputable def showP (p:List (Str×Nat)):Str:=Str.join "." (wordsP p)
theorem zFc:∀ p q:List (Str×Nat),wordsP (p++q)=wordsP p++wordsP q
 | [],_=>rfl
 | (k,n) :: t,q=>by show k :: figs n :: wordsP (t++q)=k :: figs n :: (wordsP t++wordsP q);rw [zFc t q]
theorem zB4:∀ p:List (Str×Nat),(wordsP p).length=2 * p.length
 | []=>rfl
 | (k,n) :: t=>by show (wordsP t).length + 1 + 1=2 * (t.length + 1);rw [zB4 t];omega
theorem zCz:∀ p:List (Str×Nat),evens (wordsP p)=p.map (·.1)
 | []=>rfl
 | (k,n) :: t=>by show k :: evens (wordsP t)=_;rw [zCz t];rfl
theorem zFb:∀ p:List (Str×Nat),odds (wordsP p)=p.map fun q=>figs q.2
 | []=>rfl
 | (k,n) :: t=>by show figs n :: odds (wordsP t)=_;rw [zFb t];rfl
theorem zCp {α β : Type} (f : α→β):∀ l:List α,evens (l.map f)=(evens l).map f
 | []=>rfl
 | [_]=>rfl
 | a :: _ :: r=>by show f a :: evens (r.map f)=f a :: (evens r).map f;rw [zCp f r]
theorem zGe {α β : Type} (f : α→β):∀ l:List α,odds (l.map f)=(odds l).map f
 | []=>rfl
 | [_]=>rfl
 | _ :: b :: r=>by show f b :: odds (r.map f)=f b :: (odds r).map f;rw [zGe f r]
theorem zB1 (s:Str):∀ {ws vs:List Str},ws≠[]→vs≠[]→Str.join s (ws++vs)=Str.join s ws++s++Str.join s vs
 | [],_,h,_=>absurd rfl h
 | _,[],_,h=>absurd rfl h
 | [w],v :: vs,_,_=>rfl
 | w :: w2 :: ws,v :: vs,_,h=>by
  show w++s++Str.join s ((w2 :: ws)++(v :: vs))=w++s++Str.join s (w2 :: ws)++s++Str.join s (v :: vs);rw [zB1 s (by simp) h];refine zBi ?_;simp only [zA8,List.append_assoc]
theorem zAd (x y:Str):(x++y).length=x.length + y.length:=by show (x.cps++y.cps).size=_;simp [Str.length]
theorem zE6 {s:Str}{m:Nat} (hs:s.length=1):∀ {ws:List Str},(∀ w∈ws,w.length≤m)→(Str.join s ws).length≤ws.length * (m + 1)
 | [],_=>Zz _
 | [w],h=>by
  have:=h w (by simp);show w.length≤1 * (m + 1);omega
 | w :: w2 :: ws,h=>by
  have h1:=h w (by simp);have h2:=zE6 (s:=s) (m:=m) hs (ws:=w2 :: ws) fun x hx=>h x (Z6 _ hx);show (w++s++Str.join s (w2 :: ws)).length≤_;rw [zAd,zAd,hs];simp only [Ze] at h2 ⊢;have e:(ws.length + 1 + 1) * (m + 1)=(ws.length + 1) * (m + 1) + (m + 1):=Nat.succ_mul _ _;omega
end L2
namespace L2.W
open PySem PySem.Spec PyProof.Rows
@[irreducible] noncomputable def PE (X:Cx) (e:Expr) (t:TE):Prop:=L2.PE X e t
theorem ePE : @L2.PE = @PE:=by unfold PE;rfl
@[irreducible] noncomputable def PT (X:Cx) (e:Expr) (t:TT):Prop:=L2.PT X e t
theorem ePT : @L2.PT = @PT:=by unfold PT;rfl
@[irreducible] noncomputable def PW (X:Cx) (e:Expr) (t:TT):Prop:=L2.PW X e t
theorem ePW : @L2.PW = @PW:=by unfold PW;rfl
@[irreducible] noncomputable def PA (X:Cx) (es:List Expr) (t:TA):Prop:=L2.PA X es t
theorem ePA : @L2.PA = @PA:=by unfold PA;rfl
@[irreducible] noncomputable def PS (X:Cx) (st:Stmt) (t:TS):Prop:=L2.PS X st t
theorem ePS : @L2.PS = @PS:=by unfold PS;rfl
@[irreducible] noncomputable def PSs (X:Cx) (st:List Stmt) (t:TS):Prop:=L2.PSs X st t
theorem ePSs : @L2.PSs = @PSs:=by unfold PSs;rfl
@[irreducible] noncomputable def PG (X:Cx) (g:Expr) (t:TG):Prop:=L2.PG X g t
theorem ePG : @L2.PG = @PG:=by unfold PG;rfl
@[irreducible] noncomputable def PGs (X:Cx) (ts:List Expr) (t:TGs):Prop:=L2.PGs X ts t
theorem ePGs : @L2.PGs = @PGs:=by unfold PGs;rfl
@[irreducible] noncomputable def PI (X:Cx) (tg iter:Expr) (wi:TI):Prop:=L2.PI X tg iter wi
theorem ePI : @L2.PI = @PI:=by unfold PI;rfl
@[irreducible] noncomputable def PFs (X:Cx) (ifs:List Expr) (t:TT):Prop:=L2.PFs X ifs t
theorem ePFs : @L2.PFs = @PFs:=by unfold PFs;rfl
noncomputable def zAw:=by have h:=@L2.zAw;rw [ePS,ePSs,ePT] at h;exact @h
noncomputable def zCx:=by have h:=@L2.zCx;rw [ePE] at h;exact @h
noncomputable def zB2:=by have h:=@L2.zB2;rw [ePE,ePT] at h;exact @h
noncomputable def zEg:=by have h:=@L2.zEg;rw [ePE,ePS,ePG] at h;exact @h
noncomputable def zB3:=by have h:=@L2.zB3;rw [ePE,ePA] at h;exact @h
noncomputable def zA9:=by have h:=@L2.zA9;rw [ePE,ePA] at h;exact @h
noncomputable def zAj:=by have h:=@L2.zAj;rw [ePE,ePS] at h;exact @h
noncomputable def fn_of:=by have h:=@L2.fn_of;rw [ePSs] at h;exact @h
noncomputable def zG4:=by have h:=@L2.zG4;rw [ePE,ePA] at h;exact @h
noncomputable def zAs:=by have h:=@L2.zAs;rw [ePE] at h;exact @h
noncomputable def zDo:=by have h:=@L2.zDo;rw [ePE] at h;exact @h
noncomputable def zD3:=by have h:=@L2.zD3;rw [ePE,ePA] at h;exact @h
noncomputable def zD0:=by have h:=@L2.zD0;rw [ePT,ePW] at h;exact @h
noncomputable def zDd:=by have h:=@L2.zDd;rw [ePE] at h;exact @h
noncomputable def pe_bm0:=by have h:=@L2.pe_bm0;rw [ePE] at h;exact @h
noncomputable def zAh:=by have h:=@L2.zAh;rw [ePE] at h;exact @h
noncomputable def pv:=by have h:=@L2.pv;rw [ePE] at h;exact @h
noncomputable def zFi:=by have h:=@L2.zFi;rw [ePE,ePS] at h;exact @h
noncomputable def zA6:=by have h:=@L2.zA6;rw [ePS,ePSs] at h;exact @h
noncomputable def zBq:=by have h:=@L2.zBq;rw [ePE] at h;exact @h
noncomputable def zC1:=by have h:=@L2.zC1;rw [ePGs] at h;exact @h
noncomputable def zDz:=by have h:=@L2.zDz;rw [ePG,ePGs] at h;exact @h
noncomputable def zA3:=by have h:=@L2.zA3;rw [ePS,ePSs] at h;exact @h
noncomputable def bin:=by have h:=@L2.bin;rw [ePE] at h;exact @h
noncomputable def zG6:=by have h:=@L2.zG6;rw [ePE,ePT] at h;exact @h
noncomputable def zDq:=by have h:=@L2.zDq;rw [ePE] at h;exact @h
noncomputable def zAq:=by have h:=@L2.zAq;rw [ePSs] at h;exact @h
noncomputable def zBb:=by have h:=@L2.zBb;rw [ePE] at h;exact @h
noncomputable def zAm:=by have h:=@L2.zAm;rw [ePG,ePGs] at h;exact @h
noncomputable def zE3:=by have h:=@L2.zE3;rw [ePS,ePSs,ePT] at h;exact @h
noncomputable def pe_var:=by have h:=@L2.pe_var;rw [ePE] at h;exact @h
noncomputable def zAc:=by have h:=@L2.zAc;rw [ePG] at h;exact @h
noncomputable def zDc:=by have h:=@L2.zDc;rw [ePA,ePI] at h;exact @h
noncomputable def zG2:=by have h:=@L2.zG2;rw [ePE,ePT] at h;exact @h
noncomputable def zDa:=by have h:=@L2.zDa;rw [ePS,ePSs,ePG,ePI] at h;exact @h
noncomputable def zAp:=by have h:=@L2.zAp;rw [ePE,ePT] at h;exact @h
noncomputable def zA7:=by have h:=@L2.zA7;rw [ePE,ePA] at h;exact @h
noncomputable def zFk:=by have h:=@L2.zFk;rw [ePE] at h;exact @h
noncomputable def zEr:=by have h:=@L2.zEr;rw [ePE] at h;exact @h
noncomputable def zCw:=by have h:=@L2.zCw;rw [ePT,ePW] at h;exact @h
noncomputable def zBc:=by have h:=@L2.zBc;rw [ePE,ePA] at h;exact @h
noncomputable def zEi:=by have h:=@L2.zEi;rw [ePE] at h;exact @h
noncomputable def binT:=by have h:=@L2.binT;rw [ePE] at h;exact @h
noncomputable def zD2:=by have h:=@L2.zD2;rw [ePE] at h;exact @h
noncomputable def zAg:=by have h:=@L2.zAg;rw [ePSs] at h;exact @h
noncomputable def PW.pt:=by have h:=@L2.PW.pt;rw [ePT,ePW] at h;exact @h
noncomputable def zEk:=by have h:=@L2.zEk;rw [ePE,ePA] at h;exact @h
noncomputable def zEf:=by have h:=@L2.zEf;rw [ePT,ePW] at h;exact @h
noncomputable def zBz:=by have h:=@L2.zBz;rw [ePT] at h;exact @h
noncomputable def zAz:=by have h:=@L2.zAz;rw [ePE] at h;exact @h
noncomputable def zG8:=by have h:=@L2.zG8;rw [ePE] at h;exact @h
noncomputable def zA2:=by have h:=@L2.zA2;rw [ePA] at h;exact @h
noncomputable def zA4:=by have h:=@L2.zA4;rw [ePE] at h;exact @h
noncomputable def zAn:=by have h:=@L2.zAn;rw [ePE,ePI] at h;exact @h
noncomputable def PT.nox:=by have h:=@L2.PT.nox;rw [ePT] at h;exact @h
noncomputable def zAe:=by have h:=@L2.zAe;rw [ePE] at h;exact @h
noncomputable def zAb:=by have h:=@L2.zAb;rw [ePE,ePS] at h;exact @h
noncomputable def zBj:=by have h:=@L2.zBj;rw [ePE] at h;exact @h
noncomputable def zB9:=by have h:=@L2.zB9;rw [ePE] at h;exact @h
noncomputable def Fun.ok:=by have h:=@L2.Fun.ok;rw [ePSs] at h;exact @h
noncomputable def zB0:=by have h:=@L2.zB0;rw [ePT] at h;exact @h
noncomputable def pe_not:=by have h:=@L2.pe_not;rw [ePE] at h;exact @h
noncomputable def pg_sub:=by have h:=@L2.pg_sub;rw [ePE,ePG] at h;exact @h
noncomputable def zCc:=by have h:=@L2.zCc;rw [ePE] at h;exact @h
noncomputable def zAr:=by have h:=@L2.zAr;rw [ePE,ePA] at h;exact @h
noncomputable def PSs.nox:=by have h:=@L2.PSs.nox;rw [ePSs] at h;exact @h
noncomputable def zA0:=by have h:=@L2.zA0;rw [ePE,ePA] at h;exact @h
noncomputable def zD9:=by have h:=@L2.zD9;rw [ePE,ePT] at h;exact @h
noncomputable def PE.nox:=by have h:=@L2.PE.nox;rw [ePE] at h;exact @h
noncomputable def zDn:=by have h:=@L2.zDn;rw [ePE,ePS] at h;exact @h
noncomputable def zF7:=by have h:=@L2.zF7;rw [ePT,ePW] at h;exact @h
noncomputable def pc_din:=by have h:=@L2.pc_din;rw [ePE] at h;exact @h
noncomputable def zG7:=by have h:=@L2.zG7;rw [ePE] at h;exact @h
noncomputable def zCj:=by have h:=@L2.zCj;rw [ePE] at h;exact @h
noncomputable def ps_dput:=by have h:=@L2.ps_dput;rw [ePE,ePS] at h;exact @h
noncomputable def zEl:=by have h:=@L2.zEl;rw [ePE] at h;exact @h
noncomputable def zE9:=by have h:=@L2.zE9;rw [ePE,ePG,ePFs] at h;exact @h
noncomputable def zBu:=by have h:=@L2.zBu;rw [ePE,ePS,ePG,ePI,ePFs] at h;exact @h
noncomputable def zAu:=by have h:=@L2.zAu;rw [ePE,ePG,ePI,ePFs] at h;exact @h
noncomputable def pf_one:=by have h:=@L2.pf_one;rw [ePT,ePFs] at h;exact @h
noncomputable def zB6:=by have h:=@L2.zB6;rw [ePFs] at h;exact @h
noncomputable def zFj:=by have h:=@L2.zFj;rw [ePE,ePI] at h;exact @h
noncomputable def Fun.okC:=by have h:=@L2.Fun.okC;rw [ePSs] at h;exact @h
noncomputable def pi_zip:=by have h:=@L2.pi_zip;rw [ePA,ePI] at h;exact @h
noncomputable def zEh:=by have h:=@L2.zEh;rw [ePG,ePGs] at h;exact @h
noncomputable def zD1:=by have h:=@L2.zD1;rw [ePE] at h;exact @h
noncomputable def pe_bmK:=by have h:=@L2.pe_bmK;rw [ePE,ePA] at h;exact @h
noncomputable def zE4:=by have h:=@L2.zE4;rw [ePA] at h;exact @h
noncomputable def zC4:=by have h:=@L2.zC4;rw [ePA] at h;exact @h
noncomputable def zGo:=by have h:=@L2.zGo;rw [ePE] at h;exact @h
noncomputable def pe_rev:=by have h:=@L2.pe_rev;rw [ePE] at h;exact @h
noncomputable def zEj:=by have h:=@L2.zEj;rw [ePE,ePA] at h;exact @h
noncomputable def pi_enum:=by have h:=@L2.pi_enum;rw [ePA,ePI] at h;exact @h
noncomputable def FunL.okC:=by have h:=@L2.FunL.okC;rw [ePSs] at h;exact @h
noncomputable def pe_odd:=by have h:=@L2.pe_odd;rw [ePE] at h;exact @h
noncomputable def zDp:=by have h:=@L2.zDp;rw [ePE] at h;exact @h
end L2.W
namespace L2
open PySem PySem.Spec PyProof.Rows
noncomputable def XO (C a:Addr):HO:=.ext fun h=>∃ o vs,h.get? a=some o∧o.cls=.ref C∧o.data=.fields vs
section
variable {P:Program}{w:World}{H:Hp}{h:Heap}{a C:Addr}{o:HO}
theorem xo_ok {ob:Obj}{vs:Array Value} (e:h.get? a=some ob) (c:ob.cls=.ref C) (d:ob.data=.fields vs):ObjOk P w H h a (XO C a) :=
 ⟨⟨ob,vs,e,c,d⟩,⟨ob,e⟩,fun _ _ ⟨o,vs,e,c,d⟩ k=>⟨o,vs,k _ e,c,d⟩⟩
theorem xo_of (ok:HOk P w H h) (e:H a=some (XO C a)):∃ o vs,h.get? a=some o∧o.cls=.ref C∧o.data=.fields vs:=(show ObjOk P w H h a (XO C a) from ok a _ e).1
theorem ObjOk.ex (x:ObjOk P w H h a o):∃ ob,h.get? a=some ob:=by
 cases o with
 | lst xs=>obtain ⟨_,_,_,_,e⟩:=x;exact ⟨_,e⟩
 | tup xs=>obtain ⟨_,_,_,ob,e,_⟩:=x;exact ⟨_,e⟩
 | dK kvs=>obtain ⟨_,_,_,_,o,_,_,e,_⟩:=x;exact ⟨_,e⟩
 | dT kvs=>obtain ⟨_,_,_,_,o,_,_,e,_⟩:=x;exact ⟨_,e⟩
 | set S n=>obtain ⟨o,_,_,_,e,_⟩:=x;exact ⟨_,e⟩
 | ins C dx fs=>obtain ⟨_,_,_,e,_⟩:=x;exact ⟨_,e⟩
 | own y=>exact x
 | xd fs=>obtain ⟨_,⟨_,_,_,e,_⟩,_⟩:=x;exact ⟨_,e⟩
 | rng lo hi=>obtain ⟨_,_,_,e⟩:=x;exact ⟨_,e⟩
 | frz ob u=>exact ⟨_,x.1⟩
 | tbl ps=>exact ⟨_,x⟩
 | met f y=>exact ⟨_,x⟩
 | ext φ=>exact x.2.1
theorem HOk.noth (ok:HOk P w H h) (e:h.get? a=none):H a=none:=by
 cases q:H a with
 | none=>rfl
 | some u =>
  obtain ⟨ob,eb⟩:=(ok a u q).ex;rw [e] at eb;cases eb
end
noncomputable def Tr (G:Addr→Prop) (H:Hp) (h:Heap) (e:Addr):Prop:=∃ o vs a0 T oT ts,h.get? e=some o∧o.data=.fields vs∧vs[0]? = some a0∧vs[1]? = some (.ref T)∧G T∧H T=none∧h.get? T=some oT∧oT.data=.fields ts∧ts[3]? = some .none
noncomputable def Fresh (h:Heap) (e:Addr):Prop:=∃ o vs a0,h.get? e=some o∧o.data=.fields vs∧vs[0]? = some a0∧vs[1]? = some .none
theorem Tr.imp {G G':Addr→Prop}{H:Hp}{h:Heap}{e:Addr} (x:Tr G H h e) (f:∀ T,G T→G' T):Tr G' H h e :=
 let ⟨o,vs,a0,T,oT,ts,h1,h2,h3,h4,g,r⟩:=x
 ⟨o,vs,a0,T,oT,ts,h1,h2,h3,h4,f _ g,r⟩
noncomputable def CXM (P:Program) (w:World):CXT:=fun outer H s E u s'=>∃ e C H',u=.ref e∧s'.os=s.os∧AllBare s'.gens∧Un (frs outer) [] H H' s.heap s'.heap∧HOk P w H' s'.heap∧H' e=some (XO C e)∧Tr (fun T=>s.heap.get? T=none) H' s'.heap e∧E (.ref C) (some e) H'
theorem calmM {P:Program}{w:World}:Calm (CXM P w):=fun _ _ _ _ _ ⟨_,_,_,_,_,_,_,_,_,_,q⟩=>q
structure Mvd (l:List Env) (e T0:Addr) (cls a0 fl:Value) (h h':Heap):Prop where
 keep:∀ b o,h.get? b=some o→b≠e→b≠T0→b∉frs l→h'.get? b=some o
 slot:∀ b o,h.get? b=some o→b∈frs l→∃ sl,h'.get? b=some { o with slots:=sl }
 tr:∃ oe vs T oT ts,h'.get? e=some oe∧oe.cls=cls∧vs[0]? = some a0∧oe.data=.fields vs∧vs[1]? = some (.ref T)∧(T=T0∨h.get? T=none)∧T≠e∧h'.get? T=some oT∧oT.data=.fields ts∧ts[3]? = some fl
noncomputable abbrev bas (h:Heap) (l:List Env) (e T0:Addr):Heap:=PySem.W.hideAll h (e :: T0 :: frs l)
section
variable {base h h':Heap}{l:List Env}{e T0:Addr}{cls a0 fl:Value}
theorem moved (hl:h.FunFrames base l) (st:(bas h l e T0).StaysIn h') (ff:h'.FunFrames (bas h l e T0) l) (tr:h'.TracedAtW (bas h l e T0) e cls a0 fl) (up:h.UpToSlots h'):Mvd l e T0 cls a0 fl h h':=by
 refine ⟨fun b o q n1 n2 n3=>st b o (PySem.W.hideAll_get _ q ?_),fun b o q hb=>?_,?_⟩
 ·intro z;rcases List.mem_cons.mp z with z | z
  ·exact n1 z
  ·rcases List.mem_cons.mp z with z | z
   ·exact n2 z
   ·exact n3 z
 ·obtain ⟨_,o',ho,hn⟩:=hl.mem hb;rw [q] at ho;cases ho;exact up b o q hn
 ·obtain ⟨oe,vs,T,oT,ts,he,⟨hc,h0⟩,hd,h1,hn,hne,hT,hdT,h3⟩:=tr;refine ⟨oe,vs,T,oT,ts,he,hc,h0,hd,h1,?_,hne,hT,hdT,h3⟩;cases q:h.get? T with
  | none=>exact .inr rfl
  | some o =>
   refine .inl (Classical.byContradiction fun nT=>?_);have:(bas h l e T0).get? T=some o:=PySem.W.hideAll_get _ q fun z=>by
    rcases List.mem_cons.mp z with z | z
    ·exact hne z
    ·rcases List.mem_cons.mp z with z | z
     ·exact nT z
     ·obtain ⟨_,o',ho,hnf⟩:=ff.mem z;rw [hT] at ho;cases ho;exact hnf _ hdT
   rw [hn] at this;cases this
theorem fly_of (hl:h.FunFrames base l) {oe oT:Obj}{vs ts:Array Value} (he:h.get? e=some oe) (hd:oe.data=.fields vs) (h0:vs[0]? = some a0) (h1:vs[1]? = some (.ref T0)) (hne:T0≠e) (hT:h.get? T0=some oT) (hdT:oT.data=.fields ts) (h3:ts[3]? = some .none) :
  Heap.FlyingW (bas h l e T0) l e oe.cls a0 h :=
 ⟨fun b o q=>PySem.W.of_hideAll _ q,PySem.W.hideAll_none _ (.head _),PySem.W.funFrames_hide hl fun env he a ea=>.tail _ (.tail _ (List.mem_filterMap.mpr ⟨env,he,ea⟩)),oe,vs,T0,oT,ts,he,⟨rfl,h0⟩,hd,h1,PySem.W.hideAll_none _ (.tail _ (.head _)),hne,hT,hdT,h3⟩
end
section
variable {X:Cx}{pins:List (Addr×Obj)}{σ : St}{H:Hp}{s:Shared}{e C T0:Addr}{h':Heap}{cls a0 fl:Value}
theorem Mvd.ex (m:Mvd X.stack e T0 cls a0 fl s.heap h') (b:Addr) (o:Obj) (q:s.heap.get? b=some o) (h2:b≠T0):∃ o',h'.get? b=some o':=by
 obtain ⟨oe,_,_,_,_,he,_⟩:=m.tr;by_cases h1:b=e
 ·rw [h1];exact ⟨oe,he⟩
 ·by_cases h3:b∈frs X.stack
  ·obtain ⟨sl,z⟩:=m.slot b o q h3;exact ⟨_,z⟩
  ·exact ⟨o,m.keep b o q h1 h2 h3⟩
theorem Mvd.hok (m:Mvd X.stack e T0 (.ref C) a0 fl s.heap h') (I:Inv X pins σ H s) (he:H e=some (XO C e)) (hT:T0=e∨H T0=none):HOk X.prog X.w H h':=fun b u eb=>by
 by_cases h1:b=e
 ·subst h1;rw [he] at eb;cases eb;obtain ⟨oe,vs,_,_,_,h2,h3,_,h4,_⟩:=m.tr;exact xo_ok h2 h3 h4
 ·refine (I.hok b u eb).stay (fun c v hc q=>m.keep c v q ?_ ?_ ?_) (fun _ q=>q) fun _ _ q=>q
  ·rintro rfl;rcases hc with z | z
   ·exact h1 z.symm
   ·rw [he] at z;cases z
  ·rintro rfl;rcases hT with z | z
   ·subst z;rcases hc with z | z
    ·exact h1 z.symm
    ·rw [he] at z;cases z
   ·rcases hc with y | y
    ·rw [← y,z] at eb;cases eb
    ·rw [z] at y;cases y
  ·intro z;have:=I.stkFree c z;rcases hc with y | y
   ·rw [← y,this] at eb;cases eb
   ·rw [this] at y;cases y
theorem Inv.moved {t':Nat} (I:Inv X pins σ H s) (he:H e=some (XO C e)) (hT:H T0=none) (h0:X.s₀.heap.get? T0=none) (hp:∀ p∈X.pn++pins,p.1≠T0) {oT:Obj}{ts:Array Value} (eT:s.heap.get? T0=some oT) (dT:oT.data=.fields ts)
  (m:Mvd X.stack e T0 (.ref C) a0 fl s.heap h'):Inv X pins σ H { s with heap:=h',toks:=t' }:=by
 have nL:T0≠X.env.locals:=by
  rintro rfl;obtain ⟨_,⟨o,es,ep,ho,hd,_⟩,_⟩:=I.loc;rw [ho] at eT;cases eT;rw [hd] at dT;cases dT
 have nC:∀ x c,X.env.cells.lookup x=some c→c≠T0:=by
  rintro x c hc rfl;obtain ⟨v,o,ho,hd⟩:=I.cell x c hc;rw [ho] at eT;cases eT;rw [hd] at dT;cases dT
 have neS:∀ b,H b=none→b≠e:=fun b n z=>by rw [z,he] at n;cases n
 have sub:∀ b,b∈X.fs→b∈frs X.stack:=fun b hb=>by
  rcases I.ok.stk with z | ⟨z,hf⟩
  ·rw [z];exact hb
  ·rw [z];unfold frs;rw [Y3,hf];exact Z6 _ hb
 refine I.step (g':=s.gens) (d':=s.drawn) (ch:=[T0]) (fun b hb=>?_) (fun b o n1 n2 n3 q n=>m.keep b o q (neS b n) (fun z=>n3 (by simp [z])) fun z=>(List.mem_cons.mp (I.stkSub b z)).elim n1 n2)
  (fun b o n1 n2 n3 q n=>m.slot b o q (sub b n2)) (fun b o _ _ n=>n) (fun b o n q=>m.ex b o q fun z=>n (by simp [z])) (fun _ _ q=>q) (fun _ _ _ q=>q) (fun b ps q=>⟨#[],by rw [q];simp⟩) (fun mm hm=>?_) (m.hok I he (.inr hT)) I.bare
 ·have:b=T0:=by simpa using hb
  subst this;exact ⟨.inr h0,nL,nC,hp⟩
 ·obtain ⟨o,es,ep,ho,hd,r⟩:=hm;by_cases z:X.env.locals∈frs X.stack
  ·obtain ⟨sl,q⟩:=m.slot _ _ ho z;exact ⟨_,es,ep,q,hd,r⟩
  ·exact ⟨o,es,ep,m.keep _ _ ho (neS _ I.free) (Ne.symm nL) z,hd,r⟩
theorem leave_cx {E:XK}{E':Value→Shared→Prop} (I:Inv X pins σ H s) (hx:X.ex=[]) (hs:X.stack=X.env :: X.outer) (hf:X.env.frame=some X.env.locals) (he:H e=some (XO C e)) (fl:Fresh s.heap e∨Tr (fun T=>X.s₀.heap.get? T=none) H s.heap e) (q:E (.ref C) (some e) H) :
  wpAny (model X.prog X.w) X.A (leaving X.env (.ref e)) (fun _ s''=>CXM X.prog X.w X.outer X.H₀ X.s₀ E (.ref e) s'') E' s:=by
 have hfr:X.A.frames=some (X.env :: X.outer):=by rw [← hs];exact I.ok.frames
 have hl:s.heap.FunFrames X.base (X.env :: X.outer):=by rw [← hs];exact I.stack
 obtain ⟨ox,vx,hox,hcx,hdx⟩:=xo_of I.hok he;have fin:∀ (T0:Addr) (h':Heap) (a0:Value),(T0=e∨(H T0=none∧X.s₀.heap.get? T0=none))→Mvd X.stack e T0 (.ref C) a0 .none s.heap h'→CXM X.prog X.w X.outer X.H₀ X.s₀ E (.ref e) { s with heap:=h' }:=by
  intro T0 h' a0 hT m;have hT1:T0=e∨H T0=none:=hT.imp_right fun z=>z.1;have back:∀ b o,X.s₀.heap.get? b=some o→∃ o',s.heap.get? b=some o':=fun b o z=>I.base.there b o z (by rw [hx];simp);have nT:∀ b o,X.s₀.heap.get? b=some o→H b=none→b≠T0:=fun b o z n y=>by
   rcases hT with w | ⟨_,w⟩
   ·rw [y,w,he] at n;cases n
   ·rw [y,w] at z;cases z
  have nE:∀ b,H b=none→b≠e:=fun b n z=>by rw [z,he] at n;cases n
  have nL:∀ b o,X.s₀.heap.get? b=some o→b≠X.env.locals:=fun b o z=>Zc (Z7 (Z8 z) I.ok.above);have inS:∀ b,b∈frs X.stack→b=X.env.locals∨b∈frs X.outer:=fun b z=>List.mem_cons.mp (I.stkSub b z);obtain ⟨oe,vs,T,oT,ts,h1,h2,h3,h4,h5,h6,h7,h8,h9,h10⟩:=m.tr;refine ⟨e,C,H,rfl,I.os,I.bare,⟨fun b o z n hb _=>?_,fun b o z n hb _=>?_,fun b o z n _=>I.base.free b o z n (by rw [hx];simp),fun b o z _=>?_,I.base.tups,I.base.frzs,I.base.tbls⟩,m.hok I he hT1,he,⟨oe,vs,a0,T,oT,ts,h1,h4,h3,h5,?_,?_,h8,h9,h10⟩,q⟩
  ·have n':=I.base.free b o z n (by rw [hx];simp);exact m.keep b o (I.base.keep b o z n hb (by rw [hx];simp)) (nE b n') (nT b o z n') fun y=>(inS b y).elim (nL b o z) hb
  ·obtain ⟨sl,z1⟩:=I.base.slot b o z n hb (by rw [hx];simp);obtain ⟨sl',z2⟩:=m.slot b _ z1 (by rw [hs];unfold frs;rw [Y3,hf];exact Z6 _ hb);exact ⟨sl',z2⟩
  ·obtain ⟨o',z1⟩:=back b o z;by_cases y:b=T0
   ·rcases hT with w | ⟨_,w⟩
    ·rw [y,w];exact ⟨oe,h1⟩
    ·rw [y,w] at z;cases z
   ·exact m.ex b o' z1 y
  ·show X.s₀.heap.get? T=none;rcases h6 with z | z
   ·rcases hT with y | ⟨_,y⟩
    ·exact absurd (z.trans y) h7
    ·rw [z];exact y
   ·cases y:X.s₀.heap.get? T with
    | none=>rfl
    | some o =>
     obtain ⟨o',y1⟩:=back T o y;rw [z] at y1;cases y1
  ·rcases h6 with z | z
   ·rcases hT with y | ⟨y,_⟩
    ·exact absurd (z.trans y) h7
    ·rw [z];exact y
   ·exact I.hok.noth z
 rcases fl with ⟨oe,vs,a0,h1,h2,h3,h4⟩ | ⟨oe,vs,a0,T0,oT,ts,h1,h2,h3,h4,g,n,h5,h6,h7⟩
 ·rw [h1] at hox;cases hox;refine wpAny_leaving_firstW (base:=bas s.heap (X.env :: X.outer) e e) (a0:=a0) hfr (PySem.W.funFrames_hide hl fun env he a ea=>.tail _ (.tail _ (List.mem_filterMap.mpr ⟨env,he,ea⟩))) hf h1 (fun b o z=>PySem.W.of_hideAll _ z) (PySem.W.hideAll_none _ (.head _)) h2 h4 h3 fun h' hL=>?_;obtain ⟨k1,k2,k3,k4⟩:=hL;rw [hcx] at k3;refine fin e h' a0 (.inl rfl) ?_;rw [hs];exact L2.moved hl k1 k2 k3 k4
 ·rw [h1] at hox;cases hox;have hne:T0≠e:=fun z=>by rw [z,he] at n;cases n
  have F:=fly_of hl h1 h2 h3 h4 hne h5 h6 h7;rw [hcx] at F;refine wpAny_leaving_nextW hfr F.2.2.1 hf F.2.2.2 F.1 F.2.1 fun h' hL=>?_;obtain ⟨k1,k2,k3,k4⟩:=hL;have m:=L2.moved hl k1 k2 k3 k4;exact fin T0 h' a0 (.inr ⟨n,g⟩) (by rw [hs];exact m)
end
end L2
namespace L2
open PySem PySem.Spec PyProof.Rows
theorem zGl {K:PySem.W.Frag}{h:Heap}{C:Addr}{bmB:List Value}{newId:String} (X:K.In h) (q:PySem.W.excIn K C bmB newId=true) :
  ∃ bm N nm q bs hdct sn sub ab col dd k0 k1 k2 k3 k5 mN,h.get? C=some (excClassObj nm q C N bs bm hdct sn sub ab col dd k0 k1 k2 k3 k5 newId)∧h.Ns N mN∧mN "__init__" = none∧OwnTail h bmB bm:=by
 unfold PySem.W.excIn at q;split at q
 ·rename_i dd cd sl ho
  split at q
  ·rename_i C' bm k0 k1 k2 k3 n k5 hm hs
   simp only [Zu,beq_iff_eq,Bool.not_eq_true'] at q;obtain ⟨⟨⟨⟨⟨rfl,rfl⟩,hdel⟩,ht⟩,hok⟩,hni⟩:=q;obtain ⟨nm,bs,mro,ns,qn,hd,sn,sub,ab,col,del⟩:=cd;dsimp only at hm hdel hok hni;subst hm hdel;have hsl:sl = #[k0,k1,k2,k3,some (.builtin n),k5]:=by
    obtain ⟨l⟩:=sl;simp only at hs;rw [hs]
   subst hsl;exact ⟨bm,ns,nm,qn,bs,hd,sn,sub,ab,col,dd,k0,k1,k2,k3,k5,_,X _ _ ho,.of_isNs (PySem.W.isNs_of_in X hok),PySem.W.nsMap_none_of_in X hok hni,PySem.W.tail_of_in X ht⟩
  ·cases q
 ·cases q
section
variable {X:Cx}{pins:List (Addr×Obj)}{σ : St}{H H':Hp}{s:Shared}{e C:Addr}{h h':Heap}{o:HO}
theorem Un.born {fs ex:List Addr} (k:∀ b u,h.get? b=some u→h'.get? b=some u) (hp:h.get? e=none) (hn:H e=none):Un fs ex H (upd H e o) h h' where
 keep:=fun b u q _ _ _=>k b u q
 slot:=fun b u q _ _ _=>⟨u.slots,k b u q⟩
 free:=fun b u q n _=>by rw [zAa (fun z=>by rw [z,hp] at q;cases q)];exact n
 there:=fun b u q _=>⟨u,k b u q⟩
 tups:=fun b xs q=>by rw [zAa (zA5 q hn)];exact q
 frzs:=fun b u xs q=>by rw [zAa (zA5 q hn)];exact q
 tbls:=fun b ps q=>⟨#[],by rw [zAa (zA5 q hn),q];simp⟩
theorem HOk.born {P:Program}{w:World} (x:HOk P w H h) (k:∀ b u,h.get? b=some u→h'.get? b=some u) (hp:h.get? e=none) (new:ObjOk P w (upd H e o) h' e o):HOk P w (upd H e o) h':=fun b u q=>by
 have hn:=x.noth hp;by_cases hb:b=e
 ·subst hb;rw [zA1] at q;cases q;exact new
 ·rw [zAa hb] at q;exact (x b u q).stay (fun c v _ q=>k c v q) (fun c q=>by rw [zAa (zA5 q hn)];exact q) fun c xs q=>by rw [zAa (zA5 q hn)];exact q
theorem Inv.born {t':Nat} (I:Inv X pins σ H s) (k:∀ b u,s.heap.get? b=some u→h'.get? b=some u) (hp:s.heap.get? e=none) (new:ObjOk X.prog X.w (upd H e o) h' e o):Inv X pins σ (upd H e o) { s with heap:=h',toks:=t' } :=
 I.un (Un.born k hp (I.hok.noth hp)) (I.hok.born k hp new)
theorem Inv.cx {s':Shared}{E:XK}{u:Value} (I:Inv X pins σ H s) (c:CXM X.prog X.w X.stack H s E u s') :
  ∃ e C H',u=.ref e∧Inv X pins σ H' s'∧H' e=some (XO C e)∧Tr (fun T=>s.heap.get? T=none) H' s'.heap e∧E (.ref C) (some e) H':=by
 obtain ⟨e,C,H',rfl,os,bare,un,hok,he,tr,q⟩:=c;exact ⟨e,C,H',rfl,I.call' (ch:=[]) os un hok bare (fun b z=>absurd z (by simp)),he,tr,q⟩
theorem Inv.back (I:Inv X pins σ H s) (hx:X.ex=[]) {T:Addr} (n:s.heap.get? T=none):X.s₀.heap.get? T=none:=by
 cases y:X.s₀.heap.get? T with
 | none=>rfl
 | some o =>
  obtain ⟨o',y1⟩:=I.base.there T o y (by rw [hx];simp);rw [n] at y1;cases y1
end
section
variable {P:Program}{w:World}{K:PySem.W.Frag}{mg:Str→Option Value}{base:Heap}{N:List Str}{qual:Str}{scope:Scope}{f:Addr}{cd:Value}{A:Around}{outer:List Env}{s:Shared}{H:Hp}{E:XK}
noncomputable abbrev cxM (P:Program) (w:World) (K:PySem.W.Frag) (mg:Str→Option Value) (base:Heap) (N:List Str) (qual:Str) (scope:Scope) (f:Addr) (cd:Value) (A:Around) (outer:List Env) (s:Shared) (H:Hp) (E:XK):Cx:=cxOf (CXM P w) P w K mg base N qual scope f cd A outer s H E
theorem zEa {pins:List (Addr×Obj)}{σ : St}{H':Hp}{s':Shared}{e C:Addr} (I:Inv (cxM P w K mg base N qual scope f cd A outer s H E) pins σ H' s') (he:H' e=some (XO C e)) (fl:Fresh s'.heap e∨Tr (fun T=>s.heap.get? T=none) H' s'.heap e) (q:E (.ref C) (some e) H') :
  (cxM P w K mg base N qual scope f cd A outer s H E).xe (.ref e) s':=leave_cx I rfl rfl rfl he fl q
theorem pass_on:Passes (CXM P w) (cxM P w K mg base N qual scope f cd A outer s H E) (fun _=>E):=fun pins σ H1 s1 u s2 I c=>by
 obtain ⟨e,C,H',rfl,I',he,tr,q⟩:=I.cx c;exact zEa I' he (.inr (tr.imp fun T n=>I.back rfl n)) q
end
section
variable {X:Cx}{x:Str}{np cpos pos:Pos}{a:Expr}{as:List Expr}{t:TA}{C:Addr}{W:St→Addr→Hp→Prop}
theorem zC0 (hc:PySem.W.excIn X.K C [.type "ValueError",.type "Exception",.type "BaseException",.type "object"] "ValueError.__new__" = true) (hg:Gl X x) (hm:X.mg x=some (.ref C)) (hcm:X.calm=true) (ha:PA X (a :: as) t)
  (hx:∀ pins σ H s e,Inv X pins σ H s→H e=some (XO C e)→Fresh s.heap e→W σ e H→X.xe (.ref e) s) (hdb:(x == ("__debug__" : Str))=false:=by decide)
  (he:starEach (a :: as) X.env=(false,eval a X.env) :: starEach as X.env:=by rfl) (hpl:(backTo cpos (starEach as X.env)).any (·.1)=false:=by rfl) :
  PS X (.Raise (some (.Call (.Name x np) (a :: as) [] cpos)) none pos) (fun _ σ H=>t σ H fun vs H1=>vs.length≤sizeLine∧∀ e,H1 e=none→W σ e (upd H1 e (XO C e))):=by
 intro pins s σ H D I h;obtain ⟨bm,N,nm,q,bs,hdct,sn,sub,ab,col,dd,k0,k1,k2,k3,k5,mN,hC,hN,hni,T⟩:=zGl I.ok.mod.kin hc;have hA:=ha cpos pins s σ H _ I h;refine wpAny_Raise_call_subU (C:=C) (nm:=nm) (q:=q) (N:=N) (bs:=bs) (bm:=bm) (hdct:=hdct) (sn:=sn) (sub:=sub) (ab:=ab) (col:=col) (dd:=dd) (k0:=k0) (k1:=k1) (k2:=k2) (k3:=k3) (k5:=k5)
  PySem.F.excBase_ValueError PySem.F.excBase_ValueError.hasB PySem.F.excBase_ValueError (mN:=mN) (T.hasType PySem.F.excBase_ValueError.hasBase) (I.ok.hd hcm) (by rw [he];show (false || (backTo cpos (starEach as X.env)).any (·.1))=false;rw [hpl];rfl) hni (zDt I hg hm ⟨rfl,?_⟩ hdb)
 rw [he] at hA ⊢;refine Calls.evalArgs_plain (thn hA fun us s2 ⟨vs,H2,I2,r,hz,k⟩=>⟨rfl,by rw [← r.length];exact hz,I2.bk _ _ hC,hN.keeps I2.bk,T.keeps I2.bk,fun h' e hm=>?_⟩);obtain ⟨tt,h1,h2,h3⟩:=hm.there;exact hx pins σ _ { s2 with heap:=h' } e (I2.born (t':=s2.toks) (o:=XO C e) hm.keeps hm.new (xo_ok h1 rfl rfl)) zA1 ⟨_,_,_,h1,rfl,rfl,rfl⟩ (k e (I2.hok.noth hm.new))
end
end L2
namespace L2
open PySem PySem.Spec PyProof.Rows
noncomputable abbrev TW:=St→Addr→Addr→Hp→Prop
noncomputable def Cx.tri (X:Cx) (pins:List (Addr×Obj)) (W:TW):Cx:={ X with
 pn:=X.pn++pins
 xe:=fun u s'=>∃ e C σ' H',u=.ref e∧Inv X pins σ' H' s'∧H' e=some (XO C e)∧Tr (fun T=>X.s₀.heap.get? T=none∧∀ p∈X.pn++pins,p.1≠T) H' s'.heap e∧W σ' e C H' }
noncomputable def Cx.hnd (X:Cx) (e:Addr):Cx:={ X with
 A:=X.A.mark (some (.ref e))
 calm:=false
 xe:=fun _ _=>False }
section
variable {X:Cx}{pins pins':List (Addr×Obj)}{σ : St}{H:Hp}{s:Shared}{W:TW}{e:Addr}
theorem Cx.Ok.tri (ok:X.Ok):(X.tri pins W).Ok:=⟨ok.mod,ok.kind,ok.glob,ok.blt,ok.above,ok.inj,ok.has,ok.cab,ok.hd,ok.frames,ok.stk,ok.exf,ok.bs,ok.bsz,ok.noex,ok.exfs,ok.funs,ok.frf⟩
theorem Cx.Ok.untri (ok:(X.tri pins W).Ok):X.Ok:=⟨ok.mod,ok.kind,ok.glob,ok.blt,ok.above,ok.inj,ok.has,ok.cab,ok.hd,ok.frames,ok.stk,ok.exf,ok.bs,ok.bsz,ok.noex,ok.exfs,ok.funs,ok.frf⟩
theorem Cx.Ok.hnd (ok:X.Ok):(X.hnd e).Ok:=⟨ok.mod,ok.kind,ok.glob,ok.blt,ok.above,ok.inj,ok.has,ok.cab,(fun z=>Bool.noConfusion (show false=true from z)),ok.frames,ok.stk,ok.exf,ok.bs,ok.bsz,ok.noex,ok.exfs,ok.funs,ok.frf⟩
theorem Inv.tri (I:Inv X pins σ H s):Inv (X.tri pins W) [] σ H s:=⟨I.ok.tri,I.os,I.bare,I.base,I.loc,I.cell,I.free,I.freeC,fun p hp=>I.pin p (by simpa [Cx.tri] using hp),I.hok,I.len⟩
theorem Inv.untri (I:Inv (X.tri pins W) pins' σ H s):Inv X pins σ H s:=⟨I.ok.untri,I.os,I.bare,I.base,I.loc,I.cell,I.free,I.freeC,fun p hp=>I.pin p (Zr _ hp),I.hok,I.len⟩
theorem Inv.hnd (I:Inv X pins σ H s):Inv (X.hnd e) pins σ H s:=⟨I.ok.hnd,I.os,I.bare,I.base,I.loc,I.cell,I.free,I.freeC,I.pin,I.hok,I.len⟩
theorem Inv.unhnd (ok:X.Ok) (I:Inv (X.hnd e) pins σ H s):Inv X pins σ H s:=⟨ok,I.os,I.bare,I.base,I.loc,I.cell,I.free,I.freeC,I.pin,I.hok,I.len⟩
theorem SP.untri {D:Ends}{f:Flow}{s':Shared} (h:SP (X.tri pins W) pins' D f s'):SP X pins D f s':=by
 cases f with
 | next=>obtain ⟨σ',H',I,q⟩:=h;exact ⟨σ',H',I.untri,q⟩
 | brk=>obtain ⟨σ',H',I,q⟩:=h;exact ⟨σ',H',I.untri,q⟩
 | cont=>obtain ⟨σ',H',I,q⟩:=h;exact ⟨σ',H',I.untri,q⟩
 | ret u=>obtain ⟨v,σ',H',I,r,q⟩:=h;exact ⟨v,σ',H',I.untri,r,q⟩
theorem pass_try (hx:X.ex=[]):Passes (CXM X.prog X.w) (X.tri pins W) (fun σ cls eo H'=>∃ e C,cls=.ref C∧eo=some e∧W σ e C H'):=fun pins' σ H1 s1 u s2 I c=>by
 obtain ⟨e,C,H',rfl,I',he,tr,e',C',h1,h2,q⟩:=I.cx c;cases h1;cases h2
 exact ⟨e,C,σ,H',rfl,I'.untri,he,tr.imp fun T n=>⟨I.back hx n,fun p hp z=>by
  have:=(I.pin p (Zr _ hp)).1;rw [z,n] at this
  cases this⟩,q⟩
theorem Inv.gone {i:Nat}{n:Str}{v:Option Value}{m:Str→Option Value}{h':Heap}{t':Nat} (I:Inv X pins σ H s) (hN:X.N.Nodup) (hi:X.N[i]? = some n)
  (hl:∀ (j:Nat) (x:Str) (v:V),X.N[j]? = some x→σ[j]? = some (some v)→Vis X.env.scope x→∃ u,RelV v u∧Look X.env s.heap m x u) (hn:h'.Ns X.env.locals (fun x=>if x=n then v else m x)) (hs:Heap.SameBut X.env.locals s.heap h') :
  Inv X pins (σ.set i none) H { s with heap:=h',toks:=t' }:=by
 obtain ⟨oL,_,_,hoL,_⟩:=id I.loc.choose_spec.1;have cne:=I.cne;refine ⟨I.ok,I.os,I.bare,⟨fun b o e n hb hx=>?_,fun b o e n hb hx=>?_,I.base.free,fun b o e hx=>?_,I.base.tups,I.base.frzs,I.base.tbls⟩,⟨_,hn,fun j y v' e1 e2 e3=>?_⟩,fun y c e=>?_,I.free,I.freeC,fun p hp=>?_,fun b ob e=>?_,by simpa using I.len⟩
 ·exact (hs.2 b (Zc (Z7 (Z8 e) I.ok.above))).trans (I.base.keep b o e n hb hx)
 ·obtain ⟨sl,e1⟩:=I.base.slot b o e n hb hx;exact ⟨sl,(hs.2 b (Zc (Z7 (Z8 e) I.ok.above))).trans e1⟩
 ·obtain ⟨o',e1⟩:=I.base.there b o e hx;exact ⟨o',(hs.2 b (Zc (Z7 (Z8 e) I.ok.above))).trans e1⟩
 ·have hj:j≠i:=by
   rintro rfl;rw [List.getElem?_set] at e2;simp only [if_true] at e2;split at e2 <;> cases e2
  rw [List.getElem?_set_ne (Ne.symm hj)] at e2;obtain ⟨u',r',q⟩:=hl j y v' e1 e2 e3;refine ⟨u',r',?_⟩;rcases q with ⟨k,e⟩ | ⟨k,c,e,z⟩
  ·refine .inl ⟨k,?_⟩;have:y≠n:=fun e=>hj (zGg hN e1 (e ▸ hi));simp [this,e]
  ·exact .inr ⟨k,c,e,z.sameBut hs (cne y c e)⟩
 ·obtain ⟨w',z⟩:=I.cell y c e;exact ⟨w',z.sameBut hs (cne y c e)⟩
 ·obtain ⟨e,n,ne,nf,d⟩:=I.pin p hp;exact ⟨(hs.2 p.1 ne).trans e,n,ne,nf,d⟩
 ·refine (I.hok b ob e).stay (fun c w' hc q=>(hs.2 c ?_).trans q) (fun _ q=>q) fun _ _ q=>q;rintro rfl;rcases hc with hc | hc
  ·rw [← hc,I.free] at e;cases e
  ·rw [I.free] at hc;cases hc
end
noncomputable def Ends.but (D:Ends) (i:Nat):Ends:={ nx:=fun σ H=>D.nx (σ.set i none) H,rt:=D.rt,bk:=fun σ H=>D.bk (σ.set i none) H,ct:=fun σ H=>D.ct (σ.set i none) H }
section
variable {X:Cx}{x n:Str}{np hpos pos:Pos}{body suite:List Stmt}{b₀ : Stmt}{i:Nat}{B:Addr}{tb:TW→TS}{th:Addr→TS}
theorem ps_try (hx:X.ex=[]) (hs:X.stack=X.env :: X.outer) (hf:X.env.frame=some X.env.locals) (hN:X.N.Nodup) (hi:X.N[i]? = some n) (hl:X.env.scope.names.lookup n=some .local) (hg:Gl X x) (hm:X.mg x=some (.ref B))
  (hb:∀ pins W,PSs (X.tri pins W) body (tb W)) (hh:∀ e,PSs (X.hnd e) (b₀ :: suite) (th e)) (hdb:(x == ("__debug__" : Str))=false:=by decide) :
  PS X (.Try body [.ExceptHandler (some (.Name x np)) (some n) (b₀ :: suite) hpos] [] [] pos) (fun D σ H=>∃ W:TW,tb W D σ H∧∀ σ' e C H',H' e=some (XO C e)→W σ' e C H'→PySem.W.exmOne X.K (.ref C) (.ref B)=some true∧th e (D.but i) (σ'.set i (some (.ref e))) H'):=by
 intro pins s σ H D I ⟨W,hbW,hW⟩;refine wpAny_Try_except (wpAny_mono (hb pins W [] s σ H D I.tri hbW) (fun f s1 h1=>?_) (fun u s1 h1=>?_))
 ·have h1:=h1.untri;cases f with
  | next =>
   obtain ⟨σ',H',I',q⟩:=h1;exact zAg pins s1 σ' H' D I' q
  | brk=>exact h1
  | cont=>exact h1
  | ret u=>exact h1
 ·obtain ⟨e,C,σ',H',rfl,I',he,tr,w⟩:=h1;obtain ⟨oe,vs,a0,T0,oT,ts,h1,h2,h3,h4,⟨g1,g2⟩,nT,h5,h6,h7⟩:=tr;obtain ⟨hK,hT⟩:=hW σ' e C H' he w;have hfr:X.A.frames=some (X.env :: X.outer):=by rw [← hs];exact I.ok.frames
  have hl':s1.heap.FunFrames X.base (X.env :: X.outer):=by rw [← hs];exact I'.stack
  obtain ⟨ox,vx,hox,hcx,hdx⟩:=xo_of I'.hok he;rw [h1] at hox;cases hox;have hne:T0≠e:=fun z=>by rw [z,he] at nT;cases nT
  have F:=fly_of hl' h1 h2 h3 h4 hne h5 h6 h7;rw [hcx] at F;have mv:∀ {h':Heap}{t':Nat},Heap.FlyingW (bas s1.heap (X.env :: X.outer) e T0) (X.env :: X.outer) e (.ref C) a0 h'→s1.heap.UpToSlots h'→Inv X pins σ' H' { s1 with heap:=h',toks:=t' }:=fun {h'}{t'} F up=>by
   have m:=L2.moved (fl:=.none) hl' F.1 F.2.2.1 F.2.2.2 up;rw [← hs] at m;exact I'.moved he nT g1 g2 h5 h6 m
  refine wpAny_looks_onW hfr hf F fun h₄ H4 up4=>?_;refine wpAny_landsW H4 fun h₅ F5 up5=>?_;have I5:=mv (t':=s1.toks) F5 (up4.trans up5);have I5h:=I5.hnd (e:=e);refine wpAny_handleBy_cons (codeAny_handlers_test (zDt I5h hg hm ?_ hdb)) (by intro q;cases q);obtain ⟨o5,ho5,hc5⟩:=F5.there;have LT:PySem.W.Looks (model X.prog X.w) h₅ (typeOf (.ref e)) (.ref C):=by
   rw [← hc5];exact (PySem.W.Looks.ld ho5).andThen .now
  refine PySem.W.exm_one I5.kIn LT hK _ _ _ _ (fun _ _ q=>q) ?_;refine codeAny_handlers_suite_as ?_;refine lands_againW F5 fun h₆ F6 up6=>?_;have I6:=(mv (t':=s1.toks) F6 ((up4.trans up5).trans up6)).hnd (e:=e);refine zFz (X:=X.hnd e) (i:=i) I6 hN hi (.inl hl) (v:=.ref e) rfl (fun s7 I7=>?_) (.inr hl);refine wpAny_mono (hh e pins s7 _ H' (D.but i) I7 hT) (fun f s8 h8=>?_) (fun _ _ z=>False.elim z);have done:∀ {σ8:St}{H8:Hp}{R:Unit→Shared→Prop}{E:Value→Shared→Prop},Inv (X.hnd e) pins σ8 H8 s8→(∀ s9,Inv X pins (σ8.set i none) H8 s9→R () s9)→wpAny (model X.prog X.w) X.A (do bindName X.env n .none;unbindBehindTheSuite X.env n hpos) R E s8:=fun {σ8 H8 R E} J r=>by
   have J:=J.unhnd I.ok;obtain ⟨m,hn,hloc⟩:=id J.loc;exact wpAny_nameGoes_keeps hl hn (by rw [I.ok.kind];rfl) fun h9 v hn9 hs9=>r _ (J.gone hN hi hloc hn9 hs9)
  cases f with
  | next=>obtain ⟨σ8,H8,J,q⟩:=h8;exact done J fun s9 J9=>⟨_,_,J9,q⟩
  | brk=>obtain ⟨σ8,H8,J,q⟩:=h8;exact done J fun s9 J9=>⟨_,_,J9,q⟩
  | cont=>obtain ⟨σ8,H8,J,q⟩:=h8;exact done J fun s9 J9=>⟨_,_,J9,q⟩
  | ret u=>obtain ⟨v,σ8,H8,J,r,q⟩:=h8;exact done J fun s9 J9=>⟨v,_,_,J9,r,q⟩
end
end L2
namespace L2
open PySem PySem.Spec PyProof.Rows PySem.W
section
variable {prog:Program}{w:World}{A:Around}{E:Value→Shared→Prop}{h:Heap}{g:Array GenState}{d:Drawn}{t:Nat}{os:OsState}{a:Addr}{o:Obj}
 {nm q:Str}{C N:Addr}{bs bm:List Value}{hdct:Bool}{sn:List Str}{sub:List Value}{ab:Bool}{col:Option Bool}{dd:Option Addr}{k0 k1 k2 k3 k5:Option Value}{newId:String}
theorem check_ga {M:Model}{nameV:Value}{Q:Unit→Shared→Prop} (hC:h.get? C=some (excClassObj nm q C N bs bm hdct sn sub ab col dd k0 k1 k2 k3 k5 newId)) (hcB:(Value.ref C :: bm).contains (.type "BaseException")=true)
  (hx:h.get? a=some o) (hc:o.cls=.ref C) (hq:Q () ⟨h,g,d,t,os⟩):wpAny M A (checkBuiltinCall "BaseException.__getattribute__" ⟨[.ref a,nameV],[]⟩) Q E ⟨h,g,d,t,os⟩:=by
 have hk:builtinKind "BaseException.__getattribute__" = some .slot:=by decide +kernel
 have hsplit:splitId "BaseException.__getattribute__" = some ("BaseException", "__getattribute__"):=by decide +kernel
 have ha:=PySem.F.args_bexc_ga (.ref a) nameV;simp only [checkBuiltinCall,hk,hsplit];refine wpAny_bind ?_
 ·unfold isInstance
  repeat (first | (with_reducible refine wpAny_loadPart_at hx ?_;rw [hc]) | (with_reducible refine wpAny_isSubtype_exc hC ?_;rw [hcB]) | wp_step)
  exact hq
end
section
variable {prog:Program}{w:World}{A:Around}{E:Value→Shared→Prop}{s:Shared}{K:Frag}{x C D:Addr}{ox:Obj}
open Builtin Builtin.ObjectAttr Builtin.Getset_descriptor in
theorem xc_get {R:Result→Shared→Prop}{tp:Value} (X:K.In s.heap) (L0:Looks (model prog w) s.heap (typeOf (.ref x)) (.ref D)) (hm:mroIn K D (.type "object")=some true) (h:R (.ok (.ret (.ref D))) s) :
  codeAny (model prog w) A (.call (.builtin "getset_descriptor.__get__") ⟨[.builtin "object.__class__",.ref x,tp],[]⟩) R s:=by
 obtain ⟨hh,g,dr,t,os⟩:=s;have L1:=looks_mroIn (M:=model prog w) X hm;refine codeAny_call_builtin KF.slot_gs.plain KF.entry_gs (KF.slot_gs.check _ _ _ _ _ _ _ _ KF.type_class (KF.args_gs _ _ _) ?_);unfold Builtin.«getset_descriptor.__get__» descrGet;rw [dga_obj];refine wpAny_bind (wpAny_pure ?_);unfold descrGetter descrCheckInstance descrNameAndClass isInstance;simp only [KF.owner_class];repeat lk
 refine ⟨Code.quiet_builtin _ (by decide +kernel),codeAny_builtin KF.entry_class ?_⟩;unfold Builtin.«object.__class__» shownTypeOf
 repeat lk
 exact h
theorem xc_class {Q:Option Value→Shared→Prop} (X:K.In s.heap) (hx:s.heap.get? x=some ox) (hc:ox.cls=.ref D) (hga:findIn K (.ref D) "__getattribute__" = some (some (.builtin "BaseException.__getattribute__"))) (hgt:findIn K (.ref D) "__getattr__" = some none)
  (hcf:findIn K (.ref D) "__class__" = some (some (.builtin "object.__class__"))) (hm:mroIn K D (.type "object")=some true) (hexc:excIn K D [.type "ValueError",.type "Exception",.type "BaseException",.type "object"] "ValueError.__new__" = true)
  (h:Q (some (.ref D)) { s with toks:=s.toks + 1 }):wpAny (model prog w) A (getAttr? (.ref x) "__class__") Q E s:=by
 obtain ⟨hh,g,d,t,os⟩:=s;have L0:Looks (model prog w) hh (typeOf (.ref x)) (.ref D):=by rw [← hc];exact (Looks.ld hx).andThen .now
 have L1:=looks_findIn (M:=model prog w) X hga;have L2:=looks_findIn (M:=model prog w) X hgt;have hx2:(Value.builtin "BaseException.__getattribute__" == Value.builtin "object.__getattribute__")=false:=by decide +kernel
 have hx1:(onTheHeap (Value.ref D) && Value.builtin "BaseException.__getattribute__" == Value.builtin "object.__getattribute__")=false:=by rw [hx2];rfl
 have f3:=PySem.F.attr_ValueError.ga.bind (.ref x);unfold getAttr? getAttrBy? getAttrBy;refine wpAny_bind (wpAny_mkText (wpAny_bind (wpAny_attempt (wpAny_holding (wpAny_bind (L0.at (wpAny_bind (L1.at ?_))))))));simp only [hx1,hx2];rw [if_neg (by simp)];unfold getAttrByItsOwn
 repeat (any_goals (first | assumption | with_reducible refine L2.at ?_ | with_reducible refine L0.at ?_ | with_reducible refine L1.at ?_ | wp_step))
 obtain ⟨bm,N,nm,q,bs,hdct,sn,sub,ab,col,dd,k0,k1,k2,k3,k5,mN,hC,hN,hni,T⟩:=zGl X hexc;refine codeAny_call_builtin PySem.F.attr_ValueError.ga.plain PySem.F.entry_bexc_ga (check_ga hC (by rw [List.contains_cons,T.hasType PySem.F.excBase_ValueError.hasBase];rfl) hx hc ?_);have L3:=looks_findIn (M:=model prog w) X hcf;have f5:typeOf (.builtin "object.__class__")=pure (.type "getset_descriptor"):=by kernel_rfl
 have f6:=PySem.F.slot_gs_get.lookup;have f7:=PySem.F.slot_gs_set.lookup
 repeat (any_goals (first | assumption | with_reducible refine L3.at ?_ | with_reducible refine L0.at ?_ | wp_step))
 refine xc_get X L0 hm ?_;exact wpAny_pure (handed_on rfl (wpAny_pure h))
structure XCls (K:Frag) (C:Addr):Prop where
 exc:excIn K C [.type "ValueError",.type "Exception",.type "BaseException",.type "object"] "ValueError.__new__" = true
 ga:findIn K (.ref C) "__getattribute__" = some (some (.builtin "BaseException.__getattribute__"))
 gt:findIn K (.ref C) "__getattr__" = some none
 cf:findIn K (.ref C) "__class__" = some (some (.builtin "object.__class__"))
 ob:mroIn K C (.type "object")=some true
theorem kitx_exc {e:Addr} (c:XCls K C):KitX K (.ref e) (.ref C) (fun h=>∃ ox,h.get? e=some ox∧ox.cls=.ref C) where
 ty:=fun _ _ _ ⟨_,hx,hc⟩=>by rw [← hc];exact (Looks.ld hx).andThen .now
 it:=fun _ _ X _=>by
  obtain ⟨bm,N,nm,q,bs,hdct,sn,sub,ab,col,dd,k0,k1,k2,k3,k5,mN,hC,_⟩:=zGl X c.exc;intro A' Q' E' s' k q;unfold isType loadHead;exact wpAny_bind (wpAny_loadPart (k _ _ hC) (wpAny_pure q))
 ne:=fun h tp dd its n sl X htp=>by
  obtain ⟨bm,N,nm,q,bs,hdct,sn,sub,ab,col,dd,k0,k1,k2,k3,k5,mN,hC,_⟩:=zGl X c.exc;refine Bool.eq_false_iff.mpr fun q=>?_;have e:C=tp:=Value.ref.inj (beq_iff_eq.mp q);subst e;rw [hC] at htp;exact nomatch congrArg Obj.data (Zi htp)
 ca:=fun X ⟨_,hx,hc⟩ k=>xc_class X hx hc c.ga c.gt c.cf c.ob c.exc k
end
section
variable {X:Cx}
theorem zE2 {K:Frag} (hK:X.K=K):CallR X (.builtin "isinstance") (fun xs H Q=>∃ a C c cv b,xs=[.ref a,c]∧H a=some (XO C a)∧XCls K C∧absV cv=some c∧kitOne K (.ref C) cv=some b∧((∀ t,cv≠.ref t)→∃ T,cv=.type T)∧Q (.bl b) H):=by
 intro pins s σ H xs us Q I rv ⟨a,C,c,cv,b,ex,ha,hc,rc,hk,hT,q⟩;subst ex hK;obtain ⟨u1,u2,rfl,r1,r2⟩:=L2.v2 rv;cases (show u1=Value.ref a from r1);obtain ⟨o,vs,h1,h2,h3⟩:=xo_of I.hok ha;have e2:u2=cv:=by
  cases cv with
  | ref t=>cases (Zi rc);exact r2
  | type T=>cases (Zi rc);exact r2
  | _=>obtain ⟨T,z⟩:=hT (fun _ z=>nomatch z);cases z
 subst e2;exact kia_one (kitx_exc hc) I.kIn ⟨o,h1,h2⟩ hk (fun z=>nomatch z) fun tk=>⟨.bl b,H,I.tok tk,rfl,q⟩
theorem call_isinstT {K:Frag} (hK:X.K=K):CallR X (.builtin "isinstance") (fun xs H Q=>∃ (a C t:Addr) (cs:List Addr) (b:Bool),xs=[.ref a,.ref t]∧H a=some (XO C a)∧XCls K C∧H t=some (.tup (cs.map V.ref))∧kitAny K (.ref C) (cs.map Value.ref)=some b∧Q (.bl b) H):=by
 intro pins s σ H xs us Q I rv ⟨a,C,t,cs,b,ex,ha,hc,ht,hk,q⟩;subst ex hK;obtain ⟨u1,u2,rfl,r1,r2⟩:=L2.v2 rv;cases (show u1=Value.ref a from r1);cases (show u2=Value.ref t from r2);obtain ⟨o,vs,h1,h2,h3⟩:=xo_of I.hok ha;obtain ⟨_,its,r,ob,e1,e2,n,e3⟩:=(show ObjOk X.prog X.w H s.heap t (.tup (cs.map V.ref)) from I.hok t _ ht);have key:∀ (cs:List Addr) (its:List Value),Vals (cs.map V.ref) its→its=cs.map Value.ref:=by
  intro cs
  induction cs with
  | nil=>intro its r;cases r;rfl
  | cons c cs ih =>
   intro its r;cases r with
   | cons r0 r' =>
    rw [ih _ r'];cases r0;rfl
 have ei:=key cs its r;subst ei;obtain ⟨oc,od,oda,osl⟩:=ob;cases e2;cases e3;exact kia_tup (kitx_exc hc) I.kIn ⟨o,h1,h2⟩ e1 hk (fun z=>nomatch z) fun tk=>⟨.bl b,H,I.tok tk,rfl,q⟩
end
end L2
namespace L2
open PySem PySem.Spec PyProof.Rows
theorem Fun.okX {P:Program}{w:World}{K:PySem.W.Frag}{mg:Str→Option Value}{base:Heap}{CX:CXT}{x qual:Str}{st:Stmt}{f:Addr}{fd:FuncData}{N ps:List Str}{k:Nat}{sp:Sp} (F:Fun K x qual st f fd) (S:FnScope N ps (defScope st)) (len:∀ vs H Q E,sp vs H Q E→vs.length=ps.length)
  (hbody:∀ (cdv:Value) (A:Around) (outer:List Env) (s:Shared) (H:Hp) (vs:List V) (Q:VK) (E:XK),Room k (A.deeper (envOfC qual (defScope st) s.heap.objs.size f cdv))→sp vs H Q E →
   ∃ t,PSs (cxOf CX P w K mg base N qual (defScope st) f cdv A outer s H E) (defBody st) t∧t { nx:=fun _ H'=>Q .non H',rt:=Q } (start N vs) H):FnOk P w K mg base CX (k + 1) f fd ps sp:=by
 obtain ⟨oc,od,kV,doc,pm,an,cdv,ct,osl,rfl,lk,hcd⟩:=F.ex;exact fn_of lk hcd S len fun A outer s H vs Q E hr hsp=>hbody cdv A outer s H vs Q E hr hsp
theorem FnOk.or {P:Program}{w:World}{K:PySem.W.Frag}{mg:Str→Option Value}{base:Heap}{CX:CXT}{k:Nat}{f:Addr}{fd:FuncData}{ps:List Str}{sp sp':Sp} (F:FnOk P w K mg base CX k f fd ps sp) (G:FnOk P w K mg base CX k f fd ps sp'):FnOk P w K mg base CX k f fd ps (fun vs H Q E=>sp vs H Q E∨sp' vs H Q E) :=
 ⟨fun vs H Q E h=>h.elim (F.len vs H Q E) (G.len vs H Q E),fun A outer s H args us vs Q E hr he hb hv h=>h.elim (F.run A outer s H args us vs Q E hr he hb hv) (G.run A outer s H args us vs Q E hr he hb hv)⟩
namespace W
noncomputable def zC0:=by have h:=@L2.zC0;rw [ePS,ePA] at h;exact @h
noncomputable def ps_try:=by have h:=@L2.ps_try;rw [ePS,ePSs] at h;exact @h
noncomputable def Fun.okX:=by have h:=@L2.Fun.okX;rw [ePSs] at h;exact @h
end W
end L2
namespace L2
open PySem PySem.Spec PyProof.Rows
section
variable {X:Cx}{pins:List (Addr×Obj)}{σ : St}{H:Hp}{s:Shared}{N':List Str}{is:List Nat}{st:Stmt}{t:TS}
end
theorem FnOk.calm {P:Program}{w:World}{K:PySem.W.Frag}{mg:Str→Option Value}{base:Heap}{CX:CXT}{k:Nat}{f:Addr}{fd:FuncData}{ps:List Str}{sp:Sp} (hC:Calm CX) (F:FnOk P w K mg base CX k f fd ps sp):FnOk P w K mg base CX0 k f fd ps (fun vs H Q E=>sp vs H Q fun _ _ _=>False) :=
 ⟨fun vs H Q E h=>F.len vs H Q _ h,fun A outer s H args us vs Q E hr he hb hv h=>by
  have:=F.run A outer s H args us vs Q (fun _ _ _=>False) hr he hb hv h;refine codeAny_mono this fun r s' h'=>?_;cases r with
  | ok c =>
   cases c with
   | ret u=>exact h'
   | _=>exact h'
  | error e=>exact hC _ _ _ _ _ h'⟩
namespace W
end W
end L2
namespace L2
open PySem PySem.Spec PyProof.Rows
structure TabM (H:Hp) (P:Addr) (q:Str):Prop where
 ex:∃ ps:Array Value,H P=some (.tbl ps)∧TriplesOk ps.toList∧∀ (pos:Pos) (v:Value),codeAmong pos ps.toList=some v→∃ a,v=.ref a∧H a=some (CodeO a q)
theorem TabM.ne {H:Hp}{P:Addr}{q:Str} (T:TabM H P q) {a:Addr}{o:HO} (e:H a=some o) (h:∀ ps,o≠.tbl ps):a≠P:=by
 rintro rfl;obtain ⟨ps,z,_⟩:=T.ex;rw [e] at z;exact h _ (Zi z)
theorem TabM.same {H H':Hp}{P:Addr}{q:Str} (T:TabM H P q) (k:Same H H'):TabM H' P q:=by
 obtain ⟨ps,z,t,c⟩:=T.ex;exact ⟨ps,k _ _ z,t,fun pos v e=>let ⟨a,e1,e2⟩:=c pos v e;⟨a,e1,k _ _ e2⟩⟩
theorem TabM.but {H H':Hp}{P P':Addr}{q:Str} (T:TabM H P q) (hn:P≠P') (h':∃ ps,H P'=some (.tbl ps)) (k:GrownBut P' H H'):TabM H' P q:=by
 obtain ⟨ps,z,t,c⟩:=T.ex;refine ⟨ps,k _ _ z hn,t,fun pos v e=>?_⟩;obtain ⟨a,e1,e2⟩:=c pos v e;refine ⟨a,e1,k _ _ e2 ?_⟩;rintro rfl;obtain ⟨ps',h'⟩:=h';rw [e2] at h';cases h'
theorem TabM.upd {H:Hp}{P:Addr}{q:Str}{p:Addr}{u o:HO} (T:TabM H P q) (hp:H p=some u) (h1:∀ ps,u≠.tbl ps) (h2:∀ f,u≠.ext f):TabM (L2.upd H p o) P q:=by
 have n1:=T.ne hp h1;obtain ⟨ps,z,t,c⟩:=T.ex;refine ⟨ps,by rw [zAa (Ne.symm n1)];exact z,t,fun pos v e=>?_⟩;obtain ⟨a,e1,e2⟩:=c pos v e;refine ⟨a,e1,?_⟩;rw [zAa ?_]
 ·exact e2
 ·rintro rfl;rw [hp] at e2;exact h2 _ (Zi e2)
theorem zDj {pos p:Pos}{c v:Value}:∀ (l:List Value),TriplesOk l→codeAmong pos (l++[rawInt p.line,rawInt p.col,c])=some v→codeAmong pos l=some v∨v=c
 | [],_,h=>by
  simp only [List.nil_append,codeAmong,rawInt] at h;split at h
  ·exact .inr (Zi h).symm
  ·cases h
 | .int a t :: .int b u :: x :: r,ok,h=>by
  simp only [List.cons_append,codeAmong] at h ⊢;split at h
  ·rename_i hc
   rw [if_pos hc];exact .inl h
  ·rename_i hc
   rw [if_neg hc];exact zDj r ok h
structure LamAt (f c':Addr) (q:Str) (params:Arguments) (body:Expr) (scope:Scope) (cl:List (Str×Addr)) (N:List Str) (ws:List V) (h:Heap):Prop where
 fn:∃ o pm ctv,h.get? f=some o∧o.data=.func (PySem.W.kla_fn "<lambda>" q params body scope cl pm (.ref c') ctv)
 val:∀ (i:Nat) (x:Str) (v:V),N[i]? = some x→ws[i]? = some v→∃ c u,cl.lookup x=some c∧RelV v u∧h.IsCell c (some u)
 cel:∀ x c,cl.lookup x=some c→∃ v,h.IsCell c v
 inj:∀ x y c,cl.lookup x=some c→cl.lookup y=some c→x=y
 has:∀ x,scope.names.lookup x=some .free→∃ c,cl.lookup x=some c
 len:ws.length=N.length
noncomputable def FreeL (H:Hp) (f:Addr) (cl:List (Str×Addr)):Prop:=H f=none∧∀ x c,cl.lookup x=some c→H c=none
section
variable {f c':Addr}{q:Str}{params:Arguments}{body:Expr}{scope:Scope}{cl:List (Str×Addr)}{N:List Str}{ws:List V}{h h':Heap}{H:Hp}
theorem LamAt.later (L:LamAt f c' q params body scope cl N ws h) (fr:FreeL H f cl) (k:∀ b o,h.get? b=some o→H b=none→∃ sl,h'.get? b=some { o with slots:=sl }):LamAt f c' q params body scope cl N ws h':=by
 refine ⟨?_,fun i x v e1 e2=>?_,fun x c e=>?_,L.inj,L.has,L.len⟩
 ·obtain ⟨o,pm,ctv,e,d⟩:=L.fn;obtain ⟨sl,e'⟩:=k _ _ e fr.1;exact ⟨_,pm,ctv,e',d⟩
 ·obtain ⟨c,u,e3,r,o,ho,hd⟩:=L.val i x v e1 e2;obtain ⟨sl,e'⟩:=k _ _ ho (fr.2 _ _ e3);exact ⟨c,u,e3,r,_,e',hd⟩
 ·obtain ⟨v,o,ho,hd⟩:=L.cel x c e;obtain ⟨sl,e'⟩:=k _ _ ho (fr.2 _ _ e);exact ⟨v,_,e',hd⟩
end
structure LScope (N:List Str) (sc:Scope):Prop where
 loc:∀ x∈N,sc.names.lookup x≠some .local
 kind:sc.kind=.function
 co:sc.isCoroutine=false
 gen:sc.isGenerator=false
 cell:∀ y∈sc.names,y.2≠.cell
noncomputable def cxL (CX:CXT) (P:Program) (w:World) (K:PySem.W.Frag) (mg:Str→Option Value) (base:Heap) (N:List Str) (qual:Str) (scope:Scope) (f:Addr) (cd:Value) (cl:List (Str×Addr)) (A:Around) (outer:List Env) (s:Shared) (H:Hp) (E:XK):Cx where
 prog:=P
 w:=w
 K:=K
 mg:=mg
 base:=base
 A:=A.deeper (PySem.W.envX qual scope s.heap.objs.size f cd cl)
 N:=N
 s₀:=s
 H₀:=H
 env:=PySem.W.envX qual scope s.heap.objs.size f cd cl
 outer:=outer
 stack:=PySem.W.envX qual scope s.heap.objs.size f cd cl :: outer
 ex:=[]
 calm:=true
 fn:=fun _=>false
 pn:=[]
 xe:=fun e s'=>wpAny (model P w) (A.deeper (PySem.W.envX qual scope s.heap.objs.size f cd cl)) (leaving (PySem.W.envX qual scope s.heap.objs.size f cd cl) e) (fun _ s''=>CX outer H s E e s'') (fun e' s''=>CX outer H s E e' s'') s'
noncomputable def LamOk (P:Program) (w:World) (K:PySem.W.Frag) (mg:Str→Option Value) (base:Heap) (CX:CXT) (k:Nat) (f c':Addr) (q:Str) (params:Arguments) (body:Expr) (scope:Scope) (cl:List (Str×Addr)) (N:List Str) (ws:List V) (sp:Hp→VK→XK→Prop):Prop :=
 ∀ (A:Around) (outer:List Env) (s:Shared) (H:Hp) (Q:VK) (E:XK),Room k A→Env0 P w K mg base A outer s H→LamAt f c' q params body scope cl N ws s.heap→FreeL H f cl→s.heap.CodeRec (.ref c') q→sp H Q E →
  codeAny (model P w) A (.call (.ref f) ⟨[],[]⟩) (CR CX outer P w H s Q E) s
section
variable {CX:CXT}{P:Program}{w:World}{K:PySem.W.Frag}{mg:Str→Option Value}{base:Heap}{k:Nat}{f c':Addr}{q:Str}{params:Arguments}{body:Expr}{scope:Scope}{cl:List (Str×Addr)}{N:List Str}{ws:List V}
theorem lam_of {sp:Hp→VK→XK→Prop} (S:LScope N scope) (hb:∀ pm ctv,bindArgs (PySem.W.kla_fn "<lambda>" q params body scope cl pm (.ref c') ctv) ⟨[],[]⟩=pure [])
  (hbody:∀ (A:Around) (outer:List Env) (s:Shared) (H:Hp) (Q:VK) (E:XK),Room k (A.deeper (PySem.W.envX q scope s.heap.objs.size f (.ref c') cl))→sp H Q E →
   ∃ t,PE (cxL CX P w K mg base N q scope f (.ref c') cl A outer s H E) body t∧t (ws.map some) H Q) :
  LamOk P w K mg base CX (k + 1) f c' q params body scope cl N ws sp:=by
 intro A outer s H Q E hr e0 L fr hc h;obtain ⟨o,pm,ctv,ho,hd⟩:=L.fn;have lim:s.heap.NoLimit:=e0.mod.nolimit.keeps fun b o e=>(e0.bs b o e).1;refine PySem.W.kla_callFunE hr.depth ho hd S.co S.gen rfl hc ?_;rw [hb];refine wpAny_pure (wpAny_newFunctionEnv S.cell (fun y hy=>by cases hy) (fun h1 hns hsb=>?_) S.kind);have kk:Kept s.heap h1:=fun b o e=>(hsb.2 b (Zc (Z8 e))).trans (Z2 _ e);refine ⟨lim.keeps kk,?_⟩;show codeAny _ _ (.expr body (PySem.W.envX q scope s.heap.objs.size f (.ref c') cl)) _ _;refine PySem.W.kla_codeExpr ?_;obtain ⟨t,ht,hq⟩:=hbody A outer s H Q E (hr.deeper _) h;have noA:∀ b:Addr,b∉([]:List Addr):=fun b z=>by cases z
 have ce:∀ {c:Addr}{v:Option Value},s.heap.IsCell c v→h1.IsCell c v:=fun ⟨o,e,d⟩=>⟨o,kk _ _ e,d⟩;have I:Inv (cxL CX P w K mg base N q scope f (.ref c') cl A outer s H E) [] (ws.map some) H { s with heap:=h1,toks:=s.toks + ([]:List (Str×Value)).length }:=by
  refine ⟨⟨e0.mod,S.kind,rfl,rfl,Z5 _,L.inj,fun x hx=>?_,fun x c z=>Bool.noConfusion (show false=true from z),fun _=>hr.hd,Around.frames_deeper e0.frames,.inr ⟨rfl,rfl⟩,fun b z=>absurd z (noA b),e0.bs,e0.bsz,fun b _ _=>noA b,fun b z=>absurd z (noA b),e0.funs,e0.frf⟩,
   rfl,e0.bare,Un.kept kk,⟨_,hns,fun i x v e1 e2 e3=>?_⟩,fun x c e=>?_,e0.hok.fresh (Z5 _),fun x c e=>fr.2 x c e,fun p hp=>absurd (show p∈([]:List (Addr×Obj)) from hp) (by simp),e0.hok.kept kk,?_⟩
  ·have hx':scope.names.lookup x=some .cell∨scope.names.lookup x=some .free:=hx;rcases hx' with z | z
   ·exact absurd rfl (S.cell _ (PySem.mem_of_lookup z))
   ·exact L.has x z
  ·have e2':ws[i]? = some v:=by
    rw [Za] at e2;cases z:ws[i]? with
    | none=>rw [z] at e2;cases e2
    | some y=>rw [z] at e2;cases e2;rfl
   obtain ⟨c,u,h1',r,hcell⟩:=L.val i x v e1 e2';refine ⟨u,r,.inr ⟨?_,c,h1',ce hcell⟩⟩;rcases e3 with z | z | z
   ·exact absurd z (S.loc x (Z3 e1))
   ·exact .inl z
   ·exact .inr z
  ·obtain ⟨v,z⟩:=L.cel x c e;exact ⟨v,ce z⟩
  ·show (ws.map some).length=N.length;rw [Z0];exact L.len
 exact wpAny_mono (ht [] _ _ H _ I hq) (fun u s' ⟨v,H',J,rv,z⟩=>⟨v,H',J.os,J.bare,J.base,J.hok,rv,z⟩) fun e s' hs=>hs
theorem pass_onL {A:Around}{outer:List Env}{s:Shared}{H:Hp}{E:XK}:Passes (CXM P w) (cxL (CXM P w) P w K mg base N q scope f (.ref c') cl A outer s H E) (fun _=>E):=fun pins σ H1 s1 u s2 I c=>by
 obtain ⟨e,C,H',rfl,I',he,tr,q⟩:=I.cx c;exact leave_cx I' rfl rfl rfl he (.inr (tr.imp fun T n=>I.back rfl n)) q
end
structure FnOkS (Ψ : Heap→Prop) (P:Program) (w:World) (K:PySem.W.Frag) (mg:Str→Option Value) (base:Heap) (CX:CXT) (k:Nat) (f:Addr) (fd:FuncData) (ps:List Str) (sp:Sp):Prop where
 len:∀ vs H Q E,sp vs H Q E→vs.length=ps.length
 run:∀ (A:Around) (outer:List Env) (s:Shared) (H:Hp) (args:Args) (us:List Value) (vs:List V) (Q:VK) (E:XK),Room k A→Env0 P w K mg base A outer s H→Ψ s.heap→BindsTo s fd args (ps.zip us)→Vals vs us→sp vs H Q E →
  codeAny (model P w) A (.call (.ref f) args) (CR CX outer P w H s Q E) s
theorem Fun.okS {Ψ : Heap→Prop}{P:Program}{w:World}{K:PySem.W.Frag}{mg:Str→Option Value}{base:Heap}{CX:CXT}{x qual:Str}{st:Stmt}{f:Addr}{fd:FuncData}{N ps:List Str}{k:Nat}{sp:Sp} (F:Fun K x qual st f fd) (S:FnScope N ps (defScope st)) (len:∀ vs H Q E,sp vs H Q E→vs.length=ps.length)
  (hbody:∀ (cdv:Value) (A:Around) (outer:List Env) (s:Shared) (H:Hp) (vs:List V) (Q:VK) (E:XK),Ψ s.heap→Room k (A.deeper (envOfC qual (defScope st) s.heap.objs.size f cdv))→sp vs H Q E →
   ∃ t,PSs (cxOf CX P w K mg base N qual (defScope st) f cdv A outer s H E) (defBody st) t∧t { nx:=fun _ H'=>Q .non H',rt:=Q } (start N vs) H):FnOkS Ψ P w K mg base CX (k + 1) f fd ps sp:=by
 refine ⟨len,fun A outer s H args us vs Q E hr e0 hΨ hb r hsp=>?_⟩;obtain ⟨oc,od,kV,doc,pm,an,cdv,ct,osl,rfl,lk,hcd⟩:=F.ex;have hl:=len _ _ _ _ hsp;have ks:∀ b o,base.get? b=some o→s.heap.get? b=some o:=fun b o e=>(e0.bs b o e).1;have KX:K.In s.heap:=e0.mod.kin.keeps ks;refine codeAny_call_function hr.depth (KX _ _ lk) rfl S.co S.gen rfl (PySem.W.codeRec_of KX hcd) (hb _ _ _ _ (wpAny_newFunctionEnv_cells S.kind (fun y hy=>?_) fun env he s1 x=>?_))
 ·rcases S.par y.1 (List.of_mem_zip (show (y.1,y.2)∈_ from hy)).1 with z | z
  ·exact .inl z
  ·exact .inr ⟨z,PySem.W.cellsFrom_some _ _ _ (.inl z)⟩
 ·subst he;obtain ⟨t,ht,hq⟩:=hbody cdv A outer s H vs Q E hΨ (hr.deeper _) hsp;refine ⟨(e0.mod.nolimit.keeps ks).keeps x.toInCall.keep,codeAny_func (wpAny_mono (ht [] s1 (start N vs) H _ (inv_start S hr.hd e0 hl r x) hq) (fun fl s' hs=>?_) fun e s' hs=>hs)⟩;cases fl with
  | ret u=>obtain ⟨v,σ',H',J,rv,z⟩:=hs;exact ⟨v,H',J.os,J.bare,J.base,J.hok,rv,z⟩
  | next=>obtain ⟨σ',H',J,z⟩:=hs;exact ⟨.non,H',J.os,J.bare,J.base,J.hok,rfl,z⟩
  | brk=>obtain ⟨_,_,_,z⟩:=hs;exact False.elim z
  | cont=>obtain ⟨_,_,_,z⟩:=hs;exact False.elim z
section
variable {X:Cx}{CX:CXT}{k:Nat}{f c':Addr}{q x:Str}{params:Arguments}{body:Expr}{scope:Scope}{cl:List (Str×Addr)}{N:List Str}{ws:List V}{sp:Hp→VK→XK→Prop}{E:St→XK}{i:Nat}{p pos:Pos}
theorem pe_ask (F:LamOk X.prog X.w X.K X.mg X.base CX k f c' q params body scope cl N ws sp) (hr:Room k X.A) (hp:Passes CX X E) (L0:LamAt f c' q params body scope cl N ws X.s₀.heap) (fr0:FreeL X.H₀ f cl) (hx:X.ex=[]) (hN:X.N[i]? = some x) (hv:Vis X.env.scope x)
  (hd:(x == ("__debug__" : Str))=false:=by decide) (hcd:(x == ("__classdict__" : Str))=false:=by decide) :
  PE X (.Call (.Name x p) [] [] pos) (fun σ H Q=>σ[i]? = some (some (.ref f))∧H c'=some (CodeO c' q)∧sp H Q (E σ)):=by
 intro pins s σ H Q I ⟨hσ,hc,h⟩;have nx:∀ b,b∉X.ex:=fun b z=>by rw [hx] at z;cases z
 refine wpAny_Call_Name_kw (thn (pe_var (pos:=p) hN hv hd hcd pins s σ H (fun v H'=>v=.ref f∧H'=H) I ⟨_,hσ,rfl,rfl⟩) fun u s1 ⟨v,H',I1,rv,ev,eH⟩=>?_);subst ev eH;cases (show u=Value.ref f from rv);have L:=L0.later fr0 fun b o e n=>I1.base.any e n (nx b);have fr:FreeL H' f cl:=by
  refine ⟨?_,fun y c e=>?_⟩
  ·obtain ⟨o,_,_,e,_⟩:=L0.fn;exact I1.base.free _ _ e fr0.1 (nx _)
  ·obtain ⟨_,o,e',_⟩:=L0.cel y c e;exact I1.base.free _ _ e' (fr0.2 _ _ e) (nx _)
 have hrec:s1.heap.CodeRec (.ref c') q:=(show ObjOk X.prog X.w H' s1.heap c' (CodeO c' q) from I1.hok c' _ hc).1;have fa:PySem.W.FnAt f s1.heap:=by
  obtain ⟨⟨oc,od,dt,sl⟩,pm,ctv,e,d⟩:=L.fn;cases (show dt=_ from d);exact ⟨_,_,_,_,e⟩
 refine PySem.W.callWith_F0 fa (wpAny_call (codeAny_mono (F X.A X.stack s1 H' Q (E σ) hr I1.env0 L fr hrec h) fun r s' hq=>?_));cases r with
 | error e=>exact hp pins σ H' s1 e s' I1 hq
 | ok fl =>
  cases fl with
  | ret u=>exact I1.after hq
  | next=>exact False.elim hq
  | brk=>exact False.elim hq
  | cont=>exact False.elim hq
end
section
variable {X:Cx}{pins:List (Addr×Obj)}{σ : St}{H:Hp}{s:Shared}{A:Around}{E:Value→Shared→Prop}
theorem lam_madeM {params:Arguments}{body:Expr}{scope:Scope}{pos:Pos}{c P:Addr}{q:Str}{cl:List (Str×Addr)}{Q:Value→Shared→Prop} (I:Inv X pins σ H s) (T:LamTxt X.K X.mg X.base c P) (hcode:X.env.code=.ref c) (hq:X.env.qual++"<lambda>" = q)
  (hcl:closureFor scope X.env=pure cl) (hdef:defaultsOf params X.env=([],[])) (W:TabM H P q)
  (h:∀ (H':Hp) (s':Shared) (f c':Addr) (pm ctv:Value),Inv X pins σ H' s'→s'.heap.get? f=some (PySem.W.kla_obj "<lambda>" q params body scope cl pm c' ctv)→H' f=none→H' c'=some (CodeO c' q)→TabM H' P q→GrownBut P H H'→Q (.ref f) s') :
  wpAny (model X.prog X.w) A (eval (.Lambda params body scope pos) X.env) Q E s:=by
 subst hq;refine PySem.W.kla_eval hdef ?_;obtain ⟨bm,ob,e1,e3,e4,e2,e5,e6,e7⟩:=T.blt;obtain ⟨ps,z,tri,cod⟩:=W.ex;have hbP:bm≠P:=by
  rintro rfl;have:=(I.bs _ _ e2).2;rw [this] at z;cases z
 have hb:s.heap.BuiltinsAt X.mg P:=⟨bm,ob,e1,e3,e4,hbP,I.bk _ _ e2,e5,e6,e7⟩;have hg:=I.mod.glob.keeps I.bk;have C:=PySem.W.codeHd_of_K I.kIn T.hd;have tab:s.heap.get? P=some (PySem.W.tabObj ps):=I.hok P _ z;have hgP:mainGlobals≠P:=by
  rintro rfl;obtain ⟨o,es,ep,ho,hd,_⟩:=hg;rw [tab] at ho;cases ho;cases hd
 cases ha:codeAmong pos ps.toList with
 | none =>
  refine PySem.W.kla_makeFunction hcl I.ok.glob hg hcode C tab tri ha hgP hb fun c' ctv h' tk hx hge hlt hrec htb=>?_;have fc:H c'=none:=I.hok.fresh hge;have nP:c'≠P:=Ne.symm (zA5 z fc)
  let H':Hp:=upd (upd H P (.tbl (ps++#[rawInt pos.line,rawInt pos.col,.ref c']))) c' (CodeO c' (X.env.qual++"<lambda>"))
  have hP':H' P=some (.tbl (ps++#[rawInt pos.line,rawInt pos.col,.ref c'])):=by show upd _ _ _ _=_;rw [zAa (Ne.symm nP),zA1]
  have hc':H' c'=some (CodeO c' (X.env.qual++"<lambda>")):=zA1;have gr:∀ b o,H b=some o→b≠P→H' b=some o:=fun b o e nb=>by
   show upd _ _ _ _=_;rw [zAa (zA5 e fc),zAa nb];exact e
  have I1:Inv X pins σ H' { s with heap:=h',toks:=tk }:=by
   refine I.step (g':=s.gens) (d':=s.drawn) (ch:=[]) (fun _ m=>nomatch m) (fun b o _ _ _ e n=>hx b o (Ne.symm (zA5 z n)) e) (fun b o _ _ _ e n=>⟨o.slots,hx b o (Ne.symm (zA5 z n)) e⟩) (fun b o _ e n=>?_) (fun b o _ e=>?_)
    (fun b xs e=>gr b _ e fun k=>by subst k;rw [z] at e;cases e) (fun b o u e=>gr b _ e fun k=>by subst k;rw [z] at e;cases e) (fun b ps' e=>?_) (fun m hm=>?_) (fun b u e=>?_) I.bare
   ·show upd _ _ _ _=_;rw [zAa (Zc (Z7 (Z8 e) hge)),zAa (Ne.symm (zA5 z n))];exact n
   ·by_cases k:b=P
    ·subst k;exact ⟨_,htb⟩
    ·exact ⟨o,hx b o k e⟩
   ·by_cases k:b=P
    ·subst k;rw [z] at e;cases e;exact ⟨_,hP'⟩
    ·exact ⟨#[],by rw [gr b _ e k];simp⟩
   ·exact hm.extBut hx fun k=>by have:=I.free;rw [k,z] at this;cases this
   ·by_cases k1:b=c'
    ·subst k1;rw [hc'] at e;cases e;obtain ⟨_,o,_,_,e',ho,_⟩:=id hrec;cases e';exact ⟨hrec,⟨o,ho⟩,zCh⟩
    ·by_cases k2:b=P
     ·subst k2;rw [hP'] at e;cases e;exact htb
     ·have e':H b=some u:=by
       have e2:upd (upd H P _) c' _ b=some u:=e
       rwa [zAa k1,zAa k2] at e2
      refine (I.hok b u e').stay (fun d v hd' r=>hx d v ?_ r) (fun d r=>gr d _ r ?_) fun d xs r=>gr d _ r ?_
      ·rcases hd' with k | k
       ·rw [k];exact k2
       ·rintro rfl;rw [z] at k;cases k
      ·rintro rfl;rw [z] at r;cases r
      ·rintro rfl;rw [z] at r;cases r
  have I2:Inv X pins σ H' { s with heap:=h'.push _,toks:=tk }:=I1.kept (t':=tk) (h':=h'.push (PySem.W.kla_obj "<lambda>" (X.env.qual++"<lambda>") params body scope cl ((X.mg "__name__").getD .none) c' ctv)) fun b u e=>Z2 _ e;refine h H' _ h'.objs.size c' ((X.mg "__name__").getD .none) ctv I2 (Zg _ rfl) (I1.hok.fresh (Z5 _)) hc' ⟨_,hP',?_,fun pos' v e=>?_⟩ gr
  ·rw [Array.toList_append];exact TriplesOk_snoc _ _ _ _ tri
  ·rw [Array.toList_append] at e;rcases zDj _ tri e with e | e
   ·obtain ⟨a,e1,e2⟩:=cod pos' v e;refine ⟨a,e1,gr _ _ e2 ?_⟩;rintro rfl;rw [z] at e2;cases e2
   ·exact ⟨c',e,hc'⟩
 | some cv =>
  obtain ⟨c',rfl,y⟩:=cod pos cv ha;refine PySem.W.kla_makeFunctionHit (cv:=.ref c') hcl I.ok.glob hg hcode C tab tri ha hb fun ctv h' tk kk sz=>?_;have I1:Inv X pins σ H { s with heap:=h',toks:=tk }:=I.kept (t':=tk) (h':=h') kk;have I2:Inv X pins σ H { s with heap:=h'.push _,toks:=tk }:=I1.kept (t':=tk) (h':=h'.push (PySem.W.kla_obj "<lambda>" (X.env.qual++"<lambda>") params body scope cl ((X.mg "__name__").getD .none) c' ctv)) fun b u e=>Z2 _ e;exact h H _ h'.objs.size c' ((X.mg "__name__").getD .none) ctv I2 (Zg _ rfl) (I1.hok.fresh (Z5 _)) y W fun b o e _=>e
end
noncomputable def tLam (sp:Addr→Addr→List (Str×Addr)→List V→Sp) (P:Addr) (q:Str) (ix:List Nat) (E:St→XK):TE:=fun σ H Q=>∃ ws:List V,ix.map (fun j=>(σ[j]?).join)=ws.map some∧TabM H P q ∧
 ∀ (f c':Addr) (cl:List (Str×Addr)) (H1:Hp),TabM H1 P q→GrownBut P H H1→H1 c'=some (CodeO c' q)→FreeL H1 f cl→sp f c' cl ws [.ref f] H1 Q (E σ)
section
variable {X:Cx}{CX:CXT}{k:Nat}{fw c P:Addr}{fd:FuncData}{q x y:Str}{params:Arguments}{body:Expr}{scope:Scope}{N:List Str}{ix:List Nat}{sp:Addr→Addr→List (Str×Addr)→List V→Sp}{E:St→XK}{p lpos pos:Pos}
end
theorem FunL.okX {P:Program}{w:World}{K:PySem.W.Frag}{mg:Str→Option Value}{base:Heap}{CX:CXT}{x qual:Str}{st:Stmt}{f c:Addr}{fd:FuncData}{N ps:List Str}{k:Nat}{sp:Sp} (F:FunL K x qual st f fd c) (S:FnScope N ps (defScope st)) (len:∀ vs H Q E,sp vs H Q E→vs.length=ps.length)
  (hbody:∀ (A:Around) (outer:List Env) (s:Shared) (H:Hp) (vs:List V) (Q:VK) (E:XK),Room k (A.deeper (envOfC qual (defScope st) s.heap.objs.size f (.ref c)))→sp vs H Q E →
   ∃ t,PSs (cxOf CX P w K mg base N qual (defScope st) f (.ref c) A outer s H E) (defBody st) t∧t { nx:=fun _ H'=>Q .non H',rt:=Q } (start N vs) H):FnOk P w K mg base CX (k + 1) f fd ps sp:=by
 obtain ⟨oc,od,kV,doc,pm,an,ct,osl,rfl,lk,hcd⟩:=F.ex;exact fn_of lk hcd S len fun A outer s H vs Q E hr hsp=>hbody A outer s H vs Q E hr hsp
theorem LamOk.mono {P:Program}{w:World}{K:PySem.W.Frag}{mg:Str→Option Value}{base:Heap}{CX:CXT}{j k:Nat}{f c':Addr}{q:Str}{params:Arguments}{body:Expr}{scope:Scope}{cl:List (Str×Addr)}{N:List Str}{ws:List V}{sp:Hp→VK→XK→Prop} (F:LamOk P w K mg base CX j f c' q params body scope cl N ws sp) (h:j≤k) :
  LamOk P w K mg base CX k f c' q params body scope cl N ws sp:=fun A outer s H Q E hr=>F A outer s H Q E (hr.mono h)
namespace W
noncomputable def FunL.okX:=by have h:=@L2.FunL.okX;rw [ePSs] at h;exact @h
noncomputable def lam_of:=by have h:=@L2.lam_of;rw [ePE] at h;exact @h
noncomputable def Fun.okS:=by have h:=@L2.Fun.okS;rw [ePSs] at h;exact @h
noncomputable def pe_ask:=by have h:=@L2.pe_ask;rw [ePE] at h;exact @h
end W
end L2
namespace PySem.SeqAt
open AutoSeq1 (wpAny_loadPart')
open MeetsSeq
section
variable {A:Around}{s:Shared}
end
end PySem.SeqAt
namespace L2
open PySem PySem.Spec PyProof.Rows
section
variable {X:Cx}{pins:List (Addr×Obj)}{σ : St}{H:Hp}{s:Shared}
end
end L2
namespace L2
open PySem PySem.Spec PyProof.Rows
noncomputable def OnlyTs (ts:List Addr) (H:Hp):Prop:=(∀ T∈ts,H T=some (.tbl #[]))∧∀ b,b∉ts→H b=none∨∃ o xs,H b=some (.frz o (.lst xs))
theorem law_callTs {P:Program}{w:World}{K:PySem.W.Frag}{mg mb:Str→Option Value}{CX:CXT}{k:Nat}{fa a:Addr}{ts:List Addr}{fd:FuncData}{x:Str}{sp:Sp}{s₁ : Shared}{vs:List Value}{ns:List Int}
  (KX:K.In s₁.heap) (hns:s₁.heap.Ns mainGlobals mg) (hb:s₁.heap.Ns builtinsNs mb) (hbb:∀ x:Str,x≠"__name__"→mb x=bootBuiltins x) (hlim:s₁.heap.NoLimit) (hg:s₁.gens = #[]) (hBl:BltAt mg s₁.heap) (hT:∀ T∈ts,s₁.heap.get? T=some (PySem.W.tabObj #[])) (hKT:∀ T∈ts,K.lookup T=none) (hCd:∀ T∈ts,∃ c,PySem.W.codeHdIn K c T=true)
  (ha:s₁.heap.get? a=some { cls:=.type "list",data:=.seq vs.toArray }) (hi:IntsAre vs ns) (hl:ns.length≤sizeLine) (hr:Room k callerA)
  (F:∀ base:Heap,K.In base→base.Ns mainGlobals mg→BltAt mg base→FnOk P w K mg base CX k fa fd [x] sp) (hbind:∀ (s:Shared) (u:Value),BindsTo s fd ⟨[u],[]⟩ [(x,u)])
  (hsp:∀ H:Hp,OnlyTs ts H→SqL K H a (ns.map V.int)→sp [.ref a] H (fun v _=>v=.bl true) fun _ _ _=>False)
  (hCX:∀ H e s',CX [] H s₁ (fun _ _ _=>False) e s'→False) :
  codeAny (model P w) callerA (.call (.ref fa) ⟨[.ref a],[]⟩) (fun r s'=>r=.ok (.ret (.bool true))∧OldK s₁.heap s'.heap∧s'.os=s₁.os∧AllBare s'.gens) s₁:=by
 have rv:=vals_ints hi;have lenV:=hi.length;have aT:a∉ts:=fun h=>by
  have:=hT a h;rw [ha] at this;cases this
 have core:∀ H:Hp,OnlyTs ts H→SqL K H a (ns.map V.int)→HOk P w H s₁.heap→(∀ b,H b≠none→b=a∨b∈ts)→(H a≠none→K.lookup a=none) →
   codeAny (model P w) callerA (.call (.ref fa) ⟨[.ref a],[]⟩) (fun r s'=>r=.ok (.ret (.bool true))∧OldK s₁.heap s'.heap∧s'.os=s₁.os∧AllBare s'.gens) s₁:=by
  intro H hO hS hok hA hK;have base_of:∀ {b:Addr}{o:Obj},s₁.heap.get? b=some o→H b=none→(hidT s₁.heap H).get? b=some o:=fun e n=>hidT_get e n;have noA:∀ {b:Addr}{o:Obj}{es:Array DictEntry}{ep:Nat},s₁.heap.get? b=some o→o.data=.dict es ep→H b=none:=fun {b o es ep} e d=>by
   cases q:H b with
   | none=>rfl
   | some u =>
    rcases hA b (by rw [q];simp) with e' | e'
    ·subst e';rw [ha] at e;cases e;have d':Data.seq vs.toArray _=Data.dict es ep:=d;cases d'
    ·rw [hT b e'] at e;cases e;cases d
  have nsK:∀ {b:Addr}{m:Str→Option Value},s₁.heap.Ns b m→(hidT s₁.heap H).Ns b m:=fun {b m} ⟨o,es,ep,e,d,r⟩=>⟨o,es,ep,base_of e (noA e d),d,r⟩
  have hKb:K.In (hidT s₁.heap H):=fun b o e=>base_of (KX b o e) (by
   cases q:H b with
   | none=>rfl
   | some u =>
    rcases hA b (by rw [q];simp) with e' | e'
    ·subst e';rw [hK (by rw [q];simp)] at e;cases e
    ·rw [hKT b e'] at e;cases e)
  have hBl2:BltAt mg (hidT s₁.heap H):=by
   obtain ⟨bm,ob,e1,e2,e3,e4,e5,e6,e7⟩:=hBl;refine ⟨bm,ob,e1,e2,e3,base_of e4 ?_,e5,e6,e7⟩;cases q:H bm with
   | none=>rfl
   | some u =>
    rcases hA bm (by rw [q];simp) with e' | e'
    ·subst e';rw [ha] at e4;cases e4;exact absurd (show Value.type "list" = Value.type "module" from e5) (by decide)
    ·rw [hT bm e'] at e4;cases e4;exact absurd (show Value.none=Value.type "module" from e5) (by decide)
  have hM:Mod K mg (hidT s₁.heap H):=⟨hKb,nsK hns,⟨mb,nsK hb,hbb⟩,let ⟨mc,h1,h2⟩:=hlim;⟨mc,nsK h1,h2⟩⟩;have e0:Env0 P w K mg (hidT s₁.heap H) callerA [] s₁ H:=⟨rfl,hM,fun b o e=>of_hidT e,Nat.le_of_eq (hidT_size _ _),trivial,fun b hb=>absurd (show b∈([]:List Addr) from hb) (by simp),hok,.of_eq hg⟩;refine codeAny_mono ((F _ hKb (nsK hns) hBl2).run callerA [] s₁ H ⟨[.ref a],[]⟩ [.ref a] [.ref a] _ _ hr e0 (hbind s₁ (.ref a)) (.cons rfl .nil) (hsp H hO hS)) fun r s' h=>?_;cases r with
  | error e=>exact (hCX H e s' h).elim
  | ok fl =>
   cases fl with
   | next=>exact False.elim h
   | brk=>exact False.elim h
   | cont=>exact False.elim h
   | ret u =>
    obtain ⟨v,H',os,bare,un,hok',r',q⟩:=h;have q':v=.bl true:=q;subst q';obtain rfl:u=Value.bool true:=r';have keep:∀ b o,b∉ts→s₁.heap.get? b=some o→s'.heap.get? b=some o:=fun b o nb e=>by
     cases q:H b with
     | none=>exact un.keep b o e q (by intro z;exact absurd (show b∈([]:List Addr) from z) (by simp)) (by simp)
     | some u =>
      rcases hO.2 b nb with z | ⟨ob,xs,z⟩
      ·rw [q] at z;cases z
      ·have z2:=un.frzs b ob _ z;obtain ⟨e1,_⟩:=hok b _ z;obtain ⟨e2,_⟩:=hok' b _ z2;rw [e] at e1;cases e1;exact e2
    have gT:∀ T∈ts,∃ more,s'.heap.get? T=some { cls:=.none,data:=.fields (#[]++more) }:=fun T hm=>by
     obtain ⟨more,eT⟩:=un.tbls T _ (hO.1 T hm);exact ⟨more,hok' T _ eT⟩
    refine ⟨rfl,⟨fun b o e=>?_,fun b o e=>?_⟩,os,bare⟩
    ·by_cases nb:b∈ts
     ·obtain ⟨more,g⟩:=gT b nb;rw [hT b nb] at e;cases e;obtain ⟨c,hc⟩:=hCd b nb;obtain ⟨oc,vsc,_,_,_,_,_,_,_,g1,g2,g3,g4,_⟩:=PySem.W.codeHd_of_K KX hc;exact .inr (.inl ⟨⟨c,oc,vsc,g1,g2,g3,g4⟩,rfl,#[],more,rfl,g⟩)
     ·exact .inl (keep b o nb e)
    ·by_cases nb:b∈ts
     ·obtain ⟨more,g⟩:=gT b nb;exact ⟨_,g⟩
     ·exact ⟨o,keep b o nb e⟩
 cases hk:K.lookup a with
 | some o =>
  have e:=KX a o hk;rw [ha] at e;cases e;refine core (fun b=>if b∈ts then some (.tbl #[]) else none) ⟨fun T hm=>if_pos hm,fun b nb=>.inl (if_neg nb)⟩ (.inr ⟨_,vs.toArray,_,hk,rfl,rfl,rfl,by rw [Zb,lenV];exact hl,by simpa using rv⟩) (fun b u z=>?_) (fun b z=>?_) fun z=>absurd (if_neg aT) z
  ·by_cases nb:b∈ts
   ·have z':=(if_pos nb).symm.trans z;cases z';exact hT b nb
   ·have z':=(if_neg nb).symm.trans z;cases z'
  ·by_cases nb:b∈ts
   ·exact .inr nb
   ·exact absurd (if_neg nb) z
 | none =>
  refine core (fun b=>if b∈ts then some (.tbl #[]) else if b=a then some (.frz { cls:=.type "list",data:=.seq vs.toArray } (.lst (ns.map V.int))) else none) ⟨fun T hm=>if_pos hm,fun b nb=>?_⟩ (.inl (.inr ⟨{ cls:=.type "list",data:=.seq vs.toArray },?_⟩)) (fun b u z=>?_) (fun b z=>?_) fun _=>hk
  ·by_cases hb:b=a
   ·exact .inr ⟨_,_,(if_neg nb).trans (if_pos hb)⟩
   ·exact .inl ((if_neg nb).trans (if_neg hb))
  ·exact (if_neg aT).trans (if_pos rfl)
  ·by_cases nb:b∈ts
   ·have z':=(if_pos nb).symm.trans z;cases z';exact hT b nb
   ·have z':=(if_neg nb).symm.trans z;by_cases hb:b=a
    ·have z2:=(if_pos hb).symm.trans z';cases z2;subst hb;exact ⟨ha,by rw [Z0];exact hl,vs,_,rv,ha⟩
    ·have z2:=(if_neg hb).symm.trans z';cases z2
  ·by_cases nb:b∈ts
   ·exact .inr nb
   ·by_cases hb:b=a
    ·exact .inl hb
    ·exact absurd ((if_neg nb).trans (if_neg hb)) z
end L2
namespace L2
open PySem PySem.Spec PyProof.Rows
section
variable {X:Cx}
end
end L2
namespace L2
open PySem PySem.Spec PyProof.Rows
section
variable {X:Cx}
end
namespace W
end W
end L2
namespace L2
open PySem PySem.Spec PyProof.Rows
section
variable {X:Cx}
end
namespace W
end W
end L2
namespace L2
open PySem PySem.Spec PyProof.Rows
section
variable {P:Program}{w:World}{A:Around}{E:Value→Shared→Prop}{s:Shared}
end
section
variable {P:Program}{w:World}{A:Around}{E:Value→Shared→Prop}{s:Shared}
end
end L2
namespace L2.W
open PySem PySem.Spec PyProof.Rows
end L2.W
namespace L2
open PySem PySem.Spec PyProof.Rows
section
variable {X:Cx}{CX:CXT}{k:Nat}{f C:Addr}{fd:FuncData}{ps:List Str}{sp:Sp}{dvs:List V}{ds:List Value}{E:St→XK}{x m:Str}{p pos apos:Pos}{e:Expr}{es:List Expr}{t:TA}
end
end L2
namespace L2.W
open PySem PySem.Spec PyProof.Rows
end L2.W
namespace L2
open PySem PySem.Spec PyProof.Rows
noncomputable def dataE:Nat→Expr→Option PyData
 | 0,_=>none
 | n + 1,e=>match e with
  | .Constant (.int i) _ _=>some (.int i)
  | .Constant (.str x) _ _=>if decide ((x:Str).length≤1000) && PyData.strOk x then some (.str x) else none
  | .Constant (.bool b) _ _=>some (.bool b)
  | .Constant .none _ _=>some .none
  | .List es _=>if es.length≤1000 then (es.mapM (dataE n)).map .list else none
  | .Tuple es _ _=>if es.length≤1000 then (es.mapM (dataE n)).map .tuple else none
  | .UnaryOp .USub e _=>match dataE n e with | some (.int i)=>some (.int (-i)) | _=>none
  | .BinOp a .Sub b _=>match dataE n a,dataE n b with | some (.int i),some (.int j)=>some (.int (i - j)) | _,_=>none
  | .BinOp a .Pow b _=>match dataE n a,dataE n b with | some (.int i),some (.int j)=>if 0≤j∧j≤1000∧i.natAbs≤1000 then some (.int (i ^ j.toNat)) else none | _,_=>none
  | _=>none
noncomputable def tData (d:PyData):TE:=fun _ H Q=>∀ v H',Same H H'→Has (fun a=>H a=none) H' v d→Q v H'
noncomputable def tDatas (ds:List PyData):TA:=fun _ H Q=>∀ vs H',Same H H'→HasAll (fun a=>H a=none) H' vs ds→Q vs H'
noncomputable def starOk (X:Cx) (e:Expr):Prop:=∀ es,starEach (e :: es) X.env=(false,eval e X.env) :: starEach es X.env
theorem zGn {X:Cx}{n:Nat} (ih:∀ {e:Expr}{d:PyData},dataE n e=some d→PE X e (tData d)∧starOk X e):∀ {es:List Expr}{ds:List PyData},es.mapM (dataE n)=some ds→PA X es (tDatas ds)
 | [],ds,h=>by
  rw [List.mapM_nil] at h;cases h;exact fun pos pins s σ H Q I q=>zA2 pos pins s σ H Q I (q [] H (Same.refl _) .nil)
 | e :: es,ds,h=>by
  rw [List.mapM_cons] at h;cases q:dataE n e with
  | none=>rw [q] at h;cases h
  | some d =>
   rw [q] at h;cases r:es.mapM (dataE n) with
   | none=>rw [r] at h;cases h
   | some ws =>
    rw [r] at h;cases h;obtain ⟨p1,p2⟩:=ih q;intro pos pins s σ H Q I k;refine zA0 p1 (zGn ih r) (p2 es) pos pins s σ H Q I fun v H1 s1 h1 vs H2 s2 h2=>k _ _ (s1.trans s2) (.cons (h1.mono s2) (h2.frame fun b o g e=>⟨s1.free g,e⟩))
theorem zGi {α β : Type}{f : α→Option β}:∀ {l:List α}{m:List β},l.mapM f=some m→m.length=l.length
 | [],m,h=>by rw [List.mapM_nil] at h;cases h;rfl
 | a :: l,m,h=>by
  rw [List.mapM_cons] at h;cases q:f a with
  | none=>rw [q] at h;cases h
  | some b =>
   rw [q] at h;cases r:l.mapM f with
   | none=>rw [r] at h;cases h
   | some ws=>rw [r] at h;cases h;rw [Ze,Ze,zGi r]
theorem data_of {X:Cx}:∀ {n:Nat}{e:Expr}{d:PyData},dataE n e=some d→PE X e (tData d)∧starOk X e
 | 0,_,_,h=>by cases h
 | n + 1,e,d,h=>by
  have ih:∀ {e:Expr}{d:PyData},dataE n e=some d→PE X e (tData d)∧starOk X e:=fun h=>data_of h;unfold dataE at h;split at h
  ·cases h;exact ⟨fun pins s σ H Q I k=>zA4 pins s σ H Q I (k _ H (Same.refl _) (.int _)),fun _=>rfl⟩
  ·split at h
   ·rename_i c
    rw [Zu] at c;cases h;exact ⟨fun pins s σ H Q I k=>zAe pins s σ H Q I (k _ H (Same.refl _) (.str _ (of_decide_eq_true c.1) c.2)),fun _=>rfl⟩
   ·cases h
  ·cases h;exact ⟨fun pins s σ H Q I k=>zBj pins s σ H Q I (k _ H (Same.refl _) (.bl _)),fun _=>rfl⟩
  ·cases h;exact ⟨fun pins s σ H Q I k=>zCc pins s σ H Q I (k _ H (Same.refl _) .non),fun _=>rfl⟩
  ·rename_i es pos
   split at h
   ·rename_i c
    obtain ⟨ds,hm,rfl⟩:=Option.map_eq_some_iff.mp h;refine ⟨fun pins s σ H Q I k=>zAr (zGn ih hm) pins s σ H Q I fun vs H1 s1 h1=>?_,fun _=>rfl⟩;have l1:vs.length≤1000:=by rw [h1.length,zGi hm];exact c
    exact ⟨Zl (small1000 l1),fun p hp=>k _ _ (s1.trans (Same.new hp)) (.lst (s1.free hp) zA1 l1 (h1.mono (Same.new hp)))⟩
   ·cases h
  ·rename_i es kk pos
   split at h
   ·rename_i c
    obtain ⟨ds,hm,rfl⟩:=Option.map_eq_some_iff.mp h;refine ⟨fun pins s σ H Q I k=>zBc (zGn ih hm) pins s σ H Q I fun vs H1 s1 h1=>?_,fun _=>rfl⟩;have l1:vs.length≤1000:=by rw [h1.length,zGi hm];exact c
    exact ⟨Zl (small1000 l1),fun p hp=>k _ _ (s1.trans (Same.new hp)) (.tup (s1.free hp) zA1 l1 (h1.mono (Same.new hp)))⟩
   ·cases h
  ·split at h
   ·rename_i i hi
    cases h;exact ⟨fun pins s σ H Q I k=>zDo zCg (ih hi).1 pins s σ H Q I fun v H1 s1 h1=>by cases h1;exact ⟨_,rfl,k _ _ s1 (.int _)⟩,fun _=>rfl⟩
   ·cases h
  ·split at h
   ·rename_i i j hi hj
    cases h;exact ⟨fun pins s σ H Q I k=>zAh op_sub (ih hi).1 (ih hj).1 pins s σ H Q I fun v H1 s1 h1 v2 H2 s2 h2=>by cases h1;cases h2;exact ⟨_,_,rfl,rfl,k _ _ (s1.trans s2) (.int _)⟩,fun _=>rfl⟩
   ·cases h
  ·split at h
   ·rename_i i j hi hj
    split at h
    ·rename_i c
     cases h;exact ⟨fun pins s σ H Q I k=>zAh op_pow (ih hi).1 (ih hj).1 pins s σ H Q I fun v H1 s1 h1 v2 H2 s2 h2=>by cases h1;cases h2;exact ⟨_,_,rfl,rfl,⟨c.1,by omega,by omega⟩,k _ _ (s1.trans s2) (.int _)⟩,fun _=>rfl⟩
    ·cases h
   ·cases h
  ·cases h
theorem pe_data {X:Cx}{e:Expr}{d:PyData} (n:Nat) (h:dataE n e=some d):PE X e (tData d):=(data_of h).1
end L2
namespace L2.W
open PySem PySem.Spec PyProof.Rows
noncomputable def pe_data:=by have h:=@L2.pe_data;rw [ePE] at h;exact @h
end L2.W
namespace L2
open PySem PySem.Spec PyProof.Rows
section
variable {prog:Program}{w:World}{A:Around}{R:Result→Shared→Prop}{I:Addr}{fp wr:List Addr}{G:Array GenState→Array GenState→Prop}{n:Nat}{P:Nat→Value→Prop}{St:Nat→Shared→Prop}
end
section
variable {prog:Program}{w:World}{A:Around}{E:Value→Shared→Prop}{s:Shared}
end
section
variable {X:Cx}
end
end L2
namespace L2
open PySem PySem.Spec PyProof.Rows
section
variable {X:Cx}
theorem call_str_any:CallR X (.type "str") (fun xs H Q=>(∃ i,xs=[.int i]∧i.natAbs.log2 < 1920∧Q (.str (toString i)) H)∨∃ x,xs=[.str x]∧Q (.str x) H):=by
 intro pins s σ H xs us Q I r h;rcases h with h | ⟨x,rfl,q⟩
 ·exact zBo pins s σ H xs us Q I r h
 ·obtain ⟨u,rfl,ru⟩:=v1 r;obtain ⟨t,rfl⟩:=(show ∃ t,u=Value.str x t from ru);exact PySem.P.str_of_str ⟨.str x,H,I,⟨t,rfl⟩,q⟩
theorem mt_upper:MtR X "str.upper" (fun x xs H Q=>∃ z,x=.str z∧xs=[]∧z.length≤1000∧Q (.str (Txt.upper z)) H):=by
 intro pins s σ H x xs v us Q I rx rs h;obtain ⟨z,rfl,rfl,hz,q⟩:=h;obtain ⟨t,rfl⟩:=rx;have hus:=rs.zero;subst hus;exact SCL.upper (by omega) fun _=>⟨.str _,H,I.tok _,⟨_,rfl⟩,q⟩
end
end L2
namespace L2
open PySem PySem.Spec PyProof.Rows
noncomputable def PEp (X:Cx) (e:Expr) (t:TE):Prop:=∀ (pins:List (Addr×Obj)) (s:Shared) (σ : St) (H:Hp) (Q:VK),Inv X pins σ H s→t σ H Q→wpAny (model X.prog X.w) X.A (eval e X.env) (fun u s'=>EP X pins σ Q u s'∧0 < s'.toks) X.xe s
noncomputable def PEn (X:Cx) (e:Expr) (t:TE):Prop:=∀ (pins:List (Addr×Obj)) (s:Shared) (σ : St) (H:Hp) (Q:VK),Inv X pins σ H s→0 < s.toks→t σ H Q→wpAny (model X.prog X.w) X.A (eval e X.env) (EP X pins σ Q) X.xe s
noncomputable def PAp (X:Cx) (es:List Expr) (t:TA):Prop:=∀ (pos:Pos) (pins:List (Addr×Obj)) (s:Shared) (σ : St) (H:Hp) (Q:List V→Hp→Prop),Inv X pins σ H s→0 < s.toks→t σ H Q→wpAny (model X.prog X.w) X.A (spliced (backTo pos (starEach es X.env))) (AP X pins σ Q) X.xe s
section
variable {X:Cx}{e:Expr}{es:List Expr}{te:TE}{t:TA}
theorem zGb (ha:PEp X e te) (hr:PAp X es t) (hs:starEach (e :: es) X.env=(false,eval e X.env) :: starEach es X.env:=by rfl):PA X (e :: es) (tCons te t):=by
 intro pos pins s σ H Q I h;rw [hs];show wpAny _ _ (spliced ((false,eval e X.env) :: backTo pos (starEach es X.env))) _ _ s;refine Calls.spliced_cons (thn (ha pins s σ H _ I h) fun u s1 ⟨⟨x,H1,I1,r1,q1⟩,hp⟩=>?_);exact thn (hr pos pins s1 σ H1 _ I1 hp q1) fun us s2 ⟨xs,H2,I2,r2,q2⟩=>⟨x :: xs,H2,I2,.cons r1 r2,q2⟩
theorem zG9 (ha:PEn X e te) (hr:PA X es t) (hs:starEach (e :: es) X.env=(false,eval e X.env) :: starEach es X.env:=by rfl):PAp X (e :: es) (tCons te t):=by
 intro pos pins s σ H Q I hp h;rw [hs];show wpAny _ _ (spliced ((false,eval e X.env) :: backTo pos (starEach es X.env))) _ _ s;refine Calls.spliced_cons (thn (ha pins s σ H _ I hp h) fun u s1 ⟨x,H1,I1,r1,q1⟩=>?_);exact thn (hr pos pins s1 σ H1 _ I1 q1) fun us s2 ⟨xs,H2,I2,r2,q2⟩=>⟨x :: xs,H2,I2,.cons r1 r2,q2⟩
theorem zG3 {a:Expr}{ta:TE}{y:Str}{j:Nat}{p1 pos:Pos} (ha:PE X a ta):PEp X (.BinOp a .Add (.Constant (.str y) j p1) pos) (fun σ H Q=>ta σ H fun x H1=>∃ i:Str,x=.str i∧0 < i.length∧0 < y.length∧i.length + y.length≤sizeLine∧Q (.str (i++y)) H1):=by
 intro pins s σ H Q I h;refine wpAny_BinOp (thn (ha pins s σ H _ I h) fun v s1 ⟨x,H1,I1,r1,q1⟩=>?_);obtain ⟨i,rfl,h1,h2,hz,q⟩:=q1;obtain ⟨t,rfl⟩:=(show ∃ t,v=Value.str i t from r1);refine Calls.Constant_str (PySem.P.add_str ?_);rw [if_neg (by simp;omega),if_neg (by simp;omega)];exact ⟨by rw [PySem.Str.length_append];exact hz,⟨.str (i++y),H1,I1.tok _,⟨_,rfl⟩,q⟩,Nat.succ_pos _⟩
theorem var_at {i:Nat}{x:Str}{pos:Pos}{pins:List (Addr×Obj)}{s:Shared}{σ : St}{H:Hp}{v:V} (I:Inv X pins σ H s) (hN:X.N[i]? = some x) (hv:Vis X.env.scope x) (e : σ[i]? = some (some v)) (hd:(x == ("__debug__" : Str))=false:=by decide) (hcd:(x == ("__classdict__" : Str))=false:=by decide):wpAny (model X.prog X.w) X.A (eval (.Name x pos) X.env) (fun u s'=>s'=s∧RelV v u) X.xe s:=by
 obtain ⟨m,hn,hl⟩:=I.loc;obtain ⟨u,r,l⟩:=hl i x v hN e hv;have fin:(fun u s'=>s'=s∧RelV v u) u s:=⟨rfl,r⟩;rcases l with ⟨hk,hm⟩ | ⟨hk,c,hc,hcell⟩
 ·exact wpAny_Name (wpAny_loadName_local I.ok.kind hk hn hm fin) hd
 ·rcases hk with hk | hk
  ·exact wpAny_Name (wpAny_loadName_cell I.ok.kind hk hc hcell fin) hd
  ·exact wpAny_Name (wpAny_loadName_free I.ok.kind hk hc hcell fin hcd) hd
theorem pen_replace {i:Nat}{x:Str}{p0 apos cpos p1 p2:Pos}{j1 j2:Nat}{y z:Str} (hN:X.N[i]? = some x) (hv:Vis X.env.scope x) (hyz:(y == z)=false) (hd:(x == ("__debug__" : Str))=false:=by decide) (hcd:(x == ("__classdict__" : Str))=false:=by decide)
  (hbase:attributeBase (.Name x p0) "replace" X.env (eval (.Name x p0) X.env)=eval (.Name x p0) X.env:=by rfl)
  (hfew:((backTo cpos (starEach [.Constant (.str y) j1 p1,.Constant (.str z) j2 p2] X.env)).all (fun x=>!x.1) && (backToKw cpos (keywordEach [] X.env)).all (fun x=>x.1.isSome)
   && decide (([.Constant (.str y) j1 p1,.Constant (.str z) j2 p2]:List Expr).length + ([]:List Keyword).length + (if ([]:List Keyword).isEmpty then 0 else 1) < 30))=true:=by rfl)
  (hline:(apos.endLine == cpos.line)=true:=by rfl) :
  PEn X (.Call (.Attribute (.Name x p0) "replace" apos) [.Constant (.str y) j1 p1,.Constant (.str z) j2 p2] [] cpos) (fun σ H Q=>∃ s,σ[i]? = some (some (.str s))∧s.length + (s.length + 1) * z.length≤16777216∧Q (.str (Txt.replace s y z)) H):=by
 intro pins s σ H Q I hp h;obtain ⟨str,e,hz,q⟩:=h;refine wpAny_Call_method_late hbase hfew hline rfl (thn (var_at I hN hv e hd hcd) fun v s1 ⟨es,rv⟩=>?_);subst es;obtain ⟨tv,rfl⟩:=(show ∃ t,v=Value.str str t from rv);refine ⟨"str", "str.replace",PySem.F.plainAttrs_str,PySem.F.slot_str_replace,PySem.F.type_str_replace,typeIs_str _ _ _,(fun a z=>nomatch z),?_⟩;refine Calls.callWith_builtin rfl (Calls.evalArgs_plain ?_);show wpAny _ _ (spliced ((false,eval (.Constant (.str y) j1 p1) X.env) :: (false,eval (.Constant (.str z) j2 p2) X.env) :: [])) _ _ _;refine Calls.spliced_cons (Calls.Constant_str ?_);refine Calls.spliced_cons (Calls.Constant_str (Calls.spliced_nil ?_));refine SC.replace (Yp hp) (Nat.succ_ne_zero _) (Zc (Yi _)) hyz hz fun t' k=>⟨.str _,H,I.tok _,⟨_,rfl⟩,q⟩
end
end L2
namespace L2.W
open PySem PySem.Spec PyProof.Rows
noncomputable def zGb:=by have h:=@L2.zGb;rw [ePA] at h;exact @h
noncomputable def zG9:=by have h:=@L2.zG9;rw [ePA] at h;exact @h
noncomputable def zG3:=by have h:=@L2.zG3;rw [ePE] at h;exact @h
end L2.W
namespace L2
open PySem PySem.Spec PyProof.Rows
theorem zEs {α β : Type} [BEq α] [LawfulBEq α] {x : α}{v : β}:∀ {l:List (α×β)},l.lookup x=some v→x∈l.map (·.1)
 | [],h=>by cases h
 | (y,u) :: l,h=>by
  rw [Y2] at h;cases e:x == y with
  | true=>rw [eq_of_beq e];simp
  | false =>
   rw [e] at h;exact Z6 _ (zEs h)
section
variable {X:Cx}{CX:CXT}{k:Nat}{fw c P:Addr}{fd:FuncData}{q x y:Str}{params:Arguments}{body:Expr}{scope:Scope}{N:List Str}{ix:List Nat}{sp:Addr→Addr→List (Str×Addr)→List V→Sp}{E:St→XK}{p lpos pos:Pos}
theorem zG5 {cl0:List (Str×Addr)} (F:∀ f c' cl ws,FnOkS (LamAt f c' q params body scope cl N ws) X.prog X.w X.K X.mg X.base CX k fw fd [y] (sp f c' cl ws)) (hr:Room k X.A) (hg:Gl X x) (hm:X.mg x=some (.ref fw)) (hk:PySem.W.keepIn X.K (.ref fw)=true) (hb:Binds X.K fd [y] []) (hx:Passes CX X E)
  (T:LamTxt X.K X.mg X.base c P) (hcode:X.env.code=.ref c) (hq:X.env.qual++"<lambda>" = q) (hcl:closureFor scope X.env=pure cl0) (hdef:defaultsOf params X.env=([],[]))
  (hix:ix.map (fun j=>X.N[j]?)=N.map some) (hcell:∀ z∈N,X.env.scope.names.lookup z=some .cell) (hfree:∀ z,scope.names.lookup z=some .free→z∈N) (hin:∀ z∈cl0.map (·.1),z∈N) (heq:∀ z∈N,cl0.lookup z=X.env.cells.lookup z)
  (hdb:(x == ("__debug__" : Str))=false:=by decide) (he:starEach [Expr.Lambda params body scope lpos] X.env=[(false,eval (.Lambda params body scope lpos) X.env)]:=by rfl) :
  PE X (.Call (.Name x p) [.Lambda params body scope lpos] [] pos) (tLam sp P q ix E):=by
 intro pins s σ H Q I ⟨ws,hws,W,h⟩;have sub:∀ {z:Str}{c:Addr},cl0.lookup z=some c→X.env.cells.lookup z=some c:=fun {z c} e=>by rw [← heq z (hin z (zEs e))];exact e
 refine wpAny_Call_Name_kw (zDt I hg hm ?_ hdb);refine PySem.W.callWith_K (h₀:=X.base) I.ok.mod.kin hk ?_ he rfl;rw [he];show wpAny _ _ (spliced ((false,eval (.Lambda params body scope lpos) X.env) :: [])) _ _ s;refine Calls.spliced_cons (lam_madeM I T hcode hq hcl hdef W fun H1 s1 f c' pm ctv I1 ho hf hc W1 gr=>Calls.spliced_nil ⟨I1.kIn,?_⟩);have l1:ix.length=N.length:=by simpa using congrArg List.length hix
 have l2:ix.length=ws.length:=by simpa using congrArg List.length hws
 have L:LamAt f c' q params body scope cl0 N ws s1.heap:=by
  refine ⟨⟨_,pm,ctv,ho,rfl⟩,fun i z v e1 e2=>?_,fun z c e=>I1.cell z c (sub e),fun x y c e1 e2=>I1.ok.inj x y c (sub e1) (sub e2),fun z e=>by obtain ⟨c,h⟩:=I1.ok.has z (.inl (hcell z (hfree z e)));exact ⟨c,by rw [heq z (hfree z e)];exact h⟩,by omega⟩;have il:i < ix.length:=by rw [l1];exact (List.getElem?_eq_some_iff.mp e1).1
  obtain ⟨j,hj⟩:∃ j,ix[i]? = some j:=⟨_,Z1 il⟩;have a1:X.N[j]? = some z:=by
   have:=congrArg (fun l=>l[i]?) hix;simp only [Za,hj,e1,Option.map_some] at this;exact Zi this
  have a2 : σ[j]? = some (some v):=by
   have:=congrArg (fun l=>l[i]?) hws;simp only [Za,hj,e2,Option.map_some] at this;have:=Zi this;cases y : σ[j]? with
   | none=>rw [y] at this;cases this
   | some w=>rw [y] at this;rw [show w=some v from this]
  have kc:=hcell z (Z3 e1);obtain ⟨m,hn,hl⟩:=I1.loc;obtain ⟨u,r,lk⟩:=hl j z v a1 a2 (.inr (.inl kc));rcases lk with ⟨k1,_⟩ | ⟨_,c0,h1,h2⟩
  ·have k1':X.env.scope.names.lookup z=some .local:=k1;rw [kc] at k1';cases k1'
  ·exact ⟨c0,u,by rw [heq z (Z3 e1)];exact h1,r,h2⟩
 have hsp:=h f c' cl0 H1 W1 gr hc ⟨hf,fun z c e=>I1.freeC z c (sub e)⟩;refine wpAny_call (codeAny_mono ((F f c' cl0 ws).run X.A X.stack s1 H1 ⟨[.ref f],[]⟩ [.ref f] [.ref f] Q (E σ) hr I1.env0 L (hb s1 [.ref f] I1.kIn rfl) (.cons rfl .nil) hsp) fun r s' hq'=>?_);cases r with
 | error e=>exact hx pins σ H1 s1 e s' I1 hq'
 | ok fl =>
  cases fl with
  | ret u=>exact I1.after hq'
  | next=>exact False.elim hq'
  | brk=>exact False.elim hq'
  | cont=>exact False.elim hq'
end
namespace W
noncomputable def zG5:=by have h:=@L2.zG5;rw [ePE] at h;exact @h
end W
end L2
namespace My
open PySem L2
noncomputable def top (i:Nat):Stmt:=PySem.Challenge.pw_cometorest_k09_no_names_of_things.main.body.getD i (.Pass ⟨0,0,0,0⟩)
noncomputable abbrev sIsName:Stmt:=top 11
noncomputable abbrev sIsWhole:Stmt:=top 12
noncomputable abbrev sUnlike:Stmt:=top 13
noncomputable abbrev sPair:Stmt:=top 14
noncomputable abbrev sFields:Stmt:=top 15
noncomputable abbrev sCount:Stmt:=top 16
noncomputable abbrev sInit:Stmt:=inClass (top 17) 0
noncomputable abbrev sAreKinds:Stmt:=top 18
noncomputable abbrev sPlaced:Stmt:=top 19
noncomputable abbrev sInitKs:Stmt:=inClass (top 20) 0
noncomputable abbrev sOf:Stmt:=inClass (top 20) 2
noncomputable abbrev sWritten:Stmt:=top 25
noncomputable abbrev sHasForm:Stmt:=top 26
noncomputable abbrev sPartsOf:Stmt:=top 27
noncomputable abbrev sNameOf:Stmt:=top 28
noncomputable abbrev sMixed:Stmt:=top 31
noncomputable abbrev sDigits:Stmt:=top 32
noncomputable abbrev sNext:Stmt:=top 33
noncomputable abbrev sSign:Stmt:=top 34
noncomputable abbrev sNames:Stmt:=top 35
noncomputable abbrev sLFields:Stmt:=top 36
noncomputable abbrev sSpecs:Stmt:=top 37
noncomputable abbrev sTurned:Stmt:=top 38
noncomputable abbrev sMade:Stmt:=top 39
noncomputable abbrev sRefused:Stmt:=top 40
noncomputable abbrev sChain:Stmt:=top 41
noncomputable abbrev sText:Stmt:=top 42
noncomputable abbrev sSpoilt:Stmt:=top 43
noncomputable abbrev sBad:Stmt:=top 44
noncomputable abbrev sBadThree:Stmt:=top 45
noncomputable abbrev sLaw:Stmt:=top 46
noncomputable def letters:Str:="abcdefghijklmnopqrstuvwxyz"
structure Tops (K:PySem.W.Frag) (mg:Str→Option Value):Prop where
 isinst:mg "isinstance" = none
 len:mg "len" = none
 all:mg "all" = none
 set:mg "set" = none
 range:mg "range" = none
 str:mg "str" = none
 list:mg "list" = none
 tuple:mg "tuple" = none
 zip:mg "zip" = none
 dict:mg "dict" = none
 min:mg "min" = none
 enum:mg "enumerate" = none
 int:mg "int" = none
 bool:mg "bool" = none
 lets:∃ t,mg "LETTERS" = some (.str letters t)
 most:∃ t,mg "MOST_LETTERS" = some (.int 8 t)
 mostS:∃ t,mg "MOST_STATES" = some (.int 8 t)
 figs:∃ t,mg "FIGURES" = some (.str "0123456789" t)
 mostF:∃ t,mg "MOST_FIGURES" = some (.int 6 t)
 mostN:∃ t,mg "MOST_NUMBER" = some (.int 999999 t)
noncomputable def charB (c:Nat):Bool:=decide (c∈letters.cps.toList)
noncomputable def nameB (x:Str):Bool:=decide (1≤x.length) && decide (x.length≤8) && x.cps.toList.all charB
noncomputable def spIsName (K:PySem.W.Frag):Sp:=fun vs H Q _=>(∃ x,vs=[.str x]∧x.length≤1000∧∀ H',Same H H'→Q (.bl (nameB x)) H') ∨
 ∃ v t,vs=[v]∧TyOf K H v t∧PySem.W.kitOne K t (.type "str")=some false∧Q (.bl false) H
section
variable {P:Program}{w:World}{K:PySem.W.Frag}{mg:Str→Option Value}{base:Heap}{CX:CXT}
theorem scIN:FnScope ["thing"] ["thing"] (defScope sIsName):=⟨rfl,rfl,rfl,by decide +kernel,rfl,by decide +kernel,by decide +kernel⟩
theorem ok_isName {f:Addr}{fd:FuncData} (F:Fun K "is_name" "is_name" sIsName f fd) (T:Tops K mg):FnOk P w K mg base CX 1 f fd ["thing"] (spIsName K):=by
 refine F.okC scIN (fun vs H Q E h=>?_) (fun cdv A outer s H vs Q E hr h=>?_)
 ·rcases h with ⟨x,rfl,_⟩ | ⟨v,t,rfl,_⟩ <;> rfl
 ·obtain ⟨tl,hlets⟩:=T.lets;obtain ⟨tm,hmost⟩:=T.most
  refine ⟨_,zA3 (zAw (zB0 (zB2 (zA9 zAy rfl T.isinst PyProof.Rows.boot_isinstance (zA0 (pv 0) (zA0 (zBq (v:=.ty "str") rfl T.str PyProof.Rows.boot_str rfl) zA2))))) (zA6 (zAj zBj)) zAg)
   (zA6 (zAj (zDd (zG8 op_le op_le zA4 (zA9 zB8 rfl T.len PySem.boot_len (zA0 (pv 0) zA2)) (zBb (v:=.int 8) rfl hmost ⟨_,rfl⟩))
    (zEi (zA9 (zBl rfl) rfl T.all PyProof.Rows.boot_all (zA0 (zAu (T:=["sign"]) rfl ScOk.auto (zFj (pv 0)) (fun _ _ _ _=>zAc (i:=1) (by decide +kernel:(["thing", "sign"]:List Str).Nodup) rfl (Or.inl rfl)) (fun _ _ _ _=>zB6)
     (fun _ _ _ _=>zD2 zEn (pv 1) (zBb (v:=.str letters) rfl hlets ⟨_,rfl⟩) rfl)) zA2)))))),?_⟩
  rcases h with ⟨x,rfl,hx,k⟩ | ⟨v,t,rfl,ty,hk,k⟩
  ·refine ⟨_,rfl,_,_,_,_,_,rfl,.str x,rfl,rfl,_,rfl,iteF ?_⟩;have hz:x.length≤sizeLine:=Zl (small1000 hx);refine ⟨_,rfl,x,rfl,hz,_,_,rfl,rfl,_,rfl,?_⟩;refine ite2 (fun h1=>?_) (fun h1=>?_)
   ·refine ⟨_,_,rfl,rfl,_,rfl,?_⟩;refine ite2 (fun h2=>?_) (fun h2=>?_)
    ·refine ⟨_,rfl,x,rfl,zC9 (fun _=>true) (fun c=>.bl (charB c)) hz (fun c Ry Rn q _=>?_) (fun d hd=>?_)⟩
     ·refine iteT (B:=Rn H) ⟨_,rfl,_,_,rfl,rfl,?_⟩;rw [PySem.StrLaws.found_one];exact q rfl
     ·refine ⟨d,x.cps.toList.map charB,rfl,SqL.of ?_,?_⟩
      ·rw [zA1,List.filter_eq_self.mpr (fun _ _=>rfl),Zy];rfl
      ·have e:nameB x=(x.cps.toList.map charB).all id:=by
        have a1:1≤x.length:=by have:=of_decide_eq_true h1;omega
        have a2:x.length≤8:=by have:=of_decide_eq_true h2;omega
        unfold nameB;rw [decide_eq_true a1,decide_eq_true a2,Ya];rfl
       rw [← e];exact k _ (Same.new hd)
    ·have a2:¬ x.length≤8:=fun z=>h2 (decide_eq_true (by omega));have e:nameB x=false:=by unfold nameB;rw [decide_eq_false a2];simp
     rw [← e];exact k _ (Same.refl _)
   ·have a1:¬ 1≤x.length:=fun z=>h1 (decide_eq_true (by omega));have e:nameB x=false:=by unfold nameB;rw [decide_eq_false a1];simp
    refine ⟨false,rfl,iteF ?_⟩;rw [← e];exact k _ (Same.refl _)
  ·exact ⟨_,rfl,_,_,_,_,_,rfl,ty,rfl,hk,_,rfl,iteT k⟩
end
noncomputable def spIsWhole (K:PySem.W.Frag):Sp:=fun vs H Q _=>∃ v t b c,vs=[v]∧TyOf K H v t∧PySem.W.kitOne K t (.type "int")=some b∧PySem.W.kitOne K t (.type "bool")=some c∧Q (.bl (b && !c)) H
section
variable {P:Program}{w:World}{K:PySem.W.Frag}{mg:Str→Option Value}{base:Heap}{CX:CXT}
theorem scIW:FnScope ["thing"] ["thing"] (defScope sIsWhole):=⟨rfl,rfl,rfl,by decide +kernel,rfl,by decide +kernel,by decide +kernel⟩
theorem ok_isWhole {f:Addr}{fd:FuncData} (F:Fun K "is_whole" "is_whole" sIsWhole f fd) (T:Tops K mg):FnOk P w K mg base CX 1 f fd ["thing"] (spIsWhole K):=by
 refine F.okC scIW (fun vs H Q E h=>?_) (fun cdv A outer s H vs Q E hr h=>?_)
 ·obtain ⟨v,t,b,c,rfl,_⟩:=h;rfl
 ·obtain ⟨v,t,b,c,rfl,ty,hb,hc,k⟩:=h
  refine ⟨_,zA6 (zAj (zDd (zA9 zAy rfl T.isinst PyProof.Rows.boot_isinstance (zA0 (pv 0) (zA0 (zBq (v:=.ty "int") rfl T.int PyProof.Rows.boot_int rfl) zA2)))
   (zEi (pe_not (zA9 zAy rfl T.isinst PyProof.Rows.boot_isinstance (zA0 (pv 0) (zA0 (zBq (v:=.ty "bool") rfl T.bool PyProof.Rows.boot_bool rfl) zA2))))))),?_⟩
  refine ⟨_,rfl,_,_,_,_,_,rfl,ty,rfl,hb,_,rfl,?_⟩;cases b with
  | true=>exact iteT ⟨_,rfl,_,_,_,_,_,rfl,ty,rfl,hc,_,rfl,k⟩
  | false=>exact iteF k
end
noncomputable def spMixed:Sp:=fun vs H Q _=>∃ c k:Int,vs=[.int c,.int k]∧0≤k∧k≤1000000∧∀ n:Int,0≤n→n < 2147483629→Q (.int n) H
noncomputable def Src (H:Hp) (p:Addr) (k:Int):Prop:=∃ a c j:Int,H p=some (.lst [.int a,.int c,.int j])∧0≤j∧j≤k
noncomputable def spDigits:Sp:=fun vs H Q _=>∃ c:Int,vs=[.int c]∧∀ p H',H p=none→Src H' p 0→Same H H'→(∀ b,b≠p→H' b=H b)→Q (.ref p) H'
noncomputable def spNext:Sp:=fun vs H Q _=>∃ (p:Addr) (m k:Int),vs=[.ref p,.int m]∧Src H p k∧k≤999998∧0 < m∧m < 2 ^ 64 ∧
 ∀ (r:Int) (H':Hp),0≤r→r < m→Src H' p (k + 1)→(∀ b,b≠p→H' b=H b)→Q (.int r) H'
section
variable {P:Program}{w:World}{K:PySem.W.Frag}{mg:Str→Option Value}{base:Heap}{CX:CXT}
theorem scMx:FnScope ["_law_cell", "_law_k", "_law_number"] ["_law_cell", "_law_k"] (defScope sMixed):=⟨rfl,rfl,rfl,by decide +kernel,rfl,by decide +kernel,by decide +kernel⟩
theorem ok_mixed {f:Addr}{fd:FuncData} (F:Fun K "_law_mixed" "_law_mixed" sMixed f fd):FnOk P w K mg base CX 1 f fd ["_law_cell", "_law_k"] spMixed:=by
 refine F.okC scMx (fun vs H Q E h=>?_) (fun cdv A outer s H vs Q E hr h=>?_)
 ·obtain ⟨c,k,rfl,_⟩:=h;rfl
 ·obtain ⟨c,k,rfl,h0,h1,q⟩:=h
  refine ⟨_,zA3 (zAb (i:=2) scMx.nd rfl (Or.inl rfl) (zAh zCd (zAh zE0 (zAh zC6 (zAh zC6 (zAh zCd (pv 0) zA4) (zAh zE0 zA4 (pv 1))) zA4) zA4) zA4))
   (zA3 (zAb (i:=2) scMx.nd rfl (Or.inl rfl) (zAh zCd (zAh zE0 (pv 2) (zAh zC6 (zAh zGc (pv 2) zA4) zA4)) zA4))
   (zA3 (zAb (i:=2) scMx.nd rfl (Or.inl rfl) (zAh zCd (zAh zE0 (pv 2) (zAh zC6 (zAh zC6 (zAh zGc (pv 2) zA4) zA4) (pv 1))) zA4))
   (zA6 (zAj (zAh zCd (zAh zE0 (pv 2) (zAh zC6 (zAh zGc (pv 2) zA4) zA4)) zA4))))),?_⟩
  have M:(0:Int) < 2147483629:=by decide
  have lo:∀ z:Int,0≤z % 2147483629:=fun z=>Int.emod_nonneg _ (by decide);have hi:∀ z:Int,z % 2147483629 < 2147483629:=fun z=>Yo _ M;have cm:∀ z y:Int,CMul (z % 2147483629) y:=fun z y=>by have:=lo z;have:=hi z;exact .inl ⟨by omega,by omega⟩
  refine ⟨_,rfl,_,_,rfl,rfl,M,_,rfl,_,_,rfl,rfl,.inl ⟨by decide,by decide⟩,_,_,rfl,rfl,_,_,rfl,rfl,_,_,rfl,rfl,.inr ⟨by decide,by decide⟩,_,_,rfl,rfl,M,?_⟩;refine ⟨_,rfl,_,rfl,_,_,rfl,rfl,⟨by decide,by decide⟩,_,_,rfl,rfl,_,_,rfl,rfl,cm _ _,_,_,rfl,rfl,M,?_⟩;refine ⟨_,rfl,_,rfl,_,_,rfl,rfl,⟨by decide,by decide⟩,_,_,rfl,rfl,_,rfl,_,_,rfl,rfl,_,_,rfl,rfl,cm _ _,_,_,rfl,rfl,M,?_⟩;refine ⟨_,rfl,_,rfl,_,_,rfl,rfl,⟨by decide,by decide⟩,_,_,rfl,rfl,_,_,rfl,rfl,cm _ _,_,_,rfl,rfl,M,?_⟩;exact q _ (lo _) (hi _)
theorem scDg:FnScope ["_law_cell"] ["_law_cell"] (defScope sDigits):=⟨rfl,rfl,rfl,by decide +kernel,rfl,by decide +kernel,by decide +kernel⟩
theorem ok_digits {f:Addr}{fd:FuncData} (F:Fun K "_law_digits" "_law_digits" sDigits f fd):FnOk P w K mg base CX 1 f fd ["_law_cell"] spDigits:=by
 refine F.okC scDg (fun vs H Q E h=>?_) (fun cdv A outer s H vs Q E hr h=>?_)
 ·obtain ⟨c,rfl,_⟩:=h;rfl
 ·obtain ⟨c,rfl,q⟩:=h;refine ⟨_,zA6 (zAj (zAr (zA0 (zAh zE0 (zAh zGc (pv 0) zA4) (zAh op_sub zA4 (zAh zCd (pv 0) zA4))) (zA0 (pv 0) (zA0 zA4 zA2))))),?_⟩;have a1:0≤c % 2:=Int.emod_nonneg _ (by decide);have a2:c % 2 < 2:=Yo _ (by decide);refine ⟨_,rfl,_,_,rfl,rfl,⟨by decide,by decide⟩,_,rfl,_,_,rfl,rfl,(by show (0:Int) < 2;decide),_,_,rfl,rfl,_,_,rfl,rfl,.inr ⟨by omega,by omega⟩,_,rfl,(by show 3≤sizeLine;decide),fun p hp=>?_⟩;exact q p _ hp ⟨_,_,0,zA1,by decide,by decide⟩ (Same.new hp) fun b hb=>zAa hb
theorem scNx:FnScope ["_law_source", "_law_many", "_law_got"] ["_law_source", "_law_many"] (defScope sNext):=⟨rfl,rfl,rfl,by decide +kernel,rfl,by decide +kernel,by decide +kernel⟩
theorem zCl {f fm:Addr}{fd fdm:FuncData} (hC:Calm CX) (F:Fun K "_law_next" "_law_next" sNext f fd) (DM:Def K mg "_law_mixed" sMixed ["_law_cell", "_law_k"] fm fdm):FnOk P w K mg base CX 2 f fd ["_law_source", "_law_many"] spNext:=by
 have GM:FnOk P w K mg base CX 1 fm fdm ["_law_cell", "_law_k"] spMixed:=ok_mixed DM.fn;refine F.okC scNx (fun vs H Q E h=>?_) (fun cdv A outer s H vs Q E hr h=>?_)
 ·obtain ⟨p,m,k,rfl,_⟩:=h;rfl
 ·obtain ⟨p,m,k,rfl,⟨a,c,j,hp,j0,j1⟩,hk,m0,m1,q⟩:=h
  refine ⟨_,zA3 (zAw (zAp zF8 (zAs zAk (pv 0) zA4 (fun _ _=>rfl)) zA4 (nomark _))
    (zA3 (zAb (i:=2) scNx.nd rfl (Or.inl rfl) (zAh zCd (zAs zAk (pv 0) zA4 (fun _ _=>rfl)) (pv 1)))
    (zA3 (zEg (zAh op_fdivB (zAs zAk (pv 0) zA4 (fun _ _=>rfl)) (pv 1)) (pg_sub (pv 0) zA4 set_list))
    (zA6 (zAj (pv 2))))) zAg)
   (zA3 (zEg (zAh zC6 (zAs zAk (pv 0) zA4 (fun _ _=>rfl)) zA4) (pg_sub (pv 0) zA4 set_list))
   (zA6 (zAj (zAh zCd (zA7 GM hr rfl DM.at_ DM.fn.kp DM.bind .nil (passC hC) (zA0 (zAs zAk (pv 0) zA4 (fun _ _=>rfl)) (zA0 (zAs zAk (pv 0) zA4 (fun _ _=>rfl)) zA2))) (pv 1))))),?_⟩
  have S0:SqL K H p [.int a,.int c,.int j]:=SqL.of hp;refine ⟨_,rfl,p,_,_,_,rfl,rfl,S0,rfl,_,_,rfl,rfl,_,rfl,?_⟩;refine ite2 (fun h0=>?_) (fun h0=>?_)
  ·refine ⟨_,rfl,p,_,_,_,rfl,rfl,S0,rfl,_,rfl,_,_,rfl,rfl,m0,?_⟩;refine ⟨_,rfl,p,_,_,_,rfl,rfl,S0,rfl,_,rfl,_,_,rfl,rfl,⟨m0,m1⟩,?_⟩;refine ⟨_,rfl,p,_,_,0,rfl,rfl,hp,rfl,?_⟩;refine ⟨_,rfl,q _ _ (Int.emod_nonneg _ (by omega)) (Yo _ m0) ⟨_,_,j,zA1,j0,by omega⟩ fun b hb=>zAa hb⟩
  ·refine ⟨_,rfl,p,_,_,_,rfl,rfl,S0,rfl,_,_,rfl,rfl,?_⟩;refine ⟨_,rfl,p,_,_,2,rfl,rfl,hp,rfl,?_⟩;have S1:SqL K (upd H p (.lst [.int a,.int c,.int (j + 1)])) p [.int a,.int c,.int (j + 1)]:=SqL.of zA1;refine ⟨_,rfl,p,_,_,_,rfl,rfl,S1,rfl,_,rfl,p,_,_,_,rfl,rfl,S1,rfl,c,j + 1,rfl,by omega,by omega,fun n n0 n1=>?_⟩;refine ⟨_,rfl,_,_,rfl,rfl,m0,?_⟩;exact q _ _ (Int.emod_nonneg _ (by omega)) (Yo _ m0) ⟨_,_,j + 1,zA1,by omega,by omega⟩ fun b hb=>zAa hb
end
theorem atI_ex {α : Type} (xs:List α) {i:Int} (h0:0≤i) (h1:i < xs.length):∃ c,atI xs i=some c∧c∈xs:=by
 have lt:i.toNat < xs.length:=by omega
 refine ⟨xs[i.toNat],?_,List.getElem_mem _⟩;unfold atI ixN;rw [if_pos h0,if_pos h1];simp [lt]
theorem Src.mono {H:Hp}{p:Addr}{k l:Int} (h:Src H p k) (hl:k≤l):Src H p l:=by
 obtain ⟨a,c,j,e,j0,j1⟩:=h;exact ⟨a,c,j,e,j0,by omega⟩
noncomputable def nameD:PyData→Bool
 | .str x=>nameB x
 | _=>false
noncomputable def strsOf:List PyData→List Str
 | .str x :: r=>x :: strsOf r
 | _ :: r=>strsOf r
 | []=>[]
noncomputable def unlikeB (ds:List PyData):Bool:=ds.all nameD && decide (strsOf ds).Nodup
noncomputable def pairB:PyData→Bool
 | .tuple [_,.list vs]=>decide (0 < vs.length) && unlikeB vs
 | _=>false
noncomputable def firstD:PyData→PyData
 | .tuple (d :: _)=>d
 | _=>.none
noncomputable def fieldsB:PyData→Bool
 | .list ds=>ds.all pairB && unlikeB (ds.map firstD)
 | _=>false
noncomputable def spNameD:Sp:=fun vs H Q _=>∃ v d,vs=[v]∧Has Any H v d∧∀ H',Same H H'→Q (.bl (nameD d)) H'
noncomputable def spUnlike:Sp:=fun vs H Q _=>∃ v ds,vs=[v]∧Has Any H v (.list ds)∧∀ H',Same H H'→Q (.bl (unlikeB ds)) H'
noncomputable def spPair:Sp:=fun vs H Q _=>∃ v d,vs=[v]∧Has Any H v d∧∀ H',Same H H'→Q (.bl (pairB d)) H'
noncomputable def spFields:Sp:=fun vs H Q _=>∃ v d,vs=[v]∧Has Any H v d∧∀ H',Same H H'→Q (.bl (fieldsB d)) H'
theorem strs_all {G:Addr→Prop}{H:Hp}:∀ {xs:List V}{ds:List PyData},HasAll G H xs ds→ds.all nameD=true→xs=(strsOf ds).map V.str∧(strsOf ds).length=ds.length
 | _,_,.nil,_=>⟨rfl,rfl⟩
 | _,_,.cons h t,e=>by
  rw [Yj,Zu] at e;obtain ⟨e1,e2⟩:=e;obtain ⟨q1,q2⟩:=strs_all t e2;cases h with
  | str x _ _=>exact ⟨by rw [q1];rfl,by rw [strsOf,Ze,Ze,q2]⟩
  | non=>cases e1
  | bl b=>cases e1
  | int i=>cases e1
  | lst _ _ _ _=>cases e1
  | tup _ _ _ _=>cases e1
section
variable {P:Program}{w:World}{K:PySem.W.Frag}{mg:Str→Option Value}{base:Heap}{CX:CXT}
theorem name_imp {vs:List V}{H:Hp}{Q:VK}{E:XK} (h:spNameD vs H Q E):spIsName K vs H Q E:=by
 obtain ⟨v,d,rfl,hd,q⟩:=h;cases hd with
 | str x hx ho=>exact .inl ⟨x,rfl,hx,q⟩
 | non=>exact .inr ⟨_,_,rfl,.non,rfl,q _ (Same.refl _)⟩
 | bl b=>exact .inr ⟨_,_,rfl,.bl b,rfl,q _ (Same.refl _)⟩
 | int i=>exact .inr ⟨_,_,rfl,.int i,rfl,q _ (Same.refl _)⟩
 | lst _ e _ _=>exact .inr ⟨_,_,rfl,.lst e,rfl,q _ (Same.refl _)⟩
 | tup _ e _ _=>exact .inr ⟨_,_,rfl,.tup e,rfl,q _ (Same.refl _)⟩
theorem zDe {f:Addr}{fd:FuncData} (F:Fun K "is_name" "is_name" sIsName f fd) (T:Tops K mg):FnOk P w K mg base CX 1 f fd ["thing"] spNameD:=(ok_isName F T).imp fun _ _ _ _ h=>name_imp h
theorem scUl:FnScope ["things"] ["things"] (defScope sUnlike):=⟨rfl,rfl,rfl,by decide +kernel,rfl,by decide +kernel,by decide +kernel⟩
theorem zEo {f fn:Addr}{fd fdn:FuncData} (hC:Calm CX) (T:Tops K mg) (F:Fun K "are_unlike_names" "are_unlike_names" sUnlike f fd) (DN:Def K mg "is_name" sIsName ["thing"] fn fdn):FnOk P w K mg base CX 2 f fd ["things"] spUnlike:=by
 have GN:FnOk P w K mg base CX 1 fn fdn ["thing"] spNameD:=zDe DN.fn T;refine F.okC scUl (fun vs H Q E h=>?_) (fun cdv A outer s H vs Q E hr h=>?_)
 ·obtain ⟨v,ds,rfl,_⟩:=h;rfl
 ·obtain ⟨v,ds,rfl,hd,k⟩:=h;obtain ⟨a,xs,rfl,_,ha,hz,hx⟩:=hd.list_inv;have hzl:xs.length≤sizeLine:=Zl (small1000 hz)
  refine ⟨_,zA6 (zAj (zDd (zA9 (zBl rfl) rfl T.all PyProof.Rows.boot_all (zA0 (zAu (T:=["thing"]) rfl ScOk.auto (zAn (pv 0)) (fun _ _ _ _=>zAc (i:=1) (by decide +kernel:(["things", "thing"]:List Str).Nodup) rfl (Or.inl rfl)) (fun _ _ _ _=>zB6)
    (fun _ _ _ _=>zA7 GN hr rfl DN.at_ DN.fn.kp DN.bind .nil (passC hC) (zA0 (pv 1) zA2))) zA2))
   (zEi (zD2 op_eq (zA9 zDw rfl T.len PySem.boot_len (zA0 (zB3 (zGp rfl) rfl T.set PyProof.Rows.boot_set (zA0 (pv 0) zA2)) zA2)) (zA9 zAi rfl T.len PySem.boot_len (zA0 (pv 0) zA2)) (nomark _))))),?_⟩
  refine ⟨_,rfl,a,rfl,⟨xs,SqL.of ha⟩,zAl (xs:=xs) (fun i ys H'=>Same H H'∧ys=(ds.take i).map fun d=>V.bl (nameD d)) ⟨Same.refl _,rfl⟩ (fun i ys H' p=>SqL.of (p.1 _ _ ha)) (fun i ys H' hi p=>?_) ?_ ?_⟩
  ·rw [p.2,Z0];have:=Zx i ds;omega
  ·rintro i x ys H' hi ⟨s1,rfl⟩ N hN;obtain ⟨d,hd',hv⟩:=hx.get hi;refine pick ?_;refine ⟨_,rfl,_,d,rfl,hv.mono s1,fun H2 s2=>hN _ _ ⟨s1.trans s2,?_⟩⟩;rw [Zk,hd',Zh];rfl
  ·rintro ys H' ⟨s1,rfl⟩ p hp;have e:(ds.take xs.length).map (fun d=>V.bl (nameD d))=(ds.map nameD).map V.bl:=by
    rw [hx.length,Zm,Zy];rfl
   have s2:Same H (upd H' p (.lst ((ds.take xs.length).map fun d=>V.bl (nameD d)))):=s1.trans (Same.new hp);refine ⟨p,ds.map nameD,rfl,SqL.of (by rw [zA1,e]),_,rfl,?_⟩;have ea:(ds.map nameD).all id=ds.all nameD:=by rw [Ya];rfl
   rw [ea];cases eb:ds.all nameD with
   | false =>
    refine iteF ?_;have e0:unlikeB ds=false:=by unfold unlikeB;rw [eb];rfl
    rw [← e0];exact k _ s2
   | true =>
    refine iteT ?_;obtain ⟨q1,q2⟩:=strs_all hx eb;subst q1;have ha2:=s2 _ _ ha;have hz4:(strsOf ds).length≤4000:=by rw [Z0] at hz;omega
    refine ⟨_,rfl,a,strsOf ds,rfl,SqL.of ha2,hz4,fun d hd2=>?_⟩;refine ⟨d,strsOf ds,rfl,zA1,hz4,?_⟩;refine ⟨_,rfl,a,_,rfl,.inl (SqL.of ((Same.new hd2) _ _ ha2)),rfl,?_⟩;have e1:decide (V.int ((dl (strsOf ds)).length:Int)=V.int (((strsOf ds).map V.str).length:Int))=unlikeB ds:=by
     unfold unlikeB;rw [eb,Yk,← dl_len_iff,Z0];by_cases q:(dl (strsOf ds)).length=(strsOf ds).length
     ·rw [decide_eq_true q,q];simp
     ·rw [decide_eq_false q,decide_eq_false];intro z;injection z with z;omega
    rw [e1];exact k _ (s2.trans (Same.new hd2))
end
noncomputable def sizeD:PyData→Nat
 | .tuple [_,.list vs]=>vs.length
 | _=>0
noncomputable def countD (ds:List PyData):Int:=ds.foldl (fun m d=>m * (sizeD d:Int)) 1
noncomputable def spCount:Sp:=fun vs H Q _=>∃ v ds,vs=[v]∧Has Any H v (.list ds)∧ds.all pairB=true∧Q (.int (countD ds)) H
theorem zGa {G:Addr→Prop}{H:Hp}{v:V}{d:PyData} (h:Has G H v d) (e:pairB d=true) :
  ∃ a x y n l vs ys,v=.ref a∧G a∧H a=some (.tup [x,y])∧d=.tuple [n,.list vs]∧Has G H x n∧y=.ref l∧G l∧H l=some (.lst ys)∧ys.length≤1000∧HasAll G H ys vs∧0 < vs.length∧unlikeB vs=true:=by
 cases h with
 | non=>cases e
 | bl b=>cases e
 | int i=>cases e
 | str x _ _=>cases e
 | lst _ _ _ _=>cases e
 | tup g s z q =>
  cases q with
  | nil=>cases e
  | cons h1 q =>
   cases q with
   | nil=>cases e
   | cons h2 q =>
    cases q with
    | cons _ _=>cases h2 <;> cases e
    | nil =>
     cases h2 with
     | non=>cases e
     | bl b=>cases e
     | int i=>cases e
     | str x _ _=>cases e
     | tup _ _ _ _=>cases e
     | lst g2 s2 z2 q2 =>
      have e':(decide _ && unlikeB _)=true:=e;rw [Zu] at e';exact ⟨_,_,_,_,_,_,_,rfl,g,s,rfl,h1,rfl,g2,s2,z2,q2,of_decide_eq_true e'.1,e'.2⟩
section
variable {P:Program}{w:World}{K:PySem.W.Frag}{mg:Str→Option Value}{base:Heap}{CX:CXT}
theorem scPr:FnScope ["thing", "values"] ["thing"] (defScope sPair):=⟨rfl,rfl,rfl,by decide +kernel,rfl,by decide +kernel,by decide +kernel⟩
theorem ok_pair {f fu fn:Addr}{fd fdu fdn:FuncData} (hC:Calm CX) (T:Tops K mg) (F:Fun K "is_pair_with_values" "is_pair_with_values" sPair f fd) (DN:Def K mg "is_name" sIsName ["thing"] fn fdn)
  (DU:Def K mg "are_unlike_names" sUnlike ["things"] fu fdu):FnOk P w K mg base CX 3 f fd ["thing"] spPair:=by
 have GU:FnOk P w K mg base CX 2 fu fdu ["things"] spUnlike:=zEo hC T DU.fn DN;refine F.okC scPr (fun vs H Q E h=>?_) (fun cdv A outer s H vs Q E hr h=>?_)
 ·obtain ⟨v,d,rfl,_⟩:=h;rfl
 ·obtain ⟨v,d,rfl,hd,k⟩:=h
  refine ⟨_,zA3 (zAw (PW.pt (zF7 (zB0 (zB2 (zA9 zAy rfl T.isinst PyProof.Rows.boot_isinstance (zA0 (pv 0) (zA0 (zBq (v:=.ty "tuple") rfl T.tuple PyProof.Rows.boot_tuple rfl) zA2)))))
    (zCw (zAp op_ne (zA9 zAi rfl T.len PySem.boot_len (zA0 (pv 0) zA2)) zA4 (nomark _))))) (zA6 (zAj zBj)) zAg)
   (zA3 (zAb (i:=1) scPr.nd rfl (Or.inl rfl) (zAs zBr (pv 0) zA4 (fun _ _=>rfl)))
   (zA6 (zAj (zDd (zA9 zAy rfl T.isinst PyProof.Rows.boot_isinstance (zA0 (pv 1) (zA0 (zBq (v:=.ty "list") rfl T.list PyProof.Rows.boot_list rfl) zA2)))
    (zDd (zD2 zF8 (zA9 zAi rfl T.len PySem.boot_len (zA0 (pv 1) zA2)) zA4 (nomark _))
     (zEi (zA7 GU hr rfl DU.at_ DU.fn.kp DU.bind .nil (passC hC) (zA0 (pv 1) zA2)))))))),?_⟩
  have k0:pairB d=false→Q (.bl false) H:=fun e=>by rw [← e];exact k _ (Same.refl _)
  refine ⟨_,rfl,?_⟩;cases hd with
  | non=>exact ⟨_,_,_,_,_,rfl,.non,rfl,rfl,_,rfl,iteT (iteT (k0 rfl))⟩
  | bl b=>exact ⟨_,_,_,_,_,rfl,(.bl b),rfl,rfl,_,rfl,iteT (iteT (k0 rfl))⟩
  | int i=>exact ⟨_,_,_,_,_,rfl,(.int i),rfl,rfl,_,rfl,iteT (iteT (k0 rfl))⟩
  | str x _ _=>exact ⟨_,_,_,_,_,rfl,(.str x),rfl,rfl,_,rfl,iteT (iteT (k0 rfl))⟩
  | lst _ e _ _=>exact ⟨_,_,_,_,_,rfl,(.lst e),rfl,rfl,_,rfl,iteT (iteT (k0 rfl))⟩
  | @tup a xs ds _ e z q =>
   refine ⟨_,_,_,_,_,rfl,.tup e,rfl,rfl,_,rfl,iteF ?_⟩;refine ⟨_,rfl,a,xs,rfl,.inr (SqT.of e),rfl,_,rfl,?_⟩;have hl:=q.length;by_cases h2:xs.length=2
   ·rw [decide_eq_true (show V.int (xs.length:Int)=V.int 2 by rw [h2];rfl)];refine iteF ?_;obtain ⟨d0,d1,rfl⟩:∃ d0 d1,ds=[d0,d1]:=by
     match ds,hl.symm.trans h2 with
     | [d0,d1],_=>exact ⟨d0,d1,rfl⟩
    cases q with
    | @cons x0 _ _ _ q0 q =>
     cases q with
     | @cons x1 _ _ _ q1 q =>
      cases q;refine ⟨_,rfl,a,_,_,x1,rfl,rfl,SqT.of e,rfl,?_⟩;refine ⟨_,rfl,?_⟩;cases q1 with
      | non=>exact ⟨_,_,_,_,_,rfl,.non,rfl,rfl,_,rfl,iteF (k0 rfl)⟩
      | bl b=>exact ⟨_,_,_,_,_,rfl,(.bl b),rfl,rfl,_,rfl,iteF (k0 rfl)⟩
      | int i=>exact ⟨_,_,_,_,_,rfl,(.int i),rfl,rfl,_,rfl,iteF (k0 rfl)⟩
      | str x _ _=>exact ⟨_,_,_,_,_,rfl,(.str x),rfl,rfl,_,rfl,iteF (k0 rfl)⟩
      | tup _ e1 _ _=>exact ⟨_,_,_,_,_,rfl,(.tup e1),rfl,rfl,_,rfl,iteF (k0 rfl)⟩
      | @lst l ys vs g1 e1 z1 q1 =>
       refine ⟨_,_,_,_,_,rfl,.lst e1,rfl,rfl,_,rfl,iteT ?_⟩;refine ⟨_,rfl,l,ys,rfl,.inl (SqL.of e1),_,_,rfl,rfl,_,rfl,?_⟩;refine ite2 (fun h0=>?_) (fun h0=>?_)
       ·refine ⟨_,rfl,_,vs,rfl,.lst g1 e1 z1 q1,fun H' s'=>?_⟩;have e0:pairB (.tuple [d0,.list vs])=unlikeB vs:=by
         show (decide (0 < vs.length) && unlikeB vs)=_;rw [decide_eq_true,Yk];have:=q1.length;have:=of_decide_eq_true h0;omega
        rw [← e0];exact k _ s'
       ·refine k0 ?_;show (decide (0 < vs.length) && unlikeB vs)=_;rw [decide_eq_false,Bool.false_and];have:=q1.length;intro z0;exact h0 (decide_eq_true (by omega))
   ·rw [decide_eq_false (show ¬ V.int (xs.length:Int)=V.int 2 by intro z0;injection z0 with z0;omega)];refine iteT (k0 ?_)
    match ds,hl with
    | [],_=>rfl
    | [_],_=>rfl
    | [_,_],hl=>exact absurd hl h2
    | _ :: d1 :: _ :: _,_=>cases d1 <;> rfl
end
theorem all_get {ds:List PyData}{f:PyData→Bool}{i:Nat}{d:PyData} (h:ds.all f=true) (e:ds[i]? = some d):f d=true:=List.all_eq_true.mp h d (Z3 e)
section
variable {P:Program}{w:World}{K:PySem.W.Frag}{mg:Str→Option Value}{base:Heap}{CX:CXT}
theorem scFd:FnScope ["things"] ["things"] (defScope sFields):=⟨rfl,rfl,rfl,by decide +kernel,rfl,by decide +kernel,by decide +kernel⟩
theorem ok_fields {f fp fu fn:Addr}{fd fdp fdu fdn:FuncData} (hC:Calm CX) (T:Tops K mg) (F:Fun K "are_fields" "are_fields" sFields f fd) (DN:Def K mg "is_name" sIsName ["thing"] fn fdn)
  (DU:Def K mg "are_unlike_names" sUnlike ["things"] fu fdu) (DP:Def K mg "is_pair_with_values" sPair ["thing"] fp fdp):FnOk P w K mg base CX 4 f fd ["things"] spFields:=by
 have GU:FnOk P w K mg base CX 2 fu fdu ["things"] spUnlike:=zEo hC T DU.fn DN;have GP:FnOk P w K mg base CX 3 fp fdp ["thing"] spPair:=ok_pair hC T DP.fn DN DU;refine F.okC scFd (fun vs H Q E h=>?_) (fun cdv A outer s H vs Q E hr h=>?_)
 ·obtain ⟨v,d,rfl,_⟩:=h;rfl
 ·obtain ⟨v,d,rfl,hd,k⟩:=h;have hr2:=hr.mono (show 2≤3 by decide)
  refine ⟨_,zA3 (zAw (PW.pt (zF7 (zB0 (zB2 (zA9 zAy rfl T.isinst PyProof.Rows.boot_isinstance (zA0 (pv 0) (zA0 (zBq (v:=.ty "list") rfl T.list PyProof.Rows.boot_list rfl) zA2)))))
    (zCw (zB0 (zB2 (zA9 (zBl rfl) rfl T.all PyProof.Rows.boot_all (zA0 (zAu (T:=["thing"]) rfl ScOk.auto (zAn (pv 0)) (fun _ _ _ _=>zAc (i:=1) (by decide +kernel:(["things", "thing"]:List Str).Nodup) rfl (Or.inl rfl)) (fun _ _ _ _=>zB6)
    (fun _ _ _ _=>zA7 GP hr rfl DP.at_ DP.fn.kp DP.bind .nil (passC hC) (zA0 (pv 1) zA2))) zA2))))))) (zA6 (zAj zBj)) zAg)
   (zA6 (zAj (zA7 GU hr2 rfl DU.at_ DU.fn.kp DU.bind .nil (passC hC) (zA0 (zAu (T:=["thing"]) rfl ScOk.auto (zAn (pv 0)) (fun _ _ _ _=>zAc (i:=1) (by decide +kernel:(["things", "thing"]:List Str).Nodup) rfl (Or.inl rfl)) (fun _ _ _ _=>zB6)
    (fun _ _ _ _=>zAs (r:=rIxT K) zBr (pv 1) zA4 (fun _ _=>rfl))) zA2)))),?_⟩
  have k0:fieldsB d=false→∀ H',Same H H'→Q (.bl false) H':=fun e H' s'=>by rw [← e];exact k _ s'
  refine ⟨_,rfl,?_⟩;cases hd with
  | non=>exact ⟨_,_,_,_,_,rfl,.non,rfl,rfl,_,rfl,iteT (iteT (k0 rfl _ (Same.refl _)))⟩
  | bl b=>exact ⟨_,_,_,_,_,rfl,(.bl b),rfl,rfl,_,rfl,iteT (iteT (k0 rfl _ (Same.refl _)))⟩
  | int i=>exact ⟨_,_,_,_,_,rfl,(.int i),rfl,rfl,_,rfl,iteT (iteT (k0 rfl _ (Same.refl _)))⟩
  | str x _ _=>exact ⟨_,_,_,_,_,rfl,(.str x),rfl,rfl,_,rfl,iteT (iteT (k0 rfl _ (Same.refl _)))⟩
  | tup _ e _ _=>exact ⟨_,_,_,_,_,rfl,(.tup e),rfl,rfl,_,rfl,iteT (iteT (k0 rfl _ (Same.refl _)))⟩
  | @lst a xs ds _ ha hz hx =>
   refine ⟨_,_,_,_,_,rfl,.lst ha,rfl,rfl,_,rfl,iteF ?_⟩;refine ⟨_,rfl,a,rfl,⟨xs,SqL.of ha⟩,zAl (xs:=xs) (fun i ys H'=>Same H H'∧ys=(ds.take i).map fun d=>V.bl (pairB d)) ⟨Same.refl _,rfl⟩ (fun i ys H' p=>SqL.of (p.1 _ _ ha)) (fun i ys H' hi p=>?_) ?_ ?_⟩
   ·rw [p.2,Z0];have:=Zx i ds;have:=small1000 hz;omega
   ·rintro i x ys H' hi ⟨s1,rfl⟩ N hN;obtain ⟨d,hd',hv⟩:=hx.get hi;refine pick ?_;refine ⟨_,rfl,_,d,rfl,hv.mono s1,fun H2 s2=>hN _ _ ⟨s1.trans s2,?_⟩⟩;rw [Zk,hd',Zh];rfl
   ·rintro ys H' ⟨s1,rfl⟩ p hp;have e:(ds.take xs.length).map (fun d=>V.bl (pairB d))=(ds.map pairB).map V.bl:=by
     rw [hx.length,Zm,Zy];rfl
    have s2:Same H (upd H' p (.lst ((ds.take xs.length).map fun d=>V.bl (pairB d)))):=s1.trans (Same.new hp);refine ⟨p,ds.map pairB,rfl,SqL.of (by rw [zA1,e]),_,rfl,?_⟩;have ea:(ds.map pairB).all id=ds.all pairB:=by rw [Ya];rfl
    rw [ea];cases eb:ds.all pairB with
    | false =>
     refine iteT (k0 ?_ _ s2);show (ds.all pairB && _)=false;rw [eb];rfl
    | true =>
     refine iteF ?_;have ha2:=s2 _ _ ha;generalize upd H' p (.lst ((ds.take xs.length).map fun d=>V.bl (pairB d)))=H3 at s2 ha2 ⊢;refine ⟨_,rfl,a,rfl,⟨xs,SqL.of ha2⟩,zAl (xs:=xs) (fun i ys H'=>H'=H3∧HasAll Any H3 ys ((ds.take i).map firstD)) ⟨rfl,.nil⟩ (fun i ys H' p=>by rw [p.1];exact SqL.of ha2) (fun i ys H' hi p=>?_) ?_ ?_⟩
     ·have:=p.2.length;rw [Z0] at this;have:=Zx i ds;have:=small1000 hz;omega
     ·rintro i x ys H' hi ⟨rfl,hy⟩ N hN;obtain ⟨d,hd',hv⟩:=hx.get hi;obtain ⟨b,x0,y0,n,l,vs,zs,rfl,_,hb,rfl,hn,_⟩:=zGa hv (all_get eb hd');refine pick ?_;refine ⟨_,rfl,b,_,_,x0,rfl,rfl,SqT.of (s2 _ _ hb),rfl,hN _ _ ⟨rfl,?_⟩⟩;rw [Zk,hd',Zh];exact hy.snoc (hn.mono s2)
     ·rintro ys H' ⟨rfl,hy⟩ q hq;have s3:=s2.trans (Same.new (o:=.lst ys) hq);have hl:ys.length≤1000:=by
       have:=hy.length;rw [Z0] at this;have:=Zx xs.length ds;omega
      refine ⟨_,ds.map firstD,rfl,.lst trivial zA1 hl ?_,fun H4 s4=>?_⟩
      ·rw [hx.length,Zm] at hy;exact hy.mono (Same.new hq)
      ·have e1:fieldsB (.list ds)=unlikeB (ds.map firstD):=by
        show (ds.all pairB && unlikeB (ds.map firstD))=_;rw [eb];rfl
       rw [← e1];exact k _ (s3.trans s4)
theorem scCt:FnScope ["fields", "many", "field"] ["fields"] (defScope sCount):=⟨rfl,rfl,rfl,by decide +kernel,rfl,by decide +kernel,by decide +kernel⟩
theorem ok_count {f:Addr}{fd:FuncData} (T:Tops K mg) (F:Fun K "count_states" "count_states" sCount f fd):FnOk P w K mg base CX 1 f fd ["fields"] spCount:=by
 refine F.okC scCt (fun vs H Q E h=>?_) (fun cdv A outer s H vs Q E hr h=>?_)
 ·obtain ⟨v,ds,rfl,_⟩:=h;rfl
 ·obtain ⟨v,ds,rfl,hd,eb,k⟩:=h;obtain ⟨a,xs,rfl,_,ha,hz,hx⟩:=hd.list_inv
  refine ⟨_,zA3 (zAb (i:=1) scCt.nd rfl (Or.inl rfl) zA4)
   (zA3 (zDa PassesOwn.never rfl (zAn (pv 0)) (zAc (i:=2) scCt.nd rfl (Or.inl rfl))
    (zA6 (zAb (i:=1) scCt.nd rfl (Or.inl rfl) (zAh zE0 (pv 1) (zA9 zAi rfl T.len PySem.boot_len (zA0 (zAs zBr (pv 2) zA4 (fun _ _=>rfl)) zA2))))))
   (zA6 (zAj (pv 1)))),?_⟩
  refine ⟨_,rfl,a,rfl,⟨xs,SqL.of ha⟩,zDh (K:=K) (a:=a) (xs:=xs) (fun i σ H2=>∃ u,σ = [some (.ref a),some (.int (countD (ds.take i))),u]∧H2=H) ⟨none,rfl,rfl⟩ (fun i σ H2 _ ⟨_,_,e⟩=>by rw [e];exact SqL.of ha) ?_ ?_⟩
  ·rintro i x σ H2 hi ⟨u,rfl,rfl⟩;obtain ⟨d,hd',hv⟩:=hx.get hi;obtain ⟨b,x0,y0,n,l,vs,zs,rfl,_,hb,rfl,hn,rfl,_,hl,hzl,hvs,_⟩:=zGa hv (all_get eb hd');refine ⟨_,rfl,_,rfl,b,_,_,_,rfl,rfl,SqT.of hb,rfl,l,zs,rfl,.inl (SqL.of hl),_,_,rfl,rfl,.inr ⟨by omega,by omega⟩,⟨some (.ref b),?_,rfl⟩⟩;have e:countD (ds.take (i + 1))=countD (ds.take i) * (zs.length:Int):=by
    rw [Zk,hd'];unfold countD;rw [List.foldl_append];show _ * ((sizeD (.tuple [n,.list vs]):Nat):Int)=_;rw [hvs.length];rfl
   rw [e];rfl
  ·rintro σ H2 ⟨u,rfl,rfl⟩;refine ⟨_,rfl,?_⟩;rw [hx.length,Zm];exact k
end
structure FunD (K:PySem.W.Frag) (x qual:Str) (st:Stmt) (dV:Value) (f:Addr) (fd:FuncData):Prop where
 ex:∃ (oc:Value) (od:Option Addr) (kV doc pm:Value) (an:Option Addr) (cdv ct:Value) (osl:Array (Option Value)),
  fd=PySem.W.fnOf x qual (defArgs st) (defBody st) (defScope st) dV kV doc pm an cdv ct∧K.lookup f=some ⟨oc,od,.func fd,osl⟩∧PySem.W.codeIn K cdv qual=true
theorem FunD.okC {P:Program}{w:World}{K:PySem.W.Frag}{mg:Str→Option Value}{base:Heap}{CX:CXT}{x qual:Str}{st:Stmt}{dV:Value}{f:Addr}{fd:FuncData}{N ps:List Str}{k:Nat}{sp:Sp} (F:FunD K x qual st dV f fd) (S:FnScope N ps (defScope st)) (len:∀ vs H Q E,sp vs H Q E→vs.length=ps.length)
  (hbody:∀ (cdv:Value) (A:Around) (outer:List Env) (s:Shared) (H:Hp) (vs:List V) (Q:VK) (E:XK),Room k (A.deeper (PyProof.Rows.envOfC qual (defScope st) s.heap.objs.size f cdv))→sp vs H Q E →
   ∃ t,PSs (cxOf CX P w K mg base N qual (defScope st) f cdv A outer s H E).nox (defBody st) t∧t { nx:=fun _ H'=>Q .non H',rt:=Q } (start N vs) H):FnOk P w K mg base CX (k + 1) f fd ps sp:=by
 obtain ⟨oc,od,kV,doc,pm,an,cdv,ct,osl,rfl,lk,hcd⟩:=F.ex;refine fn_of lk hcd S len fun A outer s H vs Q E hr hsp=>?_;obtain ⟨t,h,q⟩:=hbody cdv A outer s H vs Q E hr hsp;exact ⟨t,h.nox,q⟩
theorem fnf:¬ (("name" : Str) = "fields"):=by decide +kernel
theorem fno:¬ (("name" : Str) = "owner"):=by decide +kernel
noncomputable def kflds (n f o:V):List (Str×V):=putF "owner" o (putF "fields" f (putF "name" n []))
theorem zGj (n f o:V):(kflds n f o).lookup ("name" : Str)=some n:=by
 unfold kflds;rw [zB7,if_neg fno,zB7,if_neg fnf,zB7,if_pos rfl]
theorem zBs (n f o:V):(kflds n f o).lookup ("owner" : Str)=some o:=by
 unfold kflds;rw [zB7,if_pos rfl]
structure KCls (K:PySem.W.Frag) (mg:Str→Option Value) (C fI:Addr):Prop where
 cl:Cls K C
 nN:NoAttr K C "name"
 nF:NoAttr K C "fields"
 nO:NoAttr K C "owner"
 mgC:mg "Kind" = some (.ref C)
 mkd:Mk K C fI
theorem name_any {G G':Addr→Prop}{H H':Hp}{v:V}{d:PyData} (h:Has G H v d) (e:nameD d=true):Has G' H' v d:=by
 cases h with
 | str x a b=>exact .str x a b
 | non=>cases e
 | bl b=>cases e
 | int i=>cases e
 | lst _ _ _ _=>cases e
 | tup _ _ _ _=>cases e
theorem names_any {G G':Addr→Prop}{H H':Hp}:∀ {xs:List V}{ds:List PyData},HasAll G H xs ds→ds.all nameD=true→HasAll G' H' xs ds
 | _,_,.nil,_=>.nil
 | _,_,.cons h t,e=>by
  rw [Yj,Zu] at e;exact .cons (name_any h e.1) (names_any t e.2)
theorem zFe {ds:List PyData} (h:unlikeB ds=true):ds.all nameD=true:=by
 have z:(ds.all nameD && decide (strsOf ds).Nodup)=true:=h;rw [Zu] at z;exact z.1
noncomputable def ownerD (n:Str):PyData→Bool
 | .none=>true
 | .str o=>nameB o && !decide (o=n)
 | _=>false
noncomputable def spInit (C:Addr):Sp:=fun vs H Q _=>∃ (p dx:Addr) (vf vo:V) (n:Str) (ds:List PyData) (od:PyData),vs=[.ref p,.str n,vf,vo]∧H p=some (.ins C dx [])∧n.length≤1000∧PyData.strOk n=true∧nameB n=true ∧
 Has Any H vf (.list ds)∧fieldsB (.list ds)=true∧Has Any H vo od∧ownerD n od=true∧countD ds≤8 ∧
 ∀ (H':Hp) (l:Addr),H' p=some (.ins C dx (kflds (.str n) (.ref l) vo))→Has (fun a=>H a=none) H' (.ref l) (.list ds)→(∀ b o,H b=some o→b≠p→H' b=some o)→Q .non H'
section
variable {P:Program}{w:World}{K:PySem.W.Frag}{mg:Str→Option Value}{base:Heap}{CX:CXT}
theorem scKi:FnScope ["self", "name", "fields", "owner"] ["self", "name", "fields", "owner"] (defScope sInit):=⟨rfl,rfl,rfl,by decide +kernel,rfl,by decide +kernel,by decide +kernel⟩
theorem k_both {R:Hp→Prop}{H1:Hp}{B:Prop} (t:∀ Hx,Same H1 Hx→R Hx) (h:(∀ Hx,Same H1 Hx→R Hx)→B):B:=h t
theorem ok_init {f C ff fc fp fu fn:Addr}{fd fdf fdc fdp fdu fdn:FuncData}{dV:Value} (hC:Calm CX) (T:Tops K mg) (F:FunD K "__init__" "Kind.__init__" sInit dV f fd) (KC:KCls K mg C f) (DN:Def K mg "is_name" sIsName ["thing"] fn fdn)
  (DU:Def K mg "are_unlike_names" sUnlike ["things"] fu fdu) (DP:Def K mg "is_pair_with_values" sPair ["thing"] fp fdp) (DF:Def K mg "are_fields" sFields ["things"] ff fdf) (DC:Def K mg "count_states" sCount ["fields"] fc fdc) :
  FnOk P w K mg base CX 5 f fd ["self", "name", "fields", "owner"] (spInit C):=by
 have GN:FnOk P w K mg base CX 1 fn fdn ["thing"] spNameD:=zDe DN.fn T;have GF:FnOk P w K mg base CX 4 ff fdf ["things"] spFields:=ok_fields hC T DF.fn DN DU DP;have GC:FnOk P w K mg base CX 1 fc fdc ["fields"] spCount:=ok_count T DC.fn;refine F.okC scKi (fun vs H Q E h=>?_) (fun cdv A outer s H vs Q E hr h=>?_)
 ·obtain ⟨p,dx,vf,vo,n,ds,od,rfl,_⟩:=h;rfl
 ·obtain ⟨p,dx,vf,vo,n,ds,od,rfl,hp,hn1,hn2,hn3,hf,hfb,ho,hob,hc8,k⟩:=h;have hr1:=hr.mono (show 1≤4 by decide);obtain ⟨tm,hmost⟩:=T.mostS
  refine ⟨_,zA3 (zAw (zB0 (zB2 (zA7 GN hr1 rfl DN.at_ DN.fn.kp DN.bind .nil (passC hC) (zA0 (pv 1) zA2)))) zAq zAg)
   (zA3 (zAw (zB0 (zB2 (zA7 GF hr rfl DF.at_ DF.fn.kp DF.bind .nil (passC hC) (zA0 (pv 2) zA2)))) zAq zAg)
   (zA3 (zAw (PW.pt (zEf (zBz (zDq (pv 3))) (zD0 (PW.pt (zF7 (zB0 (zB2 (zA7 GN hr1 rfl DN.at_ DN.fn.kp DN.bind .nil (passC hC) (zA0 (pv 3) zA2)))) (zCw (zAp op_eq (pv 3) (pv 1) (nomark _)))))))) zAq zAg)
   (zA3 (zAw (zAp zF8 (zA7 GC hr1 rfl DC.at_ DC.fn.kp DC.bind .nil (passC hC) (zA0 (pv 2) zA2)) (zBb (v:=.int 8) rfl hmost ⟨_,rfl⟩) (nomark _)) zAq zAg)
   (zA3 (zFi (pv 0) (pv 1) rfl)
   (zA3 (zFi (pv 0) (zAu (T:=["field"]) rfl ScOk.auto (zAn (pv 2)) (fun _ _ _ _=>zAc (i:=4) (by decide +kernel:(["self", "name", "fields", "owner", "field"]:List Str).Nodup) rfl (Or.inl rfl)) (fun _ _ _ _=>zB6)
    (fun _ _ _ _=>zBc (zA0 (zAs (r:=rIxT K) zBr (pv 4) zA4 (fun _ _=>rfl)) (zA0 (zB3 (r:=fun xs H Q=>∃ p ys,xs=[.ref p]∧(SqL K H p ys∨SqT K H p ys)∧∀ l,H l=none→Q (.ref l) (upd H l (.lst ys))) zE1 rfl T.list PyProof.Rows.boot_list (zA0 (zAs (r:=rIxT K) zBr (pv 4) zA4 (fun _ _=>rfl)) zA2)) zA2)))) rfl)
   (zA6 (zFi (pv 0) (pv 3) rfl))))))),?_⟩
  refine ⟨_,rfl,_,.str n,rfl,.str n hn1 hn2,fun H1 s1=>⟨_,rfl,?_⟩⟩;rw [show nameD (.str n)=true from hn3];refine iteF ⟨_,rfl,_,.list ds,rfl,hf.mono s1,fun H2 s2=>⟨_,rfl,?_⟩⟩;rw [hfb];have s12:=s1.trans s2;refine iteF ?_;have fb:ds.all pairB=true∧unlikeB (ds.map firstD)=true:=by
   have z:(ds.all pairB && unlikeB (ds.map firstD))=true:=hfb;rw [Zu] at z;exact z
  have sh:vo=V.non∨∃ o,vo=V.str o∧o.length≤1000∧PyData.strOk o=true∧nameB o=true∧¬ o=n:=by
   cases ho with
   | bl b=>cases hob
   | int i=>cases hob
   | lst _ _ _ _=>cases hob
   | tup _ _ _ _=>cases hob
   | non=>exact .inl rfl
   | str o o1 o2 =>
    have z:(nameB o && !decide (o=n))=true:=hob;rw [Zu] at z;exact .inr ⟨o,rfl,o1,o2,z.1,by simpa using z.2⟩
  refine' k_both (H1:=H) _ (fun k2=>_);rotate_left 2
  ·rcases sh with e | ⟨o,e,o1,o2,e1,e2⟩
   ·refine ⟨_,rfl,_,rfl,?_⟩;rw [decide_eq_true e];exact iteF (iteF (k2 H2 s12))
   ·refine ⟨_,rfl,_,rfl,?_⟩;rw [decide_eq_false (show ¬ vo=V.non by rw [e];intro z;cases z)];refine iteT ?_;refine ⟨_,rfl,vo,.str o,rfl,(by rw [e];exact .str o o1 o2),fun H3 s3=>⟨_,rfl,?_⟩⟩;rw [show nameD (.str o)=true from e1];refine iteF ⟨_,rfl,_,rfl,(by rw [e];rfl),_,rfl,?_⟩;rw [decide_eq_false (show ¬ vo=V.str n by rw [e];intro z;injection z with z;exact e2 z)];exact iteF (k2 H3 (s12.trans s3))
  ·intro H3 s3;refine ⟨_,rfl,_,ds,rfl,hf.mono s3,fb.1,_,_,rfl,rfl,_,rfl,?_⟩;refine ite2 (fun h=>absurd (of_decide_eq_true h) (by omega)) (fun _=>?_);refine ⟨_,rfl,_,rfl,p,C,dx,[],rfl,s3 _ _ hp,KC.cl,KC.nN,(by show 0 < 1000;decide),?_⟩;have fr:∀ (H':Hp) (o':HO),(∃ fs,H' p=some (.ins C dx fs))→∀ (a:Addr) (o:HO),Any a→isSeq o→H' a=some o→Any a∧(upd H' p o') a=some o:=by
    rintro H' o' ⟨fs,e⟩ a o _ hs q;refine ⟨trivial,?_⟩;rw [zAa]
    ·exact q
    ·rintro rfl;rw [e] at q;cases q;exact hs
   have hf4:Has Any (upd H3 p (.ins C dx (putF "name" (.str n) []))) vf (.list ds):=(hf.mono s3).frameS (fr _ _ ⟨_,s3 _ _ hp⟩);obtain ⟨a,xs,rfl,_,ha,hz,hx⟩:=hf4.list_inv;have hp4:(upd H3 p (.ins C dx (putF "name" (.str n) []))) p=some (.ins C dx (putF "name" (.str n) [])):=zA1;have k4:∀ b o,H b=some o→b≠p→(upd H3 p (.ins C dx (putF "name" (.str n) []))) b=some o:=fun b o e hb=>by rw [zAa hb];exact s3 _ _ e
   have n4:∀ b,(upd H3 p (.ins C dx (putF "name" (.str n) []))) b=none→H b=none:=fun b e=>by
    cases q:H b with
    | none=>rfl
    | some o =>
     by_cases hb:b=p
     ·subst hb;rw [hp4] at e;cases e
     ·rw [k4 b o q hb] at e;cases e
   generalize upd H3 p (.ins C dx (putF "name" (.str n) []))=H4 at ha hx hp4 k4 n4 ⊢;refine ⟨_,rfl,a,rfl,⟨xs,SqL.of ha⟩,zAl (xs:=xs) (fun i ys H'=>Same H4 H'∧HasAll (fun a=>H a=none) H' ys (ds.take i)) ⟨Same.refl _,.nil⟩ (fun i ys H' q=>SqL.of (q.1 _ _ ha)) (fun i ys H' hi q=>?_) ?_ ?_⟩
   ·have:=q.2.length;have:=Zx i ds;have:=small1000 hz;have:=hx.length;omega
   ·rintro i x ys H' hi ⟨s5,hy⟩ N hN;obtain ⟨d,hd',hv⟩:=hx.get hi;obtain ⟨b,x0,y0,nd,l,vs,zs,rfl,_,hb,rfl,hnm,rfl,_,hl,hzl,hvs,_,hun⟩:=zGa hv (all_get fb.1 hd');have hnn:nameD nd=true:=by
     have z:=List.all_eq_true.mp (zFe fb.2) nd (List.mem_map.mpr ⟨_,Z3 hd',rfl⟩);exact z
    refine pick ?_;refine ⟨_,rfl,b,_,_,x0,rfl,rfl,SqT.of (s5 _ _ hb),rfl,_,rfl,b,_,_,_,rfl,rfl,SqT.of (s5 _ _ hb),rfl,l,zs,rfl,.inl (SqL.of (s5 _ _ hl)),fun l2 hl2=>⟨by show 2≤sizeLine;decide,fun t ht=>hN _ _ ⟨?_,?_⟩⟩⟩
    ·exact (s5.trans (Same.new hl2)).trans (Same.new ht)
    ·rw [Zk,hd'];have s6:Same H' (upd (upd H' l2 (.lst zs)) t (.tup [x0,.ref l2])):=(Same.new hl2).trans (Same.new ht);refine (hy.mono s6).snoc (.tup ?_ zA1 (by show 2≤1000;decide) (.cons (name_any hnm hnn) (.cons (.lst ?_ ?_ hzl (names_any hvs (zFe hun))) .nil)))
     ·exact n4 _ (s5.free ((Same.new (o:=.lst zs) hl2).free ht))
     ·exact n4 _ (s5.free hl2)
     ·exact (Same.new ht) _ _ zA1
   ·rintro ys H' ⟨s5,hy⟩ l hl;have ll:ys.length≤1000:=by
     have:=hy.length;have:=Zx xs.length ds;have:=hx.length;omega
    rw [hx.length,Zm] at hy;have hp5:(upd H' l (.lst ys)) p=some (.ins C dx (putF "name" (.str n) [])):=(Same.new hl) _ _ (s5 _ _ hp4);refine ⟨_,rfl,p,C,dx,_,rfl,hp5,KC.cl,KC.nF,(by show 1 < 1000;decide),?_⟩;refine ⟨_,rfl,_,rfl,p,C,dx,_,rfl,zA1,KC.cl,KC.nO,(by have:=zD5 "fields" (V.ref l) (putF "name" (V.str n) []);have:(putF "name" (V.str n) []).length=1:=rfl;omega),?_⟩;refine k _ l zA1 ?_ fun b o e hb=>?_
    ·have h0:Has (fun a=>H a=none) (upd H' l (.lst ys)) (.ref l) (.list ds):=.lst (n4 _ (s5.free hl)) zA1 ll (hy.mono (Same.new hl));refine h0.frame fun b o g q=>⟨g,?_⟩;have hb:b≠p:=fun z=>by rw [z,hp] at g;cases g
     rw [zAa hb,zAa hb];exact q
    ·rw [zAa hb,zAa hb];exact (Same.new hl) _ _ (s5 _ _ (k4 b o e hb))
end
end My
namespace My
open PySem L2
noncomputable def words:List Str:=["a", "ac", "ab", "b", "box", "boxes", "bo", "zzzzzzzz", "abcdefgh", "of", "kind", "lid", "l", "is", "not", "want", "red", "lids", "wanted"]
noncomputable def lets:List Nat:=[97,98,99,100,101,102,103,104,105,106,107,108,109,110,111,112,113,114,115,116,117,118,119,120,121,122]
theorem zFq:letters.cps.toList=lets:=by decide +kernel
theorem mem_lets {c:Nat}:c∈lets ↔ 97≤c∧c≤122:=by
 refine ⟨fun h=>(by decide +kernel:∀ c∈lets,97≤c∧c≤122) c h,fun ⟨h1,h2⟩=>?_⟩;have:=(by decide +kernel:∀ i < 26,97 + i∈lets) (c - 97) (by omega)
 rwa [Nat.add_sub_cancel' h1] at this
theorem charB_iff {c:Nat}:charB c=true ↔ 97≤c∧c≤122:=by
 unfold charB;rw [zFq,decide_eq_true_eq,mem_lets]
theorem zD8:∀ x∈words,(1≤x.length∧x.length≤8)∧∀ c∈x.cps.toList,97≤c∧c≤122:=by decide +kernel
theorem words_nodup:words.Nodup:=by decide +kernel
noncomputable def rotC (t c:Nat):Nat:=97 + (c - 97 + t) % 26
noncomputable def rotS (t:Nat) (x:Str):Str:=⟨(x.cps.toList.map (rotC t)).toArray⟩
theorem rotC_in (t c:Nat):97≤rotC t c∧rotC t c≤122:=by unfold rotC;omega
theorem rotC_inj {t c d:Nat} (hc:97≤c∧c≤122) (hd:97≤d∧d≤122) (h:rotC t c=rotC t d):c=d:=by unfold rotC at h;omega
theorem rotS_len (t:Nat) (x:Str):(rotS t x).length=x.length:=by
 show ((x.cps.toList.map (rotC t)).toArray).size=x.cps.size;rw [Zb,Z0,Y4]
theorem zFo {f:Nat→Nat}:∀ {l m:List Nat},(∀ c∈l,∀ d∈m,f c=f d→c=d)→l.map f=m.map f→l=m
 | [],[],_,_=>rfl
 | [],_ :: _,_,h=>by cases h
 | _ :: _,[],_,h=>by cases h
 | a :: l,b :: m,k,h=>by
  rw [Zp,Zp] at h;injection h with h1 h2;rw [k a Z9 b Z9 h1,zFo (fun c hc d hd=>k c (Z6 _ hc) d (Z6 _ hd)) h2]
theorem rotS_inj {t:Nat}{x y:Str} (hx:∀ c∈x.cps.toList,97≤c∧c≤122) (hy:∀ c∈y.cps.toList,97≤c∧c≤122) (h:rotS t x=rotS t y):x=y:=by
 unfold rotS at h;injection h with h;have h':x.cps.toList.map (rotC t)=y.cps.toList.map (rotC t):=by simpa using congrArg Array.toList h
 have e:=zFo (fun c hc d hd q=>rotC_inj (hx c hc) (hy d hd) q) h';cases x;cases y;exact congrArg Str.mk (Array.toList_inj.mp e)
theorem rotS_name {t:Nat}{x:Str} (h1:1≤x.length) (h8:x.length≤8):nameB (rotS t x)=true:=by
 unfold nameB;rw [rotS_len,decide_eq_true h1,decide_eq_true h8,Yk,Yk,List.all_eq_true];intro c hc;have hc':c∈x.cps.toList.map (rotC t):=by simpa [rotS] using hc
 obtain ⟨d,_,rfl⟩:=List.mem_map.mp hc';exact charB_iff.mpr (rotC_in t d)
theorem rotS_ok (t:Nat) (x:Str):PyData.strOk (rotS t x)=true:=by
 unfold PyData.strOk;rw [Array.all_eq_true'];intro c hc;have hc':c∈x.cps.toList.map (rotC t):=by simpa [rotS] using hc
 obtain ⟨d,_,rfl⟩:=List.mem_map.mp hc';have:=rotC_in t d;simp only [decide_eq_true_eq];omega
theorem mul19:∀ s < 19,∀ d < 19,0 < s→0 < d→(s * d) % 19≠0:=by decide +kernel
theorem place_inj {a s i j:Nat} (hs:0 < s) (hs':s < 19) (hi:i < j) (hj:j < 19) (h:(a + s * i) % 19=(a + s * j) % 19):False:=by
 have e:s * j=s * i + s * (j - i):=by rw [← Nat.mul_add];congr 1;omega
 refine mul19 s hs' (j - i) (by omega) hs (by omega) ?_;rw [e] at h;omega
noncomputable def nm (a s t k:Nat):Str:=rotS t (words[(a + s * k) % 19]?.getD "")
theorem zCf (i:Nat) (h:i < 19):∃ x,words[i]? = some x∧x∈words:=by
 have h':i < words.length:=h;exact ⟨words[i],Z1 h',List.getElem_mem _⟩
theorem words_two:∀ x∈words,x.cps.toList.length=2→x.cps.toList[0]?≠x.cps.toList[1]?:=by decide +kernel
theorem rotS_qq {t:Nat}{x:Str} (hx:x∈words):rotS t x≠"qq":=by
 intro h;have e:x.cps.toList.map (rotC t)=[113,113]:=by
  have:=congrArg (fun y:Str=>y.cps.toList) h;exact this
 have two:=words_two x hx;have ok:=(zD8 x hx).2;generalize x.cps.toList=L at e two ok;obtain ⟨a,b,rfl⟩:∃ a b,L=[a,b]:=by
  have l2:=congrArg List.length e;rw [Z0] at l2;cases L with
  | nil=>cases l2
  | cons a L =>
   cases L with
   | nil=>cases l2
   | cons b L =>
    cases L with
    | nil=>exact ⟨a,b,rfl⟩
    | cons c L=>simp at l2
 simp only [Zp,List.map_nil] at e;injection e with e1 e2;injection e2 with e2 _;have:=rotC_inj (ok a (by simp)) (ok b (by simp)) (e1.trans e2.symm);subst this;exact two rfl rfl
theorem nm_ok (a s t k:Nat):nameB (nm a s t k)=true∧PyData.strOk (nm a s t k)=true∧(nm a s t k).length≤8∧nm a s t k≠"qq":=by
 obtain ⟨x,e,hx⟩:=zCf ((a + s * k) % 19) (Yf _ (by decide));unfold nm;rw [e,Yb];obtain ⟨⟨h1,h8⟩,_⟩:=zD8 x hx;exact ⟨rotS_name h1 h8,rotS_ok t x,by rw [rotS_len];exact h8,rotS_qq hx⟩
theorem nm_ne {a s t i j:Nat} (hs:0 < s) (hs':s < 19) (hi:i < j) (hj:j < 19):nm a s t i≠nm a s t j:=by
 intro h;obtain ⟨x,e,hx⟩:=zCf ((a + s * i) % 19) (Yf _ (by decide));obtain ⟨y,e',hy⟩:=zCf ((a + s * j) % 19) (Yf _ (by decide));unfold nm at h;rw [e,e',Yb,Yb] at h;have q:=rotS_inj (zD8 x hx).2 (zD8 y hy).2 h;subst q;have z:=(List.getElem?_inj (show (a + s * i) % 19 < words.length from Yf _ (by decide)) words_nodup).mp (e.trans e'.symm);exact place_inj hs hs' hi hj z
theorem nms_nodup {a s t:Nat} (hs:0 < s) (hs':s < 19):∀ n,n≤19→((List.range n).map (nm a s t)).Nodup
 | 0,_=>List.nodup_nil
 | n + 1,h=>by
  rw [List.range_succ,Zh];refine List.nodup_append.mpr ⟨nms_nodup hs hs' n (by omega),by simp,?_⟩;intro x hx y hy;simp only [Zp,List.map_nil,Zj,Zf,or_false] at hy;subst hy;obtain ⟨i,hi,rfl⟩:=List.mem_map.mp hx;exact nm_ne hs hs' (List.mem_range.mp hi) (by omega)
theorem index_of:∀ c∈lets,Builtin.Str.occurrences letters ⟨#[c]⟩ 0 letters.length 1=[c - 97]:=by decide +kernel
theorem join1:∀ cs:List Nat,Str.join ⟨#[]⟩ (cs.map fun c=>(⟨#[c]⟩:Str))=⟨cs.toArray⟩
 | []=>rfl
 | [c]=>rfl
 | c :: d :: r=>by
  show (⟨#[c]⟩:Str)++⟨#[]⟩++Str.join ⟨#[]⟩ ((d :: r).map fun c=>(⟨#[c]⟩:Str))=_;rw [join1 (d :: r)];show (⟨(#[c]++#[])++(d :: r).toArray⟩:Str)=_
  congr 1
  apply Array.toList_inj.mp;simp
theorem joinOk1 {cs:List Nat} (h:cs.length≤1000):PySem.JoinOk (⟨#[]⟩:Str) (cs.map fun c=>(⟨#[c]⟩:Str))=true:=by
 have key:∀ (l:List Nat) (n:Nat),(l.map fun c=>(⟨#[c]⟩:Str)).foldl (fun a x=>a + x.length + (⟨#[]⟩:Str).length) n=n + l.length:=by
  intro l
  induction l with
  | nil=>intro n;rfl
  | cons c r ih =>
   intro n;rw [Zp,Y0,ih,Ze];show n + 1 + 0 + r.length=_;omega
 unfold PySem.JoinOk;rw [List.foldl_toArray,key];have:=small1000 h;unfold Builtin.Str.tooLong;simp;omega
theorem comp_charsM {x:Str}{k:Nat}{σ : St}{H:Hp}{g:TG}{tt:TT}{te:TE}{Q:VK} (f:Nat→V) (hz:x.length≤sizeLine)
  (hs:∀ c (Ry:VK),c∈x.cps.toList→Ry (f c) H→∀ Rn:Hp→Prop,g (.str ⟨#[c]⟩) (σ++List.replicate k none) H fun σ2 H2=>tt σ2 H2 fun b H3=>if b=true then te σ2 H3 Ry else Rn H3)
  (hd:∀ q,H q=none→Q (.ref q) (upd H q (.lst (x.cps.toList.map f)))):CompGoal (Its x) k σ H g tt te Q:=by
 have hlen:x.cps.toList.length=x.length:=by rw [Y4];rfl
 refine zF4 (J:=Its x) (n:=x.length) (fun i ys H'=>H'=H∧ys=(x.cps.toList.take i).map f) ⟨rfl,rfl⟩ (fun i ys H' lt _=>lt) (fun ys H' _=>Z5 _) (fun i ys H' hi q=>?_) ?_ ?_
 ·obtain ⟨_,rfl⟩:=q;rw [Z0];have b:=Zx i x.cps.toList;omega
 ·rintro i ys H' v H2 lt ⟨rfl,rfl⟩ ⟨rfl,c,hc,rfl⟩ N hN;have hc':x.cps.toList[i]? = some c:=by rw [Array.getElem?_toList];exact hc
  refine hs c _ (Z3 hc') (hN _ _ ⟨rfl,?_⟩) _;rw [Zk,hc',Zh];rfl
 ·rintro ys H' ⟨rfl,rfl⟩ q hq;rw [← hlen,Zm];exact hd q hq
noncomputable def spSign:Sp:=fun vs H Q _=>∃ (c t:Nat),vs=[.str ⟨#[c]⟩,.int t]∧(97≤c∧c≤122)∧Q (.str ⟨#[rotC t c]⟩) H
noncomputable def spNames:Sp:=fun vs H Q _=>∃ (p:Addr) (m k:Int),vs=[.ref p,.int m]∧Src H p k∧k≤990000∧0≤m∧m≤19 ∧
 ∀ (l:Addr) (ks:List Str) (H':Hp),(ks.length:Int)=m→ks.Nodup→(∀ x∈ks,nameB x=true∧PyData.strOk x=true∧x.length≤8∧x≠"qq")→H' l=some (.lst (ks.map V.str))→H l=none→Src H' p (k + 5)→(∀ b o,H b=some o→b≠p→H' b=some o)→Q (.ref l) H'
section
variable {P:Program}{w:World}{K:PySem.W.Frag}{mg:Str→Option Value}{base:Heap}{CX:CXT}
theorem scSg:FnScope ["_law_sign_here", "_law_turn", "_law_small"] ["_law_sign_here", "_law_turn"] (defScope sSign):=⟨rfl,rfl,rfl,by decide +kernel,rfl,by decide +kernel,by decide +kernel⟩
theorem ok_sign {f:Addr}{fd:FuncData} (F:Fun K "_law_sign" "_law_sign" sSign f fd):FnOk P w K mg base CX 1 f fd ["_law_sign_here", "_law_turn"] spSign:=by
 refine Fun.okC F scSg (fun vs H Q E h=>?_) (fun cdv A outer s H vs Q E hr h=>?_)
 ·obtain ⟨c,t,rfl,_⟩:=h;rfl
 ·obtain ⟨c,t,rfl,hc,k⟩:=h
  refine ⟨_,zA3 (zAb (i:=2) scSg.nd rfl (Or.inl rfl) zAe)
   (zA6 (zAj (zAs ix_str (pv 2) (zAh zCd (zAh zC6 (zD3 PySem.F.plainAttrs_str PySem.F.slot_str_index PySem.F.type_str_index mt_index (pv 2) (zA0 (pv 0) zA2)) (pv 1)) zA4) (fun _ _=>rfl)))),?_⟩
  refine ⟨_,rfl,_,rfl,rfl,_,rfl,letters,_,c - 97,[],rfl,rfl,index_of c (mem_lets.mpr hc),?_⟩;refine ⟨_,rfl,_,_,rfl,rfl,_,_,rfl,rfl,(by show (0:Int) < 26;decide),?_⟩;have hi:(c - 97 + t) % 26 < 26:=Yf _ (by decide);have e:lets[(c - 97 + t) % 26]? = some (rotC t c):=by
   have key:∀ i < 26,lets[i]? = some (97 + i):=by decide +kernel
   exact key _ hi
  refine ⟨letters,_,rotC t c,rfl,rfl,Zl (small1000 (by decide +kernel)),?_,k⟩;have e2:(((c - 97:Nat):Int) + (t:Int)) % 26=(((c - 97 + t) % 26:Nat):Int):=by omega
  show atI letters.cps.toList ((((c - 97:Nat):Int) + (t:Int)) % 26)=some (rotC t c);rw [e2,zFq];exact zBh e
end
end My
namespace L2.W
open PySem My
section
variable {P:Program}{w:World}{K:PySem.W.Frag}{mg:Str→Option Value}{base:Heap}{CX:CXT}
theorem scNm:FnScope ["_law_source", "_law_many", "_law_words", "_law_start", "_law_step", "_law_turn", "_law_some"] ["_law_source", "_law_many"] (defScope sNames):=⟨rfl,rfl,rfl,by decide +kernel,rfl,by decide +kernel,by decide +kernel⟩
set_option maxHeartbeats 4000000 in
theorem ok_names {f fm fn fs:Addr}{fd fdm fdn fds:FuncData} (hC:Calm CX) (T:Tops K mg) (F:Fun K "_law_names" "_law_names" sNames f fd) (DM:Def K mg "_law_mixed" sMixed ["_law_cell", "_law_k"] fm fdm)
  (DN:Def K mg "_law_next" sNext ["_law_source", "_law_many"] fn fdn) (DS:Def K mg "_law_sign" sSign ["_law_sign_here", "_law_turn"] fs fds):FnOk P w K mg base CX 3 f fd ["_law_source", "_law_many"] spNames:=by
 have GN:FnOk P w K mg base CX 2 fn fdn ["_law_source", "_law_many"] spNext:=zCl hC DN.fn DM;have GS:FnOk P w K mg base CX 1 fs fds ["_law_sign_here", "_law_turn"] spSign:=ok_sign DS.fn;refine Fun.okC F scNm (fun vs H Q E h=>?_) (fun cdv A outer s H vs Q E hr h=>?_)
 ·obtain ⟨p,m,k,rfl,_⟩:=h;rfl
 ·obtain ⟨p,m,k,rfl,S0,hk,m0,m1,q⟩:=h;have nd:=scNm.nd;have hr1:=hr.mono (show 1≤2 by decide)
  refine ⟨_,zA3 (zAb (i:=2) nd rfl (Or.inr rfl) (zAr (zC4 (vs:=[.str "a",.str "ac",.str "ab",.str "b",.str "box",.str "boxes",.str "bo",.str "zzzzzzzz",.str "abcdefgh",.str "of"]) (by decide +kernel))))
   (zA3 (zAb (i:=2) nd rfl (Or.inr rfl) (zAh zC5 (pv 2) (zAr (zC4 (vs:=[.str "kind",.str "lid",.str "l",.str "is",.str "not",.str "want",.str "red",.str "lids",.str "wanted"]) (by decide +kernel)))))
   (zA3 (zAb (i:=3) nd rfl (Or.inr rfl) (zA7 GN hr rfl DN.at_ DN.fn.kp DN.bind .nil (passC hC) (zA0 (pv 0) (zA0 zA4 zA2))))
   (zA3 (zAb (i:=4) nd rfl (Or.inr rfl) (zAh zC6 zA4 (zA7 GN hr rfl DN.at_ DN.fn.kp DN.bind .nil (passC hC) (zA0 (pv 0) (zA0 zA4 zA2)))))
   (zA3 (zAb (i:=5) nd rfl (Or.inr rfl) (zAs zAk (zAr (zA0 zA4 (zA0 (zA7 GN hr rfl DN.at_ DN.fn.kp DN.bind .nil (passC hC) (zA0 (pv 0) (zA0 zA4 zA2))) zA2))) (zA7 GN hr rfl DN.at_ DN.fn.kp DN.bind .nil (passC hC) (zA0 (pv 0) (zA0 zA4 zA2))) (fun _ _=>rfl)))
   (zA3 (zBu (T:=["_law_k"]) (i:=6) rfl ScOk.auto (zDc rfl T.range (zA0 (pv 1) zA2)) (fun _ _ _ _=>zAc (i:=7) (by decide +kernel:(["_law_source", "_law_many", "_law_words", "_law_start", "_law_step", "_law_turn", "_law_some", "_law_k"]:List Str).Nodup) rfl (Or.inl rfl)) (fun _ _ _ _=>zB6)
    (fun _ _ _ _=>zAs (r:=rIxL K) zAk (pv 2) (zAh zCd (zAh zC6 (pv 3) (zAh zE0 (pv 4) (pv 7))) zA4) (fun _ _=>rfl)) nd rfl rfl rfl)
   (zA6 (zAj (zAu (T:=["_law_word"]) rfl ScOk.auto (zAn (pv 6)) (fun _ _ _ _=>zAc (i:=7) (by decide +kernel:(["_law_source", "_law_many", "_law_words", "_law_start", "_law_step", "_law_turn", "_law_some", "_law_word"]:List Str).Nodup) rfl (Or.inl rfl)) (fun _ _ _ _=>zB6)
    (fun _ _ _ _=>pe_bmK rfl PySem.F.plainAttrs_str PySem.F.slot_str_join PySem.F.type_str_join (mt_join (K:=K) rfl) zAe (zA0 (zAu (T:=["_law_sign_here"]) rfl ScOk.auto (zFj (pv 7)) (fun _ _ _ _=>zAc (i:=8) (by decide +kernel:(["_law_source", "_law_many", "_law_words", "_law_start", "_law_step", "_law_turn", "_law_some", "_law_word", "_law_sign_here"]:List Str).Nodup) rfl (Or.inl rfl)) (fun _ _ _ _=>zB6)
     (fun _ _ _ _=>zA7 GS hr1 rfl DS.at_ DS.fn.kp DS.bind .nil (passC hC) (zA0 (pv 8) (zA0 (pv 5) zA2)))) zA2)))))))))),?_⟩
  have small:∀ n:Nat,n≤1000→n≤sizeLine:=fun n h=>Zl (small1000 h);have src:∀ {H1 H2:Hp}{j:Int},Src H1 p j→(∀ o,H1 p=some o→H2 p=some o)→Src H2 p j:=fun ⟨a,c,i,e,r⟩ h=>⟨a,c,i,h _ e,r⟩;have hp0:∀ b,H b=none→b≠p:=fun b hb=>by obtain ⟨a,c,j,e,_⟩:=S0;exact (zA5 e hb).symm
  refine ⟨small _ (by simp),fun w1 h1=>?_⟩;refine ⟨_,rfl,small _ (by simp),fun w2 h2=>⟨w1,w2,_,_,rfl,rfl,(Same.new h2) _ _ zA1,zA1,small _ (by simp),fun w3 h3=>?_⟩⟩;have hw3:(upd (upd (upd H w1 (.lst [.str "a",.str "ac",.str "ab",.str "b",.str "box",.str "boxes",.str "bo",.str "zzzzzzzz",.str "abcdefgh",.str "of"])) w2 (.lst [.str "kind",.str "lid",.str "l",.str "is",.str "not",.str "want",.str "red",.str "lids",.str "wanted"])) w3 (.lst ([.str "a",.str "ac",.str "ab",.str "b",.str "box",.str "boxes",.str "bo",.str "zzzzzzzz",.str "abcdefgh",.str "of"]++[.str "kind",.str "lid",.str "l",.str "is",.str "not",.str "want",.str "red",.str "lids",.str "wanted"]))) w3=some (.lst (words.map V.str)):=zA1;have sH:Same H (upd (upd (upd H w1 (.lst [.str "a",.str "ac",.str "ab",.str "b",.str "box",.str "boxes",.str "bo",.str "zzzzzzzz",.str "abcdefgh",.str "of"])) w2 (.lst [.str "kind",.str "lid",.str "l",.str "is",.str "not",.str "want",.str "red",.str "lids",.str "wanted"])) w3 (.lst ([.str "a",.str "ac",.str "ab",.str "b",.str "box",.str "boxes",.str "bo",.str "zzzzzzzz",.str "abcdefgh",.str "of"]++[.str "kind",.str "lid",.str "l",.str "is",.str "not",.str "want",.str "red",.str "lids",.str "wanted"]))):=((Same.new h1).trans (Same.new h2)).trans (Same.new h3);have fw3:H w3=none:=((Same.new h1).trans (Same.new h2)).free h3;generalize upd (upd (upd H w1 (.lst [.str "a",.str "ac",.str "ab",.str "b",.str "box",.str "boxes",.str "bo",.str "zzzzzzzz",.str "abcdefgh",.str "of"])) w2 (.lst [.str "kind",.str "lid",.str "l",.str "is",.str "not",.str "want",.str "red",.str "lids",.str "wanted"])) w3 (.lst ([.str "a",.str "ac",.str "ab",.str "b",.str "box",.str "boxes",.str "bo",.str "zzzzzzzz",.str "abcdefgh",.str "of"]++[.str "kind",.str "lid",.str "l",.str "is",.str "not",.str "want",.str "red",.str "lids",.str "wanted"]))=G0 at *;have S1:Src G0 p k:=src S0 fun o e=>sH _ _ e;have np3:w3≠p:=hp0 _ fw3;refine ⟨_,rfl,p,_,k,rfl,S1,by omega,by decide,by decide,fun a G1 a0 a1 S2 k1=>?_⟩;refine ⟨_,rfl,p,_,_,rfl,S2,by omega,by decide,by decide,fun b G2 b0 b1 S3 k2=>⟨_,_,rfl,rfl,?_⟩⟩;refine ⟨_,rfl,p,_,_,rfl,S3,by omega,by decide,by decide,fun c G3 c0 c1 S4 k3=>⟨small _ (by simp),fun q1 hq1=>?_⟩⟩;have nq:q1≠p:=by obtain ⟨_,_,_,e,_⟩:=S4;exact (zA5 e hq1).symm
  have S5:Src (upd G3 q1 (.lst [.int 0,.int c])) p (k + 1 + 1 + 1):=src S4 fun o e=>(Same.new hq1) _ _ e;refine ⟨_,rfl,p,_,_,rfl,S5,by omega,by decide,by decide,fun d G4 d0 d1 S6 k4=>?_⟩;have hq4:G4 q1=some (.lst [.int 0,.int c]):=by rw [k4 q1 nq];exact zA1
  obtain ⟨t,ht⟩:∃ t:Nat,atI [V.int 0,V.int c] d=some (.int (t:Int)):=by
   rcases (show d=0∨d=1 by omega) with rfl | rfl
   ·exact ⟨0,rfl⟩
   ·exact ⟨c.toNat,by rw [show ((c.toNat:Nat):Int)=c by omega];rfl⟩
  refine ⟨q1,_,_,_,rfl,rfl,SqL.of hq4,ht,?_⟩;have fr:∀ b o,G0 b=some o→b≠p→G4 b=some o:=fun b o e hb=>by
   rw [k4 b hb];refine (Same.new hq1) _ _ ?_;rw [k3 b hb,k2 b hb,k1 b hb];exact e
  have hw4:=fr _ _ hw3 np3;obtain ⟨a',rfl⟩:∃ n:Nat,a=n:=⟨a.toNat,by omega⟩;obtain ⟨b',rfl⟩:∃ n:Nat,b=n:=⟨b.toNat,by omega⟩;obtain ⟨m',rfl⟩:∃ n:Nat,m=n:=⟨m.toNat,by omega⟩;have hb19:0 < 1 + b'∧1 + b' < 19:=by omega
  refine ⟨_,rfl,(m':Int),rfl,by omega,by omega,?_⟩;rw [Int.toNat_natCast];refine comp_range (lo:=0) (n:=m') (fun i ys H'=>H'=G4∧ys=(List.range i).map fun j=>V.str (words[(a' + (1 + b') * j) % 19]?.getD "")) ⟨rfl,rfl⟩ (fun i ys H' hi z=>?_) ?_ ?_
  ·rw [z.2,Z0,Yd];exact small _ (by omega)
  ·rintro i ys H' hi ⟨rfl,rfl⟩ N hN;refine pick ?_;refine ⟨_,rfl,_,rfl,_,rfl,_,rfl,_,_,rfl,rfl,.inl ⟨by omega,by omega⟩,_,_,rfl,rfl,_,_,rfl,rfl,(by show (0:Int) < 19;decide),?_⟩;obtain ⟨x,ex,_⟩:=zCf ((a' + (1 + b') * i) % 19) (Yf _ (by decide));have e1:((a':Int) + (1 + (b':Int)) * (0 + (i:Int))) % 19=(((a' + (1 + b') * i) % 19:Nat):Int):=by
    rw [Int.zero_add]
    push_cast
    rfl
   refine ⟨w3,words.map V.str,_,.str x,rfl,rfl,SqL.of hw4,?_,hN _ _ ⟨rfl,?_⟩⟩
   ·show atI (words.map V.str) (((a':Int) + (1 + (b':Int)) * (0 + (i:Int))) % 19)=some (.str x);rw [e1];refine zBh ?_;rw [Za,ex];rfl
   ·rw [List.range_succ,Zh];show _++[V.str x]=_++[V.str (words[(a' + (1 + b') * i) % 19]?.getD "")];rw [ex];rfl
  ·rintro ys H' ⟨rfl,rfl⟩ l1 hl1;have sL:=Same.new (o:=.lst ((List.range m').map fun j=>V.str (words[(a' + (1 + b') * j) % 19]?.getD ""))) hl1;have hl2:(upd H' l1 (.lst ((List.range m').map fun j=>V.str (words[(a' + (1 + b') * j) % 19]?.getD "")))) l1=some (.lst ((List.range m').map fun j=>V.str (words[(a' + (1 + b') * j) % 19]?.getD ""))):=zA1;generalize upd H' l1 (.lst ((List.range m').map fun j=>V.str (words[(a' + (1 + b') * j) % 19]?.getD "")))=G5 at sL hl2 ⊢;refine ⟨_,rfl,l1,rfl,⟨_,SqL.of hl2⟩,zAl (xs:=(List.range m').map fun j=>V.str (words[(a' + (1 + b') * j) % 19]?.getD "")) (fun i ys H'=>Same G5 H'∧ys=(List.range i).map fun j=>V.str (nm a' (1 + b') t j)) ⟨Same.refl _,rfl⟩ (fun i ys H' z=>SqL.of (z.1 _ _ hl2)) (fun i ys H' hi z=>?_) ?_ ?_⟩
   ·rw [z.2,Z0,Yd];rw [Z0,Yd] at hi;exact small _ (by omega)
   ·rintro i x ys H6 hi ⟨s6,rfl⟩ N hN;have hi':i < m':=by have:=(List.getElem?_eq_some_iff.mp hi).1;simpa using this
    have ex:x=V.str (words[(a' + (1 + b') * i) % 19]?.getD ""):=by
     rw [Za,List.getElem?_range hi'] at hi;exact (Zi hi).symm
    subst ex;obtain ⟨x,ex,hxw⟩:=zCf ((a' + (1 + b') * i) % 19) (Yf _ (by decide));have en:nm a' (1 + b') t i=rotS t x:=by unfold nm;rw [ex];rfl
    rw [ex,Yb];have okx:=zD8 x hxw;refine pick ?_;refine ⟨rfl,?_⟩;refine ⟨_,rfl,x,rfl,comp_charsM (fun c=>.str ⟨#[rotC t c]⟩) (small _ (by omega)) (fun c Ry hc hR Rn=>?_) (fun q2 hq2=>?_)⟩
    ·refine pick ?_;exact ⟨_,rfl,_,rfl,c,t,rfl,okx.2 c hc,hR⟩
    ·have el:x.cps.toList.map (fun c=>V.str ⟨#[rotC t c]⟩)=((x.cps.toList.map (rotC t)).map fun c=>(⟨#[c]⟩:Str)).map V.str:=by
      rw [Zy,Zy];rfl
     have ee:("" : Str)=⟨#[]⟩:=by decide +kernel
     refine ⟨⟨#[]⟩,q2,(x.cps.toList.map (rotC t)).map fun c=>(⟨#[c]⟩:Str),congrArg V.str ee,rfl,SqL.of (by rw [zA1,el]),joinOk1 ?_,?_⟩
     ·rw [Z0,Y4];have:x.cps.size=x.length:=rfl;omega
     ·have ej:Txt.join ⟨#[]⟩ ((x.cps.toList.map (rotC t)).map fun c=>(⟨#[c]⟩:Str))=rotS t x:=by
       show Builtin.Str.glued _ _=_;rw [PySem.StrLaws.glued_eq_join,join1];rfl
      rw [ej,← en];refine hN _ _ ⟨s6.trans (Same.new hq2),?_⟩;rw [List.range_succ,Zh];rfl
   ·rintro ys H6 ⟨s6,rfl⟩ l hl;rw [Z0,Yd];have sN:=Same.new (o:=.lst ((List.range m').map fun j=>V.str (nm a' (1 + b') t j))) hl;have nl:l≠p:=by
     obtain ⟨_,_,_,e,_⟩:=S6;exact (zA5 (s6 _ _ (sL _ _ e)) hl).symm
    refine q l ((List.range m').map (nm a' (1 + b') t)) _ (by rw [Z0,Yd]) (nms_nodup hb19.1 hb19.2 m' (by omega)) (fun x hx=>?_) (by rw [zA1,Zy];rfl) ?_ ?_ fun b o e hb=>?_
    ·obtain ⟨j,_,rfl⟩:=List.mem_map.mp hx;exact nm_ok _ _ _ _
    ·cases z:H l with
     | none=>rfl
     | some o =>
      have:=s6 _ _ (sL _ _ (fr _ _ (sH _ _ z) nl));rw [this] at hl;cases hl
    ·exact (src S6 fun o e=>sN _ _ (s6 _ _ (sL _ _ e))).mono (by omega)
    ·exact sN _ _ (s6 _ _ (sL _ _ (fr _ _ (sH _ _ e) hb)))
end
end L2.W
namespace L2.W
open PySem My
noncomputable def nameOk (x:Str):Prop:=nameB x=true∧PyData.strOk x=true∧x.length≤8
theorem nok {x:Str} (h:nameB x=true∧PyData.strOk x=true∧x.length≤8∧x≠"qq"):nameOk x:=⟨h.1,h.2.1,h.2.2.1⟩
structure ValsOk (vs:List Str):Prop where
 ne:0 < vs.length
 le:vs.length≤8
 nd:vs.Nodup
 ok:∀ x∈vs,nameOk x
 nq:∀ x∈vs,x≠"qq"
noncomputable def fieldD (f:Str×List Str):PyData:=.tuple [.str f.1,.list (f.2.map .str)]
noncomputable def manyOf (fs:List (Str×List Str)):Nat:=fs.foldl (fun m f=>m * f.2.length) 1
structure FieldsOk (fs:List (Str×List Str)):Prop where
 le:fs.length≤3
 nd:(fs.map (·.1)).Nodup
 ok:∀ f∈fs,nameOk f.1∧ValsOk f.2
 many:manyOf fs≤8
 nq:∀ f∈fs,f.1≠"qq"
noncomputable def SzOk (szs:List Nat):Prop:=szs.length≤3∧(∀ n∈szs,1≤n∧n≤8)∧szs.foldl (fun m n=>m * n) 1≤8
noncomputable def Tab (H0 H:Hp) (v:V):Prop:=∃ (r:Addr) (szs:List Nat),v=.ref r∧H0 r=none∧H r=some (.lst (szs.map fun (n:Nat)=>V.int (n:Int)))∧SzOk szs
noncomputable def spLFields:Sp:=fun vs H Q _=>∃ (p:Addr) (k:Int),vs=[.ref p]∧Src H p k∧k≤900000 ∧
 ∀ (l:Addr) (fs:List (Str×List Str)) (H':Hp),FieldsOk fs→Has (fun a=>H a=none) H' (.ref l) (.list (fs.map fieldD))→Src H' p (k + 30)→(∀ b o,H b=some o→b≠p→H' b=some o)→Q (.ref l) H'
noncomputable def szss:List (List Nat):=[[],[1],[2],[3],[8],[2,2],[2,3],[4,2],[2,2,2],[1,2,4],[1,1,1],[5],[7,1]]
noncomputable def tables:List (List V):=szss.map fun z=>z.map fun (n:Nat)=>V.int (n:Int)
theorem sz_ok:∀ z∈szss,z.length≤3∧(∀ n∈z,1≤n∧n≤8)∧z.foldl (fun m n=>m * n) 1≤8:=by decide
theorem zFm {α β : Type}{R : α→β→Prop}:∀ {l:List α}{m:List β},Paired R l m→∀ b∈m,∃ a∈l,R a b
 | _,_,.nil,b,h=>by simp at h
 | _,_,.cons (a:=a) r t,b,h=>by
  rcases List.mem_cons.mp h with rfl | h
  ·exact ⟨a,Z9,r⟩
  ·obtain ⟨c,hc,q⟩:=zFm t b h;exact ⟨c,Z6 _ hc,q⟩
theorem tab_all {H H':Hp}{rs:List V} (h:Laid H H' tables rs):∀ v∈rs,Tab H H' v:=by
 intro v hv;obtain ⟨vs,hvs,a,rfl,n,q⟩:=zFm h v hv;obtain ⟨z,hz,rfl⟩:=List.mem_map.mp hvs;exact ⟨a,z,rfl,n,q,sz_ok z hz⟩
theorem pickT {K:PySem.W.Frag}{A B:St→Hp→Prop}{σ : St}{H:Hp}{i j:Nat}{p:Addr}{x y:V} (hp:SqT K H p [x,y]) (h:A ((σ.set i (some x)).set j (some y)) H) :
  gTup K 2 (gCons (gName i) (gCons (gName j) gNil)) (.ref p) σ H fun σ2 H2=>tYes σ2 H2 fun b H3=>if b=true then A σ2 H3 else B σ2 H3:=by
 refine ⟨p,[x,y],rfl,hp,rfl,x,[y],rfl,y,[],rfl,rfl,?_⟩;show if true=true then A ((σ.set i (some x)).set j (some y)) H else B ((σ.set i (some x)).set j (some y)) H
 rw [if_pos rfl];exact h
theorem zip_snoc {α β : Type}:∀ {l:List α}{m:List β}{i:Nat}{a : α}{b : β},m.length=i→l[i]? = some a→(l.take (i + 1)).zip (m++[b])=(l.take i).zip m++[(a,b)]:=by
 intro l m i a b hm hl;have e:l.take (i + 1)=l.take i++[a]:=by rw [Zk,hl];rfl
 rw [e,List.zip_append]
 ·rfl
 ·have:=(List.getElem?_eq_some_iff.mp hl).1;rw [Zt];omega
theorem zDf {G:Addr→Prop}{H:Hp}:∀ {ks:List Str},(∀ x∈ks,nameOk x)→HasAll G H (ks.map V.str) (ks.map .str)
 | [],_=>.nil
 | k :: r,h=>.cons (.str k (by have:=(h k Z9).2.2;omega) (h k Z9).2.1) (zDf fun x hx=>h x (Z6 _ hx))
theorem many_eq:∀ (fs:List (Str×List Str)) (m:Nat),fs.foldl (fun m f=>m * f.2.length) m=(fs.map (·.2.length)).foldl (fun m n=>m * n) m
 | [],m=>rfl
 | f :: r,m=>by rw [Y0,Zp,Y0,many_eq r]
section
variable {P:Program}{w:World}{K:PySem.W.Frag}{mg:Str→Option Value}{base:Heap}{CX:CXT}
theorem scLf:FnScope ["_law_source", "_law_some", "_law_sizes"] ["_law_source"] (defScope sLFields):=⟨rfl,rfl,rfl,by decide +kernel,rfl,by decide +kernel,by decide +kernel⟩
set_option maxHeartbeats 4000000 in
theorem ok_lfields {f fm fn fs fnm:Addr}{fd fdm fdn fds fdnm:FuncData} (hC:Calm CX) (T:Tops K mg) (F:Fun K "_law_fields" "_law_fields" sLFields f fd) (DM:Def K mg "_law_mixed" sMixed ["_law_cell", "_law_k"] fm fdm)
  (DN:Def K mg "_law_next" sNext ["_law_source", "_law_many"] fn fdn) (DS:Def K mg "_law_sign" sSign ["_law_sign_here", "_law_turn"] fs fds) (DA:Def K mg "_law_names" sNames ["_law_source", "_law_many"] fnm fdnm):FnOk P w K mg base CX 4 f fd ["_law_source"] spLFields:=by
 have GN:FnOk P w K mg base CX 2 fn fdn ["_law_source", "_law_many"] spNext:=zCl hC DN.fn DM;have GA:FnOk P w K mg base CX 3 fnm fdnm ["_law_source", "_law_many"] spNames:=ok_names hC T DA.fn DM DN DS;refine Fun.okC F scLf (fun vs H Q E h=>?_) (fun cdv A outer s H vs Q E hr h=>?_)
 ·obtain ⟨p,k,rfl,_⟩:=h;rfl
 ·obtain ⟨p,k,rfl,S0,hk,q⟩:=h;have nd:=scLf.nd;have hr2:=hr.mono (show 2≤3 by decide)
  refine ⟨_,zA3 (zAb (i:=1) nd rfl (Or.inl rfl) (zAr (zE4 (vss:=tables) (by decide +kernel) (by decide +kernel))))
   (zA3 (zAb (i:=2) nd rfl (Or.inl rfl) (zAs zAk (pv 1) (zA7 GN hr2 rfl DN.at_ DN.fn.kp DN.bind .nil (passC hC) (zA0 (pv 0) (zA0 zA4 zA2))) (fun _ _=>rfl)))
   (zA6 (zAj (zAu (T:=["_law_name", "_law_size"]) rfl ScOk.auto (pi_zip rfl T.zip (zA0 (zA7 GA hr rfl DA.at_ DA.fn.kp DA.bind .nil (passC hC) (zA0 (pv 0) (zA0 (zA9 zAi rfl T.len PySem.boot_len (zA0 (pv 2) zA2)) zA2))) (zA0 (pv 2) zA2)))
    (fun _ _ _ _=>zEh (K:=K) (n:=2) rfl rfl (zAm (zAc (i:=3) (by decide +kernel:(["_law_source", "_law_some", "_law_sizes", "_law_name", "_law_size"]:List Str).Nodup) rfl (Or.inl rfl)) (zAm (zAc (i:=4) (by decide +kernel:(["_law_source", "_law_some", "_law_sizes", "_law_name", "_law_size"]:List Str).Nodup) rfl (Or.inl rfl)) zC1))) (fun _ _ _ _=>zB6)
    (fun _ _ _ _=>zBc (zA0 (pv 3) (zA0 (zA7 GA hr rfl DA.at_ DA.fn.kp DA.bind .nil (passC hC) (zA0 (pv 0) (zA0 (pv 4) zA2))) zA2))))))),?_⟩
  have small:∀ n:Nat,n≤1000→n≤sizeLine:=fun n h=>Zl (small1000 h);have src:∀ {H1 H2:Hp}{j:Int},Src H1 p j→(∀ o,H1 p=some o→H2 p=some o)→Src H2 p j:=fun ⟨a,c,i,e,r⟩ h=>⟨a,c,i,h _ e,r⟩;have np:∀ {G:Hp}{j:Int}{b:Addr},Src G p j→G b=none→b≠p:=fun ⟨_,_,_,e,_⟩ h=>(zA5 e h).symm;refine fun rs G0 s0 L0=>⟨?_,fun w hw=>?_⟩
  ·rw [← L0.length];exact small _ (by decide)
  have lrs:rs.length=13:=L0.length.symm;have s1:Same H (upd G0 w (.lst rs)):=s0.trans (Same.new hw);have tab:∀ v∈rs,Tab H (upd G0 w (.lst rs)) v:=tab_all (L0.mono (Same.refl _) (Same.new hw));have hw1:(upd G0 w (.lst rs)) w=some (.lst rs):=zA1;have fw:H w=none:=s0.free hw;generalize upd G0 w (.lst rs)=G1 at s1 tab hw1 ⊢;have S1:Src G1 p k:=src S0 fun o e=>s1 _ _ e;refine ⟨_,rfl,_,rfl,p,_,k,rfl,S1,by omega,by decide,by decide,fun d G2 d0 d1 S2 k2=>?_⟩;obtain ⟨v,hv,hm⟩:=atI_ex rs d0 (by rw [lrs];exact d1);obtain ⟨r,szs,rfl,fr0,hr1,ok⟩:=tab v hm;have hr2:G2 r=some (.lst (szs.map fun (n:Nat)=>V.int (n:Int))):=by rw [k2 r (np S0 fr0)];exact hr1
  refine ⟨w,rs,d,_,rfl,rfl,SqL.of (by rw [k2 w (np S0 fw)];exact hw1),hv,?_⟩;have g2:∀ b o,H b=some o→b≠p→G2 b=some o:=fun b o e hb=>by rw [k2 b hb];exact s1 _ _ e
  obtain ⟨z3,zn,zm⟩:=ok;refine ⟨_,rfl,_,rfl,r,_,rfl,.inl (SqL.of hr2),p,_,_,rfl,S2,by omega,by rw [Z0];omega,by rw [Z0];omega,fun l1 ks G3 e1 n1 o1 hl1 f1 S3 k3=>⟨_,rfl,?_⟩⟩;rw [Z0] at e1;have hr3:G3 r=some (.lst (szs.map fun (n:Nat)=>V.int (n:Int))):=k3 _ _ hr2 (np S0 fr0);have g3:∀ b o,H b=some o→b≠p→G3 b=some o:=fun b o e hb=>k3 _ _ (g2 b o e hb) hb;have nl1:l1≠p:=np S2 f1
  refine ⟨l1,r,rfl,⟨_,SqL.of hl1⟩,⟨_,SqL.of hr3⟩,zF4 (J:=Itz K l1 r) (n:=szs.length) (fun i ys G=>(∀ b o,G3 b=some o→b≠p→G b=some o)∧Src G p (k + 6 + 5 * i)∧∃ vss:List (List Str),vss.length=i ∧
   HasAll (fun a=>H a=none) G ys (((ks.take i).zip vss).map fieldD)∧∀ (j:Nat) (vs:List Str),vss[j]? = some vs→ValsOk vs∧szs[j]? = some vs.length) ⟨fun _ _ e _=>e,S3.mono (by omega),[],rfl,.nil,fun j vs h=>by simp at h⟩ ?_ ?_ ?_ ?_ ?_⟩
  ·rintro i ys G lt ⟨fr,_⟩;exact ⟨_,_,_,_,SqL.of (fr _ _ hl1 nl1),SqL.of (fr _ _ hr3 (np S0 fr0)),Z1 (by rw [Z0];omega),Z1 (by rw [Z0];exact lt)⟩
  ·rintro ys G ⟨fr,_⟩;exact ⟨_,_,SqL.of (fr _ _ hl1 nl1),SqL.of (fr _ _ hr3 (np S0 fr0)),.inr (by rw [Z0];exact Z5 _)⟩
  ·rintro i ys G hi ⟨_,_,vss,hv,hh,_⟩;have:=hh.length;rw [Z0,List.length_zip] at this;exact small _ (by omega)
  ·rintro i ys G x G' lt ⟨fr,S,vss,hvl,hh,ho⟩ ⟨p2,x0,y0,rfl,hp2,rfl,hx,hy⟩ N hN;have hx':=hx _ (SqL.of (fr _ _ hl1 nl1));have hy':=hy _ (SqL.of (fr _ _ hr3 (np S0 fr0)));rw [Za] at hx' hy';obtain ⟨nk,hnk⟩:∃ nk,ks[i]? = some nk:=⟨_,Z1 (by omega)⟩;obtain ⟨sz,hsz⟩:∃ sz,szs[i]? = some sz:=⟨_,Z1 lt⟩;rw [hnk] at hx';rw [hsz] at hy';cases hx';cases hy';obtain ⟨z1,z8⟩:=zn sz (Z3 hsz);have np2:p2≠p:=np S hp2;have s2:=Same.new (o:=.tup [V.str nk,V.int (sz:Int)]) hp2;have S':Src (upd G p2 (.tup [V.str nk,V.int (sz:Int)])) p (k + 6 + 5 * i):=src S fun o e=>s2 _ _ e;refine pickT (SqT.of zA1) ?_;refine ⟨_,rfl,_,rfl,_,rfl,p,_,_,rfl,S',by omega,by omega,by omega,fun l2 vs G4 e2 n2 o2 hl2 f2 S4 k4=>⟨by show 2≤sizeLine;decide,fun t ht=>hN _ _ ⟨fun b o e hb=>?_,?_,vss++[vs],?_,?_,?_⟩⟩⟩
   ·exact (Same.new ht) _ _ (k4 _ _ (s2 _ _ (fr b o e hb)) hb)
   ·exact (src S4 fun o e=>(Same.new ht) _ _ e).mono (by push_cast;omega)
   ·rw [Z4,hvl];rfl
   ·have bk:∀ b,(upd G p2 (.tup [V.str nk,V.int (sz:Int)])) b=none→H b=none:=fun b e=>by
     cases z:H b with
     | none=>rfl
     | some o =>
      have hb:b≠p:=np S' e;rw [s2 _ _ (fr _ _ (g3 _ _ z hb) hb)] at e;cases e
    have nt:t≠p:=np S4 ht;have ft:H t=none:=by
     cases z:H t with
     | none=>rfl
     | some o =>
      rw [k4 _ _ (s2 _ _ (fr _ _ (g3 _ _ z nt) nt)) nt] at ht;cases ht
    rw [zip_snoc hvl hnk,Zh];have onk:nameOk nk:=nok (o1 nk (Z3 hnk));refine HasAll.snoc (hh.frame fun b o g e=>⟨g,?_⟩) (.tup ft zA1 (by show 2≤1000;decide) (.cons (.str nk (Zd onk.2.2 (by decide)) onk.2.1) (.cons (.lst (bk _ f2) ((Same.new ht) _ _ hl2) (by rw [Z0];omega) (zDf fun x hx=>nok (o2 x hx))) .nil)));have hb:b≠p:=by obtain ⟨_,_,_,e',_⟩:=S0;rintro rfl;rw [e'] at g;cases g
    exact (Same.new ht) _ _ (k4 _ _ (s2 _ _ e) hb)
   ·intro j ws hj;by_cases lt2:j < vss.length
    ·rw [Zo lt2] at hj;exact ho j ws hj
    ·rw [Zw (by omega)] at hj;have ej:j=i:=by
      have:=(List.getElem?_eq_some_iff.mp hj).1;simp only [Ze,Yc] at this;omega
     subst ej;rw [hvl,Nat.sub_self] at hj;cases hj;have e3:vs.length=sz:=by omega
     exact ⟨⟨by omega,by omega,n2,fun x hx=>nok (o2 x hx),fun x hx=>(o2 x hx).2.2.2⟩,by rw [hsz,e3]⟩
  ·rintro ys G ⟨fr,S,vss,hvl,hh,ho⟩ l hl;have ek:ks.length=szs.length:=by omega
   have et:ks.take szs.length=ks:=by rw [← ek,Zm]
   rw [et] at hh;have nl:l≠p:=np S hl;have fl:H l=none:=by
    cases z:H l with
    | none=>rfl
    | some o =>
     rw [fr _ _ (g3 _ _ z nl) nl] at hl;cases hl
   have lz:(ks.zip vss).length=szs.length:=by rw [List.length_zip];omega
   have lys:ys.length≤1000:=by
    have:=hh.length;rw [Z0] at this;omega
   refine q l (ks.zip vss) _ ⟨by omega,?_,?_,?_,fun f hf=>?_⟩ (.lst fl zA1 lys (hh.mono (Same.new hl))) ((src S fun o e=>(Same.new hl) _ _ e).mono (by omega)) fun b o e hb=>(Same.new hl) _ _ (fr _ _ (g3 _ _ e hb) hb)
   ·rw [List.map_fst_zip (by omega)];exact n1
   ·intro f hf;obtain ⟨j,hj⟩:=List.getElem?_of_mem hf;have hj':=List.getElem?_zip_eq_some.mp (show (ks.zip vss)[j]? = some (f.1,f.2) from hj);exact ⟨nok (o1 _ (Z3 hj'.1)),(ho j f.2 hj'.2).1⟩
   ·unfold manyOf;rw [many_eq];have em:(ks.zip vss).map (·.2.length)=szs:=by
     apply List.ext_getElem?;intro j;rw [Za];cases q1:(ks.zip vss)[j]? with
     | none =>
      have:=List.getElem?_eq_none_iff.mp q1;exact (List.getElem?_eq_none_iff.mpr (by omega)).symm
     | some f =>
      have hj':=List.getElem?_zip_eq_some.mp (show (ks.zip vss)[j]? = some (f.1,f.2) from q1);rw [(ho j f.2 hj'.2).2];rfl
    rw [em];exact zm
   ·obtain ⟨j,hj⟩:=List.getElem?_of_mem hf;have hj':=List.getElem?_zip_eq_some.mp (show (ks.zip vss)[j]? = some (f.1,f.2) from hj);exact (o1 _ (Z3 hj'.1)).2.2.2
end
end L2.W
namespace L2.W
open PySem My
theorem zFf:∀ ks:List Str,strsOf (ks.map PyData.str)=ks
 | []=>rfl
 | k :: r=>by
  show k :: strsOf (r.map PyData.str)=k :: r;rw [zFf r]
theorem zEd {ks:List Str} (h:∀ x∈ks,nameB x=true) (nd:ks.Nodup):unlikeB (ks.map PyData.str)=true:=by
 unfold unlikeB;rw [zFf,decide_eq_true nd,Bool.and_true,List.all_eq_true];intro d hd;obtain ⟨x,hx,rfl⟩:=List.mem_map.mp hd;exact h x hx
theorem fields_ok {fs:List (Str×List Str)} (ok:FieldsOk fs):fieldsB (.list (fs.map fieldD))=true∧countD (fs.map fieldD)≤8:=by
 constructor
 ·show ((fs.map fieldD).all pairB && unlikeB ((fs.map fieldD).map firstD))=true;have e1:(fs.map fieldD).all pairB=true:=by
   rw [List.all_eq_true];intro d hd;obtain ⟨f,hf,rfl⟩:=List.mem_map.mp hd;obtain ⟨_,v⟩:=ok.ok f hf;show (decide (0 < (f.2.map PyData.str).length) && unlikeB (f.2.map PyData.str))=true;rw [Z0,decide_eq_true v.ne,zEd (fun x hx=>(v.ok x hx).1) v.nd];rfl
  have e2:(fs.map fieldD).map firstD=(fs.map (·.1)).map PyData.str:=by
   rw [Zy,Zy];rfl
  rw [e1,e2,zEd _ ok.nd]
  ·rfl
  ·intro x hx;obtain ⟨f,hf,rfl⟩:=List.mem_map.mp hx;exact (ok.ok f hf).1.1
 ·have key:∀ (l:List (Str×List Str)) (m:Nat),(l.map fieldD).foldl (fun (m:Int) d=>m * (sizeD d:Int)) (m:Int)=((l.foldl (fun m f=>m * f.2.length) m:Nat):Int):=by
   intro l
   induction l with
   | nil=>intro m;rfl
   | cons f r ih =>
    intro m;rw [Zp,Y0,Y0,← ih];have:sizeD (fieldD f)=f.2.length:=by
     show (f.2.map PyData.str).length=_;rw [Z0]
    rw [this,Int.natCast_mul]
  have k1:=key fs 1;have k2:=ok.many;unfold countD;unfold manyOf at k2;have k3:((1:Nat):Int)=1:=rfl;rw [k3] at k1;rw [k1];omega
structure Row where
 name:Str
 fields:List (Str×List Str)
 owner:Option Str
structure RowsOk (rs:List Row):Prop where
 ne:0 < rs.length
 le:rs.length≤5
 nd:(rs.map (·.name)).Nodup
 ok:∀ r∈rs,nameOk r.name∧FieldsOk r.fields
 own:∀ (i:Nat) (r:Row) (o:Str),rs[i]? = some r→r.owner=some o→∃ (j:Nat) (r':Row),j < i∧rs[j]? = some r'∧r'.name=o
 nq:∀ r∈rs,r.name≠"qq"
noncomputable def Ready (done:List Str) (r:Row):Prop:=r.name∉done∧∀ o,r.owner=some o→o∈done
noncomputable def Greedy (M:Row→Prop) (ord:List Str):Prop:=∀ (i:Nat) (n:Str),ord[i]? = some n→(∃ r,M r∧r.name=n∧Ready (ord.take i) r)∧∀ r,M r→Ready (ord.take i) r→¬ ltS r.name n
theorem Greedy.nil {M:Row→Prop}:Greedy M []:=fun i n h=>by simp at h
theorem Greedy.snoc {M:Row→Prop}{ord:List Str}{n:Str} (g:Greedy M ord) (h1:∃ r,M r∧r.name=n∧Ready ord r) (h2:∀ r,M r→Ready ord r→¬ ltS r.name n):Greedy M (ord++[n]):=by
 intro i m e;by_cases hi:i < ord.length
 ·have e':ord[i]? = some m:=by rwa [Zo hi] at e
  have t:(ord++[n]).take i=ord.take i:=List.take_append_of_le_length (Zl hi);rw [t];exact g i m e'
 ·have hi2:i=ord.length:=by
   have:=(List.getElem?_eq_some_iff.mp e).1;simp at this;omega
  subst hi2;have:n=m:=by simpa using e
  subst this;have t:(ord++[n]).take ord.length=ord:=by simp
  rw [t];exact ⟨h1,h2⟩
theorem Greedy.nodup {M:Row→Prop}{ord:List Str} (g:Greedy M ord):ord.Nodup:=by
 suffices h:∀ k,(ord.take k).Nodup by
  have:=h ord.length
  rwa [Zm] at this
 intro k
 induction k with
 | zero=>simp
 | succ k ih =>
  cases e:ord[k]? with
  | none=>rw [Zk,e];simpa using ih
  | some n =>
   obtain ⟨⟨r,_,e1,r1⟩,_⟩:=g k n e;rw [Zk,e];refine List.nodup_append.mpr ⟨ih,by simp,fun a ha b hb=>?_⟩;have:b=n:=by simpa using hb
   rw [this];rintro rfl;exact r1.1 (e1 ▸ ha)
theorem Greedy.mem {M:Row→Prop}{ord:List Str} (g:Greedy M ord) {n:Str} (h:n∈ord):∃ r,M r∧r.name=n:=by
 obtain ⟨i,hi,e⟩:=Y1 h;obtain ⟨⟨r,m,e1,_⟩,_⟩:=g i n (by rw [Z1 hi,e]);exact ⟨r,m,e1⟩
theorem zFy {α : Type} [DecidableEq α]:∀ {a b:List α},a.Nodup→(∀ x∈a,x∈b)→a.length≤b.length
 | [],_,_,_=>Zz _
 | x :: r,b,nd,h=>by
  have hx:=h x Z9;obtain ⟨n1,n2⟩:=List.nodup_cons.mp nd;have:=zFy (a:=r) (b:=b.erase x) n2 fun y hy=>(List.mem_erase_of_ne (by rintro rfl;exact n1 hy)).mpr (h y (Z6 _ hy));rw [List.length_erase_of_mem hx] at this;have:=List.length_pos_of_mem hx;simp;omega
theorem Greedy.le {rs:List Row}{ord:List Str} (g:Greedy (·∈rs) ord):ord.length≤rs.length:=by
 have:=zFy (b:=rs.map (·.name)) g.nodup fun n hn=>by
  obtain ⟨r,m,e⟩:=g.mem hn;exact List.mem_map.mpr ⟨r,m,e⟩
 rwa [Z0] at this
theorem progress {rs:List Row} (ok:RowsOk rs) {ord:List Str} (h:ord.length < rs.length):∃ r∈rs,Ready ord r:=by
 have ex:∃ (i:Nat) (r:Row),rs[i]? = some r∧r.name∉ord:=Classical.byContradiction fun hn=>by
  have:=zFy (b:=ord) ok.nd fun n hm=>by
   obtain ⟨r,hr,rfl⟩:=List.mem_map.mp hm;obtain ⟨i,hi,e⟩:=Y1 hr;exact Classical.byContradiction fun k=>hn ⟨i,r,by rw [Z1 hi,e],k⟩
  rw [Z0] at this;omega
 obtain ⟨i,r,hi,hr⟩:=ex;revert r
 induction i using Nat.strongRecOn with
 | _ i ih =>
  intro r hi hr;by_cases c:∀ o,r.owner=some o→o∈ord
  ·exact ⟨r,Z3 hi,hr,c⟩
  ·have:∃ o,r.owner=some o∧o∉ord:=Classical.byContradiction fun k=>c fun o e=>Classical.byContradiction fun m=>k ⟨o,e,m⟩;obtain ⟨o,e,no⟩:=this;obtain ⟨j,r',hj,e1,e2⟩:=ok.own i r o hi e;exact ih j hj r' e1 (by rw [e2];exact no)
theorem Greedy.perm {rs rs':List Row} (p:rs'.Perm rs) {ord:List Str} (g:Greedy (·∈rs') ord):Greedy (·∈rs) ord:=by
 intro i n e;obtain ⟨⟨r,m,h⟩,l⟩:=g i n e;exact ⟨⟨r,p.mem_iff.mp m,h⟩,fun r m=>l r (p.mem_iff.mpr m)⟩
theorem RowsOk.one {rs:List Row} (ok:RowsOk rs) {r r':Row} (h:r∈rs) (h':r'∈rs) (e:r.name=r'.name):r=r':=by
 obtain ⟨i,hi,ei⟩:=Y1 h;obtain ⟨j,hj,ej⟩:=Y1 h';have a:(rs.map (·.name))[i]? = some r.name:=by simp [Z1 hi,ei]
 have b:(rs.map (·.name))[j]? = some r.name:=by simp [Z1 hj,ej,e]
 have:=zGh ok.nd a b;subst this;rw [← ei,← ej]
theorem RowsOk.owner {rs:List Row} (ok:RowsOk rs) {r:Row}{o:Str} (h:r∈rs) (e:r.owner=some o):nameOk o∧o≠r.name∧∃ r'∈rs,r'.name=o:=by
 obtain ⟨i,hi,ei⟩:=Y1 h;have gi:rs[i]? = some r:=by rw [Z1 hi,ei]
 obtain ⟨j,r',hj,e1,rfl⟩:=ok.own i r o gi e;have m:=Z3 e1;refine ⟨(ok.ok r' m).1,fun k=>?_,r',m,rfl⟩;have a:(rs.map (·.name))[i]? = some r.name:=by simp [gi]
 have b:(rs.map (·.name))[j]? = some r.name:=by simp [e1,k]
 have:=zGh ok.nd a b;omega
end L2.W
namespace L2.W
open PySem My
structure KIsi (K:PySem.W.Frag) (C:Addr):Prop where
 ha:PySem.W.findIn K (.ref C) "__class__" = some (some (.builtin "object.__class__"))
 hn:PySem.W.specialIn K (.builtin "object.__class__") "__get__" = some (some (.builtin "getset_descriptor.__get__"))
 htk:PySem.W.takesIn K (.builtin "object.__class__")=some true
 hm:PySem.W.mroIn K C (.type "object")=some true
 one:PySem.W.kitOne K (.ref C) (.ref C)=some true
noncomputable def ownV:Option Str→V
 | none=>.non
 | some o=>.str o
noncomputable def KindO (C:Addr) (H:Hp) (p:Addr) (r:Row):Prop:=∃ dx l,H p=some (.ins C dx (kflds (.str r.name) (.ref l) (ownV r.owner)))
noncomputable abbrev KL (C:Addr) (H:Hp):List Addr→List Row→Prop:=Paired fun p r=>KindO C H p r
theorem zBk {α β : Type}{R : α→β→Prop}:∀ {l:List α}{m:List β}{i:Nat}{a : α},Paired R l m→l[i]? = some a→∃ b,m[i]? = some b∧R a b
 | _,_,_,_,.nil,e=>by simp at e
 | _,_,0,a,.cons r _,e=>by
  simp at e;subst e;exact ⟨_,rfl,r⟩
 | _,_,i + 1,a,.cons _ t,e=>by
  obtain ⟨b,h1,h2⟩:=zBk (i:=i) (a:=a) t (by simpa using e);exact ⟨b,by simpa using h1,h2⟩
theorem KindO.mono {C:Addr}{H H':Hp}{p:Addr}{r:Row} (h:KindO C H p r) (k:∀ b o,H b=some o→(∃ C dx fs,o=.ins C dx fs)→H' b=some o):KindO C H' p r:=by
 obtain ⟨dx,l,e⟩:=h;exact ⟨dx,l,k _ _ e ⟨_,_,_,rfl⟩⟩
noncomputable def RowsP (rs:List Row):Prop:=∃ rs0,RowsOk rs0∧rs.Perm rs0
theorem RowsP.nd {rs:List Row} (h:RowsP rs):(rs.map (·.name)).Nodup:=by
 obtain ⟨r0,ok,p⟩:=h;exact (p.map _).nodup_iff.mpr ok.nd
theorem RowsP.le {rs:List Row} (h:RowsP rs):0 < rs.length∧rs.length≤5:=by
 obtain ⟨r0,ok,p⟩:=h;have:=p.length_eq;have:=ok.ne;have:=ok.le;omega
theorem RowsP.ok {rs:List Row} (h:RowsP rs):∀ r∈rs,nameOk r.name∧FieldsOk r.fields:=by
 obtain ⟨r0,ok,p⟩:=h;exact fun r hr=>ok.ok r (p.mem_iff.mp hr)
theorem RowsP.progress {rs:List Row} (h:RowsP rs) {ord:List Str} (hl:ord.length < rs.length):∃ r∈rs,Ready ord r:=by
 obtain ⟨r0,ok,p⟩:=h;obtain ⟨r,hr,q⟩:=L2.W.progress ok (ord:=ord) (by rw [← p.length_eq];exact hl);exact ⟨r,p.mem_iff.mpr hr,q⟩
noncomputable def spAreKinds (C:Addr):Sp:=fun vs H Q _=>∃ (l:Addr) (ps:List Addr) (rs:List Row),vs=[.ref l]∧H l=some (.lst (ps.map V.ref))∧KL C H ps rs∧RowsP rs∧∀ H',Same H H'→Q (.bl true) H'
section
variable {P:Program}{w:World}{K:PySem.W.Frag}{mg:Str→Option Value}{base:Heap}{CX:CXT}
theorem scAk:FnScope ["things"] ["things"] (defScope sAreKinds):=⟨rfl,rfl,rfl,by decide +kernel,rfl,by decide +kernel,by decide +kernel⟩
theorem ok_areKinds {f fu fn C fI:Addr}{fd fdu fdn:FuncData} (hC:Calm CX) (T:Tops K mg) (KC:KCls K mg C fI) (KI:KIsi K C) (F:Fun K "are_kinds" "are_kinds" sAreKinds f fd) (DN:Def K mg "is_name" sIsName ["thing"] fn fdn)
  (DU:Def K mg "are_unlike_names" sUnlike ["things"] fu fdu):FnOk P w K mg base CX 3 f fd ["things"] (spAreKinds C):=by
 have GU:FnOk P w K mg base CX 2 fu fdu ["things"] spUnlike:=zEo hC T DU.fn DN;refine Fun.okC F scAk (fun vs H Q E h=>?_) (fun cdv A outer s H vs Q E hr h=>?_)
 ·obtain ⟨l,ps,rs,rfl,_⟩:=h;rfl
 ·obtain ⟨l,ps,rs,rfl,hl,hk,rp,k⟩:=h
  refine ⟨_,zA3 (zAw (PW.pt (zF7 (zB0 (zB2 (zA9 zAy rfl T.isinst PyProof.Rows.boot_isinstance (zA0 (pv 0) (zA0 (zBq (v:=.ty "list") rfl T.list PyProof.Rows.boot_list rfl) zA2)))))
    (zCw (zAp op_eq (zA9 zAi rfl T.len PySem.boot_len (zA0 (pv 0) zA2)) zA4 (nomark _))))) (zA6 (zAj zBj)) zAg)
   (zA3 (zAw (zB0 (zB2 (zA9 (zBl rfl) rfl T.all PyProof.Rows.boot_all (zA0 (zAu (T:=["thing"]) rfl ScOk.auto (zAn (pv 0)) (fun _ _ _ _=>zAc (i:=1) (by decide +kernel:(["things", "thing"]:List Str).Nodup) rfl (Or.inl rfl)) (fun _ _ _ _=>zB6)
    (fun _ _ _ _=>zA9 (call_isinstK (K:=K) rfl) rfl T.isinst PyProof.Rows.boot_isinstance (zA0 (pv 1) (zA0 (zBb (v:=.ref C) rfl KC.mgC rfl) zA2)))) zA2)))) (zA6 (zAj zBj)) zAg)
   (zA6 (zAj (zA7 GU hr rfl DU.at_ DU.fn.kp DU.bind .nil (passC hC) (zA0 (zAu (T:=["kind"]) rfl ScOk.auto (zAn (pv 0)) (fun _ _ _ _=>zAc (i:=1) (by decide +kernel:(["things", "kind"]:List Str).Nodup) rfl (Or.inl rfl)) (fun _ _ _ _=>zB6)
    (fun _ _ _ _=>zD1 (K:=K) rfl (pv 1) rfl)) zA2))))),?_⟩
  have len:ps.length=rs.length:=Paired.length hk;obtain ⟨l0,l5⟩:=rp.le;have small:∀ n:Nat,n≤1000→n≤sizeLine:=fun n h=>Zl (small1000 h);refine ⟨_,rfl,_,_,_,_,_,rfl,.lst hl,rfl,rfl,_,rfl,iteF ?_⟩;refine ⟨_,rfl,l,_,rfl,.inl (SqL.of hl),rfl,_,rfl,?_⟩;rw [decide_eq_false (show ¬ V.int ((ps.map V.ref).length:Int)=V.int 0 by intro z0;injection z0 with z0;rw [Z0] at z0;omega)];refine iteF ?_;refine ⟨_,rfl,l,rfl,⟨_,SqL.of hl⟩,zAl (xs:=ps.map V.ref) (fun i ys H'=>H=H'∧ys=(List.replicate i true).map V.bl) ⟨rfl,rfl⟩ (fun i ys H' p=>by rw [← p.1];exact SqL.of hl) (fun i ys H' hi p=>?_) ?_ ?_⟩
  ·rw [p.2,Z0,Y6];rw [Z0] at hi;exact small _ (by omega)
  ·rintro i x ys H' hi ⟨rfl,rfl⟩ N hN;rw [Za] at hi;cases ep:ps[i]? with
   | none=>rw [ep] at hi;cases hi
   | some p =>
    rw [ep] at hi;cases hi;obtain ⟨r,er,dx,lf,e⟩:=zBk hk ep;refine pick ?_;refine ⟨_,rfl,_,_,_,_,_,rfl,.ins e KC.cl KI.ha KI.hn KI.htk KI.hm,rfl,KI.one,hN _ _ ⟨rfl,?_⟩⟩;rw [List.replicate_succ',Zh];rfl
  ·rintro ys H' ⟨rfl,rfl⟩ q hq;rw [Z0];have s1:Same H (upd H q (.lst ((List.replicate ps.length true).map V.bl))):=Same.new hq;refine ⟨q,List.replicate ps.length true,rfl,SqL.of zA1,_,rfl,?_⟩;have ea:(List.replicate ps.length true).all id=true:=by simp
   rw [ea];refine iteF ?_;generalize upd H q (.lst ((List.replicate ps.length true).map V.bl))=H2 at s1 ⊢;refine ⟨_,rfl,l,rfl,⟨_,SqL.of (s1 _ _ hl)⟩,zAl (xs:=ps.map V.ref) (fun i ys H'=>H2=H'∧ys=((rs.take i).map (·.name)).map V.str) ⟨rfl,rfl⟩ (fun i ys H' p=>by rw [← p.1];exact SqL.of (s1 _ _ hl)) (fun i ys H' hi p=>?_) ?_ ?_⟩
   ·rw [p.2,Z0,Z0];have:(rs.take i).length≤rs.length:=by rw [Zt];omega
    exact small _ (by omega)
   ·rintro i x ys H' hi ⟨rfl,rfl⟩ N hN;rw [Za] at hi;cases ep:ps[i]? with
    | none=>rw [ep] at hi;cases hi
    | some p =>
     rw [ep] at hi;cases hi;obtain ⟨r,er,dx,lf,e⟩:=zBk hk ep;refine pick ?_;refine ⟨_,rfl,p,C,dx,_,_,rfl,s1 _ _ e,KC.cl,KC.nN,zGj _ _ _,hN _ _ ⟨rfl,?_⟩⟩;rw [Zk,er,Zh,Zh];rfl
   ·rintro ys H' ⟨rfl,rfl⟩ q2 hq2;rw [Z0,len,Zm];refine ⟨_,(rs.map (·.name)).map PyData.str,rfl,.lst trivial zA1 (by rw [Z0,Z0];omega) (zDf fun x hx=>?_),fun H4 s4=>?_⟩
    ·obtain ⟨r,hr,rfl⟩:=List.mem_map.mp hx;exact (rp.ok r hr).1
    ·rw [zEd (fun x hx=>?_) rp.nd]
     ·exact k _ (s1.trans ((Same.new hq2).trans s4))
     ·obtain ⟨r,hr,rfl⟩:=List.mem_map.mp hx;exact (rp.ok r hr).1.1
end
end L2.W
namespace L2.W
open PySem My
noncomputable def lamPos:Pos:=⟨65,31,65,53⟩
noncomputable def lamQ:Str:=(("placed_by_owners" : Str)++".<locals>.")++"<lambda>"
noncomputable def readyB (done:List Str) (r:Row):Bool:=decide (r.name∉done) && (match r.owner with | none=>true | some o=>decide (o∈done))
theorem readyB_iff {done:List Str}{r:Row}:readyB done r=true ↔ Ready done r:=by
 unfold readyB Ready;cases r.owner with
 | none=>simp
 | some o=>simp
noncomputable abbrev Placed (zs:List (Addr×Row)):List Str→List (Key×V)→Prop:=Paired fun n kv=>∃ q∈zs,kv=(Sum.inr n,V.ref q.1)∧q.2.name=n
theorem Placed.val {zs:List (Addr×Row)}:∀ {ord:List Str}{kvs:List (Key×V)},Placed zs ord kvs→∀ n:Str,(valV kvs (Sum.inr n)).isSome=decide (n∈ord)
 | _,_,.nil,n=>by simp [valV]
 | m :: ord,kv :: kvs,.cons r t,n=>by
  obtain ⟨q,_,rfl,e⟩:=r;by_cases c:m=n
  ·rw [zCr (by rw [c])];simp [c]
  ·rw [zCs (by intro z;exact c (Sum.inr.inj z)),Placed.val t n];simp [Ne.symm c]
theorem Placed.get {zs:List (Addr×Row)}:∀ {ord:List Str}{kvs:List (Key×V)},Placed zs ord kvs→∀ n:Str,n∈ord→∃ q∈zs,valV kvs (Sum.inr n)=some (V.ref q.1)∧q.2.name=n
 | _,_,.nil,n,h=>by cases h
 | m :: ord,kv :: kvs,.cons r t,n,h=>by
  obtain ⟨q,hq,rfl,e⟩:=r;by_cases c:m=n
  ·exact ⟨q,hq,zCr (by rw [c]),e.trans c⟩
  ·rcases List.mem_cons.mp h with h | h
   ·exact absurd h.symm c
   ·obtain ⟨q',h1,h2,h3⟩:=Placed.get t n h;exact ⟨q',h1,by rw [zCs (by intro z;exact c (Sum.inr.inj z))];exact h2,h3⟩
theorem zD4 {α β : Type}{R : α→β→Prop}:∀ {l:List α}{m:List β}{a : α}{b : β},Paired R l m→R a b→Paired R (l++[a]) (m++[b])
 | _,_,_,_,.nil,r=>.cons r .nil
 | _,_,_,_,.cons r t,q=>.cons r (zD4 t q)
theorem putK_new {kvs:List (Key×V)}{k:Key}{v:V} (h:(valV kvs k).isSome=false):putK kvs k v=kvs++[(k,v)]:=by
 unfold putK;rw [zFw,h];rfl
structure Zs (C:Addr) (H:Hp) (zs:List (Addr×Row)):Prop where
 at_:∀ q∈zs,KindO C H q.1 q.2
 nd:(zs.map fun q=>q.2.name).Nodup
 le:zs.length≤50
theorem Zs.mono {C:Addr}{H H':Hp}{zs:List (Addr×Row)} (z:Zs C H zs) (k:∀ b o,H b=some o→(∃ C dx fs,o=.ins C dx fs)→H' b=some o):Zs C H' zs:=⟨fun q hq=>(z.at_ q hq).mono k,z.nd,z.le⟩
noncomputable def spPlaced (C Pt:Addr):Sp:=fun vs H Q _=>∃ (l:Addr) (zs:List (Addr×Row)),vs=[.ref l]∧H l=some (.lst (zs.map fun q=>V.ref q.1))∧Zs C H zs∧TabOk H Pt lamPos lamQ ∧
 ∀ (d:Addr) (ord:List Str) (kvs:List (Key×V)) (H':Hp),H d=none→H' d=some (.dK kvs)→Placed zs ord kvs→Greedy (·∈zs.map (·.2)) ord→(∀ r∈zs.map (·.2),¬ Ready ord r)→TabOk H' Pt lamPos lamQ→GrownBut Pt H H'→Q (.ref d) H'
theorem _root_.L2.GrownBut.trans {P:Addr}{a b c:Hp} (x:GrownBut P a b) (y:GrownBut P b c):GrownBut P a c:=fun p o e n=>y p o (x p o e n) n
theorem _root_.L2.GrownBut.same {P:Addr}{a b:Hp} (x:Same a b):GrownBut P a b:=fun p o e _=>x p o e
theorem _root_.L2.TabOk.same {H H':Hp}{P:Addr}{pos:Pos}{q:Str} (T:TabOk H P pos q) (k:Same H H'):TabOk H' P pos q:=T.stay k
theorem _root_.L2.TabOk.upd {H:Hp}{P:Addr}{pos:Pos}{q:Str}{p:Addr}{u o:HO} (T:TabOk H P pos q) (hp:H p=some u) (h1:∀ ps,u≠.tbl ps) (h2:∀ f,u≠.ext f):TabOk (upd H p o) P pos q :=
 T.but hp h1 h2 fun b x e nb=>by rw [zAa nb];exact e
theorem zCb {zs:List (Addr×Row)}{i:Nat}{q:Addr×Row} (p:Addr×Row→Bool) (h:zs[i]? = some q):(zs.take (i + 1)).filter p=if p q=true then (zs.take i).filter p++[q] else (zs.take i).filter p:=by
 rw [Zk,h,Ym];cases e:p q <;> simp [e]
section
variable {P:Program}{w:World}{K:PySem.W.Frag}{mg:Str→Option Value}{base:Heap}{CX:CXT}
theorem scPl:FnScope ["kinds", "placed", "ready", "first"] ["kinds"] (defScope sPlaced):=⟨rfl,rfl,rfl,by decide +kernel,rfl,by decide +kernel,by decide +kernel⟩
theorem ok_placed {f C fI c Pt:Addr}{fd:FuncData} (hC:Calm CX) (T:Tops K mg) (KC:KCls K mg C fI) (LT:LamTxt K mg base c Pt) (F:FunL K "placed_by_owners" "placed_by_owners" sPlaced f fd c):FnOk P w K mg base CX 4 f fd ["kinds"] (spPlaced C Pt):=by
 refine FunL.okC F scPl (fun vs H Q E h=>?_) (fun A outer s H vs Q E hr h=>?_)
 ·obtain ⟨l,zs,rfl,_⟩:=h;rfl
 ·obtain ⟨l,zs,rfl,hl,hz,hT,k⟩:=h;have nd:=scPl.nd;have hr2:=hr.mono (show 2≤3 by decide);have hu:=hu_of hr
  refine ⟨_,zA3 (zAb (i:=1) nd rfl (Or.inr rfl) zG7)
   (zA3 (zBu (T:=["kind"]) (i:=2) rfl ScOk.auto (zAn (pv 0)) (fun _ _ _ _=>zAc (i:=4) (by decide +kernel:(["kinds", "placed", "ready", "first", "kind"]:List Str).Nodup) rfl (Or.inl rfl))
    (fun _ _ _ _=>pf_one (zBz (zFk (zD1 (K:=K) rfl (pv 4) rfl)))) (fun _ _ _ _=>pv 4) nd rfl rfl rfl)
   (zA3 (zE3 PassesOwn.never (zG2 (pv 2) (fun _=>rfl))
    (zA3 (zAb (i:=3) nd rfl (Or.inl rfl) (zEj LT rfl hr2 rfl rfl T.min (zA0 (pv 2) zA2) (by exact ⟨rfl,rfl,rfl,by decide +kernel,rfl⟩)))
    (zA3 (ps_dput hu (pv 1) (zCx (pv 3) rfl) (pv 3) rfl)
    (zA6 (zBu (T:=["kind"]) (i:=2) rfl ScOk.auto (zAn (pv 0)) (fun _ _ _ _=>zAc (i:=4) (by decide +kernel:(["kinds", "placed", "ready", "first", "kind"]:List Str).Nodup) rfl (Or.inl rfl))
     (fun _ _ _ _=>pf_one (PW.pt (zEf (zBz (zCj hu (zD1 (K:=K) rfl (pv 4) rfl) (pv 1))) (zD0 (PW.pt (zF7 (zBz (zFk (zD1 (K:=K) rfl (pv 4) rfl))) (zCw (zBz (pc_din hu (zD1 (K:=K) rfl (pv 4) rfl) (pv 1)))))))))) (fun _ _ _ _=>pv 4) nd rfl rfl rfl)))))
   (zA6 (zAj (pv 1))))),?_⟩
  have small:∀ n:Nat,n≤1000→n≤sizeLine:=fun n h=>Zl (small1000 h);have flen:∀ (p:Addr×Row→Bool) (i:Nat),((zs.take i).filter p).length≤50:=fun p i=>by
   have h1:=List.length_filter_le p (zs.take i);have h2:(zs.take i).length≤zs.length:=by rw [Zt];omega
   have:=hz.le;omega
  intro d hd;have g0:Same H (upd H d (.dK [])):=Same.new hd;have e0:(upd H d (.dK [])) d=some (.dK []):=zA1;generalize upd H d (.dK [])=H0 at g0 e0 ⊢;refine ⟨_,rfl,l,rfl,⟨_,SqL.of (g0 _ _ hl)⟩,zAl (xs:=zs.map fun q=>V.ref q.1) (fun i ys H'=>H0=H'∧ys=((zs.take i).filter (fun q=>readyB [] q.2)).map fun q=>V.ref q.1) ⟨rfl,rfl⟩ (fun i ys H' p=>by rw [← p.1];exact SqL.of (g0 _ _ hl)) (fun i ys H' hi p=>?_) ?_ ?_⟩
  ·rw [p.2,Z0];exact small _ (Zd (flen _ i) (by decide))
  ·rintro i x ys H' hi ⟨rfl,rfl⟩ N hN;rw [Za] at hi;cases ep:zs[i]? with
   | none=>rw [ep] at hi;cases hi
   | some q =>
    rw [ep] at hi;cases hi;obtain ⟨dx,lf,e⟩:=hz.at_ q (Z3 ep);refine ⟨_,rfl,q.1,C,dx,_,_,rfl,g0 _ _ e,KC.cl,KC.nO,zBs _ _ _,_,rfl,?_⟩;cases eo:q.2.owner with
    | none =>
     refine iteT ⟨_,rfl,hN _ _ ⟨rfl,?_⟩⟩;rw [zCb _ ep,if_pos (by simp [readyB,eo]),Zh];rfl
    | some o =>
     refine iteF (hN _ _ ⟨rfl,?_⟩);rw [zCb _ ep,if_neg (by simp [readyB,eo])]
  ·rintro ys H' ⟨rfl,rfl⟩ lr hlr;rw [Z0,Zm];have g1:Same H (upd H0 lr (.lst ((zs.filter fun q=>readyB [] q.2).map fun q=>V.ref q.1))):=g0.trans (Same.new hlr);have e1:=(Same.new (o:=.lst ((zs.filter fun q=>readyB [] q.2).map fun q=>V.ref q.1)) hlr) _ _ e0
   refine ⟨fun m σ H2=>∃ ord kvs lr x,m=zs.length - ord.length∧σ = [some (.ref l),some (.ref d),some (.ref lr),x]∧H2 d=some (.dK kvs)∧Placed zs ord kvs∧Greedy (·∈zs.map (·.2)) ord ∧
    H2 lr=some (.lst ((zs.filter fun q=>readyB ord q.2).map fun q=>V.ref q.1))∧TabOk H2 Pt lamPos lamQ∧GrownBut Pt H H2,⟨_,[],[],lr,none,rfl,rfl,e1,.nil,.nil,zA1,hT.same g1,.same g1⟩,?_⟩
   clear g1 e1 hlr e0 g0;rintro m σ H2 ⟨ord,kvs,lr,x,rfl,rfl,hd2,hpl,hgr,hlr,hT2,hG⟩;have hk2:∀ q∈zs,∃ dx lf,H2 q.1=some (.ins C dx (kflds (.str q.2.name) (.ref lf) (ownV q.2.owner))):=fun q hq=>by
    obtain ⟨dx,lf,e⟩:=hz.at_ q hq;exact ⟨dx,lf,hG _ _ e (hT.ne e fun _ z=>nomatch z)⟩
   refine ⟨_,rfl,_,.inl ⟨_,SqL.of hlr,rfl⟩,?_⟩;generalize ets:(zs.filter fun q=>readyB ord q.2)=ts at hlr ⊢;have mts:∀ q,q∈ts ↔ q∈zs∧Ready ord q.2:=fun q=>by rw [← ets,List.mem_filter,readyB_iff]
   by_cases c:ts=[]
   ·subst c;refine iteF ⟨_,rfl,k d ord kvs H2 hd hd2 hpl hgr (fun r hr z=>?_) hT2 hG⟩;obtain ⟨q,hq,rfl⟩:=List.mem_map.mp hr;have:=(mts q).mpr ⟨hq,z⟩;cases this
   ·have pos:0 < ts.length:=List.length_pos_iff.mpr c;rw [show (!(ts.map fun q=>V.ref q.1).isEmpty)=true by cases ts with | nil=>exact absurd rfl c | cons _ _=>rfl];refine iteT ?_
    refine ⟨fun σ' H'=>∃ m',m' < zs.length - ord.length∧∃ ord kvs lr x,m'=zs.length - ord.length∧σ'=[some (.ref l),some (.ref d),some (.ref lr),x]∧H' d=some (.dK kvs)∧Placed zs ord kvs∧Greedy (·∈zs.map (·.2)) ord ∧
     H' lr=some (.lst ((zs.filter fun q=>readyB ord q.2).map fun q=>V.ref q.1))∧TabOk H' Pt lamPos lamQ∧GrownBut Pt H H',fun _ _ h=>h,?_⟩
    refine ⟨_,rfl,lr,_,ts.map (·.2.name),rfl,SqL.of hlr,(by rw [Z0];exact pos),hT2,(by rw [Z0,Z0]),fun i v kx hi hk=>?_,fun i v kx H3 hi hk hbest hT3 hG3=>?_⟩
    ·rw [Za] at hi hk;cases ep:ts[i]? with
     | none=>rw [ep] at hi;cases hi
     | some q =>
      rw [ep] at hi hk;cases hi;cases hk;obtain ⟨dx,lf,e⟩:=hk2 q ((mts q).mp (Z3 ep)).1;exact ⟨q.1,C,dx,_,rfl,e,KC.cl,KC.nN,zGj _ _ _⟩
    ·rw [Za] at hi hk;cases ep:ts[i]? with
     | none=>rw [ep] at hi;cases hi
     | some q =>
      rw [ep] at hi hk;cases hi;cases hk;obtain ⟨hq,hrd⟩:=(mts q).mp (Z3 ep);have hG3':=hG.trans hG3;have hk3:∀ q∈zs,∃ dx lf,H3 q.1=some (.ins C dx (kflds (.str q.2.name) (.ref lf) (ownV q.2.owner))):=fun q hq=>by
       obtain ⟨dx,lf,e⟩:=hz.at_ q hq;exact ⟨dx,lf,hG3' _ _ e (hT.ne e fun _ z=>nomatch z)⟩
      obtain ⟨dx,lf,e⟩:=hk3 q hq;have hd3:H3 d=some (.dK kvs):=hG3 _ _ hd2 (hT2.ne hd2 fun _ z=>nomatch z);have kl:kvs.length=ord.length:=(Paired.length hpl).symm;have ol:ord.length≤zs.length:=by have:=hgr.le;rwa [Z0] at this
      refine ⟨_,rfl,_,rfl,_,rfl,q.1,C,dx,_,_,rfl,e,KC.cl,KC.nN,zGj _ _ _,d,_,rfl,DPut.k (k:=Sum.inr q.2.name) hd3 (Nat.lt_of_le_of_lt (Zd (Nat.le_of_eq kl) (Zd ol hz.le)) (small1000 (by decide))),?_⟩;have vn:(valV kvs (Sum.inr q.2.name)).isSome=false:=by rw [hpl.val];simpa using hrd.1
      rw [putK_new vn];have hpl':Placed zs (ord++[q.2.name]) (kvs++[(Sum.inr q.2.name,V.ref q.1)]):=zD4 hpl ⟨q,hq,rfl,rfl⟩;have hgr':Greedy (·∈zs.map (·.2)) (ord++[q.2.name]):=hgr.snoc ⟨q.2,List.mem_map.mpr ⟨q,hq,rfl⟩,rfl,hrd⟩ fun r hr hrr=>by
       obtain ⟨q',hq',rfl⟩:=List.mem_map.mp hr;exact hbest _ (List.mem_map.mpr ⟨q',(mts q').mpr ⟨hq',hrr⟩,rfl⟩)
      have ol':(ord++[q.2.name]).length≤zs.length:=by have:=hgr'.le;rwa [Z0] at this
      have lt:zs.length - (ord++[q.2.name]).length < zs.length - ord.length:=by
       rw [Z4] at ol' ⊢;simp at ol' ⊢;omega
      generalize ord++[q.2.name]=ord' at hpl' hgr' lt;have hd4:(upd H3 d (.dK (kvs++[(Sum.inr q.2.name,V.ref q.1)]))) d=some (.dK (kvs++[(Sum.inr q.2.name,V.ref q.1)])):=zA1;have hT4:TabOk (upd H3 d (.dK (kvs++[(Sum.inr q.2.name,V.ref q.1)]))) Pt lamPos lamQ:=hT3.upd hd3 (fun _ z=>nomatch z) (fun _ z=>nomatch z);have hG4:GrownBut Pt H (upd H3 d (.dK (kvs++[(Sum.inr q.2.name,V.ref q.1)]))):=fun b o e n=>by
       rw [zAa (zA5 e hd)];exact hG3' b o e n
      generalize upd H3 d (.dK (kvs++[(Sum.inr q.2.name,V.ref q.1)]))=H4 at hd4 hT4 hG4 ⊢;generalize kvs++[(Sum.inr q.2.name,V.ref q.1)]=kvs' at hd4 hpl';clear hk2 hk3;have hk4:∀ q∈zs,∃ dx lf,H4 q.1=some (.ins C dx (kflds (.str q.2.name) (.ref lf) (ownV q.2.owner))):=fun q hq=>by
       obtain ⟨dx,lf,e⟩:=hz.at_ q hq;exact ⟨dx,lf,hG4 _ _ e (hT.ne e fun _ z=>nomatch z)⟩
      have hl4:=hG4 _ _ hl (hT.ne hl fun _ z=>nomatch z);refine ⟨_,rfl,l,rfl,⟨_,SqL.of hl4⟩,zAl (xs:=zs.map fun q=>V.ref q.1) (fun i ys H'=>H4=H'∧ys=((zs.take i).filter (fun q=>readyB ord' q.2)).map fun q=>V.ref q.1) ⟨rfl,rfl⟩ (fun i ys H' p=>by rw [← p.1];exact SqL.of hl4) (fun i ys H' hi p=>?_) ?_ ?_⟩
      ·rw [p.2,Z0];exact small _ (Zd (flen _ i) (by decide))
      ·rintro i x ys H' hi ⟨rfl,rfl⟩ N hN;rw [Za] at hi;cases ep:zs[i]? with
       | none=>rw [ep] at hi;cases hi
       | some q =>
        rw [ep] at hi;cases hi;obtain ⟨dx,lf,e⟩:=hk4 q (Z3 ep);have no:readyB ord' q.2=false→((zs.take i).filter (fun q=>readyB ord' q.2)).map (fun q=>V.ref q.1)=((zs.take (i + 1)).filter (fun q=>readyB ord' q.2)).map fun q=>V.ref q.1:=fun z=>by rw [zCb _ ep,if_neg (by rw [z];simp)]
        have ye:readyB ord' q.2=true→((zs.take i).filter (fun q=>readyB ord' q.2)).map (fun q=>V.ref q.1)++[V.ref q.1]=((zs.take (i + 1)).filter (fun q=>readyB ord' q.2)).map fun q=>V.ref q.1:=fun z=>by rw [zCb _ ep,if_pos z,Zh];rfl
        refine ⟨_,rfl,q.1,C,dx,_,_,rfl,e,KC.cl,KC.nN,zGj _ _ _,_,rfl,d,_,rfl,DGet.k (k:=Sum.inr q.2.name) hd4,_,rfl,?_⟩;rw [hpl'.val];by_cases c1:q.2.name∈ord'
        ·rw [decide_eq_true c1];refine iteF (iteF (hN _ _ ⟨rfl,no ?_⟩));simp [readyB,c1]
        ·rw [decide_eq_false c1];refine iteT ⟨_,rfl,q.1,C,dx,_,_,rfl,e,KC.cl,KC.nO,zBs _ _ _,_,rfl,?_⟩;cases eo:q.2.owner with
         | none =>
          refine iteT (iteT ⟨_,rfl,hN _ _ ⟨rfl,ye ?_⟩⟩);simp [readyB,c1,eo]
         | some o =>
          have ev:(kflds (.str q.2.name) (.ref lf) (ownV q.2.owner)).lookup ("owner" : Str)=some (.str o):=by rw [zBs,eo];rfl
          refine iteF ⟨_,rfl,q.1,C,dx,_,_,rfl,e,KC.cl,KC.nO,ev,_,rfl,d,_,rfl,DGet.k (k:=Sum.inr o) hd4,_,rfl,?_⟩;rw [hpl'.val];by_cases c2:o∈ord'
          ·rw [decide_eq_true c2];refine iteT ⟨_,rfl,hN _ _ ⟨rfl,ye ?_⟩⟩;simp [readyB,c1,eo,c2]
          ·rw [decide_eq_false c2];refine iteF (hN _ _ ⟨rfl,no ?_⟩);simp [readyB,c1,eo,c2]
      ·rintro ys H' ⟨rfl,rfl⟩ lr' hlr';rw [Z0,Zm];exact ⟨_,lt,ord',kvs',lr',_,rfl,rfl,(Same.new hlr') _ _ hd4,hpl',hgr',zA1,hT4.same (Same.new hlr'),hG4.trans (.same (Same.new hlr'))⟩
end
end L2.W
namespace L2.W
open PySem My
theorem call_len_dict {X:Cx}:CallR X (.builtin "len") (fun vs H Q=>∃ d kvs,vs=[.ref d]∧Rd H d (.dK kvs)∧Q (.int (kvs.length:Nat)) H):=by
 intro pins s σ H vs us Q I rv h;obtain ⟨d,kvs,rfl,rd,q⟩:=h;obtain ⟨u,rfl,ru⟩:=v1 rv;cases (show u=Value.ref d from ru);exact d_len I rd fun t s' I'=>⟨.int _,H,I',⟨t,rfl⟩,q⟩
structure KsCls (K:PySem.W.Frag) (mg:Str→Option Value) (CK fI fOr fOf fOw:Addr):Prop where
 cl:Cls K CK
 nB:NoAttr K CK "by_name"
 mgC:mg "Kinds" = some (.ref CK)
 mkd:Mk K CK fI
 mOf:Meth K CK "of" fOf
noncomputable def ksF (d:V):List (Str×V):=putF "by_name" d []
theorem ks_by (d:V):(ksF d).lookup ("by_name" : Str)=some d:=by
 unfold ksF;rw [zB7,if_pos rfl]
theorem ks_no {m:Str} (d:V) (h:¬ m = "by_name"):(ksF d).lookup m=none:=by
 unfold ksF;rw [zB7,if_neg h];rfl
noncomputable def KindsAt (CK:Addr) (H:Hp) (p d:Addr) (kvs:List (Key×V)):Prop:=(∃ dx,H p=some (.ins CK dx (ksF (.ref d))))∧Rd H d (.dK kvs)
theorem KindsAt.mono {CK:Addr}{H H':Hp}{p d:Addr}{kvs:List (Key×V)} (h:KindsAt CK H p d kvs) (k:∀ b o,H b=some o→(∃ C dx fs,o=.ins C dx fs)∨(∃ kvs,o=.dK kvs)∨(∃ x u,o=.frz x u)→H' b=some o):KindsAt CK H' p d kvs:=by
 obtain ⟨⟨dx,e⟩,r⟩:=h;refine ⟨⟨dx,k _ _ e (.inl ⟨_,_,_,rfl⟩)⟩,?_⟩;rcases r with r | ⟨o,r⟩
 ·exact .inl (k _ _ r (.inr (.inl ⟨_,rfl⟩)))
 ·exact .inr ⟨o,k _ _ r (.inr (.inr ⟨_,_,rfl⟩))⟩
noncomputable def spInitKs (CK C Pt:Addr):Sp:=fun vs H Q _=>∃ (p dx l:Addr) (zs:List (Addr×Row)),vs=[.ref p,.ref l]∧H p=some (.ins CK dx [])∧H l=some (.lst (zs.map fun q=>V.ref q.1))∧Zs C H zs∧RowsP (zs.map (·.2))∧TabOk H Pt lamPos lamQ ∧
 ∀ (d:Addr) (ord:List Str) (kvs:List (Key×V)) (H':Hp),H' p=some (.ins CK dx (ksF (.ref d)))→H d=none→H' d=some (.dK kvs)→Placed zs ord kvs→Greedy (·∈zs.map (·.2)) ord→ord.length=zs.length→TabOk H' Pt lamPos lamQ →
  (∀ b o,H b=some o→b≠p→b≠Pt→H' b=some o)→Q .non H'
noncomputable def spOf (CK:Addr):Sp:=fun vs H Q _=>∃ (p d:Addr) (kvs:List (Key×V)) (n:Str) (v:V),vs=[.ref p,.str n]∧nameOk n∧KindsAt CK H p d kvs∧valV kvs (Sum.inr n)=some v∧∀ H',Same H H'→Q v H'
section
variable {P:Program}{w:World}{K:PySem.W.Frag}{mg:Str→Option Value}{base:Heap}{CX:CXT}
theorem scKs:FnScope ["self", "kinds", "placed"] ["self", "kinds"] (defScope sInitKs):=⟨rfl,rfl,rfl,by decide +kernel,rfl,by decide +kernel,by decide +kernel⟩
theorem ok_initKs {f fI fa fp fu fn C CK fIk fOr fOf fOw c Pt:Addr}{fd fda fdp fdu fdn:FuncData} (hC:Calm CX) (T:Tops K mg) (KC:KCls K mg C fI) (KI:KIsi K C) (KS:KsCls K mg CK fIk fOr fOf fOw) (LT:LamTxt K mg base c Pt) (F:Fun K "__init__" "Kinds.__init__" sInitKs f fd)
  (DN:Def K mg "is_name" sIsName ["thing"] fn fdn) (DU:Def K mg "are_unlike_names" sUnlike ["things"] fu fdu) (DA:Def K mg "are_kinds" sAreKinds ["things"] fa fda) (DP:FunL K "placed_by_owners" "placed_by_owners" sPlaced fp fdp c) (DPa:mg "placed_by_owners" = some (.ref fp)) (DPb:Binds K fdp ["kinds"] []) :
  FnOk P w K mg base CX 5 f fd ["self", "kinds"] (spInitKs CK C Pt):=by
 have GA:FnOk P w K mg base CX 3 fa fda ["things"] (spAreKinds C):=ok_areKinds hC T KC KI DA.fn DN DU;have GP:FnOk P w K mg base CX 4 fp fdp ["kinds"] (spPlaced C Pt):=ok_placed hC T KC LT DP;refine Fun.okC F scKs (fun vs H Q E h=>?_) (fun cdv A outer s H vs Q E hr h=>?_)
 ·obtain ⟨p,dx,l,zs,rfl,_⟩:=h;rfl
 ·obtain ⟨p,dx,l,zs,rfl,hp,hl,hz,rp,hT,k⟩:=h;have nd:=scKs.nd;have hr3:=hr.mono (show 3≤4 by decide)
  refine ⟨_,zA3 (zAw (zB0 (zB2 (zA7 GA hr3 rfl DA.at_ DA.fn.kp DA.bind .nil (passC hC) (zA0 (pv 1) zA2)))) zAq zAg)
   (zA3 (zAb (i:=2) nd rfl (Or.inl rfl) (zA7 GP hr rfl DPa DP.kp DPb .nil (passC hC) (zA0 (pv 1) zA2)))
   (zA3 (zAw (zAp op_lt (zA9 call_len_dict rfl T.len PySem.boot_len (zA0 (pv 2) zA2)) (zA9 zAi rfl T.len PySem.boot_len (zA0 (pv 1) zA2)) (nomark _)) zAq zAg)
   (zA6 (zFi (pv 0) (pv 2) rfl)))),?_⟩
  have kl:KL C H (zs.map (·.1)) (zs.map (·.2)):=by
   have:=hz.at_;clear hl hz rp k
   induction zs with
   | nil=>exact .nil
   | cons q t ih=>exact .cons (this q Z9) (ih fun q' h=>this q' (Z6 _ h))
  refine ⟨_,rfl,l,zs.map (·.1),zs.map (·.2),rfl,(by rw [Zy];exact hl),kl,rp,fun H1 s1=>⟨_,rfl,iteF ?_⟩⟩;refine ⟨_,rfl,l,zs,rfl,s1 _ _ hl,hz.mono fun b o e _=>s1 _ _ e,hT.same s1,fun d ord kvs H2 hd hd2 hpl hgr hno hT2 hG=>?_⟩;have nT:∀ {b:Addr}{o:HO},H b=some o→(∀ ps,o≠.tbl ps)→H2 b=some o:=fun e h=>hG _ _ (s1 _ _ e) (hT.ne e h);have full:ord.length=zs.length:=by
   have a:=hgr.le;rw [Z0] at a;refine Nat.le_antisymm a (Nat.le_of_not_lt fun lt=>?_);obtain ⟨r,hr,q⟩:=rp.progress (ord:=ord) (by rw [Z0];exact lt);exact hno r hr q
  have hp2:=nT hp fun _ z=>nomatch z;have hl2:=nT hl fun _ z=>nomatch z;refine ⟨_,rfl,d,kvs,rfl,.inl hd2,_,rfl,l,_,rfl,.inl (SqL.of hl2),_,_,rfl,rfl,_,rfl,?_⟩;have kvl:kvs.length=ord.length:=(Paired.length hpl).symm;refine ite2 (fun h=>absurd (of_decide_eq_true h) (by rw [Z0];omega)) (fun _=>?_);refine ⟨_,rfl,_,rfl,p,CK,dx,[],rfl,hp2,KS.cl,KS.nB,(by show 0 < 1000;decide),?_⟩;have dp:d≠p:=Ne.symm (zA5 (s1 _ _ hp) hd);refine k d ord kvs _ zA1 ?_ (by rw [zAa dp];exact hd2) hpl hgr full (hT2.upd hp2 (fun _ z=>nomatch z) (fun _ z=>nomatch z)) fun b o e n1 n2=>?_
  ·exact s1.free hd
  ·rw [zAa n1];exact hG _ _ (s1 _ _ e) n2
theorem scOf:FnScope ["self", "name"] ["self", "name"] (defScope sOf):=⟨rfl,rfl,rfl,by decide +kernel,rfl,by decide +kernel,by decide +kernel⟩
theorem zCi {H H':Hp}{d:Addr}{u:HO} (s:Same H H') (r:Rd H d u):Rd H' d u:=by
 rcases r with r | ⟨o,r⟩
 ·exact .inl (s _ _ r)
 ·exact .inr ⟨o,s _ _ r⟩
theorem ok_of {f fn CK fIk fOr fOf fOw:Addr}{fd fdn:FuncData} (hC:Calm CX) (T:Tops K mg) (KS:KsCls K mg CK fIk fOr fOf fOw) (F:Fun K "of" "Kinds.of" sOf f fd) (DN:Def K mg "is_name" sIsName ["thing"] fn fdn):FnOk P w K mg base CX 2 f fd ["self", "name"] (spOf CK):=by
 have GN:FnOk P w K mg base CX 1 fn fdn ["thing"] spNameD:=zDe DN.fn T;refine Fun.okC F scOf (fun vs H Q E h=>?_) (fun cdv A outer s H vs Q E hr h=>?_)
 ·obtain ⟨p,d,kvs,n,v,rfl,_⟩:=h;rfl
 ·obtain ⟨p,d,kvs,n,v,rfl,nn,⟨⟨dx,hp⟩,rd⟩,hv,k⟩:=h;have hu:=hu_of hr
  refine ⟨_,zA3 (zAw (PW.pt (zF7 (zB0 (zB2 (zA7 GN hr rfl DN.at_ DN.fn.kp DN.bind .nil (passC hC) (zA0 (pv 1) zA2)))) (zCw (zBz (zCj hu (pv 1) (zCx (pv 0) rfl)))))) zAq zAg)
   (zA6 (zAj (zEl hu (zCx (pv 0) rfl) (pv 1) (fun _ _=>rfl)))),?_⟩
  refine ⟨_,rfl,_,.str n,rfl,.str n (Zd nn.2.2 (by decide)) nn.2.1,fun H1 s1=>⟨_,rfl,?_⟩⟩;rw [show nameD (.str n)=true from nn.1];refine iteF ⟨_,rfl,_,rfl,p,CK,dx,_,_,rfl,s1 _ _ hp,KS.cl,KS.nB,ks_by _,d,_,rfl,.inl ⟨kvs,Sum.inr n,zCi s1 rd,rfl,rfl⟩,_,rfl,?_⟩;rw [hv];refine iteF ?_;exact ⟨_,rfl,p,CK,dx,_,_,rfl,s1 _ _ hp,KS.cl,KS.nB,ks_by _,_,rfl,d,v,rfl,.inl ⟨kvs,Sum.inr n,zCi s1 rd,rfl,hv.symm⟩,k _ s1⟩
end
end L2.W
namespace L2.W
open PySem My
theorem for_enum {K:PySem.W.Frag}{a:Addr}{xs:List V}{g:TG}{tb:TS}{D:Ends}{σ : St}{H:Hp} (Pv:Nat→St→Hp→Prop) (h0:Pv 0 σ H) (hl:∀ i σ H,i≤xs.length→Pv i σ H→SqL K H a xs)
  (hs:∀ i x σ H p,xs[i]? = some x→Pv i σ H→H p=none→g (.ref p) σ (upd H p (.tup [.int (i:Nat),x])) fun σ2 H2=>tb { D with nx:=Pv (i + 1),ct:=Pv (i + 1),bk:=D.nx } σ2 H2) (hd:∀ σ H,Pv xs.length σ H→D.nx σ H) :
  ∃ W:Nat→Nat→St→Hp→Prop,(∃ m,W 0 m σ H)∧∀ i m σ H,W i m σ H →
   ((Ite K a).stop i H∧D.nx σ H)∨((Ite K a).go i H∧∃ N:St→Hp→Prop,(∀ σ' H',N σ' H'→∃ m',m' < m∧W (i + 1) m' σ' H')∧∀ x H',(Ite K a).yld i H x H'→g x σ H' fun σ2 H2=>tb { D with nx:=N,ct:=N,bk:=D.nx } σ2 H2):=by
 refine ⟨fun i m σ H=>m=xs.length - i∧i≤xs.length∧Pv i σ H,⟨xs.length,by simp,Zz _,h0⟩,?_⟩;rintro i m σ H ⟨rfl,hi,p⟩;have q:=hl i σ H hi p;by_cases hlt:i < xs.length
 ·refine .inr ⟨⟨xs,xs[i],q,by simp [hlt]⟩,Pv (i + 1),fun σ' H' p'=>⟨xs.length - (i + 1),by omega,rfl,hlt,p'⟩,fun x H' y=>?_⟩;obtain ⟨t,z,rfl,ht,rfl,hz⟩:=y;exact hs i z σ H t (hz xs q) p ht
 ·obtain rfl:i=xs.length:=by omega
  exact .inl ⟨⟨xs,q,Z5 _⟩,hd σ H p⟩
noncomputable def ownD:Option Str→PyData
 | none=>.none
 | some o=>.str o
noncomputable def rowD (r:Row):PyData:=.tuple [.str r.name,.list (r.fields.map fieldD),ownD r.owner]
structure RowsI (rs:List Row):Prop where
 ok:∀ r∈rs,nameOk r.name∧FieldsOk r.fields
 own:∀ (i:Nat) (r:Row) (o:Str),rs[i]? = some r→r.owner=some o→∃ (j:Nat) (r':Row),j < i∧rs[j]? = some r'∧r'.name=o
 nq:∀ r∈rs,r.name≠"qq"
theorem RowsI.snoc {rs:List Row} (h:RowsI rs) {r:Row} (h1:nameOk r.name∧FieldsOk r.fields) (h2:∀ o,r.owner=some o→∃ (j:Nat) (r':Row),rs[j]? = some r'∧r'.name=o) (h3:r.name≠"qq"):RowsI (rs++[r]):=by
 refine ⟨fun q hq=>?_,fun i q o e eo=>?_,fun q hq=>(List.mem_append.mp hq).elim (h.nq q) fun hq=>by rw [List.mem_singleton.mp hq];exact h3⟩
 ·rcases List.mem_append.mp hq with hq | hq
  ·exact h.ok q hq
  ·rw [List.mem_singleton.mp hq];exact h1
 ·by_cases lt:i < rs.length
  ·rw [Zo lt] at e;obtain ⟨j,r',hj,e1,e2⟩:=h.own i q o e eo;exact ⟨j,r',hj,by rw [Zo (by omega)];exact e1,e2⟩
  ·have hi:i=rs.length:=by
    have:=(List.getElem?_eq_some_iff.mp e).1;simp at this;omega
   subst hi;have:r=q:=by simpa using e
   subst this;obtain ⟨j,r',e1,e2⟩:=h2 o eo;have hj:=(List.getElem?_eq_some_iff.mp e1).1;exact ⟨j,r',hj,by rw [Zo hj];exact e1,e2⟩
theorem own_has {G:Addr→Prop}{H:Hp}{o:Option Str} (h:∀ x,o=some x→nameOk x):Has G H (ownV o) (ownD o):=by
 cases o with
 | none=>exact .non
 | some x =>
  have:=h x rfl;exact .str x (Zd this.2.2 (by decide)) this.2.1
noncomputable def spSpecs:Sp:=fun vs H Q _=>∃ (p:Addr) (k:Int),vs=[.ref p]∧Src H p k∧k≤800000 ∧
 ∀ (l:Addr) (rs:List Row) (H':Hp),RowsOk rs→Has (fun a=>H a=none) H' (.ref l) (.list (rs.map rowD))→Src H' p (k + 300)→(∀ b o,H b=some o→b≠p→H' b=some o)→Q (.ref l) H'
theorem row_name {G:Addr→Prop}{H:Hp}{v:V}{r:Row} (h:Has G H v (rowD r)):∃ t x y,v=.ref t∧G t∧H t=some (.tup [.str r.name,x,y]):=by
 obtain ⟨t,xs,rfl,g,e,_,hx⟩:=h.tup_inv;cases hx with
 | cons h1 h2 =>
  cases h2 with
  | cons h3 h4 =>
   cases h4 with
   | cons h5 h6 =>
    cases h6;obtain ⟨rfl,_⟩:=h1.str_inv;exact ⟨t,_,_,rfl,g,e⟩
section
variable {P:Program}{w:World}{K:PySem.W.Frag}{mg:Str→Option Value}{base:Heap}{CX:CXT}
theorem k_row {R F:Option Str→Hp→Prop}{B:Prop} (t:∀ ow Hx,F ow Hx→R ow Hx) (h:(∀ ow Hx,F ow Hx→R ow Hx)→B):B:=h t
theorem scSp:FnScope ["_law_source", "_law_got", "_law_k", "_law_name", "_law_owner"] ["_law_source"] (defScope sSpecs):=⟨rfl,rfl,rfl,by decide +kernel,rfl,by decide +kernel,by decide +kernel⟩
theorem ok_specs {f fm fn fs fnm fl:Addr}{fd fdm fdn fds fdnm fdl:FuncData} (hC:Calm CX) (T:Tops K mg) (F:Fun K "_law_specs" "_law_specs" sSpecs f fd) (DM:Def K mg "_law_mixed" sMixed ["_law_cell", "_law_k"] fm fdm)
  (DN:Def K mg "_law_next" sNext ["_law_source", "_law_many"] fn fdn) (DS:Def K mg "_law_sign" sSign ["_law_sign_here", "_law_turn"] fs fds) (DA:Def K mg "_law_names" sNames ["_law_source", "_law_many"] fnm fdnm) (DL:Def K mg "_law_fields" sLFields ["_law_source"] fl fdl):FnOk P w K mg base CX 5 f fd ["_law_source"] spSpecs:=by
 have GN:FnOk P w K mg base CX 2 fn fdn ["_law_source", "_law_many"] spNext:=zCl hC DN.fn DM;have GA:FnOk P w K mg base CX 3 fnm fdnm ["_law_source", "_law_many"] spNames:=ok_names hC T DA.fn DM DN DS;have GL:FnOk P w K mg base CX 4 fl fdl ["_law_source"] spLFields:=ok_lfields hC T DL.fn DM DN DS DA;refine Fun.okC F scSp (fun vs H Q E h=>?_) (fun cdv A outer s H vs Q E hr h=>?_)
 ·obtain ⟨p,k,rfl,_⟩:=h;rfl
 ·obtain ⟨p,k,rfl,S0,hk,q⟩:=h;have nd:=scSp.nd;have hr2:=hr.mono (show 2≤4 by decide);have hr3:=hr.mono (show 3≤4 by decide)
  refine ⟨_,zA3 (zAb (i:=1) nd rfl (Or.inl rfl) (zAr zA2))
   (zA3 (zDa PassesOwn.never rfl (pi_enum rfl T.enum (zA0 (zA7 GA hr3 rfl DA.at_ DA.fn.kp DA.bind .nil (passC hC) (zA0 (pv 0) (zA0 (zAh zC6 zA4 (zA7 GN hr2 rfl DN.at_ DN.fn.kp DN.bind .nil (passC hC) (zA0 (pv 0) (zA0 zA4 zA2)))) zA2))) zA2))
    (zDz rfl (zAm (zAc (i:=2) nd rfl (Or.inl rfl)) (zAm (zAc (i:=3) nd rfl (Or.inl rfl)) zC1)))
    (zA3 (zAb (i:=4) nd rfl (Or.inl rfl) zCc)
    (zA3 (zAw (PW.pt (zEf (zAp zF8 (pv 2) zA4 (nomark _)) (zD0 (zAp zF8 (zA7 GN hr2 rfl DN.at_ DN.fn.kp DN.bind .nil (passC hC) (zA0 (pv 0) (zA0 zA4 zA2))) zA4 (nomark _)))))
     (zA6 (zAb (i:=4) nd rfl (Or.inl rfl) (zAs zBr (zAs zAk (pv 1) (zA7 GN hr2 rfl DN.at_ DN.fn.kp DN.bind .nil (passC hC) (zA0 (pv 0) (zA0 (pv 2) zA2))) (fun _ _=>rfl)) zA4 (fun _ _=>rfl)))) zAg)
    (zA6 (zDn (zD3 PySem.F.plainAttrs_list PySem.F.slot_list_append PySem.F.type_list_append zEq (pv 1) (zA0 (zBc (zA0 (pv 3) (zA0 (zA7 GL hr rfl DL.at_ DL.fn.kp DL.bind .nil (passC hC) (zA0 (pv 0) zA2)) (zA0 (pv 4) zA2)))) zA2)))))))
   (zA6 (zAj (pv 1)))),?_⟩
  have small:∀ n:Nat,n≤1000→n≤sizeLine:=fun n h=>Zl (small1000 h);have src:∀ {H1 H2:Hp}{j:Int},Src H1 p j→(∀ o,H1 p=some o→H2 p=some o)→Src H2 p j:=fun ⟨a,c,i,e,r⟩ h=>⟨a,c,i,h _ e,r⟩;refine ⟨Zz _,fun lg fg=>?_⟩;have ngp:lg≠p:=by obtain ⟨_,_,_,e,_⟩:=S0;exact Ne.symm (zA5 e fg)
  have S1:Src (upd H lg (.lst [])) p k:=src S0 fun o e=>(Same.new fg) _ _ e;refine ⟨_,rfl,_,rfl,p,_,k,rfl,S1,by omega,by decide,by decide,fun d H1 d0 d1 S2 k2=>⟨_,_,rfl,rfl,p,_,_,rfl,S2,by omega,by omega,by omega,fun l1 ks H1' e1 n1 o1 hl1 f1 S3 k3=>?_⟩⟩;have hg1:H1' lg=some (.lst []):=k3 _ _ (by rw [k2 _ ngp];exact zA1) ngp;have nll:l1≠lg:=fun e=>by rw [e,k2 _ ngp,zA1] at f1;cases f1
  have nl1p:l1≠p:=by obtain ⟨_,_,_,e,_⟩:=S2;exact Ne.symm (zA5 e f1)
  have kl:ks.length≤5∧0 < ks.length:=by omega
  refine ⟨l1,rfl,⟨_,SqL.of hl1⟩,for_enum (K:=K) (a:=l1) (xs:=ks.map V.str) (fun i σ H2=>∃ (ys:List V) (rs:List Row) (x2 x3 x4:Option V),σ = [some (.ref p),some (.ref lg),x2,x3,x4]∧H2 lg=some (.lst ys)∧ys.length=i ∧
   HasAll (fun a=>H a=none∧a≠lg) H2 ys (rs.map rowD)∧rs.length=i∧rs.map (·.name)=ks.take i∧RowsI rs∧H2 l1=some (.lst (ks.map V.str))∧Src H2 p (k + 10 + 40 * i)∧(∀ b o,H b=some o→b≠p→H2 b=some o)) ?_ ?_ ?_ ?_⟩
  ·refine ⟨[],[],none,none,none,rfl,hg1,rfl,.nil,rfl,rfl,⟨(fun r h=>nomatch h),fun i r o h=>by simp at h,fun r h=>nomatch h⟩,hl1,S3.mono (by omega),fun b o e nb=>k3 _ _ ?_ nb⟩;rw [k2 b nb];exact (Same.new fg) _ _ e
  ·rintro i σ H2 _ ⟨ys,rs,x2,x3,x4,rfl,hg2,hyl,hys,hrl,hnm,ri,hl1,S2,fr2⟩;exact SqL.of hl1
  ·rintro i x σ H1 pt hi ⟨ys,rs,x2,x3,x4,rfl,hg2,hyl,hys,hrl,hnm,ri,hl1,S2,fr2⟩ hpt;rw [Za] at hi;cases hn:ks[i]? with
   | none=>rw [hn] at hi;cases hi
   | some n =>
    rw [hn] at hi;cases hi;have onm:nameOk n:=nok (o1 n (Z3 hn));have li:i < ks.length:=(List.getElem?_eq_some_iff.mp hn).1;have sN:=Same.new (o:=.tup [.int (i:Nat),.str n]) hpt;replace hg2:=sN _ _ hg2;replace hys:=hys.mono sN;replace hl1:=sN _ _ hl1;replace S2:=src S2 fun o e=>sN _ _ e;replace fr2:∀ b o,H b=some o→b≠p→(upd H1 pt (.tup [.int (i:Nat),.str n])) b=some o:=fun b o e nb=>sN _ _ (fr2 b o e nb);have hpt2:(upd H1 pt (.tup [.int (i:Nat),.str n])) pt=some (.tup [.int (i:Nat),.str n]):=zA1;generalize upd H1 pt (.tup [.int (i:Nat),.str n])=H2 at hg2 hys hl1 S2 fr2 hpt2 ⊢;refine ⟨pt,_,rfl,SqT.of hpt2,rfl,_,_,rfl,_,_,rfl,rfl,?_⟩;refine ⟨_,rfl,_,_,rfl,rfl,_,rfl,?_⟩;refine' k_row (F:=fun ow H5=>(∀ b o,H2 b=some o→b≠p→H5 b=some o)∧Src H5 p (k + 10 + 40 * i + 2)∧(∀ x,ow=some x→nameOk x)∧∀ o,ow=some o→∃ (j:Nat) (r':Row),rs[j]? = some r'∧r'.name=o) _ (fun kr=>_);rotate_left 2
    ·refine ite2 (fun c1=>?_) (fun c1=>?_)
     ·have i0:0 < i:=by have:=of_decide_eq_true c1;omega
      refine ⟨_,rfl,p,_,_,rfl,S2,by omega,by decide,by decide,fun r H3 r0 r1 S3 k3=>⟨_,_,rfl,rfl,_,rfl,?_⟩⟩;refine ite2 (fun c2=>?_) (fun c2=>?_)
      ·refine ⟨_,rfl,_,rfl,_,rfl,p,_,_,rfl,S3,by omega,by omega,by omega,fun r2 H5 a0 a1 S5 k5=>?_⟩;have fr5:∀ b o,H2 b=some o→b≠p→H5 b=some o:=fun b o e nb=>by rw [k5 b nb,k3 b nb];exact e
       obtain ⟨j,rfl⟩:∃ j:Nat,r2=(j:Int):=⟨r2.toNat,by omega⟩;obtain ⟨y,hy⟩:∃ y,ys[j]? = some y:=⟨_,Z1 (by omega)⟩;obtain ⟨dd,hdd,hyh⟩:=hys.get hy;rw [Za] at hdd;cases er:rs[j]? with
       | none=>rw [er] at hdd;cases hdd
       | some r' =>
        rw [er] at hdd;cases hdd;obtain ⟨t',x',y',rfl,g',et⟩:=row_name hyh;have nt':t'≠p:=by obtain ⟨_,_,_,e',_⟩:=S0;intro z;rw [z,e'] at g';exact nomatch g'.1
        have on':=(ri.ok r' (Z3 er)).1;refine ⟨lg,ys,(j:Int),_,rfl,rfl,SqL.of (fr5 _ _ hg2 ngp),zBh hy,t',_,_,_,rfl,rfl,SqT.of (fr5 _ _ et nt'),rfl,?_⟩;rw [show V.str r'.name=ownV (some r'.name) from rfl];obtain ⟨ow,eo⟩:∃ ow,some r'.name=ow:=⟨_,rfl⟩;rw [eo];exact kr ow H5 ⟨fr5,S5.mono (by omega),fun x e=>by rw [← eo] at e;cases e;exact on',fun o e=>⟨j,r',er,by rw [← eo] at e;cases e;rfl⟩⟩
      ·exact kr none H3 ⟨fun b o e nb=>by rw [k3 b nb];exact e,S3.mono (by omega),(fun x e=>nomatch e),(fun o e=>nomatch e)⟩
     ·exact kr none H2 ⟨fun b o e nb=>e,S2.mono (by omega),(fun x e=>nomatch e),(fun o e=>nomatch e)⟩
    ·intro ow H5 hF;obtain ⟨fr5,S5,hOWN,hOW⟩:=hF;refine ⟨_,rfl,.inl ⟨rfl,_,SqL.of (fr5 _ _ hg2 ngp)⟩,_,rfl,_,rfl,p,_,rfl,S5,by omega,fun lf fs H6 fok hfs S6 k6=>⟨_,rfl,by show 3≤sizeLine;decide,fun t ht=>⟨lg,_,_,rfl,rfl,(Same.new ht) _ _ (k6 _ _ (fr5 _ _ hg2 ngp) ngp),by rw [hyl];exact small1000 (by omega),?_⟩⟩⟩;have ntl:t≠lg:=fun e=>by rw [e,k6 _ _ (fr5 _ _ hg2 ngp) ngp] at ht;cases ht
     have ntp:t≠p:=by obtain ⟨_,_,_,e,_⟩:=S6;exact Ne.symm (zA5 e ht)
     have bk5:∀ b,H5 b=none→H b=none∧b≠lg:=fun b e=>by
      have nbp:b≠p:=by obtain ⟨_,_,_,e',_⟩:=S5;exact Ne.symm (zA5 e' e)
      refine ⟨?_,?_⟩
      ·cases z:H b with
       | none=>rfl
       | some o=>rw [fr5 _ _ (fr2 _ _ z nbp) nbp] at e;cases e
      ·rintro rfl;rw [fr5 _ _ hg2 ngp] at e;cases e
     have ft:H t=none:=by
      cases z:H t with
      | none=>rfl
      | some o=>rw [k6 _ _ (fr5 _ _ (fr2 _ _ z ntp) ntp) ntp] at ht;cases ht
     have fr7:∀ b o,H2 b=some o→b≠p→b≠lg→(upd (upd H6 t (.tup [.str n,.ref lf,ownV ow])) lg (.lst (ys++[.ref t]))) b=some o:=fun b o e nb nl=>by
      rw [zAa nl];exact (Same.new ht) _ _ (k6 _ _ (fr5 _ _ e nb) nb)
     refine ⟨ys++[.ref t],rs++[⟨n,fs,ow⟩],_,_,_,rfl,zA1,?_,?_,?_,?_,ri.snoc ⟨onm,fok⟩ hOW (o1 n (Z3 hn)).2.2.2,?_,?_,fun b o e nb=>fr7 _ _ (fr2 _ _ e nb) nb (by rintro rfl;rw [fg] at e;cases e)⟩
     ·rw [Z4,hyl];rfl
     ·rw [Zh];refine HasAll.snoc (hys.frame fun b o g e=>⟨g,fr7 _ _ e (by obtain ⟨_,_,_,e',_⟩:=S0;rintro rfl;rw [e'] at g;exact nomatch g.1) g.2⟩) ?_;refine .tup ⟨ft,ntl⟩ (by rw [zAa ntl,zA1]) (by show 3≤1000;decide) (.cons (.str n (Zd onm.2.2 (by decide)) onm.2.1) (.cons (hfs.frame fun b o g e=>⟨bk5 b g,?_⟩) (.cons (own_has hOWN) .nil)));rw [zAa (bk5 b g).2];exact (Same.new ht) _ _ e
     ·rw [Z4,hrl];rfl
     ·rw [Zh,hnm,Zk,hn];rfl
     ·exact fr7 _ _ hl1 nl1p nll
     ·obtain ⟨a,c,j,e,r1,r2⟩:=S6;refine ⟨a,c,j,?_,r1,by first | omega | (push_cast;omega)⟩;rw [zAa (Ne.symm ngp)];exact (Same.new ht) _ _ e
  ·rintro σ H2 ⟨ys,rs,x2,x3,x4,rfl,hg2,hyl,hys,hrl,hnm,ri,hl1,S2,fr2⟩;rw [Z0] at hyl hrl hnm S2;rw [Zm] at hnm;refine ⟨_,rfl,q lg rs H2 ⟨by omega,by omega,by rw [hnm];exact n1,ri.ok,ri.own,ri.nq⟩ (.lst fg hg2 (by omega) (hys.frame fun b o g e=>⟨g.1,e⟩)) (S2.mono (by omega)) fr2⟩
end
end L2.W
namespace L2.W
open PySem My
noncomputable def turnL {α : Type} (a:Nat) (b:Bool) (l:List α):List α:=if b then (l.drop a++l.take a).reverse else l.drop a++l.take a
theorem zCt {α : Type} (a:Nat) (b:Bool) (l:List α):(turnL a b l).Perm l:=by
 have h:(l.drop a++l.take a).Perm l:=by
  refine List.perm_append_comm.trans ?_;rw [List.take_append_drop]
 unfold turnL;cases b with
 | false=>exact h
 | true=>exact (List.reverse_perm _).trans h
theorem turnL_map {α β : Type} (f : α→β) (a:Nat) (b:Bool) (l:List α):turnL a b (l.map f)=(turnL a b l).map f:=by
 unfold turnL;cases b <;> simp
theorem zCv {G:Addr→Prop}{H:Hp}:∀ {xs ys:List V}{ds es:List PyData},HasAll G H xs ds→HasAll G H ys es→HasAll G H (xs++ys) (ds++es)
 | _,_,_,_,.nil,h=>h
 | _,_,_,_,.cons a t,h=>.cons a (zCv t h)
theorem zD6 {G:Addr→Prop}{H:Hp}:∀ (n:Nat) {xs:List V}{ds:List PyData},HasAll G H xs ds→HasAll G H (xs.take n) (ds.take n)
 | 0,_,_,_=>.nil
 | _ + 1,_,_,.nil=>.nil
 | n + 1,_,_,.cons a t=>.cons a (zD6 n t)
theorem zD7 {G:Addr→Prop}{H:Hp}:∀ (n:Nat) {xs:List V}{ds:List PyData},HasAll G H xs ds→HasAll G H (xs.drop n) (ds.drop n)
 | 0,_,_,h=>h
 | _ + 1,_,_,.nil=>.nil
 | n + 1,_,_,.cons _ t=>zD7 n t
theorem zFs {G:Addr→Prop}{H:Hp}:∀ {xs:List V}{ds:List PyData},HasAll G H xs ds→HasAll G H xs.reverse ds.reverse
 | _,_,.nil=>.nil
 | _,_,.cons a t=>by
  rw [Y9,Y9];exact zCv (zFs t) (.cons a .nil)
theorem turnL_len {α : Type} (a:Nat) (b:Bool) (l:List α):(turnL a b l).length=l.length:=(zCt a b l).length_eq
theorem hasAll_turn {G:Addr→Prop}{H:Hp} (a:Nat) (b:Bool) {xs:List V}{ds:List PyData} (h:HasAll G H xs ds):HasAll G H (turnL a b xs) (turnL a b ds):=by
 unfold turnL;cases b with
 | false=>exact zCv (zD7 a h) (zD6 a h)
 | true=>exact zFs (zCv (zD7 a h) (zD6 a h))
theorem cut_from {xs:List V}{a:Nat} (h:a≤xs.length):cutV xs (some (a:Int)) none=xs.drop a:=by
 unfold cutV HT.sIx;have:¬ ((a:Int) < 0):=by omega
 simp [this,Nat.min_eq_left h,List.take_of_length_le]
theorem cut_to {xs:List V}{a:Nat} (h:a≤xs.length):cutV xs none (some (a:Int))=xs.take a:=by
 unfold cutV HT.sIx;have:¬ ((a:Int) < 0):=by omega
 simp [this,Nat.min_eq_left h]
noncomputable def spTurned (K:PySem.W.Frag):Sp:=fun vs H Q _=>∃ (p l:Addr) (xs:List V) (k:Int),vs=[.ref p,.ref l]∧SqL K H l xs∧l≠p∧Src H p k∧k≤999000∧0 < xs.length∧xs.length≤1000 ∧
 ∀ (q:Addr) (a:Nat) (b:Bool) (H':Hp),H' q=some (.lst (turnL a b xs))→H q=none→Src H' p (k + 2)→(∀ b o,H b=some o→b≠p→H' b=some o)→Q (.ref q) H'
theorem sql_keep {K:PySem.W.Frag}{H H':Hp}{l:Addr}{xs:List V} (h:SqL K H l xs) (e:∀ o,H l=some o→H' l=some o):SqL K H' l xs:=by
 rcases h with (h | ⟨o,h⟩) | h
 ·exact .inl (.inl (e _ h))
 ·exact .inl (.inr ⟨o,e _ h⟩)
 ·exact .inr h
section
variable {P:Program}{w:World}{K:PySem.W.Frag}{mg:Str→Option Value}{base:Heap}{CX:CXT}
theorem scTu:FnScope ["_law_source", "_law_things", "_law_at", "_law_got"] ["_law_source", "_law_things"] (defScope sTurned):=⟨rfl,rfl,rfl,by decide +kernel,rfl,by decide +kernel,by decide +kernel⟩
theorem ok_turned {f fm fn:Addr}{fd fdm fdn:FuncData} (hC:Calm CX) (T:Tops K mg) (F:Fun K "_law_turned" "_law_turned" sTurned f fd) (DM:Def K mg "_law_mixed" sMixed ["_law_cell", "_law_k"] fm fdm)
  (DN:Def K mg "_law_next" sNext ["_law_source", "_law_many"] fn fdn):FnOk P w K mg base CX 3 f fd ["_law_source", "_law_things"] (spTurned K):=by
 have GN:FnOk P w K mg base CX 2 fn fdn ["_law_source", "_law_many"] spNext:=zCl hC DN.fn DM;refine Fun.okC F scTu (fun vs H Q E h=>?_) (fun cdv A outer s H vs Q E hr h=>?_)
 ·obtain ⟨p,l,xs,k,rfl,_⟩:=h;rfl
 ·obtain ⟨p,l,xs,k,rfl,hl,nl,S0,hk,l0,l1,q⟩:=h;have nd:=scTu.nd
  refine ⟨_,zA3 (zAb (i:=2) nd rfl (Or.inl rfl) (zA7 GN hr rfl DN.at_ DN.fn.kp DN.bind .nil (passC hC) (zA0 (pv 0) (zA0 (zA9 zAi rfl T.len PySem.boot_len (zA0 (pv 1) zA2)) zA2))))
   (zA3 (zAb (i:=3) nd rfl (Or.inl rfl) (zAh zC5 (zAz zBp (pv 1) (zB9 (pv 2)) zBf) (zAz zBp (pv 1) zBf (zB9 (pv 2)))))
   (zA6 (zAj (zAs zAk (zAr (zA0 (pv 3) (zA0 (pe_rev (pv 3)) zA2))) (zA7 GN hr rfl DN.at_ DN.fn.kp DN.bind .nil (passC hC) (zA0 (pv 0) (zA0 zA4 zA2))) (fun _ _=>rfl))))),?_⟩
  have small:∀ n:Nat,n≤1000→n≤sizeLine:=fun n h=>Zl (small1000 h);have src:∀ {H1 H2:Hp}{j:Int},Src H1 p j→(∀ o,H1 p=some o→H2 p=some o)→Src H2 p j:=fun ⟨a,c,i,e,r⟩ h=>⟨a,c,i,h _ e,r⟩;refine ⟨_,rfl,_,rfl,l,xs,rfl,.inl hl,p,_,k,rfl,S0,by omega,by omega,by omega,fun r H1 r0 r1 S1 k1=>?_⟩;obtain ⟨a,rfl⟩:∃ a:Nat,r=(a:Int):=⟨r.toNat,by omega⟩;have hl1:SqL K H1 l xs:=sql_keep hl fun o e=>by rw [k1 l nl];exact e
  refine ⟨_,rfl,_,rfl,(a:Int),rfl,l,xs,rfl,hl1,fun p1 f1=>⟨_,rfl,_,rfl,(a:Int),rfl,l,xs,rfl,sql_keep hl1 fun o e=>(Same.new f1) _ _ e,fun p2 f2=>?_⟩⟩;have e1:=cut_from (xs:=xs) (a:=a) (by omega);have e2:=cut_to (xs:=xs) (a:=a) (by omega);rw [e1] at f2 ⊢;rw [e2];have s1:Same H1 (upd H1 p1 (.lst (xs.drop a))):=Same.new f1;have hp1:(upd H1 p1 (.lst (xs.drop a))) p1=some (.lst (xs.drop a)):=zA1;generalize upd H1 p1 (.lst (xs.drop a))=H2 at f2 s1 hp1 ⊢;have s2:Same H2 (upd H2 p2 (.lst (xs.take a))):=Same.new f2;refine ⟨p1,p2,_,_,rfl,rfl,s2 _ _ hp1,zA1,?_,fun p3 f3=>?_⟩
  ·rw [Zv,Zt];exact small _ (by omega)
  have s3:Same H1 (upd (upd H2 p2 (.lst (xs.take a))) p3 (.lst (xs.drop a++xs.take a))):=(s1.trans s2).trans (Same.new f3);have hp3:(upd (upd H2 p2 (.lst (xs.take a))) p3 (.lst (xs.drop a++xs.take a))) p3=some (.lst (xs.drop a++xs.take a)):=zA1;have n3:H1 p3=none:=(s1.trans s2).free f3;generalize upd (upd H2 p2 (.lst (xs.take a))) p3 (.lst (xs.drop a++xs.take a))=H3 at s3 hp3 ⊢;clear s1 s2 hp1 f1 f2 f3;refine ⟨_,rfl,_,rfl,p3,_,rfl,SqL.of hp3,fun p4 f4=>?_⟩;have s4:Same H3 (upd H3 p4 (.lst (xs.drop a++xs.take a).reverse)):=Same.new f4;have hp4:(upd H3 p4 (.lst (xs.drop a++xs.take a).reverse)) p4=some (.lst (xs.drop a++xs.take a).reverse):=zA1;have n4:H1 p4=none:=s3.free f4;generalize upd H3 p4 (.lst (xs.drop a++xs.take a).reverse)=H4 at s4 hp4 ⊢;refine ⟨by show 2≤sizeLine;decide,fun p5 f5=>?_⟩;have s5:Same H1 (upd H4 p5 (.lst [.ref p3,.ref p4])):=(s3.trans s4).trans (Same.new f5);have h3:=(Same.new (o:=.lst [.ref p3,.ref p4]) f5) _ _ (s4 _ _ hp3);have h4:=(Same.new (o:=.lst [.ref p3,.ref p4]) f5) _ _ hp4;have h5:(upd H4 p5 (.lst [.ref p3,.ref p4])) p5=some (.lst [.ref p3,.ref p4]):=zA1;have n5:H1 p5=none:=(s3.trans s4).free f5;generalize upd H4 p5 (.lst [.ref p3,.ref p4])=H5 at s5 h3 h4 h5 ⊢;have np:∀ {b:Addr},H1 b=none→b≠p:=fun {b} e=>by obtain ⟨_,_,_,e',_⟩:=S1;exact Ne.symm (zA5 e' e)
  have S5:Src H5 p (k + 1):=src S1 fun o e=>s5 _ _ e;refine ⟨_,rfl,p,_,_,rfl,S5,by omega,by decide,by decide,fun r H6 r0 r1 S6 k6=>?_⟩;have frame:∀ b o,H b=some o→b≠p→H6 b=some o:=fun b o e nb=>by
   rw [k6 b nb];exact s5 _ _ (by rw [k1 b nb];exact e)
  have back:∀ {b:Addr},H1 b=none→H b=none:=fun {b} e=>by rw [← k1 b (np e)];exact e
  have hp5:H6 p5=some (.lst [.ref p3,.ref p4]):=by rw [k6 _ (np n5)];exact h5
  by_cases c:r=0
  ·subst c;refine ⟨p5,_,0,_,rfl,rfl,SqL.of hp5,rfl,q p3 a false H6 ?_ (back n3) (S6.mono (by omega)) frame⟩;rw [k6 _ (np n3)];exact h3
  ·obtain rfl:r=1:=by omega
   refine ⟨p5,_,1,_,rfl,rfl,SqL.of hp5,rfl,q p4 a true H6 ?_ (back n4) (S6.mono (by omega)) frame⟩;rw [k6 _ (np n4)];exact h4
end
end L2.W
namespace L2.W
open PySem My
theorem field_inv {G:Addr→Prop}{H:Hp}{v:V}{f:Str×List Str} (h:Has G H v (fieldD f)):∃ a l,v=.ref a∧H a=some (.tup [.str f.1,.ref l])∧H l=some (.lst (f.2.map V.str)):=by
 obtain ⟨a,xs,rfl,_,ha,_,hx⟩:=h.tup_inv;cases hx with
 | cons h1 hx =>
  cases hx with
  | cons h2 hx =>
   cases hx;obtain ⟨rfl,_⟩:=h1.str_inv;obtain ⟨l,ys,rfl,_,hl,_,hy⟩:=h2.list_inv;refine ⟨a,l,rfl,ha,?_⟩;rw [hl]
   congr 2
   clear hl h2 ha h;generalize f.2=vs at hy
   induction vs generalizing ys with
   | nil=>cases hy;rfl
   | cons x r ih =>
    cases hy with
    | cons q t =>
     obtain ⟨rfl,_⟩:=q.str_inv;rw [Zp,ih _ (by simp at *;omega) t]
theorem zG1 {G:Addr→Prop}{H:Hp}{v:V}{r:Row} (h:Has G H v (rowD r)):∃ t lf,v=.ref t∧H t=some (.tup [.str r.name,.ref lf,ownV r.owner])∧Has G H (.ref lf) (.list (r.fields.map fieldD)):=by
 obtain ⟨t,xs,rfl,g,e,_,hx⟩:=h.tup_inv;cases hx with
 | cons h1 h2 =>
  cases h2 with
  | cons h3 h4 =>
   cases h4 with
   | @cons x _ _ _ h5 h6 =>
    cases h6;obtain ⟨rfl,_⟩:=h1.str_inv;obtain ⟨lf,ys,rfl,_⟩:=id h3.list_inv;have eo:x=ownV r.owner:=by
     cases er:r.owner with
     | none=>rw [er] at h5;cases h5;rfl
     | some o=>rw [er] at h5;exact h5.str_inv.1
    subst eo;exact ⟨t,lf,rfl,e,h3⟩
theorem init_own {C x dx:Addr}{H:Hp}{r:Row}{vf:V}{Q:VK}{E:XK} (hx:H x=none) (hdx:H dx=none) (ne:dx≠x) (hn:nameOk r.name) (hf:Has Any H vf (.list (r.fields.map fieldD))) (ok:FieldsOk r.fields) (ho:∀ o,r.owner=some o→nameOk o∧o≠r.name)
  (k:∀ H',Same H H'→KindO C H' x r→Q .non H') :
  spInit C (.ref x :: ([.str r.name,vf,ownV r.owner]++[])) (upd (upd H dx (.own x)) x (.ins C dx [])) Q E:=by
 have hx2:(upd H dx (.own x)) x=none:=by rw [zAa ne.symm];exact hx
 have s:Same H (upd (upd H dx (.own x)) x (.ins C dx [])):=(Same.new hdx).trans (Same.new hx2);refine ⟨x,dx,vf,ownV r.owner,r.name,_,ownD r.owner,rfl,zA1,by have:=hn.2.2;omega,hn.2.1,hn.1,hf.mono s,(fields_ok ok).1,own_has fun o e=>(ho o e).1,?_,(fields_ok ok).2,fun H' l hp hl fr=>k H' (fun b o e=>fr b o (s _ _ e) (zA5 e hx)) ⟨dx,l,hp⟩⟩;cases eo:r.owner with
 | none=>rfl
 | some o =>
  obtain ⟨h1,h2⟩:=ho o eo;show (nameB o && !decide (o=r.name))=true;rw [h1.1,decide_eq_false h2];rfl
theorem RowsP.owner {rs:List Row} (h:RowsP rs) {r:Row}{o:Str} (hr:r∈rs) (e:r.owner=some o):nameOk o∧o≠r.name:=by
 obtain ⟨r0,ok,p⟩:=h;obtain ⟨a,b,_⟩:=ok.owner (p.mem_iff.mp hr) e;exact ⟨a,b⟩
noncomputable def spMade (CK C Pt:Addr):Sp:=fun vs H Q _=>∃ (l:Addr) (rs:List Row),vs=[.ref l]∧Has Any H (.ref l) (.list (rs.map rowD))∧RowsP rs∧TabOk H Pt lamPos lamQ ∧
 ∀ (q d:Addr) (ord:List Str) (kvs:List (Key×V)) (zs:List (Addr×Row)) (H':Hp),KindsAt CK H' q d kvs→H q=none→H d=none→Zs C H' zs→zs.map (·.2)=rs→Placed zs ord kvs→Greedy (·∈rs) ord→ord.length=rs.length→TabOk H' Pt lamPos lamQ→GrownBut Pt H H'→Q (.ref q) H'
section
variable {P:Program}{w:World}{K:PySem.W.Frag}{mg:Str→Option Value}{base:Heap}{CX:CXT}
theorem scMa:FnScope ["_law_specs_here", "_law_got", "_law_name", "_law_fields_here", "_law_owner"] ["_law_specs_here"] (defScope sMade):=⟨rfl,rfl,rfl,by decide +kernel,rfl,by decide +kernel,by decide +kernel⟩
theorem ok_made {f C fI CK fIk fOr fOf fOw Pt:Addr}{fd fdI fdk:FuncData} (hC:Calm CX) (T:Tops K mg) (KC:KCls K mg C fI) (KS:KsCls K mg CK fIk fOr fOf fOw) (GK:FnOk P w K mg base CX 5 fI fdI ["self", "name", "fields", "owner"] (spInit C)) (bK:Binds K fdI ["self", "name", "fields", "owner"] [])
  (GS:FnOk P w K mg base CX 5 fIk fdk ["self", "kinds"] (spInitKs CK C Pt)) (bS:Binds K fdk ["self", "kinds"] []) (F:Fun K "_law_made" "_law_made" sMade f fd):FnOk P w K mg base CX 7 f fd ["_law_specs_here"] (spMade CK C Pt):=by
 refine Fun.okC F scMa (fun vs H Q E h=>?_) (fun cdv A outer s H vs Q E hr h=>?_)
 ·obtain ⟨l,rs,rfl,_⟩:=h;rfl
 ·obtain ⟨l,rs,rfl,hl,rp,hT,q⟩:=h;have nd:=scMa.nd
  refine ⟨_,zA3 (zAb (i:=1) nd rfl (Or.inl rfl) (zAr zA2))
   (zA3 (zDa PassesOwn.never rfl (zAn (pv 0)) (zDz rfl (zAm (zAc (i:=2) nd rfl (Or.inl rfl)) (zAm (zAc (i:=3) nd rfl (Or.inl rfl)) (zAm (zAc (i:=4) nd rfl (Or.inl rfl)) zC1))))
    (zA6 (zDn (zD3 PySem.F.plainAttrs_list PySem.F.slot_list_append PySem.F.type_list_append zEq (pv 1) (zA0 (zG4 KC.mkd GK hr rfl KC.mgC bK .nil (passC hC) (zA0 (pv 2) (zA0
     (zAu (T:=["_law_field", "_law_values"]) rfl ScOk.auto (zAn (pv 3)) (fun _ _ _ _=>zEh (K:=K) (n:=2) rfl rfl (zAm (zAc (i:=5) (by decide +kernel:(["_law_specs_here", "_law_got", "_law_name", "_law_fields_here", "_law_owner", "_law_field", "_law_values"]:List Str).Nodup) rfl (Or.inl rfl)) (zAm (zAc (i:=6) (by decide +kernel:(["_law_specs_here", "_law_got", "_law_name", "_law_fields_here", "_law_owner", "_law_field", "_law_values"]:List Str).Nodup) rfl (Or.inl rfl)) zC1))) (fun _ _ _ _=>zB6)
      (fun _ _ _ _=>zBc (zA0 (pv 5) (zA0 (zB3 (r:=fun xs H Q=>∃ p ys,xs=[.ref p]∧(SqL K H p ys∨SqT K H p ys)∧∀ l,H l=none→Q (.ref l) (upd H l (.lst ys))) zE1 rfl T.list PyProof.Rows.boot_list (zA0 (pv 6) zA2)) zA2))))
     (zA0 (pv 4) zA2)))) zA2)))))
   (zA6 (zAj (zG4 KS.mkd GS hr rfl KS.mgC bS .nil (passC hC) (zA0 (pv 1) zA2))))),?_⟩
  have small:∀ n:Nat,n≤1000→n≤sizeLine:=fun n h=>Zl (small1000 h);obtain ⟨l',xs,e,_,hl1,hz,hx⟩:=hl.list_inv;cases e;have xl:xs.length=rs.length:=by rw [hx.length,Z0]
  obtain ⟨r0,r5⟩:=rp.le;refine ⟨Zz _,fun lg fg=>?_⟩
  refine ⟨_,rfl,l,rfl,⟨_,SqL.of ((Same.new fg) _ _ hl1)⟩,zDh (K:=K) (a:=l) (xs:=xs) (fun i σ H2=>∃ (zs:List (Addr×Row)) (x2 x3 x4:Option V),σ = [some (.ref l),some (.ref lg),x2,x3,x4]∧H2 lg=some (.lst (zs.map fun q=>V.ref q.1))∧zs.map (·.2)=rs.take i∧(∀ q∈zs,KindO C H2 q.1 q.2)∧Same H H2)
   ⟨[],none,none,none,rfl,zA1,rfl,(fun q h=>nomatch h),Same.new fg⟩ (fun i σ H2 _ ⟨_,_,_,_,_,_,_,_,s2⟩=>SqL.of (s2 _ _ hl1)) ?_ ?_⟩
  ·rintro i x σ H2 hi ⟨zs,x2,x3,x4,rfl,hg2,hzs,hk2,s2⟩;obtain ⟨dd,hdd,hv⟩:=hx.get hi;rw [Za] at hdd;cases er:rs[i]? with
   | none=>rw [er] at hdd;cases hdd
   | some r =>
    rw [er] at hdd;cases hdd;have mr:=Z3 er;obtain ⟨onm,ofs⟩:=rp.ok r mr;obtain ⟨t,lf,rfl,ht,hf⟩:=zG1 hv;have hf2:=hf.mono s2;obtain ⟨lf',fs,e,_,hlf,hlz,hfx⟩:=hf2.list_inv;cases e;have zl:zs.length≤i:=by
     have:=congrArg List.length hzs;rw [Z0,Zt] at this;omega
    have il:i < rs.length:=(List.getElem?_eq_some_iff.mp er).1;refine ⟨t,_,rfl,SqT.of (s2 _ _ ht),rfl,_,_,rfl,_,_,rfl,_,_,rfl,rfl,?_⟩;refine ⟨_,rfl,.inl ⟨rfl,_,SqL.of hg2⟩,_,rfl,_,rfl,lf,rfl,⟨_,SqL.of hlf⟩,zAl (xs:=fs) (fun j ys H'=>Same H2 H'∧HasAll Any H' ys ((r.fields.take j).map fieldD)) ⟨Same.refl _,.nil⟩ (fun j ys H' z=>SqL.of (z.1 _ _ hlf)) (fun j ys H' hj z=>?_) ?_ ?_⟩
    ·have:=z.2.length;rw [Z0] at this;have:=Yg j r.fields;have:=ofs.le;exact small _ (by omega)
    ·rintro j y ys H' hj ⟨s6,hy⟩ N hN;obtain ⟨d,hd,hv⟩:=hfx.get hj;rw [Za] at hd;cases ef:r.fields[j]? with
     | none=>rw [ef] at hd;cases hd
     | some f =>
      rw [ef] at hd;cases hd;obtain ⟨b,lv,rfl,hb,hlv⟩:=field_inv hv;refine pickT (SqT.of (s6 _ _ hb)) ?_;obtain ⟨okn,okv⟩:=ofs.ok f (Z3 ef);refine ⟨_,rfl,_,rfl,lv,_,rfl,.inl (SqL.of (s6 _ _ hlv)),fun l3 hl3=>⟨by show 2≤sizeLine;exact small 2 (by decide),fun t ht=>hN _ _ ⟨(s6.trans (Same.new hl3)).trans (Same.new ht),?_⟩⟩⟩;rw [Zk,ef,Zh];refine HasAll.snoc (hy.mono ((Same.new hl3).trans (Same.new ht))) (.tup trivial zA1 (by show 2≤1000;decide) (.cons (.str _ (by have:=okn.2.2;omega) okn.2.1) (.cons (.lst trivial ((Same.new ht) _ _ zA1) ?_ (zDf okv.ok)) .nil)));rw [Z0];have:=okv.le;omega
    ·rintro ys H' ⟨s6,hy⟩ ln hln;have ex:fs.length=r.fields.length:=by rw [hfx.length,Z0]
     rw [ex,Zm] at hy;have s7:Same H2 (upd H' ln (.lst ys)):=s6.trans (Same.new hln);have hf7:Has Any (upd H' ln (.lst ys)) (.ref ln) (.list (r.fields.map fieldD)):=.lst trivial zA1 (by rw [hy.length,Z0];have:=ofs.le;omega) (hy.mono (Same.new hln));generalize upd H' ln (.lst ys)=H7 at s7 hf7 ⊢;refine ⟨_,rfl,?_⟩;intro x dx hx' hdx hne;refine init_own hx' hdx hne onm hf7 ofs (fun o e=>rp.owner mr e) fun H8 s8 kd8=>⟨rfl,?_⟩;have s28:=s7.trans s8;have hg8:=s28 _ _ hg2;refine ⟨lg,_,_,rfl,rfl,hg8,by rw [Z0];exact small1000 (by omega),?_⟩;have kk:∀ {p:Addr}{r:Row},KindO C H8 p r→KindO C (upd H8 lg (.lst ((zs.map fun q=>V.ref q.1)++[V.ref x]))) p r:=fun ⟨dx,l,e⟩=>⟨dx,l,by rw [zAa (ne_of e hg8 (fun z=>nomatch z))];exact e⟩;refine ⟨zs++[(x,r)],_,_,_,rfl,by rw [zA1,Zh];rfl,by rw [Zh,hzs,Zk,er];rfl,fun q hq=>?_,fun b o e=>?_⟩
     ·rcases List.mem_append.mp hq with hq | hq
      ·exact kk ((hk2 q hq).mono fun b o e _=>s28 _ _ e)
      ·rw [List.mem_singleton.mp hq];exact kk kd8
     ·rw [zAa (zA5 e fg)];exact s28 _ _ (s2 _ _ e)
  ·rintro σ H2 ⟨zs,x2,x3,x4,rfl,hg2,hzs,hk2,s2⟩;rw [xl,Zm] at hzs;have zl:zs.length=rs.length:=by rw [← hzs,Z0]
   refine ⟨_,rfl,?_⟩;intro x dx hx' hdx hne;have hx2:(upd H2 dx (.own x)) x=none:=by rw [zAa hne.symm];exact hx'
   have s3:Same H2 (upd (upd H2 dx (.own x)) x (.ins CK dx [])):=(Same.new hdx).trans (Same.new hx2);refine ⟨x,dx,lg,zs,rfl,zA1,s3 _ _ hg2,⟨fun q hq=>(hk2 q hq).mono fun b o e _=>s3 _ _ e,?_,by omega⟩,by rw [hzs];exact rp,(hT.same s2).same s3,fun d ord kvs H' hp' hd' hd2 hpl hgr hlen hT' fr=>⟨rfl,?_⟩⟩
   ·have:=rp.nd;rw [← hzs,Zy] at this;exact this
   ·have fr2:∀ b o,H2 b=some o→b≠Pt→H' b=some o:=fun b o e nb=>fr b o (s3 _ _ e) (zA5 e hx') nb;have hT2:=hT.same s2;rw [hzs] at hgr;refine q x d ord kvs zs H' ⟨⟨dx,hp'⟩,.inl hd2⟩ (s2.free hx') (s2.free (s3.free hd')) ⟨fun q hq=>?_,?_,by omega⟩ hzs hpl hgr (by omega) hT' fun b o e nb=>fr2 b o (s2 _ _ e) nb
    ·obtain ⟨dx',l',e⟩:=hk2 q hq;exact ⟨dx',l',fr2 _ _ e (hT2.ne e fun _ z=>nomatch z)⟩
    ·have:=rp.nd;rw [← hzs,Zy] at this;exact this
end
end L2.W
namespace L2.W
open PySem My
noncomputable def spWritten:Sp:=fun vs H Q _=>∃ n:Nat,vs=[.str (figs n),.int 6]∧n≤999999∧∀ H',Same H H'→Q (.bl true) H'
section
variable {P:Program}{w:World}{K:PySem.W.Frag}{mg:Str→Option Value}{base:Heap}{CX:CXT}
theorem scWr:FnScope ["text", "most_figures"] ["text", "most_figures"] (defScope sWritten):=⟨rfl,rfl,rfl,by decide +kernel,rfl,by decide +kernel,by decide +kernel⟩
theorem fig_in {n c:Nat} (h:c∈(figs n).cps.toList):decide (c∈("0123456789" : Str).cps.toList)=true:=by
 have d:=zE8 h;have e:("0123456789" : Str).cps.toList=[48,49,50,51,52,53,54,55,56,57]:=by decide +kernel
 rw [e];refine decide_eq_true ?_;have:=(by decide +kernel:∀ i < 10,48 + i∈[48,49,50,51,52,53,54,55,56,57]) (c - 48) (by omega)
 rwa [Nat.add_sub_cancel' d.1] at this
theorem ok_written {f:Addr}{fd:FuncData} (T:Tops K mg) (F:Fun K "is_written_number" "is_written_number" sWritten f fd):FnOk P w K mg base CX 1 f fd ["text", "most_figures"] spWritten:=by
 refine Fun.okC F scWr (fun vs H Q E h=>?_) (fun cdv A outer s H vs Q E hr h=>?_)
 ·obtain ⟨n,rfl,_⟩:=h;rfl
 ·obtain ⟨n,rfl,hn,k⟩:=h;obtain ⟨tf,hfigs⟩:=T.figs;have g1:=figs_ge n;have g2:=zC2 hn;have hz:(figs n).length≤sizeLine:=Zl (small1000 (by omega))
  refine ⟨_,zA3 (zAw (zB0 (zD9 op_le op_le zA4 (zA9 zB8 rfl T.len PySem.boot_len (zA0 (pv 0) zA2)) (pv 1))) (zA6 (zAj zBj)) zAg)
   (zA3 (zAw (PW.pt (zEf (zAp zF8 (zA9 zB8 rfl T.len PySem.boot_len (zA0 (pv 0) zA2)) zA4 (nomark _)) (zD0 (zB2 (zD3 PySem.F.plainAttrs_str PySem.F.slot_str_startswith PySem.F.type_str_startswith zDg (pv 0) (zA0 zAe zA2)))))) (zA6 (zAj zBj)) zAg)
   (zA6 (zAj (zA9 (zBl rfl) rfl T.all PyProof.Rows.boot_all (zA0 (zAu (T:=["sign"]) rfl ScOk.auto (zFj (pv 0)) (fun _ _ _ _=>zAc (i:=2) (by decide +kernel:(["text", "most_figures", "sign"]:List Str).Nodup) rfl (Or.inl rfl)) (fun _ _ _ _=>zB6)
     (fun _ _ _ _=>zD2 zEn (pv 2) (zBb (v:=.str "0123456789") rfl hfigs ⟨_,rfl⟩) rfl)) zA2))))),?_⟩
  refine ⟨_,rfl,figs n,rfl,hz,_,_,rfl,rfl,_,rfl,?_⟩;refine ite2 (fun h1=>?_) (fun h1=>absurd (decide_eq_true (by omega)) h1);refine ⟨_,rfl,_,_,rfl,rfl,_,rfl,?_⟩;rw [decide_eq_true (show ((figs n).length:Int)≤6 by omega)];refine iteF ⟨_,rfl,figs n,rfl,hz,_,_,rfl,rfl,_,rfl,?_⟩;refine ite2 (fun h2=>?_) (fun h2=>?_)
  ·have lt:1 < (figs n).length:=by have:=of_decide_eq_true h2;omega
   refine ⟨_,rfl,rfl,_,_,rfl,rfl,_,rfl,?_⟩;rw [figs_start lt];refine iteF ?_;refine ⟨_,rfl,figs n,rfl,zC9 (fun _=>true) (fun c=>.bl (decide (c∈("0123456789" : Str).cps.toList))) hz (fun c Ry Rn q _=>?_) (fun d hd=>?_)⟩
   ·refine iteT (B:=Rn H) ⟨_,rfl,_,_,rfl,rfl,?_⟩;rw [PySem.StrLaws.found_one];exact q rfl
   ·refine ⟨d,(figs n).cps.toList.map fun c=>decide (c∈("0123456789" : Str).cps.toList),rfl,SqL.of ?_,?_⟩
    ·rw [zA1,List.filter_eq_self.mpr (fun _ _=>rfl),Zy];rfl
    ·have e:((figs n).cps.toList.map fun c=>decide (c∈("0123456789" : Str).cps.toList)).all id=true:=by
      rw [Ya];exact List.all_eq_true.mpr fun c hc=>fig_in hc
     rw [e];exact k _ (Same.new hd)
  ·refine iteF ?_;refine ⟨_,rfl,figs n,rfl,zC9 (fun _=>true) (fun c=>.bl (decide (c∈("0123456789" : Str).cps.toList))) hz (fun c Ry Rn q _=>?_) (fun d hd=>?_)⟩
   ·refine iteT (B:=Rn H) ⟨_,rfl,_,_,rfl,rfl,?_⟩;rw [PySem.StrLaws.found_one];exact q rfl
   ·refine ⟨d,(figs n).cps.toList.map fun c=>decide (c∈("0123456789" : Str).cps.toList),rfl,SqL.of ?_,?_⟩
    ·rw [zA1,List.filter_eq_self.mpr (fun _ _=>rfl),Zy];rfl
    ·have e:((figs n).cps.toList.map fun c=>decide (c∈("0123456789" : Str).cps.toList)).all id=true:=by
      rw [Ya];exact List.all_eq_true.mpr fun c hc=>fig_in hc
     rw [e];exact k _ (Same.new hd)
end
end L2.W
namespace L2.W
open PySem My
structure PathOk (p:List (Str×Nat)):Prop where
 ne:p≠[]
 le:p.length≤10
 ok:∀ q∈p,nameOk q.1∧q.2≤999999
theorem zBa {x:Str} (h:nameOk x):freeOf 46 x:=fun d hd e=>by
 have h1:=h.1;unfold nameB at h1;rw [Zu] at h1;have h2:=List.all_eq_true.mp h1.2 d hd;rw [e] at h2;exact absurd h2 (by decide +kernel)
theorem zBg (n:Nat):freeOf 46 (figs n):=fun d hd e=>by
 have:=zE8 hd;omega
theorem zBd {R:Str→Prop}:∀ {p:List (Str×Nat)},(∀ q∈p,R q.1∧R (figs q.2))→∀ w∈wordsP p,R w
 | [],_,w,hw=>nomatch hw
 | (k,n) :: t,h,w,hw=>by
  have a:=h (k,n) Z9;rcases List.mem_cons.mp hw with e | hw
  ·rw [e];exact a.1
  ·rcases List.mem_cons.mp hw with e | hw
   ·rw [e];exact a.2
   ·exact zBd (fun q hq=>h q (Z6 _ hq)) w hw
theorem PathOk.split {p:List (Str×Nat)} (h:PathOk p):Txt.split (showP p) "." = wordsP p:=by
 unfold showP;rw [dot_eq];refine zFh (zBd fun q hq=>⟨zBa (h.ok q hq).1,zBg q.2⟩) fun e=>h.ne ?_;have:=zB4 p;rw [e] at this;cases p with
 | nil=>rfl
 | cons a t=>simp at this
theorem PathOk.len {p:List (Str×Nat)} (h:PathOk p):(showP p).length≤180:=by
 have a:=zE6 (s:=".") (m:=8) (by decide +kernel) (ws:=wordsP p) (zBd fun q hq=>⟨(h.ok q hq).1.2.2,Zd (zC2 (h.ok q hq).2) (by decide)⟩);rw [zB4] at a;have:=h.le;unfold showP;omega
noncomputable def spForm:Sp:=fun vs H Q _=>∃ p,vs=[.str (showP p)]∧PathOk p∧∀ H',Same H H'→Q (.bl true) H'
section
variable {P:Program}{w:World}{K:PySem.W.Frag}{mg:Str→Option Value}{base:Heap}{CX:CXT}
theorem scHf:FnScope ["thing", "words"] ["thing"] (defScope sHasForm):=⟨rfl,rfl,rfl,by decide +kernel,rfl,by decide +kernel,by decide +kernel⟩
theorem all_true (n:Nat):(List.replicate n true).all id=true:=by
 induction n with
 | zero=>rfl
 | succ n ih=>rw [List.replicate_succ,Yj,ih];rfl
theorem ok_form {f fn fw:Addr}{fd fdn fdw:FuncData} (hC:Calm CX) (T:Tops K mg) (F:Fun K "has_form" "has_form" sHasForm f fd) (DN:Def K mg "is_name" sIsName ["thing"] fn fdn) (DW:Def K mg "is_written_number" sWritten ["text", "most_figures"] fw fdw):FnOk P w K mg base CX 2 f fd ["thing"] spForm:=by
 have GN:FnOk P w K mg base CX 1 fn fdn ["thing"] spNameD:=zDe DN.fn T;have GW:FnOk P w K mg base CX 1 fw fdw ["text", "most_figures"] spWritten:=ok_written T DW.fn;refine Fun.okC F scHf (fun vs H Q E h=>?_) (fun cdv A outer s H vs Q E hr h=>?_)
 ·obtain ⟨p,rfl,_⟩:=h;rfl
 ·obtain ⟨p,rfl,hp,k⟩:=h;have nd:=scHf.nd;obtain ⟨tm,hmost⟩:=T.mostF;have hl:=hp.len;have pl:=hp.le;have ln:(wordsP p).length=2 * p.length:=zB4 p;have p0:0 < p.length:=List.length_pos_iff.mpr hp.ne
  refine ⟨_,zA3 (zAw (zB0 (zB2 (zA9 zAy rfl T.isinst PyProof.Rows.boot_isinstance (zA0 (pv 0) (zA0 (zBq (v:=.ty "str") rfl T.str PyProof.Rows.boot_str rfl) zA2))))) (zA6 (zAj zBj)) zAg)
   (zA3 (zAb (i:=1) nd rfl (Or.inl rfl) (zD3 PySem.F.plainAttrs_str PySem.F.slot_str_split PySem.F.type_str_split zE5 (pv 0) (zA0 zAe zA2)))
   (zA3 (zAw (zAp op_ne (zAh zCd (zA9 zAi rfl T.len PySem.boot_len (zA0 (pv 1) zA2)) zA4) zA4 (nomark _)) (zA6 (zAj zBj)) zAg)
   (zA3 (zAw (zB0 (zB2 (zA9 (zBl rfl) rfl T.all PyProof.Rows.boot_all (zA0 (zAu (T:=["word"]) rfl ScOk.auto (zAn (zDp (pv 1))) (fun _ _ _ _=>zAc (i:=2) (by decide +kernel:(["thing", "words", "word"]:List Str).Nodup) rfl (Or.inl rfl)) (fun _ _ _ _=>zB6)
     (fun _ _ _ _=>zA7 GN hr rfl DN.at_ DN.fn.kp DN.bind .nil (passC hC) (zA0 (pv 2) zA2))) zA2)))) (zA6 (zAj zBj)) zAg)
   (zA6 (zAj (zA9 (zBl rfl) rfl T.all PyProof.Rows.boot_all (zA0 (zAu (T:=["word"]) rfl ScOk.auto (zAn (pe_odd (pv 1))) (fun _ _ _ _=>zAc (i:=2) (by decide +kernel:(["thing", "words", "word"]:List Str).Nodup) rfl (Or.inl rfl)) (fun _ _ _ _=>zB6)
     (fun _ _ _ _=>zA7 GW hr rfl DW.at_ DW.fn.kp DW.bind .nil (passC hC) (zA0 (pv 2) (zA0 (zBb (v:=.int 6) rfl hmost ⟨_,rfl⟩) zA2)))) zA2))))))),?_⟩
  refine ⟨_,rfl,_,_,_,_,_,rfl,.str _,rfl,rfl,_,rfl,iteF ?_⟩;refine ⟨_,rfl,rfl,_,_,rfl,rfl,by decide +kernel,by omega,fun wa hwa=>?_⟩;rw [hp.split];have s1:Same H (upd H wa (.lst ((wordsP p).map V.str))):=Same.new hwa;have e1:(upd H wa (.lst ((wordsP p).map V.str))) wa=some (.lst ((wordsP p).map V.str)):=zA1;generalize upd H wa (.lst ((wordsP p).map V.str))=H1 at s1 e1 ⊢;have ev:((((wordsP p).map V.str).length:Nat):Int) % 2=0:=by rw [Z0,ln];omega
  refine ⟨_,rfl,wa,_,rfl,.inl (SqL.of e1),_,_,rfl,rfl,(by show (0:Int) < 2;decide),rfl,_,rfl,?_⟩;refine ite2 (fun h=>by replace h:(!decide (V.int ((((wordsP p).map V.str).length:Int) % 2)=V.int 0))=true:=h;rw [ev] at h;exact absurd h (by decide)) (fun _=>?_);refine ⟨_,rfl,wa,_,rfl,SqL.of e1,fun ea hea=>⟨ea,rfl,⟨_,SqL.of zA1⟩,?_⟩⟩;rw [zCp,zCz];have s2:Same H1 (upd H1 ea (.lst ((p.map (·.1)).map V.str))):=Same.new hea;have e2:(upd H1 ea (.lst ((p.map (·.1)).map V.str))) ea=some (.lst ((p.map (·.1)).map V.str)):=zA1;generalize upd H1 ea (.lst ((p.map (·.1)).map V.str))=H2 at s2 e2 ⊢;refine zAl (xs:=(p.map (·.1)).map V.str) (fun i ys H'=>Same H2 H'∧ys=List.replicate i (V.bl true)) ⟨Same.refl _,rfl⟩ (fun i ys H' q=>SqL.of (q.1 _ _ e2)) (fun i ys H' hi q=>?_) ?_ ?_
  ·rw [q.2,Y6];rw [Z0,Z0] at hi;exact Zl (small1000 (by omega))
  ·rintro i x ys H' hi ⟨s',rfl⟩ N hN;rw [Za,Za] at hi;obtain ⟨n,hn,rfl⟩:=Option.map_eq_some_iff.mp hi;obtain ⟨q,hq,rfl⟩:=Option.map_eq_some_iff.mp hn;have nn:=(hp.ok q (Z3 hq)).1;refine pick ?_;refine ⟨_,rfl,_,.str q.1,rfl,.str q.1 (Zd nn.2.2 (by decide)) nn.2.1,fun H3 s3=>?_⟩;rw [show nameD (.str q.1)=true from nn.1];exact hN _ _ ⟨s'.trans s3,by rw [List.replicate_succ']⟩
  ·rintro ys H' ⟨s',rfl⟩ c hc;have s3:Same H2 (upd H' c (.lst (List.replicate ((p.map (·.1)).map V.str).length (V.bl true)))):=s'.trans (Same.new hc);refine ⟨c,List.replicate ((p.map (·.1)).map V.str).length true,rfl,SqL.of (by rw [zA1,List.map_replicate]),_,rfl,?_⟩;rw [all_true];refine iteF ?_;have s4:=s2.trans s3;generalize upd H' c (.lst (List.replicate ((p.map (·.1)).map V.str).length (V.bl true)))=H4 at s4 ⊢;refine ⟨_,rfl,wa,_,rfl,SqL.of (s4 _ _ e1),(by rw [Z0];omega),fun oa hoa=>⟨oa,rfl,⟨_,SqL.of zA1⟩,?_⟩⟩;rw [zGe,zFb];have s5:Same H4 (upd H4 oa (.lst ((p.map fun q=>figs q.2).map V.str))):=Same.new hoa;have e5:(upd H4 oa (.lst ((p.map fun q=>figs q.2).map V.str))) oa=some (.lst ((p.map fun q=>figs q.2).map V.str)):=zA1;generalize upd H4 oa (.lst ((p.map fun q=>figs q.2).map V.str))=H5 at s5 e5 ⊢;refine zAl (xs:=(p.map fun q=>figs q.2).map V.str) (fun i ys H'=>Same H5 H'∧ys=List.replicate i (V.bl true)) ⟨Same.refl _,rfl⟩ (fun i ys H' q=>SqL.of (q.1 _ _ e5)) (fun i ys H' hi q=>?_) ?_ ?_
   ·rw [q.2,Y6];rw [Z0,Z0] at hi;exact Zl (small1000 (by omega))
   ·rintro i x ys H' hi ⟨s',rfl⟩ N hN;rw [Za,Za] at hi;obtain ⟨n,hn,rfl⟩:=Option.map_eq_some_iff.mp hi;obtain ⟨q,hq,rfl⟩:=Option.map_eq_some_iff.mp hn;have nn:=(hp.ok q (Z3 hq)).2;refine pick ?_;exact ⟨_,rfl,q.2,rfl,nn,fun H3 s3=>hN _ _ ⟨s'.trans s3,by rw [List.replicate_succ']⟩⟩
   ·rintro ys H' ⟨s',rfl⟩ c hc;refine ⟨c,List.replicate ((p.map fun q=>figs q.2).map V.str).length true,rfl,SqL.of (by rw [zA1,List.map_replicate]),?_⟩;rw [all_true];exact k _ ((s1.trans s4).trans (s5.trans (s'.trans (Same.new hc))))
end
end L2.W
namespace L2.W
open PySem My
noncomputable def KOf (C:Addr) (H:Hp) (kvs:List (Key×V)) (n:Str) (o:Option Str):Prop:=∃ q dx lf,valV kvs (Sum.inr n)=some (.ref q)∧H q=some (.ins C dx (kflds (.str n) (.ref lf) (ownV o)))
theorem KOf.mono {C:Addr}{H H':Hp}{kvs:List (Key×V)}{n:Str}{o:Option Str} (h:KOf C H kvs n o) (s:Same H H'):KOf C H' kvs n o:=by
 obtain ⟨q,dx,lf,e,e2⟩:=h;exact ⟨q,dx,lf,e,s _ _ e2⟩
noncomputable def Chain (R:Str→Option Str→Prop):Option Str→List (Str×Nat)→Prop
 | _,[]=>True
 | a,(k,_) :: t=>R k a∧Chain R (some k) t
noncomputable def aboveP (a:Option Str) (p:List (Str×Nat)):Nat→Option Str
 | 0=>a
 | i + 1=>(p[i]?).map (·.1)
theorem Chain.get {R:Str→Option Str→Prop}:∀ {p:List (Str×Nat)}{a:Option Str}{i:Nat}{q:Str×Nat},Chain R a p→p[i]? = some q→R q.1 (aboveP a p i)
 | (k,n) :: t,a,0,q,h,e=>by
  have:(k,n)=q:=by simpa using e
  rw [← this];exact h.1
 | (k,n) :: t,a,1,q,h,e=>by
  have:=Chain.get (i:=0) (q:=q) h.2 (by simpa using e);exact this
 | (k,n) :: t,a,i + 2,q,h,e=>by
  have:=Chain.get (i:=i + 1) (q:=q) h.2 (by simpa using e);exact this
theorem Chain.imp {R R':Str→Option Str→Prop} (f:∀ k o,R k o→R' k o):∀ {p:List (Str×Nat)}{a:Option Str},Chain R a p→Chain R' a p
 | [],_,_=>trivial
 | _ :: _,_,h=>⟨f _ _ h.1,h.2.imp f⟩
noncomputable def ownP (q:List (Str×Nat)):Option Str:=if q.isEmpty then none else some (showP q)
noncomputable def spParts (CK C:Addr):Sp:=fun vs H Q _=>∃ (kq d:Addr) (kvs:List (Key×V)) (q:List (Str×Nat)) (k:Str) (n:Nat),vs=[.ref kq,.str (showP (q++[(k,n)]))]∧KindsAt CK H kq d kvs∧PathOk (q++[(k,n)])∧Chain (KOf C H kvs) none (q++[(k,n)]) ∧
 ∀ (t:Addr) (H':Hp),H t=none→H' t=some (.tup [.str k,ownV (ownP q),.int n])→Same H H'→Q (.ref t) H'
theorem ownV_scal (o:Option Str):scal (ownV o) (ownV o)=true:=by cases o <;> rfl
section
variable {P:Program}{w:World}{K:PySem.W.Frag}{mg:Str→Option Value}{base:Heap}{CX:CXT}
theorem scPo:FnScope ["kinds", "name", "words", "above", "word", "owner"] ["kinds", "name"] (defScope sPartsOf):=⟨rfl,rfl,rfl,by decide +kernel,rfl,by decide +kernel,by decide +kernel⟩
theorem cut_m2 {xs:List V} (h:2≤xs.length):cutV xs none (some (-2))=xs.take (xs.length - 2):=by
 unfold cutV HT.sIx;have e:((-2:Int) + (xs.length:Int)).toNat=xs.length - 2:=by omega
 simp [e]
theorem joinDot {ws:List Str} (h:∀ x∈ws,x.length≤8) (hl:ws.length≤100):PySem.JoinOk "." ws=true:=by
 have d1:("." : Str).length=1:=by decide +kernel
 have key:∀ (l:List Str) (n:Nat),(∀ x∈l,x.length≤8)→l.foldl (fun a x=>a + x.length + ("." : Str).length) n≤n + l.length * 9:=by
  intro l
  induction l with
  | nil=>intro n _;exact Z5 _
  | cons c r ih =>
   intro n hh;have h1:=ih (n + c.length + ("." : Str).length) fun x hx=>hh x (Z6 _ hx);have h2:=hh c Z9;rw [Y0,Ze];rw [d1] at h1 ⊢;omega
 have:=key ws 0 h;have hs:900 < sizeLine:=small1000 (by decide);unfold PySem.JoinOk;rw [List.foldl_toArray];unfold Builtin.Str.tooLong;simp;omega
theorem ok_parts {f fn fw fh C fI CK fIk fOr fOf fOw:Addr}{fd fdn fdw fdh fdf:FuncData} (hC:Calm CX) (T:Tops K mg) (KC:KCls K mg C fI) (KS:KsCls K mg CK fIk fOr fOf fOw) (F:Fun K "parts_of" "parts_of" sPartsOf f fd)
  (DN:Def K mg "is_name" sIsName ["thing"] fn fdn) (DW:Def K mg "is_written_number" sWritten ["text", "most_figures"] fw fdw) (DH:Def K mg "has_form" sHasForm ["thing"] fh fdh) (Of:Fun K "of" "Kinds.of" sOf fOf fdf) (bOf:Binds K fdf ["self", "name"] []):FnOk P w K mg base CX 3 f fd ["kinds", "name"] (spParts CK C):=by
 have GH:FnOk P w K mg base CX 2 fh fdh ["thing"] spForm:=ok_form hC T DH.fn DN DW;have GOf:FnOk P w K mg base CX 2 fOf fdf ["self", "name"] (spOf CK):=ok_of hC T KS Of DN;refine Fun.okC F scPo (fun vs H Q E h=>?_) (fun cdv A outer s H vs Q E hr h=>?_)
 ·obtain ⟨kq,d,kvs,q,k,n,rfl,_⟩:=h;rfl
 ·obtain ⟨kq,d,kvs,q,k,n,rfl,hk,hp,hc,fin⟩:=h;have nd:=scPo.nd;have hl:=hp.len;have pl:=hp.le
  refine ⟨_,zA3 (zAw (zB0 (zB2 (zA7 GH hr rfl DH.at_ DH.fn.kp DH.bind .nil (passC hC) (zA0 (pv 1) zA2)))) zAq zAg)
   (zA3 (zAb (i:=2) nd rfl (Or.inl rfl) (zD3 PySem.F.plainAttrs_str PySem.F.slot_str_split PySem.F.type_str_split zE5 (pv 1) (zA0 zAe zA2)))
   (zA3 (zAb (i:=3) nd rfl (Or.inl rfl) zCc)
   (zA3 (zDa PassesOwn.never rfl (zAn (zDp (pv 2))) (zAc (i:=4) nd rfl (Or.inl rfl))
    (zA3 (zAw (zAp op_ne (zCx (zEk (pv 0) KS.cl KS.mOf GOf hr bOf .nil (passC hC) (zA0 (pv 4) zA2)) rfl) (pv 3) (nomark _)) zAq zAg)
    (zA6 (zAb (i:=3) nd rfl (Or.inl rfl) (pv 4)))))
   (zA3 (zAb (i:=5) nd rfl (Or.inl rfl) (zG6 (zAp zF8 (zA9 zAi rfl T.len PySem.boot_len (zA0 (pv 2) zA2)) zA4 (nomark _))
    (zD3 PySem.F.plainAttrs_str PySem.F.slot_str_join PySem.F.type_str_join (mt_join (K:=K) rfl) zAe (zA0 (zAz zBp (pv 2) zBf (zB9 (zDo zCg zA4))) zA2)) zCc))
   (zA6 (zAj (zBc (zA0 (pv 3) (zA0 (pv 5) (zA0 (zB3 zGq rfl T.int PyProof.Rows.boot_int (zA0 (zAs zAk (pv 2) (zDo zCg zA4) (fun _ _=>rfl)) zA2)) zA2)))))))))),?_⟩
  refine ⟨_,rfl,_,rfl,hp,fun H1 s1=>⟨_,rfl,iteF ?_⟩⟩;refine ⟨_,rfl,rfl,_,_,rfl,rfl,by decide +kernel,by omega,fun wa hwa=>?_⟩;rw [hp.split];have s2:Same H (upd H1 wa (.lst ((wordsP (q++[(k,n)])).map V.str))):=s1.trans (Same.new hwa);have e2:(upd H1 wa (.lst ((wordsP (q++[(k,n)])).map V.str))) wa=some (.lst ((wordsP (q++[(k,n)])).map V.str)):=zA1;generalize upd H1 wa (.lst ((wordsP (q++[(k,n)])).map V.str))=H2 at s2 e2 ⊢;refine ⟨_,rfl,wa,_,rfl,SqL.of e2,fun ea hea=>?_⟩;rw [zCp,zCz];have s3:Same H2 (upd H2 ea (.lst (((q++[(k,n)]).map (·.1)).map V.str))):=Same.new hea;have e3:(upd H2 ea (.lst (((q++[(k,n)]).map (·.1)).map V.str))) ea=some (.lst (((q++[(k,n)]).map (·.1)).map V.str)):=zA1;generalize upd H2 ea (.lst (((q++[(k,n)]).map (·.1)).map V.str))=H3 at s3 e3 ⊢;have s4:=s2.trans s3;obtain ⟨⟨dxk,hkq⟩,rd⟩:=hk;refine ⟨ea,rfl,⟨_,SqL.of e3⟩,zDh (K:=K) (a:=ea) (xs:=((q++[(k,n)]).map (·.1)).map V.str) (fun i σ H'=>∃ u,σ = [some (.ref kq),some (.str (showP (q++[(k,n)]))),some (.ref wa),some (ownV (aboveP none (q++[(k,n)]) i)),u,none]∧Same H3 H') ⟨none,rfl,Same.refl _⟩ (fun i σ H' _ ⟨_,_,e⟩=>SqL.of (e _ _ e3)) ?_ ?_⟩
  ·rintro i x σ H' hi ⟨u,rfl,s'⟩;rw [Za,Za] at hi;obtain ⟨m,hm,rfl⟩:=Option.map_eq_some_iff.mp hi;obtain ⟨r,hr',rfl⟩:=Option.map_eq_some_iff.mp hm;have nn:=(hp.ok r (Z3 hr')).1;have s5:=s4.trans s';obtain ⟨a0,dx,lf,hv,ha⟩:=hc.get hr';refine ⟨_,rfl,kq,dxk,_,rfl,s5 _ _ hkq,ks_no _ (by decide +kernel),_,rfl,kq,d,kvs,r.1,.ref a0,rfl,nn,⟨⟨dxk,s5 _ _ hkq⟩,zCi s5 rd⟩,hv,fun H6 s6=>?_⟩;refine ⟨a0,C,dx,_,_,rfl,s6 _ _ (s5 _ _ ha),KC.cl,KC.nO,zBs _ _ _,_,rfl,ownV_scal _,_,rfl,?_⟩;rw [decide_eq_true rfl];refine iteF ⟨_,rfl,⟨some (.str r.1),?_,s'.trans s6⟩⟩;show _=[_,_,_,some (ownV (((q++[(k,n)])[i]?).map (·.1))),_,_];rw [hr'];rfl
  ·rintro σ H' ⟨u,rfl,s'⟩;have s5:=s4.trans s';have s6:=s3.trans s';have ab:aboveP none (q++[(k,n)]) (((q++[(k,n)]).map (·.1)).map V.str).length=some k:=by
    rw [Z0,Z0,Z4];show ((q++[(k,n)])[q.length]?).map (·.1)=some k;simp
   rw [ab];have e5:=s6 _ _ e2;rw [zFc] at e5;have wl:(wordsP q++wordsP [(k,n)]).length=2 * q.length + 2:=by rw [Z4,zB4,zB4];rfl
   have la:atI ((wordsP q++wordsP [(k,n)]).map V.str) (-1)=some (.str (figs n)):=by
    unfold atI ixN;rw [if_neg (by decide),Z0,wl,if_pos (by omega)];show (((wordsP q++wordsP [(k,n)]).map V.str)[((-1:Int) + ((2 * q.length + 2:Nat):Int)).toNat]?)=_;rw [show ((-1:Int) + ((2 * q.length + 2:Nat):Int)).toNat=(wordsP q).length + 1 by rw [zB4];omega,Za,Zw (by omega)];rw [show (wordsP q).length + 1 - (wordsP q).length=1 by omega];rfl
   refine ⟨_,rfl,wa,_,rfl,.inl (SqL.of e5),_,_,rfl,rfl,_,rfl,?_⟩;have n10:=(hp.ok (k,n) (by simp)).2;rw [Z0,wl];cases q with
   | nil =>
    refine iteF ?_;refine ⟨_,rfl,_,rfl,_,rfl,_,rfl,wa,_,-1,_,rfl,rfl,SqL.of e5,la,(n:Int),rfl,by omega,by omega,by show 3≤sizeLine;decide,fun t ht=>?_⟩;exact fin t _ (s5.free ht) zA1 (s5.trans (Same.new ht))
   | cons r q' =>
    have lt:decide ((2:Int) < ((2 * (r :: q').length + 2:Nat):Int))=true:=decide_eq_true (by rw [Ze];omega);rw [lt];refine iteT ⟨rfl,_,rfl,_,rfl,_,rfl,wa,_,rfl,SqL.of e5,fun sa hsa=>?_⟩;rw [cut_m2 (by rw [Z0,wl];omega),← List.map_take,Z0,wl,show 2 * (r :: q').length + 2 - 2=(wordsP (r :: q')).length by rw [zB4];omega,List.take_left];have s7:Same H' (upd H' sa (.lst ((wordsP (r :: q')).map V.str))):=Same.new hsa;have e7:(upd H' sa (.lst ((wordsP (r :: q')).map V.str))) sa=some (.lst ((wordsP (r :: q')).map V.str)):=zA1;generalize upd H' sa (.lst ((wordsP (r :: q')).map V.str))=H7 at s7 e7 ⊢;have s8:=s5.trans s7;have e8:=s7 _ _ e5;have jo:PySem.JoinOk "." (wordsP (r :: q'))=true:=joinDot (zBd fun x hx=>⟨(hp.ok x (List.mem_append.mpr (.inl hx))).1.2.2,Zd (zC2 (hp.ok x (List.mem_append.mpr (.inl hx))).2) (by decide)⟩) (by rw [zB4];rw [Z4] at pl;omega);refine ⟨_,sa,_,rfl,rfl,SqL.of e7,jo,?_⟩;rw [show Txt.join "." (wordsP (r :: q'))=showP (r :: q') from PySem.StrLaws.glued_eq_join _ _];refine ⟨_,rfl,_,rfl,_,rfl,_,rfl,wa,_,-1,_,rfl,rfl,SqL.of e8,la,(n:Int),rfl,by omega,by omega,by show 3≤sizeLine;decide,fun t ht=>?_⟩;exact fin t _ (s8.free ht) zA1 (s8.trans (Same.new ht))
end
end L2.W
namespace L2.W
open PySem My
section
variable {P:Program}{w:World}{K:PySem.W.Frag}{mg:Str→Option Value}{base:Heap}{CX:CXT}
theorem scNo:FnScope ["kinds", "kind", "owner", "number", "above"] ["kinds", "kind", "owner", "number"] (defScope sNameOf):=⟨rfl,rfl,rfl,by decide +kernel,rfl,by decide +kernel,by decide +kernel⟩
end
end L2.W
namespace L2.W
open PySem My
theorem zAv (z:Str):PyData.strOk z=true ↔ ∀ c∈z.cps.toList,c < 0x110000:=by
 unfold PyData.strOk;rw [← Array.all_toList,List.all_eq_true];exact ⟨fun h c hc=>of_decide_eq_true (h c hc),fun h c hc=>decide_eq_true (h c hc)⟩
noncomputable def figC (c:Nat):Bool:=decide (c∈("0123456789" : Str).cps.toList)
noncomputable def writtenB (x:Str):Bool:=decide (1≤x.length) && (decide (x.length≤6) && (!(decide (1 < x.length) && Txt.startswith x "0") && x.cps.toList.all figC))
noncomputable def formB (x:Str):Bool:=decide ((Txt.split x ".").length % 2=0) && ((evens (Txt.split x ".")).all nameB && (odds (Txt.split x ".")).all writtenB)
noncomputable def formD:PyData→Bool
 | .str x=>formB x
 | _=>false
noncomputable def spWrittenG:Sp:=fun vs H Q _=>∃ x:Str,vs=[.str x,.int 6]∧x.length≤1000∧∀ H',Same H H'→Q (.bl (writtenB x)) H'
noncomputable def spFormG:Sp:=fun vs H Q _=>∃ v d,vs=[v]∧Has Any H v d∧∀ H',Same H H'→Q (.bl (formD d)) H'
theorem zGk {s:Str}:∀ {ws:List Str}{w:Str},w∈ws→(∀ c∈w.cps.toList,c∈(Str.join s ws).cps.toList)∧w.length + (ws.length - 1) * s.length≤(Str.join s ws).length
 | [],_,h=>nomatch h
 | [a],w,h=>by
  rw [List.mem_singleton.mp h];exact ⟨fun c hc=>hc,by show a.length + 0 * s.length≤a.length;omega⟩
 | a :: b :: r,w,h=>by
  have e:Str.join s (a :: b :: r)=a++s++Str.join s (b :: r):=zB1 s (ws:=[a]) (by simp) (by simp);rw [e];have l:((a :: b :: r).length - 1) * s.length=((b :: r).length - 1) * s.length + s.length:=by
   show (r.length + 1) * s.length=r.length * s.length + s.length;rw [Nat.succ_mul]
  have hl:(a++s++Str.join s (b :: r)).length=a.length + s.length + (Str.join s (b :: r)).length:=by rw [zAd,zAd]
  rw [l,hl];rcases List.mem_cons.mp h with rfl | h
  ·obtain ⟨_,h2⟩:=zGk (s:=s) (ws:=b :: r) (w:=b) Z9;exact ⟨fun c hc=>by rw [zA8,zA8];exact Zr _ (Zr _ hc),by omega⟩
  ·obtain ⟨h1,h2⟩:=zGk (s:=s) h;exact ⟨fun c hc=>by rw [zA8];exact Zq _ (h1 c hc),by omega⟩
theorem split_ne (x:Str):Txt.split x "."≠[]:=fun z=>by
 have:=PyProof.Rows.split_pos x ".";rw [z] at this;simp at this
theorem split_has {x w:Str} (hx:x.length≤1000) (ok:PyData.strOk x=true) (h:w∈Txt.split x "."):w.length≤1000∧PyData.strOk w=true∧(Txt.split x ".").length≤1001:=by
 obtain ⟨h1,h2⟩:=zGk (s:=".") h;rw [StrLaws.join_split] at h1 h2;have l1:(("." : Str)).length=1:=by decide +kernel
 rw [l1] at h2;refine ⟨by omega,?_,by omega⟩;rw [zAv] at ok ⊢;exact fun c hc=>ok c (h1 c hc)
theorem zF2 {α : Type}:∀ {l:List α}{a : α},a∈evens l→a∈l
 | [],_,h=>nomatch h
 | [_],_,h=>h
 | _ :: _ :: r,a,h=>by
  rcases List.mem_cons.mp h with rfl | h
  ·exact Z9
  ·exact Z6 _ (Z6 _ (zF2 h))
theorem odds_mem {α : Type}:∀ {l:List α}{a : α},a∈odds l→a∈l
 | [],_,h=>nomatch h
 | [_],_,h=>nomatch h
 | _ :: _ :: r,a,h=>by
  rcases List.mem_cons.mp h with rfl | h
  ·exact Z6 _ Z9
  ·exact Z6 _ (Z6 _ (odds_mem h))
section
variable {P:Program}{w:World}{K:PySem.W.Frag}{mg:Str→Option Value}{base:Heap}{CX:CXT}
theorem wr_tail {x:Str}{H:Hp}{R:Bool→Hp→Prop} (k:∀ H',Same H H'→R (x.cps.toList.all figC) H'):∀ d,H d=none→∃ (p:Addr) (ks:List Bool),([.ref d]:List V)=[.ref p]∧SqL K (upd H d (.lst ((x.cps.toList.filter fun _=>true).map fun c=>V.bl (figC c)))) p (ks.map V.bl)∧R (ks.all id) (upd H d (.lst ((x.cps.toList.filter fun _=>true).map fun c=>V.bl (figC c)))):=fun d hd=>by
 refine ⟨d,x.cps.toList.map figC,rfl,SqL.of ?_,?_⟩
 ·rw [zA1,List.filter_eq_self.mpr (fun _ _=>rfl),Zy];rfl
 ·rw [Ya];exact k _ (Same.new hd)
theorem ok_writtenG {f:Addr}{fd:FuncData} (T:Tops K mg) (F:Fun K "is_written_number" "is_written_number" sWritten f fd):FnOk P w K mg base CX 1 f fd ["text", "most_figures"] spWrittenG:=by
 refine Fun.okC F scWr (fun vs H Q E h=>?_) (fun cdv A outer s H vs Q E hr h=>?_)
 ·obtain ⟨x,rfl,_⟩:=h;rfl
 ·obtain ⟨x,rfl,hx,k⟩:=h;obtain ⟨tf,hfigs⟩:=T.figs;have hz:x.length≤sizeLine:=Zl (small1000 hx)
  refine ⟨_,zA3 (zAw (zB0 (zD9 op_le op_le zA4 (zA9 zB8 rfl T.len PySem.boot_len (zA0 (pv 0) zA2)) (pv 1))) (zA6 (zAj zBj)) zAg)
   (zA3 (zAw (PW.pt (zEf (zAp zF8 (zA9 zB8 rfl T.len PySem.boot_len (zA0 (pv 0) zA2)) zA4 (nomark _)) (zD0 (zB2 (zD3 PySem.F.plainAttrs_str PySem.F.slot_str_startswith PySem.F.type_str_startswith zDg (pv 0) (zA0 zAe zA2)))))) (zA6 (zAj zBj)) zAg)
   (zA6 (zAj (zA9 (zBl rfl) rfl T.all PyProof.Rows.boot_all (zA0 (zAu (T:=["sign"]) rfl ScOk.auto (zFj (pv 0)) (fun _ _ _ _=>zAc (i:=2) (by decide +kernel:(["text", "most_figures", "sign"]:List Str).Nodup) rfl (Or.inl rfl)) (fun _ _ _ _=>zB6)
     (fun _ _ _ _=>zD2 zEn (pv 2) (zBb (v:=.str "0123456789") rfl hfigs ⟨_,rfl⟩) rfl)) zA2))))),?_⟩
  have k0:writtenB x=false→∀ H',Same H H'→Q (.bl false) H':=fun e H' s=>by rw [← e];exact k _ s
  refine ⟨_,rfl,x,rfl,hz,_,_,rfl,rfl,_,rfl,?_⟩;refine ite2 (fun h1=>?_) (fun h1=>⟨_,rfl,iteT (k0 ?_ _ (Same.refl _))⟩);rotate_left
  ·unfold writtenB;rw [decide_eq_false (show ¬ 1≤x.length from fun z=>h1 (decide_eq_true (by omega)))];rfl
  have g1:1≤x.length:=by have:=of_decide_eq_true h1;omega
  refine ⟨_,rfl,_,_,rfl,rfl,_,rfl,?_⟩;by_cases g2:x.length≤6;rotate_left
  ·rw [decide_eq_false (show ¬ ((x.length:Int)≤6) by omega)];refine iteT (k0 ?_ _ (Same.refl _));unfold writtenB;rw [decide_eq_false g2];simp
  rw [decide_eq_true (show (x.length:Int)≤6 by omega)];refine iteF ⟨_,rfl,x,rfl,hz,_,_,rfl,rfl,_,rfl,?_⟩;have body:(!(decide (1 < x.length) && Txt.startswith x "0"))=true→∀ H',Same H H'→Q (.bl (x.cps.toList.all figC)) H':=fun e H' s'=>by
   have:writtenB x=x.cps.toList.all figC:=by
    unfold writtenB;rw [decide_eq_true g1,decide_eq_true g2,e];simp
   rw [← this];exact k H' s'
  refine ite2 (fun h2=>?_) (fun h2=>?_)
  ·have lt:1 < x.length:=by have:=of_decide_eq_true h2;omega
   refine ⟨_,rfl,rfl,_,_,rfl,rfl,_,rfl,?_⟩;cases es:Txt.startswith x "0" with
   | true =>
    refine iteT (k0 ?_ _ (Same.refl _));unfold writtenB;rw [decide_eq_true lt,es];simp
   | false =>
    refine iteF ?_;refine ⟨_,rfl,x,rfl,zC9 (fun _=>true) (fun c=>.bl (figC c)) hz (fun c Ry Rn q _=>?_) (wr_tail (R:=fun b H'=>Q (.bl b) H') (body (by rw [es];simp)))⟩;refine iteT (B:=Rn H) ⟨_,rfl,_,_,rfl,rfl,?_⟩;rw [PySem.StrLaws.found_one];exact q rfl
  ·refine iteF ?_;have lt:¬ 1 < x.length:=fun z=>h2 (decide_eq_true (by omega));refine ⟨_,rfl,x,rfl,zC9 (fun _=>true) (fun c=>.bl (figC c)) hz (fun c Ry Rn q _=>?_) (wr_tail (R:=fun b H'=>Q (.bl b) H') (body (by rw [decide_eq_false lt];simp)))⟩;refine iteT (B:=Rn H) ⟨_,rfl,_,_,rfl,rfl,?_⟩;rw [PySem.StrLaws.found_one];exact q rfl
theorem iteBT {c:Bool}{A B:Prop} (h:c=true) (x:A):if c=true then A else B:=by rw [if_pos h];exact x
theorem iteBF {c:Bool}{A B:Prop} (h:c=false) (x:B):if c=true then A else B:=by rw [if_neg (by rw [h];exact Zn)];exact x
theorem ok_formG {f fn fw:Addr}{fd fdn fdw:FuncData} (hC:Calm CX) (T:Tops K mg) (F:Fun K "has_form" "has_form" sHasForm f fd) (DN:Def K mg "is_name" sIsName ["thing"] fn fdn) (DW:Def K mg "is_written_number" sWritten ["text", "most_figures"] fw fdw):FnOk P w K mg base CX 2 f fd ["thing"] spFormG:=by
 have GN:FnOk P w K mg base CX 1 fn fdn ["thing"] spNameD:=zDe DN.fn T;have GW:FnOk P w K mg base CX 1 fw fdw ["text", "most_figures"] spWrittenG:=ok_writtenG T DW.fn;refine Fun.okC F scHf (fun vs H Q E h=>?_) (fun cdv A outer s H vs Q E hr h=>?_)
 ·obtain ⟨v,d,rfl,_⟩:=h;rfl
 ·obtain ⟨v,d,rfl,hd,k⟩:=h;have nd:=scHf.nd;obtain ⟨tm,hmost⟩:=T.mostF
  refine ⟨_,zA3 (zAw (zB0 (zB2 (zA9 zAy rfl T.isinst PyProof.Rows.boot_isinstance (zA0 (pv 0) (zA0 (zBq (v:=.ty "str") rfl T.str PyProof.Rows.boot_str rfl) zA2))))) (zA6 (zAj zBj)) zAg)
   (zA3 (zAb (i:=1) nd rfl (Or.inl rfl) (zD3 PySem.F.plainAttrs_str PySem.F.slot_str_split PySem.F.type_str_split zE5 (pv 0) (zA0 zAe zA2)))
   (zA3 (zAw (zAp op_ne (zAh zCd (zA9 zAi rfl T.len PySem.boot_len (zA0 (pv 1) zA2)) zA4) zA4 (nomark _)) (zA6 (zAj zBj)) zAg)
   (zA3 (zAw (zB0 (zB2 (zA9 (zBl rfl) rfl T.all PyProof.Rows.boot_all (zA0 (zAu (T:=["word"]) rfl ScOk.auto (zAn (zDp (pv 1))) (fun _ _ _ _=>zAc (i:=2) (by decide +kernel:(["thing", "words", "word"]:List Str).Nodup) rfl (Or.inl rfl)) (fun _ _ _ _=>zB6)
     (fun _ _ _ _=>zA7 GN hr rfl DN.at_ DN.fn.kp DN.bind .nil (passC hC) (zA0 (pv 2) zA2))) zA2)))) (zA6 (zAj zBj)) zAg)
   (zA6 (zAj (zA9 (zBl rfl) rfl T.all PyProof.Rows.boot_all (zA0 (zAu (T:=["word"]) rfl ScOk.auto (zAn (pe_odd (pv 1))) (fun _ _ _ _=>zAc (i:=2) (by decide +kernel:(["thing", "words", "word"]:List Str).Nodup) rfl (Or.inl rfl)) (fun _ _ _ _=>zB6)
     (fun _ _ _ _=>zA7 GW hr rfl DW.at_ DW.fn.kp DW.bind .nil (passC hC) (zA0 (pv 2) (zA0 (zBb (v:=.int 6) rfl hmost ⟨_,rfl⟩) zA2)))) zA2))))))),?_⟩
  have k0:formD d=false→∀ H',Same H H'→Q (.bl false) H':=fun e H' s'=>by rw [← e];exact k _ s'
  refine ⟨_,rfl,?_⟩;cases hd with
  | non=>exact ⟨_,_,_,_,_,rfl,.non,rfl,rfl,_,rfl,iteT (k0 rfl _ (Same.refl _))⟩
  | bl b=>exact ⟨_,_,_,_,_,rfl,(.bl b),rfl,rfl,_,rfl,iteT (k0 rfl _ (Same.refl _))⟩
  | int i=>exact ⟨_,_,_,_,_,rfl,(.int i),rfl,rfl,_,rfl,iteT (k0 rfl _ (Same.refl _))⟩
  | tup _ e _ _=>exact ⟨_,_,_,_,_,rfl,(.tup e),rfl,rfl,_,rfl,iteT (k0 rfl _ (Same.refl _))⟩
  | lst _ e _ _=>exact ⟨_,_,_,_,_,rfl,(.lst e),rfl,rfl,_,rfl,iteT (k0 rfl _ (Same.refl _))⟩
  | str x hx ho =>
   refine ⟨_,_,_,_,_,rfl,.str _,rfl,rfl,_,rfl,iteF ?_⟩;refine ⟨_,rfl,rfl,_,_,rfl,rfl,by decide +kernel,by omega,fun wa hwa=>?_⟩;have wall:∀ z∈Txt.split x ".",z.length≤1000∧PyData.strOk z=true∧(Txt.split x ".").length≤1001:=fun z hz=>split_has hx ho hz;have wl:(Txt.split x ".").length≤sizeLine:=by
    cases e:Txt.split x "." with
    | nil=>exact Zz _
    | cons a r=>have:=(wall a (by rw [e];exact Z9)).2.2;rw [e] at this;rw [sizeLine_eq];omega
   have k':∀ b:Bool,formB x=b→∀ H',Same H H'→Q (.bl b) H':=fun b e H' s'=>by rw [← e];exact k H' s'
   unfold formB at k';have w1:=PyProof.Rows.split_pos x ".";generalize Txt.split x "." = ws at hwa wall wl k' w1 ⊢;have s1:Same H (upd H wa (.lst (ws.map V.str))):=Same.new hwa;have e1:(upd H wa (.lst (ws.map V.str))) wa=some (.lst (ws.map V.str)):=zA1;generalize upd H wa (.lst (ws.map V.str))=H1 at s1 e1 ⊢;refine ⟨_,rfl,wa,_,rfl,.inl (SqL.of e1),_,_,rfl,rfl,(by show (0:Int) < 2;decide),rfl,_,rfl,?_⟩;by_cases c:ws.length % 2=0;rotate_left
   ·refine iteBT ?_ (k' false (by rw [decide_eq_false c];rfl) _ s1);rw [Z0,decide_eq_false (by intro z;injection z with z;omega)];rfl
   refine iteBF ?_ ?_
   ·rw [Z0,decide_eq_true (show V.int (((ws.length:Nat):Int) % 2)=V.int 0 by rw [show ((ws.length:Nat):Int) % 2=0 by omega])];rfl
   refine ⟨_,rfl,wa,_,rfl,SqL.of e1,fun ea hea=>⟨ea,rfl,⟨_,SqL.of zA1⟩,?_⟩⟩;rw [zCp];have s2:Same H1 (upd H1 ea (.lst ((evens ws).map V.str))):=Same.new hea;have e2:(upd H1 ea (.lst ((evens ws).map V.str))) ea=some (.lst ((evens ws).map V.str)):=zA1;generalize upd H1 ea (.lst ((evens ws).map V.str))=H2 at s2 e2 ⊢;have el:=zGm ws;have ol:=odds_le ws;refine zAl (xs:=(evens ws).map V.str) (fun i ys H'=>Same H2 H'∧ys=(((evens ws).take i).map nameB).map V.bl) ⟨Same.refl _,rfl⟩ (fun i ys H' q=>SqL.of (q.1 _ _ e2)) (fun i ys H' hi q=>?_) ?_ ?_
   ·rw [q.2,Z0,Z0];have:=Yg i (evens ws);omega
   ·rintro i z ys H' hi ⟨s',rfl⟩ N hN;rw [Za] at hi;obtain ⟨n,hn,rfl⟩:=Option.map_eq_some_iff.mp hi;obtain ⟨a1,a2,_⟩:=wall n (zF2 (Z3 hn));refine pick ?_;refine ⟨_,rfl,_,.str n,rfl,.str n a1 a2,fun H3 s3=>hN _ _ ⟨s'.trans s3,?_⟩⟩;rw [Zk,hn,Zh,Zh];rfl
   ·rintro ys H' ⟨s',rfl⟩ c2 hc2;rw [Z0,Zm];have s3:Same H2 (upd H' c2 (.lst (((evens ws).map nameB).map V.bl))):=s'.trans (Same.new hc2);refine ⟨c2,(evens ws).map nameB,rfl,SqL.of zA1,_,rfl,?_⟩;rw [Ya];have s4:=s2.trans s3;generalize upd H' c2 (.lst (((evens ws).map nameB).map V.bl))=H4 at s4 ⊢;cases ee:(evens ws).all (id ∘ nameB) with
    | false=>exact iteT (k' false (by rw [show (evens ws).all nameB=false from ee];simp) _ (s1.trans s4))
    | true =>
     refine iteF ?_;refine ⟨_,rfl,wa,_,rfl,SqL.of (s4 _ _ e1),(by rw [Z0];exact w1),fun oa hoa=>⟨oa,rfl,⟨_,SqL.of zA1⟩,?_⟩⟩;rw [zGe];have s5:Same H4 (upd H4 oa (.lst ((odds ws).map V.str))):=Same.new hoa;have e5:(upd H4 oa (.lst ((odds ws).map V.str))) oa=some (.lst ((odds ws).map V.str)):=zA1;generalize upd H4 oa (.lst ((odds ws).map V.str))=H5 at s5 e5 ⊢;refine zAl (xs:=(odds ws).map V.str) (fun i ys H'=>Same H5 H'∧ys=(((odds ws).take i).map writtenB).map V.bl) ⟨Same.refl _,rfl⟩ (fun i ys H' q=>SqL.of (q.1 _ _ e5)) (fun i ys H' hi q=>?_) ?_ ?_
     ·rw [q.2,Z0,Z0];have:=Yg i (odds ws);omega
     ·rintro i z ys H' hi ⟨s',rfl⟩ N hN;rw [Za] at hi;obtain ⟨n,hn,rfl⟩:=Option.map_eq_some_iff.mp hi;obtain ⟨a1,a2,_⟩:=wall n (odds_mem (Z3 hn));refine pick ?_;refine ⟨_,rfl,n,rfl,a1,fun H3 s3=>hN _ _ ⟨s'.trans s3,?_⟩⟩;rw [Zk,hn,Zh,Zh];rfl
     ·rintro ys H' ⟨s',rfl⟩ c3 hc3;rw [Z0,Zm];refine ⟨c3,(odds ws).map writtenB,rfl,SqL.of zA1,?_⟩;rw [Ya];refine k' _ ?_ _ ((s1.trans s4).trans (s5.trans (s'.trans (Same.new hc3))));rw [decide_eq_true c,show (evens ws).all nameB=true from ee];rfl
end
end L2.W
namespace L2.W
open PySem My
structure XTop (K:PySem.W.Frag) (mg:Str→Option Value) (x:Str) (CN:Addr):Prop where
 at_:mg x=some (.ref CN)
 cl:PySem.W.excIn K CN [.type "ValueError",.type "Exception",.type "BaseException",.type "object"] "ValueError.__new__" = true
inductive NoNm (K:PySem.W.Frag) (H:Hp) (kvs:List (Key×V)):V→Prop where
 | ty {v:V}{t:Value} (h:TyOf K H v t) (e:PySem.W.kitOne K t (.type "str")=some false):NoNm K H kvs v
 | st {n:Str} (l:n.length≤1000) (h:nameB n=false):NoNm K H kvs (.str n)
 | out {n:Str} (l:n.length≤1000) (h:nameB n=true) (e:valV kvs (Sum.inr n)=none):NoNm K H kvs (.str n)
noncomputable def Refused (C1:Addr) (H:Hp) (E:XK):Prop:=∀ (e:Addr) (H':Hp),H e=none→H' e=some (XO C1 e)→Same H H'→E (.ref C1) (some e) H'
noncomputable def spOfNo (K:PySem.W.Frag) (CK C1:Addr):Sp:=fun vs H _ E=>∃ (p d:Addr) (kvs:List (Key×V)) (v:V),vs=[.ref p,v]∧NoNm K H kvs v∧KindsAt CK H p d kvs∧Refused C1 H E
section
variable {P:Program}{w:World}{K:PySem.W.Frag}{mg:Str→Option Value}{base:Heap}
theorem ok_ofNo {f fn CK C1 fIk fOr fOf fOw:Addr}{fd fdn:FuncData} (T:Tops K mg) (XN:XTop K mg "NoName" C1) (KS:KsCls K mg CK fIk fOr fOf fOw) (F:Fun K "of" "Kinds.of" sOf f fd) (DN:Def K mg "is_name" sIsName ["thing"] fn fdn):FnOk P w K mg base (CXM P w) 2 f fd ["self", "name"] (spOfNo K CK C1):=by
 have GN:FnOk P w K mg base (CXM P w) 1 fn fdn ["thing"] (spIsName K):=ok_isName DN.fn T;refine Fun.okX F scOf (fun vs H Q E h=>?_) (fun cdv A outer s H vs Q E hr h=>?_)
 ·obtain ⟨p,d,kvs,v,rfl,_⟩:=h;rfl
 ·obtain ⟨p,d,kvs,v,rfl,bad,⟨⟨dx,hp⟩,rd⟩,k⟩:=h;have hu:=hu_of hr
  refine ⟨_,zA3 (zAw (PW.pt (zF7 (zB0 (zB2 (zA7 GN hr rfl DN.at_ DN.fn.kp DN.bind .nil (passC calmM) (zA0 (pv 1) zA2)))) (zCw (zBz (zCj hu (pv 1) (zCx (pv 0) rfl)))))) (zA6 (zC0 (C:=C1) (W:=fun _ e H'=>E (.ref C1) (some e) H') XN.cl rfl XN.at_ rfl (zA0 zAe zA2) (fun pins σ H s e I he fr w=>zEa I he (.inl fr) w))) zAg)
   zAq,?_⟩
  have raised:∀ H1:Hp,Same H H1→1≤sizeLine∧∀ e,H1 e=none→E (.ref C1) (some e) (upd H1 e (XO C1 e)):=fun H1 s1=>⟨Zl (small1000 (by decide)),fun e he=>k e _ (s1.free he) zA1 (s1.trans (Same.new he))⟩;cases bad with
  | ty h e=>exact ⟨_,rfl,.inr ⟨_,_,rfl,h,e,_,rfl,iteT (raised _ (Same.refl _))⟩⟩
  | @st n l h =>
   refine ⟨_,rfl,.inl ⟨n,rfl,l,fun H1 s1=>⟨_,rfl,?_⟩⟩⟩;rw [h];exact iteT (raised _ s1)
  | @out n l h e =>
   refine ⟨_,rfl,.inl ⟨n,rfl,l,fun H1 s1=>⟨_,rfl,?_⟩⟩⟩;rw [h];refine iteF ⟨_,rfl,_,rfl,p,CK,dx,_,_,rfl,s1 _ _ hp,KS.cl,KS.nB,ks_by _,d,_,rfl,.inl ⟨kvs,Sum.inr n,zCi s1 rd,rfl,rfl⟩,_,rfl,?_⟩;rw [e];exact iteT (raised _ s1)
end
noncomputable def lamP:Expr→Arguments
 | .Lambda p _ _ _=>p
 | _=>⟨[],[],none,[],[],none,[]⟩
noncomputable def lamB:Expr→Expr
 | .Lambda _ b _ _=>b
 | _=>.Constant .none 0 ⟨0,0,0,0⟩
noncomputable def lamS:Expr→Scope
 | .Lambda _ _ s _=>s
 | _=>default
noncomputable def forBody:Stmt→List Stmt
 | .For _ _ b _ _=>b
 | _=>[]
noncomputable def stAt (l:List Stmt) (i:Nat):Stmt:=l.getD i (.Pass ⟨0,0,0,0⟩)
end L2.W
namespace L2.W
open PySem My
noncomputable def walkB (own:Str→Option (Option Str)):Option Str→List Str→Bool
 | _,[]=>true
 | a,k :: t=>decide (own k=some a) && walkB own (some k) t
noncomputable def goodD (own:Str→Option (Option Str)):PyData→Bool
 | .str x=>formB x && walkB own none (evens (Txt.split x "."))
 | _=>false
noncomputable def OwnOk (C:Addr) (H:Hp) (kvs:List (Key×V)) (own:Str→Option (Option Str)):Prop:=∀ k:Str,match own k with
 | none=>valV kvs (Sum.inr k)=none
 | some o=>KOf C H kvs k o
theorem OwnOk.mono {C:Addr}{H H':Hp}{kvs:List (Key×V)}{own:Str→Option (Option Str)} (h:OwnOk C H kvs own) (s:Same H H'):OwnOk C H' kvs own:=fun k=>by
 have:=h k;cases e:own k with
 | none=>rw [e] at this;exact this
 | some o=>rw [e] at this;exact KOf.mono this s
theorem OwnOk.no {C:Addr}{H:Hp}{kvs:List (Key×V)}{own:Str→Option (Option Str)} (h:OwnOk C H kvs own) {k:Str} (e:own k=none):valV kvs (Sum.inr k)=none:=by have:=h k;rw [e] at this;exact this
theorem OwnOk.yes {C:Addr}{H:Hp}{kvs:List (Key×V)}{own:Str→Option (Option Str)} (h:OwnOk C H kvs own) {k:Str}{o:Option Str} (e:own k=some o):KOf C H kvs k o:=by have:=h k;rw [e] at this;exact this
noncomputable def spPartsNo (CK C C1:Addr):Sp:=fun vs H _ E=>∃ (kq d:Addr) (kvs:List (Key×V)) (own:Str→Option (Option Str)) (v:V) (dd:PyData),vs=[.ref kq,v]∧KindsAt CK H kq d kvs∧OwnOk C H kvs own∧Has Any H v dd∧goodD own dd=false∧Refused C1 H E
noncomputable def aboveL (ks:List Str):Nat→Option Str
 | 0=>none
 | i + 1=>ks[i]?
theorem Refused.same {C1:Addr}{H H':Hp}{E:XK} (h:Refused C1 H E) (s:Same H H'):Refused C1 H' E:=fun e H'' he h1 s1=>h e H'' (s.free he) h1 (s.trans s1)
theorem scal_own2 (o a:Option Str):scal (ownV o) (ownV a)=true:=by cases o <;> cases a <;> rfl
theorem ownV_inj {o a:Option Str} (h:ownV o=ownV a):o=a:=by
 cases o <;> cases a
 ·rfl
 ·cases h
 ·cases h
 ·injection h with h;rw [h]
theorem nameB_len {x:Str} (h:nameB x=true):x.length≤8:=by
 unfold nameB at h;simp only [Zu,decide_eq_true_eq] at h;omega
section
variable {P:Program}{w:World}{K:PySem.W.Frag}{mg:Str→Option Value}{base:Heap}
theorem ok_partsNo {f fn fw fh C fI CK C1 fIk fOr fOf fOw:Addr}{fd fdn fdw fdh fdf:FuncData} (T:Tops K mg) (XN:XTop K mg "NoName" C1) (KC:KCls K mg C fI) (KS:KsCls K mg CK fIk fOr fOf fOw) (F:Fun K "parts_of" "parts_of" sPartsOf f fd)
  (DN:Def K mg "is_name" sIsName ["thing"] fn fdn) (DW:Def K mg "is_written_number" sWritten ["text", "most_figures"] fw fdw) (DH:Def K mg "has_form" sHasForm ["thing"] fh fdh) (Of:Fun K "of" "Kinds.of" sOf fOf fdf) (bOf:Binds K fdf ["self", "name"] []):FnOk P w K mg base (CXM P w) 3 f fd ["kinds", "name"] (spPartsNo CK C C1):=by
 have GH:FnOk P w K mg base (CXM P w) 2 fh fdh ["thing"] spFormG:=ok_formG calmM T DH.fn DN DW;have GG:FnOk P w K mg base (CXM P w) 2 fOf fdf ["self", "name"] (spOf CK):=ok_of calmM T KS Of DN;have GB:FnOk P w K mg base (CXM P w) 2 fOf fdf ["self", "name"] (spOfNo K CK C1):=ok_ofNo T XN KS Of DN;have GOf:=GG.or GB;refine Fun.okX F scPo (fun vs H Q E h=>?_) (fun cdv A outer s H vs Q E hr h=>?_)
 ·obtain ⟨kq,d,kvs,own,v,dd,rfl,_⟩:=h;rfl
 ·obtain ⟨kq,d,kvs,own,v,dd,rfl,hk,how,hd,hbad,k⟩:=h;have nd:=scPo.nd
  refine ⟨_,zA3 (zAw (zB0 (zB2 (zA7 GH hr rfl DH.at_ DH.fn.kp DH.bind .nil (passC calmM) (zA0 (pv 1) zA2))))
     (zA6 (zC0 (C:=C1) (W:=fun _ e H'=>E (.ref C1) (some e) H') XN.cl rfl XN.at_ rfl (zA0 zAe zA2) (fun pins σ H s e I he fr w=>zEa I he (.inl fr) w))) zAg)
     (zA3 (zAb (i:=2) nd rfl (Or.inl rfl) (zD3 PySem.F.plainAttrs_str PySem.F.slot_str_split PySem.F.type_str_split zE5 (pv 1) (zA0 zAe zA2)))
     (zA3 (zAb (i:=3) nd rfl (Or.inl rfl) zCc)
     (zA3 (zDa PassesOwn.leaving rfl (zAn (zDp (pv 2))) (zAc (i:=4) nd rfl (Or.inl rfl))
     (zA3 (zAw (zAp op_ne (zCx (zEk (pv 0) KS.cl KS.mOf GOf hr bOf .nil pass_on (zA0 (pv 4) zA2)) rfl) (pv 3) (nomark _))
     (zA6 (zC0 (C:=C1) (W:=fun _ e H'=>E (.ref C1) (some e) H') XN.cl rfl XN.at_ rfl (zA0 zAe zA2) (fun pins σ H s e I he fr w=>zEa I he (.inl fr) w))) zAg)
     (zA6 (zAb (i:=3) nd rfl (Or.inl rfl) (pv 4)))))
     zAq))),?_⟩
  have raised:∀ H1:Hp,Same H H1→1≤sizeLine∧∀ e,H1 e=none→E (.ref C1) (some e) (upd H1 e (XO C1 e)):=fun H1 s1=>⟨Zl (small1000 (by decide)),fun e he=>k e _ (s1.free he) zA1 (s1.trans (Same.new he))⟩;refine ⟨_,rfl,_,dd,rfl,hd,fun H1 s1=>⟨_,rfl,?_⟩⟩;cases ef:formD dd with
  | false=>exact iteT (raised H1 s1)
  | true =>
   refine iteF ?_;obtain ⟨x,rfl⟩:∃ x,dd=.str x:=by
    cases dd with
    | str x=>exact ⟨x,rfl⟩
    | _=>cases ef
   obtain ⟨rfl,hx,hxo⟩:=hd.str_inv;have hf:formB x=true:=ef;have hw:walkB own none (evens (Txt.split x "."))=false:=by
    have h:(formB x && walkB own none (evens (Txt.split x ".")))=false:=hbad;rw [hf,Yk] at h;exact h
   refine ⟨_,rfl,rfl,_,_,rfl,rfl,by decide +kernel,by omega,fun wa hwa=>?_⟩;have s2:Same H (upd H1 wa (.lst ((Txt.split x ".").map V.str))):=s1.trans (Same.new hwa);have e2:(upd H1 wa (.lst ((Txt.split x ".").map V.str))) wa=some (.lst ((Txt.split x ".").map V.str)):=zA1;generalize upd H1 wa (.lst ((Txt.split x ".").map V.str))=H2 at s2 e2 ⊢;refine ⟨_,rfl,wa,_,rfl,SqL.of e2,fun ea hea=>?_⟩;rw [zCp];have hnm:∀ k∈evens (Txt.split x "."),nameOk k:=fun k hk=>by
    obtain ⟨_,a2,_⟩:=split_has hx hxo (zF2 hk);unfold formB at hf;simp only [Zu] at hf;have hb:=List.all_eq_true.mp hf.2.1 k hk;exact ⟨hb,a2,nameB_len hb⟩
   generalize evens (Txt.split x ".")=ks at hw hnm ⊢;have s3:Same H2 (upd H2 ea (.lst (ks.map V.str))):=Same.new hea;have e3:(upd H2 ea (.lst (ks.map V.str))) ea=some (.lst (ks.map V.str)):=zA1;generalize upd H2 ea (.lst (ks.map V.str))=H3 at s3 e3 ⊢;have s4:=s2.trans s3;obtain ⟨⟨dxk,hkq⟩,rd⟩:=hk;refine ⟨ea,rfl,⟨_,SqL.of e3⟩,zDh (K:=K) (a:=ea) (xs:=ks.map V.str) (fun i σ H'=>∃ u,σ = [some (.ref kq),some (.str x),some (.ref wa),some (ownV (aboveL ks i)),u,none]∧Same H3 H'∧walkB own (aboveL ks i) (ks.drop i)=false) ⟨none,rfl,Same.refl _,hw⟩ (fun i σ H' _ hz=>by obtain ⟨_,_,s',_⟩:=hz;exact SqL.of (s' _ _ e3)) ?_ ?_⟩
   ·rintro i y σ H' hi ⟨u,rfl,s',hwi⟩;rw [Za] at hi;obtain ⟨kd,hkd,rfl⟩:=Option.map_eq_some_iff.mp hi;have nn:=hnm kd (Z3 hkd);have s5:=s4.trans s';have il:i < ks.length:=(List.getElem?_eq_some_iff.mp hkd).1;have edrop:ks.drop i=kd :: ks.drop (i + 1):=by
     rw [List.drop_eq_getElem_cons il]
     congr 1
     exact Zi ((Z1 il).symm.trans hkd)
    rw [edrop] at hwi;have hwi':(decide (own kd=some (aboveL ks i)) && walkB own (some kd) (ks.drop (i + 1)))=false:=hwi;cases eo:own kd with
    | none=>exact ⟨_,rfl,kq,dxk,_,rfl,s5 _ _ hkq,ks_no _ (by decide +kernel),_,rfl,.inr ⟨kq,d,kvs,.str kd,rfl,.out (Zd nn.2.2 (by decide)) nn.1 (how.no eo),⟨⟨dxk,s5 _ _ hkq⟩,zCi s5 rd⟩,k.same s5⟩⟩
    | some o =>
     obtain ⟨a0,dx,lf,hv,ha⟩:=how.yes eo;refine ⟨_,rfl,kq,dxk,_,rfl,s5 _ _ hkq,ks_no _ (by decide +kernel),_,rfl,.inl ⟨kq,d,kvs,kd,.ref a0,rfl,nn,⟨⟨dxk,s5 _ _ hkq⟩,zCi s5 rd⟩,hv,fun H6 s6=>?_⟩⟩;refine ⟨a0,C,dx,_,_,rfl,s6 _ _ (s5 _ _ ha),KC.cl,KC.nO,zBs _ _ _,_,rfl,scal_own2 _ _,_,rfl,?_⟩;by_cases c:o=aboveL ks i
     ·rw [decide_eq_true (show ownV o=ownV (aboveL ks i) by rw [c])];refine iteF ⟨_,rfl,⟨some (.str kd),?_,s'.trans s6,?_⟩⟩
      ·show _=[_,_,_,some (ownV ks[i]?),_,_];rw [hkd];rfl
      ·rw [eo,c,decide_eq_true rfl,Yk] at hwi';show walkB own ks[i]? _=false;rw [hkd];exact hwi'
     ·rw [decide_eq_false (fun z=>c (ownV_inj z))];exact iteT (raised H6 (s5.trans s6))
   ·rintro σ H' ⟨u,rfl,s',hwi⟩;rw [Z0,List.drop_length] at hwi;cases hwi
end
end L2.W
namespace L2.W
open PySem My
noncomputable def numB:PyData→Bool
 | .int i=>decide (0≤i) && decide (i≤999999)
 | _=>false
inductive NoThree (own:Str→Option (Option Str)):PyData→PyData→PyData→Prop where
 | kind {dk do_ dn:PyData} (h:∀ k a,dk=.str k→own k=some a→nameB k=false):NoThree own dk do_ dn
 | num {k:Str}{a:Option Str}{do_ dn:PyData} (hn:nameOk k) (h:own k=some a) (e:numB dn=false):NoThree own (.str k) do_ dn
 | own0 {k:Str}{do_ dn:PyData} (hn:nameOk k) (h:own k=some none) (e:numB dn=true) (ho:do_≠.none):NoThree own (.str k) do_ dn
 | own1 {k o:Str}{do_ dn:PyData} (hn:nameOk k) (h:own k=some (some o)) (e:numB dn=true) (ho:goodD own do_=false):NoThree own (.str k) do_ dn
 | own2 {k o:Str}{dn:PyData}{q:List (Str×Nat)}{k0:Str}{n0:Nat} (hn:nameOk k) (h:own k=some (some o)) (e:numB dn=true) (pok:PathOk (q++[(k0,n0)])) (ch:Chain (fun k o=>own k=some o) none (q++[(k0,n0)])) (ne:k0≠o):NoThree own (.str k) (.str (showP (q++[(k0,n0)]))) dn
noncomputable def spNameNo (K:PySem.W.Frag) (CK C C1:Addr):Sp:=fun vs H _ E=>∃ (kq d:Addr) (kvs:List (Key×V)) (own:Str→Option (Option Str)) (vk vo vn:V) (dk do_ dn:PyData),vs=[.ref kq,vk,vo,vn]∧KindsAt CK H kq d kvs∧OwnOk C H kvs own∧Has Any H vk dk∧Has Any H vo do_∧Has Any H vn dn∧NoThree own dk do_ dn∧Refused C1 H E
theorem whole_ty {H:Hp}{K:PySem.W.Frag}{v:V}{d:PyData} (h:Has Any H v d):∃ t b c,TyOf K H v t∧PySem.W.kitOne K t (.type "int")=some b∧PySem.W.kitOne K t (.type "bool")=some c∧(b && !c)=(match d with | .int _=>true | _=>false):=by
 cases h with
 | non=>exact ⟨_,_,_,.non,rfl,rfl,rfl⟩
 | bl b=>exact ⟨_,_,_,.bl b,rfl,rfl,rfl⟩
 | int i=>exact ⟨_,_,_,.int i,rfl,rfl,rfl⟩
 | str x _ _=>exact ⟨_,_,_,.str x,rfl,rfl,rfl⟩
 | lst _ e _ _=>exact ⟨_,_,_,.lst e,rfl,rfl,rfl⟩
 | tup _ e _ _=>exact ⟨_,_,_,.tup e,rfl,rfl,rfl⟩
theorem non_iff {H:Hp}{v:V}{d:PyData} (h:Has Any H v d):v=.non ↔ d=.none:=by
 cases h <;> simp
theorem no_nm {K:PySem.W.Frag}{H:Hp}{kvs:List (Key×V)}{C:Addr}{own:Str→Option (Option Str)} (how:OwnOk C H kvs own) {v:V}{d:PyData} (h:Has Any H v d) (hb:∀ k a,d=.str k→own k=some a→nameB k=false):NoNm K H kvs v:=by
 cases h with
 | non=>exact .ty .non rfl
 | bl b=>exact .ty (.bl b) rfl
 | int i=>exact .ty (.int i) rfl
 | lst _ e _ _=>exact .ty (.lst e) rfl
 | tup _ e _ _=>exact .ty (.tup e) rfl
 | str x hx _ =>
  cases en:nameB x with
  | false=>exact .st hx en
  | true =>
   refine .out hx en ?_;cases eo:own x with
   | none=>exact how.no eo
   | some a=>have:=hb x a rfl eo;rw [en] at this;cases this
section
variable {P:Program}{w:World}{K:PySem.W.Frag}{mg:Str→Option Value}{base:Heap}
theorem ok_nameNo {f fn fi fp C fI CK C1 fIk fOr fOf fOw:Addr}{fd fdn fdi fdp fdf:FuncData} (T:Tops K mg) (XN:XTop K mg "NoName" C1) (KC:KCls K mg C fI) (KS:KsCls K mg CK fIk fOr fOf fOw) (F:Fun K "name_of" "name_of" sNameOf f fd)
  (DN:Def K mg "is_name" sIsName ["thing"] fn fdn) (DI:Def K mg "is_whole" sIsWhole ["thing"] fi fdi) (DP:Def K mg "parts_of" sPartsOf ["kinds", "name"] fp fdp) (GG:FnOk P w K mg base (CXM P w) 3 fp fdp ["kinds", "name"] (spParts CK C)) (GB:FnOk P w K mg base (CXM P w) 3 fp fdp ["kinds", "name"] (spPartsNo CK C C1)) (Of:Fun K "of" "Kinds.of" sOf fOf fdf) (bOf:Binds K fdf ["self", "name"] []):FnOk P w K mg base (CXM P w) 4 f fd ["kinds", "kind", "owner", "number"] (spNameNo K CK C C1):=by
 have GI:FnOk P w K mg base (CXM P w) 1 fi fdi ["thing"] (spIsWhole K):=ok_isWhole DI.fn T;have GP:=GG.or GB;have GOf:=(ok_of (P:=P) (w:=w) (base:=base) calmM T KS Of DN).or (ok_ofNo T XN KS Of DN);refine Fun.okX F scNo (fun vs H Q E h=>?_) (fun cdv A outer s H vs Q E hr h=>?_)
 ·obtain ⟨kq,d,kvs,own,vk,vo,vn,dk,do_,dn,rfl,_⟩:=h;rfl
 ·obtain ⟨kq,d,kvs,own,vk,vo,vn,dk,do_,dn,rfl,hk,how,hdk,hdo,hdn,bad,k⟩:=h;have nd:=scNo.nd;obtain ⟨tm,hmost⟩:=T.mostN;have hr1:=hr.mono (show 1≤3 by decide);have hr2:=hr.mono (show 2≤3 by decide)
  refine ⟨_,zA3 (zAb (i:=4) nd rfl (Or.inl rfl) (zCx (zEk (pv 0) KS.cl KS.mOf GOf hr2 bOf .nil pass_on (zA0 (pv 1) zA2)) rfl))
     (zA3 (zAw (PW.pt (zF7 (zB0 (zB2 (zA7 GI hr1 rfl DI.at_ DI.fn.kp DI.bind .nil (passC calmM) (zA0 (pv 3) zA2)))) (zCw (zB0 (zD9 op_le op_le zA4 (pv 3) (zBb (v:=.int 999999) rfl hmost ⟨_,rfl⟩))))))
     (zA6 (zC0 (C:=C1) (W:=fun _ e H'=>E (.ref C1) (some e) H') XN.cl rfl XN.at_ rfl (zA0 zAe zA2) (fun pins σ H s e I he fr w=>zEa I he (.inl fr) w))) zAg)
     (zA3 (zAw (zBz (zFk (pv 4)))
     (zA3 (zAw (zBz (zDq (pv 2)))
     (zA6 (zC0 (C:=C1) (W:=fun _ e H'=>E (.ref C1) (some e) H') XN.cl rfl XN.at_ rfl (zA0 zAe zA2) (fun pins σ H s e I he fr w=>zEa I he (.inl fr) w))) zAg)
     zAq) zAg)
     (zA3 (zAw (zAp op_ne (zAs zBr (zA7 GP hr rfl DP.at_ DP.fn.kp DP.bind .nil pass_on (zA0 (pv 0) (zA0 (pv 2) zA2))) zA4 (fun _ _=>rfl)) (pv 4) (nomark _))
     (zA6 (zC0 (C:=C1) (W:=fun _ e H'=>E (.ref C1) (some e) H') XN.cl rfl XN.at_ rfl (zA0 zAe zA2) (fun pins σ H s e I he fr w=>zEa I he (.inl fr) w))) zAg)
     zAq))),?_⟩
  have raised:∀ H1:Hp,Same H H1→1≤sizeLine∧∀ e,H1 e=none→E (.ref C1) (some e) (upd H1 e (XO C1 e)):=fun H1 s1=>⟨Zl (small1000 (by decide)),fun e he=>k e _ (s1.free he) zA1 (s1.trans (Same.new he))⟩;obtain ⟨⟨dxk,hkq⟩,rd⟩:=hk;have go:∀ {k':Str}{a:Option Str},nameOk k'→own k'=some a→Has Any H vk (.str k')→∃ a0 dx lf,vk=.str k'∧valV kvs (Sum.inr k')=some (.ref a0)∧H a0=some (.ins C dx (kflds (.str k') (.ref lf) (ownV a))):=fun {k' a} hn h hv=>by
   obtain ⟨rfl,_⟩:=hv.str_inv;obtain ⟨a0,dx,lf,e1,e2⟩:=how.yes h;exact ⟨a0,dx,lf,rfl,e1,e2⟩
  have num1:numB dn=true→∃ n:Int,vn=.int n∧0≤n∧n≤999999:=fun e=>by
   cases hdn with
   | int i =>
    unfold numB at e;simp only [Zu,decide_eq_true_eq] at e;exact ⟨i,rfl,e.1,e.2⟩
   | _=>cases e
  cases bad with
  | kind h=>exact ⟨_,rfl,kq,dxk,_,rfl,hkq,ks_no _ (by decide +kernel),_,rfl,.inr ⟨kq,d,kvs,vk,rfl,no_nm how hdk h,⟨⟨dxk,hkq⟩,rd⟩,k⟩⟩
  | @num k' a _ _ hn h e =>
   obtain ⟨a0,dx,lf,rfl,hv,ha⟩:=go hn h hdk;refine ⟨_,rfl,kq,dxk,_,rfl,hkq,ks_no _ (by decide +kernel),_,rfl,.inl ⟨kq,d,kvs,k',.ref a0,rfl,hn,⟨⟨dxk,hkq⟩,rd⟩,hv,fun H1 s1=>?_⟩⟩;refine ⟨a0,C,dx,_,_,rfl,s1 _ _ ha,KC.cl,KC.nO,zBs _ _ _,?_⟩;obtain ⟨t,b,c',ty,hb,hc',ew⟩:=whole_ty (K:=K) (hdn.mono s1);refine ⟨_,rfl,_,t,b,c',rfl,ty,hb,hc',_,rfl,?_⟩;rw [ew];cases hdn with
   | int i =>
    have e:(decide (0≤i) && decide (i≤999999))=false:=e;refine iteF ⟨_,rfl,_,_,rfl,rfl,_,rfl,?_⟩;refine ite2 (fun g1=>?_) (fun g1=>⟨_,rfl,iteT (raised H1 s1)⟩);refine ⟨_,_,rfl,rfl,_,rfl,?_⟩;have g2:¬ i≤999999:=fun z=>by rw [g1,decide_eq_true z] at e;cases e
    rw [decide_eq_false g2];exact iteT (raised H1 s1)
   | _=>exact iteT (iteT (raised H1 s1))
  | @own0 k' _ _ hn h e ho =>
   obtain ⟨n,rfl,n0,n9⟩:=num1 e;obtain ⟨a0,dx,lf,rfl,hv,ha⟩:=go hn h hdk;refine ⟨_,rfl,kq,dxk,_,rfl,hkq,ks_no _ (by decide +kernel),_,rfl,.inl ⟨kq,d,kvs,k',.ref a0,rfl,hn,⟨⟨dxk,hkq⟩,rd⟩,hv,fun H1 s1=>?_⟩⟩;refine ⟨a0,C,dx,_,_,rfl,s1 _ _ ha,KC.cl,KC.nO,zBs _ _ _,?_⟩;refine ⟨_,rfl,_,_,_,_,rfl,.int _,rfl,rfl,_,rfl,?_⟩;refine iteF ⟨_,rfl,_,_,rfl,rfl,_,rfl,?_⟩;rw [decide_eq_true n0];refine iteT ⟨_,_,rfl,rfl,_,rfl,?_⟩;rw [decide_eq_true n9];refine iteF ⟨_,rfl,_,rfl,iteT ?_⟩;refine ⟨_,rfl,_,rfl,?_⟩;have nv:vo≠.non:=fun z=>ho ((non_iff hdo).mp z);rw [decide_eq_false nv];exact iteT (raised H1 s1)
  | @own1 k' o _ _ hn h e ho =>
   obtain ⟨n,rfl,n0,n9⟩:=num1 e;obtain ⟨a0,dx,lf,rfl,hv,ha⟩:=go hn h hdk;refine ⟨_,rfl,kq,dxk,_,rfl,hkq,ks_no _ (by decide +kernel),_,rfl,.inl ⟨kq,d,kvs,k',.ref a0,rfl,hn,⟨⟨dxk,hkq⟩,rd⟩,hv,fun H1 s1=>?_⟩⟩;refine ⟨a0,C,dx,_,_,rfl,s1 _ _ ha,KC.cl,KC.nO,zBs _ _ _,?_⟩;refine ⟨_,rfl,_,_,_,_,rfl,.int _,rfl,rfl,_,rfl,?_⟩;refine iteF ⟨_,rfl,_,_,rfl,rfl,_,rfl,?_⟩;rw [decide_eq_true n0];refine iteT ⟨_,_,rfl,rfl,_,rfl,?_⟩;rw [decide_eq_true n9];refine iteF ⟨_,rfl,_,rfl,iteF ?_⟩;exact ⟨_,rfl,_,rfl,.inr ⟨kq,d,kvs,own,vo,do_,rfl,⟨⟨dxk,s1 _ _ hkq⟩,zCi s1 rd⟩,how.mono s1,hdo.mono s1,ho,k.same s1⟩⟩
  | @own2 k' o _ q k0 m0 hn h e pok ch ne =>
   obtain ⟨n,rfl,n0,n9⟩:=num1 e;obtain ⟨a0,dx,lf,rfl,hv,ha⟩:=go hn h hdk;obtain ⟨rfl,_⟩:=hdo.str_inv;refine ⟨_,rfl,kq,dxk,_,rfl,hkq,ks_no _ (by decide +kernel),_,rfl,.inl ⟨kq,d,kvs,k',.ref a0,rfl,hn,⟨⟨dxk,hkq⟩,rd⟩,hv,fun H1 s1=>?_⟩⟩;refine ⟨a0,C,dx,_,_,rfl,s1 _ _ ha,KC.cl,KC.nO,zBs _ _ _,?_⟩;refine ⟨_,rfl,_,_,_,_,rfl,.int _,rfl,rfl,_,rfl,?_⟩;refine iteF ⟨_,rfl,_,_,rfl,rfl,_,rfl,?_⟩;rw [decide_eq_true n0];refine iteT ⟨_,_,rfl,rfl,_,rfl,?_⟩;rw [decide_eq_true n9];refine iteF ⟨_,rfl,_,rfl,iteF ?_⟩;refine ⟨_,rfl,_,rfl,.inl ⟨kq,d,kvs,q,k0,m0,rfl,⟨⟨dxk,s1 _ _ hkq⟩,zCi s1 rd⟩,pok,ch.imp (fun _ _ h=>(how.yes h).mono s1),fun t H2 ht e2 s2=>?_⟩⟩;refine ⟨t,_,0,.str k0,rfl,rfl,SqT.of e2,rfl,_,rfl,rfl,_,rfl,?_⟩;rw [show decide (V.str k0=ownV (some o))=false from decide_eq_false (fun z=>by injection z with z;exact ne z)];exact iteT (raised H2 (s1.trans s2))
end
end L2.W
namespace L2.W
open PySem My
theorem _root_.My.Src.nw {H:Hp}{p b:Addr}{k:Int} (S:Src H p k) (h:H b=none):b≠p:=by obtain ⟨_,_,_,e,_⟩:=S;exact Ne.symm (zA5 e h)
theorem _root_.My.Src.up {H H':Hp}{p:Addr}{k:Int} (S:Src H p k) (s:Same H H'):Src H' p k:=by obtain ⟨a,c,i,e,r⟩:=S;exact ⟨a,c,i,s _ _ e,r⟩
inductive It2 where
 | num (a:Str) (n:Nat)
 | txt (a b:Str)
noncomputable def It2.fst:It2→Str
 | .num a _=>a
 | .txt a _=>a
noncomputable def It2.snd:It2→Str
 | .num _ n=>figs n
 | .txt _ b=>b
noncomputable def It2.sv:It2→V
 | .num _ n=>.int n
 | .txt _ b=>.str b
noncomputable def It2.one (x:It2):Str:=x.fst++"."++x.snd
noncomputable def It2.ok (x:It2):Prop:=x.fst.length≤8∧x.snd.length≤8∧match x with | .num _ n=>n≤999999 | .txt _ _=>True
noncomputable def It2.at_ (H:Hp) (v:V) (x:It2):Prop:=∃ t,v=.ref t∧H t=some (.tup [.str x.fst,x.sv])
noncomputable def txtOf (its:List It2):Str:=Str.join "." (its.map It2.one)
noncomputable def spText:Sp:=fun vs H Q _=>∃ (l:Addr) (ys:List V) (its:List It2),vs=[.ref l]∧H l=some (.lst ys)∧Paired (It2.at_ H) ys its∧its.length≤10∧(∀ x∈its,x.ok)∧∀ H',Same H H'→Q (.str (txtOf its)) H'
theorem joinDot20 {ws:List Str} (h:∀ x∈ws,x.length≤20) (hl:ws.length≤100):PySem.JoinOk "." ws=true:=by
 have d1:("." : Str).length=1:=by decide +kernel
 have key:∀ (l:List Str) (n:Nat),(∀ x∈l,x.length≤20)→l.foldl (fun a x=>a + x.length + ("." : Str).length) n≤n + l.length * 21:=by
  intro l
  induction l with
  | nil=>intro n _;exact Z5 _
  | cons c r ih =>
   intro n hh;have h1:=ih (n + c.length + ("." : Str).length) fun x hx=>hh x (Z6 _ hx);have h2:=hh c Z9;rw [Y0,Ze];rw [d1] at h1 ⊢;omega
 have:=key ws 0 h;have hs:2100 < sizeLine:=by rw [sizeLine_eq];decide
 unfold PySem.JoinOk;rw [List.foldl_toArray];unfold Builtin.Str.tooLong;simp;omega
section
variable {P:Program}{w:World}{K:PySem.W.Frag}{mg:Str→Option Value}{base:Heap}{CX:CXT}
theorem scTx9:FnScope ["_law_chain_here"] ["_law_chain_here"] (defScope sText):=⟨rfl,rfl,rfl,by decide +kernel,rfl,by decide +kernel,by decide +kernel⟩
theorem zGd {f:Addr}{fd:FuncData} (T:Tops K mg) (F:Fun K "_law_text" "_law_text" sText f fd):FnOk P w K mg base CX 1 f fd ["_law_chain_here"] spText:=by
 refine Fun.okC F scTx9 (fun vs H Q E h=>?_) (fun cdv A outer s H vs Q E hr h=>?_)
 ·obtain ⟨l,ys,its,rfl,_⟩:=h;rfl
 ·obtain ⟨l,ys,its,rfl,hl,hys,hz,hok,k⟩:=h;have small:∀ n:Nat,n≤1000→n≤sizeLine:=fun n h=>Zl (small1000 h);have yl:=Paired.length hys;refine ⟨_,zA6 (zAj (zD3 PySem.F.plainAttrs_str PySem.F.slot_str_join PySem.F.type_str_join (mt_join (K:=K) rfl) zAe (zA0 (zAu (T:=["_law_one", "_law_number"]) rfl ScOk.auto (zAn (pv 0)) (fun _ _ _ _=>zEh (K:=K) (n:=2) rfl rfl (zAm (zAc (i:=1) (by decide +kernel:(["_law_chain_here", "_law_one", "_law_number"]:List Str).Nodup) rfl (Or.inl rfl)) (zAm (zAc (i:=2) (by decide +kernel:(["_law_chain_here", "_law_one", "_law_number"]:List Str).Nodup) rfl (Or.inl rfl)) zC1))) (fun _ _ _ _=>zB6) (fun _ _ _ _=>zAh zAf (zAh zAf (pv 1) zAe) (zB3 call_str_any rfl T.str PyProof.Rows.boot_str (zA0 (pv 2) zA2)))) zA2))),?_⟩;refine ⟨rfl,_,rfl,l,rfl,⟨_,SqL.of hl⟩,zAl (xs:=ys) (fun i zz H'=>Same H H'∧zz=((its.take i).map It2.one).map V.str) ⟨Same.refl _,rfl⟩ (fun i zz H' z=>SqL.of (z.1 _ _ hl)) (fun i zz H' hi z=>?_) ?_ ?_⟩
  ·rw [z.2,Z0,Z0];have:=Yg i its;exact small _ (by omega)
  ·rintro i y zz H' hi ⟨s1,rfl⟩ N hN;obtain ⟨x,ex,t,rfl,ht⟩:=zBk hys hi;obtain ⟨o1,o2,o3⟩:=hok x (Z3 ex);have ld:("." : Str).length=1:=by decide +kernel
   have big:=small1000 (Z5 1000);refine pickT (SqT.of (s1 _ _ ht)) ?_;refine ⟨_,rfl,_,_,rfl,rfl,by omega,_,rfl,?_⟩;have fin:N (((its.take i).map It2.one).map V.str++[.str x.one]) H':=hN _ _ ⟨s1,by rw [Zk,ex,Zh,Zh];rfl⟩;cases x with
   | num a n =>
    have lo:((n:Int).natAbs).log2 < 1920:=by
     rw [Int.natAbs_natCast];by_cases z:n=0
     ·rw [z];decide
     ·exact (Nat.log2_lt z).mpr (Z7 (show n < 2 ^ 20 by have:n≤999999:=o3;omega) (Nat.pow_le_pow_right (by decide) (by decide)))
    refine .inl ⟨(n:Int),rfl,lo,_,_,rfl,rfl,?_,fin⟩;rw [zAd];have:(figs n).length≤8:=o2;have:(Str.ofString (toString (n:Int))).length≤8:=o2;have:a.length≤8:=o1;show a.length + _ + (Str.ofString (toString (n:Int))).length≤_;omega
   | txt a b =>
    refine .inr ⟨b,rfl,_,_,rfl,rfl,?_,fin⟩;rw [zAd];have:b.length≤8:=o2;have:a.length≤8:=o1;show a.length + _ + b.length≤_;omega
  rintro zz H' ⟨s1,rfl⟩ c hc;rw [yl,Zm];have s2:Same H (upd H' c (.lst ((its.map It2.one).map V.str))):=s1.trans (Same.new hc);have ll:∀ x∈its.map It2.one,x.length≤20:=fun x hx=>by
   obtain ⟨y,hy,rfl⟩:=List.mem_map.mp hx;obtain ⟨o1,o2,_⟩:=hok y hy;have ld:("." : Str).length=1:=by decide +kernel
   show (y.fst++"."++y.snd).length≤20;rw [zAd,zAd];omega
  refine ⟨_,c,_,rfl,rfl,SqL.of zA1,joinDot20 ll (by rw [Z0];omega),?_⟩;rw [show Txt.join "." (its.map It2.one)=txtOf its from PySem.StrLaws.glued_eq_join _ _];exact k _ s2
end
end L2.W
namespace L2.W
open PySem My
noncomputable def ownA (rs:List Row) (k:Str):Option (Option Str):=(rs.find? fun r=>decide (r.name=k)).map (·.owner)
theorem zEm {rs:List Row} (ok:RowsOk rs) {r:Row} (h:r∈rs):ownA rs r.name=some r.owner:=by
 unfold ownA;cases e:rs.find? (fun x=>decide (x.name=r.name)) with
 | none=>exact absurd (decide_eq_true rfl) (List.find?_eq_none.mp e r h)
 | some x=>rw [ok.one (List.mem_of_find?_eq_some e) h (of_decide_eq_true (List.find?_some (p:=fun x:Row=>decide (x.name=r.name)) e))];rfl
theorem zCk {rs:List Row}{k:Str}{o:Option Str} (h:ownA rs k=some o):∃ r∈rs,r.name=k∧r.owner=o:=by
 unfold ownA at h;cases e:rs.find? (fun x=>decide (x.name=k)) with
 | none=>rw [e] at h;cases h
 | some x =>
  rw [e] at h;exact ⟨x,List.mem_of_find?_eq_some e,of_decide_eq_true (List.find?_some (p:=fun x:Row=>decide (x.name=k)) e),Zi h⟩
noncomputable def CKey (rs:List Row):List (Key×V):=rs.map fun r=>(Sum.inr r.name,ownV r.owner)
theorem ckey_val {rs:List Row}{k:Str}{o:Option Str} (h:ownA rs k=some o):valV (CKey rs) (Sum.inr k)=some (ownV o):=by
 induction rs with
 | nil=>cases h
 | cons a t ih =>
  unfold ownA at h;rw [Y7] at h;by_cases c:a.name=k
  ·rw [decide_eq_true c] at h;rw [show CKey (a :: t)=(Sum.inr a.name,ownV a.owner) :: CKey t from rfl,zCr (by rw [c])];have h':a.owner=o:=Zi h;show some (ownV a.owner)=_;rw [h']
  ·rw [decide_eq_false c] at h;rw [show CKey (a :: t)=(Sum.inr a.name,ownV a.owner) :: CKey t from rfl,zCs (fun z=>c (Sum.inr.inj z))];exact ih h
noncomputable def Link (rs:List Row):Option Str→List Str→Prop
 | _,[]=>True
 | a,k :: t=>ownA rs k=some a∧Link rs (some k) t
theorem Link.zip {rs:List Row}:∀ {ks:List Str}{ns:List Nat}{a:Option Str},ks.length=ns.length→Link rs a ks→Chain (fun k o=>ownA rs k=some o) a (ks.zip ns)
 | [],_,_,_,_=>trivial
 | k :: t,n :: ns,_,h,l=>⟨l.1,Link.zip (Nat.succ.inj h) l.2⟩
noncomputable def spChain:Sp:=fun vs H Q _=>∃ (p l:Addr) (rs:List Row) (k:Int),vs=[.ref p,.ref l]∧Src H p k∧k≤890000∧Has (fun a=>a≠p) H (.ref l) (.list (rs.map rowD))∧RowsOk rs ∧
 ∀ (t lc:Addr) (ys:List V) (q:List (Str×Nat)) (kd:Str) (n:Nat) (H':Hp),H t=none→H lc=none→H' t=some (.tup [.str kd,.ref lc])→H' lc=some (.lst ys)→Paired (fun v x=>∃ a,H a=none∧v=.ref a∧H' a=some (.tup [.str x.1,.int (x.2:Nat)])) ys (q++[(kd,n)]) →
  PathOk (q++[(kd,n)])→(q++[(kd,n)]).length≤5→Chain (fun k o=>ownA rs k=some o) none (q++[(kd,n)])→Src H' p (k + 20)→(∀ b o,H b=some o→b≠p→H' b=some o)→Q (.ref t) H'
section
variable {P:Program}{w:World}{K:PySem.W.Frag}{mg:Str→Option Value}{base:Heap}{CX:CXT}
theorem scCh:FnScope ["_law_source", "_law_specs_here", "_law_owners", "_law_kind", "_law_chain_here"] ["_law_source", "_law_specs_here"] (defScope sChain):=⟨rfl,rfl,rfl,by decide +kernel,rfl,by decide +kernel,by decide +kernel⟩
theorem ok_chain {f fm fn:Addr}{fd fdm fdn:FuncData} (hC:Calm CX) (T:Tops K mg) (F:Fun K "_law_chain" "_law_chain" sChain f fd) (DM:Def K mg "_law_mixed" sMixed ["_law_cell", "_law_k"] fm fdm)
  (DN:Def K mg "_law_next" sNext ["_law_source", "_law_many"] fn fdn):FnOk P w K mg base CX 3 f fd ["_law_source", "_law_specs_here"] spChain:=by
 have GN:FnOk P w K mg base CX 2 fn fdn ["_law_source", "_law_many"] spNext:=zCl hC DN.fn DM;refine Fun.okC F scCh (fun vs H Q E h=>?_) (fun cdv A outer s H vs Q E hr h=>?_)
 ·obtain ⟨p,l,rs,k,rfl,_⟩:=h;rfl
 ·obtain ⟨p,l,rs,k,rfl,S0,hk,hd,ok,q⟩:=h;have nd:=scCh.nd;have hu:=hu_of hr
  refine ⟨_,zA3 (zAb (i:=2) nd rfl (Or.inl rfl) (zB3 (zF5 (K:=K) rfl) rfl T.dict PyProof.Rows.boot_dict (zA0 (zAu (T:=["_law_spec"]) rfl ScOk.auto (zAn (pv 1)) (fun _ _ _ _=>zAc (i:=5) (by decide +kernel:(["_law_source", "_law_specs_here", "_law_owners", "_law_kind", "_law_chain_here", "_law_spec"]:List Str).Nodup) rfl (Or.inl rfl)) (fun _ _ _ _=>zB6) (fun _ _ _ _=>zBc (zA0 (zAs (r:=rIxT K) zBr (pv 5) zA4 (fun _ _=>rfl)) (zA0 (zAs (r:=rIxT K) zBr (pv 5) zA4 (fun _ _=>rfl)) zA2)))) zA2)))
     (zA3 (zAb (i:=3) nd rfl (Or.inl rfl) (zAs zBr (zAs zAk (pv 1) (zA7 GN hr rfl DN.at_ DN.fn.kp DN.bind .nil (passC hC) (zA0 (pv 0) (zA0 (zA9 zAi rfl T.len PySem.boot_len (zA0 (pv 1) zA2)) zA2))) (fun _ _=>rfl)) zA4 (fun _ _=>rfl)))
     (zA3 (zAb (i:=4) nd rfl (Or.inl rfl) (zAr (zA0 (pv 3) zA2)))
     (zA3 (zE3 PassesOwn.never (zBz (zDq (zEl hu (pv 2) (zAs zAk (pv 4) zA4 (fun _ _=>rfl)) (fun _ _=>rfl))))
     (zA6 (zAb (i:=4) nd rfl (Or.inl rfl) (zAh zC5 (zAr (zA0 (zEl hu (pv 2) (zAs zAk (pv 4) zA4 (fun _ _=>rfl)) (fun _ _=>rfl)) zA2)) (pv 4)))))
     (zA6 (zAj (zBc (zA0 (pv 3) (zA0 (zAu (T:=["_law_one"]) rfl ScOk.auto (zAn (pv 4)) (fun _ _ _ _=>zAc (i:=5) (by decide +kernel:(["_law_source", "_law_specs_here", "_law_owners", "_law_kind", "_law_chain_here", "_law_one"]:List Str).Nodup) rfl (Or.inl rfl)) (fun _ _ _ _=>zB6) (fun _ _ _ _=>(zBc (zA0 (pv 5) (zA0 (zA7 GN hr rfl DN.at_ DN.fn.kp DN.bind .nil (passC hC) (zA0 (pv 0) (zA0 (zAs (r:=rIxL K) zAk (zAr (zA0 zA4 (zA0 (zAh op_pow zA4 zA4) zA2))) (zA7 GN hr rfl DN.at_ DN.fn.kp DN.bind .nil (passC hC) (zA0 (pv 0) (zA0 zA4 zA2))) (fun _ _=>rfl)) zA2))) zA2))))) zA2)))))))),?_⟩
  have small:∀ n:Nat,n≤1000→n≤sizeLine:=fun n h=>Zl (small1000 h);obtain ⟨l',xs,e,nl,hl,hz,hx⟩:=hd.list_inv;cases e;have xl:xs.length=rs.length:=by rw [hx.length,Z0]
  have r5:=ok.le;have r0:=ok.ne;refine ⟨_,rfl,l,rfl,⟨_,SqL.of hl⟩,zAl (xs:=xs) (fun i ys H'=>Same H H'∧∃ ts:List Addr,ys=ts.map V.ref∧ts.length=i∧∀ (j:Nat) (t:Addr) (r:Row),ts[j]? = some t→rs[j]? = some r→H' t=some (.tup [.str r.name,ownV r.owner])) ⟨Same.refl _,[],rfl,rfl,fun j t r h=>by simp at h⟩ (fun i ys H' z=>SqL.of (z.1 _ _ hl)) (fun i ys H' hi z=>?_) ?_ ?_⟩
  ·obtain ⟨_,ts,rfl,tl,_⟩:=z;rw [Z0];exact small _ (by omega)
  ·rintro i y ys H' hi ⟨s1,ts,rfl,tl,ht⟩ N hN;obtain ⟨dd,hdd,hv⟩:=hx.get hi;rw [Za] at hdd;obtain ⟨r,er,rfl⟩:=Option.map_eq_some_iff.mp hdd;obtain ⟨t,lf,rfl,et,_⟩:=zG1 hv;refine pick ?_;refine ⟨_,rfl,t,_,0,_,rfl,rfl,SqT.of (s1 _ _ et),rfl,_,rfl,t,_,2,_,rfl,rfl,SqT.of (s1 _ _ et),rfl,small 2 (by decide),fun t2 h2=>hN _ _ ⟨s1.trans (Same.new h2),ts++[t2],by rw [Zh];rfl,by rw [Z4,tl];rfl,fun j t3 r3 e3 er3=>?_⟩⟩;by_cases lt:j < ts.length
   ·rw [Zo lt] at e3;exact (Same.new h2) _ _ (ht j t3 r3 e3 er3)
   ·rw [Zw (by omega)] at e3;have ej:j=i:=by
     have:=(List.getElem?_eq_some_iff.mp e3).1;simp only [Ze,Yc] at this;omega
    subst ej;rw [tl,Nat.sub_self] at e3;cases e3;rw [er] at er3;cases er3;exact zA1
  rintro ys H' ⟨s1,ts,rfl,tl,ht⟩ c hc;have ndk:((CKey rs).map (·.1)).Nodup:=by
   unfold CKey;rw [Zy];have:((fun kv:Key×V=>kv.1) ∘ fun r:Row=>((Sum.inr r.name:Key),ownV r.owner))=(fun n:Str=>(Sum.inr n:Key)) ∘ (·.name):=rfl;rw [this,← Zy];exact List.Pairwise.map _ (fun a b h z=>h (Sum.inr.inj z)) ok.nd
  refine ⟨c,ts,CKey rs,rfl,SqL.of zA1,rfl,ndk,by rw [tl,xl];unfold CKey;rw [Z0],fun i t k' v et ek=>?_,fun dg hdg=>?_⟩
  ·unfold CKey at ek;rw [Za] at ek;obtain ⟨r,er,e⟩:=Option.map_eq_some_iff.mp ek;cases e;exact (Same.new hc) _ _ (ht i t r et er)
  have s2:Same H (upd (upd H' c (.lst (ts.map V.ref))) dg (.dK (CKey rs))):=s1.trans ((Same.new hc).trans (Same.new hdg));have e2:(upd (upd H' c (.lst (ts.map V.ref))) dg (.dK (CKey rs))) dg=some (.dK (CKey rs)):=zA1;generalize upd (upd H' c (.lst (ts.map V.ref))) dg (.dK (CKey rs))=H2 at s2 e2 ⊢;have S2:=S0.up s2;have ndg:dg≠p:=by obtain ⟨_,_,_,e',_⟩:=S2;exact ne_of e2 e' (fun z=>nomatch z)
  refine ⟨_,rfl,_,rfl,_,rfl,l,xs,rfl,.inl (SqL.of (s2 _ _ hl)),p,_,_,rfl,S2,by omega,by omega,by omega,fun r2 H3 a0 a1 S3 k3=>?_⟩;obtain ⟨j,rfl⟩:∃ j:Nat,r2=(j:Int):=⟨r2.toNat,by omega⟩;obtain ⟨y,ey⟩:∃ y,xs[j]? = some y:=⟨_,Z1 (by omega)⟩;obtain ⟨dd,hdd,hv⟩:=hx.get ey;rw [Za] at hdd;obtain ⟨r,er,rfl⟩:=Option.map_eq_some_iff.mp hdd;obtain ⟨t,lf,rfl,et,_⟩:=zG1 hv;have ntp:t≠p:=by obtain ⟨_,_,_,e',_⟩:=S0;exact ne_of et e' (fun z=>nomatch z)
  have f3:∀ b o,H b=some o→b≠p→H3 b=some o:=fun b o e nb=>by rw [k3 b nb];exact s2 _ _ e
  refine ⟨l,xs,(j:Int),_,rfl,rfl,SqL.of (f3 _ _ hl nl),zBh ey,t,_,0,_,rfl,rfl,SqT.of (f3 _ _ et ntp),rfl,?_⟩;dsimp only [gName,List.set];refine ⟨_,rfl,small 1 (by decide),fun lc hlc=>?_⟩;have s4:Same H3 (upd H3 lc (.lst [.str r.name])):=Same.new hlc;have e4:(upd H3 lc (.lst [.str r.name])) lc=some (.lst [.str r.name]):=zA1;generalize upd H3 lc (.lst [.str r.name])=H4 at s4 e4 ⊢;have S4:=S3.up s4;have d4:H4 dg=some (.dK (CKey rs)):=s4 _ _ (by rw [k3 _ ndg];exact e2);have f4:∀ b o,H b=some o→b≠p→H4 b=some o:=fun b o e nb=>s4 _ _ (f3 b o e nb);have own_at:∀ {k':Str}{o:Option Str}{Hx:Hp},Same H4 Hx→ownA rs k'=some o→DGet Hx dg (.str k') (some (ownV o)):=fun {k' o Hx} s h=>by
   rw [← ckey_val h];exact DGet.k (k:=Sum.inr k') (s _ _ d4)
  have jl:j < rs.length:=(List.getElem?_eq_some_iff.mp er).1;dsimp only [gName,List.set]
  refine ⟨fun m σ H5=>∃ (lc:Addr) (ks:List Str) (j':Nat) (r':Row),m=j'∧rs[j']? = some r'∧σ = [some (.ref p),some (.ref l),some (.ref dg),some (.str r.name),some (.ref lc)]∧H5 lc=some (.lst ((r'.name :: ks).map V.str))∧Link rs r'.owner (r'.name :: ks)∧(r'.name :: ks).getLast? = some r.name∧ks.length + 1 + j'≤rs.length∧Same H4 H5,
   ⟨_,lc,[],j,r,rfl,er,rfl,e4,⟨zEm ok (Z3 er),trivial⟩,rfl,by simp;omega,Same.refl _⟩,?_⟩
  rintro m σ H5 ⟨lc5,ks,j5,r',rfl,er5,rfl,e5,lk,hla,hle,s5⟩;have mr5:=Z3 er5;have oa:=zEm ok mr5;refine ⟨_,rfl,_,rfl,lc5,_,0,_,rfl,rfl,SqL.of e5,zBh (j:=0) rfl,dg,_,rfl,own_at s5 oa,_,rfl,?_⟩;cases eo:r'.owner with
  | some o =>
   obtain ⟨jo,ro,hj,ejo,en⟩:=ok.own m r' o er5 eo;subst en;have mro:=Z3 ejo;refine iteT ⟨fun σ' H'=>∃ m',m' < m∧∃ (lc:Addr) (ks:List Str) (j':Nat) (r':Row),m'=j'∧rs[j']? = some r'∧σ'=[some (.ref p),some (.ref l),some (.ref dg),some (.str r.name),some (.ref lc)]∧H' lc=some (.lst ((r'.name :: ks).map V.str))∧Link rs r'.owner (r'.name :: ks)∧(r'.name :: ks).getLast? = some r.name∧ks.length + 1 + j'≤rs.length∧Same H4 H',fun _ _ h=>h,?_⟩;have oa2:ownA rs r'.name=some (some ro.name):=by rw [oa,eo]
   refine ⟨_,rfl,_,rfl,lc5,_,0,_,rfl,rfl,SqL.of e5,zBh (j:=0) rfl,dg,_,rfl,own_at s5 oa2,small 1 (by decide),fun l1 h1=>?_⟩;have s6:Same H5 (upd H5 l1 (.lst [.str ro.name])):=Same.new h1;have e6:(upd H5 l1 (.lst [.str ro.name])) l1=some (.lst [.str ro.name]):=zA1;have e6':(upd H5 l1 (.lst [ownV (some ro.name)])) l1=some (.lst [.str ro.name]):=zA1;refine ⟨_,rfl,l1,lc5,_,_,rfl,rfl,e6',s6 _ _ e5,?_,fun l2 h2=>?_⟩
   ·rw [Z0];show 1 + (ks.length + 1)≤_;exact small _ (by omega)
   ·exact ⟨jo,hj,l2,r'.name :: ks,jo,ro,rfl,ejo,rfl,zA1,⟨zEm ok mro,by rw [← eo];exact lk⟩,by rw [List.getLast?_cons_cons];exact hla,by simp only [Ze];omega,s5.trans (s6.trans (Same.new h2))⟩
  | none =>
   refine iteF ?_;rw [eo] at lk;have S5:=S4.up s5;have f5:∀ b o,H b=some o→b≠p→H5 b=some o:=fun b o e nb=>s5 _ _ (f4 b o e nb);generalize eks:r'.name :: ks=kk at e5 lk hla;have kl:kk.length≤5:=by rw [← eks];simp only [Ze];omega
   have nlc:lc5≠p:=by
    obtain ⟨_,_,_,e',_⟩:=S5;refine ne_of e5 e' (fun z=>?_);injection z with z;cases kk with
    | nil=>cases z
    | cons a b=>cases z
   have bk:∀ {Hy:Hp}{kx:Int}{b:Addr},(∀ b o,H b=some o→b≠p→Hy b=some o)→Src Hy p kx→Hy b=none→H b=none:=fun {Hy kx b} fr S e=>by
    cases z:H b with
    | none=>rfl
    | some o=>rw [fr _ _ z (S.nw e)] at e;cases e
   refine ⟨_,rfl,_,rfl,lc5,rfl,⟨_,SqL.of e5⟩,zAl (xs:=kk.map V.str) (fun i ys H'=>(∀ b o,H5 b=some o→b≠p→H' b=some o)∧Src H' p (k + 1 + 2 * (i:Int))∧∃ ns:List Nat,ns.length=i∧(∀ n∈ns,n≤999999)∧Paired (fun v x=>∃ a,H a=none∧v=.ref a∧H' a=some (.tup [.str x.1,.int ((x.2:Nat):Int)])) ys ((kk.take i).zip ns)) ⟨fun b o e _=>e,S5.mono (by omega),[],rfl,(fun n h=>nomatch h),.nil⟩ (fun i ys H' z=>SqL.of (z.1 _ _ e5 nlc)) (fun i ys H' hi z=>?_) ?_ ?_⟩
   ·obtain ⟨_,_,ns,nl',_,hp⟩:=z;have:=Paired.length hp;rw [List.length_zip] at this;rw [Z0] at hi;exact small _ (by omega)
   ·rintro i y ys H' hi ⟨f6,S6,ns,nl',hn,hp⟩ N hN;rw [Za] at hi;obtain ⟨wd,ew,rfl⟩:=Option.map_eq_some_iff.mp hi;have il:i < kk.length:=(List.getElem?_eq_some_iff.mp ew).1;refine pick ?_;refine ⟨_,rfl,_,rfl,_,_,rfl,rfl,⟨by decide,by decide,by decide⟩,small 2 (by decide),fun l2 h2=>?_⟩;have s7:Same H' (upd H' l2 (.lst [.int 2,.int 1000000])):=Same.new h2;have e7:(upd H' l2 (.lst [.int 2,.int 1000000])) l2=some (.lst [.int 2,.int 1000000]):=zA1;have n7:l2≠p:=S6.nw h2;have pw:(V.int ((10:Int) ^ (6:Int).toNat))=.int 1000000:=by decide
    dsimp only;rw [pw];generalize upd H' l2 (.lst [.int 2,.int 1000000])=H7 at s7 e7 ⊢;refine ⟨_,rfl,p,_,_,rfl,S6.up s7,by omega,by decide,by decide,fun b8 H8 a0' a1' S8 k8=>?_⟩;obtain ⟨mm,em,m1,m2⟩:∃ mm:Int,atI ([.int 2,.int 1000000]:List V) b8=some (.int mm)∧2≤mm∧mm≤1000000:=by
     have:b8=0∨b8=1:=by omega
     rcases this with rfl | rfl
     ·exact ⟨2,rfl,by decide,by decide⟩
     ·exact ⟨1000000,rfl,by decide,by decide⟩
    refine ⟨l2,_,b8,_,rfl,rfl,SqL.of (by rw [k8 _ n7];exact e7),em,p,mm,_,rfl,S8,by omega,by omega,by omega,fun n9 H9 b0 b1 S9 k9=>?_⟩;obtain ⟨n,rfl⟩:∃ n:Nat,n9=(n:Int):=⟨n9.toNat,by omega⟩;have f9:∀ b o,H' b=some o→b≠p→H9 b=some o:=fun b o e nb=>by rw [k9 b nb,k8 b nb];exact s7 _ _ e
    refine ⟨small 2 (by decide),fun t2 h2'=>hN _ _ ⟨fun b o e nb=>(Same.new h2') _ _ (f9 _ _ (f6 b o e nb) nb),(S9.up (Same.new h2')).mono (by push_cast;omega),ns++[n],by rw [Z4,nl'];rfl,fun x hx=>?_,?_⟩⟩
    ·rcases List.mem_append.mp hx with hx | hx
     ·exact hn x hx
     ·rw [List.mem_singleton.mp hx];omega
    ·rw [Zk,ew,Option.toList_some,List.zip_append (by rw [Zt];omega)];refine zD4 (Paired.mapP hp fun v x ⟨a,ha,e1,e2⟩=>⟨a,ha,e1,(Same.new h2') _ _ (f9 _ _ e2 (S0.nw ha))⟩) ⟨t2,bk (fun b o e nb=>f9 _ _ (f6 _ _ (f5 b o e nb) nb) nb) S9 h2',rfl,zA1⟩
   rintro ys H' ⟨f6,S6,ns,nl',hn,hp⟩ la hla';rw [Z0] at nl' hp S6;rw [Zm] at hp;have s7:Same H' (upd H' la (.lst ys)):=Same.new hla';have e7:(upd H' la (.lst ys)) la=some (.lst ys):=zA1;have f7:∀ b o,H b=some o→b≠p→H' b=some o:=fun b o e nb=>f6 _ _ (f5 b o e nb) nb;have nla:H la=none:=bk f7 S6 hla';generalize upd H' la (.lst ys)=H7 at s7 e7 ⊢;refine ⟨small 2 (by decide),fun t9 h9=>?_⟩;have s9:=Same.new (o:=.tup [.str r.name,.ref la]) h9;have kne:kk≠[]:=by rw [← eks];simp
   obtain ⟨k1,kz,ek⟩:∃ k1 kz,kk=k1++[kz]:=⟨kk.dropLast,kk.getLast kne,(List.dropLast_concat_getLast kne).symm⟩;obtain ⟨n1,nz,en⟩:∃ n1 nz,ns=n1++[nz]:=by
    have:ns≠[]:=fun z=>by rw [z] at nl';cases kk with | nil=>exact kne rfl | cons a b=>simp at nl'
    exact ⟨ns.dropLast,ns.getLast this,(List.dropLast_concat_getLast this).symm⟩
   have ez:kz=r.name:=by
    rw [ek,List.getLast?_concat] at hla;exact Zi hla
   have el:k1.length=n1.length:=by
    rw [ek,en,Z4,Z4] at nl';simp only [Ze,Yc] at nl';omega
   have epath:kk.zip ns=k1.zip n1++[(r.name,nz)]:=by
    rw [ek,en,List.zip_append el,ez];rfl
   have nm:∀ x∈kk,∃ r∈rs,r.name=x:=by
    have:∀ {l:List Str}{a:Option Str},Link rs a l→∀ x∈l,∃ r∈rs,r.name=x:=by
     intro l
     induction l with
     | nil=>intro a _ x hx;cases hx
     | cons b t ih =>
      intro a h x hx;rcases List.mem_cons.mp hx with rfl | hx
      ·obtain ⟨r,hr,e,_⟩:=zCk h.1;exact ⟨r,hr,e⟩
      ·exact ih h.2 x hx
    exact this lk
   have zl:(kk.zip ns).length≤5:=by rw [List.length_zip];omega
   refine q t9 la ys (k1.zip n1) r.name nz _ (bk (fun b o e nb=>s7 _ _ (f7 b o e nb)) (S6.up s7) h9) nla zA1 (s9 _ _ e7) (by rw [← epath];exact Paired.mapP hp fun v x ⟨a,ha,e1,e2⟩=>⟨a,ha,e1,s9 _ _ (s7 _ _ e2)⟩) ?_ (by rw [← epath];exact zl) (by rw [← epath];exact Link.zip nl'.symm lk) (((S6.up s7).up s9).mono (by omega)) fun b o e nb=>s9 _ _ (s7 _ _ (f7 b o e nb));refine ⟨by simp,by rw [← epath];omega,fun x hx=>?_⟩;rw [← epath] at hx;obtain ⟨h1,h2⟩:=List.of_mem_zip (show (x.1,x.2)∈kk.zip ns from hx);obtain ⟨rx,hrx,e⟩:=nm x.1 h1;exact ⟨by rw [← e];exact (ok.ok rx hrx).1,hn _ h2⟩
end
end L2.W
namespace L2.W
open PySem My
noncomputable def goodW (own:Str→Option (Option Str)) (ws:List Str):Bool:=decide (ws.length % 2=0) && ((evens ws).all nameB && (odds ws).all writtenB) && walkB own none (evens ws)
theorem zB5 {own:Str→Option (Option Str)}{ws:List Str} (hf:∀ w∈ws,freeOf 46 w) (hne:ws≠[]):goodD own (.str (Str.join "." ws))=goodW own ws:=by
 show (formB _ && walkB own none (evens (Txt.split _ ".")))=_;unfold formB goodW;rw [dot_eq,zFh hf hne]
section
variable {own:Str→Option (Option Str)}{ws:List Str}{x:Str}
theorem gw_odd (h:¬ ws.length % 2=0):goodW own ws=false:=by
 unfold goodW;rw [decide_eq_false h];simp
theorem gw_num (hx:x∈odds ws) (h:writtenB x=false):goodW own ws=false:=by
 unfold goodW;rw [List.all_eq_false.mpr ⟨x,hx,by rw [h];decide⟩];simp
theorem gw_name (hx:x∈evens ws) (h:nameB x=false):goodW own ws=false:=by
 unfold goodW;rw [List.all_eq_false.mpr ⟨x,hx,by rw [h];decide⟩];simp
theorem zEz (h:walkB own none (evens ws)=false):goodW own ws=false:=by
 unfold goodW;rw [h,Ye]
end
theorem zFv {own:Str→Option (Option Str)}{x:Str} (h:own x=none):∀ {l:List Str}{a:Option Str},x∈l→walkB own a l=false
 | y :: t,a,hx=>by
  show (decide (own y=some a) && walkB own (some y) t)=false;rcases List.mem_cons.mp hx with rfl | hx
  ·rw [h,decide_eq_false (by simp)];rfl
  ·rw [zFv h hx,Ye]
theorem zEc {own:Str→Option (Option Str)}{x y:Str}{l2:List Str} (h:own y≠some (some x)):∀ {l1:List Str}{a:Option Str},walkB own a (l1++x :: y :: l2)=false
 | [],a=>by
  show (_ && (decide (own y=some (some x)) && _))=false;rw [decide_eq_false h,Bool.false_and,Ye]
 | z :: t,a=>by
  show (_ && walkB own (some z) (t++x :: y :: l2))=false;rw [zEc h,Ye]
theorem walk_head {own:Str→Option (Option Str)}{x:Str}{l:List Str}{a:Option Str} (h:own x≠some a):walkB own a (x :: l)=false:=by
 show (decide (own x=some a) && _)=false;rw [decide_eq_false h];rfl
theorem eo_app {α : Type}:∀ {a b:List α},a.length % 2=0→evens (a++b)=evens a++evens b∧odds (a++b)=odds a++odds b
 | [],_,_=>⟨rfl,rfl⟩
 | [_],_,h=>by simp at h
 | x :: y :: t,b,h=>by
  obtain ⟨h1,h2⟩:=eo_app (a:=t) (b:=b) (by simp only [Ze] at h;omega);exact ⟨by show x :: evens (t++b)=x :: (evens t++evens b);rw [h1],by show y :: odds (t++b)=y :: (odds t++odds b);rw [h2]⟩
noncomputable def wordsI (its:List It2):List Str:=its.flatMap fun x=>[x.fst,x.snd]
theorem zEb {its:List It2} (h:its≠[]):wordsI its≠[]:=by
 cases its with
 | nil=>exact absurd rfl h
 | cons a t=>simp [wordsI]
theorem zC3:∀ {its:List It2},its≠[]→txtOf its=Str.join "." (wordsI its)
 | [x],_=>rfl
 | x :: y :: t,_=>by
  have ih:=zC3 (its:=y :: t) (by simp);have e1:txtOf (x :: y :: t)=x.one++"."++txtOf (y :: t):=zB1 "." (ws:=[x.one]) (by simp) (by simp);have e2:Str.join "." (wordsI (x :: y :: t))=Str.join "." [x.fst,x.snd]++"."++Str.join "." (wordsI (y :: t)):=zB1 "." (ws:=[x.fst,x.snd]) (vs:=wordsI (y :: t)) (by simp) (zEb (by simp));rw [e1,e2,ih];rfl
theorem zFd (a b:List It2):wordsI (a++b)=wordsI a++wordsI b:=by unfold wordsI;rw [List.flatMap_append]
theorem zBt (a:List It2):(wordsI a).length=2 * a.length:=by
 induction a with
 | nil=>rfl
 | cons x t ih=>rw [show wordsI (x :: t)=x.fst :: x.snd :: wordsI t from rfl];simp only [Ze];omega
theorem zDx (a:List It2):evens (wordsI a)=a.map It2.fst:=by
 induction a with
 | nil=>rfl
 | cons x t ih=>show x.fst :: evens (wordsI t)=_;rw [ih];rfl
noncomputable def itsP (p:List (Str×Nat)):List It2:=p.map fun x=>.num x.1 x.2
theorem zFa (p:List (Str×Nat)):wordsI (itsP p)=wordsP p:=by
 induction p with
 | nil=>rfl
 | cons x t ih=>show x.1 :: figs x.2 :: wordsI (itsP t)=_;rw [ih];rfl
theorem zBy {p:List (Str×Nat)} (h:p≠[]):txtOf (itsP p)=showP p:=by
 rw [zC3 (by cases p with | nil=>exact absurd rfl h | cons a t=>simp [itsP]),zFa];rfl
theorem join_two {pre post:List Str}{x y:Str}:Str.join "." (pre++(x++"."++y) :: post)=Str.join "." (pre++x :: y :: post):=by
 have one:Str.join "." ((x++"."++y) :: post)=Str.join "." (x :: y :: post):=by
  cases post with
  | nil=>rfl
  | cons z t =>
   rw [show (x++"."++y) :: z :: t=[x++"."++y]++(z :: t) from rfl,zB1 "." (by simp) (by simp),show x :: y :: z :: t=[x,y]++(z :: t) from rfl,zB1 "." (by simp) (by simp)];rfl
 cases pre with
 | nil=>exact one
 | cons a t=>rw [zB1 "." (by simp) (by simp),zB1 "." (by simp) (by simp),one]
end L2.W
namespace L2.W
open PySem My
theorem zDv {c:Nat} (h:charB c=true):97≤c∧c≤122:=(by decide +kernel:∀ c∈letters.cps.toList,97≤c∧c≤122) c (of_decide_eq_true h)
theorem zDr {x:Str} (h:nameB x=true):1≤x.length∧x.length≤8∧∀ c∈x.cps.toList,97≤c∧c≤122:=by
 unfold nameB at h;simp only [Zu,decide_eq_true_eq] at h;exact ⟨h.1.1,h.1.2,fun c hc=>zDv (List.all_eq_true.mp h.2 c hc)⟩
theorem up1_big {c:Nat} (h1:97≤c) (h2:c≤122):PyProof.Rows.up1 c=c - 32:=by
 have:=(by decide +kernel:∀ i < 26,PyProof.Rows.up1 (97 + i)=97 + i - 32) (c - 97) (by omega)
 rwa [Nat.add_sub_cancel' h1] at this
theorem zGf {x:Str}{c:Nat} (hc:c∈x.cps.toList) (h:charB c=false):nameB x=false:=by
 unfold nameB;rw [List.all_eq_false.mpr ⟨c,hc,by rw [h];decide⟩,Ye]
theorem zAo (x:Str):x.length=x.cps.toList.length:=by
 show x.cps.size=_;simp
theorem up_name {x:Str} (h:nameB x=true):nameB (Txt.upper x)=false∧freeOf 46 (Txt.upper x)∧(Txt.upper x).length≤8∧PyData.strOk (Txt.upper x)=true:=by
 obtain ⟨h1,h8,hc⟩:=zDr h;have e:Txt.upper x=⟨x.cps.map PyProof.Rows.up1⟩:=PyProof.Rows.upper_ascii fun c hc'=>by have:=hc c hc';omega
 have el:(Txt.upper x).cps.toList=x.cps.toList.map PyProof.Rows.up1:=by rw [e];simp
 have hall:∀ c∈(Txt.upper x).cps.toList,65≤c∧c≤90:=fun c hc'=>by
  rw [el] at hc';obtain ⟨d,hd,rfl⟩:=List.mem_map.mp hc';have:=hc d hd;rw [up1_big this.1 this.2];omega
 have ll:(Txt.upper x).length=x.length:=by rw [zAo,el,Z0,← zAo]
 refine ⟨?_,fun d hd e=>by have:=hall d hd;omega,by omega,(zAv _).mpr fun c hc'=>by have:=hall c hc';omega⟩;cases z:(Txt.upper x).cps.toList with
 | nil=>rw [zAo,z] at ll;simp at ll;omega
 | cons c t =>
  have hm:c∈(Txt.upper x).cps.toList:=by rw [z];exact Z9
  refine zGf hm ?_;have:=hall c hm;cases q:charB c with
  | false=>rfl
  | true=>have:=zDv q;omega
theorem zCy {w:Str}{r:List Str}:∃ t,(Str.join "." (w :: r)).cps.toList=w.cps.toList++t:=by
 cases r with
 | nil=>exact ⟨[],by rw [List.append_nil];rfl⟩
 | cons a b =>
  have e:Str.join "." (w :: a :: b)=w++"."++Str.join "." (a :: b):=zB1 "." (ws:=[w]) (by simp) (by simp);exact ⟨(".": Str).cps.toList++(Str.join "." (a :: b)).cps.toList,by rw [e,zA8,zA8,List.append_assoc]⟩
theorem zDi {own:Str→Option (Option Str)}{y:Str}{c:Nat}{t:List Nat} (e:y.cps.toList=c :: t) (hc:charB c=false):goodD own (.str y)=false:=by
 show (formB y && _)=false;have hf:formB y=false:=by
  unfold formB;have ej:=StrLaws.join_split y ".";cases ws:Txt.split y "." with
  | nil=>exact absurd ws (split_ne y)
  | cons w r =>
   rw [ws] at ej;have hn:nameB w=false:=by
    obtain ⟨t',et⟩:=zCy (w:=w) (r:=r);rw [ej,e] at et;cases q:w.cps.toList with
    | nil =>
     have:w.length=0:=by rw [zAo,q];rfl
     unfold nameB;rw [decide_eq_false (by omega)];simp
    | cons a b =>
     rw [q] at et;have:c=a:=by injection et
     exact zGf (c:=a) (by rw [q];exact Z9) (by rw [← this];exact hc)
   have:w∈evens (w :: r):=by cases r <;> exact Z9
   rw [List.all_eq_false.mpr ⟨w,this,by rw [hn];decide⟩];simp
 rw [hf];rfl
theorem zF9:∀ {r:List Str}{w:Str},∃ t,(Str.join "." (r++[w])).cps.toList=t++w.cps.toList
 | [],w=>⟨[],rfl⟩
 | a :: b,w=>by
  have e:Str.join "." ((a :: b)++[w])=Str.join "." (a :: b)++"."++Str.join "." [w]:=zB1 "." (by simp) (by simp);exact ⟨(Str.join "." (a :: b)).cps.toList++(".": Str).cps.toList,by rw [e,zA8,zA8];rfl⟩
theorem odds_snoc {α : Type}:∀ {r:List α}{w : α},(r++[w]).length % 2=0→w∈odds (r++[w])
 | [],_,h=>by simp at h
 | [_],w,_=>Z9
 | _ :: _ :: t,w,h=>Z6 _ (odds_snoc (r:=t) (w:=w) (by simp only [List.cons_append,Ze] at h ⊢;omega))
theorem zEp {x:Str}{c:Nat} (hc:c∈x.cps.toList) (h:figC c=false):writtenB x=false:=by
 unfold writtenB;rw [List.all_eq_false.mpr ⟨c,hc,by rw [h];decide⟩];simp
theorem last_bad {own:Str→Option (Option Str)}{y:Str}{c:Nat}{t:List Nat} (e:y.cps.toList=t++[c]) (hc:figC c=false):goodD own (.str y)=false:=by
 show (formB y && _)=false;have hf:formB y=false:=by
  unfold formB;have ej:=StrLaws.join_split y ".";have ne:=split_ne y;obtain ⟨r,w,ws⟩:∃ r w,Txt.split y "." = r++[w]:=⟨_,_,(List.dropLast_concat_getLast ne).symm⟩;rw [ws] at ej ⊢;by_cases h:(r++[w]).length % 2=0
  ·have hn:writtenB w=false:=by
    obtain ⟨t',et⟩:=zF9 (r:=r) (w:=w);rw [ej,e] at et;rcases List.eq_nil_or_concat w.cps.toList with q | ⟨a,b,q⟩
    ·have:w.length=0:=by rw [zAo,q];rfl
     unfold writtenB;rw [decide_eq_false (by omega)];rfl
    ·rw [q,List.concat_eq_append,← List.append_assoc] at et;have:c=b:=by
      have:=congrArg List.getLast? et
      simpa using this
     exact zEp (c:=b) (by rw [q,List.concat_eq_append];simp) (by rw [← this];exact hc)
   rw [List.all_eq_false.mpr ⟨w,odds_snoc h,by rw [hn];decide⟩];simp
  ·rw [decide_eq_false h];rfl
 rw [hf];rfl
end L2.W
namespace L2.W
open PySem My
noncomputable def CAt (p:Addr) (H:Hp) (v:V) (x:Str×Nat):Prop:=∃ a,a≠p∧v=.ref a∧H a=some (.tup [.str x.1,.int ((x.2:Nat):Int)])
structure CPath (own:Str→Option (Option Str)) (q:List (Str×Nat)):Prop where
 pok:PathOk q
 le:q.length≤5
 ch:Chain (fun k o=>own k=some o) none q
theorem zFg:∀ {ws:List Str},(∀ w∈ws,PyData.strOk w=true)→PyData.strOk (Str.join "." ws)=true
 | [],_=>by decide +kernel
 | [a],h=>h a Z9
 | a :: b :: t,h=>by
  have e:Str.join "." (a :: b :: t)=a++"."++Str.join "." (b :: t):=zB1 "." (ws:=[a]) (by simp) (by simp);have h1:=h a Z9;have h2:=zFg (ws:=b :: t) fun w hw=>h w (Z6 _ hw);rw [zAv] at h1 h2 ⊢;intro c hc;rw [e,zA8,zA8] at hc;rcases List.mem_append.mp hc with hc | hc
  ·rcases List.mem_append.mp hc with hc | hc
   ·exact h1 c hc
   ·exact (by decide +kernel:∀ c∈(".": Str).cps.toList,c < 0x110000) c hc
  ·exact h2 c hc
theorem zF0 (n:Nat):PyData.strOk (figs n)=true:=(zAv _).mpr fun c hc=>by have:=zE8 hc;omega
inductive OddI (own:Str→Option (Option Str)):It2→Prop where
 | num {x:It2} (h:writtenB x.snd=false) (f1:freeOf 46 x.fst) (f2:freeOf 46 x.snd):OddI own x
 | name {x:It2} (h:nameB x.fst=false) (f1:freeOf 46 x.fst) (f2:freeOf 46 x.snd):OddI own x
 | own {x:It2} (h:own x.fst=none) (f1:freeOf 46 x.fst) (f2:freeOf 46 x.snd):OddI own x
 | pt {a:Str} (f1:freeOf 46 a):OddI own (.txt a "1.")
theorem zCm {q:List (Str×Nat)} (h:∀ x∈q,nameOk x.1∧x.2≤999999):∀ w∈wordsI (itsP q),freeOf 46 w:=by
 rw [zFa];exact zBd fun x hx=>⟨zBa (h x hx).1,zBg x.2⟩
theorem zDl {own:Str→Option (Option Str)}{q1 q2:List (Str×Nat)}{it:It2} (h1:∀ x∈q1,nameOk x.1∧x.2≤999999) (h2:∀ x∈q2,nameOk x.1∧x.2≤999999) (o:OddI own it):goodD own (.str (txtOf (itsP q1++it :: itsP q2)))=false:=by
 have f1:=zCm h1;have f2:=zCm h2;rw [zC3 (by simp),zFd,show wordsI (it :: itsP q2)=it.fst :: it.snd :: wordsI (itsP q2) from rfl];have ev:evens (wordsI (itsP q1)++it.fst :: it.snd :: wordsI (itsP q2))=evens (wordsI (itsP q1))++it.fst :: evens (wordsI (itsP q2)):=(eo_app (by rw [zBt];omega)).1;have od:odds (wordsI (itsP q1)++it.fst :: it.snd :: wordsI (itsP q2))=odds (wordsI (itsP q1))++it.snd :: odds (wordsI (itsP q2)):=(eo_app (by rw [zBt];omega)).2;have fr:∀ {a b:Str},freeOf 46 a→freeOf 46 b→∀ w∈wordsI (itsP q1)++a :: b :: wordsI (itsP q2),freeOf 46 w:=fun {a b} ha hb w hw=>by
  rcases List.mem_append.mp hw with hw | hw
  ·exact f1 w hw
  ·rcases List.mem_cons.mp hw with rfl | hw
   ·exact ha
   ·rcases List.mem_cons.mp hw with rfl | hw
    ·exact hb
    ·exact f2 w hw
 cases o with
 | num h a b=>rw [zB5 (fr a b) (by simp)];exact gw_num (by rw [od];simp) h
 | name h a b=>rw [zB5 (fr a b) (by simp)];exact gw_name (by rw [ev];simp) h
 | own h a b=>rw [zB5 (fr a b) (by simp)];exact zEz (zFv h (by rw [ev];simp))
 | @pt a f =>
  show goodD own (.str (Str.join "." (wordsI (itsP q1)++a :: "1." :: wordsI (itsP q2))))=false;have e:Str.join "." (wordsI (itsP q1)++a :: "1." :: wordsI (itsP q2))=Str.join "." (wordsI (itsP q1)++a :: "1" :: "" :: wordsI (itsP q2)):=by
   have:=join_two (pre:=wordsI (itsP q1)++[a]) (post:=wordsI (itsP q2)) (x:="1") (y:="");rw [show ("1"++"."++"" : Str) = "1." by decide +kernel] at this
   simpa using this
  rw [e,zB5 _ (by simp)]
  ·exact gw_odd (by simp only [Z4,Ze,zBt];omega)
  ·intro w hw;rcases List.mem_append.mp hw with hw | hw
   ·exact f1 w hw
   ·rcases List.mem_cons.mp hw with rfl | hw
    ·exact f
    ·rcases List.mem_cons.mp hw with rfl | hw
     ·unfold freeOf;decide +kernel
     ·rcases List.mem_cons.mp hw with rfl | hw
      ·unfold freeOf;decide +kernel
      ·exact f2 w hw
end L2.W
namespace L2.W
open PySem My
noncomputable def spSpoilt:Sp:=fun vs H Q _=>∃ (p lc:Addr) (ys:List V) (q:List (Str×Nat)) (own:Str→Option (Option Str)) (k:Int),vs=[.ref p,.ref lc]∧Src H p k∧k≤890000∧lc≠p∧H lc=some (.lst ys)∧Paired (CAt p H) ys q∧CPath own q∧own "qq" = none ∧
 ∀ (x:Str) (H':Hp),goodD own (.str x)=false→x.length≤200→PyData.strOk x=true→Src H' p (k + 5)→(∀ b o,H b=some o→b≠p→H' b=some o)→Q (.str x) H'
noncomputable def oddT (n:Nat):List Str:=["0"++figs n, "00", "1000000", "", "-1", "+1", "x", "1_0", " 1",figs n++" ", "1."]
theorem oddT_ok {n:Nat} (hn:n≤999999) {own:Str→Option (Option Str)}{a:Str} (fa:freeOf 46 a):∀ x∈oddT n,x.length≤8∧PyData.strOk x=true∧OddI own (.txt a x):=by
 have g1:=figs_ge n;have g2:=zC2 hn;have app_ok:∀ {x y:Str},PyData.strOk x=true→PyData.strOk y=true→PyData.strOk (x++y)=true:=fun {x y} h1 h2=>by
  rw [zAv] at h1 h2 ⊢;intro c hc;rw [zA8] at hc;exact (List.mem_append.mp hc).elim (h1 c) (h2 c)
 have fr:∀ {x y:Str},freeOf 46 x→freeOf 46 y→freeOf 46 (x++y):=fun {x y} h1 h2 d hd e=>by
  rw [zA8] at hd;exact (List.mem_append.mp hd).elim (fun h=>h1 d h e) (fun h=>h2 d h e)
 have f0:freeOf 46 ("0" : Str):=by unfold freeOf;decide +kernel
 have f1:freeOf 46 (" " : Str):=by unfold freeOf;decide +kernel
 intro x hx;simp only [oddT,Zj,Zf,or_false] at hx;rcases hx with rfl | rfl | rfl | rfl | rfl | rfl | rfl | rfl | rfl | rfl | rfl
 ·refine ⟨by rw [zAd,show ("0" : Str).length=1 by decide +kernel];omega,app_ok (by decide +kernel) (zF0 n),.num ?_ fa (fr f0 (zBg n))⟩;show writtenB ("0"++figs n)=false;unfold writtenB;have hs:Txt.startswith ("0"++figs n) "0" = true:=by
   unfold Txt.startswith;rw [StrLaws.subAt_eq,zA8];have e1:("0" : Str).cps.toList=[48]:=by decide +kernel
   have e2:("0" : Str).length=1:=by decide +kernel
   rw [e1,e2,List.drop_zero,zAd,e2];simp
  rw [hs,decide_eq_true (show 1 < ("0"++figs n).length by rw [zAd,show ("0" : Str).length=1 by decide +kernel];omega)];simp
 ·exact ⟨by decide +kernel,by decide +kernel,.num (show writtenB "00" = false by decide +kernel) fa (show freeOf 46 "00" by unfold freeOf;decide +kernel)⟩
 ·exact ⟨by decide +kernel,by decide +kernel,.num (show writtenB "1000000" = false by decide +kernel) fa (show freeOf 46 "1000000" by unfold freeOf;decide +kernel)⟩
 ·exact ⟨by decide +kernel,by decide +kernel,.num (show writtenB "" = false by decide +kernel) fa (show freeOf 46 "" by unfold freeOf;decide +kernel)⟩
 ·exact ⟨by decide +kernel,by decide +kernel,.num (show writtenB "-1" = false by decide +kernel) fa (show freeOf 46 "-1" by unfold freeOf;decide +kernel)⟩
 ·exact ⟨by decide +kernel,by decide +kernel,.num (show writtenB "+1" = false by decide +kernel) fa (show freeOf 46 "+1" by unfold freeOf;decide +kernel)⟩
 ·exact ⟨by decide +kernel,by decide +kernel,.num (show writtenB "x" = false by decide +kernel) fa (show freeOf 46 "x" by unfold freeOf;decide +kernel)⟩
 ·exact ⟨by decide +kernel,by decide +kernel,.num (show writtenB "1_0" = false by decide +kernel) fa (show freeOf 46 "1_0" by unfold freeOf;decide +kernel)⟩
 ·exact ⟨by decide +kernel,by decide +kernel,.num (show writtenB " 1" = false by decide +kernel) fa (show freeOf 46 " 1" by unfold freeOf;decide +kernel)⟩
 ·refine ⟨by rw [zAd,show (" " : Str).length=1 by decide +kernel];omega,app_ok (zF0 n) (by decide +kernel),.num ?_ fa (fr (zBg n) f1)⟩;exact zEp (c:=32) (by show 32∈(figs n++" ").cps.toList;rw [zA8];exact Zq _ (by decide +kernel)) (by decide +kernel)
 ·exact ⟨by decide +kernel,by decide +kernel,.pt fa⟩
theorem CAt.it {p:Addr}{H H':Hp} (k:∀ b o,H b=some o→b≠p→H' b=some o) {ys:List V}{q:List (Str×Nat)} (h:Paired (CAt p H) ys q):Paired (It2.at_ H') ys (itsP q):=by
 induction h with
 | nil=>exact .nil
 | cons r _ ih =>
  obtain ⟨a,ha,rfl,e⟩:=r;exact .cons ⟨a,rfl,k _ _ e ha⟩ ih
theorem zCa {α β : Type}{R : α→β→Prop}{a b:List α}{c d:List β} (h:Paired R a c) (h2:Paired R b d):Paired R (a++b) (c++d):=by
 induction h with
 | nil=>exact h2
 | cons r _ ih=>exact .cons r ih
theorem zBv {α β : Type}{R : α→β→Prop}:∀ (n:Nat) {a:List α}{c:List β},Paired R a c→Paired R (a.take n) (c.take n)
 | 0,_,_,_=>.nil
 | _ + 1,_,_,.nil=>.nil
 | n + 1,_,_,.cons r t=>.cons r (zBv n t)
theorem zBw {α β : Type}{R : α→β→Prop}:∀ (n:Nat) {a:List α}{c:List β},Paired R a c→Paired R (a.drop n) (c.drop n)
 | 0,_,_,h=>h
 | _ + 1,_,_,.nil=>.nil
 | n + 1,_,_,.cons _ t=>zBw n t
theorem cut_takeN {xs:List V}{j:Nat} (h:j≤xs.length):cutV xs none (some (j:Int))=xs.take j:=by
 have n:¬ ((j:Int) < 0):=by omega
 unfold cutV HT.sIx;simp [n,Nat.min_eq_left h]
theorem zF3 {xs:List V}{j:Nat} (h:j≤xs.length):cutV xs (some (j:Int)) none=xs.drop j:=by
 have n:¬ ((j:Int) < 0):=by omega
 unfold cutV HT.sIx;simp [n,Nat.min_eq_left h];rw [List.take_of_length_le (by rw [Zv];omega)]
theorem zCe {q:List (Str×Nat)} (h:∀ x∈q,nameOk x.1∧x.2≤999999):∀ x∈itsP q,x.ok∧PyData.strOk x.fst=true∧PyData.strOk x.snd=true:=fun x hx=>by
 obtain ⟨y,hy,rfl⟩:=List.mem_map.mp hx;obtain ⟨h1,h2⟩:=h y hy;exact ⟨⟨h1.2.2,Zd (zC2 h2) (by decide),h2⟩,h1.2.1,zF0 _⟩
theorem txt_ok {its:List It2} (hl:its.length≤10) (h:∀ x∈its,x.ok∧PyData.strOk x.fst=true∧PyData.strOk x.snd=true):(txtOf its).length≤200∧PyData.strOk (txtOf its)=true:=by
 have ld:("." : Str).length=1:=by decide +kernel
 refine ⟨?_,zFg fun w hw=>?_⟩
 ·have:=zE6 (s:=".") (m:=19) ld (ws:=its.map It2.one) fun w hw=>by
   obtain ⟨x,hx,rfl⟩:=List.mem_map.mp hw;obtain ⟨o1,o2,_⟩:=(h x hx).1;show (x.fst++"."++x.snd).length≤19;rw [zAd,zAd];omega
  rw [Z0] at this;show (Str.join "." (its.map It2.one)).length≤200;omega
 ·obtain ⟨x,hx,rfl⟩:=List.mem_map.mp hw;obtain ⟨_,s1,s2⟩:=h x hx;rw [zAv] at s1 s2 ⊢;intro c hc;have hc':c∈(x.fst++"."++x.snd).cps.toList:=hc;rw [zA8,zA8] at hc';rcases List.mem_append.mp hc' with hc | hc
  ·rcases List.mem_append.mp hc with hc | hc
   ·exact s1 c hc
   ·exact (by decide +kernel:∀ c∈(".": Str).cps.toList,c < 0x110000) c hc
  ·exact s2 c hc
section
variable {P:Program}{w:World}{K:PySem.W.Frag}{mg:Str→Option Value}{base:Heap}{CX:CXT}
theorem scSl:FnScope ["_law_source", "_law_chain_here", "_law_at", "_law_one", "_law_number", "_law_odd", "_law_way", "_law_some"] ["_law_source", "_law_chain_here"] (defScope sSpoilt):=⟨rfl,rfl,rfl,by decide +kernel,rfl,by decide +kernel,by decide +kernel⟩
set_option maxHeartbeats 4000000 in
theorem ok_spoilt {f fm fn ft:Addr}{fd fdm fdn fdt:FuncData} (hC:Calm CX) (T:Tops K mg) (F:Fun K "_law_spoilt" "_law_spoilt" sSpoilt f fd) (DM:Def K mg "_law_mixed" sMixed ["_law_cell", "_law_k"] fm fdm)
  (DN:Def K mg "_law_next" sNext ["_law_source", "_law_many"] fn fdn) (DT:Def K mg "_law_text" sText ["_law_chain_here"] ft fdt):FnOk P w K mg base CX 3 f fd ["_law_source", "_law_chain_here"] spSpoilt:=by
 have GN:FnOk P w K mg base CX 2 fn fdn ["_law_source", "_law_many"] spNext:=zCl hC DN.fn DM;have GT:FnOk P w K mg base CX 1 ft fdt ["_law_chain_here"] spText:=zGd T DT.fn;refine Fun.okC F scSl (fun vs H Q E h=>?_) (fun cdv A outer s H vs Q E hr h=>?_)
 ·obtain ⟨p,lc,ys,q,own,k,rfl,_⟩:=h;rfl
 ·obtain ⟨p,lc,ys,q,own,k,rfl,S0,hk,nlc,hlc,hys,cp,oq,fin⟩:=h;have nd:=scSl.nd;have hr1:=hr.mono (show 1≤2 by decide)
  refine ⟨_,zA3 (zAb (i:=2) nd rfl (Or.inl rfl) (zA7 GN hr rfl DN.at_ DN.fn.kp DN.bind .nil (passC hC) (zA0 (pv 0) (zA0 (zA9 zAi rfl T.len PySem.boot_len (zA0 (pv 1) zA2)) zA2))))
     (zA3 (zEg (zAs zAk (pv 1) (pv 2) (fun _ _=>rfl)) (zDz rfl (zAm (zAc (i:=3) nd rfl (Or.inl rfl)) (zAm (zAc (i:=4) nd rfl (Or.inl rfl)) zC1))))
     (zA3 (zAb (i:=5) nd rfl (Or.inl rfl) (zAr (zA0 (zAh zAf zAe (zB3 zBo rfl T.str PyProof.Rows.boot_str (zA0 (pv 4) zA2))) (zA0 zAe (zA0 zAe (zA0 zAe (zA0 zAe (zA0 zAe (zA0 zAe (zA0 zAe (zA0 zAe (zA0 (zAh zAf (zB3 zBo rfl T.str PyProof.Rows.boot_str (zA0 (pv 4) zA2)) zAe) (zA0 zAe zA2)))))))))))))
     (zA3 (zAb (i:=6) nd rfl (Or.inl rfl) (zA7 GN hr rfl DN.at_ DN.fn.kp DN.bind .nil (passC hC) (zA0 (pv 0) (zA0 zA4 zA2))))
     (zA3 (zAw (zAp op_lt (pv 6) zA4 (nomark _))
     (zA6 (zAb (i:=7) nd rfl (Or.inl rfl) (zAh zC5 (zAh zC5 (zAz zBp (pv 1) zBf (zB9 (pv 2))) (zAr (zA0 (zBc (zA0 (pv 3) (zA0 (zAs zAk (pv 5) (pv 6) (fun _ _=>rfl)) zA2))) zA2))) (zAz zBp (pv 1) (zB9 (zAh zC6 (pv 2) zA4)) zBf)))) (zA6 (zAb (i:=7) nd rfl (Or.inl rfl) (zAh zC5 (zAh zC5 (zAz zBp (pv 1) zBf (zB9 (pv 2))) (zAr (zA0 (zBc (zA0 (zAs zAk (zAr (zA0 zAe (zA0 zAe (zA0 (pe_bm0 PySem.F.plainAttrs_str PySem.F.slot_str_upper PySem.F.type_str_upper mt_upper (pv 3)) zA2)))) (zAh op_sub (pv 6) zA4) (fun _ _=>rfl)) (zA0 (pv 4) zA2))) zA2))) (zAz zBp (pv 1) (zB9 (zAh zC6 (pv 2) zA4)) zBf)))))
     (zA6 (zAj (zA7 GT hr1 rfl DT.at_ DT.fn.kp DT.bind .nil (passC hC) (zA0 (pv 7) zA2)))))))),?_⟩
  have small:∀ n:Nat,n≤1000→n≤sizeLine:=fun n h=>Zl (small1000 h);have yl:=Paired.length hys;have q5:=cp.le;have q0:0 < q.length:=List.length_pos_iff.mpr cp.pok.ne;refine ⟨_,rfl,_,rfl,lc,ys,rfl,.inl (SqL.of hlc),p,_,_,rfl,S0,by omega,by omega,by omega,fun r2 H1 a0 a1 S1 k1=>?_⟩;obtain ⟨j,rfl⟩:∃ j:Nat,r2=(j:Int):=⟨r2.toNat,by omega⟩;have f1:∀ b o,H b=some o→b≠p→H1 b=some o:=fun b o e nb=>by rw [k1 b nb];exact e
  obtain ⟨y,ey⟩:∃ y,ys[j]? = some y:=⟨_,Z1 (by omega)⟩;obtain ⟨⟨kd,n⟩,ex,t,nt,rfl,ht⟩:=zBk hys ey;obtain ⟨nk,n9⟩:=cp.pok.ok (kd,n) (Z3 ex);refine ⟨_,rfl,_,rfl,lc,ys,(j:Int),_,rfl,rfl,SqL.of (f1 _ _ hlc nlc),zBh ey,t,_,rfl,SqT.of (f1 _ _ ht nt),rfl,_,_,rfl,_,_,rfl,rfl,?_⟩;dsimp only [gName,List.set];have lo:((n:Int).natAbs).log2 < 1920:=by
   rw [Int.natAbs_natCast];by_cases z:n=0
   ·rw [z];decide
   ·exact (Nat.log2_lt z).mpr (Z7 (show n < 2 ^ 20 by have:n≤999999:=n9;omega) (Nat.pow_le_pow_right (by decide) (by decide)))
  have l2:(figs n).length≤6:=zC2 n9;have ft:(Str.ofString (toString (n:Int))).length≤6:=l2;have z1:("0" : Str).length=1:=by decide +kernel
  have z2:(" " : Str).length=1:=by decide +kernel
  have big:=small1000 (Z5 1000);refine ⟨_,rfl,(n:Int),rfl,lo,_,_,rfl,rfl,by omega,?_⟩;refine ⟨_,rfl,(n:Int),rfl,lo,_,_,rfl,rfl,by omega,small 11 (by decide),fun l5 h5=>?_⟩;have s5:Same H1 (upd H1 l5 (.lst ((oddT n).map V.str))):=Same.new h5;have e5:(upd H1 l5 (.lst ((oddT n).map V.str))) l5=some (.lst ((oddT n).map V.str)):=zA1;have n5:l5≠p:=S1.nw h5;rw [show ([.str ("0"++Str.ofString (toString (n:Int))),.str "00",.str "1000000",.str "",.str "-1",.str "+1",.str "x",.str "1_0",.str " 1",.str (Str.ofString (toString (n:Int))++" "),.str "1."]:List V)=(oddT n).map V.str from rfl];generalize upd H1 l5 (.lst ((oddT n).map V.str))=H2 at s5 e5 ⊢;dsimp only [gName,List.set];refine ⟨_,rfl,p,_,_,rfl,S1.up s5,by omega,by decide,by decide,fun w6v H3 b0 b1 S3 k3=>?_⟩;have f3:∀ b o,H b=some o→b≠p→H3 b=some o:=fun b o e nb=>by rw [k3 b nb];exact s5 _ _ (f1 b o e nb)
  have x5':H3 l5=some (.lst ((oddT n).map V.str)):=by rw [k3 _ n5];exact e5
  dsimp only [gName,List.set];refine ⟨_,rfl,_,_,rfl,rfl,_,rfl,?_⟩;refine ite2 (fun c=>?_) (fun c=>?_)
  ·refine ⟨_,rfl,_,rfl,_,rfl,lc,ys,rfl,SqL.of (f3 _ _ hlc nlc),fun l1 h1=>?_⟩;rw [cut_takeN (by omega)];have w1:Same H3 (upd H3 l1 (.lst (ys.take j))):=Same.new h1;have x1:(upd H3 l1 (.lst (ys.take j))) l1=some (.lst (ys.take j)):=zA1;generalize upd H3 l1 (.lst (ys.take j))=Ha at w1 x1 ⊢;have wab:Same Ha Ha:=Same.refl _;obtain ⟨m6,rfl⟩:∃ m:Nat,w6v=(m:Int):=⟨w6v.toNat,by omega⟩;have c6:=of_decide_eq_true c;obtain ⟨od,eod⟩:∃ od,(oddT n)[m6]? = some od:=⟨_,Z1 (by show m6 < 11;omega)⟩;obtain ⟨ol,ook,obad⟩:=oddT_ok n9 (own:=own) (zBa nk) od (Z3 eod);refine ⟨_,rfl,_,rfl,_,rfl,l5,_,(m6:Int),_,rfl,rfl,SqL.of (w1 _ _ x5'),zBh (by rw [Za,eod];rfl),?_⟩;obtain ⟨Hb,hHb⟩:∃ Hb,Hb=Ha:=⟨_,rfl⟩;rw [← hHb] at w1 x1 wab ⊢;replace wab:Same Hb Hb:=Same.refl _;refine ⟨small 2 (by decide),fun t2 h2=>?_⟩;have w2:Same Hb (upd Hb t2 (.tup [.str kd,.str od])):=Same.new h2;have x2:(upd Hb t2 (.tup [.str kd,.str od])) t2=some (.tup [.str kd,.str od]):=zA1;generalize upd Hb t2 (.tup [.str kd,.str od])=Hc at w2 x2 ⊢;refine ⟨small 1 (by decide),fun l2 h2'=>?_⟩;have w3:Same Hc (upd Hc l2 (.lst [.ref t2])):=Same.new h2';have x3:(upd Hc l2 (.lst [.ref t2])) l2=some (.lst [.ref t2]):=zA1;generalize upd Hc l2 (.lst [.ref t2])=Hd at w3 x3 ⊢;have tl:(ys.take j).length=j:=by rw [Zt];omega
   have dl:(ys.drop (j + 1)).length=ys.length - (j + 1):=Zv;refine ⟨l1,l2,_,_,rfl,rfl,w3 _ _ (w2 _ _ (wab _ _ x1)),x3,by show _ + 1≤_;exact small _ (by omega),fun l3 h3=>?_⟩;have w4:Same Hd (upd Hd l3 (.lst (ys.take j++[.ref t2]))):=Same.new h3;have x4:(upd Hd l3 (.lst (ys.take j++[.ref t2]))) l3=some (.lst (ys.take j++[.ref t2])):=zA1;generalize upd Hd l3 (.lst (ys.take j++[.ref t2]))=He at w4 x4 ⊢;have w14:=(w1.trans wab).trans (w2.trans (w3.trans w4));refine ⟨_,rfl,_,rfl,_,_,rfl,rfl,_,rfl,lc,ys,rfl,SqL.of (w14 _ _ (f3 _ _ hlc nlc)),fun l4 h4=>?_⟩;rw [show ((j:Int) + 1)=((j + 1:Nat):Int) by push_cast;rfl,zF3 (by omega)];have w5:Same He (upd He l4 (.lst (ys.drop (j + 1)))):=Same.new h4;have x5:(upd He l4 (.lst (ys.drop (j + 1)))) l4=some (.lst (ys.drop (j + 1))):=zA1;generalize upd He l4 (.lst (ys.drop (j + 1)))=Hf at w5 x5 ⊢;refine ⟨l3,l4,_,_,rfl,rfl,w5 _ _ x4,x5,by rw [Z4];show _ + 1 + _≤_;exact small _ (by omega),fun l9 h9=>?_⟩;have w6:Same Hf (upd Hf l9 (.lst (ys.take j++[.ref t2]++ys.drop (j + 1)))):=Same.new h9;have x6:(upd Hf l9 (.lst (ys.take j++[.ref t2]++ys.drop (j + 1)))) l9=some (.lst (ys.take j++[.ref t2]++ys.drop (j + 1))):=zA1;generalize upd Hf l9 (.lst (ys.take j++[.ref t2]++ys.drop (j + 1)))=Hg at w6 x6 ⊢;have w16:=w14.trans (w5.trans w6);have Fg:∀ b o,H b=some o→b≠p→Hg b=some o:=fun b o e nb=>w16 _ _ (f3 b o e nb);have pz:Paired (It2.at_ Hg) (ys.take j++[.ref t2]++ys.drop (j + 1)) (itsP (q.take j)++(.txt kd od) :: itsP (q.drop (j + 1))):=by
    rw [List.append_assoc];exact zCa (CAt.it Fg (zBv j hys)) (.cons ⟨t2,rfl,w6 _ _ (w5 _ _ (w4 _ _ (w3 _ _ x2)))⟩ (CAt.it Fg (zBw (j + 1) hys)))
   have o1:∀ x∈q.take j,nameOk x.1∧x.2≤999999:=fun x hx=>cp.pok.ok x (Yh hx);have o2:∀ x∈q.drop (j + 1),nameOk x.1∧x.2≤999999:=fun x hx=>cp.pok.ok x (List.mem_of_mem_drop hx);have il:(itsP (q.take j)++(.txt kd od) :: itsP (q.drop (j + 1))).length≤10:=by rw [← Paired.length pz,Z4,Z4];show _ + 1 + _≤_;omega
   have iok:∀ x∈itsP (q.take j)++(.txt kd od) :: itsP (q.drop (j + 1)),x.ok∧PyData.strOk x.fst=true∧PyData.strOk x.snd=true:=fun x hx=>by
    rcases List.mem_append.mp hx with hx | hx
    ·exact zCe o1 x hx
    ·rcases List.mem_cons.mp hx with rfl | hx
     ·exact ⟨⟨nk.2.2,ol,trivial⟩,nk.2.1,ook⟩
     ·exact zCe o2 x hx
   obtain ⟨tl9,tok9⟩:=txt_ok il iok;exact ⟨_,rfl,l9,_,_,rfl,x6,pz,il,fun x hx=>(iok x hx).1,fun H' s'=>fin _ H' (zDl o1 o2 obad) tl9 tok9 (((S3.up w16).up s').mono (by omega)) fun b o e nb=>s' _ _ (Fg b o e nb)⟩
  ·refine ⟨_,rfl,_,rfl,_,rfl,lc,ys,rfl,SqL.of (f3 _ _ hlc nlc),fun l1 h1=>?_⟩;rw [cut_takeN (by omega)];have w1:Same H3 (upd H3 l1 (.lst (ys.take j))):=Same.new h1;have x1:(upd H3 l1 (.lst (ys.take j))) l1=some (.lst (ys.take j)):=zA1;generalize upd H3 l1 (.lst (ys.take j))=Ha at w1 x1 ⊢;obtain ⟨u1,u2,u3,u4⟩:=up_name nk.1;refine ⟨_,rfl,rfl,kd,rfl,rfl,Zd nk.2.2 (by decide),small 3 (by decide),fun lu hlu=>?_⟩;have wab:Same Ha (upd Ha lu (.lst [.str "qq",.str "",.str (Txt.upper kd)])):=Same.new hlu;have xu:(upd Ha lu (.lst [.str "qq",.str "",.str (Txt.upper kd)])) lu=some (.lst [.str "qq",.str "",.str (Txt.upper kd)]):=zA1;generalize upd Ha lu (.lst [.str "qq",.str "",.str (Txt.upper kd)])=Hb at wab xu ⊢;have c11:¬ w6v < 11:=fun z=>c (decide_eq_true z);obtain ⟨wd,ewd,hwd⟩:∃ wd:Str,atI ([.str "qq",.str "",.str (Txt.upper kd)]:List V) (w6v - 11)=some (.str wd)∧wd.length≤8∧PyData.strOk wd=true∧OddI own (.num wd n):=by
    have:w6v - 11=0∨w6v - 11=1∨w6v - 11=2:=by omega
    rcases this with z | z | z
    ·rw [z];exact ⟨"qq",rfl,by decide +kernel,by decide +kernel,.own oq (show freeOf 46 "qq" by unfold freeOf;decide +kernel) (zBg n)⟩
    ·rw [z];exact ⟨"",rfl,by decide +kernel,by decide +kernel,.name (show nameB "" = false by decide +kernel) (show freeOf 46 "" by unfold freeOf;decide +kernel) (zBg n)⟩
    ·rw [z];exact ⟨Txt.upper kd,rfl,u3,u4,.name u1 u2 (zBg n)⟩
   obtain ⟨wl,wo,obad⟩:=hwd;refine ⟨_,rfl,_,_,rfl,rfl,lu,_,(w6v - 11),_,rfl,rfl,SqL.of xu,ewd,_,rfl,?_⟩;refine ⟨small 2 (by decide),fun t2 h2=>?_⟩;have w2:Same Hb (upd Hb t2 (.tup [.str wd,.int ((n:Nat):Int)])):=Same.new h2;have x2:(upd Hb t2 (.tup [.str wd,.int ((n:Nat):Int)])) t2=some (.tup [.str wd,.int ((n:Nat):Int)]):=zA1;generalize upd Hb t2 (.tup [.str wd,.int ((n:Nat):Int)])=Hc at w2 x2 ⊢;refine ⟨small 1 (by decide),fun l2 h2'=>?_⟩;have w3:Same Hc (upd Hc l2 (.lst [.ref t2])):=Same.new h2';have x3:(upd Hc l2 (.lst [.ref t2])) l2=some (.lst [.ref t2]):=zA1;generalize upd Hc l2 (.lst [.ref t2])=Hd at w3 x3 ⊢;have tl:(ys.take j).length=j:=by rw [Zt];omega
   have dl:(ys.drop (j + 1)).length=ys.length - (j + 1):=Zv;refine ⟨l1,l2,_,_,rfl,rfl,w3 _ _ (w2 _ _ (wab _ _ x1)),x3,by show _ + 1≤_;exact small _ (by omega),fun l3 h3=>?_⟩;have w4:Same Hd (upd Hd l3 (.lst (ys.take j++[.ref t2]))):=Same.new h3;have x4:(upd Hd l3 (.lst (ys.take j++[.ref t2]))) l3=some (.lst (ys.take j++[.ref t2])):=zA1;generalize upd Hd l3 (.lst (ys.take j++[.ref t2]))=He at w4 x4 ⊢;have w14:=(w1.trans wab).trans (w2.trans (w3.trans w4));refine ⟨_,rfl,_,rfl,_,_,rfl,rfl,_,rfl,lc,ys,rfl,SqL.of (w14 _ _ (f3 _ _ hlc nlc)),fun l4 h4=>?_⟩;rw [show ((j:Int) + 1)=((j + 1:Nat):Int) by push_cast;rfl,zF3 (by omega)];have w5:Same He (upd He l4 (.lst (ys.drop (j + 1)))):=Same.new h4;have x5:(upd He l4 (.lst (ys.drop (j + 1)))) l4=some (.lst (ys.drop (j + 1))):=zA1;generalize upd He l4 (.lst (ys.drop (j + 1)))=Hf at w5 x5 ⊢;refine ⟨l3,l4,_,_,rfl,rfl,w5 _ _ x4,x5,by rw [Z4];show _ + 1 + _≤_;exact small _ (by omega),fun l9 h9=>?_⟩;have w6:Same Hf (upd Hf l9 (.lst (ys.take j++[.ref t2]++ys.drop (j + 1)))):=Same.new h9;have x6:(upd Hf l9 (.lst (ys.take j++[.ref t2]++ys.drop (j + 1)))) l9=some (.lst (ys.take j++[.ref t2]++ys.drop (j + 1))):=zA1;generalize upd Hf l9 (.lst (ys.take j++[.ref t2]++ys.drop (j + 1)))=Hg at w6 x6 ⊢;have w16:=w14.trans (w5.trans w6);have Fg:∀ b o,H b=some o→b≠p→Hg b=some o:=fun b o e nb=>w16 _ _ (f3 b o e nb);have pz:Paired (It2.at_ Hg) (ys.take j++[.ref t2]++ys.drop (j + 1)) (itsP (q.take j)++(.num wd n) :: itsP (q.drop (j + 1))):=by
    rw [List.append_assoc];exact zCa (CAt.it Fg (zBv j hys)) (.cons ⟨t2,rfl,w6 _ _ (w5 _ _ (w4 _ _ (w3 _ _ x2)))⟩ (CAt.it Fg (zBw (j + 1) hys)))
   have o1:∀ x∈q.take j,nameOk x.1∧x.2≤999999:=fun x hx=>cp.pok.ok x (Yh hx);have o2:∀ x∈q.drop (j + 1),nameOk x.1∧x.2≤999999:=fun x hx=>cp.pok.ok x (List.mem_of_mem_drop hx);have il:(itsP (q.take j)++(.num wd n) :: itsP (q.drop (j + 1))).length≤10:=by rw [← Paired.length pz,Z4,Z4];show _ + 1 + _≤_;omega
   have iok:∀ x∈itsP (q.take j)++(.num wd n) :: itsP (q.drop (j + 1)),x.ok∧PyData.strOk x.fst=true∧PyData.strOk x.snd=true:=fun x hx=>by
    rcases List.mem_append.mp hx with hx | hx
    ·exact zCe o1 x hx
    ·rcases List.mem_cons.mp hx with rfl | hx
     ·exact ⟨⟨wl,Zd (zC2 n9) (by decide),n9⟩,wo,zF0 n⟩
     ·exact zCe o2 x hx
   obtain ⟨tl9,tok9⟩:=txt_ok il iok;exact ⟨_,rfl,l9,_,_,rfl,x6,pz,il,fun x hx=>(iok x hx).1,fun H' s'=>fin _ H' (zDl o1 o2 obad) tl9 tok9 (((S3.up w16).up s').mono (by omega)) fun b o e nb=>s' _ _ (Fg b o e nb)⟩
end
end L2.W
namespace L2.W
open PySem My
noncomputable def odK (kd:Str):List PyData:=[.str "qq",.str "",.none,.int 7,.bool true,.list [.str "a"],.str (kd++".")]
noncomputable def odN:List PyData:=[.int (-1),.int 1000000,.none,.bool true,.bool false,.str "0",.list [.int 0],.tuple [.int 0]]
theorem odK_ok {own:Str→Option (Option Str)} (oq:own "qq" = none) {kd:Str}:∀ d∈odK kd,∀ k a,d=.str k→own k=some a→nameB k=false:=by
 intro d hd;simp only [odK,Zj,Zf,or_false] at hd;rcases hd with rfl | rfl | rfl | rfl | rfl | rfl | rfl <;> intro k a e h
 ·cases e;rw [oq] at h;cases h
 ·cases e;decide +kernel
 ·cases e
 ·cases e
 ·cases e
 ·cases e
 ·cases e;exact zGf (c:=46) (by rw [zA8];exact Zq _ (by decide +kernel)) (by decide +kernel)
theorem odN_ok:∀ d∈odN,numB d=false:=by
 intro d hd;simp only [odN,Zj,Zf,or_false] at hd;rcases hd with rfl | rfl | rfl | rfl | rfl | rfl | rfl | rfl <;> decide
theorem good_name {own:Str→Option (Option Str)}{kd:Str} (hn:nameOk kd):goodD own (.str kd)=false:=by
 have:=zB5 (own:=own) (ws:=[kd]) (fun w hw=>by rw [List.mem_singleton.mp hw];exact zBa hn) (by simp);rw [show Str.join "." [kd]=kd from rfl] at this;rw [this];exact gw_odd (by simp)
theorem good_qq {own:Str→Option (Option Str)} (oq:own "qq" = none):goodD own (.str "qq.0")=false:=by
 have:=zB5 (own:=own) (ws:=["qq", "0"]) (by unfold freeOf;decide +kernel) (by simp);rw [show Str.join "." ["qq", "0"]=("qq.0" : Str) by decide +kernel] at this;rw [this];exact zEz (zFv oq (Z9))
theorem zFt {own:Str→Option (Option Str)}:goodD own (.str "")=false:=by
 show (formB "" && walkB own none (evens (Txt.split "" ".")))=false;rw [show formB "" = false by decide +kernel];rfl
noncomputable def ownDat (q:List (Str×Nat)):PyData:=if q.isEmpty then .none else .str (showP q)
noncomputable def odO (kd:Str) (q:List (Str×Nat)) (n:Nat):List PyData:=[.str "qq.0",.str (showP (q++[(kd,n)])),.str kd,.int 0,.bool true,.list [ownDat q],.str "",.tuple [ownDat q]]
theorem CPath.last {own:Str→Option (Option Str)}{q:List (Str×Nat)}{kd:Str}{n:Nat} (h:CPath own (q++[(kd,n)])):own kd=some ((q.getLast?).map (·.1)):=by
 have:=h.ch.get (i:=q.length) (q:=(kd,n)) (by simp);rw [this];cases q with
 | nil=>rfl
 | cons a t =>
  show some (((a :: t++[(kd,n)])[t.length]?).map (·.1))=_;rw [Zo (by simp),List.getLast?_eq_getElem?];simp
theorem three_own {own:Str→Option (Option Str)}{q:List (Str×Nat)}{kd:Str}{n:Nat}{dn:PyData} (h:CPath own (q++[(kd,n)])) (oq:own "qq" = none) (ns:∀ k,own k≠some (some k)) (hn:numB dn=true):∀ d∈odO kd q n,NoThree own (.str kd) d dn:=by
 have nk:=(h.pok.ok (kd,n) (by simp)).1;have ho:=h.last;intro d hd;cases e:q.getLast? with
 | none =>
  rw [e] at ho;refine .own0 nk ho hn ?_;simp only [odO,Zj,Zf,or_false] at hd;rcases hd with rfl | rfl | rfl | rfl | rfl | rfl | rfl | rfl <;> exact fun z=>nomatch z
 | some x =>
  rw [e] at ho;have ho':own kd=some (some x.1):=ho;simp only [odO,Zj,Zf,or_false] at hd;rcases hd with rfl | rfl | rfl | rfl | rfl | rfl | rfl | rfl
  ·exact .own1 nk ho' hn (good_qq oq)
  ·exact .own2 nk ho' hn h.pok h.ch (fun z=>ns kd (by rw [ho',z]))
  ·exact .own1 nk ho' hn (good_name nk)
  ·exact .own1 nk ho' hn rfl
  ·exact .own1 nk ho' hn rfl
  ·exact .own1 nk ho' hn rfl
  ·exact .own1 nk ho' hn zFt
  ·exact .own1 nk ho' hn rfl
end L2.W
namespace L2.W
open PySem My
theorem zBe (x y z:Str):x++y++z=x++(y++z):=zBi (by rw [zA8,zA8,zA8,zA8,List.append_assoc])
theorem app_emp (x:Str):x++"" = x:=zBi (by rw [zA8,show ("" : Str).cps.toList=[] by decide +kernel,List.append_nil])
theorem emp_app2 (x:Str) : ""++x=x:=zBi (by rw [zA8,show ("" : Str).cps.toList=[] by decide +kernel,List.nil_append])
theorem zFx {l:List It2} (x:It2) (h:l≠[]):txtOf (l++[x])=txtOf l++"."++x.one:=by
 show Str.join "." ((l++[x]).map It2.one)=_;rw [Zh,zB1 "." (by cases l with | nil=>exact absurd rfl h | cons a t=>simp) (by simp)];rfl
theorem txt_tail (l:List It2) (k x y:Str):txtOf (l++[.txt k (x++y)])=txtOf (l++[.txt k x])++y:=by
 have e:(It2.txt k (x++y)).one=(It2.txt k x).one++y:=(zBe (k++".") x y).symm;cases l with
 | nil=>exact e
 | cons a t=>rw [zFx _ (by simp),zFx _ (by simp),e,← zBe]
noncomputable def headT (q:List (Str×Nat)) (kd:Str):Str:=txtOf (itsP q++[.txt kd ""])
noncomputable def head0 (q:List (Str×Nat)) (kd:Str):Str:=Str.join "." (wordsI (itsP q)++[kd])
section
variable {q:List (Str×Nat)}{kd:Str}{n:Nat}{own:Str→Option (Option Str)}
theorem head_app (x:Str):headT q kd++x=txtOf (itsP q++[It2.txt kd x]):=by
 unfold headT;rw [← txt_tail,emp_app2]
theorem show_its:txtOf (itsP (q++[(kd,n)]))=txtOf (itsP q++[It2.txt kd (figs n)]):=by
 show Str.join "." ((itsP (q++[(kd,n)])).map It2.one)=Str.join "." ((itsP q++[It2.txt kd (figs n)]).map It2.one);rw [show itsP (q++[(kd,n)])=itsP q++[It2.num kd n] from Zh,Zh,Zh];rfl
theorem zEe:showP (q++[(kd,n)])=headT q kd++figs n:=by rw [head_app,← zBy (by simp),show_its]
theorem zE7:headT q kd=head0 q kd++".":=by
 unfold headT head0;cases q with
 | nil=>exact app_emp _
 | cons a t =>
  have ne:itsP (a :: t)≠[]:=by simp [itsP]
  rw [zFx _ ne,zB1 "." (zEb ne) (by simp),← zC3 ne,zBe (txtOf _++".")];exact congrArg _ (app_emp _)
theorem show_words:showP (q++[(kd,n)])=Str.join "." (wordsI (itsP q)++[kd,figs n]):=by
 rw [← zBy (by simp),zC3 (by simp [itsP]),show itsP (q++[(kd,n)])=itsP q++[It2.num kd n] from Zh,zFd];rfl
theorem show_more {vs:List Str} (h:vs≠[]):showP (q++[(kd,n)])++"."++Str.join "." vs=Str.join "." (wordsI (itsP q)++[kd,figs n]++vs):=by
 rw [show_words,zB1 "." (by simp) h]
theorem words_free (h:∀ x∈q++[(kd,n)],nameOk x.1∧x.2≤999999) {vs:List Str} (hv:∀ w∈vs,freeOf 46 w):∀ w∈wordsI (itsP q)++[kd,figs n]++vs,freeOf 46 w:=fun w hw=>by
 rcases List.mem_append.mp hw with hw | hw
 ·rcases List.mem_append.mp hw with hw | hw
  ·exact zCm (fun x hx=>h x (Zr _ hx)) w hw
  ·simp only [Zj,Zf,or_false] at hw;rcases hw with hw | hw
   ·rw [hw];exact zBa (h (kd,n) (by simp)).1
   ·rw [hw];exact zBg n
 ·exact hv w hw
theorem zDu {vs:List Str}:evens (wordsI (itsP q)++[kd,figs n]++vs)=(itsP q).map It2.fst++kd :: evens vs:=by
 rw [List.append_assoc,(eo_app (by rw [zBt];omega)).1,zDx];rfl
theorem odd_word {w:Str} (h:freeOf 46 w):goodD own (.str w)=false:=by
 have:=zB5 (own:=own) (ws:=[w]) (fun x hx=>by rw [List.mem_singleton.mp hx];exact h) (by simp);rw [show Str.join "." [w]=w from rfl] at this;rw [this];exact gw_odd (by simp)
structure BadS (own:Str→Option (Option Str)) (x:Str):Prop where
 le:x.length≤900
 ok:PyData.strOk x=true
 bad:goodD own (.str x)=false
theorem zC7 {x y:Str} (h1:PyData.strOk x=true) (h2:PyData.strOk y=true):PyData.strOk (x++y)=true:=by
 rw [zAv] at h1 h2 ⊢;intro c hc;rw [zA8] at hc;exact (List.mem_append.mp hc).elim (h1 c) (h2 c)
theorem zBm {x y:Str}{a b:Nat} (h1:x.length≤a) (h2:y.length≤b):(x++y).length≤a + b:=by rw [zAd];omega
theorem zCu {R:Nat→Prop}{s:Str} (hs:∀ c∈s.cps.toList,R c):∀ {ws:List Str},(∀ w∈ws,∀ c∈w.cps.toList,R c)→∀ c∈(Str.join s ws).cps.toList,R c
 | [],_=>fun d hd=>by rw [show (Str.join s []).cps.toList=[] from rfl] at hd;cases hd
 | [a],h=>h a Z9
 | a :: b :: t,h=>by
  have e:Str.join s (a :: b :: t)=a++s++Str.join s (b :: t):=zB1 s (ws:=[a]) (by simp) (by simp);have ih:=zCu hs (ws:=b :: t) fun w hw=>h w (Z6 _ hw);intro d hd;rw [e,zA8,zA8] at hd;rcases List.mem_append.mp hd with hd | hd
  ·exact (List.mem_append.mp hd).elim (h a Z9 d) (hs d)
  ·exact ih d hd
theorem zGr {p:List (Str×Nat)} (h:∀ x∈p,nameOk x.1∧x.2≤999999) (ne:p≠[]) (hl:p.length≤10) (hw:walkB own none (p.map (·.1))=false):BadS own (txtOf (itsP p)):=by
 obtain ⟨h1,h2⟩:=txt_ok (its:=itsP p) (by unfold itsP;rw [Z0];exact hl) (zCe h);have ne':itsP p≠[]:=by unfold itsP;simpa using ne
 refine ⟨by omega,h2,?_⟩;rw [zC3 ne',zB5 (zCm h) (zEb ne')];refine zEz ?_;rw [zDx,itsP,Zy];exact hw
theorem zF6 {p:List (Str×Nat)} (cp:CPath own p) (ns:∀ k,own k≠some (some k)) (h1:1 < p.length):BadS own (txtOf (itsP (p.drop 1)))∧BadS own (txtOf (itsP (p.take (p.length - 1)++p.drop (p.length - 2))))∧BadS own (txtOf (itsP p.reverse)):=by
 have ok:=cp.pok.ok;have le:=cp.le;have mem:∀ {r:List (Str×Nat)},(∀ x∈r,x∈p)→∀ x∈r,nameOk x.1∧x.2≤999999:=fun h x hx=>ok x (h x hx);refine ⟨zGr (mem fun x hx=>List.mem_of_mem_drop hx) ?_ (by rw [Zv];omega) ?_,zGr (mem fun x hx=>(List.mem_append.mp hx).elim Yh List.mem_of_mem_drop) ?_ (by rw [Z4,Zv,Zt];omega) ?_,zGr (mem fun x hx=>List.mem_reverse.mp hx) ?_ (by rw [List.length_reverse];omega) ?_⟩
 ·intro z;have:=congrArg List.length z;rw [Zv] at this;simp at this;omega
 ·match p,h1,cp.ch with
  | x :: y :: t,_,c =>
   refine walk_head (x:=y.1) (l:=t.map (·.1)) fun z=>?_;rw [c.2.1] at z;cases z
 ·intro z;have:=congrArg List.length z;rw [Z4,Zv,Zt] at this;simp at this;omega
 ·obtain ⟨r,a,b,rfl⟩:∃ r a b,p=r++[a,b]:=by
   refine ⟨p.take (p.length - 2),p[p.length - 2]'(by omega),p[p.length - 1]'(by omega),?_⟩;have e1:p=p.take (p.length - 2)++p.drop (p.length - 2):=(List.take_append_drop _ _).symm;have e2:p.drop (p.length - 2)=p[p.length - 2]'(by omega) :: p.drop (p.length - 2 + 1):=List.drop_eq_getElem_cons (by omega);have e3:p.drop (p.length - 2 + 1)=p[p.length - 2 + 1]'(by omega) :: p.drop (p.length - 2 + 1 + 1):=List.drop_eq_getElem_cons (by omega);have e4:p.drop (p.length - 2 + 1 + 1)=[]:=List.drop_eq_nil_of_le (by omega);have e5:p[p.length - 2 + 1]'(by omega)=p[p.length - 1]'(by omega):=by congr 1;omega
   conv=>lhs;rw [e1,e2,e3,e4,e5]
  have e1:(r++[a,b]).take ((r++[a,b]).length - 1)=r++[a]:=by
   rw [show r++[a,b]=(r++[a])++[b] by simp,List.take_left' (by simp)]
  have e2:(r++[a,b]).drop ((r++[a,b]).length - 2)=[a,b]:=List.drop_left' (by simp);rw [e1,e2,List.append_assoc,Zh];exact zEc (ns a.1)
 ·intro z;rw [List.reverse_eq_nil_iff] at z;rw [z] at h1;simp at h1
 ·obtain ⟨r,b,rfl⟩:∃ r b,p=r++[b]:=⟨p.dropLast,p.getLast cp.pok.ne,(List.dropLast_concat_getLast cp.pok.ne).symm⟩;rw [List.reverse_append];refine walk_head (x:=b.1) (l:=r.reverse.map (·.1)) fun z=>?_;have:=cp.last (q:=r) (kd:=b.1) (n:=b.2);rw [z] at this;cases e:r.getLast? with
  | none=>rw [List.getLast?_eq_none_iff.mp e] at h1;simp at h1
  | some c=>rw [e] at this;cases this
noncomputable def badA (q:List (Str×Nat)) (kd:Str) (n:Nat):List Str:=[headT q kd++"00",headT q kd++"0"++figs n,headT q kd++"1000000",headT q kd,head0 q kd,showP (q++[(kd,n)])++".", "."++showP (q++[(kd,n)])]
noncomputable def badB (q:List (Str×Nat)) (kd:Str) (n:Nat):List Str:=[Txt.upper (showP (q++[(kd,n)])), " "++showP (q++[(kd,n)]),showP (q++[(kd,n)])++" ",showP (q++[(kd,n)])++"\n",headT q kd++"-1",headT q kd++"+1",headT q kd++"x"]
noncomputable def badC (q:List (Str×Nat)) (kd:Str) (n:Nat) (fr:Str):List Str:=[showP (q++[(kd,n)])++"..0",showP (q++[(kd,n)])++"."++fr++".0", "qq.0",showP (q++[(kd,n)])++".qq.0", "",kd, "."]
noncomputable def badD (q:List (Str×Nat)) (kd:Str) (n:Nat):List Str:=[headT q kd++"1.",headT q kd++"1_0",Txt.replace (showP (q++[(kd,n)])) "." ":",showP (q++[(kd,n)])++"."++kd]
structure Bads (own:Str→Option (Option Str)) (q:List (Str×Nat)) (kd:Str) (n:Nat) (fr:Str):Prop where
 nl:(showP (q++[(kd,n)])).length≤200
 hl:(headT q kd).length≤200
 hp:1≤(headT q kd).length
 a:∀ x∈badA q kd n,BadS own x
 b:∀ x∈badB q kd n,BadS own x
 c:∀ x∈badC q kd n fr,BadS own x
 d:∀ x∈badD q kd n,BadS own x
theorem all_bads {fr:Str} (cp:CPath own (q++[(kd,n)])) (oq:own "qq" = none) (nf:nameOk fr) (of:own fr=some none):Bads own q kd n fr:=by
 have oks:∀ x∈q++[(kd,n)],nameOk x.1∧x.2≤999999:=cp.pok.ok;obtain ⟨nk,n9⟩:=oks (kd,n) (by simp);have oq1:∀ x∈q,nameOk x.1∧x.2≤999999:=fun x hx=>oks x (Zr _ hx);have hle:=cp.le;obtain ⟨nl,nok⟩:(showP (q++[(kd,n)])).length≤200∧PyData.strOk (showP (q++[(kd,n)]))=true:=by
  rw [← zBy (by simp)];exact txt_ok (by unfold itsP;rw [Z0];omega) (zCe oks)
 have esh:=zEe (q:=q) (kd:=kd) (n:=n);have hl:(headT q kd).length≤200:=by
  have:=congrArg Str.length esh;rw [zAd] at this;omega
 have hok:PyData.strOk (headT q kd)=true:=by
  rw [zAv] at nok ⊢;exact fun c hc=>nok c (by rw [esh,zA8];exact Zr _ hc)
 have hp:1≤(headT q kd).length:=by rw [zE7,zAd,show (".": Str).length=1 by decide +kernel];omega
 have h0l:(head0 q kd).length≤200:=by
  have:=congrArg Str.length (zE7 (q:=q) (kd:=kd));rw [zAd] at this;omega
 have h0ok:PyData.strOk (head0 q kd)=true:=by
  rw [zAv] at hok ⊢;exact fun c hc=>hok c (by rw [zE7,zA8];exact Zr _ hc)
 have fl:=zC2 n9;have odd:∀ x∈oddT n,BadS own (headT q kd++x):=fun x hx=>by
  obtain ⟨o1,o2,o3⟩:=oddT_ok n9 (own:=own) (zBa nk) x hx;refine ⟨Zd (zBm hl o1) (by decide),zC7 hok o2,?_⟩;rw [head_app];exact zDl (q2:=[]) oq1 (fun x hx=>nomatch hx) o3
 have lit:∀ {x:Str},x.length≤10→PyData.strOk x=true→goodD own (.str x)=false→BadS own x:=fun h1 h2 h3=>⟨by omega,h2,h3⟩;have more:∀ {vs:List Str},vs≠[]→(∀ w∈vs,freeOf 46 w)→goodW own (wordsI (itsP q)++[kd,figs n]++vs)=false→goodD own (.str (showP (q++[(kd,n)])++"."++Str.join "." vs))=false:=fun {vs} hv hf hg=>by
  rw [show_more hv,zB5 (words_free oks hf) (by simp)];exact hg
 have l1:("." : Str).length≤10:=by decide +kernel
 have k1:PyData.strOk ("." : Str)=true:=by decide +kernel
 have lk:kd.length≤8:=nk.2.2;have lf:fr.length≤8:=nf.2.2;refine ⟨nl,hl,hp,?_,?_,?_,?_⟩
 ·intro x hx;simp only [badA,Zj,Zf,or_false] at hx;rcases hx with rfl | rfl | rfl | rfl | rfl | rfl | rfl
  ·exact odd "00" (by simp [oddT])
  ·rw [zBe];exact odd ("0"++figs n) (by simp [oddT])
  ·exact odd "1000000" (by simp [oddT])
  ·have:=odd "" (by simp [oddT]);rwa [app_emp] at this
  ·refine ⟨by omega,h0ok,?_⟩;unfold head0;rw [zB5 _ (by simp)]
   ·exact gw_odd (by rw [Z4,zBt,List.length_singleton];omega)
   ·intro w hw;rcases List.mem_append.mp hw with hw | hw
    ·exact zCm oq1 w hw
    ·rw [List.mem_singleton.mp hw];exact zBa nk
  ·exact ⟨Zd (zBm nl l1) (by decide),zC7 nok k1,last_bad (c:=46) (by rw [zA8,show (".": Str).cps.toList=[46] by decide +kernel]) (by decide +kernel)⟩
  ·exact ⟨Zd (zBm l1 nl) (by decide),zC7 k1 nok,zDi (c:=46) (by rw [zA8,show (".": Str).cps.toList=[46] by decide +kernel];rfl) (by decide +kernel)⟩
 ·intro x hx;simp only [badB,Zj,Zf,or_false] at hx;rcases hx with rfl | rfl | rfl | rfl | rfl | rfl | rfl
  ·have asc:∀ c∈(showP (q++[(kd,n)])).cps.toList,c < 128:=by
    unfold showP;refine zCu (R:=fun c=>c < 128) (by decide +kernel) (zBd (R:=fun w=>∀ c∈w.cps.toList,c < 128) fun x hx=>⟨fun c hc=>?_,fun c hc=>?_⟩)
    ·have:=(zDr (oks x hx).1.1).2.2 c hc;omega
    ·have:=zE8 hc;omega
   have el:(Txt.upper (showP (q++[(kd,n)]))).cps.toList=(showP (q++[(kd,n)])).cps.toList.map PyProof.Rows.up1:=by rw [PyProof.Rows.upper_ascii asc];simp
   have up8:∀ c < 128,PyProof.Rows.up1 c < 128:=by decide +kernel
   have ll:(Txt.upper (showP (q++[(kd,n)]))).length=(showP (q++[(kd,n)])).length:=by rw [zAo,el,Z0,← zAo]
   obtain ⟨c,t,ec,c1,c2⟩:∃ c t,(showP (q++[(kd,n)])).cps.toList=c :: t∧97≤c∧c≤122:=by
    cases ep:q++[(kd,n)] with
    | nil=>simp at ep
    | cons y r =>
     obtain ⟨g1,g2,g3⟩:=zDr (oks y (by rw [ep];exact Z9)).1.1;obtain ⟨t,et⟩:=zCy (w:=y.1) (r:=figs y.2 :: wordsP r);have et':(showP (y :: r)).cps.toList=y.1.cps.toList++t:=et;cases ey:y.1.cps.toList with
     | nil=>rw [zAo,ey] at g1;simp at g1
     | cons a b=>exact ⟨a,b++t,by rw [et',ey];rfl,g3 a (by rw [ey];exact Z9)⟩
   refine ⟨by omega,(zAv _).mpr fun d hd=>?_,zDi (c:=c - 32) (t:=t.map PyProof.Rows.up1) (by rw [el,ec,Zp,up1_big c1 c2]) ?_⟩
   ·rw [el] at hd;obtain ⟨d',hd',rfl⟩:=List.mem_map.mp hd;have:=up8 d' (asc d' hd');omega
   ·cases z:charB (c - 32) with
    | false=>rfl
    | true=>have:=zDv z;omega
  ·exact ⟨Zd (zBm (show (" " : Str).length≤10 by decide +kernel) nl) (by decide),zC7 (by decide +kernel) nok,zDi (c:=32) (by rw [zA8,show (" ": Str).cps.toList=[32] by decide +kernel];rfl) (by decide +kernel)⟩
  ·rw [esh,zBe];exact odd (figs n++" ") (by simp [oddT])
  ·exact ⟨Zd (zBm nl (show ("\n" : Str).length≤10 by decide +kernel)) (by decide),zC7 nok (by decide +kernel),last_bad (c:=10) (by rw [zA8,show ("\n": Str).cps.toList=[10] by decide +kernel]) (by decide +kernel)⟩
  ·exact odd "-1" (by simp [oddT])
  ·exact odd "+1" (by simp [oddT])
  ·exact odd "x" (by simp [oddT])
 ·intro x hx;simp only [badC,Zj,Zf,or_false] at hx;rcases hx with rfl | rfl | rfl | rfl | rfl | rfl | rfl
  ·refine ⟨Zd (zBm nl (show ("..0" : Str).length≤10 by decide +kernel)) (by decide),zC7 nok (by decide +kernel),?_⟩;have:=more (vs:=["", "0"]) (by simp) (by unfold freeOf;decide +kernel) (gw_name (x:="") (by rw [zDu];exact Zq _ (Z6 _ Z9)) (by decide +kernel))
   rwa [zBe,show ("."++Str.join "." ["", "0"]:Str) = "..0" by decide +kernel] at this
  ·refine ⟨Zd (zBm (zBm (zBm nl l1) lf) (show (".0" : Str).length≤10 by decide +kernel)) (by decide),zC7 (zC7 (zC7 nok k1) nf.2.1) (by decide +kernel),?_⟩
   have:=more (vs:=[fr, "0"]) (by simp) (fun w hw=>by
    simp only [Zj,Zf,or_false] at hw;rcases hw with rfl | rfl
    ·exact zBa nf
    ·unfold freeOf;decide +kernel) (zEz (by rw [zDu];exact zEc (y:=fr) (l2:=[]) (fun z=>by rw [of] at z;cases z)))
   rw [show Str.join "." [fr, "0"]=fr++"."++"0" from rfl,zBe fr,show ("."++"0" : Str) = ".0" by decide +kernel,← zBe] at this;exact this
  ·exact lit (by decide +kernel) (by decide +kernel) (good_qq oq)
  ·refine ⟨Zd (zBm nl (show (".qq.0" : Str).length≤10 by decide +kernel)) (by decide),zC7 nok (by decide +kernel),?_⟩;have:=more (vs:=["qq", "0"]) (by simp) (by unfold freeOf;decide +kernel) (zEz (zFv oq (by rw [zDu];exact Zq _ (Z6 _ Z9))))
   rwa [zBe,show ("."++Str.join "." ["qq", "0"]:Str) = ".qq.0" by decide +kernel] at this
  ·exact lit (by decide +kernel) (by decide +kernel) zFt
  ·exact lit (by omega) nk.2.1 (good_name nk)
  ·exact lit l1 k1 (zDi (c:=46) (t:=[]) (by decide +kernel) (by decide +kernel))
 ·intro x hx;simp only [badD,Zj,Zf,or_false] at hx;rcases hx with rfl | rfl | rfl | rfl
  ·exact odd "1." (by simp [oddT])
  ·exact odd "1_0" (by simp [oddT])
  ·have er:Txt.replace (showP (q++[(kd,n)])) "." ":" = Str.join ":" (wordsP (q++[(kd,n)])):=by
    have:=StrLaws.replace_one (showP (q++[(kd,n)])) ":" 46;rw [← dot_eq,cp.pok.split] at this;exact this
   have len:=zE6 (s:=":") (m:=8) (by decide +kernel) (ws:=wordsP (q++[(kd,n)])) (zBd fun x hx=>⟨(oks x hx).1.2.2,Zd (zC2 (oks x hx).2) (by decide)⟩);rw [zB4] at len;rw [er];refine ⟨by omega,(zAv _).mpr (zCu (R:=fun c=>c < 0x110000) (by decide +kernel) (zBd (R:=fun w=>∀ c∈w.cps.toList,c < 0x110000) fun x hx=>⟨(zAv _).mp (oks x hx).1.2.1,(zAv _).mp (zF0 _)⟩)),odd_word ?_⟩;exact zCu (R:=fun c=>c≠46) (by decide +kernel) (zBd (R:=fun w=>∀ c∈w.cps.toList,c≠46) fun x hx=>⟨zBa (oks x hx).1,zBg _⟩)
  ·refine ⟨Zd (zBm (zBm nl l1) lk) (by decide),zC7 (zC7 nok k1) nk.2.1,?_⟩;exact more (vs:=[kd]) (by simp) (fun w hw=>by rw [List.mem_singleton.mp hw];exact zBa nk) (gw_odd (by rw [Z4,Z4,zBt];simp;omega))
theorem slice_m1 {x:Str} (h:1≤x.length):Txt.slice x none (some (-1))=Txt.slice x none (some ((x.length - 1:Nat):Int)):=by
 unfold Txt.slice;have e:Builtin.Str.strSliceIndices none (some (-1)) 1 x.length=Builtin.Str.strSliceIndices none (some ((x.length - 1:Nat):Int)) 1 x.length:=by
  have h2:(1:Int) > 0:=by decide
  have h3:((-1:Int) < 0):=by decide
  have h1:¬ (((x.length - 1:Nat):Int) < 0):=by omega
  simp only [Builtin.Str.strSliceIndices,h1,h2,h3,if_false,if_true];rw [show ((-1:Int) + (x.length:Int))=((x.length - 1:Nat):Int) by omega]
 rw [e]
theorem slice_to {x y:Str}:Txt.slice (x++y) none (some (x.length:Int))=x:=by
 have:=beq_iff_eq.mp (PyProof.Rows.slice_closes_to (x:=x++y) (j:=(x.length:Int)) ⟨by omega,by rw [← zAo,zAd];omega⟩);rw [this];refine zBi ?_;rw [zA8,zAo];simp
end
end L2.W
namespace L2.W
open PySem My
noncomputable def spThree:Sp:=fun vs H Q _=>∃ (p lc:Addr) (ys:List V) (q:List (Str×Nat)) (kd:Str) (n:Nat) (own:Str→Option (Option Str)) (k:Int),vs=[.ref p,.str kd,.ref lc]∧Src H p k∧k≤890000∧lc≠p∧H lc=some (.lst ys)∧Paired (CAt p H) ys (q++[(kd,n)])∧CPath own (q++[(kd,n)])∧own "qq" = none∧(∀ k,own k≠some (some k)) ∧
 ∀ (t:Addr) (vk vo vn:V) (dk do_ dn:PyData) (H':Hp),H t=none→H' t=some (.tup [vk,vo,vn])→Has (fun a=>H a=none) H' vk dk→Has (fun a=>H a=none) H' vo do_→Has (fun a=>H a=none) H' vn dn→NoThree own dk do_ dn→Src H' p (k + 5)→(∀ b o,H b=some o→b≠p→H' b=some o)→Q (.ref t) H'
theorem k_ownV9 {R F:V→Hp→Prop}{B:Prop} (t:∀ l Hx,F l Hx→R l Hx) (h:(∀ l Hx,F l Hx→R l Hx)→B):B:=h t
theorem _root_.My.Src.look {H H':Hp}{q:Addr}{k:Int} (S:Src H q k) (h:∀ o,H q=some o→H' q=some o):Src H' q k:=by obtain ⟨a,c,i,e,r⟩:=S;exact ⟨a,c,i,h _ e,r⟩
theorem k_hp9 {R F:Hp→Prop}{B:Prop} (t:∀ Hx,F Hx→R Hx) (h:(∀ Hx,F Hx→R Hx)→B):B:=h t
theorem cut_m1 {xs:List V} (h:1≤xs.length):cutV xs none (some (-1))=xs.take (xs.length - 1):=by
 unfold cutV HT.sIx;have e:((-1:Int) + (xs.length:Int)).toNat=xs.length - 1:=by omega
 simp [e]
theorem ownDat_has {G:Addr→Prop}{H:Hp}{q:List (Str×Nat)} (h:q≠[]→(showP q).length≤200∧PyData.strOk (showP q)=true):Has G H (ownV (ownP q)) (ownDat q):=by
 cases q with
 | nil=>exact .non
 | cons a t =>
  obtain ⟨h1,h2⟩:=h (by simp);exact .str _ (by omega) h2
section
variable {P:Program}{w:World}{K:PySem.W.Frag}{mg:Str→Option Value}{base:Heap}{CX:CXT}
theorem scBt:FnScope ["_law_source", "_law_kind", "_law_chain_here", "_law_owner", "_law_odd", "_law_names_here", "_law_owners", "_law_some"] ["_law_source", "_law_kind", "_law_chain_here"] (defScope sBadThree):=⟨rfl,rfl,rfl,by decide +kernel,rfl,by decide +kernel,by decide +kernel⟩
set_option maxHeartbeats 4000000 in
theorem ok_three {f fm fn ft:Addr}{fd fdm fdn fdt:FuncData} (hC:Calm CX) (T:Tops K mg) (F:Fun K "_law_bad_three" "_law_bad_three" sBadThree f fd) (DM:Def K mg "_law_mixed" sMixed ["_law_cell", "_law_k"] fm fdm)
  (DN:Def K mg "_law_next" sNext ["_law_source", "_law_many"] fn fdn) (DT:Def K mg "_law_text" sText ["_law_chain_here"] ft fdt):FnOk P w K mg base CX 3 f fd ["_law_source", "_law_kind", "_law_chain_here"] spThree:=by
 have GN:FnOk P w K mg base CX 2 fn fdn ["_law_source", "_law_many"] spNext:=zCl hC DN.fn DM;have GT:FnOk P w K mg base CX 1 ft fdt ["_law_chain_here"] spText:=zGd T DT.fn;refine Fun.okC F scBt (fun vs H Q E h=>?_) (fun cdv A outer s H vs Q E hr h=>?_)
 ·obtain ⟨p,lc,ys,q,kd,n,own,k,rfl,_⟩:=h;rfl
 ·obtain ⟨p,lc,ys,q,kd,n,own,k,rfl,S0,hk,nlc,hlc,hys,cp,oq,ns,fin⟩:=h;have nd:=scBt.nd;have hr1:=hr.mono (show 1≤2 by decide)
  refine ⟨_,zA3 (zAb (i:=3) nd rfl (Or.inl rfl) zCc)
     (zA3 (zAw (zAp zF8 (zA9 zAi rfl T.len PySem.boot_len (zA0 (pv 2) zA2)) zA4 (nomark _))
     (zA6 (zAb (i:=3) nd rfl (Or.inl rfl) (zA7 GT hr1 rfl DT.at_ DT.fn.kp DT.bind .nil (passC hC) (zA0 (zAz zBp (pv 2) zBf (zB9 (zDo zCg zA4))) zA2)))) zAg)
     (zA3 (zAb (i:=4) nd rfl (Or.inl rfl) (zAs zAk (pe_data (d:=.list odN) 9 (by kernel_rfl)) (zA7 GN hr rfl DN.at_ DN.fn.kp DN.bind .nil (passC hC) (zA0 (pv 0) (zA0 zA4 zA2))) (fun _ _=>rfl)))
     (zA3 (zAb (i:=5) nd rfl (Or.inl rfl) (zAs zAk (zAr (zA0 zAe (zA0 zAe (zA0 zCc (zA0 zA4 (zA0 zBj (zA0 (zAr (zA0 zAe zA2)) (zA0 (zAh zAf (pv 1) zAe) zA2)))))))) (zA7 GN hr rfl DN.at_ DN.fn.kp DN.bind .nil (passC hC) (zA0 (pv 0) (zA0 zA4 zA2))) (fun _ _=>rfl)))
     (zA3 (zAb (i:=6) nd rfl (Or.inl rfl) (zAs zAk (zAr (zA0 zAe (zA0 (zA7 GT hr1 rfl DT.at_ DT.fn.kp DT.bind .nil (passC hC) (zA0 (pv 2) zA2)) (zA0 (pv 1) (zA0 zA4 (zA0 zBj (zA0 (zAr (zA0 (pv 3) zA2)) (zA0 zAe (zA0 (zBc (zA0 (pv 3) zA2)) zA2))))))))) (zA7 GN hr rfl DN.at_ DN.fn.kp DN.bind .nil (passC hC) (zA0 (pv 0) (zA0 zA4 zA2))) (fun _ _=>rfl)))
     (zA3 (zAb (i:=7) nd rfl (Or.inl rfl) (zAr (zA0 (zBc (zA0 (pv 5) (zA0 (pv 3) (zA0 zA4 zA2)))) (zA0 (zBc (zA0 (pv 1) (zA0 (pv 3) (zA0 (pv 4) zA2)))) (zA0 (zBc (zA0 (pv 1) (zA0 (pv 6) (zA0 zA4 zA2)))) zA2)))))
     (zA3 (zAw (zBz (zDq (pv 3)))
     (zA6 (zDn (zD3 PySem.F.plainAttrs_list PySem.F.slot_list_append PySem.F.type_list_append zEq (pv 7) (zA0 (zBc (zA0 (pv 1) (zA0 zCc (zA0 zA4 zA2)))) zA2)))) zAg)
     (zA6 (zAj (zAs zAk (pv 7) (zA7 GN hr rfl DN.at_ DN.fn.kp DN.bind .nil (passC hC) (zA0 (pv 0) (zA0 (zA9 zAi rfl T.len PySem.boot_len (zA0 (pv 7) zA2)) zA2))) (fun _ _=>rfl)))))))))),?_⟩
  have small:∀ n:Nat,n≤1000→n≤sizeLine:=fun n h=>Zl (small1000 h);have yl:=Paired.length hys;rw [Z4] at yl;have yl':ys.length=q.length + 1:=yl;have q5:=cp.le;rw [Z4] at q5;have q5':q.length + 1≤5:=q5;have oks:∀ x∈q++[(kd,n)],nameOk x.1∧x.2≤999999:=cp.pok.ok;have oks1:∀ x∈q,nameOk x.1∧x.2≤999999:=fun x hx=>oks x (Zr _ hx);have nk:=(oks (kd,n) (by simp)).1;have showOk:∀ {r:List (Str×Nat)},r≠[]→r.length≤5→(∀ x∈r,nameOk x.1∧x.2≤999999)→(showP r).length≤200∧PyData.strOk (showP r)=true:=fun {r} hne hl ho=>by
   rw [← zBy hne];exact txt_ok (by unfold itsP;rw [Z0];omega) (zCe ho)
  have fresh:∀ {Hx:Hp}{j:Int},Src Hx p j→(∀ b o,H b=some o→b≠p→Hx b=some o)→∀ {b:Addr},Hx b=none→H b=none:=fun {Hx j} S f {b} hb=>by
   cases z:H b with
   | none=>rfl
   | some o=>rw [f b o z (S.nw hb)] at hb;cases hb
  have lq:=showOk (r:=q++[(kd,n)]) (by simp) (by simpa using q5') oks;have big:=small1000 (Z5 1000);have odat:∀ {G:Addr→Prop}{Hx:Hp},Has G Hx (ownV (ownP q)) (ownDat q):=fun {G Hx}=>ownDat_has fun hne=>showOk hne (by omega) oks1;refine ⟨_,rfl,lc,ys,rfl,.inl (SqL.of hlc),_,_,rfl,rfl,_,rfl,?_⟩;refine' k_ownV9 (F:=fun (vo:V) Hx=>vo=ownV (ownP q)∧Src Hx p k∧∀ b o,H b=some o→b≠p→Hx b=some o) _ (fun kk=>_);rotate_left 2
  ·by_cases hne:q≠[]
   ·have ql:1≤q.length:=List.length_pos_iff.mpr hne;refine iteBT (decide_eq_true (by omega)) ⟨_,rfl,_,rfl,_,rfl,lc,ys,rfl,SqL.of hlc,fun l1 h1=>?_⟩;rw [cut_m1 (by omega)];have et:ys.take (ys.length - 1)=ys.take q.length:=by congr 1;omega
    have pz:Paired (It2.at_ (upd H l1 (.lst (ys.take (ys.length - 1))))) (ys.take (ys.length - 1)) (itsP q):=by
     have:=zBv q.length hys;rw [List.take_left' rfl] at this;rw [et];exact CAt.it (fun b o e _=>(Same.new h1) _ _ e) this
    refine ⟨l1,_,itsP q,rfl,zA1,pz,by unfold itsP;rw [Z0];omega,fun x hx=>(zCe oks1 x hx).1,fun Hx s'=>?_⟩;rw [zBy hne];generalize e:V.str (showP q)=ow;refine kk ow Hx ⟨?_,(S0.up (Same.new h1)).up s',fun b o e _=>s' _ _ ((Same.new h1) _ _ e)⟩;rw [← e,ownP,if_neg (by simpa using hne)];rfl
   ·have eq:q=[]:=Classical.byContradiction hne;rw [eq] at yl';have y1:ys.length=1:=yl';exact iteBF (decide_eq_false (by omega)) (kk .non H ⟨by rw [eq];rfl,S0,fun b o e _=>e⟩)
  ·rintro vo H1 ⟨evo,S1,f1⟩;have mv:∀ {Hx Hy:Hp}{v:V}{d:PyData},(∀ b o,Hx b=some o→b≠p→Hy b=some o)→Has (fun a=>H a=none) Hx v d→Has (fun a=>H a=none) Hy v d:=fun f h=>h.frame fun b o g e=>⟨g,f b o e (S0.nw g)⟩;have mvA:∀ {Hx Hy:Hp}{v:List V}{d:List PyData},(∀ b o,Hx b=some o→b≠p→Hy b=some o)→HasAll (fun a=>H a=none) Hx v d→HasAll (fun a=>H a=none) Hy v d:=fun f h=>h.frame fun b o g e=>⟨g,f b o e (S0.nw g)⟩;refine fun v4l H2 s2 hd2=>?_;obtain ⟨lN,xN,rfl,gN,hlN,_,hxN⟩:=hd2.list_inv;refine ⟨_,rfl,p,_,_,rfl,S1.up s2,by omega,by decide,by decide,fun r4 H3 a0 a1 S3 k3=>?_⟩;have g3:∀ b o,H1 b=some o→b≠p→H3 b=some o:=fun b o e nb=>by rw [k3 b nb];exact s2 _ _ e
   have f3:∀ b o,H b=some o→b≠p→H3 b=some o:=fun b o e nb=>g3 b o (f1 b o e nb) nb;obtain ⟨j4,rfl⟩:∃ j:Nat,r4=(j:Int):=⟨r4.toNat,by omega⟩;have xNl:xN.length=8:=hxN.length;obtain ⟨v4,ev4⟩:∃ y,xN[j4]? = some y:=⟨_,Z1 (by omega)⟩;obtain ⟨d4,ed4,hv4⟩:=hxN.get ev4;have n4:=odN_ok d4 (Z3 ed4);have hd4:Has (fun a=>H a=none) H3 v4 d4:=hv4.frame fun b o g e=>⟨fresh S1 f1 g,by rw [k3 b (S1.nw g)];exact e⟩;refine ⟨lN,xN,(j4:Int),v4,rfl,rfl,SqL.of (by rw [k3 _ (S1.nw gN)];exact hlN),zBh ev4,?_⟩;dsimp only [gName,List.set];refine ⟨small 1 (by decide),fun lA hA=>?_⟩;have wA:Same H3 (upd H3 lA (.lst [.str "a"])):=Same.new hA;have xA:(upd H3 lA (.lst [.str "a"])) lA=some (.lst [.str "a"]):=zA1;have gA:=fresh S3 f3 hA;generalize upd H3 lA (.lst [.str "a"])=H4 at wA xA ⊢;have z1:(".": Str).length=1:=by decide +kernel
   have lk:kd.length≤8:=nk.2.2;refine ⟨_,rfl,_,_,rfl,rfl,by omega,small 7 (by decide),fun l5 h5=>?_⟩;have w5:Same H4 (upd H4 l5 (.lst [.str "qq",.str "",.non,.int 7,.bl true,.ref lA,.str (kd++".")])):=Same.new h5;have x5:(upd H4 l5 (.lst [.str "qq",.str "",.non,.int 7,.bl true,.ref lA,.str (kd++".")])) l5=some (.lst [.str "qq",.str "",.non,.int 7,.bl true,.ref lA,.str (kd++".")]):=zA1;have n5:l5≠p:=(S3.up wA).nw h5;generalize upd H4 l5 (.lst [.str "qq",.str "",.non,.int 7,.bl true,.ref lA,.str (kd++".")])=H5 at w5 x5 ⊢;have a5:HasAll (fun a=>H a=none) H5 [.str "qq",.str "",.non,.int 7,.bl true,.ref lA,.str (kd++".")] (odK kd) :=
    .cons (.str _ (by decide +kernel) (by decide +kernel)) (.cons (.str _ (by decide +kernel) (by decide +kernel)) (.cons .non (.cons (.int _) (.cons (.bl _) (.cons (.lst gA (w5 _ _ xA) (by decide) (.cons (.str _ (by decide +kernel) (by decide +kernel)) .nil)) (.cons (.str _ (by rw [zAd];omega) (zC7 nk.2.1 (by decide +kernel))) .nil))))))
   have S5:Src H5 p (k + 1):=(S3.up (wA.trans w5)).mono (by omega);have f5:∀ b o,H b=some o→b≠p→H5 b=some o:=fun b o e nb=>(wA.trans w5) _ _ (f3 b o e nb);have hd4':=mv (fun b o e _=>(wA.trans w5) _ _ e) hd4;refine ⟨_,rfl,p,_,_,rfl,S5,by omega,by decide,by decide,fun r5 H6 b0 b1 S6 k6=>?_⟩;have g6:∀ b o,H5 b=some o→b≠p→H6 b=some o:=fun b o e nb=>by rw [k6 b nb];exact e
   have f6:∀ b o,H b=some o→b≠p→H6 b=some o:=fun b o e nb=>g6 b o (f5 b o e nb) nb;obtain ⟨j5,rfl⟩:∃ j:Nat,r5=(j:Int):=⟨r5.toNat,by omega⟩;have x6:=g6 _ _ x5 n5;have a6:=mvA g6 a5;have hd4'':=mv g6 hd4';clear a5 hd4' hd4 x5;revert a6 x6;generalize ([.str "qq",.str "",.non,.int 7,.bl true,.ref lA,.str (kd++".")]:List V)=xs5;intro x6 a6;have xl5:xs5.length=7:=a6.length;obtain ⟨v5,ev5⟩:∃ y,xs5[j5]? = some y:=⟨_,Z1 (by omega)⟩;obtain ⟨d5,ed5,hd5⟩:=a6.get ev5;have n5':=odK_ok oq d5 (Z3 ed5);refine ⟨l5,xs5,(j5:Int),v5,rfl,rfl,SqL.of x6,zBh ev5,?_⟩;dsimp only [gName,List.set];have pz6:Paired (It2.at_ H6) ys (itsP (q++[(kd,n)])):=CAt.it f6 hys;have il:(itsP (q++[(kd,n)])).length≤10:=by unfold itsP;rw [Z0,Z4];show q.length + 1≤_;omega
   refine ⟨_,rfl,lc,ys,itsP (q++[(kd,n)]),rfl,f6 _ _ hlc nlc,pz6,il,fun x hx=>(zCe oks x hx).1,fun H7 s7=>?_⟩;rw [zBy (by simp)];have S7:Src H7 p (k + 2):=(S6.up s7).mono (by omega);have f7:∀ b o,H b=some o→b≠p→H7 b=some o:=fun b o e nb=>s7 _ _ (f6 b o e nb);have hd47:=mv (fun b o e _=>s7 _ _ e) hd4'';have hd57:=mv (fun b o e _=>s7 _ _ e) hd5;clear hd4'' hd5 a6 x6 pz6 hd2 hxN hv4;refine ⟨_,rfl,_,rfl,small 1 (by decide),fun lB hB=>?_⟩;have wB:Same H7 (upd H7 lB (.lst [vo])):=Same.new hB;have xB:(upd H7 lB (.lst [vo])) lB=some (.lst [vo]):=zA1;have gB:=fresh S7 f7 hB;generalize upd H7 lB (.lst [vo])=H8 at wB xB ⊢;refine ⟨_,rfl,small 1 (by decide),fun tB hB'=>?_⟩;have wC:Same H8 (upd H8 tB (.tup [vo])):=Same.new hB';have xC:(upd H8 tB (.tup [vo])) tB=some (.tup [vo]):=zA1;have S8:=S7.up wB;have f8:∀ b o,H b=some o→b≠p→H8 b=some o:=fun b o e nb=>wB _ _ (f7 b o e nb);have gC:=fresh S8 f8 hB';generalize upd H8 tB (.tup [vo])=H9 at wC xC ⊢;refine ⟨small 8 (by decide),fun l6 h6=>?_⟩;have w6:Same H9 (upd H9 l6 (.lst [.str "qq.0",.str (showP (q++[(kd,n)])),.str kd,.int 0,.bl true,.ref lB,.str "",.ref tB])):=Same.new h6;have x6:(upd H9 l6 (.lst [.str "qq.0",.str (showP (q++[(kd,n)])),.str kd,.int 0,.bl true,.ref lB,.str "",.ref tB])) l6=some (.lst [.str "qq.0",.str (showP (q++[(kd,n)])),.str kd,.int 0,.bl true,.ref lB,.str "",.ref tB]):=zA1;have n6:l6≠p:=(S8.up wC).nw h6;generalize upd H9 l6 (.lst [.str "qq.0",.str (showP (q++[(kd,n)])),.str kd,.int 0,.bl true,.ref lB,.str "",.ref tB])=Ha at w6 x6 ⊢;have a9:HasAll (fun a=>H a=none) Ha [.str "qq.0",.str (showP (q++[(kd,n)])),.str kd,.int 0,.bl true,.ref lB,.str "",.ref tB] (odO kd q n) :=
    .cons (.str _ (by decide +kernel) (by decide +kernel)) (.cons (.str _ (by omega) lq.2) (.cons (.str _ (by omega) nk.2.1) (.cons (.int _) (.cons (.bl _) (.cons (.lst gB (w6 _ _ (wC _ _ xB)) (by show 1≤1000;decide) (.cons (by rw [evo];exact odat) .nil)) (.cons (.str _ (by decide +kernel) (by decide +kernel)) (.cons (.tup gC (w6 _ _ xC) (by show 1≤1000;decide) (.cons (by rw [evo];exact odat) .nil)) .nil)))))))
   have wall:=wB.trans (wC.trans w6);have Sa:Src Ha p (k + 2):=S7.up wall;have fa:∀ b o,H b=some o→b≠p→Ha b=some o:=fun b o e nb=>wall _ _ (f7 b o e nb);refine ⟨_,rfl,p,_,_,rfl,Sa,by omega,by decide,by decide,fun r6 Hb c0 c1 Sb kb=>?_⟩;have gb:∀ b o,Ha b=some o→b≠p→Hb b=some o:=fun b o e nb=>by rw [kb b nb];exact e
   have fb:∀ b o,H b=some o→b≠p→Hb b=some o:=fun b o e nb=>gb b o (fa b o e nb) nb;obtain ⟨j6,rfl⟩:∃ j:Nat,r6=(j:Int):=⟨r6.toNat,by omega⟩;have x7:=gb _ _ x6 n6;have a7:=mvA gb a9;have hd4b:=mv (fun b o e nb=>gb b o (wall _ _ e) nb) hd47;have hd5b:=mv (fun b o e nb=>gb b o (wall _ _ e) nb) hd57;clear a9 x6 hd47 hd57;revert a7 x7;generalize ([.str "qq.0",.str (showP (q++[(kd,n)])),.str kd,.int 0,.bl true,.ref lB,.str "",.ref tB]:List V)=xs6;intro x7 a7;have xl6:xs6.length=8:=a7.length;obtain ⟨v6,ev6⟩:∃ y,xs6[j6]? = some y:=⟨_,Z1 (by omega)⟩;obtain ⟨d6,ed6,hd6⟩:=a7.get ev6;have n6':=three_own cp oq ns (dn:=.int 0) (by decide) d6 (Z3 ed6);refine ⟨l6,xs6,(j6:Int),v6,rfl,rfl,SqL.of x7,zBh ev6,?_⟩;dsimp only [gName,List.set];have hk0:∀ {Hx:Hp},Has (fun a=>H a=none) Hx (.str kd) (.str kd):=.str _ (by omega) nk.2.1;have ho0:∀ {Hx:Hp},Has (fun a=>H a=none) Hx vo (ownDat q):=by intro Hx;rw [evo];exact odat
   refine ⟨_,rfl,_,rfl,small 3 (by decide),fun t1 ht1=>?_⟩;have u1:Same Hb (upd Hb t1 (.tup [v5,vo,.int 0])):=Same.new ht1;have y1:(upd Hb t1 (.tup [v5,vo,.int 0])) t1=some (.tup [v5,vo,.int 0]):=zA1;have q1:=fresh Sb fb ht1;generalize upd Hb t1 (.tup [v5,vo,.int 0])=Hc at u1 y1 ⊢;have Sc:=Sb.up u1;have fc:∀ b o,H b=some o→b≠p→Hc b=some o:=fun b o e nb=>u1 _ _ (fb b o e nb);refine ⟨_,rfl,_,rfl,_,rfl,small 3 (by decide),fun t2 ht2=>?_⟩;have u2:Same Hc (upd Hc t2 (.tup [.str kd,vo,v4])):=Same.new ht2;have y2:(upd Hc t2 (.tup [.str kd,vo,v4])) t2=some (.tup [.str kd,vo,v4]):=zA1;have q2:=fresh Sc fc ht2;generalize upd Hc t2 (.tup [.str kd,vo,v4])=Hd at u2 y2 ⊢;have Sd:=Sc.up u2;have fd':∀ b o,H b=some o→b≠p→Hd b=some o:=fun b o e nb=>u2 _ _ (fc b o e nb);refine ⟨_,rfl,_,rfl,small 3 (by decide),fun t3 ht3=>?_⟩;have u3:Same Hd (upd Hd t3 (.tup [.str kd,v6,.int 0])):=Same.new ht3;have y3:(upd Hd t3 (.tup [.str kd,v6,.int 0])) t3=some (.tup [.str kd,v6,.int 0]):=zA1;have q3:=fresh Sd fd' ht3;generalize upd Hd t3 (.tup [.str kd,v6,.int 0])=He at u3 y3 ⊢;have Se:=Sd.up u3;have fe:∀ b o,H b=some o→b≠p→He b=some o:=fun b o e nb=>u3 _ _ (fd' b o e nb);refine ⟨small 3 (by decide),fun l7 h7=>?_⟩;have u4:Same He (upd He l7 (.lst [.ref t1,.ref t2,.ref t3])):=Same.new h7;have y4:(upd He l7 (.lst [.ref t1,.ref t2,.ref t3])) l7=some (.lst [.ref t1,.ref t2,.ref t3]):=zA1;have nl7:l7≠p:=Se.nw h7;have ql7:=fresh Se fe h7;generalize upd He l7 (.lst [.ref t1,.ref t2,.ref t3])=Hf at u4 y4 ⊢;have Sf:=Se.up u4;have ff:∀ b o,H b=some o→b≠p→Hf b=some o:=fun b o e nb=>u4 _ _ (fe b o e nb);have wbf:=u1.trans (u2.trans (u3.trans u4));have ownk:=cp.last;have Three:∀ t,t=t1∨t=t2∨t=t3→∃ (vk vo vn:V) (dk do_ dn:PyData),H t=none∧Hf t=some (.tup [vk,vo,vn])∧Has (fun a=>H a=none) Hb vk dk∧Has (fun a=>H a=none) Hb vo do_∧Has (fun a=>H a=none) Hb vn dn∧NoThree own dk do_ dn:=by
    intro t ht;rcases ht with rfl | rfl | rfl
    ·exact ⟨_,_,_,_,_,_,q1,u4 _ _ (u3 _ _ (u2 _ _ y1)),hd5b,ho0,.int 0,.kind n5'⟩
    ·exact ⟨_,_,_,_,_,_,q2,u4 _ _ (u3 _ _ y2),hk0,ho0,hd4b,.num nk ownk n4⟩
    ·exact ⟨_,_,_,_,_,_,q3,u4 _ _ y3,hk0,hd6,.int 0,n6'⟩
   have nt:∀ {b:Addr}{o:HO},He b=some o→b≠l7:=fun {b o} e z=>by rw [z,h7] at e;cases e
   have hbf:∀ {Hx:Hp}{v:V}{d:PyData},Same He Hx→Has (fun a=>H a=none) Hb v d→Has (fun a=>H a=none) Hx v d:=fun s h=>h.mono (u1.trans (u2.trans (u3.trans s)));dsimp only [gName,List.set];refine ⟨_,rfl,_,rfl,?_⟩;refine' k_hp9 (F:=fun Hx=>∃ xs:List V,Hx l7=some (.lst xs)∧1≤xs.length∧xs.length≤4∧(∀ v∈xs,∃ (t:Addr) (vk vo vn:V) (dk do_ dn:PyData),v=.ref t∧H t=none∧Hx t=some (.tup [vk,vo,vn])∧Has (fun a=>H a=none) Hb vk dk∧Has (fun a=>H a=none) Hb vo do_∧Has (fun a=>H a=none) Hb vn dn∧NoThree own dk do_ dn)∧Src Hx p (k + 3)∧Same He Hx) _ (fun kk2=>_);rotate_left 2
   ·by_cases hne:q≠[]
    ·refine iteBT (by rw [evo,ownP,if_neg (by simpa using hne)];rfl) ⟨_,rfl,.inl ⟨rfl,_,SqL.of y4⟩,_,rfl,small 3 (by decide),fun t4 ht4=>?_⟩;have u5:Same Hf (upd Hf t4 (.tup [.str kd,.non,.int 0])):=Same.new ht4;have y5:(upd Hf t4 (.tup [.str kd,.non,.int 0])) t4=some (.tup [.str kd,.non,.int 0]):=zA1;have q4:=fresh Sf ff ht4;have nt4:t4≠l7:=fun z=>by rw [z,y4] at ht4;cases ht4
     generalize upd Hf t4 (.tup [.str kd,.non,.int 0])=Hg at u5 y5 ⊢;refine ⟨l7,_,_,rfl,rfl,u5 _ _ y4,by show 3 < sizeLine;omega,?_⟩;have y6:(upd Hg l7 (.lst ([.ref t1,.ref t2,.ref t3]++[.ref t4]))) l7=some (.lst ([.ref t1,.ref t2,.ref t3]++[.ref t4])):=zA1;have o6:∀ b,b≠l7→(upd Hg l7 (.lst ([.ref t1,.ref t2,.ref t3]++[.ref t4]))) b=Hg b:=fun b hb=>zAa hb;generalize upd Hg l7 (.lst ([.ref t1,.ref t2,.ref t3]++[.ref t4]))=Hh at y6 o6 ⊢;have nt':∀ {t:Addr}{o:HO},Hf t=some o→H t=none→t=t1∨t=t2∨t=t3→t≠l7:=fun {t o} e g ht=>by
      rcases ht with ht | ht | ht
      ·rw [ht];exact nt (u3 _ _ (u2 _ _ y1))
      ·rw [ht];exact nt (u3 _ _ y2)
      ·rw [ht];exact nt y3
     refine kk2 Hh ⟨_,y6,by show 1≤4;decide,by show 4≤4;decide,fun v hv=>?_,?_,fun b o e=>by rw [o6 b (nt e)];exact u5 _ _ (u4 _ _ e)⟩
     ·rcases List.mem_append.mp hv with hv | hv
      ·obtain ⟨t,rfl,ht⟩:∃ t,v=.ref t∧(t=t1∨t=t2∨t=t3):=by
        simp only [Zj,Zf,or_false] at hv;rcases hv with rfl | rfl | rfl
        ·exact ⟨_,rfl,.inl rfl⟩
        ·exact ⟨_,rfl,.inr (.inl rfl)⟩
        ·exact ⟨_,rfl,.inr (.inr rfl)⟩
       obtain ⟨vk,vo',vn,dk,do_,dn,g,e,h1,h2,h3,h4⟩:=Three t ht;exact ⟨t,vk,vo',vn,dk,do_,dn,rfl,g,by rw [o6 t (nt' e g ht)];exact u5 _ _ e,h1,h2,h3,h4⟩
      ·rw [List.mem_singleton.mp hv];refine ⟨t4,_,_,_,_,_,_,rfl,q4,by rw [o6 t4 nt4];exact y5,hk0,.non,.int 0,?_⟩;cases e:q.getLast? with
       | none=>exact absurd (List.getLast?_eq_none_iff.mp e) hne
       | some x=>exact .own1 nk (by rw [ownk,e];rfl) (by decide) rfl
     ·exact ((Sf.up u5).look fun o e=>by rw [o6 p (Ne.symm nl7)];exact e).mono (by omega)
    ·have eq:q=[]:=Classical.byContradiction hne;refine iteBF (by rw [evo,eq];rfl) (kk2 Hf ⟨_,y4,by show 1≤3;decide,by show 3≤4;decide,fun v hv=>?_,Sf.mono (by omega),u4⟩);obtain ⟨t,rfl,ht⟩:∃ t,v=.ref t∧(t=t1∨t=t2∨t=t3):=by
      simp only [Zj,Zf,or_false] at hv;rcases hv with rfl | rfl | rfl
      ·exact ⟨_,rfl,.inl rfl⟩
      ·exact ⟨_,rfl,.inr (.inl rfl)⟩
      ·exact ⟨_,rfl,.inr (.inr rfl)⟩
     obtain ⟨vk,vo',vn,dk,do_,dn,g,e,h1,h2,h3,h4⟩:=Three t ht;exact ⟨t,vk,vo',vn,dk,do_,dn,rfl,g,e,h1,h2,h3,h4⟩
   ·rintro Hx ⟨xs,hl,m1,m4,hall,Sx,sx⟩;refine ⟨_,rfl,_,rfl,_,rfl,l7,xs,rfl,.inl (SqL.of hl),p,_,_,rfl,Sx,by omega,by omega,by omega,fun r7 Hy e0 e1 Sy ky=>?_⟩;obtain ⟨j7,rfl⟩:∃ j:Nat,r7=(j:Int):=⟨r7.toNat,by omega⟩;obtain ⟨v7,ev7⟩:∃ y,xs[j7]? = some y:=⟨_,Z1 (by omega)⟩;obtain ⟨t,vk,vo',vn,dk,do_,dn,rfl,gt,et,h1,h2,h3,h4⟩:=hall v7 (Z3 ev7);refine ⟨l7,xs,(j7:Int),_,rfl,rfl,SqL.of (by rw [ky _ nl7];exact hl),zBh ev7,?_⟩;have gy:∀ b o,Hx b=some o→b≠p→Hy b=some o:=fun b o e nb=>by rw [ky b nb];exact e
    exact fin t vk vo' vn dk do_ dn Hy gt (gy _ _ et (S0.nw gt)) (mv gy (hbf sx h1)) (mv gy (hbf sx h2)) (mv gy (hbf sx h3)) h4 (Sy.mono (by omega)) fun b o e nb=>gy b o (sx _ _ (fe b o e nb)) nb
end
end L2.W
namespace L2.W
open PySem My
noncomputable def spBad:Sp:=fun vs H Q _=>∃ (p ls lc:Addr) (rs:List Row) (ys:List V) (q:List (Str×Nat)) (kd:Str) (n:Nat) (k:Int),vs=[.ref p,.ref ls,.str kd,.ref lc]∧Src H p k∧k≤880000∧Has (fun a=>a≠p) H (.ref ls) (.list (rs.map rowD))∧RowsOk rs∧lc≠p∧H lc=some (.lst ys)∧Paired (CAt p H) ys (q++[(kd,n)])∧CPath (ownA rs) (q++[(kd,n)])∧ownA rs "qq" = none∧(∀ k,ownA rs k≠some (some k)) ∧
 ∀ (v:V) (d:PyData) (H':Hp),Has (fun a=>H a=none) H' v d→goodD (ownA rs) d=false→Src H' p (k + 10)→(∀ b o,H b=some o→b≠p→H' b=some o)→Q v H'
theorem CAt.mv {p:Addr}{H H':Hp} (k:∀ b o,H b=some o→b≠p→H' b=some o) {ys:List V}{q:List (Str×Nat)} (h:Paired (CAt p H) ys q):Paired (CAt p H') ys q:=by
 induction h with
 | nil=>exact .nil
 | cons r _ ih =>
  obtain ⟨a,ha,rfl,e⟩:=r;exact .cons ⟨a,ha,rfl,k _ _ e ha⟩ ih
theorem cut_m2d {xs:List V} (h:2≤xs.length):cutV xs (some (-2)) none=xs.drop (xs.length - 2):=by
 unfold cutV HT.sIx;have e:((-2:Int) + (xs.length:Int)).toNat=xs.length - 2:=by omega
 simp [e];rw [List.take_of_length_le (by rw [Zv];omega)]
theorem cut_d1 {xs:List V} (h:1≤xs.length):cutV xs (some 1) none=xs.drop 1:=zF3 (j:=1) h
theorem zFl {α β : Type}{R : α→β→Prop}:∀ {a:List α}{c:List β},Paired R a c→Paired R a.reverse c.reverse
 | _,_,.nil=>.nil
 | _,_,.cons r t=>by
  rw [Y9,Y9];exact zCa (zFl t) (.cons r .nil)
theorem k_own9 {R F:Addr→Hp→Prop}{B:Prop} (t:∀ l Hx,F l Hx→R l Hx) (h:(∀ l Hx,F l Hx→R l Hx)→B):B:=h t
noncomputable def BadV (H:Hp) (own:Str→Option (Option Str)) (Hx:Hp) (v:V):Prop:=∃ d,Has (fun a=>H a=none) Hx v d∧goodD own d=false
theorem BadV.mono {H Hx Hy:Hp}{own:Str→Option (Option Str)}{v:V} (h:BadV H own Hx v) (s:Same Hx Hy):BadV H own Hy v:=h.imp fun _ h=>⟨h.1.mono s,h.2⟩
theorem zCq {H Hx:Hp}{own:Str→Option (Option Str)}{l:List Str} (h:∀ x∈l,BadS own x):∀ v∈l.map V.str,BadV H own Hx v:=fun v hv=>by
 obtain ⟨x,hx,rfl⟩:=List.mem_map.mp hv;have b:=h x hx;exact ⟨.str x,.str x (Zd b.le (by decide)) b.ok,b.bad⟩
theorem zDk {H Hx Hy:Hp}{own:Str→Option (Option Str)}{a b:List V} (h1:∀ v∈a,BadV H own Hx v) (s:Same Hx Hy) (h2:∀ v∈b,BadV H own Hy v):∀ v∈a++b,BadV H own Hy v:=fun v hv=>(List.mem_append.mp hv).elim (fun h=>(h1 v h).mono s) (h2 v)
theorem slice_head {q:List (Str×Nat)}{kd:Str} (h:1≤(headT q kd).length):Txt.slice (headT q kd) none (some (-1))=head0 q kd:=by
 rw [slice_m1 h,zE7,show (head0 q kd++".").length - 1=(head0 q kd).length by rw [zAd,show (".": Str).length=1 by decide +kernel];omega];exact slice_to
section
variable {P:Program}{w:World}{K:PySem.W.Frag}{mg:Str→Option Value}{base:Heap}{CX:CXT}
theorem scBd:FnScope ["_law_source", "_law_specs_here", "_law_kind", "_law_chain_here", "_law_name", "_law_head", "_law_free", "_law_some"] ["_law_source", "_law_specs_here", "_law_kind", "_law_chain_here"] (defScope sBad):=⟨rfl,rfl,rfl,by decide +kernel,rfl,by decide +kernel,by decide +kernel⟩
set_option maxHeartbeats 4000000 in
theorem ok_bad {f fm fn ft fp:Addr}{fd fdm fdn fdt fdp:FuncData} (hC:Calm CX) (T:Tops K mg) (F:Fun K "_law_bad" "_law_bad" sBad f fd) (DM:Def K mg "_law_mixed" sMixed ["_law_cell", "_law_k"] fm fdm)
  (DN:Def K mg "_law_next" sNext ["_law_source", "_law_many"] fn fdn) (DT:Def K mg "_law_text" sText ["_law_chain_here"] ft fdt) (DS:Def K mg "_law_spoilt" sSpoilt ["_law_source", "_law_chain_here"] fp fdp):FnOk P w K mg base CX 4 f fd ["_law_source", "_law_specs_here", "_law_kind", "_law_chain_here"] spBad:=by
 have GN:FnOk P w K mg base CX 2 fn fdn ["_law_source", "_law_many"] spNext:=zCl hC DN.fn DM;have GT:FnOk P w K mg base CX 1 ft fdt ["_law_chain_here"] spText:=zGd T DT.fn;have GS:FnOk P w K mg base CX 3 fp fdp ["_law_source", "_law_chain_here"] spSpoilt:=ok_spoilt hC T DS.fn DM DN DT;refine Fun.okC F scBd (fun vs H Q E h=>?_) (fun cdv A outer s H vs Q E hr h=>?_)
 ·obtain ⟨p,ls,lc,rs,ys,q,kd,n,k,rfl,_⟩:=h;rfl
 ·obtain ⟨p,ls,lc,rs,ys,q,kd,n,k,rfl,S0,hk,hls,rok,nlc,hlc,hys,cp,oq,ns,fin⟩:=h;have nd:=scBd.nd;have hr1:=hr.mono (show 1≤3 by decide);have hr2:=hr.mono (show 2≤3 by decide)
  refine ⟨_,zA3 (zAw (zAp op_eq (zA7 GN hr2 rfl DN.at_ DN.fn.kp DN.bind .nil (passC hC) (zA0 (pv 0) (zA0 zA4 zA2))) zA4 (nomark _))
     (zA6 (zAj (zA7 GS hr rfl DS.at_ DS.fn.kp DS.bind .nil (passC hC) (zA0 (pv 0) (zA0 (pv 3) zA2))))) zAg)
     (zA3 (zAb (i:=4) nd rfl (Or.inl rfl) (zA7 GT hr1 rfl DT.at_ DT.fn.kp DT.bind .nil (passC hC) (zA0 (pv 3) zA2)))
     (zA3 (zAb (i:=5) nd rfl (Or.inl rfl) (zAz sl_str (pv 4) zBf (zB9 (zAh op_sub (zA9 zB8 rfl T.len PySem.boot_len (zA0 (pv 4) zA2)) (zA9 zB8 rfl T.len PySem.boot_len (zA0 (zB3 zBo rfl T.str PyProof.Rows.boot_str (zA0 (zAs zBr (zAs zAk (pv 3) (zDo zCg zA4) (fun _ _=>rfl)) zA4 (fun _ _=>rfl)) zA2)) zA2))))))
     (zA3 (zBu (T:=["_law_spec"]) (i:=6) rfl ScOk.auto (zAn (pv 1)) (fun _ _ _ _=>zAc (i:=8) (by decide +kernel:(["_law_source", "_law_specs_here", "_law_kind", "_law_chain_here", "_law_name", "_law_head", "_law_free", "_law_some", "_law_spec"]:List Str).Nodup) rfl (Or.inl rfl)) (fun _ _ _ _=>pf_one (zBz (zFk (zAs (r:=rIxT K) zBr (pv 8) zA4 (fun _ _=>rfl))))) (fun _ _ _ _=>(zAs (r:=rIxT K) zBr (pv 8) zA4 (fun _ _=>rfl))) nd rfl rfl rfl)
     (zA3 (zAb (i:=7) nd rfl (Or.inl rfl) (zAr (zA0 (zAh zAf (pv 5) zAe) (zA0 (zAh zAf (zAh zAf (pv 5) zAe) (zB3 zBo rfl T.str PyProof.Rows.boot_str (zA0 (zAs zBr (zAs zAk (pv 3) (zDo zCg zA4) (fun _ _=>rfl)) zA4 (fun _ _=>rfl)) zA2))) (zA0 (zAh zAf (pv 5) zAe) (zA0 (pv 5) (zA0 (zAz sl_str (pv 5) zBf (zB9 (zDo zCg zA4))) (zA0 (zAh zAf (pv 4) zAe) (zA0 (zAh zAf zAe (pv 4)) zA2)))))))))
     (zA3 (zAb (i:=7) nd rfl (Or.inl rfl) (zAh zC5 (pv 7) (zAr (zA0 (pe_bm0 PySem.F.plainAttrs_str PySem.F.slot_str_upper PySem.F.type_str_upper mt_upper (pv 4)) (zA0 (zAh zAf zAe (pv 4)) (zA0 (zAh zAf (pv 4) zAe) (zA0 (zAh zAf (pv 4) zAe) (zA0 (zAh zAf (pv 5) zAe) (zA0 (zAh zAf (pv 5) zAe) (zA0 (zAh zAf (pv 5) zAe) zA2))))))))))
     (zA3 (zAb (i:=7) nd rfl (Or.inl rfl) (zAh zC5 (pv 7) (zAr (zA0 (zAh zAf (pv 4) zAe) (zA0 (zAh zAf (zAh zAf (zAh zAf (pv 4) zAe) (zAs zAk (pv 6) zA4 (fun _ _=>rfl))) zAe) (zA0 zAe (zA0 (zAh zAf (pv 4) zAe) (zA0 zAe (zA0 (pv 2) (zA0 zAe zA2))))))))))
     (zA3 (zAb (i:=7) nd rfl (Or.inl rfl) (zAh zC5 (pv 7) (zAr (zA0 zCc (zA0 zA4 (zA0 zBj (zA0 (zAr (zA0 (pv 4) zA2)) (zA0 (zBc (zA0 (pv 2) (zA0 zA4 zA2))) zA2))))))))
     (zA3 (zAb (i:=7) nd rfl (Or.inl rfl) (zAh zC5 (pv 7) (zAr (zA0 (zAh zAf (pv 5) zAe) (zGb (zG3 (pv 5)) (zG9 (pen_replace (i:=4) rfl (Or.inl rfl) (by decide +kernel)) (zA0 (zAh zAf (zAh zAf (pv 4) zAe) (pv 2)) zA2)))))))
     (zA3 (zAw (zAp zF8 (zA9 zAi rfl T.len PySem.boot_len (zA0 (pv 3) zA2)) zA4 (nomark _))
     (zA6 (zAb (i:=7) nd rfl (Or.inl rfl) (zAh zC5 (pv 7) (zAr (zA0 (zA7 GT hr1 rfl DT.at_ DT.fn.kp DT.bind .nil (passC hC) (zA0 (zAz zBp (pv 3) (zB9 zA4) zBf) zA2)) (zA0 (zA7 GT hr1 rfl DT.at_ DT.fn.kp DT.bind .nil (passC hC) (zA0 (zAh zC5 (zAz zBp (pv 3) zBf (zB9 (zDo zCg zA4))) (zAz zBp (pv 3) (zB9 (zDo zCg zA4)) zBf)) zA2)) (zA0 (zA7 GT hr1 rfl DT.at_ DT.fn.kp DT.bind .nil (passC hC) (zA0 (pe_rev (pv 3)) zA2)) zA2))))))) zAg)
     (zA6 (zAj (zAs zAk (pv 7) (zA7 GN hr2 rfl DN.at_ DN.fn.kp DN.bind .nil (passC hC) (zA0 (pv 0) (zA0 (zA9 zAi rfl T.len PySem.boot_len (zA0 (pv 7) zA2)) zA2))) (fun _ _=>rfl))))))))))))),?_⟩
  have small:∀ n:Nat,n≤1000→n≤sizeLine:=fun n h=>Zl (small1000 h);have big:=small1000 (Z5 1000);have fresh:∀ {Hx:Hp}{j:Int},Src Hx p j→(∀ b o,H b=some o→b≠p→Hx b=some o)→∀ {b:Addr},Hx b=none→H b=none:=fun {Hx j} S f {b} hb=>by
   cases z:H b with
   | none=>rfl
   | some o=>rw [f b o z (S.nw hb)] at hb;cases hb
  have oks:∀ x∈q++[(kd,n)],nameOk x.1∧x.2≤999999:=cp.pok.ok;obtain ⟨nk,n9⟩:=oks (kd,n) (by simp);have yl:ys.length=(q++[(kd,n)]).length:=Paired.length hys;have q5:=cp.le;have lq1:(q++[(kd,n)]).length=q.length + 1:=by simp
  have il:(itsP (q++[(kd,n)])).length≤10:=by unfold itsP;rw [Z0];omega
  refine ⟨_,rfl,p,_,_,rfl,S0,by omega,by decide,by decide,fun r0 H1 a0 a1 S1 k1=>?_⟩;have f1:∀ b o,H b=some o→b≠p→H1 b=some o:=fun b o e nb=>by rw [k1 b nb];exact e
  refine ⟨rfl,_,rfl,?_⟩;refine ite2 (fun c=>?_) (fun c=>?_)
  ·refine ⟨_,rfl,_,rfl,p,lc,ys,q++[(kd,n)],ownA rs,_,rfl,S1,by omega,nlc,f1 _ _ hlc nlc,CAt.mv f1 hys,cp,oq,fun x H' bad le ok S' f'=>fin (.str x) (.str x) H' (.str x (by omega) ok) bad (S'.mono (by omega)) fun b o e nb=>f' b o (f1 b o e nb) nb⟩
  refine ⟨_,rfl,lc,ys,itsP (q++[(kd,n)]),rfl,f1 _ _ hlc nlc,CAt.it f1 hys,il,fun x hx=>(zCe oks x hx).1,fun H2 s2=>?_⟩;rw [zBy (by simp)];dsimp only [gName,List.set];have S2:=S1.up s2;have f2:∀ b o,H b=some o→b≠p→H2 b=some o:=fun b o e nb=>s2 _ _ (f1 b o e nb);obtain ⟨vl,evl⟩:∃ y,ys[q.length]? = some y:=⟨_,Z1 (by omega)⟩;obtain ⟨x9,ex9,tl,ntl,rfl,htl⟩:=zBk hys evl;have ex9':x9=(kd,n):=by
   rw [Zw (Z5 _)] at ex9
   simpa using ex9.symm
  rw [ex9'] at htl;have at1:atI ys (-1)=some (.ref tl):=by
   unfold atI ixN;rw [if_neg (by decide),if_pos (by omega),show ((-1:Int) + (ys.length:Int)).toNat=q.length by omega];exact evl
  have lo:((n:Int).natAbs).log2 < 1920:=by
   rw [Int.natAbs_natCast];by_cases z:n=0
   ·rw [z];decide
   ·exact (Nat.log2_lt z).mpr (Z7 (show n < 2 ^ 20 by have:n≤999999:=n9;omega) (Nat.pow_le_pow_right (by decide) (by decide)))
  have fl6:(figs n).length≤6:=zC2 n9;have ff:(Str.ofString (toString (n:Int))).length≤6:=fl6;obtain ⟨r1,hr1',en1,eo1⟩:∃ r∈rs,r.name=(((q++[(kd,n)])[0]'(by omega)).1)∧r.owner=none:=by
   have:=cp.ch.get (i:=0) (Z1 (by omega));exact zCk this
  have frne:(rs.filter fun r=>decide (r.owner=none))≠[]:=fun z=>by
   have:r1∈rs.filter fun r=>decide (r.owner=none):=List.mem_filter.mpr ⟨hr1',decide_eq_true eo1⟩;rw [z] at this;cases this
  obtain ⟨rf,rt,erf⟩:=List.exists_cons_of_ne_nil frne;have hrf:rf∈rs∧rf.owner=none:=by
   have:rf∈rs.filter fun r=>decide (r.owner=none):=by rw [erf];exact Z9
   have:=List.mem_filter.mp this;exact ⟨this.1,of_decide_eq_true this.2⟩
  have B:Bads (ownA rs) q kd n rf.name:=all_bads cp oq (rok.ok rf hrf.1).1 (by rw [zEm rok hrf.1,hrf.2]);have nl:=B.nl;have hl:=B.hl;have eh:Txt.slice (showP (q++[(kd,n)])) none (some (((showP (q++[(kd,n)])).length:Int) - ((Str.ofString (toString (n:Int))).length:Int)))=headT q kd:=by
   rw [show (((showP (q++[(kd,n)])).length:Int) - ((Str.ofString (toString (n:Int))).length:Int))=((headT q kd).length:Int) by
    have:=congrArg Str.length (zEe (q:=q) (kd:=kd) (n:=n));rw [zAd] at this;rw [this,show (Str.ofString (toString (n:Int))).length=(figs n).length from rfl]
    push_cast
    omega,zEe]
   exact slice_to
  refine ⟨_,rfl,_,rfl,showP (q++[(kd,n)]),rfl,small _ (by omega),_,rfl,_,rfl,lc,ys,-1,_,rfl,rfl,SqL.of (f2 _ _ hlc nlc),at1,tl,_,1,_,rfl,rfl,SqT.of (f2 _ _ htl ntl),rfl,(n:Int),rfl,lo,_,rfl,small _ (by omega),_,_,rfl,rfl,_,rfl,_,rfl,small _ (by omega),?_⟩;rw [eh];dsimp only [gName,List.set];have hls2:Has Any H2 (.ref ls) (.list (rs.map rowD)):=hls.frame fun b o g e=>⟨trivial,f2 b o e g⟩;obtain ⟨ls',xs,e,_,hl1,_,hx⟩:=hls2.list_inv;cases e;have xl:xs.length=rs.length:=by rw [hx.length,Z0]
  have r5:=rok.le;refine ⟨_,rfl,ls,rfl,⟨_,SqL.of hl1⟩,zAl (xs:=xs) (fun i ys H'=>H2=H'∧ys=(((rs.take i).filter fun r=>decide (r.owner=none)).map (·.name)).map V.str) ⟨rfl,rfl⟩ (fun i ys H' p=>by rw [← p.1];exact SqL.of hl1) (fun i ys H' hi p=>?_) ?_ ?_⟩
  ·rw [p.2,Z0,Z0];have h1:=List.length_filter_le (fun r:Row=>decide (r.owner=none)) (rs.take i);have h2:(rs.take i).length≤rs.length:=by rw [Zt];omega
   exact small _ (by omega)
  ·rintro i x zz H' hi ⟨rfl,rfl⟩ N hN;obtain ⟨dd,hdd,hv⟩:=hx.get hi;rw [Za] at hdd;obtain ⟨r,er,rfl⟩:=Option.map_eq_some_iff.mp hdd;obtain ⟨t,lf,rfl,ht,_⟩:=zG1 hv;have snoc:((rs.take (i + 1)).filter fun r=>decide (r.owner=none))=if decide (r.owner=none)=true then (rs.take i).filter (fun r=>decide (r.owner=none))++[r] else (rs.take i).filter fun r=>decide (r.owner=none):=by
    rw [Zk,er,Ym];cases e:decide (r.owner=none) <;> simp [e]
   cases eo:r.owner with
   | none =>
    rw [eo] at ht;refine ⟨_,rfl,t,_,2,_,rfl,rfl,SqT.of ht,rfl,_,rfl,iteT ⟨_,rfl,t,_,0,_,rfl,rfl,SqT.of ht,rfl,hN _ _ ⟨rfl,?_⟩⟩⟩;rw [snoc,if_pos (by simp [eo]),Zh,Zh];rfl
   | some ow =>
    rw [eo] at ht;refine ⟨_,rfl,t,_,2,_,rfl,rfl,SqT.of ht,rfl,_,rfl,iteF (hN _ _ ⟨rfl,?_⟩)⟩;rw [snoc,if_neg (by simp [eo])]
  ·rintro zz H' ⟨rfl,rfl⟩ l6 h6;rw [xl,Zm,erf];have fits:∀ {x y:Str},x.length≤500→y.length≤500→x.length + y.length≤sizeLine:=fun h1 h2=>by omega
   have nl5:(showP (q++[(kd,n)])).length≤500:=by omega
   have hl5:(headT q kd).length≤500:=by omega
   have w6:Same H2 (upd H2 l6 (.lst (((rf :: rt).map (·.name)).map V.str))):=Same.new h6;have x6:(upd H2 l6 (.lst (((rf :: rt).map (·.name)).map V.str))) l6=some (.lst (((rf :: rt).map (·.name)).map V.str)):=zA1;generalize upd H2 l6 (.lst (((rf :: rt).map (·.name)).map V.str))=H3 at w6 x6 ⊢;have S3:=S2.up w6;have f3:∀ b o,H b=some o→b≠p→H3 b=some o:=fun b o e nb=>w6 _ _ (f2 b o e nb);dsimp only [gName,List.set];have lk:kd.length≤8:=nk.2.2;have lf8:rf.name.length≤8:=(rok.ok rf hrf.1).1.2.2;refine ⟨_,rfl,_,_,rfl,rfl,fits hl5 (by decide +kernel),_,rfl,_,_,rfl,rfl,fits hl5 (by decide +kernel),_,rfl,_,rfl,lc,ys,-1,_,rfl,rfl,SqL.of (f3 _ _ hlc nlc),at1,tl,_,1,_,rfl,rfl,SqT.of (f3 _ _ htl ntl),rfl,(n:Int),rfl,lo,_,_,rfl,rfl,fits (Zd (zBm hl (show ("0" : Str).length≤10 by decide +kernel)) (by decide)) (by omega),_,rfl,_,_,rfl,rfl,fits hl5 (by decide +kernel),_,rfl,_,rfl,_,rfl,_,rfl,_,rfl,small _ (by omega),_,rfl,_,_,rfl,rfl,fits nl5 (by decide +kernel),_,rfl,_,_,rfl,rfl,fits (by decide +kernel) nl5,small 7 (by decide),fun l7 h7=>?_⟩;rw [slice_head B.hp,show ([.str (headT q kd++"00"),.str (headT q kd++"0"++Str.ofString (toString (n:Int))),.str (headT q kd++"1000000"),.str (headT q kd),.str (head0 q kd),.str (showP (q++[(kd,n)])++"."),.str ("."++showP (q++[(kd,n)]))]:List V)=(badA q kd n).map V.str from rfl];have w7:Same H3 (upd H3 l7 (.lst ((badA q kd n).map V.str))):=Same.new h7;have x7:(upd H3 l7 (.lst ((badA q kd n).map V.str))) l7=some (.lst ((badA q kd n).map V.str)):=zA1;generalize upd H3 l7 (.lst ((badA q kd n).map V.str))=H4 at w7 x7 ⊢;have b7:∀ v∈(badA q kd n).map V.str,BadV H (ownA rs) H4 v:=zCq B.a;have m7:((badA q kd n).map V.str).length=7:=rfl;generalize (badA q kd n).map V.str=za at x7 b7 m7 ⊢;dsimp only [gName,List.set];refine ⟨_,rfl,_,rfl,rfl,_,rfl,rfl,by omega,_,rfl,_,_,rfl,rfl,fits (by decide +kernel) nl5,_,rfl,_,_,rfl,rfl,fits nl5 (by decide +kernel),_,rfl,_,_,rfl,rfl,fits nl5 (by decide +kernel),_,rfl,_,_,rfl,rfl,fits hl5 (by decide +kernel),_,rfl,_,_,rfl,rfl,fits hl5 (by decide +kernel),_,rfl,_,_,rfl,rfl,fits hl5 (by decide +kernel),small 7 (by decide),fun l8 h8=>?_⟩;rw [show ([.str (Txt.upper (showP (q++[(kd,n)]))),.str (" "++showP (q++[(kd,n)])),.str (showP (q++[(kd,n)])++" "),.str (showP (q++[(kd,n)])++"\n"),.str (headT q kd++"-1"),.str (headT q kd++"+1"),.str (headT q kd++"x")]:List V)=(badB q kd n).map V.str from rfl];have w8:Same H4 (upd H4 l8 (.lst ((badB q kd n).map V.str))):=Same.new h8;have x8:(upd H4 l8 (.lst ((badB q kd n).map V.str))) l8=some (.lst ((badB q kd n).map V.str)):=zA1;generalize upd H4 l8 (.lst ((badB q kd n).map V.str))=H5 at w8 x8 ⊢;refine ⟨l7,l8,_,_,rfl,rfl,w8 _ _ x7,x8,by rw [m7];exact small 14 (by decide),fun l9 h9=>?_⟩;have w9:Same H5 (upd H5 l9 (.lst (za++(badB q kd n).map V.str))):=Same.new h9;have x9:(upd H5 l9 (.lst (za++(badB q kd n).map V.str))) l9=some (.lst (za++(badB q kd n).map V.str)):=zA1;generalize upd H5 l9 (.lst (za++(badB q kd n).map V.str))=H6 at w9 x9 ⊢;have b9:∀ v∈za++(badB q kd n).map V.str,BadV H (ownA rs) H6 v:=zDk b7 (w8.trans w9) (zCq B.b);have m9:(za++(badB q kd n).map V.str).length=14:=by rw [Z4,m7];rfl
   generalize za++(badB q kd n).map V.str=zb at x9 b9 m9 ⊢;have w39:=w7.trans (w8.trans w9);clear b7 x8 x7 m7;dsimp only [gName,List.set];refine ⟨_,rfl,_,rfl,_,_,rfl,rfl,fits nl5 (by decide +kernel),_,rfl,_,_,rfl,rfl,fits nl5 (by decide +kernel),_,rfl,l6,_,((0:Nat):Int),_,rfl,rfl,SqL.of (w39 _ _ x6),zBh rfl,_,_,rfl,rfl,fits (Zd (zBm nl (show ("." : Str).length≤10 by decide +kernel)) (by decide)) (show rf.name.length≤500 by omega),_,_,rfl,rfl,fits (Zd (zBm (zBm nl (show ("." : Str).length≤10 by decide +kernel)) lf8) (by decide)) (by decide +kernel),_,rfl,_,_,rfl,rfl,fits nl5 (by decide +kernel),_,rfl,small 7 (by decide),fun la ha=>?_⟩;rw [show ([.str (showP (q++[(kd,n)])++"..0"),.str (showP (q++[(kd,n)])++"."++rf.name++".0"),.str "qq.0",.str (showP (q++[(kd,n)])++".qq.0"),.str "",.str kd,.str "."]:List V)=(badC q kd n rf.name).map V.str from rfl];have wa:Same H6 (upd H6 la (.lst ((badC q kd n rf.name).map V.str))):=Same.new ha;have xa:(upd H6 la (.lst ((badC q kd n rf.name).map V.str))) la=some (.lst ((badC q kd n rf.name).map V.str)):=zA1;generalize upd H6 la (.lst ((badC q kd n rf.name).map V.str))=H7 at wa xa ⊢;refine ⟨l9,la,_,_,rfl,rfl,wa _ _ x9,xa,by rw [m9];exact small 21 (by decide),fun lb hb=>?_⟩;have wb:Same H7 (upd H7 lb (.lst (zb++(badC q kd n rf.name).map V.str))):=Same.new hb;have xb:(upd H7 lb (.lst (zb++(badC q kd n rf.name).map V.str))) lb=some (.lst (zb++(badC q kd n rf.name).map V.str)):=zA1;generalize upd H7 lb (.lst (zb++(badC q kd n rf.name).map V.str))=H8 at wb xb ⊢;have bb:∀ v∈zb++(badC q kd n rf.name).map V.str,BadV H (ownA rs) H8 v:=zDk b9 (wa.trans wb) (zCq B.c);have mb:(zb++(badC q kd n rf.name).map V.str).length=21:=by rw [Z4,m9];rfl
   generalize zb++(badC q kd n rf.name).map V.str=zc at xb bb mb ⊢;have w3b:=w39.trans (wa.trans wb);clear b9 xa x9 m9 wa wb w8 w9 w7 w39;dsimp only [gName,List.set];have S8:=S3.up w3b;have f8:∀ b o,H b=some o→b≠p→H8 b=some o:=fun b o e nb=>w3b _ _ (f3 b o e nb);refine ⟨_,rfl,_,rfl,small 1 (by decide),fun lc1 hc1=>?_⟩;have g1:=fresh S8 f8 hc1;have wc:Same H8 (upd H8 lc1 (.lst [.str (showP (q++[(kd,n)]))])):=Same.new hc1;have xc:(upd H8 lc1 (.lst [.str (showP (q++[(kd,n)]))])) lc1=some (.lst [.str (showP (q++[(kd,n)]))]):=zA1;generalize upd H8 lc1 (.lst [.str (showP (q++[(kd,n)]))])=H9 at wc xc ⊢;have S9:=S8.up wc;have f9:∀ b o,H b=some o→b≠p→H9 b=some o:=fun b o e nb=>wc _ _ (f8 b o e nb);refine ⟨_,rfl,small 2 (by decide),fun tc1 htc1=>?_⟩;have g2:=fresh S9 f9 htc1;have wd:Same H9 (upd H9 tc1 (.tup [.str kd,.int 0])):=Same.new htc1;have xd:(upd H9 tc1 (.tup [.str kd,.int 0])) tc1=some (.tup [.str kd,.int 0]):=zA1;generalize upd H9 tc1 (.tup [.str kd,.int 0])=Ha at wd xd ⊢;refine ⟨small 5 (by decide),fun le he=>?_⟩;have we:Same Ha (upd Ha le (.lst [.non,.int 5,.bl true,.ref lc1,.ref tc1])):=Same.new he;have xe:(upd Ha le (.lst [.non,.int 5,.bl true,.ref lc1,.ref tc1])) le=some (.lst [.non,.int 5,.bl true,.ref lc1,.ref tc1]):=zA1;generalize upd Ha le (.lst [.non,.int 5,.bl true,.ref lc1,.ref tc1])=Hb at we xe ⊢;have be:∀ v∈([.non,.int 5,.bl true,.ref lc1,.ref tc1]:List V),BadV H (ownA rs) Hb v:=fun v hv=>by
    simp only [Zj,Zf,or_false] at hv;rcases hv with e | e | e | e | e <;> rw [e]
    ·exact ⟨_,.non,rfl⟩
    ·exact ⟨_,.int 5,rfl⟩
    ·exact ⟨_,.bl true,rfl⟩
    ·exact ⟨_,.lst g1 (we _ _ (wd _ _ xc)) (by show 1≤1000;decide) (.cons (.str _ (by omega) (by have:=(B.c kd (by simp [badC])).ok;have:=(B.a _ (show _∈badA q kd n by simp only [badA,Zj];exact .inr (.inr (.inr (.inr (.inr (.inl rfl))))))).ok;rw [zAv] at this ⊢;exact fun c hc=>this c (by rw [zA8];exact Zr _ hc))) .nil),rfl⟩
    ·exact ⟨_,.tup g2 (we _ _ xd) (by show 2≤1000;decide) (.cons (.str _ (by omega) nk.2.1) (.cons (.int 0) .nil)),rfl⟩
   have md:([.non,.int 5,.bl true,.ref lc1,.ref tc1]:List V).length=5:=rfl;generalize ([.non,.int 5,.bl true,.ref lc1,.ref tc1]:List V)=zd at xe be md ⊢;refine ⟨lb,le,_,_,rfl,rfl,we _ _ (wd _ _ (wc _ _ xb)),xe,by rw [mb,md];exact small 26 (by decide),fun lf hf=>?_⟩;have wf:Same Hb (upd Hb lf (.lst (zc++zd))):=Same.new hf;have xf:(upd Hb lf (.lst (zc++zd))) lf=some (.lst (zc++zd)):=zA1;generalize upd Hb lf (.lst (zc++zd))=Hc at wf xf ⊢;have w8c:=wc.trans (wd.trans (we.trans wf));have bf:∀ v∈zc++zd,BadV H (ownA rs) Hc v:=zDk bb w8c fun v hv=>(be v hv).mono wf;have mf:(zc++zd).length=26:=by rw [Z4,mb,md]
   generalize zc++zd=ze at xf bf mf ⊢;clear be bb xe xb xc xd mb md;dsimp only [gName,List.set];refine ⟨_,rfl,_,rfl,_,_,rfl,rfl,fits hl5 (by decide +kernel),_,rfl,_,rfl,B.hp,by decide +kernel,fits hl5 (by decide +kernel),_,rfl,?_,_,rfl,_,_,rfl,rfl,fits nl5 (by decide +kernel),_,rfl,_,_,rfl,rfl,fits (Zd (zBm nl (show ("." : Str).length≤10 by decide +kernel)) (by decide)) (by omega),small 4 (by decide),fun lg hg=>?_⟩
   ·rw [show (":" : Str).length=1 by decide +kernel];omega
   rw [show ([.str (headT q kd++"1."),.str (headT q kd++"1_0"),.str (Txt.replace (showP (q++[(kd,n)])) "." ":"),.str (showP (q++[(kd,n)])++"."++kd)]:List V)=(badD q kd n).map V.str from rfl];have wg:Same Hc (upd Hc lg (.lst ((badD q kd n).map V.str))):=Same.new hg;have xg:(upd Hc lg (.lst ((badD q kd n).map V.str))) lg=some (.lst ((badD q kd n).map V.str)):=zA1;generalize upd Hc lg (.lst ((badD q kd n).map V.str))=Hd at wg xg ⊢;refine ⟨lf,lg,_,_,rfl,rfl,wg _ _ xf,xg,by rw [mf];exact small 30 (by decide),fun lh hh=>?_⟩;have wh:Same Hd (upd Hd lh (.lst (ze++(badD q kd n).map V.str))):=Same.new hh;have xh:(upd Hd lh (.lst (ze++(badD q kd n).map V.str))) lh=some (.lst (ze++(badD q kd n).map V.str)):=zA1;generalize upd Hd lh (.lst (ze++(badD q kd n).map V.str))=He at wh xh ⊢;have bh:∀ v∈ze++(badD q kd n).map V.str,BadV H (ownA rs) He v:=zDk bf (wg.trans wh) (zCq B.d);have mh:(ze++(badD q kd n).map V.str).length=30:=by rw [Z4,mf];rfl
   generalize ze++(badD q kd n).map V.str=zf at xh bh mh ⊢;have w3e:=w3b.trans (w8c.trans (wg.trans wh));have Se:Src He p (k + 1):=S3.up w3e;have fe:∀ b o,H b=some o→b≠p→He b=some o:=fun b o e nb=>w3e _ _ (f3 b o e nb);clear bf xg xf mf;dsimp only [gName,List.set];refine ⟨_,rfl,lc,ys,rfl,.inl (SqL.of (fe _ _ hlc nlc)),_,_,rfl,rfl,_,rfl,?_⟩;refine' k_own9 (F:=fun l Hx=>∃ zs:List V,Hx l=some (.lst zs)∧l≠p∧1≤zs.length∧zs.length≤33∧(∀ v∈zs,BadV H (ownA rs) Hx v)∧Src Hx p (k + 1)∧∀ b o,H b=some o→b≠p→Hx b=some o) _ (fun kk=>_);rotate_left 2
   ·by_cases c1:1 < ys.length
    ·obtain ⟨t1,t2,t3⟩:=zF6 cp ns (by omega);have mem:∀ {r:List (Str×Nat)},(∀ x∈r,x∈q++[(kd,n)])→∀ x∈itsP r,x.ok:=fun h x hx=>(zCe (fun y hy=>oks y (h y hy)) x hx).1;refine iteBT (decide_eq_true (by omega)) ⟨_,rfl,_,rfl,_,rfl,lc,ys,rfl,SqL.of (fe _ _ hlc nlc),fun i1 hi1=>?_⟩;rw [cut_d1 (by omega)];have v1:Same He (upd He i1 (.lst (ys.drop 1))):=Same.new hi1;have y1:(upd He i1 (.lst (ys.drop 1))) i1=some (.lst (ys.drop 1)):=zA1;generalize upd He i1 (.lst (ys.drop 1))=J1 at v1 y1 ⊢;have e1:∀ b o,H b=some o→b≠p→J1 b=some o:=fun b o e nb=>v1 _ _ (fe b o e nb);refine ⟨i1,_,_,rfl,y1,CAt.it e1 (zBw 1 hys),by unfold itsP;rw [Z0,Zv];omega,mem fun x hx=>List.mem_of_mem_drop hx,fun J2 v2=>?_⟩;have e2:∀ b o,H b=some o→b≠p→J2 b=some o:=fun b o e nb=>v2 _ _ (e1 b o e nb);refine ⟨_,rfl,_,rfl,_,rfl,lc,ys,rfl,SqL.of (e2 _ _ hlc nlc),fun i2 hi2=>?_⟩;rw [cut_m1 (by omega)];have v3:Same J2 (upd J2 i2 (.lst (ys.take (ys.length - 1)))):=Same.new hi2;have y3:(upd J2 i2 (.lst (ys.take (ys.length - 1)))) i2=some (.lst (ys.take (ys.length - 1))):=zA1;generalize upd J2 i2 (.lst (ys.take (ys.length - 1)))=J3 at v3 y3 ⊢;have e3:∀ b o,H b=some o→b≠p→J3 b=some o:=fun b o e nb=>v3 _ _ (e2 b o e nb);refine ⟨_,rfl,_,rfl,_,rfl,lc,ys,rfl,SqL.of (e3 _ _ hlc nlc),fun i3 hi3=>?_⟩;rw [cut_m2d (by omega)];have v4:Same J3 (upd J3 i3 (.lst (ys.drop (ys.length - 2)))):=Same.new hi3;have y4:(upd J3 i3 (.lst (ys.drop (ys.length - 2)))) i3=some (.lst (ys.drop (ys.length - 2))):=zA1;generalize upd J3 i3 (.lst (ys.drop (ys.length - 2)))=J4 at v4 y4 ⊢;refine ⟨i2,i3,_,_,rfl,rfl,v4 _ _ y3,y4,by rw [Zt,Zv];exact small _ (by omega),fun i4 hi4=>?_⟩;have v5:Same J4 (upd J4 i4 (.lst (ys.take (ys.length - 1)++ys.drop (ys.length - 2)))):=Same.new hi4;have y5:(upd J4 i4 (.lst (ys.take (ys.length - 1)++ys.drop (ys.length - 2)))) i4=some (.lst (ys.take (ys.length - 1)++ys.drop (ys.length - 2))):=zA1;generalize upd J4 i4 (.lst (ys.take (ys.length - 1)++ys.drop (ys.length - 2)))=J5 at v5 y5 ⊢;have e5:∀ b o,H b=some o→b≠p→J5 b=some o:=fun b o e nb=>v5 _ _ (v4 _ _ (e3 b o e nb));have pz5:Paired (It2.at_ J5) (ys.take (ys.length - 1)++ys.drop (ys.length - 2)) (itsP ((q++[(kd,n)]).take ((q++[(kd,n)]).length - 1)++(q++[(kd,n)]).drop ((q++[(kd,n)]).length - 2))):=by
      rw [yl];exact CAt.it e5 (zCa (zBv _ hys) (zBw _ hys))
     refine ⟨i4,_,_,rfl,y5,pz5,by unfold itsP;rw [Z0,Z4,Zt,Zv];omega,mem fun x hx=>(List.mem_append.mp hx).elim Yh List.mem_of_mem_drop,fun J6 v6=>?_⟩;have e6:∀ b o,H b=some o→b≠p→J6 b=some o:=fun b o e nb=>v6 _ _ (e5 b o e nb);refine ⟨_,rfl,lc,ys,rfl,SqL.of (e6 _ _ hlc nlc),fun i5 hi5=>?_⟩;have v7:Same J6 (upd J6 i5 (.lst ys.reverse)):=Same.new hi5;have y7:(upd J6 i5 (.lst ys.reverse)) i5=some (.lst ys.reverse):=zA1;generalize upd J6 i5 (.lst ys.reverse)=J7 at v7 y7 ⊢;have e7:∀ b o,H b=some o→b≠p→J7 b=some o:=fun b o e nb=>v7 _ _ (e6 b o e nb);refine ⟨i5,_,_,rfl,y7,CAt.it e7 (zFl hys),by unfold itsP;rw [Z0,List.length_reverse];omega,mem fun x hx=>List.mem_reverse.mp hx,fun J8 v8=>?_⟩;refine ⟨small 3 (by decide),fun i6 hi6=>?_⟩;have w1:=v1.trans (v2.trans (v3.trans (v4.trans (v5.trans (v6.trans (v7.trans v8))))));have v9:=Same.new (o:=.lst ([txtOf (itsP ((q++[(kd,n)]).drop 1)),txtOf (itsP ((q++[(kd,n)]).take ((q++[(kd,n)]).length - 1)++(q++[(kd,n)]).drop ((q++[(kd,n)]).length - 2))),txtOf (itsP (q++[(kd,n)]).reverse)].map V.str)) hi6;have y9:(upd J8 i6 (.lst ([txtOf (itsP ((q++[(kd,n)]).drop 1)),txtOf (itsP ((q++[(kd,n)]).take ((q++[(kd,n)]).length - 1)++(q++[(kd,n)]).drop ((q++[(kd,n)]).length - 2))),txtOf (itsP (q++[(kd,n)]).reverse)].map V.str))) i6=some _:=zA1;have b9:∀ {Hx:Hp},∀ v∈([txtOf (itsP ((q++[(kd,n)]).drop 1)),txtOf (itsP ((q++[(kd,n)]).take ((q++[(kd,n)]).length - 1)++(q++[(kd,n)]).drop ((q++[(kd,n)]).length - 2))),txtOf (itsP (q++[(kd,n)]).reverse)]:List Str).map V.str,BadV H (ownA rs) Hx v:=zCq fun x hx=>by
      simp only [Zj,Zf,or_false] at hx;rcases hx with e | e | e <;> rw [e]
      ·exact t1
      ·exact t2
      ·exact t3
     have m9:(([txtOf (itsP ((q++[(kd,n)]).drop 1)),txtOf (itsP ((q++[(kd,n)]).take ((q++[(kd,n)]).length - 1)++(q++[(kd,n)]).drop ((q++[(kd,n)]).length - 2))),txtOf (itsP (q++[(kd,n)]).reverse)]:List Str).map V.str).length=3:=rfl;rw [show ([.str (txtOf (itsP ((q++[(kd,n)]).drop 1))),.str (txtOf (itsP ((q++[(kd,n)]).take ((q++[(kd,n)]).length - 1)++(q++[(kd,n)]).drop ((q++[(kd,n)]).length - 2)))),.str (txtOf (itsP (q++[(kd,n)]).reverse))]:List V)=([txtOf (itsP ((q++[(kd,n)]).drop 1)),txtOf (itsP ((q++[(kd,n)]).take ((q++[(kd,n)]).length - 1)++(q++[(kd,n)]).drop ((q++[(kd,n)]).length - 2))),txtOf (itsP (q++[(kd,n)]).reverse)]:List Str).map V.str from rfl];generalize ([txtOf (itsP ((q++[(kd,n)]).drop 1)),txtOf (itsP ((q++[(kd,n)]).take ((q++[(kd,n)]).length - 1)++(q++[(kd,n)]).drop ((q++[(kd,n)]).length - 2))),txtOf (itsP (q++[(kd,n)]).reverse)]:List Str).map V.str=zg at v9 y9 b9 m9 ⊢;generalize upd J8 i6 (.lst zg)=J9 at v9 y9 ⊢;have SJ9:=(Se.up w1).up v9;refine ⟨lh,i6,_,_,rfl,rfl,v9 _ _ (w1 _ _ xh),y9,by rw [mh,m9];exact small 33 (by decide),fun i7 hi7=>?_⟩;have va:Same J9 (upd J9 i7 (.lst (zf++zg))):=Same.new hi7;have ya:(upd J9 i7 (.lst (zf++zg))) i7=some (.lst (zf++zg)):=zA1;generalize upd J9 i7 (.lst (zf++zg))=Ja at va ya ⊢;have wall:=w1.trans (v9.trans va);exact kk i7 Ja ⟨zf++zg,ya,SJ9.nw hi7,by rw [Z4];omega,by rw [Z4];omega,zDk bh wall b9,Se.up wall,fun b o e nb=>wall _ _ (fe b o e nb)⟩
    ·exact iteBF (decide_eq_false (by omega)) (kk lh He ⟨zf,xh,(S3.up (w3b.trans (w8c.trans wg))).nw hh,by omega,by omega,bh,Se,fe⟩)
   ·rintro l Hx ⟨zs,hl,nl',m1,m33,hall,Sx,fx⟩;refine ⟨_,rfl,_,rfl,_,rfl,l,zs,rfl,.inl (SqL.of hl),p,_,_,rfl,Sx,by omega,by omega,by omega,fun r7 Hy e0 e1 Sy ky=>?_⟩;obtain ⟨j7,rfl⟩:∃ j:Nat,r7=(j:Int):=⟨r7.toNat,by omega⟩;obtain ⟨v7,ev7⟩:∃ y,zs[j7]? = some y:=⟨_,Z1 (by omega)⟩;obtain ⟨d,hd,bad⟩:=hall v7 (Z3 ev7);refine ⟨l,zs,(j7:Int),_,rfl,rfl,SqL.of (by rw [ky _ nl'];exact hl),zBh ev7,?_⟩;have gy:∀ b o,Hx b=some o→b≠p→Hy b=some o:=fun b o e nb=>by rw [ky b nb];exact e
    exact fin v7 d Hy (hd.frame fun b o g e=>⟨g,gy b o e (S0.nw g)⟩) bad (Sy.mono (by omega)) fun b o e nb=>gy b o (fx b o e nb) nb
end
end L2.W
namespace L2.W
open PySem My
noncomputable def notArg:Stmt→Expr
 | .If (.UnaryOp _ (.Call _ [l] _ _) _) _ _ _=>l
 | _=>.Constant .none 0 ⟨0,0,0,0⟩
noncomputable abbrev lam1:Expr:=notArg (stAt (forBody (stAt (forBody (stAt (defBody sLaw) 0)) 4)) 2)
noncomputable abbrev lam2:Expr:=notArg (stAt (forBody (stAt (forBody (stAt (defBody sLaw) 0)) 4)) 3)
noncomputable abbrev lamN1:List Str:=["_law_kinds", "_law_bad_here"]
noncomputable abbrev lamN2:List Str:=["_law_kinds", "_law_one", "_law_owner", "_law_number"]
noncomputable def lawQ:Str:=(("law" : Str)++".<locals>.")++"<lambda>"
theorem scLam1:LScope lamN1 (lamS lam1):=⟨by decide +kernel,rfl,rfl,rfl,by decide +kernel⟩
theorem scLam2:LScope lamN2 (lamS lam2):=⟨by decide +kernel,rfl,rfl,rfl,by decide +kernel⟩
structure Refs (K:PySem.W.Frag) (mg:Str→Option Value) (C1 CR CN C2 C3:Addr):Prop where
 no:XTop K mg "NoName" C1
 x:XCls K C1
 rest:mg "RestError" = some (.ref CR)
 n1:mg "NoKind" = some (.ref CN)
 n2:mg "NoWish" = some (.ref C2)
 n3:mg "TooMany" = some (.ref C3)
 ve:mg "ValueError" = none
 exm:PySem.W.exmOne K (.ref C1) (.ref CR)=some true
 one:PySem.W.kitOne K (.ref C1) (.ref C1)=some true
 val:PySem.W.kitOne K (.ref C1) (.type "ValueError")=some true
 oth:PySem.W.kitAny K (.ref C1) [.ref CN,.ref C2,.ref C3]=some false
noncomputable def spRefL (C1:Addr) (q:Str) (Th:List V→Hp→VK→XK→Prop) (f c':Addr) (cl:List (Str×Addr)) (ws:List V):Sp:=fun vs H Q _=>vs=[.ref f]∧FreeL H f cl∧H c'=some (CodeO c' q)∧(∀ (Q':VK) (E':XK),Refused C1 H E'→Th ws H Q' E')∧∀ H',Same H H'→Q (.bl true) H'
section
variable {P:Program}{w:World}{K:PySem.W.Frag}{mg:Str→Option Value}{base:Heap}
theorem ok_lam1 {CK C C1 fp f c':Addr}{fdp:FuncData}{cl:List (Str×Addr)}{ws:List V} (DP:Def K mg "parts_of" sPartsOf ["kinds", "name"] fp fdp) (GP:FnOk P w K mg base (CXM P w) 3 fp fdp ["kinds", "name"] (spPartsNo CK C C1)) :
  LamOk P w K mg base (CXM P w) 4 f c' lawQ (lamP lam1) (lamB lam1) (lamS lam1) cl lamN1 ws (fun H Q E=>spPartsNo CK C C1 ws H Q E):=by
 refine lam_of scLam1 (fun _ _=>rfl) fun A outer s H Q E hr h=>?_;obtain ⟨kq,d,kvs,own,v,dd,rfl,h⟩:=h;exact ⟨_,zA7 GP hr rfl DP.at_ DP.fn.kp DP.bind .nil pass_onL (zA0 (pv 0) (zA0 (pv 1) zA2)),_,rfl,_,rfl,kq,d,kvs,own,v,dd,rfl,h⟩
theorem ok_lam2 {CK C C1 fp f c':Addr}{fdp:FuncData}{cl:List (Str×Addr)}{ws:List V} (DP:Def K mg "name_of" sNameOf ["kinds", "kind", "owner", "number"] fp fdp) (GP:FnOk P w K mg base (CXM P w) 4 fp fdp ["kinds", "kind", "owner", "number"] (spNameNo K CK C C1)) :
  LamOk P w K mg base (CXM P w) 5 f c' lawQ (lamP lam2) (lamB lam2) (lamS lam2) cl lamN2 ws (fun H Q E=>spNameNo K CK C C1 ws H Q E):=by
 refine lam_of scLam2 (fun _ _=>rfl) fun A outer s H Q E hr h=>?_;obtain ⟨kq,d,kvs,own,vk,vo,vn,dk,do_,dn,rfl,h⟩:=h;exact ⟨_,zA7 GP hr rfl DP.at_ DP.fn.kp DP.bind .nil pass_onL (zA0 (pv 0) (zA0 (pv 1) (zA0 (pv 2) (zA0 (pv 3) zA2)))),_,rfl,_,rfl,_,rfl,_,rfl,kq,d,kvs,own,vk,vo,vn,dk,do_,dn,rfl,h⟩
theorem scRd:FnScope ["_law_asked", "_law_got", "_law_others", "e"] ["_law_asked"] (defScope sRefused):=⟨rfl,rfl,rfl,by decide +kernel,rfl,by decide +kernel,by decide +kernel⟩
theorem zFn {fw f c' C1 CR CN C2 C3:Addr}{fd:FuncData}{q:Str}{params:Arguments}{body:Expr}{scope:Scope}{cl:List (Str×Addr)}{N:List Str}{ws:List V}{Th:List V→Hp→VK→XK→Prop} (T:Tops K mg) (R:Refs K mg C1 CR CN C2 C3) (F:Fun K "_law_refused" "_law_refused" sRefused fw fd)
  (G:LamOk P w K mg base (CXM P w) 5 f c' q params body scope cl N ws (Th ws)) :
  FnOkS (LamAt f c' q params body scope cl N ws) P w K mg base (CXM P w) 6 fw fd ["_law_asked"] (spRefL C1 q Th f c' cl ws):=by
 refine Fun.okS F scRd (fun vs H Q E h=>?_) (fun cdv A outer s H vs Q E hL hr h=>?_)
 ·obtain ⟨rfl,_⟩:=h;rfl
 ·obtain ⟨rfl,fr,hc,th,k⟩:=h;have nd:=scRd.nd
  refine ⟨_,zA3 (zAb (i:=1) nd rfl (Or.inl rfl) zBj)
   (zA3 (ps_try (i:=3) (B:=CR) rfl rfl rfl nd rfl rfl rfl R.rest (fun pins W=>zA6 (zDn (pe_ask (i:=0) G hr (pass_try rfl) hL fr rfl rfl (Or.inl rfl))))
    (fun e=>zA3 (zAb (i:=2) nd rfl (Or.inl rfl) (zA9 (call_isinstT (K:=K) rfl) rfl T.isinst PyProof.Rows.boot_isinstance (zA0 (pv 3) (zA0 (zBc (zA0 (zBb (v:=.ref CN) rfl R.n1 rfl) (zA0 (zBb (v:=.ref C2) rfl R.n2 rfl) (zA0 (zBb (v:=.ref C3) rfl R.n3 rfl) zA2)))) zA2))))
     (zA6 (zAb (i:=1) nd rfl (Or.inl rfl) (zDd (zA9 (zE2 (K:=K) rfl) rfl T.isinst PyProof.Rows.boot_isinstance (zA0 (pv 3) (zA0 (zBb (v:=.ref C1) rfl R.no.at_ rfl) zA2)))
       (zDd (zA9 (zE2 (K:=K) rfl) rfl T.isinst PyProof.Rows.boot_isinstance (zA0 (pv 3) (zA0 (zBq (v:=.ty "ValueError") rfl R.ve (by decide +kernel) rfl) zA2)))
        (zEi (pe_not (pv 2)))))))))
   (zA6 (zAj (pv 1)))),?_⟩
  refine ⟨fun σ' e C' H'=>C'=C1∧σ'=[some (.ref f),some (.bl false),none,none]∧Same H H',⟨rfl,hc,th _ _ fun e H' _ _ s1=>⟨e,C1,rfl,rfl,rfl,rfl,s1⟩⟩,?_⟩;rintro σ' e C' H' he ⟨rfl,rfl,s0⟩;refine ⟨R.exm,?_⟩;refine ⟨_,rfl,by show 3≤sizeLine;decide,fun t ht=>⟨e,_,t,[CN,C2,C3],false,rfl,(Same.new ht) _ _ he,R.x,zA1,R.oth,?_⟩⟩;have s1:Same H' (upd H' t (.tup [.ref CN,.ref C2,.ref C3])):=Same.new ht;have he1:=s1 _ _ he;generalize upd H' t (.tup [.ref CN,.ref C2,.ref C3])=H1 at s1 he1 ⊢;refine ⟨_,rfl,e,_,_,.ref C',true,rfl,he1,R.x,rfl,R.one,(fun z=>absurd rfl (z C')),_,rfl,iteT ?_⟩;refine ⟨_,rfl,e,_,_,.type "ValueError",true,rfl,he1,R.x,rfl,R.val,(fun _=>⟨_,rfl⟩),_,rfl,iteT ?_⟩;refine ⟨_,rfl,_,rfl,?_⟩;exact ⟨_,rfl,k H1 (s0.trans s1)⟩
end
end L2.W
namespace L2.W
open PySem My
theorem cut_ints (ns:List Int) (lo hi:Option Int):∃ ms:List Int,cutV (ns.map V.int) lo hi=ms.map V.int∧ms.length≤ns.length:=by
 unfold cutV;rw [← List.map_drop,← List.map_take];exact ⟨_,rfl,by rw [Zt,Zv];omega⟩
theorem has_grown {G:Addr→Prop}{H H':Hp}{v:V}{d:PyData}{Pt:Addr}{pos:Pos}{q:Str} (h:Has G H v d) (T:TabOk H Pt pos q) (g:GrownBut Pt H H'):Has G H' v d :=
 h.frameS fun a o ga hs e=>⟨ga,g a o e (T.ne e (by rintro ps rfl;exact hs))⟩
theorem _root_.L2.TabOk.gen {H H':Hp}{P:Addr}{pos:Pos}{q:Str} (T:TabOk H P pos q) (k:∀ b o,H b=some o→b=P∨(∃ f,o=.ext f)→H' b=some o):TabOk H' P pos q:=by
 rcases T with z | ⟨c,z,y⟩
 ·exact .inl (k _ _ z (.inl rfl))
 ·exact .inr ⟨c,k _ _ z (.inl rfl),k _ _ y (.inr ⟨_,rfl⟩)⟩
theorem _root_.L2.TabM.gen {H H':Hp}{P:Addr}{q:Str} (T:TabM H P q) (k:∀ b o,H b=some o→b=P∨(∃ f,o=.ext f)→H' b=some o):TabM H' P q:=by
 obtain ⟨ps,z,t,c⟩:=T.ex;exact ⟨ps,k _ _ z (.inl rfl),t,fun pos v e=>let ⟨a,e1,e2⟩:=c pos v e;⟨a,e1,k _ _ e2 (.inr ⟨_,rfl⟩)⟩⟩
theorem _root_.L2.TabM.tb {H:Hp}{P:Addr}{q:Str} (T:TabM H P q):∃ ps,H P=some (.tbl ps):=let ⟨ps,z,_⟩:=T.ex;⟨ps,z⟩
theorem TabOk.tb {H:Hp}{P:Addr}{pos:Pos}{q:Str} (T:TabOk H P pos q):∃ ps,H P=some (.tbl ps):=by
 rcases T with z | ⟨c,z,_⟩
 ·exact ⟨_,z⟩
 ·exact ⟨_,z⟩
theorem OwnOk.keep {C:Addr}{H H':Hp}{kvs:List (Key×V)}{own:Str→Option (Option Str)} (h:OwnOk C H kvs own) (k:∀ b o,H b=some o→(∃ C dx fs,o=.ins C dx fs)→H' b=some o):OwnOk C H' kvs own:=fun x=>by
 have:=h x;cases e:own x with
 | none=>rw [e] at this;exact this
 | some o =>
  rw [e] at this;obtain ⟨q,dx,lf,h1,h2⟩:=this;exact ⟨q,dx,lf,h1,k _ _ h2 ⟨_,_,_,rfl⟩⟩
theorem paired_imp9 {α β : Type}{R R' : α→β→Prop}{a:List α}{b:List β} (h:Paired R a b) (f:∀ x y,R x y→R' x y):Paired R' a b:=by
 induction h with
 | nil=>exact .nil
 | cons r _ ih=>exact .cons (f _ _ r) ih
theorem CAt.tup {p:Addr}{H H':Hp} (k:∀ b xs,H b=some (.tup xs)→H' b=some (.tup xs)) {ys:List V}{q:List (Str×Nat)} (h:Paired (CAt p H) ys q):Paired (CAt p H') ys q:=by
 induction h with
 | nil=>exact .nil
 | cons r _ ih =>
  obtain ⟨a,ha,rfl,e⟩:=r;exact .cons ⟨a,ha,rfl,k _ _ e⟩ ih
structure In9 (CK C q p l lc kq d Pt Pl:Addr) (ms:List Int) (rs:List Row) (ys:List V) (cs:List (Str×Nat)) (kvs:List (Key×V)) (H:Hp):Prop where
 hp:H p=some (.lst (ms.map V.int))
 pq:p≠q
 hq:∃ xs,H q=some (.lst xs)
 hl:Has (fun a=>a≠q) H (.ref l) (.list (rs.map rowD))
 hc:H lc=some (.lst ys)
 cq:lc≠q
 hy:Paired (CAt q H) ys cs
 ka:KindsAt CK H kq d kvs
 ow:OwnOk C H kvs (ownA rs)
 hT:TabOk H Pt lamPos lamQ
 hM:TabM H Pl lawQ
section
variable {CK C q p l lc kq d Pt Pl:Addr}{ms:List Int}{rs:List Row}{ys:List V}{cs:List (Str×Nat)}{kvs:List (Key×V)}{H H':Hp}
theorem In9.stepQ (k:In9 CK C q p l lc kq d Pt Pl ms rs ys cs kvs H) (g:∀ b o,H b=some o→b≠q→H' b=some o) (hq:∃ xs,H' q=some (.lst xs)):In9 CK C q p l lc kq d Pt Pl ms rs ys cs kvs H':=by
 obtain ⟨xs,eq⟩:=k.hq;have no:∀ {b:Addr}{o:HO},H b=some o→(∀ xs,o≠.lst xs)→b≠q:=fun {b o} e h z=>by rw [z,eq] at e;exact h _ (Zi e).symm
 exact ⟨g _ _ k.hp k.pq,k.pq,hq,k.hl.frame fun b o ga e=>⟨ga,g b o e ga⟩,g _ _ k.hc k.cq,k.cq,CAt.mv g k.hy,k.ka.mono fun b o e hs=>g b o e (no e (by rcases hs with ⟨_,_,_,rfl⟩ | ⟨_,rfl⟩ | ⟨_,_,rfl⟩ <;> exact fun _ z=>nomatch z)),k.ow.keep fun b o e ⟨_,_,_,eo⟩=>g b o e (no e (by rw [eo];exact fun _ z=>nomatch z)),
  k.hT.but eq (fun _ z=>nomatch z) (fun _ z=>nomatch z) g,k.hM.gen fun b o e h=>g b o e (by
   rcases h with h | ⟨f,h⟩
   ·obtain ⟨ps,ep⟩:=k.hM.tb;rw [h];exact no ep fun _ z=>nomatch z
   ·exact no e (by rw [h];exact fun _ z=>nomatch z))⟩
theorem In9.same (k:In9 CK C q p l lc kq d Pt Pl ms rs ys cs kvs H) (s:Same H H'):In9 CK C q p l lc kq d Pt Pl ms rs ys cs kvs H':=k.stepQ (fun b o e _=>s _ _ e) (let ⟨xs,e⟩:=k.hq;⟨xs,s _ _ e⟩)
theorem In9.lam (k:In9 CK C q p l lc kq d Pt Pl ms rs ys cs kvs H) (ne:Pl≠Pt) (g:GrownBut Pl H H') (M:TabM H' Pl lawQ):In9 CK C q p l lc kq d Pt Pl ms rs ys cs kvs H':=by
 obtain ⟨xs,eq⟩:=k.hq;have no:∀ {b:Addr}{o:HO},H b=some o→(∀ ps,o≠.tbl ps)→b≠Pl:=fun e h=>k.hM.ne e h;refine ⟨g _ _ k.hp (no k.hp fun _ z=>nomatch z),k.pq,⟨xs,g _ _ eq (no eq fun _ z=>nomatch z)⟩,k.hl.frameS fun a o ga hs e=>⟨ga,g a o e (no e (by rintro _ rfl;exact hs))⟩,g _ _ k.hc (no k.hc fun _ z=>nomatch z),k.cq,?_,k.ka.mono fun b o e hs=>g b o e (no e (by rcases hs with ⟨_,_,_,rfl⟩ | ⟨_,rfl⟩ | ⟨_,_,rfl⟩ <;> exact fun _ z=>nomatch z)),k.ow.keep fun b o e ⟨_,_,_,eo⟩=>g b o e (no e (by rw [eo];exact fun _ z=>nomatch z)),?_,M⟩
 ·exact CAt.tup (fun b xs e=>g _ _ e (no e fun _ z=>nomatch z)) k.hy
 ·obtain ⟨pl,el⟩:=k.hM.tb
  exact k.hT.gen fun b o e h=>g b o e (by
   rintro rfl;rcases h with h | ⟨f,h⟩
   ·exact ne h
   ·rw [el] at e;cases e;cases h)
theorem zEy {G:Addr→Prop}{v:V}{d:PyData} (h:Has G H v d) (M:TabM H Pl lawQ) (g:GrownBut Pl H H'):Has G H' v d:=h.frameS fun a o ga hs e=>⟨ga,g a o e (M.ne e (by rintro ps rfl;exact hs))⟩
theorem src_lam {j:Int} (S:Src H q j) (M:TabM H Pl lawQ) (g:GrownBut Pl H H'):Src H' q j:=S.look fun o e=>by
 obtain ⟨a',c',j',e',_⟩:=S;rw [e'] at e;cases e;exact g _ _ e' (M.ne e' fun _ z=>nomatch z)
end
noncomputable def spLaw9 (K:PySem.W.Frag) (Pt Pl:Addr):Sp:=fun vs H Q _=>∃ (a:Addr) (ns:List Int),vs=[.ref a]∧SqL K H a (ns.map V.int)∧ns.length≤63∧TabOk H Pt lamPos lamQ∧TabM H Pl lawQ∧Pl≠Pt∧∀ H',Q (.bl true) H'
structure All9 (K:PySem.W.Frag) (mg:Str→Option Value) (base:Heap) (fN fW fU fP fF fC fI C fA fp c Pt CK fIk fOr fOf fOw fWn fHf fPo fNo fm fd fn fg fa fl fS fT fM fR fCh fTx fSl fB fB3 cL Pl C1 CR CN C2 C3:Addr) (dN dW dU dP dF dC dI dA dp dIk dOf dWn dHf dPo dNo dm dd dn dg da dl dS dT dM dR dCh dTx dSl dB dB3:FuncData) (dV:Value):Prop where
 T:Tops K mg
 N:Def K mg "is_name" sIsName ["thing"] fN dN
 W:Def K mg "is_whole" sIsWhole ["thing"] fW dW
 U:Def K mg "are_unlike_names" sUnlike ["things"] fU dU
 P:Def K mg "is_pair_with_values" sPair ["thing"] fP dP
 F:Def K mg "are_fields" sFields ["things"] fF dF
 Ct:Def K mg "count_states" sCount ["fields"] fC dC
 I:FunD K "__init__" "Kind.__init__" sInit dV fI dI
 KC:KCls K mg C fI
 KI:KIsi K C
 bK:Binds K dI ["self", "name", "fields", "owner"] []
 A:Def K mg "are_kinds" sAreKinds ["things"] fA dA
 p:FunL K "placed_by_owners" "placed_by_owners" sPlaced fp dp c
 pa:mg "placed_by_owners" = some (.ref fp)
 pb:Binds K dp ["kinds"] []
 LT:LamTxt K mg base c Pt
 Ik:Fun K "__init__" "Kinds.__init__" sInitKs fIk dIk
 bIk:Binds K dIk ["self", "kinds"] []
 Of:Fun K "of" "Kinds.of" sOf fOf dOf
 bOf:Binds K dOf ["self", "name"] []
 KS:KsCls K mg CK fIk fOr fOf fOw
 Wn:Def K mg "is_written_number" sWritten ["text", "most_figures"] fWn dWn
 Hf:Def K mg "has_form" sHasForm ["thing"] fHf dHf
 Po:Def K mg "parts_of" sPartsOf ["kinds", "name"] fPo dPo
 No:Def K mg "name_of" sNameOf ["kinds", "kind", "owner", "number"] fNo dNo
 m:Def K mg "_law_mixed" sMixed ["_law_cell", "_law_k"] fm dm
 d:Def K mg "_law_digits" sDigits ["_law_cell"] fd dd
 n:Def K mg "_law_next" sNext ["_law_source", "_law_many"] fn dn
 g:Def K mg "_law_sign" sSign ["_law_sign_here", "_law_turn"] fg dg
 a:Def K mg "_law_names" sNames ["_law_source", "_law_many"] fa da
 l:Def K mg "_law_fields" sLFields ["_law_source"] fl dl
 S:Def K mg "_law_specs" sSpecs ["_law_source"] fS dS
 Tu:Def K mg "_law_turned" sTurned ["_law_source", "_law_things"] fT dT
 M:Def K mg "_law_made" sMade ["_law_specs_here"] fM dM
 R:Def K mg "_law_refused" sRefused ["_law_asked"] fR dR
 Ch:Def K mg "_law_chain" sChain ["_law_source", "_law_specs_here"] fCh dCh
 Tx:Def K mg "_law_text" sText ["_law_chain_here"] fTx dTx
 Sl:Def K mg "_law_spoilt" sSpoilt ["_law_source", "_law_chain_here"] fSl dSl
 B:Def K mg "_law_bad" sBad ["_law_source", "_law_specs_here", "_law_kind", "_law_chain_here"] fB dB
 B3:Def K mg "_law_bad_three" sBadThree ["_law_source", "_law_kind", "_law_chain_here"] fB3 dB3
 LL:LamTxt K mg base cL Pl
 rf:Refs K mg C1 CR CN C2 C3
section
variable {P:Program}{w:World}{K:PySem.W.Frag}{mg:Str→Option Value}{base:Heap}
noncomputable abbrev nL9:List Str:=["_law_script", "_law_cell", "_law_source", "_law_specs_here", "_law_kinds", "_law_kind", "_law_chain_here", "_law_turn", "_law_bad_here", "_law_one", "_law_owner", "_law_number"]
theorem scL9:FnScope nL9 ["_law_script"] (defScope sLaw):=⟨rfl,rfl,rfl,by decide +kernel,rfl,by decide +kernel,by decide +kernel⟩
theorem cell1:∀ z∈lamN1,(defScope sLaw).names.lookup z=some .cell:=by decide +kernel
theorem cell2:∀ z∈lamN2,(defScope sLaw).names.lookup z=some .cell:=by decide +kernel
theorem free1:∀ z,(lamS lam1).names.lookup z=some .free→z∈lamN1:=fun z h=>(by decide +kernel:∀ p∈(lamS lam1).names,p.2=.free→p.1∈lamN1) (z,.free) (PySem.mem_of_lookup h) rfl
theorem free2:∀ z,(lamS lam2).names.lookup z=some .free→z∈lamN2:=fun z h=>(by decide +kernel:∀ p∈(lamS lam2).names,p.2=.free→p.1∈lamN2) (z,.free) (PySem.mem_of_lookup h) rfl
theorem in1:∀ z∈(["_law_kinds", "_law_bad_here"]:List Str),z∈lamN1:=by decide +kernel
theorem in2:∀ z∈(["_law_owner", "_law_one", "_law_number", "_law_kinds"]:List Str),z∈lamN2:=by decide +kernel
set_option maxHeartbeats 4000000 in
theorem ok_law9 {f fN fW fU fP fF fC fI C fA fp c Pt CK fIk fOr fOf fOw fWn fHf fPo fNo fm fd fn fg fa fl fS fT fM fR fCh fTx fSl fB fB3 cL Pl C1 CR CN C2 C3:Addr}{fdl dN dW dU dP dF dC dI dA dp dIk dOf dWn dHf dPo dNo dm dd dn dg da dl dS dT dM dR dCh dTx dSl dB dB3:FuncData}{dV:Value} (F:FunL K "law" "law" sLaw f fdl cL)
  (A:All9 K mg base fN fW fU fP fF fC fI C fA fp c Pt CK fIk fOr fOf fOw fWn fHf fPo fNo fm fd fn fg fa fl fS fT fM fR fCh fTx fSl fB fB3 cL Pl C1 CR CN C2 C3 dN dW dU dP dF dC dI dA dp dIk dOf dWn dHf dPo dNo dm dd dn dg da dl dS dT dM dR dCh dTx dSl dB dB3 dV) :
  FnOk P w K mg base (CXM P w) 8 f fdl ["_law_script"] (spLaw9 K Pt Pl):=by
 have T:=A.T;have hC:Calm (CXM P w):=calmM;have GD:FnOk P w K mg base (CXM P w) 1 fd dd ["_law_cell"] spDigits:=ok_digits A.d.fn;have GS:FnOk P w K mg base (CXM P w) 5 fS dS ["_law_source"] spSpecs:=ok_specs hC T A.S.fn A.m A.n A.g A.a A.l;have GT:FnOk P w K mg base (CXM P w) 3 fT dT ["_law_source", "_law_things"] (spTurned K):=ok_turned hC T A.Tu.fn A.m A.n;have GK:FnOk P w K mg base (CXM P w) 5 fI dI ["self", "name", "fields", "owner"] (spInit C):=ok_init hC T A.I A.KC A.N A.U A.P A.F A.Ct;have GI:FnOk P w K mg base (CXM P w) 5 fIk dIk ["self", "kinds"] (spInitKs CK C Pt):=ok_initKs hC T A.KC A.KI A.KS A.LT A.Ik A.N A.U A.A A.p A.pa A.pb;have GM:FnOk P w K mg base (CXM P w) 7 fM dM ["_law_specs_here"] (spMade CK C Pt):=ok_made hC T A.KC A.KS GK A.bK GI A.bIk A.M.fn;have GC:FnOk P w K mg base (CXM P w) 3 fCh dCh ["_law_source", "_law_specs_here"] spChain:=ok_chain hC T A.Ch.fn A.m A.n;have GX:FnOk P w K mg base (CXM P w) 1 fTx dTx ["_law_chain_here"] spText:=zGd T A.Tx.fn;have GB:FnOk P w K mg base (CXM P w) 4 fB dB ["_law_source", "_law_specs_here", "_law_kind", "_law_chain_here"] spBad:=ok_bad hC T A.B.fn A.m A.n A.Tx A.Sl;have G3:FnOk P w K mg base (CXM P w) 3 fB3 dB3 ["_law_source", "_law_kind", "_law_chain_here"] spThree:=ok_three hC T A.B3.fn A.m A.n A.Tx;have GP:FnOk P w K mg base (CXM P w) 3 fPo dPo ["kinds", "name"] (spParts CK C):=ok_parts hC T A.KC A.KS A.Po.fn A.N A.Wn A.Hf A.Of A.bOf;have NP:FnOk P w K mg base (CXM P w) 3 fPo dPo ["kinds", "name"] (spPartsNo CK C C1):=ok_partsNo T A.rf.no A.KC A.KS A.Po.fn A.N A.Wn A.Hf A.Of A.bOf;have NN:FnOk P w K mg base (CXM P w) 4 fNo dNo ["kinds", "kind", "owner", "number"] (spNameNo K CK C C1):=ok_nameNo T A.rf.no A.KC A.KS A.No.fn A.N A.W A.Po GP NP A.Of A.bOf;have GW1:∀ f c' cl ws,FnOkS (LamAt f c' lawQ (lamP lam1) (lamB lam1) (lamS lam1) cl lamN1 ws) P w K mg base (CXM P w) 6 fR dR ["_law_asked"] (spRefL C1 lawQ (fun ws H Q E=>spPartsNo CK C C1 ws H Q E) f c' cl ws):=fun f c' cl ws=>zFn T A.rf A.R.fn ((ok_lam1 A.Po NP).mono (by decide));have GW2:∀ f c' cl ws,FnOkS (LamAt f c' lawQ (lamP lam2) (lamB lam2) (lamS lam2) cl lamN2 ws) P w K mg base (CXM P w) 6 fR dR ["_law_asked"] (spRefL C1 lawQ (fun ws H Q E=>spNameNo K CK C C1 ws H Q E) f c' cl ws):=fun f c' cl ws=>zFn T A.rf A.R.fn (ok_lam2 A.No NN);refine FunL.okC F scL9 (fun vs H Q E h=>?_) (fun Ar outer s H vs Q E hr h=>?_)
 ·obtain ⟨a,ns,rfl,_⟩:=h;rfl
 ·obtain ⟨a,ns,rfl,hS,hlen,hT,hM,hne,k⟩:=h;have hr1:=hr.mono (show 1≤7 by decide);have hr3:=hr.mono (show 3≤7 by decide);have hr4:=hr.mono (show 4≤7 by decide);have hr5:=hr.mono (show 5≤7 by decide);have hr6:=hr.mono (show 6≤7 by decide);have nd:=scL9.nd
  refine ⟨_,zA3 (zDa PassesOwn.never rfl (zAn (zAz zBp (pv 0) zBf (zB9 zA4))) (zAc (i:=1) nd rfl (Or.inl rfl))
     (zA3 (zAb (i:=2) nd rfl (Or.inl rfl) (zA7 GD hr1 rfl A.d.at_ A.d.fn.kp A.d.bind .nil (passC hC) (zA0 (pv 1) zA2)))
     (zA3 (zAb (i:=3) nd rfl (Or.inl rfl) (zA7 GS hr5 rfl A.S.at_ A.S.fn.kp A.S.bind .nil (passC hC) (zA0 (pv 2) zA2)))
     (zA3 (zAb (i:=4) nd rfl (Or.inr rfl) (zA7 GM hr rfl A.M.at_ A.M.fn.kp A.M.bind .nil (passC hC) (zA0 (zA7 GT hr3 rfl A.Tu.at_ A.Tu.fn.kp A.Tu.bind .nil (passC hC) (zA0 (pv 2) (zA0 (pv 3) zA2))) zA2)))
     (zA3 (zEg (zA7 GC hr3 rfl A.Ch.at_ A.Ch.fn.kp A.Ch.bind .nil (passC hC) (zA0 (pv 2) (zA0 (pv 3) zA2))) (zDz rfl (zAm (zAc (i:=5) nd rfl (Or.inl rfl)) (zAm (zAc (i:=6) nd rfl (Or.inl rfl)) zC1))))
     (zA3 (zDa PassesOwn.never rfl (zDc rfl T.range (zA0 zA4 zA2)) (zAc (i:=7) nd rfl (Or.inl rfl))
     (zA3 (zAb (i:=8) nd rfl (Or.inr rfl) (zA7 GB hr4 rfl A.B.at_ A.B.fn.kp A.B.bind .nil (passC hC) (zA0 (pv 2) (zA0 (pv 3) (zA0 (pv 5) (zA0 (pv 6) zA2))))))
     (zA3 (zEg (zA7 G3 hr3 rfl A.B3.at_ A.B3.fn.kp A.B3.bind .nil (passC hC) (zA0 (pv 2) (zA0 (pv 5) (zA0 (pv 6) zA2)))) (zDz rfl (zAm (zAc (i:=9) nd rfl (Or.inr rfl)) (zAm (zAc (i:=10) nd rfl (Or.inr rfl)) (zAm (zAc (i:=11) nd rfl (Or.inr rfl)) zC1)))))
     (zA3 (zAw (zB0 (zB2 (zG5 (ix:=[4,8]) GW1 hr6 rfl A.R.at_ A.R.fn.kp A.R.bind (passC hC) A.LL rfl rfl rfl rfl rfl cell1 free1 in1 (by intro z hz;simp only [Zj,Zf,or_false] at hz;rcases hz with rfl | rfl <;> rfl))))
     (zA6 (zAj zBj)) zAg)
     (zA6 (zAw (zB0 (zB2 (zG5 (ix:=[4,9,10,11]) GW2 hr6 rfl A.R.at_ A.R.fn.kp A.R.bind (passC hC) A.LL rfl rfl rfl rfl rfl cell2 free2 in2 (by intro z hz;simp only [Zj,Zf,or_false] at hz;rcases hz with rfl | rfl | rfl | rfl <;> rfl))))
     (zA6 (zAj zBj)) zAg))))))
     (zA6 (zAw (zAp op_ne (zAs zBr (zA7 GP hr3 rfl A.Po.at_ A.Po.fn.kp A.Po.bind .nil (passC hC) (zA0 (pv 4) (zA0 (zA7 GX hr1 rfl A.Tx.at_ A.Tx.fn.kp A.Tx.bind .nil (passC hC) (zA0 (pv 6) zA2)) zA2))) zA4 (fun _ _=>rfl)) (zAs zBr (zAs zAk (pv 6) (zDo zCg zA4) (fun _ _=>rfl)) zA4 (fun _ _=>rfl)) (nomark _))
     (zA6 (zAj zBj)) zAg))))))))
     (zA6 (zAj zBj)),?_⟩
  have small:∀ n:Nat,n≤1000→n≤sizeLine:=fun n h=>Zl (small1000 h);obtain ⟨ms,ems,hms⟩:=cut_ints ns none (some 30);refine ⟨_,rfl,_,rfl,a,_,rfl,hS,fun p hp=>?_⟩;rw [ems]
  refine ⟨p,rfl,⟨_,SqL.of zA1⟩,zDh (K:=K) (a:=p) (xs:=ms.map V.int) (fun i σ H2=>∃ u1 u2 u3 u4 u5 u6 u7 u8 u9 u10 u11:Option V,σ = [some (.ref a),u1,u2,u3,u4,u5,u6,u7,u8,u9,u10,u11]∧H2 p=some (.lst (ms.map V.int))∧TabOk H2 Pt lamPos lamQ∧TabM H2 Pl lawQ)
   ⟨none,none,none,none,none,none,none,none,none,none,none,rfl,zA1,hT.same (Same.new hp),hM.same (Same.new hp)⟩ (fun i σ H2 _ hz=>by obtain ⟨_,_,_,_,_,_,_,_,_,_,_,_,q,_⟩:=hz;exact SqL.of q) ?_ ?_⟩
  ·rintro i y σ H2 hi ⟨u1,u2,u3,u4,u5,u6,u7,u8,u9,u10,u11,rfl,hp2,hT2,hM2⟩;obtain ⟨z,rfl⟩:∃ z,y=V.int z:=by
    rw [Za] at hi;cases e:ms[i]? with
    | none=>rw [e] at hi;cases hi
    | some z=>rw [e] at hi;exact ⟨z,(Zi hi).symm⟩
   refine ⟨_,rfl,z,rfl,fun q H3 hq S3 s3 k3=>?_⟩;have pq:p≠q:=zA5 hp2 hq;have fq:∀ {b:Addr},H3 b=none→b≠q:=fun {b} h=>by obtain ⟨_,_,_,e,_⟩:=S3;exact (zA5 e h).symm
   have mq:∀ {Hx Hy:Hp}{j:Int},Src Hx q j→TabM Hx Pl lawQ→(∀ b o,Hx b=some o→b≠q→Hy b=some o)→TabM Hy Pl lawQ:=fun {Hx Hy j} S M g=>M.gen fun b o e h=>g b o e (by
    obtain ⟨_,_,_,eq,_⟩:=S;rcases h with h | ⟨f,h⟩
    ·obtain ⟨ps,ep⟩:=M.tb;rw [h];rintro rfl;rw [eq] at ep;cases ep
    ·rintro rfl;rw [eq,h] at e
     cases e)
   have hT3:=hT2.same s3;have hM3:=hM2.same s3;refine ⟨_,rfl,q,0,rfl,S3,by decide,fun l rs H4 ok hd4 S4 k4=>?_⟩;have hp4:H4 p=some (.lst (ms.map V.int)):=k4 _ _ (s3 _ _ hp2) pq;have hT4:TabOk H4 Pt lamPos lamQ:=by
    obtain ⟨_,_,_,e,_⟩:=S3;exact hT3.but e (fun _ z=>nomatch z) (fun _ z=>nomatch z) k4
   have hM4:=mq S3 hM3 k4;have hd4':Has (fun a=>a≠q) H4 (.ref l) (.list (rs.map rowD)):=hd4.frame fun b o g e=>⟨fq g,e⟩;have r5:=ok.le;have r0:=ok.ne;obtain ⟨l',xs,e,gl,hl4,hz4,hx4⟩:=id hd4'.list_inv;cases e;have xl:xs.length=rs.length:=by rw [hx4.length,Z0]
   refine ⟨_,rfl,_,rfl,q,l,xs,_,rfl,SqL.of hl4,gl,S4,by omega,by omega,by omega,fun r tb bb H7 hr7 fr7 S7 k7=>?_⟩;have hd7r:Has Any H7 (.ref r) (.list ((turnL tb bb rs).map rowD)):=by
    refine .lst trivial hr7 (by rw [turnL_len];omega) ?_;rw [← turnL_map];exact hasAll_turn tb bb (hx4.frame fun b o g e=>⟨trivial,k7 _ _ e g⟩)
   have hp7:=k7 _ _ hp4 pq;have hd7:Has (fun a=>a≠q) H7 (.ref l) (.list (rs.map rowD)):=hd4'.frame fun b o g e=>⟨g,k7 _ _ e g⟩;have hT7:TabOk H7 Pt lamPos lamQ:=by
    obtain ⟨_,_,_,e,_⟩:=S4;exact hT4.but e (fun _ z=>nomatch z) (fun _ z=>nomatch z) k7
   have hM7:=mq S4 hM4 k7;have rp:RowsP (turnL tb bb rs):=⟨rs,ok,zCt tb bb rs⟩;refine ⟨r,turnL tb bb rs,rfl,hd7r,rp,hT7,fun kq d ord kvs zs H8 KX fk8 fd8 ZX hzs hpl gro lno TX gG=>?_⟩;have hpX:=gG _ _ hp7 (hT7.ne hp7 fun _ z=>nomatch z);have hdX:=has_grown hd7 hT7 gG;have hM8:TabM H8 Pl lawQ:=hM7.but hne (TabOk.tb hT7) gG;have S8:Src H8 q 302:=by
    obtain ⟨a',c',j',e,r⟩:=S7;exact ⟨a',c',j',gG _ _ e (hT7.ne e fun _ z=>nomatch z),r.1,by omega⟩
   have gro':=gro.perm (zCt tb bb rs);have memo:∀ n:Str,n∈ord ↔ n∈rs.map (·.name):=fun n=>by
    constructor
    ·intro hx;obtain ⟨r',m',e⟩:=gro'.mem hx;exact List.mem_map.mpr ⟨r',m',e⟩
    ·intro hx;refine Classical.byContradiction fun hno=>?_;have:=zFy (a:=n :: ord) (b:=rs.map (·.name)) (List.nodup_cons.mpr ⟨hno,gro'.nodup⟩) fun x hx'=>by
      rcases List.mem_cons.mp hx' with e | hx'
      ·rw [e];exact hx
      ·obtain ⟨r',m',e⟩:=gro'.mem hx';exact List.mem_map.mpr ⟨r',m',e⟩
     rw [Ze,Z0,lno,turnL_len] at this;omega
   have kof:∀ rr∈rs,KOf C H8 kvs rr.name rr.owner:=fun rr hm=>by
    obtain ⟨q0,hq0,hv0,en0⟩:=hpl.get rr.name ((memo _).mpr (List.mem_map.mpr ⟨rr,hm,rfl⟩));have mz:q0.2∈turnL tb bb rs:=by rw [← hzs];exact List.mem_map.mpr ⟨q0,hq0,rfl⟩
    have e2:q0.2=rr:=ok.one ((zCt tb bb rs).mem_iff.mp mz) hm en0;obtain ⟨dx0,lf0,e0⟩:=ZX.at_ q0 hq0;rw [e2] at e0;exact ⟨q0.1,dx0,lf0,hv0,e0⟩
   have oo:OwnOk C H8 kvs (ownA rs):=fun x=>by
    cases e:ownA rs x with
    | some o =>
     obtain ⟨r,hr,rfl,rfl⟩:=zCk e;exact kof r hr
    | none =>
     have no:x∉ord:=fun hx=>by
      obtain ⟨r,hr,rfl⟩:=List.mem_map.mp ((memo x).mp hx);rw [zEm ok hr] at e;cases e
     have:=hpl.val x;rw [decide_eq_false no] at this;show valV kvs (Sum.inr x)=none;cases z:valV kvs (Sum.inr x) with
     | none=>rfl
     | some u=>rw [z] at this;cases this
   have oq:ownA rs "qq" = none:=by
    cases e:ownA rs "qq" with
    | none=>rfl
    | some o =>
     obtain ⟨r,hr,en,_⟩:=zCk e;exact absurd en (ok.nq r hr)
   have ns':∀ k,ownA rs k≠some (some k):=fun k hk=>by
    obtain ⟨r,hr,en,eo⟩:=zCk hk;obtain ⟨i,hi,ei⟩:=Y1 hr;obtain ⟨j,r',lt,ej,en'⟩:=ok.own i r k (by rw [Z1 hi,ei]) eo;have hj:=(List.getElem?_eq_some_iff.mp ej).1;have ne:=List.pairwise_iff_getElem.mp ok.nd j i (by rw [Z0];exact hj) (by rw [Z0];exact hi) lt;rw [List.getElem_map,List.getElem_map,ei,(List.getElem?_eq_some_iff.mp ej).2] at ne;exact ne (by rw [en',en])
   obtain ⟨⟨dxk,hkq⟩,rdk⟩:=KX;refine ⟨_,rfl,_,rfl,q,l,rs,_,rfl,S8,by decide,hdX,ok,fun t lc ys q0 kd n H9 ft fl9 et9 elc9 hys9 pok9 le9 ch9 S9 k9=>?_⟩;have q8:∃ xs,H8 q=some (.lst xs):=by obtain ⟨_,_,_,e,_⟩:=S8;exact ⟨_,e⟩
   have q9:∃ xs,H9 q=some (.lst xs):=by obtain ⟨_,_,_,e,_⟩:=S9;exact ⟨_,e⟩
   have n8:∀ {b:Addr},H8 b=none→b≠q:=fun {b} h=>S8.nw h;have cp:CPath (ownA rs) (q0++[(kd,n)]):=⟨pok9,le9,ch9⟩;have in9:In9 CK C q p l lc kq d Pt Pl ms rs ys (q0++[(kd,n)]) kvs H9:=by
    obtain ⟨xs8,e8⟩:=q8;have no:∀ {b:Addr}{o:HO},H8 b=some o→(∀ xs,o≠.lst xs)→b≠q:=fun {b o} e h z=>by rw [z,e8] at e;exact h _ (Zi e).symm
    exact ⟨k9 _ _ hpX pq,pq,q9,hdX.frame fun b o g e=>⟨g,k9 _ _ e g⟩,elc9,n8 fl9,paired_imp9 hys9 fun v x ⟨a,ha,e1,e2⟩=>⟨a,n8 ha,e1,e2⟩,KindsAt.mono ⟨⟨dxk,hkq⟩,rdk⟩ fun b o e hs=>k9 b o e (no e (by rcases hs with ⟨_,_,_,rfl⟩ | ⟨_,rfl⟩ | ⟨_,_,rfl⟩ <;> exact fun _ z=>nomatch z)),oo.keep fun b o e ⟨_,_,_,eo⟩=>k9 b o e (no e (by rw [eo];exact fun _ z=>nomatch z)),
     TX.but e8 (fun _ z=>nomatch z) (fun _ z=>nomatch z) k9,mq S8 hM8 k9⟩
   refine ⟨t,_,rfl,SqT.of et9,rfl,_,_,rfl,_,_,rfl,rfl,?_⟩;dsimp only [gName,List.set];refine ⟨4,rfl,by decide,by decide,for_range (n:=4) (fun i σ H'=>∃ x7 x8 x9 x10 x11:Option V,σ = [some (.ref a),some (.int z),some (.ref q),some (.ref l),some (.ref kq),some (.str kd),some (.ref lc),x7,x8,x9,x10,x11]∧Src H' q (400 + 20 * (i:Int))∧In9 CK C q p l lc kq d Pt Pl ms rs ys (q0++[(kd,n)]) kvs H') ⟨_,_,_,_,_,rfl,S9.mono (by omega),in9⟩ ?_ ?_⟩
   ·rintro i σ H10 hi4 ⟨x7,x8,x9,x10,x11,rfl,S10,in10⟩;refine ⟨_,rfl,_,rfl,_,rfl,_,rfl,q,l,lc,rs,ys,q0,kd,n,_,rfl,S10,by omega,in10.hl,ok,in10.cq,in10.hc,in10.hy,cp,oq,ns',fun v dv H11 hv bad S11 k11=>?_⟩;have sq:∀ {Hx:Hp}{j:Int},Src Hx q j→∃ xs,Hx q=some (.lst xs):=fun S=>by obtain ⟨_,_,_,e,_⟩:=S;exact ⟨_,e⟩
    have in11:=in10.stepQ k11 (sq S11);have hv':Has (fun a=>a≠q) H11 v dv:=hv.frame fun b o g e=>⟨S10.nw g,e⟩;refine ⟨_,rfl,_,rfl,_,rfl,q,lc,ys,q0,kd,n,ownA rs,_,rfl,S11,by omega,in11.cq,in11.hc,in11.hy,cp,oq,ns',fun t3 vk vo vn dk do_ dn H12 ft3 et3 hk hO hn no3 S12 k12=>?_⟩;have in12:=in11.stepQ k12 (sq S12);have hv12:Has (fun a=>a≠q) H12 v dv:=hv'.frame fun b o g e=>⟨g,k12 _ _ e g⟩;refine ⟨t3,_,rfl,SqT.of et3,rfl,_,_,rfl,_,_,rfl,_,_,rfl,rfl,?_⟩;dsimp only [gName,List.set];refine ⟨[.ref kq,v],rfl,in12.hM,fun f1 c1 cl1 H13 M13 g13 hc13 fr13=>⟨rfl,fr13,hc13,fun Q' E' rf'=>?_,fun H14 s14=>⟨_,rfl,iteF ?_⟩⟩⟩
    ·have in13:=in12.lam hne g13 M13;exact ⟨kq,d,kvs,ownA rs,v,dv,rfl,in13.ka,in13.ow,(zEy hv12 in12.hM g13).any,bad,rf'⟩
    have in14:=(in12.lam hne g13 M13).same s14;have mv:∀ {x:V}{dx:PyData},Has (fun a=>H11 a=none) H12 x dx→Has Any H14 x dx:=fun h=>((zEy h in12.hM g13).mono s14).any;refine ⟨[.ref kq,vk,vo,vn],rfl,in14.hM,fun f2 c2 cl2 H15 M15 g15 hc15 fr15=>⟨rfl,fr15,hc15,fun Q' E' rf'=>?_,fun H16 s16=>⟨_,rfl,iteF ?_⟩⟩⟩
    ·have in15:=in14.lam hne g15 M15;exact ⟨kq,d,kvs,ownA rs,vk,vo,vn,dk,do_,dn,rfl,in15.ka,in15.ow,zEy (mv hk) in14.hM g15,zEy (mv hO) in14.hM g15,zEy (mv hn) in14.hM g15,no3,rf'⟩
    have S14:=(src_lam S12 in12.hM g13).up s14;exact ⟨_,_,_,_,_,rfl,((src_lam S14 in14.hM g15).up s16).mono (by push_cast;omega),(in14.lam hne g15 M15).same s16⟩
   ·rintro σ H10 ⟨x7,x8,x9,x10,x11,rfl,S10,in10⟩;have il:(itsP (q0++[(kd,n)])).length≤10:=by unfold itsP;rw [Z0];omega
    have yl:ys.length=(q0++[(kd,n)]).length:=Paired.length in10.hy;have lq1:(q0++[(kd,n)]).length=q0.length + 1:=by simp
    have oks:∀ x∈q0++[(kd,n)],nameOk x.1∧x.2≤999999:=pok9.ok;obtain ⟨vl,evl⟩:∃ y,ys[q0.length]? = some y:=⟨_,Z1 (by omega)⟩;obtain ⟨x9',ex9,tl,ntl,rfl,htl⟩:=zBk in10.hy evl;have ex9':x9'=(kd,n):=by
     rw [Zw (Z5 _)] at ex9
     simpa using ex9.symm
    rw [ex9'] at htl;have at1:atI ys (-1)=some (.ref tl):=by
     unfold atI ixN;rw [if_neg (by decide),if_pos (by omega),show ((-1:Int) + (ys.length:Int)).toNat=q0.length by omega];exact evl
    refine ⟨_,rfl,_,rfl,lc,ys,itsP (q0++[(kd,n)]),rfl,in10.hc,CAt.it (fun b o e _=>e) in10.hy,il,fun x hx=>(zCe oks x hx).1,fun H11 s11=>?_⟩;rw [zBy (by simp)];have in11:=in10.same s11;refine ⟨kq,d,kvs,q0,kd,n,rfl,in11.ka,pok9,ch9.imp fun k o h=>in11.ow.yes h,fun t' H12 ft' et' s12=>?_⟩;have in12:=in11.same s12;refine ⟨t',_,2,_,rfl,rfl,SqT.of et',rfl,_,rfl,_,rfl,lc,ys,-1,_,rfl,rfl,SqL.of in12.hc,at1,tl,_,1,_,rfl,rfl,SqT.of ((s11.trans s12) _ _ htl),rfl,rfl,_,rfl,?_⟩;rw [decide_eq_true rfl];exact iteF ⟨_,_,_,_,_,_,_,_,_,_,_,rfl,in12.hp,in12.hT,in12.hM⟩
  ·rintro σ H2 ⟨u1,u2,u3,u4,u5,u6,u7,u8,u9,u10,u11,rfl,hp2,hT2,hM2⟩;exact k _
end
end L2.W
namespace L2.W
open PySem My
theorem len1 {α : Type}{us:List α} (h:us.length=1):∃ a,us=[a]:=List.length_eq_one_iff.mp h
theorem len2 {α : Type}{us:List α} (h:us.length=2):∃ a0 a1,us=[a0,a1]:=by
 cases us with
 | nil=>cases h
 | cons a0 r=>obtain ⟨a1,rfl⟩:=len1 (show r.length=1 from Nat.succ.inj h);exact ⟨a0,a1,rfl⟩
theorem len3 {α : Type}{us:List α} (h:us.length=3):∃ a0 a1 a2,us=[a0,a1,a2]:=by
 cases us with
 | nil=>cases h
 | cons a0 r=>obtain ⟨a1,a2,rfl⟩:=len2 (show r.length=2 from Nat.succ.inj h);exact ⟨a0,a1,a2,rfl⟩
theorem len4 {α : Type}{us:List α} (h:us.length=4):∃ a0 a1 a2 a3,us=[a0,a1,a2,a3]:=by
 cases us with
 | nil=>cases h
 | cons a0 r=>obtain ⟨a1,a2,a3,rfl⟩:=len3 (show r.length=3 from Nat.succ.inj h);exact ⟨a0,a1,a2,a3,rfl⟩
structure DL (K:PySem.W.Frag) (x:Str) (st:Stmt) (f:Addr) (fd:FuncData):Prop where
 a:PySem.W.nsIn K mainGlobals x=some (some (.ref f))
 F:Fun K x x st f fd
structure ML (K:PySem.W.Frag) (C:Addr) (x q:Str) (st:Stmt) (f:Addr) (fd:FuncData):Prop where
 a:PySem.W.findIn K (.ref C) x=some (some (.ref f))
 i:PySem.W.isFn K (.ref f)=true
 F:Fun K x q st f fd
theorem mkD {K:PySem.W.Frag}{h:Heap}{mg:Str→Option Value}{x:Str}{st:Stmt}{f:Addr}{fd:FuncData}{ps:List Str} (X:K.In h) (G:h.Ns mainGlobals mg) (D:DL K x st f fd) (hb:∀ (kV doc pm:Value) (an:Option Addr) (cdv ct:Value) (us:List Value),us.length=ps.length→bindArgs (PySem.W.fnOf x x (defArgs st) (defBody st) (defScope st) .none kV doc pm an cdv ct) ⟨us,[]⟩=pure (ps.zip us)):Def K mg x st ps f fd:=⟨D.F,PySem.W.mg_of X G D.a,D.F.binds hb⟩
theorem zBn {K:PySem.W.Frag}{x:Str}{st:Stmt}{f:Addr}{oc:Value}{od an:Option Addr}{osl:Array (Option Value)}{kV doc pm cdv ct:Value} (a:PySem.W.nsIn K mainGlobals x=some (some (.ref f))) (l:K.lookup f=some ⟨oc,od,.func (PySem.W.fnOf x x (defArgs st) (defBody st) (defScope st) .none kV doc pm an cdv ct),osl⟩)
  (c:PySem.W.codeIn K cdv x=true) (k:PySem.W.keepIn K (.ref f)=true):DL K x st f (PySem.W.fnOf x x (defArgs st) (defBody st) (defScope st) .none kV doc pm an cdv ct):=⟨a,fun_mk l c k⟩
theorem ml_mk {K:PySem.W.Frag}{C:Addr}{x q:Str}{st:Stmt}{f:Addr}{oc:Value}{od an:Option Addr}{osl:Array (Option Value)}{kV doc pm cdv ct:Value} (a:PySem.W.findIn K (.ref C) x=some (some (.ref f))) (i:PySem.W.isFn K (.ref f)=true) (l:K.lookup f=some ⟨oc,od,.func (PySem.W.fnOf x q (defArgs st) (defBody st) (defScope st) .none kV doc pm an cdv ct),osl⟩)
  (c:PySem.W.codeIn K cdv q=true) (k:PySem.W.keepIn K (.ref f)=true):ML K C x q st f (PySem.W.fnOf x q (defArgs st) (defBody st) (defScope st) .none kV doc pm an cdv ct):=⟨a,i,fun_mk l c k⟩
theorem all_mk {l:PySem.W.OpenLaw}{w:World}{K:PySem.W.Frag}{h:Heap}{mg:Str→Option Value}{fx:Addr} (X:K.In h) (G:h.Ns mainGlobals mg) (hfa:mg "law" = some (.ref fx))
  {fN fW fU fP fF fCt fA fWn fHf fPo fNo fm fd fn fg fa fl fS fTu fM fR fCh fTx fSl fB fB3 fIk fOf:Addr}{ts:List Addr}{dN dW dU dP dF dCt dA dWn dHf dPo dNo dm dd dn dg da dl dS dTu dM dR dCh dTx dSl dB dB3 dIk dOf:FuncData}{C CK CR CN C1 C2 C3 fI TD c cL Pt Pl:Addr}{ocI kVI dcI pmI cdI ctI:Value}{odI anI:Option Addr}{slI:Array (Option Value)}{ocT:Value}{odT:Option Addr}{slT:Array (Option Value)}{nT:Nat}{t0 t1 t2 t3 t4 t5:Tok}
  {fp:Addr}{ocp kVp dcp pmp ctp:Value}{odp anp:Option Addr}{slp:Array (Option Value)}
  {fL:Addr}{ocL kVL dcL pmL ctL:Value}{odL anL:Option Addr}{slL:Array (Option Value)}
  (aC:PySem.W.nsIn K mainGlobals "Kind" = some (some (.ref C)))
  (aCK:PySem.W.nsIn K mainGlobals "Kinds" = some (some (.ref CK)))
  (aCR:PySem.W.nsIn K mainGlobals "RestError" = some (some (.ref CR)))
  (aCN:PySem.W.nsIn K mainGlobals "NoKind" = some (some (.ref CN)))
  (aC1:PySem.W.nsIn K mainGlobals "NoName" = some (some (.ref C1)))
  (aC2:PySem.W.nsIn K mainGlobals "NoWish" = some (some (.ref C2)))
  (aC3:PySem.W.nsIn K mainGlobals "TooMany" = some (some (.ref C3)))
  (xN:DL K "is_name" sIsName fN dN)
  (xW:DL K "is_whole" sIsWhole fW dW)
  (xU:DL K "are_unlike_names" sUnlike fU dU)
  (xP:DL K "is_pair_with_values" sPair fP dP)
  (xF:DL K "are_fields" sFields fF dF)
  (xCt:DL K "count_states" sCount fCt dCt)
  (xA:DL K "are_kinds" sAreKinds fA dA)
  (xWn:DL K "is_written_number" sWritten fWn dWn)
  (xHf:DL K "has_form" sHasForm fHf dHf)
  (xPo:DL K "parts_of" sPartsOf fPo dPo)
  (xNo:DL K "name_of" sNameOf fNo dNo)
  (xm:DL K "_law_mixed" sMixed fm dm)
  (xd:DL K "_law_digits" sDigits fd dd)
  (xn:DL K "_law_next" sNext fn dn)
  (xg:DL K "_law_sign" sSign fg dg)
  (xa:DL K "_law_names" sNames fa da)
  (xl:DL K "_law_fields" sLFields fl dl)
  (xS:DL K "_law_specs" sSpecs fS dS)
  (xTu:DL K "_law_turned" sTurned fTu dTu)
  (xM:DL K "_law_made" sMade fM dM)
  (xR:DL K "_law_refused" sRefused fR dR)
  (xCh:DL K "_law_chain" sChain fCh dCh)
  (xTx:DL K "_law_text" sText fTx dTx)
  (xSl:DL K "_law_spoilt" sSpoilt fSl dSl)
  (xB:DL K "_law_bad" sBad fB dB)
  (xB3:DL K "_law_bad_three" sBadThree fB3 dB3)
  (xIk:ML K CK "__init__" "Kinds.__init__" sInitKs fIk dIk)
  (xOf:ML K CK "of" "Kinds.of" sOf fOf dOf)
  (xap:PySem.W.nsIn K mainGlobals "placed_by_owners" = some (some (.ref fp))) (xlp:K.lookup fp=some ⟨ocp,odp,.func (PySem.W.fnOf "placed_by_owners" "placed_by_owners" (defArgs sPlaced) (defBody sPlaced) (defScope sPlaced) .none kVp dcp pmp anp (.ref c) ctp),slp⟩) (xcp:PySem.W.codeIn K (.ref c) "placed_by_owners" = true) (xkp:PySem.W.keepIn K (.ref fp)=true)
  (xaL:PySem.W.nsIn K mainGlobals "law" = some (some (.ref fL))) (xlL:K.lookup fL=some ⟨ocL,odL,.func (PySem.W.fnOf "law" "law" (defArgs sLaw) (defBody sLaw) (defScope sLaw) .none kVL dcL pmL anL (.ref cL) ctL),slL⟩) (xcL:PySem.W.codeIn K (.ref cL) "law" = true) (xkL:PySem.W.keepIn K (.ref fL)=true)
  (aI:PySem.W.findIn K (.ref C) "__init__" = some (some (.ref fI))) (iI:PySem.W.isFn K (.ref fI)=true)
  (lI:K.lookup fI=some ⟨ocI,odI,.func (PySem.W.fnOf "__init__" "Kind.__init__" (defArgs sInit) (defBody sInit) (defScope sInit) (.ref TD) kVI dcI pmI anI cdI ctI),slI⟩) (cI:PySem.W.codeIn K cdI "Kind.__init__" = true)
  (lT:K.lookup TD=some ⟨ocT,odT,.seq #[.none] nT,slT⟩)
  (kpg:PySem.W.plainGet K C Str.empty=true) (khd:PySem.W.hasDictIn K C=true) (kpo:PySem.W.plainOver K C=true) (ksa:PySem.W.findIn K (.ref C) "__setattr__" = some (some (.builtin "object.__setattr__"))) (kmk:PySem.W.makesIn K C=true) (kkc:PySem.W.keepIn K (.ref C)=true) (kno0:PySem.W.findIn K (.ref C) "name" = some none) (kno1:PySem.W.findIn K (.ref C) "fields" = some none) (kno2:PySem.W.findIn K (.ref C) "owner" = some none)
  (gpg:PySem.W.plainGet K CK Str.empty=true) (ghd:PySem.W.hasDictIn K CK=true) (gpo:PySem.W.plainOver K CK=true) (gsa:PySem.W.findIn K (.ref CK) "__setattr__" = some (some (.builtin "object.__setattr__"))) (gmk:PySem.W.makesIn K CK=true) (gkc:PySem.W.keepIn K (.ref CK)=true) (gno0:PySem.W.findIn K (.ref CK) "by_name" = some none)
  (hn:PySem.W.specialIn K (.builtin "object.__class__") "__get__" = some (some (.builtin "getset_descriptor.__get__"))) (htk:PySem.W.takesIn K (.builtin "object.__class__")=some true)
  (iha:PySem.W.findIn K (.ref C) "__class__" = some (some (.builtin "object.__class__"))) (ihm:PySem.W.mroIn K C (.type "object")=some true) (ihki:PySem.W.kitOne K (.ref C) (.ref C)=some true)
  (hts:ts=[Pt,Pl])
  (hcdp:PySem.W.codeHdIn K c Pt=true) (houtp:K.lookup Pt=none)
  (hcdL:PySem.W.codeHdIn K cL Pl=true) (houtL:K.lookup Pl=none)
  (hnePlPt:Pl≠Pt)
  (c0:PySem.W.nsIn K mainGlobals "LETTERS" = some (some (.str letters t0)))
  (c1:PySem.W.nsIn K mainGlobals "MOST_LETTERS" = some (some (.int 8 t1)))
  (c2:PySem.W.nsIn K mainGlobals "MOST_STATES" = some (some (.int 8 t2)))
  (c3:PySem.W.nsIn K mainGlobals "FIGURES" = some (some (.str "0123456789" t3)))
  (c4:PySem.W.nsIn K mainGlobals "MOST_FIGURES" = some (some (.int 6 t4)))
  (c5:PySem.W.nsIn K mainGlobals "MOST_NUMBER" = some (some (.int 999999 t5)))
  (zVE:PySem.W.nsIn K mainGlobals "ValueError" = some none)
  (xex1:PySem.W.excIn K C1 [.type "ValueError",.type "Exception",.type "BaseException",.type "object"] "ValueError.__new__" = true)
  (xga1:PySem.W.findIn K (.ref C1) "__getattribute__" = some (some (.builtin "BaseException.__getattribute__")))
  (xgt1:PySem.W.findIn K (.ref C1) "__getattr__" = some none)
  (xcf1:PySem.W.findIn K (.ref C1) "__class__" = some (some (.builtin "object.__class__")))
  (xob1:PySem.W.mroIn K C1 (.type "object")=some true)
  (xem1:PySem.W.exmOne K (.ref C1) (.ref CR)=some true)
  (xon:PySem.W.kitOne K (.ref C1) (.ref C1)=some true)
  (xva:PySem.W.kitOne K (.ref C1) (.type "ValueError")=some true)
  (xot:PySem.W.kitAny K (.ref C1) [.ref CN,.ref C2,.ref C3]=some false)
  (z_isinstance:PySem.W.nsIn K mainGlobals "isinstance" = some none)
  (z_len:PySem.W.nsIn K mainGlobals "len" = some none)
  (z_all:PySem.W.nsIn K mainGlobals "all" = some none)
  (z_set:PySem.W.nsIn K mainGlobals "set" = some none)
  (z_range:PySem.W.nsIn K mainGlobals "range" = some none)
  (z_str:PySem.W.nsIn K mainGlobals "str" = some none)
  (z_list:PySem.W.nsIn K mainGlobals "list" = some none)
  (z_tuple:PySem.W.nsIn K mainGlobals "tuple" = some none)
  (z_zip:PySem.W.nsIn K mainGlobals "zip" = some none)
  (z_dict:PySem.W.nsIn K mainGlobals "dict" = some none)
  (z_min:PySem.W.nsIn K mainGlobals "min" = some none)
  (z_enumerate:PySem.W.nsIn K mainGlobals "enumerate" = some none)
  (z_int:PySem.W.nsIn K mainGlobals "int" = some none)
  (z_bool:PySem.W.nsIn K mainGlobals "bool" = some none) :
  ∃ fd:FuncData,(∀ (s:Shared) (v:Value),BindsTo s fd ⟨[v],[]⟩ [("_law_script",v)])∧(∀ T∈ts,(K).lookup T=none∧∃ c,PySem.W.codeHdIn (K) c T=true)∧∃ Pt Pl:Addr,Pt∈ts∧Pl∈ts∧Pl≠Pt∧∀ base:Heap,(K).In base→base.Ns mainGlobals mg→BltAt mg base→FnOk l.prog w (K) mg base CX0 8 fx fd ["_law_script"] (spLaw9 K Pt Pl):=by
 have e:=hfa.symm.trans (PySem.W.mg_of X G xaL);cases e;have T:Tops K mg:=⟨PySem.W.mg_none_of X G z_isinstance,PySem.W.mg_none_of X G z_len,PySem.W.mg_none_of X G z_all,PySem.W.mg_none_of X G z_set,PySem.W.mg_none_of X G z_range,PySem.W.mg_none_of X G z_str,PySem.W.mg_none_of X G z_list,PySem.W.mg_none_of X G z_tuple,PySem.W.mg_none_of X G z_zip,PySem.W.mg_none_of X G z_dict,PySem.W.mg_none_of X G z_min,PySem.W.mg_none_of X G z_enumerate,PySem.W.mg_none_of X G z_int,PySem.W.mg_none_of X G z_bool,⟨_,PySem.W.mg_of X G c0⟩,⟨_,PySem.W.mg_of X G c1⟩,⟨_,PySem.W.mg_of X G c2⟩,⟨_,PySem.W.mg_of X G c3⟩,⟨_,PySem.W.mg_of X G c4⟩,⟨_,PySem.W.mg_of X G c5⟩⟩;have DN:=mkD X G xN (ps:=["thing"]) fun _ _ _ _ _ _ us hl=>by obtain ⟨z0,rfl⟩:=len1 hl;rfl
 have DW:=mkD X G xW (ps:=["thing"]) fun _ _ _ _ _ _ us hl=>by obtain ⟨z0,rfl⟩:=len1 hl;rfl
 have DU:=mkD X G xU (ps:=["things"]) fun _ _ _ _ _ _ us hl=>by obtain ⟨z0,rfl⟩:=len1 hl;rfl
 have DP:=mkD X G xP (ps:=["thing"]) fun _ _ _ _ _ _ us hl=>by obtain ⟨z0,rfl⟩:=len1 hl;rfl
 have DF:=mkD X G xF (ps:=["things"]) fun _ _ _ _ _ _ us hl=>by obtain ⟨z0,rfl⟩:=len1 hl;rfl
 have DCt:=mkD X G xCt (ps:=["fields"]) fun _ _ _ _ _ _ us hl=>by obtain ⟨z0,rfl⟩:=len1 hl;rfl
 have DA:=mkD X G xA (ps:=["things"]) fun _ _ _ _ _ _ us hl=>by obtain ⟨z0,rfl⟩:=len1 hl;rfl
 have DWn:=mkD X G xWn (ps:=["text", "most_figures"]) fun _ _ _ _ _ _ us hl=>by obtain ⟨z0,z1,rfl⟩:=len2 hl;rfl
 have DHf:=mkD X G xHf (ps:=["thing"]) fun _ _ _ _ _ _ us hl=>by obtain ⟨z0,rfl⟩:=len1 hl;rfl
 have DPo:=mkD X G xPo (ps:=["kinds", "name"]) fun _ _ _ _ _ _ us hl=>by obtain ⟨z0,z1,rfl⟩:=len2 hl;rfl
 have DNo:=mkD X G xNo (ps:=["kinds", "kind", "owner", "number"]) fun _ _ _ _ _ _ us hl=>by obtain ⟨z0,z1,z2,z3,rfl⟩:=len4 hl;rfl
 have Dm:=mkD X G xm (ps:=["_law_cell", "_law_k"]) fun _ _ _ _ _ _ us hl=>by obtain ⟨z0,z1,rfl⟩:=len2 hl;rfl
 have Dd:=mkD X G xd (ps:=["_law_cell"]) fun _ _ _ _ _ _ us hl=>by obtain ⟨z0,rfl⟩:=len1 hl;rfl
 have Dn:=mkD X G xn (ps:=["_law_source", "_law_many"]) fun _ _ _ _ _ _ us hl=>by obtain ⟨z0,z1,rfl⟩:=len2 hl;rfl
 have Dg:=mkD X G xg (ps:=["_law_sign_here", "_law_turn"]) fun _ _ _ _ _ _ us hl=>by obtain ⟨z0,z1,rfl⟩:=len2 hl;rfl
 have Da:=mkD X G xa (ps:=["_law_source", "_law_many"]) fun _ _ _ _ _ _ us hl=>by obtain ⟨z0,z1,rfl⟩:=len2 hl;rfl
 have Dl:=mkD X G xl (ps:=["_law_source"]) fun _ _ _ _ _ _ us hl=>by obtain ⟨z0,rfl⟩:=len1 hl;rfl
 have DS:=mkD X G xS (ps:=["_law_source"]) fun _ _ _ _ _ _ us hl=>by obtain ⟨z0,rfl⟩:=len1 hl;rfl
 have DTu:=mkD X G xTu (ps:=["_law_source", "_law_things"]) fun _ _ _ _ _ _ us hl=>by obtain ⟨z0,z1,rfl⟩:=len2 hl;rfl
 have DM:=mkD X G xM (ps:=["_law_specs_here"]) fun _ _ _ _ _ _ us hl=>by obtain ⟨z0,rfl⟩:=len1 hl;rfl
 have DR:=mkD X G xR (ps:=["_law_asked"]) fun _ _ _ _ _ _ us hl=>by obtain ⟨z0,rfl⟩:=len1 hl;rfl
 have DCh:=mkD X G xCh (ps:=["_law_source", "_law_specs_here"]) fun _ _ _ _ _ _ us hl=>by obtain ⟨z0,z1,rfl⟩:=len2 hl;rfl
 have DTx:=mkD X G xTx (ps:=["_law_chain_here"]) fun _ _ _ _ _ _ us hl=>by obtain ⟨z0,rfl⟩:=len1 hl;rfl
 have DSl:=mkD X G xSl (ps:=["_law_source", "_law_chain_here"]) fun _ _ _ _ _ _ us hl=>by obtain ⟨z0,z1,rfl⟩:=len2 hl;rfl
 have DB:=mkD X G xB (ps:=["_law_source", "_law_specs_here", "_law_kind", "_law_chain_here"]) fun _ _ _ _ _ _ us hl=>by obtain ⟨z0,z1,z2,z3,rfl⟩:=len4 hl;rfl
 have DB3:=mkD X G xB3 (ps:=["_law_source", "_law_kind", "_law_chain_here"]) fun _ _ _ _ _ _ us hl=>by obtain ⟨z0,z1,z2,rfl⟩:=len3 hl;rfl
 obtain ⟨xaIk,xiIk,FIk⟩:=xIk;have bIk:=FIk.binds (ps:=["self", "kinds"]) fun _ _ _ _ _ _ us hl=>by obtain ⟨z0,z1,rfl⟩:=len2 hl;rfl
 obtain ⟨xaOf,xiOf,FOf⟩:=xOf;have bOf:=FOf.binds (ps:=["self", "name"]) fun _ _ _ _ _ _ us hl=>by obtain ⟨z0,z1,rfl⟩:=len2 hl;rfl
 have Fp:FunL K "placed_by_owners" "placed_by_owners" sPlaced fp _ c:=⟨⟨ocp,odp,kVp,dcp,pmp,anp,ctp,slp,rfl,xlp,xcp⟩,xkp⟩;have bp:=Fp.fn.binds (ps:=["kinds"]) fun _ _ _ _ _ _ us hl=>by obtain ⟨z0,rfl⟩:=len1 hl;rfl
 have FL:FunL K "law" "law" sLaw _ _ cL:=⟨⟨ocL,odL,kVL,dcL,pmL,anL,ctL,slL,rfl,xlL,xcL⟩,xkL⟩;have FI:FunD K "__init__" "Kind.__init__" sInit (.ref TD) fI _:=⟨⟨ocI,odI,kVI,dcI,pmI,anI,cdI,ctI,slI,rfl,lI,cI⟩⟩;have bK:Binds K (PySem.W.fnOf "__init__" "Kind.__init__" (defArgs sInit) (defBody sInit) (defScope sInit) (.ref TD) kVI dcI pmI anI cdI ctI) ["self", "name", "fields", "owner"] []:=by
  intro s us hK hl;rw [List.append_nil] at hl ⊢;obtain ⟨a,n,f,o,rfl⟩:=len4 hl;exact PySem.W.binds_K hK rfl lT rfl (by rfl) (by rfl)
 have KC:KCls K mg C fI:=⟨⟨kpg,khd,kpo,ksa⟩,kno0,kno1,kno2,PySem.W.mg_of X G aC,⟨kmk,aI,iI,kkc⟩⟩;have KS:KsCls K mg CK fIk fIk fOf fIk:=⟨⟨gpg,ghd,gpo,gsa⟩,gno0,PySem.W.mg_of X G aCK,⟨gmk,xaIk,xiIk,gkc⟩,⟨xaOf,xiOf,FOf.kp⟩⟩;have rf:Refs K mg C1 CR CN C2 C3:=⟨⟨PySem.W.mg_of X G aC1,xex1⟩,⟨xex1,xga1,xgt1,xcf1,xob1⟩,PySem.W.mg_of X G aCR,PySem.W.mg_of X G aCN,PySem.W.mg_of X G aC2,PySem.W.mg_of X G aC3,PySem.W.mg_none_of X G zVE,xem1,xon,xva,xot⟩;subst hts;refine ⟨PySem.W.fnOf "law" "law" (defArgs sLaw) (defBody sLaw) (defScope sLaw) .none kVL dcL pmL anL (.ref cL) ctL,fun s v=>.of_eq rfl,fun T hT=>?_,Pt,Pl,.head _,.tail _ (.head _),hnePlPt,fun base _ _ bl=>?_⟩
 ·simp only [Zj,Zf,or_false] at hT;rcases hT with rfl | rfl
  ·exact ⟨houtp,c,hcdp⟩
  ·exact ⟨houtL,cL,hcdL⟩
 ·have Lp:LamTxt K mg base c Pt:=⟨hcdp,bl⟩;have LL:LamTxt K mg base cL Pl:=⟨hcdL,bl⟩;exact (ok_law9 FL ⟨T,DN,DW,DU,DP,DF,DCt,FI,KC,⟨iha,hn,htk,ihm,ihki⟩,bK,DA,Fp,PySem.W.mg_of X G xap,bp,Lp,FIk,bIk,FOf,bOf,KS,DWn,DHf,DPo,DNo,Dm,Dd,Dn,Dg,Da,Dl,DS,DTu,DM,DR,DCh,DTx,DSl,DB,DB3,LL,rf⟩).calm calmM
theorem walk {l:PySem.W.OpenLaw}{q:Program}{loose:List Str}{XP:(Str→Option Value)→Heap→Prop}{YP:World→Heap→Prop}{d:DefRec}{K:Params→PySem.W.Frag}{ts:List Addr} (hn:l.most=some 63) (hdf:d.params.defaults=[])
  (hY:∀ (w:World) (h:Heap),YP w h→(K w.params).In h∧∀ T∈ts,h.get? T=some (PySem.W.tabObj #[]))
  (F:∀ (w:World) (mg:Str→Option Value) (fa:Addr) (h:Heap),(K w.params).In h→h.Ns mainGlobals mg→mg d.name=some (.ref fa) →
   ∃ fd:FuncData,(∀ (s:Shared) (v:Value),BindsTo s fd ⟨[v],[]⟩ [("_law_script",v)])∧(∀ T∈ts,(K w.params).lookup T=none∧∃ c,PySem.W.codeHdIn (K w.params) c T=true)∧∃ Pt Pl:Addr,Pt∈ts∧Pl∈ts∧Pl≠Pt∧∀ base:Heap,(K w.params).In base→base.Ns mainGlobals mg→BltAt mg base→FnOk l.prog w (K w.params) mg base CX0 8 fa fd ["_law_script"] (spLaw9 (K w.params) Pt Pl)) :
  PySem.W.WalkO q loose XP YP l.row.toRowW d [] (fun f vs=>PySem.call f vs):=by
 refine Att.attach_call hn hdf fun w s₀ s₁ mg mb fa o pm cd doc a vs ns G Y ho hd hcd hmg hobj hints hlen hg=>?_;obtain ⟨KX,hT⟩:=hY w _ Y;obtain ⟨fd,hb,hall,Pt,Pl,m0,m1,hnePlPt,hF⟩:=F w mg fa _ KX G.T.g hmg;exact law_callTs KX G.T.g G.T.b G.T.builtins G.T.nolimit hg (blt_of G.T) hT (fun T h=>(hall T h).1) (fun T h=>(hall T h).2) hobj hints (Zd hlen (by decide)) ⟨rfl,by decide,by decide⟩ hF hb (fun H hO hS=>⟨a,ns,rfl,hS,hlen,.inl (hO.1 Pt m0),⟨⟨#[],hO.1 Pl m1,trivial,fun _ _ e=>nomatch e⟩⟩,hnePlPt,fun _=>rfl⟩) fun _ _ _ z=>z
end L2.W
theorem PySem.W.Fast.tw12655519051139847090:True:=trivial
theorem PySem.W.Fast.tw6386290284736364729:True:=trivial
theorem PySem.W.Fast.tw14945568887779883380:True:=trivial
theorem PySem.W.Fast.tw14626312652714005584:True:=trivial
theorem PySem.W.Fast.tw9143187733385911904:True:=trivial
theorem PySem.W.Fast.tw16990926274125954461:True:=trivial
theorem PySem.W.Fast.tw6711053676719602350:True:=trivial
theorem PySem.W.Fast.tw2255024088906940946:True:=trivial
theorem PySem.W.Fast.tw10108710909841898449:True:=trivial
theorem PySem.W.Fast.tw16204226841729278867:True:=trivial
theorem PySem.W.Fast.tw4580908950647543393:True:=trivial
theorem PySem.W.Fast.tw11210969016855563006:True:=trivial
theorem PySem.W.Fast.tw8783987001247486149:True:=trivial
theorem PySem.W.Fast.tw557519879474822692:True:=trivial
theorem PySem.W.Fast.tw16589181810055107269:True:=trivial
theorem PySem.W.Fast.tw11860470579179424000:True:=trivial
theorem PySem.W.Fast.tw11522514458778474728:True:=trivial
theorem PySem.W.Fast.tw13951792492127323660:True:=trivial
theorem PySem.W.Fast.tw16019776841273358737:True:=trivial
theorem PySem.W.Fast.tw5543613157947116786:True:=trivial
theorem PySem.W.Fast.tw4515128307968613894:True:=trivial
theorem PySem.W.Fast.tw6681291211302721171:True:=trivial
theorem PySem.W.Fast.tw9353019028092179606:True:=trivial
theorem PySem.W.Fast.tw2303215052321813077:True:=trivial
theorem PySem.W.Fast.tw17440450925514736964:True:=trivial
theorem PySem.W.Fast.tw13127569886607459905:True:=trivial
theorem PySem.W.Fast.tw6173727621337741172:True:=trivial
theorem PySem.W.Fast.tw9376465671743028691:True:=trivial
theorem PySem.W.Fast.tw1543556552056529793:True:=trivial
theorem PySem.W.Fast.tw2833371852588807026:True:=trivial
theorem PySem.W.Fast.tw8779197484778561007:True:=trivial
theorem PySem.W.Fast.tw4667997255394005623:True:=trivial
theorem PySem.W.Fast.tw9875116250791152240:True:=trivial
theorem PySem.W.Fast.tw6948771593174775620:True:=trivial
theorem PySem.W.Fast.tw1425280679754730502:True:=trivial
theorem PySem.W.Fast.tw5369477272040733174:True:=trivial
theorem PySem.W.Fast.tw13423333878854663403:True:=trivial
theorem PySem.W.Fast.tw5022467538378611219:True:=trivial
theorem PySem.W.Fast.tw15377432136046987024:True:=trivial
theorem PySem.W.Fast.tw7035618552767537783:True:=trivial
theorem PySem.W.Fast.tw3966740191877200385:True:=trivial
theorem PySem.W.Fast.tw3342908831167445455:True:=trivial
theorem PySem.W.Fast.tw7224236628342664618:True:=trivial
theorem PySem.W.Fast.tw10934096046272231799:True:=trivial
theorem PySem.W.Fast.tw4796966849498362706:True:=trivial
theorem PySem.W.Fast.tw4632586499004651433:True:=trivial
theorem PySem.W.Fast.tw875235221415479527:True:=trivial
theorem PySem.W.Fast.tw9864072588815146138:True:=trivial
theorem PySem.W.Fast.tw6376367414314215773:True:=trivial
theorem PySem.W.Fast.tw12014310271834248162:True:=trivial
theorem PySem.W.Fast.tw13091726468817911516:True:=trivial
theorem PySem.W.Fast.tw1115879240372980613:True:=trivial
theorem PySem.W.Fast.tw11475471053380243154:True:=trivial
theorem PySem.W.Fast.tw16167770549233763752:True:=trivial
theorem PySem.W.Fast.tw11619902568691403321:True:=trivial
theorem PySem.W.Fast.tw14010904882829606603:True:=trivial
theorem PySem.W.Fast.tw12072661237131380015:True:=trivial
theorem PySem.W.Fast.tw1074638972903483198:True:=trivial
theorem PySem.W.Fast.tw10026036189134983165:True:=trivial
theorem PySem.W.Fast.tw14211560027684915674:True:=trivial
theorem PySem.W.Fast.tw12021880782244912283:True:=trivial
theorem PySem.W.Fast.tw5392963155088807177:True:=trivial
theorem PySem.W.Fast.tw3749341890042441848:True:=trivial
theorem PySem.W.Fast.tw14737809506748361527:True:=trivial
theorem PySem.W.Fast.tw9834725941590037509:True:=trivial
theorem PySem.W.Fast.tw13967316019998378789:True:=trivial
theorem PySem.W.Fast.tw11441271022748603953:True:=trivial
theorem PySem.W.Fast.tw17025910288730547050:True:=trivial
theorem PySem.W.Fast.tw17406770307071490001:True:=trivial
theorem PySem.W.Fast.tw18367608859029861257:True:=trivial
theorem PySem.W.Fast.tw5694871664458978852:True:=trivial
theorem PySem.W.Fast.tw16739737121101464533:True:=trivial
theorem PySem.W.Fast.tw5065327174145626598:True:=trivial
theorem PySem.W.Fast.tw1715372604966790528:True:=trivial
theorem PySem.W.Fast.tw116218571515320027:True:=trivial
theorem PySem.W.Fast.tw17957863860195812757:True:=trivial
theorem PySem.W.Fast.tw14561585288889825040:True:=trivial
theorem PySem.W.Fast.tw184176235576619886:True:=trivial
open PySem PySem.W PyProof.Rows
set_option maxRecDepth 100000 in
set_option maxHeartbeats 0 in
theorem PySem.Challenge.cw_cometorest_k09_no_names_of_things_holds : PySem.Challenge.rw_cometorest_k09_no_names_of_things.Holds := by
 w_on;o_law;k_head;(case hw=>w_witness2)
 k_fill
 refine L2.W.walk (l:=PySem.Challenge.rw_cometorest_k09_no_names_of_things) rfl rfl (fun w h Y=>⟨PySem.W.km_in_of Y,PySem.W.km_tabs_of Y⟩) ?F
 case F =>
  intro w mg fa h KX G hmg;refine' L2.W.all_mk KX G hmg ?aC ?aCK ?aCR ?aCN ?aC1 ?aC2 ?aC3 ?xN ?xW ?xU ?xP ?xF ?xCt ?xA ?xWn ?xHf ?xPo ?xNo ?xm ?xd ?xn ?xg ?xa ?xl ?xS ?xTu ?xM ?xR ?xCh ?xTx ?xSl ?xB ?xB3 ?xIk ?xOf ?xap ?xlp ?xcp ?xkp ?xaL ?xlL ?xcL ?xkL ?aI ?iI ?lI ?cI ?lT ?kpg ?khd ?kpo ?ksa ?kmk ?kkc ?kno0 ?kno1 ?kno2 ?gpg ?ghd ?gpo ?gsa ?gmk ?gkc ?gno0 ?hn ?htk ?iha ?ihm ?ihki ?hts ?hcdp ?houtp ?hcdL ?houtL ?hnePlPt ?c0 ?c1 ?c2 ?c3 ?c4 ?c5 ?zVE ?xex1 ?xga1 ?xgt1 ?xcf1 ?xob1 ?xem1 ?xon ?xva ?xot ?z_isinstance ?z_len ?z_all ?z_set ?z_range ?z_str ?z_list ?z_tuple ?z_zip ?z_dict ?z_min ?z_enumerate ?z_int ?z_bool
  (case aC=>k_is)
  (case aCK=>k_is)
  (case aCR=>k_is)
  (case aCN=>k_is)
  (case aC1=>k_is)
  (case aC2=>k_is)
  (case aC3=>k_is)
  (case xN=>apply L2.W.zBn;iterate 4 k_is)
  (case xW=>apply L2.W.zBn;iterate 4 k_is)
  (case xU=>apply L2.W.zBn;iterate 4 k_is)
  (case xP=>apply L2.W.zBn;iterate 4 k_is)
  (case xF=>apply L2.W.zBn;iterate 4 k_is)
  (case xCt=>apply L2.W.zBn;iterate 4 k_is)
  (case xA=>apply L2.W.zBn;iterate 4 k_is)
  (case xWn=>apply L2.W.zBn;iterate 4 k_is)
  (case xHf=>apply L2.W.zBn;iterate 4 k_is)
  (case xPo=>apply L2.W.zBn;iterate 4 k_is)
  (case xNo=>apply L2.W.zBn;iterate 4 k_is)
  (case xm=>apply L2.W.zBn;iterate 4 k_is)
  (case xd=>apply L2.W.zBn;iterate 4 k_is)
  (case xn=>apply L2.W.zBn;iterate 4 k_is)
  (case xg=>apply L2.W.zBn;iterate 4 k_is)
  (case xa=>apply L2.W.zBn;iterate 4 k_is)
  (case xl=>apply L2.W.zBn;iterate 4 k_is)
  (case xS=>apply L2.W.zBn;iterate 4 k_is)
  (case xTu=>apply L2.W.zBn;iterate 4 k_is)
  (case xM=>apply L2.W.zBn;iterate 4 k_is)
  (case xR=>apply L2.W.zBn;iterate 4 k_is)
  (case xCh=>apply L2.W.zBn;iterate 4 k_is)
  (case xTx=>apply L2.W.zBn;iterate 4 k_is)
  (case xSl=>apply L2.W.zBn;iterate 4 k_is)
  (case xB=>apply L2.W.zBn;iterate 4 k_is)
  (case xB3=>apply L2.W.zBn;iterate 4 k_is)
  (case xIk=>apply L2.W.ml_mk;iterate 5 k_is)
  (case xOf=>apply L2.W.ml_mk;iterate 5 k_is)
  (case xap=>k_is)
  (case xlp=>k_is)
  (case xcp=>k_is)
  (case xkp=>k_is)
  (case xaL=>k_is)
  (case xlL=>k_is)
  (case xcL=>k_is)
  (case xkL=>k_is)
  (case aI=>k_is)
  (case iI=>k_is)
  (case lI=>k_is)
  (case cI=>k_is)
  (case lT=>k_is)
  (case kpg=>k_is)
  (case khd=>k_is)
  (case kpo=>k_is)
  (case ksa=>k_is)
  (case kmk=>k_is)
  (case kkc=>k_is)
  (case kno0=>k_is)
  (case kno1=>k_is)
  (case kno2=>k_is)
  (case gpg=>k_is)
  (case ghd=>k_is)
  (case gpo=>k_is)
  (case gsa=>k_is)
  (case gmk=>k_is)
  (case gkc=>k_is)
  (case gno0=>k_is)
  (case hn=>k_is)
  (case htk=>k_is)
  (case iha=>k_is)
  (case ihm=>k_is)
  (case ihki=>first | k_is | rfl | kernel_rfl | decide +kernel)
  (case hts=>rfl)
  (case hcdp=>first | k_is | rfl | kernel_rfl | decide +kernel)
  (case houtp=>first | k_is | rfl | kernel_rfl | decide +kernel)
  (case hcdL=>first | k_is | rfl | kernel_rfl | decide +kernel)
  (case houtL=>first | k_is | rfl | kernel_rfl | decide +kernel)
  (case hnePlPt=>decide)
  (case c0=>k_is)
  (case c1=>k_is)
  (case c2=>k_is)
  (case c3=>k_is)
  (case c4=>k_is)
  (case c5=>k_is)
  (case zVE=>first | k_is | rfl | kernel_rfl | decide +kernel)
  (case xex1=>first | k_is | rfl | kernel_rfl | decide +kernel)
  (case xga1=>first | k_is | rfl | kernel_rfl | decide +kernel)
  (case xgt1=>first | k_is | rfl | kernel_rfl | decide +kernel)
  (case xcf1=>first | k_is | rfl | kernel_rfl | decide +kernel)
  (case xob1=>first | k_is | rfl | kernel_rfl | decide +kernel)
  (case xem1=>first | k_is | rfl | kernel_rfl | decide +kernel)
  (case xon=>first | k_is | rfl | kernel_rfl | decide +kernel)
  (case xva=>first | k_is | rfl | kernel_rfl | decide +kernel)
  (case xot=>first | k_is | rfl | kernel_rfl | decide +kernel)
  (case z_isinstance=>k_is)
  (case z_len=>k_is)
  (case z_all=>k_is)
  (case z_set=>k_is)
  (case z_range=>k_is)
  (case z_str=>k_is)
  (case z_list=>k_is)
  (case z_tuple=>k_is)
  (case z_zip=>k_is)
  (case z_dict=>k_is)
  (case z_min=>k_is)
  (case z_enumerate=>k_is)
  (case z_int=>k_is)
  (case z_bool=>k_is)
