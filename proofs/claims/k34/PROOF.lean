import PyProof.Rows.All
import Wide.All
import OpenK.AllK
import Wide.FinOn
import Lean
import PyProof.EqAt
import PyProof.EqKinds
import PyProof.TupleCall
import PySem.Challenge.RW_cometorest_k34_hands_that_suit
import KE.KMinKey
import KE.KLam
import KE.KNestM
import KE.KDictList
import PyProof.EnumMake
import PyProof.EnumFor
import PyProof.EnumStmt
import PyProof.AttrMissHeap
import KE.KDictOf
import PyProof.StrLawsChain
import PyProof.StrLawsTight
import PyProof.Rows.StrItems
import PyProof.Rows.StrSplitCount
import PyProof.FString
import KE.KIntText
import KE.KTryMore
import PyProof.NsDelKeeps
import PyProof.ExcClass3
import PyProof.ExcBaseAll.ValueError
import PyProof.ExcAttrAll.ValueError
import PyProof.NeKinds
import PyProof.FactsAll.dict
import KE.KDictSum
import PyProof.DictItems
import KE.KPairComp
import KE.KxWritten
import PyProof.SumAny
import PyProof.Rows.StrLen
import PyProof.CallStr
import PyProof.StrCalls6
import PyProof.Rows.StrCase
import OpenK.KMake
import KE.KSortTup
set_option Elab.async false
set_option linter.all false
set_option maxRecDepth 100000
abbrev Z0:=@List.length_map
abbrev Z1:=@PySem.Heap.get?_push_of_some
abbrev Z2:=@List.map_append
abbrev Z3:=@List.mem_of_getElem?
abbrev Z4:=@List.take_add_one
abbrev Z5:=@List.getElem?_eq_getElem
abbrev Z6:=@List.getElem?_map
abbrev Z7:=@Nat.le_refl
abbrev Z8:=@Nat.lt_of_lt_of_le
abbrev Z9:=@List.size_toArray
abbrev Za:=@List.take_length
abbrev Zb:=@List.mem_cons_of_mem
abbrev Zc:=@List.length_append
abbrev Zd:=@PySem.Heap.lt_size
abbrev Ze:=@Bool.false_ne_true
abbrev Zf:=@Nat.ne_of_lt
abbrev Zg:=@List.mem_cons_self
abbrev Zh:=@PySem.Heap.get?_push_size
abbrev Zi:=@Nat.le_of_lt
abbrev Zj:=@List.length_cons
abbrev Zk:=@Option.some.inj
abbrev Zl:=@List.length_take
abbrev Zm:=@Nat.zero_le
abbrev Zn:=@List.getElem?_append_left
abbrev Zo:=@Nat.le_trans
abbrev Zp:=@List.length_replicate
abbrev Zq:=@List.map_cons
abbrev Zr:=@Bool.and_eq_true
abbrev Zt:=@List.getElem?_append_right
abbrev Zu:=@List.length_take_le'
abbrev Zv:=@List.mem_append_right
abbrev Zw:=@List.length_take_le
abbrev Zx:=@List.getElem_of_mem
abbrev Zy:=@List.all_cons
abbrev Zz:=@List.not_mem_nil
abbrev Y0:=@List.map_map
abbrev Y1:=@List.lookup_cons
abbrev Y2:=@List.filter_append
abbrev Y3:=@List.mem_cons
abbrev Y4:=@Int.emod_lt_of_pos
abbrev Y5:=@List.length_filter_le
abbrev Y6:=@List.mem_append_left
abbrev Y7:=@List.all_map
abbrev Y8:=@List.any_cons
abbrev Y9:=@List.filterMap_cons
abbrev Ya:=@Array.length_toList
abbrev Yb:=@List.length_drop
abbrev Yc:=@List.nodup_nil
abbrev Yd:=@List.all_eq_true
abbrev Ye:=@Bool.eq_iff_iff
abbrev Yf:=@List.find?_cons
abbrev Yg:=@List.foldl_cons
abbrev Yh:=@List.getElem?_set_ne
abbrev Yi:=@PySem.Heap.size_push
abbrev Yj:=@List.mem_of_mem_take
abbrev Yk:=@Nat.lt_succ_self
abbrev Yl:=@Nat.lt_irrefl
namespace L2
open PySem PySem.Spec PyProof.Rows
noncomputable abbrev Key:=Sum Int Str
noncomputable def keyIs:Key→Value→Bool
 | .inl k,v=>Value.isInt k v
 | .inr x,v=>Value.isStrOf x v
noncomputable def keyH (w:World):Key→Int
 | .inl k=>hashInt k
 | .inr x=>hashStr w x
theorem zB5:∀ {k:Key}{v:Value},keyIs k v=true→(∃ i t,k=Sum.inl i∧v=Value.int i t)∨(∃ x t,k=Sum.inr x∧v=Value.str x t)
 | .inl i,v,h=>by
  obtain ⟨t,e⟩:=Value.isInt_shape (k:=i) (v:=v) h;exact .inl ⟨i,t,rfl,e⟩
 | .inr x,v,h=>by
  obtain ⟨t,e⟩:=Value.isStrOf_shape (x:=x) (v:=v) h;exact .inr ⟨x,t,rfl,e⟩
theorem keyIs_int (i:Int) (t:Tok):keyIs (.inl i) (.int i t)=true:=by simp [keyIs,Value.isInt]
theorem keyIs_str (x:Str) (t:Tok):keyIs (.inr x) (.str x t)=true:=by simp [keyIs,Value.isStrOf]
theorem key_ll (a b:Int):decide ((Sum.inl a:Key)=Sum.inl b)=(a == b):=by
 by_cases e:a=b
 ·subst e;simp
 ·have h:¬ (Sum.inl a:Key)=Sum.inl b:=fun q=>e (Sum.inl.inj q);rw [decide_eq_false h];exact (beq_eq_false_iff_ne.mpr e).symm
theorem key_rr (a b:Str):decide ((Sum.inr a:Key)=Sum.inr b)=decide (a=b):=by
 by_cases e:a=b
 ·subst e;simp
 ·have h:¬ (Sum.inr a:Key)=Sum.inr b:=fun q=>e (Sum.inr.inj q);rw [decide_eq_false h,decide_eq_false e]
theorem key_lr (a:Int) (b:Str):decide ((Sum.inl a:Key)=Sum.inr b)=false:=decide_eq_false (fun q=>nomatch q)
theorem key_rl (a:Str) (b:Int):decide ((Sum.inr a:Key)=Sum.inl b)=false:=decide_eq_false (fun q=>nomatch q)
noncomputable def mixKind (prog:Program) (w:World):PySem.KeyKind prog w Key where
 is:=keyIs
 hash:=keyH w
 inj:=fun v a b ha hb=>by
  rcases zB5 ha with ⟨i,t,rfl,rfl⟩ | ⟨x,t,rfl,rfl⟩
  ·rcases zB5 hb with ⟨j,u,rfl,e⟩ | ⟨y,u,rfl,e⟩
   ·injection e with e1 _;rw [e1]
   ·exact nomatch e
  ·rcases zB5 hb with ⟨j,u,rfl,e⟩ | ⟨y,u,rfl,e⟩
   ·exact nomatch e
   ·injection e with e1 _;rw [e1]
 byValue:=fun k v h=>by
  rcases zB5 h with ⟨i,t,rfl,rfl⟩ | ⟨x,t,rfl,rfl⟩ <;> rfl
 pyHash:=fun hv h=>by
  rcases zB5 hv with ⟨i,t,rfl,rfl⟩ | ⟨x,t,rfl,rfl⟩
  ·exact wpAny_pyHash_int h
  ·exact wpAny_pyHash_str h
 eqBool:=fun hu hv h=>by
  rcases zB5 hu with ⟨i,t,rfl,rfl⟩ | ⟨x,t,rfl,rfl⟩
  ·rcases zB5 hv with ⟨j,u,rfl,rfl⟩ | ⟨y,u,rfl,rfl⟩
   ·rw [key_ll] at h;exact wpAny_eqBool_int h
   ·rw [key_lr] at h;exact SeqAt.EqAt.int_str i t y u _ _ _ _ h
  ·rcases zB5 hv with ⟨j,u,rfl,rfl⟩ | ⟨y,u,rfl,rfl⟩
   ·rw [key_rl] at h;exact SeqAt.EqAt.str_int x t j u _ _ _ _ h
   ·rw [key_rr] at h;exact wpAny_eqBool_str h
 «strs»:=fun k x t v h=>by
  rcases zB5 h with ⟨i,u,rfl,e⟩ | ⟨y,u,rfl,e⟩
  ·exact nomatch e
  ·injection e with e1 _;subst e1;cases v <;> rfl
theorem mixKind_int (prog:Program) (w:World) (i:Int) (t:Tok):(mixKind prog w).is (.inl i) (.int i t)=true:=keyIs_int i t
theorem mixKind_str (prog:Program) (w:World) (x:Str) (t:Tok):(mixKind prog w).is (.inr x) (.str x t)=true:=keyIs_str x t
end L2
namespace L2
open PySem PySem.Spec PyProof.Rows
inductive V where
 | non | bl (b:Bool) | int (i:Int) | str (x:Str) | byt (b:Array UInt8) | flt (b:UInt64) | ref (a:Addr) | ty (n:String)
 deriving DecidableEq
noncomputable def RelV:V→Value→Prop
 | .non,u=>u=Value.none
 | .bl b,u=>u=Value.bool b
 | .int i,u=>∃ t,u=Value.int i t
 | .str x,u=>∃ t,u=Value.str x t
 | .byt b,u=>∃ t,u=Value.bytes b t
 | .flt b,u=>∃ t,u=Value.float b t
 | .ref a,u=>u=Value.ref a
 | .ty n,u=>u=Value.type n
noncomputable abbrev Vals:List V→List Value→Prop:=Paired RelV
theorem Vals.length {xs:List V}{us:List Value} (r:Vals xs us):xs.length=us.length:=Paired.length r
theorem Vals.get:∀ {xs:List V}{us:List Value}{i:Nat}{x:V},Vals xs us→xs[i]? = some x→∃ u,us[i]? = some u∧RelV x u
 | _,_,_,_,.nil,e=>by simp at e
 | _,_,0,_,.cons r _,e=>by simp at e;subst e;exact ⟨_,rfl,r⟩
 | _,_,i + 1,x,.cons _ t,e=>by
  obtain ⟨u,h1,h2⟩:=Vals.get (i:=i) (x:=x) t (by simpa using e);exact ⟨u,by simpa using h1,h2⟩
theorem Vals.set {x:V}{u:Value} (r:RelV x u):∀ {xs:List V}{us:List Value} (i:Nat),Vals xs us→Vals (xs.set i x) (us.set i u)
 | _,_,_,.nil=>.nil
 | _,_,0,.cons _ t=>.cons r t
 | _,_,i + 1,.cons q t=>.cons q (Vals.set r i t)
theorem Vals.append:∀ {xs ys:List V}{us ws:List Value},Vals xs us→Vals ys ws→Vals (xs++ys) (us++ws)
 | _,_,_,_,.nil,s=>s
 | _,_,_,_,.cons r t,s=>.cons r (Vals.append t s)
theorem Vals.take:∀ {xs:List V}{us:List Value} (n:Nat),Vals xs us→Vals (xs.take n) (us.take n)
 | _,_,0,_=>.nil
 | _,_,_ + 1,.nil=>.nil
 | _,_,n + 1,.cons r t=>.cons r (Vals.take n t)
theorem Vals.drop:∀ {xs:List V}{us:List Value} (n:Nat),Vals xs us→Vals (xs.drop n) (us.drop n)
 | _,_,0,r=>r
 | _,_,_ + 1,.nil=>.nil
 | _,_,n + 1,.cons _ t=>Vals.drop n t
noncomputable def RelO:Option V→Option Value→Prop
 | some v,some u=>RelV v u
 | none,none=>True
 | _,_=>False
noncomputable def KV {κ : Type}:List (κ×V)→List (κ×Value)→Prop:=Paired fun (p : κ×V) (q : κ×Value)=>p.1=q.1∧RelV p.2 q.2
noncomputable def kV:Key→V
 | .inl i=>.int i
 | .inr x=>.str x
inductive HO where
 | lst (xs:List V)
 | tup (xs:List V)
 | dK (kvs:List (Key×V)) | dT (kvs:List (List Key×V))
 | set (S:Int→Bool) (n:Nat)
 | ins (C dx:Addr) (fs:List (Str×V))
 | own (x:Addr)
 | xd (fs:List (Str×V))
 | met (f x:Addr)
 | rng (lo hi:Int)
 | frz (o:Obj) (u:HO)
 | tbl (ps:Array Value)
 | ext (φ : Heap→Prop)
noncomputable abbrev Hp:=Addr→Option HO
noncomputable def upd (H:Hp) (a:Addr) (o:HO):Hp:=fun b=>if b=a then some o else H b
theorem zA1 {H:Hp}{a:Addr}{o:HO}:upd H a o a=some o:=by unfold upd;rw [if_pos rfl]
theorem zA9 {H:Hp}{a b:Addr}{o:HO} (h:b≠a):upd H a o b=H b:=by unfold upd;rw [if_neg h]
theorem ne_of {H:Hp}{a b:Addr}{o u:HO} (h:H a=some o) (h':H b=some u) (d:o≠u):a≠b:=by
 intro e;subst e;rw [h] at h';exact d (Zk h')
theorem zA7 {H:Hp}{a b:Addr}{o:HO} (h:H a=some o) (h':H b=none):a≠b:=by
 intro e;subst e;rw [h] at h';cases h'
section
variable (P:Program) (w:World)
noncomputable def ObjOk (H:Hp) (h:Heap) (a:Addr):HO→Prop
 | .lst xs=>xs.length≤sizeLine∧∃ (its:List Value) (n:Nat),Vals xs its∧h.get? a=some { cls:=.type "list",data:=.seq its.toArray n }
 | .tup xs=>xs.length≤sizeLine∧∃ its:List Value,Vals xs its∧IsTup h a its.toArray
 | .dK kvs=>kvs.length≤sizeLine∧(a == sysModules)=false∧∃ vs,KV kvs vs∧h.DictOf (mixKind P w) a vs
 | .dT kvs=>kvs.length≤sizeLine∧(a == sysModules)=false∧∃ xs:List (List Key×Addr×Value),
   Paired (fun (p:List Key×V) (q:List Key×Addr×Value)=>p.1=q.1∧H q.2.1=some (.tup (p.1.map kV))∧RelV p.2 q.2.2) kvs xs ∧
   ∃ o es ep,h.get? a=some o∧o.ExactDict∧o.data=.dict es ep∧es.toList=xs.map (entryOfKey (tupleKind (mixKind P w)))∧(xs.map (·.1)).Nodup
 | .set S n=>h.SetOf (intKind P w) a S n
 | .ins C dx fs=>H dx=some (.own a)∧fs.length≤1000∧dx≠a∧h.get? a=some (PySem.W.instObj C dx) ∧
   ∃ mA,h.Ns1 dx mA∧(∀ f,RelO (fs.lookup f) (mA f))∧PySem.Within mA (fs.map (·.1))
 | .own _=>∃ o,h.get? a=some o
 | .xd fs=>∃ mA,h.Ns1 a mA∧∀ f,RelO (fs.lookup f) (mA f)
 | .rng lo hi=>∃ t u v,h.get? a=some { cls:=.type "range",data:=.fields #[.int lo t,.int hi u,.int 1 v] }
 | .frz o u=>h.get? a=some o∧ObjOk H h a u
 | .tbl ps=>h.get? a=some { cls:=.none,data:=.fields ps }
 | .met f x=>h.get? a=some (PySem.W.methodObj (.ref f) (.ref x))
 | .ext φ=>φ h∧(∃ o,h.get? a=some o)∧∀ h1 h2:Heap,φ h1→(∀ o,h1.get? a=some o→h2.get? a=some o)→φ h2
noncomputable def HOk (H:Hp) (h:Heap):Prop:=∀ a o,H a=some o→ObjOk P w H h a o
end
section
variable {P:Program}{w:World}{H H':Hp}{h h':Heap}{a:Addr}{o:HO}
theorem ObjOk.lt (x:ObjOk P w H h a o):a < h.objs.size:=by
 cases o with
 | lst xs=>obtain ⟨_,_,_,_,e⟩:=x;exact Zd e
 | tup xs=>obtain ⟨_,_,_,p⟩:=x;exact p.lt
 | dK kvs=>obtain ⟨_,_,_,_,o,_,_,e,_⟩:=x;exact Zd e
 | dT kvs=>obtain ⟨_,_,_,_,o,_,_,e,_⟩:=x;exact Zd e
 | set S n=>obtain ⟨o,_,_,_,e,_⟩:=x;exact Zd e
 | ins C dx fs=>obtain ⟨_,_,_,e,_⟩:=x;exact Zd e
 | own y=>obtain ⟨_,e⟩:=x;exact Zd e
 | xd fs=>obtain ⟨_,⟨_,_,_,e,_⟩,_⟩:=x;exact Zd e
 | rng lo hi=>obtain ⟨_,_,_,e⟩:=x;exact Zd e
 | frz ob u=>obtain ⟨e,_⟩:=x;exact Zd e
 | tbl ps=>exact Zd (show h.get? a=some _ from x)
 | met f y=>exact Zd (show h.get? a=some _ from x)
 | ext φ=>obtain ⟨_,⟨_,e⟩,_⟩:=x;exact Zd e
theorem Paired.mapP {α β : Type}{F G : α→β→Prop}:∀ {l₁ : List α}{l₂ : List β},Paired F l₁ l₂→(∀ a b,F a b→G a b)→Paired G l₁ l₂
 | _,_,.nil,_=>.nil
 | _,_,.cons r t,f=>.cons (f _ _ r) (Paired.mapP t f)
theorem ObjOk.stay (x:ObjOk P w H h a o) (k:∀ b u,(b=a∨H b=some (.own a))→h.get? b=some u→h'.get? b=some u)
  (ho:∀ b,H b=some (.own a)→H' b=some (.own a)) (ht:∀ b xs,H b=some (.tup xs)→H' b=some (.tup xs)):ObjOk P w H' h' a o:=by
 induction o with
 | lst xs=>obtain ⟨z,its,n,r,e⟩:=x;exact ⟨z,its,n,r,k _ _ (.inl rfl) e⟩
 | tup xs=>obtain ⟨z,its,r,ob,e,c⟩:=x;exact ⟨z,its,r,ob,k _ _ (.inl rfl) e,c⟩
 | dK kvs=>obtain ⟨z,y,vs,r,ob,es,ep,e,c⟩:=x;exact ⟨z,y,vs,r,ob,es,ep,k _ _ (.inl rfl) e,c⟩
 | dT kvs =>
  obtain ⟨z,y,xs,r,ob,es,ep,e,c⟩:=x;exact ⟨z,y,xs,Paired.mapP r fun p q z=>⟨z.1,ht _ _ z.2.1,z.2.2⟩,ob,es,ep,k _ _ (.inl rfl) e,c⟩
 | set S n=>obtain ⟨ob,es,ep,t,e,c⟩:=x;exact ⟨ob,es,ep,t,k _ _ (.inl rfl) e,c⟩
 | ins C dx fs =>
  obtain ⟨d,z,ne,e,mA,⟨od,es,ep,e2,c⟩,r⟩:=x;exact ⟨ho _ d,z,ne,k _ _ (.inl rfl) e,mA,⟨od,es,ep,k _ _ (.inr d) e2,c⟩,r⟩
 | own y=>obtain ⟨ob,e⟩:=x;exact ⟨ob,k _ _ (.inl rfl) e⟩
 | xd fs=>obtain ⟨mA,⟨od,es,ep,e,c⟩,r⟩:=x;exact ⟨mA,⟨od,es,ep,k _ _ (.inl rfl) e,c⟩,r⟩
 | rng lo hi=>obtain ⟨t,u,v,e⟩:=x;exact ⟨t,u,v,k _ _ (.inl rfl) e⟩
 | frz ob u ih=>obtain ⟨e,q⟩:=x;exact ⟨k _ _ (.inl rfl) e,ih q⟩
 | tbl ps =>
  have e:h.get? a=some { cls:=.none,data:=.fields ps }:=x;show h'.get? a=some { cls:=.none,data:=.fields ps };exact k a _ (.inl rfl) e
 | met f y =>
  have e:h.get? a=some (PySem.W.methodObj (.ref f) (.ref y)):=x;show h'.get? a=some (PySem.W.methodObj (.ref f) (.ref y));exact k a _ (.inl rfl) e
 | ext φ=>obtain ⟨p,⟨o,e⟩,st⟩:=x;exact ⟨st _ _ p fun o q=>k _ _ (.inl rfl) q,⟨o,k _ _ (.inl rfl) e⟩,st⟩
theorem HOk.lt (x:HOk P w H h) (e:H a=some o):a < h.objs.size:=(x a o e).lt
theorem HOk.fresh (x:HOk P w H h) (e:h.objs.size≤a):H a=none:=by
 cases q:H a with
 | none=>rfl
 | some u=>exact absurd (Z8 (x.lt q) e) (Yl _)
theorem HOk.kept (x:HOk P w H h) (k:∀ b u,h.get? b=some u→h'.get? b=some u):HOk P w H h':=fun a o e =>
 (x a o e).stay (fun b u _ q=>k b u q) (fun _ q=>q) fun _ _ q=>q
theorem HOk.laid (x:HOk P w H h) (k:∀ b u,h.get? b=some u→h'.get? b=some u) (hp:h.objs.size≤a) (new:ObjOk P w (upd H a o) h' a o):HOk P w (upd H a o) h':=fun b u e=>by
 have hn:=x.fresh hp;by_cases hb:b=a
 ·subst hb;rw [zA1] at e;cases e;exact new
 ·rw [zA9 hb] at e;exact (x b u e).stay (fun c v _ q=>k c v q) (fun c q=>by rw [zA9 (zA7 q hn)];exact q) fun c xs q=>by rw [zA9 (zA7 q hn)];exact q
end
noncomputable def Rd (H:Hp) (a:Addr) (u:HO):Prop:=H a=some u∨∃ o,H a=some (.frz o u)
theorem Rd.of {H:Hp}{a:Addr}{u:HO} (h:H a=some u):Rd H a u:=.inl h
theorem Rd.ok {P:Program}{w:World}{H:Hp}{h:Heap}{a:Addr}{u:HO} (r:Rd H a u) (x:HOk P w H h):ObjOk P w H h a u:=by
 rcases r with r | ⟨o,r⟩
 ·exact x a u r
 ·obtain ⟨_,q⟩:=x a _ r;exact q
noncomputable def Mut:Option HO→Prop
 | some (.lst _)=>True
 | some (.dK _)=>True
 | some (.dT _)=>True
 | some (.set _ _)=>True
 | some (.ins _ _ _)=>True
 | some (.ext _)=>True
 | _=>False
section
variable {P:Program}{w:World}{H:Hp}{h h':Heap}{x e:Addr}{o':HO}
theorem HOk.write (ok:HOk P w H h) (mu:Mut (H x)) (he:e=x∨H e=some (.own x)) (k:∀ b u,b≠e→h.get? b=some u→h'.get? b=some u) (heo:∃ u,h'.get? e=some u)
  (new:ObjOk P w (upd H x o') h' x o'):HOk P w (upd H x o') h':=fun b u q=>by
 have nown:∀ c y,H c=some (.own y)→c≠x:=fun c y r z=>by subst z;rw [r] at mu;exact mu
 have ntup:∀ c xs,H c=some (.tup xs)→c≠x:=fun c xs r z=>by subst z;rw [r] at mu;exact mu
 by_cases hb:b=x
 ·subst hb;rw [zA1] at q;cases q;exact new
 ·rw [zA9 hb] at q;by_cases hbe:b=e
  ·have q':H b=some (.own x):=by
    rcases he with z | z
    ·exact absurd (hbe.trans z) hb
    ·rw [hbe];exact z
   rw [q] at q';cases q';obtain ⟨v,hv⟩:=heo;exact ⟨v,by rw [hbe];exact hv⟩
  ·refine (ok b u q).stay (fun c v hc r=>k c v ?_ r) (fun c r=>by rw [zA9 (nown c b r)];exact r) fun c xs r=>by rw [zA9 (ntup c xs r)];exact r
   rcases hc with rfl | hc
   ·exact hbe
   ·rintro rfl;rcases he with z | z
    ·exact nown c b hc z
    ·rw [hc] at z;cases z;exact hb rfl
end
structure Un (fs ex:List Addr) (H H':Hp) (h h':Heap):Prop where
 keep:∀ b o,h.get? b=some o→H b=none→b∉fs→b∉ex→h'.get? b=some o
 slot:∀ b o,h.get? b=some o→H b=none→b∈fs→b∉ex→∃ sl,h'.get? b=some { o with slots:=sl }
 free:∀ b o,h.get? b=some o→H b=none→b∉ex→H' b=none
 there:∀ b o,h.get? b=some o→b∉ex→∃ o',h'.get? b=some o'
 tups:∀ b xs,H b=some (.tup xs)→H' b=some (.tup xs)
 frzs:∀ b o u,H b=some (.frz o u)→H' b=some (.frz o u)
 tbls:∀ b ps,H b=some (.tbl ps)→∃ more,H' b=some (.tbl (ps++more))
section
variable {fs fs' ex ex':List Addr}{H H1 H2:Hp}{h h1 h2 h':Heap}{a x e:Addr}{o:HO}
theorem Un.any (u:Un fs ex H H1 h h1) {b:Addr}{ob:Obj} (q:h.get? b=some ob) (n:H b=none) (hx:b∉ex):∃ sl,h1.get? b=some { ob with slots:=sl }:=by
 by_cases hb:b∈fs
 ·exact u.slot b ob q n hb hx
 ·exact ⟨ob.slots,u.keep b ob q n hb hx⟩
theorem Un.trans (a:Un fs ex H H1 h h1) (b:Un fs ex H1 H2 h1 h2):Un fs ex H H2 h h2 where
 keep:=fun c ob q n hc hx=>b.keep c ob (a.keep c ob q n hc hx) (a.free c ob q n hx) hc hx
 slot:=fun c ob q n hc hx=>by
  obtain ⟨sl,e1⟩:=a.slot c ob q n hc hx;obtain ⟨sl',e2⟩:=b.slot c _ e1 (a.free c ob q n hx) hc hx;exact ⟨sl',e2⟩
 free:=fun c ob q n hx=>by
  obtain ⟨o',e1⟩:=a.there c ob q hx;exact b.free c o' e1 (a.free c ob q n hx) hx
 there:=fun c ob q hx=>by
  obtain ⟨o',e1⟩:=a.there c ob q hx;exact b.there c o' e1 hx
 tups:=fun c xs q=>b.tups c xs (a.tups c xs q)
 frzs:=fun c ob xs q=>b.frzs c ob xs (a.frzs c ob xs q)
 tbls:=fun c ps q=>by
  obtain ⟨m1,e1⟩:=a.tbls c ps q;obtain ⟨m2,e2⟩:=b.tbls c _ e1;exact ⟨m1++m2,by rw [e2,Array.append_assoc]⟩
theorem Un.kept (k:∀ b u,h.get? b=some u→h'.get? b=some u):Un fs ex H H h h' :=
 ⟨fun b ob q _ _ _=>k b ob q,fun b ob q _ _ _=>⟨ob.slots,k b ob q⟩,fun _ _ _ n _=>n,fun b ob q _=>⟨ob,k b ob q⟩,fun _ _ q=>q,fun _ _ _ q=>q,fun _ ps q=>⟨#[],by rw [q];simp⟩⟩
theorem Un.refl:Un fs ex H H h h:=Un.kept fun _ _ q=>q
theorem Un.laid (k:∀ b u,h.get? b=some u→h'.get? b=some u) (hp:h.objs.size≤a) (hn:H a=none):Un fs ex H (upd H a o) h h' where
 keep:=fun b u q _ _ _=>k b u q
 slot:=fun b u q _ _ _=>⟨u.slots,k b u q⟩
 free:=fun b u q n _=>by rw [zA9 (Zf (Z8 (Zd q) hp))];exact n
 there:=fun b u q _=>⟨u,k b u q⟩
 tups:=fun b xs q=>by rw [zA9 (zA7 q hn)];exact q
 frzs:=fun b u xs q=>by rw [zA9 (zA7 q hn)];exact q
 tbls:=fun b ps q=>⟨#[],by rw [zA9 (zA7 q hn),q];simp⟩
theorem Un.write (mu:Mut (H x)) (he:e=x∨H e=some (.own x)) (k:∀ b u,b≠e→h.get? b=some u→h'.get? b=some u) (heo:∃ u,h'.get? e=some u):Un fs ex H (upd H x o) h h':=by
 have hx:∀ b,H b=none→b≠x:=fun b n z=>by subst z;rw [n] at mu;exact mu
 have hb:∀ b,H b=none→b≠e:=fun b n z=>by
  subst z;rcases he with r | r
  ·exact hx b n r
  ·rw [n] at r;cases r
 have hm:∀ b u,H b=some u→¬ Mut (some u)→b≠x:=fun b u q nm z=>by subst z;rw [q] at mu;exact nm mu
 refine ⟨fun b u q n _ _=>k b u (hb b n) q,fun b u q n _ _=>⟨u.slots,k b u (hb b n) q⟩,fun b u q n _=>by rw [zA9 (hx b n)];exact n,fun b u q _=>?_,
  fun b xs q=>by rw [zA9 (hm b _ q fun z=>z)];exact q,fun b u xs q=>by rw [zA9 (hm b _ q fun z=>z)];exact q,fun b ps q=>⟨#[],by rw [zA9 (hm b _ q fun z=>z),q];simp⟩⟩
 by_cases hbe:b=e
 ·subst hbe;exact heo
 ·exact ⟨u,k b u hbe q⟩
end
noncomputable def trk (h:Heap) (H:Hp):List Addr:=(List.range h.objs.size).filter fun a=>(H a).isSome
noncomputable def hidT (h:Heap) (H:Hp):Heap:=PySem.W.hideAll h (trk h H)
theorem hidT_size (h:Heap) (H:Hp):(hidT h H).objs.size=h.objs.size:=PySem.W.hideAll_size _ _
theorem hidT_get {h:Heap}{H:Hp}{b:Addr}{o:Obj} (e:h.get? b=some o) (n:H b=none):(hidT h H).get? b=some o :=
 PySem.W.hideAll_get _ e fun hm=>by
  have q:(H b).isSome=true:=(List.mem_filter.mp hm).2;rw [n] at q;simp at q
theorem of_hidT {h:Heap}{H:Hp}{b:Addr}{o:Obj} (e:(hidT h H).get? b=some o):h.get? b=some o∧H b=none:=by
 have e':h.get? b=some o:=PySem.W.of_hideAll (trk h H) e;refine ⟨e',?_⟩;cases q:H b with
 | none=>rfl
 | some x =>
  have hm:b∈trk h H:=List.mem_filter.mpr ⟨List.mem_range.mpr (Zd e'),by simp [q]⟩;have z:(hidT h H).get? b=none:=PySem.W.hideAll_none (trk h H) hm;rw [z] at e;cases e
noncomputable def allNews (g h:Heap) (L:Addr):List (Addr×Obj):=(List.range h.objs.size).filterMap fun a=>if a=L∨(g.get? a).isSome=true then none else (h.get? a).map fun o=>(a,o)
noncomputable def rest (g h:Heap) (L d:Addr):List (Addr×Obj):=(allNews g h L).filter fun p=>decide (p.1≠d)
end L2
namespace L2
open PySem PySem.Spec PyProof.Rows
structure Mod (K:PySem.W.Frag) (mg:Str→Option Value) (base:Heap):Prop where
 kin:K.In base
 glob:base.Ns mainGlobals mg
 blt:∃ mb,base.Ns builtinsNs mb∧∀ x:Str,x≠"__name__"→mb x=bootBuiltins x
 nolimit:base.NoLimit
structure Cx where
 prog:Program
 w:World
 K:PySem.W.Frag
 mg:Str→Option Value
 base:Heap
 A:Around
 N:List Str
 s₀ : Shared
 H₀ : Hp
 env:Env
 outer:List Env
 stack:List Env
 ex:List Addr
 fn:Str→Bool
 calm:Bool
 pn:List (Addr×Obj)
 xe:Value→Shared→Prop
noncomputable def frs (l:List Env):List Addr:=l.filterMap (·.frame)
noncomputable abbrev Cx.fs (X:Cx):List Addr:=frs X.outer
noncomputable def Vis (sc:Scope) (x:Str):Prop:=sc.names.lookup x=some .local∨sc.names.lookup x=some .cell∨sc.names.lookup x=some .free
noncomputable def Loc (sc:Scope) (x:Str):Prop:=sc.names.lookup x=some .local∨sc.names.lookup x=some .cell
noncomputable def Look (env:Env) (h:Heap) (m:Str→Option Value) (x:Str) (u:Value):Prop :=
 (env.kindOf x=some .local∧m x=some u)∨((env.kindOf x=some .cell∨env.kindOf x=some .free)∧∃ c,env.cells.lookup x=some c∧h.IsCell c (some u))
structure Cx.Ok (X:Cx):Prop where
 mod:Mod X.K X.mg X.base
 kind:X.env.scope.kind=.function
 glob:X.env.globals=mainGlobals
 blt:X.env.builtins=builtinsNs
 above:X.s₀.heap.objs.size≤X.env.locals
 inj:∀ x y c,X.env.cells.lookup x=some c→X.env.cells.lookup y=some c→x=y
 has:∀ x,(X.env.kindOf x=some .cell∨X.env.kindOf x=some .free)→∃ c,X.env.cells.lookup x=some c
 cab:∀ x c,X.fn x=true→X.env.cells.lookup x=some c→X.s₀.heap.objs.size≤c
 hd:X.calm=true→X.A.handled=none
 frames:X.A.frames=some X.stack
 stk:X.stack=X.outer∨(X.stack=X.env :: X.outer∧X.env.frame=some X.env.locals)
 exf:∀ b∈X.ex,b≠X.env.locals∧∀ x c,X.env.cells.lookup x=some c→c≠b
 bs:∀ b o,X.base.get? b=some o→X.s₀.heap.get? b=some o∧X.H₀ b=none
 bsz:X.base.objs.size≤X.s₀.heap.objs.size
 noex:∀ b o,X.base.get? b=some o→b∉X.ex
 exfs:∀ b∈X.ex,b∉X.fs
 funs:X.s₀.heap.FunFrames X.base X.outer
 frf:∀ b∈X.fs,X.H₀ b=none
structure Inv (X:Cx) (pins:List (Addr×Obj)) (σ : List (Option V)) (H:Hp) (s:Shared):Prop where
 ok:X.Ok
 os:s.os=X.s₀.os
 bare:AllBare s.gens
 base:Un X.fs X.ex X.H₀ H X.s₀.heap s.heap
 loc:∃ m,s.heap.Ns X.env.locals m∧∀ (i:Nat) (x:Str) (v:V),X.N[i]? = some x→σ[i]? = some (some v)→Vis X.env.scope x→∃ u,RelV v u∧Look X.env s.heap m x u
 cell:∀ x c,X.env.cells.lookup x=some c→∃ v,s.heap.IsCell c v
 free:H X.env.locals=none
 freeC:∀ x c,X.env.cells.lookup x=some c→H c=none
 pin:∀ p∈X.pn++pins,s.heap.get? p.1=some p.2∧H p.1=none∧p.1≠X.env.locals∧p.1∉X.fs∧∀ v,p.2.data≠.cell v
 hok:HOk X.prog X.w H s.heap
 len : σ.length=X.N.length
section
variable {X:Cx}{pins:List (Addr×Obj)}{σ : List (Option V)}{H H':Hp}{s:Shared}{h':Heap}
theorem Cx.Ok.nofr (ok:X.Ok) {b:Addr}{o:Obj} (e:X.base.get? b=some o):b∉X.fs:=fun hb=>by
 have:=(ok.funs.mem hb).1;rw [e] at this;cases this
theorem Inv.bs (I:Inv X pins σ H s):∀ b o,X.base.get? b=some o→s.heap.get? b=some o∧H b=none:=fun b o e =>
 ⟨I.base.keep b o (I.ok.bs b o e).1 (I.ok.bs b o e).2 (I.ok.nofr e) (I.ok.noex b o e),I.base.free b o (I.ok.bs b o e).1 (I.ok.bs b o e).2 (I.ok.noex b o e)⟩
theorem Inv.bk (I:Inv X pins σ H s):∀ b o,X.base.get? b=some o→s.heap.get? b=some o:=fun b o e=>(I.bs b o e).1
theorem Inv.mod (I:Inv X pins σ H s):Mod X.K X.mg X.base:=I.ok.mod
theorem Inv.kIn (I:Inv X pins σ H s):X.K.In s.heap:=I.ok.mod.kin.keeps I.bk
theorem Inv.nolimit (I:Inv X pins σ H s):s.heap.NoLimit:=I.ok.mod.nolimit.keeps I.bk
theorem Inv.lt (I:Inv X pins σ H s):X.env.locals < s.heap.objs.size:=let ⟨_,hn,_⟩:=I.loc;hn.lt
theorem Inv.sz (I:Inv X pins σ H s):X.s₀.heap.objs.size≤s.heap.objs.size:=Zo I.ok.above (Zi I.lt)
theorem Inv.nofs (I:Inv X pins σ H s) {a:Addr} (h:s.heap.objs.size≤a):a∉X.fs:=fun hb=>by
 obtain ⟨_,o,ho,_⟩:=I.ok.funs.mem hb;exact absurd (Z8 (Zd ho) (Zo I.sz h)) (Yl _)
theorem Inv.cne (I:Inv X pins σ H s):∀ x c,X.env.cells.lookup x=some c→c≠X.env.locals:=fun x c e z=>by
 obtain ⟨v,o,ho,hd⟩:=I.cell x c e;obtain ⟨m,⟨o',es,ep,ho',hd',_⟩,_⟩:=I.loc;rw [z,ho'] at ho;cases ho;rw [hd'] at hd;cases hd
theorem Inv.funs (I:Inv X pins σ H s):s.heap.FunFrames X.base X.outer:=by
 have all:∀ (l:List Env),(∀ b∈frs l,b∈X.fs)→X.s₀.heap.FunFrames X.base l→s.heap.FunFrames X.base l:=by
  intro l
  induction l with
  | nil=>intro _ _;trivial
  | cons env r ih =>
   intro hs hl;obtain ⟨hk,⟨L,o,hf,hn,ho,hd⟩,hr⟩:=hl;have hL:L∈X.fs:=hs L (by unfold frs;rw [Y9,hf];exact Zg);obtain ⟨sl,e⟩:=I.base.slot L o ho (I.ok.frf L hL) hL fun z=>I.ok.exfs L z hL;exact ⟨hk,⟨L,_,hf,hn,e,hd⟩,ih (fun b hb=>hs b (by unfold frs;rw [Y9,hf];exact Zb _ hb)) hr⟩
 exact all X.outer (fun _ hb=>hb) I.ok.funs
theorem Inv.stack (I:Inv X pins σ H s):s.heap.FunFrames X.base X.stack:=by
 rcases I.ok.stk with e | ⟨e,hf⟩
 ·rw [e];exact I.funs
 ·rw [e];obtain ⟨m,hn,_⟩:=I.loc;refine .cons (by rw [I.ok.kind];decide) hf hn ?_ I.funs;exact Heap.get?_none_of_le (Zo I.ok.bsz I.ok.above)
theorem Inv.stkSub (I:Inv X pins σ H s):∀ b∈frs X.stack,b∈X.env.locals :: X.fs:=fun b hb=>by
 rcases I.ok.stk with e | ⟨e,hf⟩
 ·rw [e] at hb;exact Zb _ hb
 ·rw [e] at hb;unfold frs at hb;rw [Y9,hf] at hb;exact hb
theorem Inv.stkFree (I:Inv X pins σ H s):∀ b∈frs X.stack,H b=none:=fun b hb=>by
 rcases List.mem_cons.mp (I.stkSub b hb) with e | hb
 ·rw [e];exact I.free
 ·obtain ⟨_,o,ho,_⟩:=I.ok.funs.mem hb;exact I.base.free b o ho (I.ok.frf b hb) fun z=>I.ok.exfs b z hb
theorem Inv.step {g':Array GenState}{t':Nat}{d':Drawn}{ch:List Addr} (I:Inv X pins σ H s)
  (hch:∀ b∈ch,(b∈X.ex∨X.s₀.heap.get? b=none)∧b≠X.env.locals∧(∀ x c,X.env.cells.lookup x=some c→c≠b)∧∀ p∈X.pn++pins,p.1≠b)
  (keep:∀ b o,b≠X.env.locals→b∉X.fs→b∉ch→s.heap.get? b=some o→H b=none→h'.get? b=some o)
  (slot:∀ b o,b≠X.env.locals→b∈X.fs→b∉ch→s.heap.get? b=some o→H b=none→∃ sl,h'.get? b=some { o with slots:=sl }) (free:∀ b o,b∉ch→s.heap.get? b=some o→H b=none→H' b=none)
  (there:∀ b o,b∉ch→s.heap.get? b=some o→∃ o',h'.get? b=some o')
  (tups:∀ b xs,H b=some (.tup xs)→H' b=some (.tup xs)) (frzs:∀ b o u,H b=some (.frz o u)→H' b=some (.frz o u)) (tbls:∀ b ps,H b=some (.tbl ps)→∃ more,H' b=some (.tbl (ps++more)))
  (ns:∀ m,s.heap.Ns X.env.locals m→h'.Ns X.env.locals m) (hok:HOk X.prog X.w H' h') (hg:AllBare g') :
  Inv X pins σ H' { s with heap:=h',gens:=g',drawn:=d',toks:=t' }:=by
 have neL:∀ b o,X.s₀.heap.get? b=some o→b≠X.env.locals:=fun b o e=>Zf (Z8 (Zd e) I.ok.above);have neC:∀ b o,X.s₀.heap.get? b=some o→b∉X.ex→b∉ch:=fun b o e hx hb=>by
  rcases (hch b hb).1 with z | z
  ·exact hx z
  ·rw [z] at e;cases e
 have cellK:∀ x c,X.env.cells.lookup x=some c→∀ v,s.heap.IsCell c v→h'.IsCell c v:=fun x c e v ⟨o,ho,hd⟩=>by
  have nch:c∉ch:=fun z=>(hch c z).2.2.1 x c e rfl;by_cases hc:c∈X.fs
  ·obtain ⟨sl,q⟩:=slot c o (I.cne x c e) hc nch ho (I.freeC x c e);exact ⟨_,q,hd⟩
  ·exact ⟨o,keep c o (I.cne x c e) hc nch ho (I.freeC x c e),hd⟩
 refine ⟨I.ok,I.os,hg,⟨fun b o e n hb hx=>?_,fun b o e n hb hx=>?_,fun b o e n hx=>?_,fun b o e hx=>?_,fun b xs e=>tups b xs (I.base.tups b xs e),fun b o xs e=>frzs b o xs (I.base.frzs b o xs e),fun b ps e=>?_⟩,?_,fun x c e=>?_,?_,fun x c e=>?_,fun p hp=>?_,hok,I.len⟩
 ·exact keep b o (neL b o e) hb (neC b o e hx) (I.base.keep b o e n hb hx) (I.base.free b o e n hx)
 ·obtain ⟨sl,e1⟩:=I.base.slot b o e n hb hx;obtain ⟨sl',e2⟩:=slot b _ (neL b o e) hb (neC b o e hx) e1 (I.base.free b o e n hx);exact ⟨sl',e2⟩
 ·obtain ⟨o',e1⟩:=I.base.there b o e hx;exact free b o' (neC b o e hx) e1 (I.base.free b o e n hx)
 ·obtain ⟨o',e1⟩:=I.base.there b o e hx;exact there b o' (neC b o e hx) e1
 ·obtain ⟨m1,e1⟩:=I.base.tbls b ps e;obtain ⟨m2,e2⟩:=tbls b _ e1;exact ⟨m1++m2,by rw [e2,Array.append_assoc]⟩
 ·obtain ⟨m,hn,hl⟩:=I.loc;refine ⟨m,ns m hn,fun i x v e1 e2 e3=>?_⟩;obtain ⟨u,r,l⟩:=hl i x v e1 e2 e3;refine ⟨u,r,?_⟩;rcases l with l | ⟨k,c,e,z⟩
  ·exact .inl l
  ·exact .inr ⟨k,c,e,cellK x c e _ z⟩
 ·obtain ⟨v,z⟩:=I.cell x c e;exact ⟨v,cellK x c e v z⟩
 ·obtain ⟨m,⟨o,_,_,ho,_⟩,_⟩:=I.loc;exact free _ o (fun z=>(hch _ z).2.1 rfl) ho I.free
 ·obtain ⟨v,o,ho,hd⟩:=I.cell x c e;exact free c o (fun z=>(hch c z).2.2.1 x c e rfl) ho (I.freeC x c e)
 ·obtain ⟨e,n,ne,nf,d⟩:=I.pin p hp;have nch:p.1∉ch:=fun z=>(hch p.1 z).2.2.2 p hp rfl;exact ⟨keep p.1 p.2 ne nf nch e n,free p.1 p.2 nch e n,ne,nf,d⟩
theorem Inv.un {t':Nat} (I:Inv X pins σ H s) (u:Un X.fs [] H H' s.heap h') (hok:HOk X.prog X.w H' h'):Inv X pins σ H' { s with heap:=h',toks:=t' }:=by
 obtain ⟨m,⟨o,es,ep,ho,r⟩,_⟩:=id I.loc;obtain ⟨sl,hL⟩:=u.any ho I.free (by simp)
 exact I.step (g':=s.gens) (d':=s.drawn) (ch:=[]) (fun _ z=>nomatch z) (fun b o _ hb _ e n=>u.keep b o e n hb (by simp)) (fun b o _ hb _ e n=>u.slot b o e n hb (by simp)) (fun b o _ e n=>u.free b o e n (by simp)) (fun b o _ e=>u.there b o e (by simp)) u.tups u.frzs u.tbls (fun m' hm=>by
  obtain ⟨o',es',ep',ho',r'⟩:=hm;rw [ho] at ho';cases ho'
  exact ⟨_,es',ep',hL,r'⟩) hok I.bare
theorem Inv.call {g':Array GenState}{t':Nat}{d':Drawn}{ch:List Addr} (I:Inv X pins σ H s) (u:Un (frs X.stack) ch H H' s.heap h') (hok:HOk X.prog X.w H' h') (hg:AllBare g')
  (hch:∀ b∈ch,(b∈X.ex∨X.s₀.heap.objs.size≤b)∧b≠X.env.locals∧(∀ x c,X.env.cells.lookup x=some c→c≠b)∧∀ p∈X.pn++pins,p.1≠b) :
  Inv X pins σ H' { s with heap:=h',gens:=g',drawn:=d',toks:=t' }:=by
 obtain ⟨m,⟨o,es,ep,ho,r⟩,_⟩:=id I.loc;obtain ⟨sl,hL⟩:=u.any ho I.free fun z=>(hch _ z).2.1 rfl
 exact I.step (ch:=ch) (fun b hb=>⟨(hch b hb).1.imp_right fun z=>Heap.get?_none_of_le z,(hch b hb).2⟩) (fun b o hL hb hc e n=>u.keep b o e n (fun z=>(List.mem_cons.mp (I.stkSub b z)).elim hL hb) hc) (fun b o _ _ hc e n=>u.any e n hc) (fun b o hc e n=>u.free b o e n hc) (fun b o hc e=>u.there b o e hc) u.tups u.frzs u.tbls (fun m' hm=>by
  obtain ⟨o',es',ep',ho',r'⟩:=hm;rw [ho] at ho';cases ho'
  exact ⟨_,es',ep',hL,r'⟩) hok hg
theorem Inv.turned {t':Nat}{it:Addr} (I:Inv X pins σ H s) (k:∀ b o,b≠it→s.heap.get? b=some o→h'.get? b=some o) (hn:H it=none) (hL:it≠X.env.locals)
  (h1:it∈X.ex∨X.s₀.heap.objs.size≤it) (h2:∀ x c,X.env.cells.lookup x=some c→c≠it) (h3:∀ p∈X.pn++pins,p.1≠it):Inv X pins σ H { s with heap:=h',toks:=t' }:=by
 have nit:∀ b u,H b=some u→b≠it:=fun b u e z=>by rw [z,hn] at e;cases e
 refine I.step (g':=s.gens) (d':=s.drawn) (ch:=[it]) (fun b hb=>?_) (fun b o _ _ hc e _=>k b o (fun z=>hc (by simp [z])) e) (fun b o _ _ hc e _=>⟨o.slots,k b o (fun z=>hc (by simp [z])) e⟩) (fun _ _ _ _ n=>n)
  (fun b o hc e=>⟨o,k b o (fun z=>hc (by simp [z])) e⟩) (fun _ _ e=>e) (fun _ _ _ e=>e) (fun b ps e=>⟨#[],by rw [e];simp⟩) (fun m hm=>?_) (fun b u e=>?_) I.bare
 ·have e:b=it:=by simpa using hb
  subst e;exact ⟨h1.imp_right fun z=>Heap.get?_none_of_le z,hL,h2,h3⟩
 ·obtain ⟨o,es,ep,ho,r⟩:=hm;exact ⟨o,es,ep,k _ o (Ne.symm hL) ho,r⟩
 ·refine (I.hok b u e).stay (fun c v hc q=>k c v ?_ q) (fun _ q=>q) fun _ _ q=>q;rcases hc with z | z
  ·rw [z];exact nit b u e
  ·exact nit c _ z
theorem Inv.tok (I:Inv X pins σ H s) (t:Nat):Inv X pins σ H { s with toks:=t }:=I.un (h':=s.heap) (t':=t) Un.refl I.hok
theorem Inv.kept {t':Nat} (I:Inv X pins σ H s) (k:∀ b u,s.heap.get? b=some u→h'.get? b=some u):Inv X pins σ H { s with heap:=h',toks:=t' }:=I.un (Un.kept k) (I.hok.kept k)
theorem Inv.laid {a:Addr}{o:HO}{t':Nat} (I:Inv X pins σ H s) (k:∀ b u,s.heap.get? b=some u→h'.get? b=some u) (hp:s.heap.objs.size≤a) (new:ObjOk X.prog X.w (upd H a o) h' a o) :
  Inv X pins σ (upd H a o) { s with heap:=h',toks:=t' }:=I.un (Un.laid k hp (I.hok.fresh hp)) (I.hok.laid k hp new)
theorem Inv.write {x e:Addr}{o:HO}{t':Nat} (I:Inv X pins σ H s) (mu:Mut (H x)) (he:e=x∨H e=some (.own x)) (k:∀ b u,b≠e→s.heap.get? b=some u→h'.get? b=some u) (heo:∃ u,h'.get? e=some u)
  (new:ObjOk X.prog X.w (upd H x o) h' x o):Inv X pins σ (upd H x o) { s with heap:=h',toks:=t' }:=I.un (Un.write mu he k heo) (I.hok.write mu he k heo new)
theorem Inv.pins_of {pins':List (Addr×Obj)} (I:Inv X pins σ H s) (h:∀ p∈pins',s.heap.get? p.1=some p.2∧H p.1=none∧p.1≠X.env.locals∧p.1∉X.fs∧∀ v,p.2.data≠.cell v):Inv X pins' σ H s :=
 ⟨I.ok,I.os,I.bare,I.base,I.loc,I.cell,I.free,I.freeC,fun p hp=>(List.mem_append.mp hp).elim (fun z=>I.pin p (Y6 _ z)) (h p),I.hok,I.len⟩
theorem zF3 {N:List Str} (hN:N.Nodup) {i j:Nat}{x:Str} (a:N[i]? = some x) (b:N[j]? = some x):i=j:=by
 obtain ⟨h1,e1⟩:=List.getElem?_eq_some_iff.mp a;obtain ⟨h2,e2⟩:=List.getElem?_eq_some_iff.mp b;exact (List.getElem_inj hN).mp (e1.trans e2.symm)
theorem store_ok2 {M:Model}{A:Around}{E:Value→Shared→Prop}{i:Nat}{x:Str}{v:V}{u:Value}{Q:Unit→Shared→Prop} (I:Inv X pins σ H s) (hN:X.N.Nodup) (hi:X.N[i]? = some x) (hx:Loc X.env.scope x) (r:RelV v u)
  (h:∀ s',Inv X pins (σ.set i (some v)) H s'→(∃ a,Heap.SameBut a s.heap s'.heap∧(a=X.env.locals∨X.env.cells.lookup x=some a))→Q () s') (hf:X.fn x=true∨X.env.scope.names.lookup x=some .local:=by first | exact .inl rfl | exact .inr rfl | assumption):wpAny M A (storeName X.env x u) Q E s:=by
 obtain ⟨m,hn,hl⟩:=id I.loc;have hcls:(X.env.scope.kind == .class || (X.env.scope.kind == .module && X.env.locals != X.env.globals))=false:=by rw [I.ok.kind];rfl
 have hiσ : i < σ.length:=by rw [I.len];exact (List.getElem?_eq_some_iff.mp hi).1
 have cne:=I.cne;have tracked:∀ {a:Addr}{h':Heap},(∃ o,s.heap.get? a=some o∧H a=none)→Heap.SameBut a s.heap h'→HOk X.prog X.w H h':=fun {a h'} ha hs b ob e=>by
  obtain ⟨_,_,hfree⟩:=ha;refine (I.hok b ob e).stay (fun c w' hc q=>(hs.2 c ?_).trans q) (fun _ q=>q) fun _ _ q=>q;rintro rfl;rcases hc with rfl | hc
  ·rw [hfree] at e;cases e
  ·rw [hfree] at hc;cases hc
 rcases hx with hk | hk
 ·refine wpAny_storeName_local hk hn (fun h' hn' hs=>?_) hcls;obtain ⟨oL,_,_,hoL,_⟩:=id hn;refine h _ ⟨I.ok,I.os,I.bare,⟨fun b o e n hb hx=>?_,fun b o e n hb hx=>?_,I.base.free,fun b o e hx=>?_,I.base.tups,I.base.frzs,I.base.tbls⟩,⟨_,hn',fun j y v' e1 e2 e3=>?_⟩,fun y c e=>?_,I.free,I.freeC,fun p hp=>?_,tracked ⟨oL,hoL,I.free⟩ hs,by simpa using I.len⟩ ⟨_,hs,.inl rfl⟩
  ·exact (hs.2 b (Zf (Z8 (Zd e) I.ok.above))).trans (I.base.keep b o e n hb hx)
  ·obtain ⟨sl,e1⟩:=I.base.slot b o e n hb hx;exact ⟨sl,(hs.2 b (Zf (Z8 (Zd e) I.ok.above))).trans e1⟩
  ·obtain ⟨o',e1⟩:=I.base.there b o e hx;exact ⟨o',(hs.2 b (Zf (Z8 (Zd e) I.ok.above))).trans e1⟩
  ·by_cases hj:j=i
   ·subst hj;rw [hi] at e1;cases e1;rw [List.getElem?_set_self hiσ] at e2;cases e2;exact ⟨u,r,.inl ⟨hk,by simp⟩⟩
   ·rw [Yh (Ne.symm hj)] at e2;obtain ⟨u',r',q⟩:=hl j y v' e1 e2 e3;refine ⟨u',r',?_⟩;rcases q with ⟨k,e⟩ | ⟨k,c,e,z⟩
    ·refine .inl ⟨k,?_⟩;have:y≠x:=fun e=>hj (zF3 hN e1 (e ▸ hi));simp [this,e]
    ·exact .inr ⟨k,c,e,z.sameBut hs (cne y c e)⟩
  ·obtain ⟨w',z⟩:=I.cell y c e;exact ⟨w',z.sameBut hs (cne y c e)⟩
  ·obtain ⟨e,n,ne,nf,d⟩:=I.pin p hp;exact ⟨(hs.2 p.1 ne).trans e,n,ne,nf,d⟩
 ·have hfn:X.fn x=true:=by
   rcases hf with z | z
   ·exact z
   ·rw [z] at hk;cases hk
  obtain ⟨c,hc⟩:=I.ok.has x (.inl hk);obtain ⟨w',z⟩:=I.cell x c hc;refine wpAny_storeName_cell I.ok.kind hk hc z (fun h' hc' hs=>?_);obtain ⟨oc,hoc,hocd⟩:=id z;refine h { s with heap:=h' } ⟨I.ok,I.os,I.bare,⟨fun b o e n hb hx=>?_,fun b o e n hb hx=>?_,I.base.free,fun b o e hx=>?_,I.base.tups,I.base.frzs,I.base.tbls⟩,⟨m,hn.sameBut hs (Ne.symm (cne x c hc)),fun j y v' e1 e2 e3=>?_⟩,fun y c' e=>?_,I.free,I.freeC,fun p hp=>?_,tracked ⟨oc,hoc,I.freeC x c hc⟩ hs,by simpa using I.len⟩ ⟨c,hs,.inr hc⟩
  ·exact (hs.2 b (Zf (Z8 (Zd e) (I.ok.cab x c hfn hc)))).trans (I.base.keep b o e n hb hx)
  ·obtain ⟨sl,e1⟩:=I.base.slot b o e n hb hx;exact ⟨sl,(hs.2 b (Zf (Z8 (Zd e) (I.ok.cab x c hfn hc)))).trans e1⟩
  ·obtain ⟨o',e1⟩:=I.base.there b o e hx;exact ⟨o',(hs.2 b (Zf (Z8 (Zd e) (I.ok.cab x c hfn hc)))).trans e1⟩
  ·by_cases hj:j=i
   ·subst hj;rw [hi] at e1;cases e1;rw [List.getElem?_set_self hiσ] at e2;cases e2;exact ⟨u,r,.inr ⟨.inl hk,c,hc,hc'⟩⟩
   ·rw [Yh (Ne.symm hj)] at e2;obtain ⟨u',r',q⟩:=hl j y v' e1 e2 e3;refine ⟨u',r',?_⟩;rcases q with q | ⟨k,c',e,z'⟩
    ·exact .inl q
    ·refine .inr ⟨k,c',e,z'.sameBut hs ?_⟩;rintro rfl;exact hj (zF3 hN e1 (I.ok.inj _ _ _ e hc ▸ hi))
  ·by_cases hcc:c'=c
   ·subst hcc;exact ⟨_,hc'⟩
   ·obtain ⟨w2,z2⟩:=I.cell y c' e;exact ⟨w2,z2.sameBut hs hcc⟩
  ·obtain ⟨e,n,ne,nf,d⟩:=I.pin p hp;refine ⟨(hs.2 p.1 ?_).trans e,n,ne,nf,d⟩;intro q;rw [q,hoc] at e;have q':oc=p.2:=Zk e;exact d w' (by rw [← q'];exact hocd)
theorem zEp {M:Model}{A:Around}{E:Value→Shared→Prop}{i:Nat}{x:Str}{v:V}{u:Value}{Q:Unit→Shared→Prop} (I:Inv X pins σ H s) (hN:X.N.Nodup) (hi:X.N[i]? = some x) (hx:Loc X.env.scope x) (r:RelV v u)
  (h:∀ s',Inv X pins (σ.set i (some v)) H s'→Q () s') (hf:X.fn x=true∨X.env.scope.names.lookup x=some .local:=by first | exact .inl rfl | exact .inr rfl | assumption):wpAny M A (storeName X.env x u) Q E s :=
 store_ok2 I hN hi hx r (fun s' I' _=>h s' I') hf
theorem Inv.call' {s':Shared}{ch:List Addr} (I:Inv X pins σ H s) (ho:s'.os=s.os) (u:Un (frs X.stack) ch H H' s.heap s'.heap) (hok:HOk X.prog X.w H' s'.heap) (hg:AllBare s'.gens)
  (hch:∀ b∈ch,(b∈X.ex∨X.s₀.heap.objs.size≤b)∧b≠X.env.locals∧(∀ x c,X.env.cells.lookup x=some c→c≠b)∧∀ p∈X.pn++pins,p.1≠b):Inv X pins σ H' s':=by
 obtain ⟨h',g',d',t',o'⟩:=s';have e:o'=s.os:=ho;subst e;exact I.call (g':=g') (t':=t') (d':=d') u hok hg hch
end
noncomputable abbrev XK:=Value→Option Addr→Hp→Prop
noncomputable abbrev St:=List (Option V)
noncomputable abbrev VK:=V→Hp→Prop
noncomputable abbrev TE:=St→Hp→VK→Prop
noncomputable abbrev TT:=St→Hp→(Bool→Hp→Prop)→Prop
noncomputable abbrev TA:=St→Hp→(List V→Hp→Prop)→Prop
structure Ends where
 nx:St→Hp→Prop
 rt:VK
 bk:St→Hp→Prop:=fun _ _=>False
 ct:St→Hp→Prop:=fun _ _=>False
noncomputable abbrev TS:=Ends→St→Hp→Prop
noncomputable def EP (X:Cx) (pins:List (Addr×Obj)) (σ : St) (Q:VK) (u:Value) (s':Shared):Prop:=∃ v H',Inv X pins σ H' s'∧RelV v u∧Q v H'
noncomputable def TP (X:Cx) (pins:List (Addr×Obj)) (σ : St) (Q:Bool→Hp→Prop) (b:Bool) (s':Shared):Prop:=∃ H',Inv X pins σ H' s'∧Q b H'
noncomputable def AP (X:Cx) (pins:List (Addr×Obj)) (σ : St) (Q:List V→Hp→Prop) (us:List Value) (s':Shared):Prop:=∃ vs H',Inv X pins σ H' s'∧Vals vs us∧Q vs H'
noncomputable def SP (X:Cx) (pins:List (Addr×Obj)) (D:Ends) (f:Flow) (s':Shared):Prop :=
 match f with
 | .next=>∃ σ' H',Inv X pins σ' H' s'∧D.nx σ' H'
 | .brk=>∃ σ' H',Inv X pins σ' H' s'∧D.bk σ' H'
 | .cont=>∃ σ' H',Inv X pins σ' H' s'∧D.ct σ' H'
 | .ret u=>∃ v σ' H',Inv X pins σ' H' s'∧RelV v u∧D.rt v H'
noncomputable def PE (X:Cx) (e:Expr) (t:TE):Prop :=
 ∀ (pins:List (Addr×Obj)) (s:Shared) (σ : St) (H:Hp) (Q:VK),Inv X pins σ H s→t σ H Q→wpAny (model X.prog X.w) X.A (eval e X.env) (EP X pins σ Q) X.xe s
noncomputable def PT (X:Cx) (e:Expr) (t:TT):Prop :=
 ∀ (pins:List (Addr×Obj)) (s:Shared) (σ : St) (H:Hp) (Q:Bool→Hp→Prop),Inv X pins σ H s→t σ H Q→wpAny (model X.prog X.w) X.A (isTrue e X.env (eval e X.env)) (TP X pins σ Q) X.xe s
noncomputable def PW (X:Cx) (e:Expr) (t:TT):Prop :=
 ∀ (whole:Sem Value) (pins:List (Addr×Obj)) (s:Shared) (σ : St) (H:Hp) (Q:Bool→Hp→Prop),Inv X pins σ H s→t σ H Q→wpAny (model X.prog X.w) X.A (isTrue e X.env whole) (TP X pins σ Q) X.xe s
theorem PW.pt {X:Cx}{e:Expr}{t:TT} (h:PW X e t):PT X e t:=h _
noncomputable def PA (X:Cx) (es:List Expr) (t:TA):Prop :=
 ∀ (pos:Pos) (pins:List (Addr×Obj)) (s:Shared) (σ : St) (H:Hp) (Q:List V→Hp→Prop),Inv X pins σ H s→t σ H Q→wpAny (model X.prog X.w) X.A (spliced (backTo pos (starEach es X.env))) (AP X pins σ Q) X.xe s
noncomputable def PS (X:Cx) (st:Stmt) (t:TS):Prop :=
 ∀ (pins:List (Addr×Obj)) (s:Shared) (σ : St) (H:Hp) (D:Ends),Inv X pins σ H s→t D σ H→wpAny (model X.prog X.w) X.A (exec st X.env) (SP X pins D) X.xe s
noncomputable def PSs (X:Cx) (st:List Stmt) (t:TS):Prop :=
 ∀ (pins:List (Addr×Obj)) (s:Shared) (σ : St) (H:Hp) (D:Ends),Inv X pins σ H s→t D σ H→wpAny (model X.prog X.w) X.A (execs st X.env) (SP X pins D) X.xe s
theorem thn {α : Type}{t:Sem α}{Q Q' : α→Shared→Prop}{M:Model}{A:Around}{E:Value→Shared→Prop}{s:Shared} (h:wpAny M A t Q E s) (hQ:∀ a s,Q a s→Q' a s):wpAny M A t Q' E s:=wpAny_mono h hQ fun _ _ x=>x
end L2
namespace L2
open PySem PySem.Spec PyProof.Rows
section
variable {X:Cx}
theorem bin {a b:Expr}{ta tb:TE} (ha:PE X a ta) (hb:PE X b tb) {pins:List (Addr×Obj)}{s:Shared}{σ : St}{H:Hp}{R:V→V→Hp→Prop} (I:Inv X pins σ H s) (h:ta σ H fun x H1=>tb σ H1 fun y H2=>R x y H2)
  {α : Type}{Q : α→Shared→Prop}{f:Value→Value→Sem α}
  (hf:∀ v u s2 x y H2,Inv X pins σ H2 s2→RelV x v→RelV y u→R x y H2→wpAny (model X.prog X.w) X.A (f v u) Q X.xe s2) :
  wpAny (model X.prog X.w) X.A (eval a X.env) (fun v s₁=>wpAny (model X.prog X.w) X.A (eval b X.env) (fun u s₂=>wpAny (model X.prog X.w) X.A (f v u) Q X.xe s₂) X.xe s₁) X.xe s:=by
 refine thn (ha pins s σ H _ I h) fun v s1 ⟨x,H1,I1,r1,q1⟩=>?_;refine thn (hb pins s1 σ H1 _ I1 q1) fun u s2 ⟨y,H2,I2,r2,q2⟩=>?_;exact hf v u s2 x y H2 I2 r1 r2 q2
noncomputable def tVar (i:Nat):TE:=fun σ H Q=>∃ v,σ[i]? = some (some v)∧Q v H
noncomputable def tC (v:V):TE:=fun _ H Q=>Q v H
theorem pe_var {i:Nat}{x:Str}{pos:Pos} (hN:X.N[i]? = some x) (hv:Vis X.env.scope x) (hd:(x == ("__debug__" : Str))=false:=by decide) (hcd:(x == ("__classdict__" : Str))=false:=by decide):PE X (.Name x pos) (tVar i):=by
 intro pins s σ H Q I h;obtain ⟨v,e,h⟩:=h;obtain ⟨m,hn,hl⟩:=I.loc;obtain ⟨u,r,l⟩:=hl i x v hN e hv;have fin:EP X pins σ Q u s:=⟨v,H,I,r,h⟩;rcases l with ⟨hk,hm⟩ | ⟨hk,c,hc,hcell⟩
 ·exact wpAny_Name (wpAny_loadName_local I.ok.kind hk hn hm fin) hd
 ·rcases hk with hk | hk
  ·exact wpAny_Name (wpAny_loadName_cell I.ok.kind hk hc hcell fin) hd
  ·exact wpAny_Name (wpAny_loadName_free I.ok.kind hk hc hcell fin hcd) hd
theorem zA4 {i j pos}:PE X (.Constant (.int i) j pos) (tC (.int i)):=fun _ _ _ H _ I h=>wpAny_Constant_int ⟨.int i,H,I.tok _,⟨_,rfl⟩,h⟩
theorem zCd {b j pos}:PE X (.Constant (.bool b) j pos) (tC (.bl b)):=fun _ _ _ H _ I h=>Constant_bool ⟨.bl b,H,I,rfl,h⟩
theorem zBo {j pos}:PE X (.Constant .none j pos) (tC .non):=fun _ _ _ H _ I h=>Constant_none ⟨.non,H,I,rfl,h⟩
theorem zAf {x j pos}:PE X (.Constant (.str x) j pos) (tC (.str x)):=fun _ _ _ H _ I h=>Calls.Constant_str ⟨.str x,H,I.tok _,⟨_,rfl⟩,h⟩
noncomputable def Gl (X:Cx) (x:Str):Prop:=X.env.kindOf x=some .globalImplicit
theorem zDh {E:Value→Shared→Prop}{pins:List (Addr×Obj)}{s:Shared}{σ : St}{H:Hp}{x:Str}{u:Value}{pos:Pos}{Q:Value→Shared→Prop} (I:Inv X pins σ H s) (hg:Gl X x) (hm:X.mg x=some u) (h:Q u s)
  (hd:(x == ("__debug__" : Str))=false:=by decide):wpAny (model X.prog X.w) X.A (eval (.Name x pos) X.env) Q E s :=
 Calls.Name_function_global I.ok.kind hg (Calls.loadGlobal_global (by rw [I.ok.glob];exact I.mod.glob.keeps I.bk) hm h) hd
theorem ld_blt {E:Value→Shared→Prop}{pins:List (Addr×Obj)}{s:Shared}{σ : St}{H:Hp}{x:Str}{u:Value}{pos:Pos}{Q:Value→Shared→Prop} (I:Inv X pins σ H s) (hg:Gl X x) (hm:X.mg x=none) (hv:bootBuiltins x=some u) (h:Q u s)
  (hn:x≠"__name__":=by decide) (hd:(x == ("__debug__" : Str))=false:=by decide):wpAny (model X.prog X.w) X.A (eval (.Name x pos) X.env) Q E s:=by
 obtain ⟨mb,h1,h2⟩:=I.mod.blt;exact Calls.Name_function_global I.ok.kind hg (Calls.loadGlobal_builtin (by rw [I.ok.glob];exact I.mod.glob.keeps I.bk) hm (by rw [I.ok.blt];exact h1.keeps I.bk) ((h2 x hn).trans hv) h) hd
theorem zAv {x:Str}{v:V}{u:Value}{pos:Pos} (hg:Gl X x) (hm:X.mg x=some u) (r:RelV v u) (hd:(x == ("__debug__" : Str))=false:=by decide):PE X (.Name x pos) (tC v) :=
 fun _ _ _ H _ I h=>zDh I hg hm ⟨v,H,I,r,h⟩ hd
theorem zBk {x:Str}{v:V}{u:Value}{pos:Pos} (hg:Gl X x) (hm:X.mg x=none) (hv:bootBuiltins x=some u) (r:RelV v u) (hn:x≠"__name__":=by decide) (hd:(x == ("__debug__" : Str))=false:=by decide):PE X (.Name x pos) (tC v) :=
 fun _ _ _ H _ I h=>ld_blt I hg hm hv ⟨v,H,I,r,h⟩ hn hd
variable {a b:Expr}{ta tb:TE}{pos:Pos}
noncomputable def PC (X:Cx) (op:CmpOp) (a b:Expr) (t:TE):Prop :=
 ∀ (pins:List (Addr×Obj)) (s:Shared) (σ : St) (H:Hp) (Q:VK),Inv X pins σ H s→t σ H Q →
  wpAny (model X.prog X.w) X.A (eval a X.env) (fun v s₁=>wpAny (model X.prog X.w) X.A (eval b X.env) (fun u s₂=>wpAny (model X.prog X.w) X.A (compareOp op v u) (EP X pins σ Q) X.xe s₂) X.xe s₁) X.xe s
theorem nobehind (b:Expr) {op:CmpOp} (h:op≠.In) (h2:op≠.NotIn):behindInMarks op b=false:=by
 have e1:(op == CmpOp.In)=false:=by cases op <;> first | rfl | exact absurd rfl h
 have e2:(op == CmpOp.NotIn)=false:=by cases op <;> first | rfl | exact absurd rfl h2
 cases b <;> simp [behindInMarks,e1,e2]
noncomputable def tIsN (ta:TE):TE:=fun σ H Q=>ta σ H fun x H1=>Q (.bl (decide (x=.non))) H1
noncomputable def tNotN (ta:TE):TE:=fun σ H Q=>ta σ H fun x H1=>Q (.bl (!decide (x=.non))) H1
theorem RelV.none_iff {x:V}{v:Value} (r:RelV x v):(v == Value.none)=decide (x=.non):=by
 cases x with
 | non=>cases r;rfl
 | bl _=>cases r;rfl
 | int _=>obtain ⟨t,rfl⟩:=r;rfl
 | str _=>obtain ⟨t,rfl⟩:=r;rfl
 | byt _=>obtain ⟨t,rfl⟩:=r;rfl
 | flt _=>obtain ⟨t,rfl⟩:=r;rfl
 | ref _=>cases r;rfl
 | ty _=>cases r;rfl
theorem zEf {j pos'} (ha:PE X a ta):PC X .Is a (.Constant .none j pos') (tIsN ta):=by
 intro pins s σ H Q I h;refine thn (ha pins s σ H _ I h) fun v s1 ⟨x,H1,I1,r1,q1⟩=>?_;exact Constant_none (is_none_gen ⟨.bl _,H1,I1,by rw [r1.none_iff];rfl,q1⟩)
theorem zEz {j pos'} (ha:PE X a ta):PC X .IsNot a (.Constant .none j pos') (tNotN ta):=by
 intro pins s σ H Q I h;refine thn (ha pins s σ H _ I h) fun v s1 ⟨x,H1,I1,r1,q1⟩=>?_;exact Constant_none (isnot_none_gen ⟨.bl _,H1,I1,by rw [r1.none_iff];rfl,q1⟩)
noncomputable def tB (t:TE):TT:=fun σ H Q=>t σ H fun x H1=>∃ c,x=.bl c∧Q c H1
theorem zCh {op:CmpOp}{t:TE} (h:PC X op a b t) (h1:behindInMarks op b=false:=by first | exact nobehind _ (by decide) (by decide) | rfl):PT X (.Compare a [op] [b] pos) (tB t):=by
 intro pins s σ H Q I hw;refine wpAny_isTrue_Compare1 (thn (h pins s σ H _ I hw) fun v s1 h1=>thn h1 fun u s2 h2=>thn h2 fun c s3 ⟨x,H1,I1,r1,q1⟩=>?_) h1;obtain ⟨d,rfl,q⟩:=q1;cases r1;exact wpAny_truthy_bool ⟨H1,I1,q⟩
theorem zAl {e:Expr}{t:TE} (h:PE X e t) (he:∀ whole,isTrue e X.env whole=(do let v ← whole;standAt e.pos;holding [v] (truthy v)):=by intro _;rfl):PT X e (tB t):=by
 intro pins s σ H Q I hw;refine isTrue_plain (thn (h pins s σ H _ I hw) fun v s1 ⟨x,H1,I1,r1,q1⟩=>?_) (he _);obtain ⟨d,rfl,q⟩:=q1;cases r1;exact wpAny_truthy_bool ⟨H1,I1,q⟩
variable {tA tB':TT}{rest:List Expr}
noncomputable def tAnd (t u:TT):TT:=fun σ H Q=>t σ H fun c H1=>if c=true then u σ H1 Q else Q false H1
noncomputable def tOr (t u:TT):TT:=fun σ H Q=>t σ H fun c H1=>if c=true then Q true H1 else u σ H1 Q
noncomputable def tNot (t:TT):TT:=fun σ H Q=>t σ H fun c H1=>Q (!c) H1
theorem zBj (ha:PT X a tA):PW X (.BoolOp .And [a] pos) tA:=by
 intro wh pins s σ H Q I h;refine isTrue_and (thn (ha pins s σ H Q I h) fun c s1 e=>?_);cases c with
 | true=>exact isTrue_and_nil e
 | false=>exact e
theorem zBd (ha:PT X a tA):PW X (.BoolOp .Or [a] pos) tA:=by
 intro wh pins s σ H Q I h;refine isTrue_or (thn (ha pins s σ H Q I h) fun c s1 e=>?_);cases c with
 | false=>exact isTrue_or_nil e
 | true=>exact e
theorem zC3 (ha:PT X a tA) (hb:PW X (.BoolOp .And (b :: rest) pos) tB'):PW X (.BoolOp .And (a :: b :: rest) pos) (tAnd tA tB'):=by
 intro wh pins s σ H Q I h;refine isTrue_and (thn (ha pins s σ H _ I h) fun c s1 ⟨H1,I1,q1⟩=>?_);cases c with
 | true=>exact hb wh pins s1 σ H1 Q I1 q1
 | false=>exact ⟨H1,I1,q1⟩
theorem zC0 (ha:PT X a tA) (hb:PW X (.BoolOp .Or (b :: rest) pos) tB'):PW X (.BoolOp .Or (a :: b :: rest) pos) (tOr tA tB'):=by
 intro wh pins s σ H Q I h;refine isTrue_or (thn (ha pins s σ H _ I h) fun c s1 ⟨H1,I1,q1⟩=>?_);cases c with
 | true=>exact ⟨H1,I1,q1⟩
 | false=>exact hb wh pins s1 σ H1 Q I1 q1
theorem zAu (ha:PT X a tA):PT X (.UnaryOp .Not a pos) (tNot tA):=by
 intro pins s σ H Q I h;exact isTrue_not (ha pins s σ H (fun c H1=>Q (!c) H1) I h)
noncomputable def tAndV (ta tb:TE):TE:=fun σ H Q=>ta σ H fun x H1=>∃ c,x=.bl c∧if c=true then tb σ H1 Q else Q (.bl false) H1
noncomputable def tOrV (ta tb:TE):TE:=fun σ H Q=>ta σ H fun x H1=>∃ c,x=.bl c∧if c=true then Q (.bl true) H1 else tb σ H1 Q
theorem zBx {op}{t:TE} (h:PE X a t):PE X (.BoolOp op [a] pos) t:=fun pins s σ H Q I hw=>BoolOp_one (h pins s σ H Q I hw)
theorem zBr (ha:PE X a ta) (hb:PE X (.BoolOp .And (b :: rest) pos) tb):PE X (.BoolOp .And (a :: b :: rest) pos) (tAndV ta tb):=by
 intro pins s σ H Q I h;refine BoolOp_and (thn (ha pins s σ H _ I h) fun v s1 ⟨x,H1,I1,r1,q1⟩=>?_);obtain ⟨c,rfl,q1⟩:=q1;cases r1;refine wpAny_truthy_bool ?_;cases c with
 | true=>exact hb pins s1 σ H1 Q I1 q1
 | false=>exact ⟨.bl false,H1,I1,rfl,q1⟩
theorem pe_or (ha:PE X a ta) (hb:PE X (.BoolOp .Or (b :: rest) pos) tb):PE X (.BoolOp .Or (a :: b :: rest) pos) (tOrV ta tb):=by
 intro pins s σ H Q I h;refine BoolOp_or (thn (ha pins s σ H _ I h) fun v s1 ⟨x,H1,I1,r1,q1⟩=>?_);obtain ⟨c,rfl,q1⟩:=q1;cases r1;refine wpAny_truthy_bool ?_;cases c with
 | false=>exact hb pins s1 σ H1 Q I1 q1
 | true=>exact ⟨.bl true,H1,I1,rfl,q1⟩
noncomputable def tIf (t:TT) (ta tb:TE):TE:=fun σ H Q=>t σ H fun c H1=>if c=true then ta σ H1 Q else tb σ H1 Q
theorem zD5 {c:Expr} (hc:PT X c tA) (ha:PE X a ta) (hb:PE X b tb):PE X (.IfExp c a b pos) (tIf tA ta tb):=by
 intro pins s σ H Q I h;refine wpAny_IfExp (thn (hc pins s σ H _ I h) fun d s1 ⟨H1,I1,q1⟩=>?_);cases d with
 | true=>exact ha pins s1 σ H1 Q I1 q1
 | false=>exact hb pins s1 σ H1 Q I1 q1
end
end L2
namespace L2
open PySem PySem.Spec PyProof.Rows
noncomputable def SqL (K:PySem.W.Frag) (H:Hp) (a:Addr) (xs:List V):Prop :=
 Rd H a (.lst xs) ∨
  ∃ (o:Obj) (its:Array Value) (n:Nat),K.lookup a=some o∧o.cls=.type "list"∧o.dict=none∧o.data=.seq its n∧its.size≤sizeLine∧Vals xs its.toList
noncomputable def SqT (K:PySem.W.Frag) (H:Hp) (a:Addr) (xs:List V):Prop :=
 Rd H a (.tup xs) ∨
  ∃ (o:Obj) (its:Array Value) (n:Nat),K.lookup a=some o∧o.cls=.type "tuple"∧o.data=.seq its n∧its.size≤sizeLine∧Vals xs its.toList
noncomputable def absV:Value→Option V
 | .none=>some .non
 | .bool b=>some (.bl b)
 | .int i _=>some (.int i)
 | .str x _=>some (.str x)
 | .bytes b _=>some (.byt b)
 | .float b _=>some (.flt b)
 | .ref a=>some (.ref a)
 | .type n=>some (.ty n)
 | _=>none
theorem RelV.abs {x:V}{u:Value} (r:RelV x u):absV u=some x:=by
 cases x with
 | non=>cases r;rfl
 | bl _=>cases r;rfl
 | int _=>obtain ⟨t,rfl⟩:=r;rfl
 | str _=>obtain ⟨t,rfl⟩:=r;rfl
 | byt _=>obtain ⟨t,rfl⟩:=r;rfl
 | flt _=>obtain ⟨t,rfl⟩:=r;rfl
 | ref _=>cases r;rfl
 | ty _=>cases r;rfl
theorem RelV.inj {x y:V}{u:Value} (r:RelV x u) (q:RelV y u):x=y:=Zk (r.abs.symm.trans q.abs)
theorem Vals.inj:∀ {xs ys:List V}{us:List Value},Vals xs us→Vals ys us→xs=ys
 | _,_,_,.nil,.nil=>rfl
 | _,_,_,.cons r t,.cons r' t'=>by rw [r.inj r',Vals.inj t t']
section
variable {X:Cx}{pins:List (Addr×Obj)}{σ : St}{H:Hp}{s:Shared}{a:Addr}{xs ys:List V}
theorem SqL.of {K:PySem.W.Frag} (h:H a=some (.lst xs)):SqL K H a xs:=.inl (.inl h)
theorem SqT.of {K:PySem.W.Frag} (h:H a=some (.tup xs)):SqT K H a xs:=.inl (.inl h)
theorem Inv.list (I:Inv X pins σ H s) (h:SqL X.K H a xs):∃ its:List Value,Vals xs its∧PlainL s.heap a its.toArray∧xs.length≤sizeLine:=by
 rcases h with h | ⟨o,its,n,hk,hc,hd,hs,hz,r⟩
 ·obtain ⟨z,its,n,r,e⟩:=h.ok I.hok;exact ⟨its,r,⟨_,n,e,rfl,rfl,rfl⟩,z⟩
 ·refine ⟨its.toList,r,⟨o,n,I.kIn a o hk,hc,hd,by simpa using hs⟩,?_⟩;have e:=r.length;simp only [Ya] at e;omega
theorem Inv.tuple (I:Inv X pins σ H s) (h:SqT X.K H a xs):∃ its:List Value,Vals xs its∧IsTup s.heap a its.toArray∧xs.length≤sizeLine:=by
 rcases h with h | ⟨o,its,n,hk,hc,hs,hz,r⟩
 ·obtain ⟨z,its,r,p⟩:=h.ok I.hok;exact ⟨its,r,p,z⟩
 ·refine ⟨its.toList,r,⟨o,I.kIn a o hk,hc,n,by simpa using hs⟩,?_⟩;have e:=r.length;simp only [Ya] at e;omega
theorem Inv.list_inj (I:Inv X pins σ H s) (h:SqL X.K H a xs) (h':SqL X.K H a ys):xs=ys:=by
 obtain ⟨its,r,⟨o,n,e,_,_,d⟩,_⟩:=I.list h;obtain ⟨its',r',⟨o',n',e',_,_,d'⟩,_⟩:=I.list h';rw [e] at e';cases e';rw [d] at d';injection d' with d1 _;have:its=its':=by simpa using congrArg Array.toList d1
 subst this;exact r.inj r'
end
noncomputable abbrev Cx.wish (X:Cx) (E:Value→Shared→Prop):Cx:={ X with xe:=E }
noncomputable abbrev Cx.nox (X:Cx):Cx:=X.wish fun _ _=>False
theorem Cx.Ok.wish {X:Cx} (ok:X.Ok) (E:Value→Shared→Prop):(X.wish E).Ok :=
 ⟨ok.mod,ok.kind,ok.glob,ok.blt,ok.above,ok.inj,ok.has,ok.cab,ok.hd,ok.frames,ok.stk,ok.exf,ok.bs,ok.bsz,ok.noex,ok.exfs,ok.funs,ok.frf⟩
theorem Cx.Ok.unwish {X:Cx}{E:Value→Shared→Prop} (ok:(X.wish E).Ok):X.Ok :=
 ⟨ok.mod,ok.kind,ok.glob,ok.blt,ok.above,ok.inj,ok.has,ok.cab,ok.hd,ok.frames,ok.stk,ok.exf,ok.bs,ok.bsz,ok.noex,ok.exfs,ok.funs,ok.frf⟩
section
variable {X:Cx}{pins:List (Addr×Obj)}{σ : St}{H:Hp}{s:Shared}{E:Value→Shared→Prop}
theorem Inv.wish (I:Inv X pins σ H s) (E:Value→Shared→Prop):Inv (X.wish E) pins σ H s:=⟨I.ok.wish E,I.os,I.bare,I.base,I.loc,I.cell,I.free,I.freeC,I.pin,I.hok,I.len⟩
theorem Inv.unwish (I:Inv (X.wish E) pins σ H s):Inv X pins σ H s:=⟨I.ok.unwish,I.os,I.bare,I.base,I.loc,I.cell,I.free,I.freeC,I.pin,I.hok,I.len⟩
theorem SP.unwish {D:Ends}{f:Flow}{s':Shared} (h:SP (X.wish E) pins D f s'):SP X pins D f s':=by
 cases f with
 | next=>obtain ⟨σ',H',I,q⟩:=h;exact ⟨σ',H',I.unwish,q⟩
 | brk=>obtain ⟨σ',H',I,q⟩:=h;exact ⟨σ',H',I.unwish,q⟩
 | cont=>obtain ⟨σ',H',I,q⟩:=h;exact ⟨σ',H',I.unwish,q⟩
 | ret u=>obtain ⟨v,σ',H',I,r,q⟩:=h;exact ⟨v,σ',H',I.unwish,r,q⟩
theorem PE.nox {e:Expr}{t:TE} (h:PE X.nox e t):PE X e t:=fun pins s σ H Q I hw =>
 wpAny_mono (h pins s σ H Q (I.wish _) hw) (fun _ _ ⟨v,H',I',r,q⟩=>⟨v,H',I'.unwish,r,q⟩) fun _ _ z=>False.elim z
theorem PT.nox {e:Expr}{t:TT} (h:PT X.nox e t):PT X e t:=fun pins s σ H Q I hw =>
 wpAny_mono (h pins s σ H Q (I.wish _) hw) (fun _ _ ⟨H',I',q⟩=>⟨H',I'.unwish,q⟩) fun _ _ z=>False.elim z
theorem PSs.nox {st:List Stmt}{t:TS} (h:PSs X.nox st t):PSs X st t:=fun pins s σ H D I hw =>
 wpAny_mono (h pins s σ H D (I.wish _) hw) (fun _ _ q=>q.unwish) fun _ _ z=>False.elim z
end
section
variable {X:Cx}{st:Stmt}{rest:List Stmt}{t u:TS}{e:Expr}{te:TE}{pos:Pos}
noncomputable def tNext:TS:=fun D σ H=>D.nx σ H
noncomputable def tSeq (t u:TS):TS:=fun D σ H=>t { D with nx:=u D } σ H
theorem zAb:PSs X [] tNext:=fun _ _ σ H _ I h=>wpAny_execs_nil ⟨σ,H,I,h⟩
theorem zA3 (h1:PS X st t) (h2:PSs X rest u):PSs X (st :: rest) (tSeq t u):=by
 intro pins s σ H D I h;refine wpAny_execs_cons (thn (h1 pins s σ H { D with nx:=u D } I h) fun f s1 q=>?_);cases f with
 | next =>
  obtain ⟨σ',H',I',q⟩:=q;exact h2 pins s1 σ' H' D I' q
 | ret v=>exact q
 | brk=>exact q
 | cont=>exact q
theorem zA5 (h1:PS X st t):PSs X [st] t:=by
 intro pins s σ H D I h;refine wpAny_execs_cons (thn (h1 pins s σ H D I h) fun f s1 q=>?_);cases f with
 | next=>exact wpAny_execs_nil q
 | ret v=>exact q
 | brk=>exact q
 | cont=>exact q
theorem Inv.quiet {pins:List (Addr×Obj)}{σ : St}{H:Hp}{s:Shared} (I:Inv X pins σ H s):interactive X.env=false:=by simp [interactive,I.ok.kind]
noncomputable def tDrop (te:TE):TS:=fun D σ H=>te σ H fun _ H1=>D.nx σ H1
theorem zBn (he:PE X e te) (hs:swapsWith e none pos.line X.env=pure false:=by rfl):PS X (.Expr e pos) (tDrop te):=by
 intro pins s σ H D I h;exact wpAny_Expr_any (thn (he pins s σ H _ I h) fun v s1 ⟨x,H1,I1,r1,q1⟩=>⟨σ,H1,I1,q1⟩) I.quiet hs
noncomputable def tRet (te:TE):TS:=fun D σ H=>te σ H D.rt
theorem zAc (he:PE X e te):PS X (.Return (some e) pos) (tRet te):=by
 intro pins s σ H D I h;exact wpAny_Return_some (thn (he pins s σ H _ I h) fun v s1 ⟨x,H1,I1,r1,q1⟩=>⟨x,σ,H1,I1,r1,q1⟩)
noncomputable def tIfS (c:TT) (t u:TS):TS:=fun D σ H=>c σ H fun b H1=>if b=true then t D σ H1 else u D σ H1
theorem zAq {c:Expr}{a b:List Stmt}{tc:TT} (hc:PT X c tc) (ha:PSs X a t) (hb:PSs X b u):PS X (.If c a b pos) (tIfS tc t u):=by
 intro pins s σ H D I h;refine wpAny_If (thn (hc pins s σ H _ I h) fun d s1 ⟨H1,I1,q1⟩=>?_);cases d with
 | true=>exact ha pins s1 σ H1 D I1 q1
 | false=>exact hb pins s1 σ H1 D I1 q1
noncomputable def tNever:TS:=fun _ _ _=>False
theorem zAo {sts:List Stmt}:PSs X sts tNever:=fun _ _ _ _ _ _ h=>h.elim
end
noncomputable abbrev TG:=V→St→Hp→(St→Hp→Prop)→Prop
noncomputable abbrev TGs:=List V→St→Hp→(St→Hp→Prop)→Prop
noncomputable def PG (X:Cx) (target:Expr) (t:TG):Prop :=
 ∀ (pins:List (Addr×Obj)) (s:Shared) (σ : St) (H:Hp) (v:V) (u:Value) (Q:St→Hp→Prop),Inv X pins σ H s→RelV v u→t v σ H Q →
  wpAny (model X.prog X.w) X.A (assign target X.env u) (fun _ s'=>∃ σ' H',Inv X pins σ' H' s'∧Q σ' H') X.xe s
noncomputable def PGs (X:Cx) (ts:List Expr) (t:TGs):Prop :=
 ∀ (pins:List (Addr×Obj)) (s:Shared) (σ : St) (H:Hp) (vs:List V) (us:List Value) (Q:St→Hp→Prop),Inv X pins σ H s→Vals vs us→t vs σ H Q →
  wpAny (model X.prog X.w) X.A (assignInOrder ((assignEach ts X.env).map (·.2)) us) (fun _ s'=>∃ σ' H',Inv X pins σ' H' s'∧Q σ' H') X.xe s
noncomputable abbrev TSet:=V→V→V→Hp→(Hp→Prop)→Prop
noncomputable def PSet (X:Cx) (t:TSet):Prop :=
 ∀ (pins:List (Addr×Obj)) (s:Shared) (σ : St) (H:Hp) (o i v:V) (ov iv u:Value) (Q:Hp→Prop),Inv X pins σ H s→RelV o ov→RelV i iv→RelV v u→t o i v H Q →
  wpAny (model X.prog X.w) X.A (setItem ov iv u) (fun _ s'=>∃ H',Inv X pins σ H' s'∧Q H') X.xe s
section
variable {X:Cx}{pos:Pos}
noncomputable def gName (i:Nat):TG:=fun v σ H Q=>Q (σ.set i (some v)) H
theorem zAd {i:Nat}{x:Str} (hN:X.N.Nodup) (hi:X.N[i]? = some x) (hx:Loc X.env.scope x) (hf:X.fn x=true∨X.env.scope.names.lookup x=some .local:=by first | exact .inl rfl | exact .inr rfl | assumption):PG X (.Name x pos) (gName i):=by
 intro pins s σ H v u Q I r h;exact wpAny_assign_Name (zEp I hN hi hx r (fun s' I'=>⟨_,H,I',h⟩) hf)
noncomputable def gNil:TGs:=fun vs σ H Q=>vs=[]∧Q σ H
noncomputable def gCons (t:TG) (u:TGs):TGs:=fun vs σ H Q=>∃ v r,vs=v :: r∧t v σ H fun σ' H'=>u r σ' H' Q
theorem zC1:PGs X [] gNil:=by
 intro pins s σ H vs us Q I r h;obtain ⟨e,h⟩:=h;subst e;cases r;exact assignInOrder_nil ⟨σ,H,I,h⟩
theorem zAw {e:Expr}{es:List Expr}{t:TG}{u:TGs} (h1:PG X e t) (h2:PGs X es u)
  (hs:(assignEach (e :: es) X.env).map (·.2)=assign e X.env :: (assignEach es X.env).map (·.2):=by rfl):PGs X (e :: es) (gCons t u):=by
 intro pins s σ H vs us Q I r h;obtain ⟨v,vr,e1,h⟩:=h;subst e1;cases r with
 | cons r rr =>
  rw [hs];refine assignInOrder_cons (thn (h1 pins s σ H _ _ _ I r h) fun _ s1 ⟨σ1,H1,I1,q1⟩=>?_);exact h2 pins s1 σ1 H1 _ _ Q I1 rr q1
noncomputable def gTup (K:PySem.W.Frag) (n:Nat) (t:TGs):TG:=fun v σ H Q=>∃ a xs,v=.ref a∧SqT K H a xs∧xs.length=n∧t xs σ H Q
theorem zDt {es:List Expr}{k:Nat}{t:TGs}{n:Nat} (hc:X.calm=true) (h:PGs X es t)
  (hn:(assignEach es X.env).length=n:=by rfl) (hst:(assignEach es X.env).findIdx? (·.1)=none:=by rfl):PG X (.Tuple es k pos) (gTup X.K n t):=by
 intro pins s σ H v u Q I r hw;obtain ⟨a,xs,e1,hq,hl,hw⟩:=hw;subst e1;cases r;obtain ⟨its,rv,ht,hz⟩:=I.tuple hq;refine assign_Tuple_tuple (I.ok.hd hc) ht (by simp [hn,← hl,rv.length]) hst fun h' hx=>?_;have I1:Inv X pins σ H { s with heap:=h' }:=I.kept (t':=s.toks) fun b o e=>hx b o (Zf (Zd e)) e;exact h pins _ σ H xs _ Q I1 (by simpa using rv) hw
noncomputable def gSub (to ti:TE) (t:TSet):TG:=fun v σ H Q=>to σ H fun o H1=>ti σ H1 fun i H2=>t o i v H2 fun H3=>Q σ H3
theorem pg_sub {o i:Expr}{to ti:TE}{t:TSet} (ho:PE X o to) (hi:PE X i ti) (hs:PSet X t)
  (ha:∀ v,assign (.Subscript o i pos) X.env v=(do
   let ov ← holding [v] (eval o X.env)
   let iv ← holding [v,ov] (eval i X.env)
   standAt pos
   holding [v,ov,iv] (setItem ov iv v)
   release [v,ov,iv] []):=by intro _;rfl):PG X (.Subscript o i pos) (gSub to ti t):=by
 intro pins s σ H v u Q I r h;rw [ha];refine wpAny_bind (wpAny_holding (thn (ho pins s σ H _ I h) fun ov s1 ⟨x,H1,I1,r1,q1⟩=>?_));refine wpAny_bind (wpAny_holding (thn (hi pins s1 σ H1 _ I1 q1) fun iv s2 ⟨y,H2,I2,r2,q2⟩=>?_));refine wpAny_bind (wpAny_standAt (wpAny_bind (wpAny_holding (thn (hs pins s2 σ H2 x y v ov iv u _ I2 r1 r2 r q2) fun _ s3 ⟨H3,I3,q3⟩=>?_))));exact wpAny_release ⟨σ,H3,I3,q3⟩
noncomputable def tAsg (te:TE) (g:TG):TS:=fun D σ H=>te σ H fun x H1=>g x σ H1 D.nx
theorem zDs {tg e:Expr}{te:TE}{g:TG} (he:PE X e te) (hg:PG X tg g) (hs:swapsWithSole [tg] e pos.line X.env=pure false:=by rfl) (hw:swappedStores [tg] e X.env=pure none:=by rfl)
  (h1:(assignEach [tg] X.env).map (·.2)=[assign tg X.env]:=by rfl):PS X (.Assign [tg] e pos) (tAsg te g):=by
 intro pins s σ H D I h;refine wpAny_Assign_stores (thn (he pins s σ H _ I h) fun v s1 ⟨x,H1,I1,r1,q1⟩=>?_) hs hw;rw [h1];exact thn (hg pins s1 σ H1 x v _ I1 r1 q1) fun _ s2 q=>q
theorem zAk {i:Nat}{x:Str}{e:Expr}{te:TE}{pos':Pos} (hN:X.N.Nodup) (hi:X.N[i]? = some x) (hx:Loc X.env.scope x) (he:PE X e te) (hs:swapsWith e (some (.Name x pos')) pos.line X.env=pure false:=by rfl) (hf:X.fn x=true∨X.env.scope.names.lookup x=some .local:=by first | exact .inl rfl | exact .inr rfl | assumption) :
  PS X (.Assign [.Name x pos'] e pos) (tAsg te (gName i)):=by
 intro pins s σ H D I h;refine wpAny_Assign_Name (thn (he pins s σ H _ I h) fun v s1 ⟨y,H1,I1,r1,q1⟩=>?_) hs;exact zEp I1 hN hi hx r1 (fun s2 I2=>⟨_,H1,I2,q1⟩) hf
end
section
variable {X:Cx}{pos:Pos}
noncomputable def tWhile (c:TT) (tb:TS):TS:=fun D σ H=>∃ W:Nat→St→Hp→Prop,(∃ m,W m σ H)∧∀ m σ H,W m σ H →
 c σ H fun b H1=>if b=true then ∃ N:St→Hp→Prop,(∀ σ' H',N σ' H'→∃ m',m' < m∧W m' σ' H')∧tb { D with nx:=N,ct:=N,bk:=D.nx } σ H1 else D.nx σ H1
theorem zEs {c:Expr}{body:List Stmt}{tc:TT}{tb:TS} (hp:PassesOwn (model X.prog X.w) X.A X.env X.xe) (hc:PT X c tc) (hb:PSs X body tb):PS X (.While c body [] pos) (tWhile tc tb):=by
 intro pins s σ H D I h;obtain ⟨W,⟨m0,w0⟩,turn⟩:=h;refine wpAny_While (codeAny_whileLoop (fun n s'=>∃ σ' H',Inv X pins σ' H' s'∧W n σ' H') ?_ m0 ⟨σ,H,I,w0⟩);rintro n s1 ⟨σ1,H1,I1,w1⟩;refine wpAny_passesOwn hp (thn (hc pins s1 σ1 H1 _ I1 (turn n σ1 H1 w1)) fun b s2 ⟨H2,I2,q2⟩=>?_);cases b with
 | true =>
  obtain ⟨N,hN,q2⟩:=q2;rw [if_pos rfl];refine wpAny_passesOwn hp (thn (hb pins s2 σ1 H2 _ I2 q2) fun f s3 q3=>?_);cases f with
  | next =>
   obtain ⟨σ3,H3,I3,n3⟩:=q3;obtain ⟨m',hm,w3⟩:=hN σ3 H3 n3;exact ⟨m',hm,σ3,H3,I3,w3⟩
  | cont =>
   obtain ⟨σ3,H3,I3,n3⟩:=q3;obtain ⟨m',hm,w3⟩:=hN σ3 H3 n3;exact ⟨m',hm,σ3,H3,I3,w3⟩
  | brk=>exact q3
  | ret v=>exact q3
 | false =>
  rw [if_neg Ze];exact wpAny_execs_nil ⟨σ1,H2,I2,q2⟩
end
structure It where
 go:Nat→Hp→Prop
 yld:Nat→Hp→V→Hp→Prop
 stop:Nat→Hp→Prop
noncomputable def FpOk (X:Cx) (pins:List (Addr×Obj)) (H:Hp) (b:Addr):Prop :=
 H b=none∧b≠X.env.locals∧b∉X.fs∧(b∈X.ex∨X.s₀.heap.objs.size≤b)∧(∀ x c,X.env.cells.lookup x=some c→c≠b)∧∀ p∈X.pn++pins,p.1≠b
theorem Inv.fpOk {X:Cx}{pins:List (Addr×Obj)}{σ : St}{H H':Hp}{s:Shared}{b:Addr} (I:Inv X pins σ H s) (hb:s.heap.objs.size≤b) (hn:H' b=none):FpOk X pins H' b:=by
 refine ⟨hn,Nat.ne_of_gt (Z8 I.lt hb),I.nofs hb,.inr (Zo I.sz hb),fun x c e z=>?_,fun p hp z=>?_⟩
 ·obtain ⟨v,q⟩:=I.cell x c e;exact absurd (Z8 q.lt (by rw [z];exact hb)) (Yl _)
 ·exact absurd (Z8 (Zd (I.pin p hp).1) (by rw [z];exact hb)) (Yl _)
structure TurnP (Φ : Cx→Prop) (P:Program) (w:World) (K:PySem.W.Frag) (tg:Expr) (J:It) (fp:List Addr) (it:Addr) (tn:Nat→Heap→Prop):Prop where
 mem:it∈fp
 obj:∀ i h,tn i h→∀ b∈fp,∃ o,h.get? b=some o∧∀ v,o.data≠.cell v
 keep:∀ i h h',tn i h→(∀ b∈fp,∀ o,h.get? b=some o→h'.get? b=some o)→tn i h'
 item:∀ (X:Cx),X.prog=P→X.w=w→X.K=K→Φ X→∀ (i:Nat) (pins:List (Addr×Obj)) (s:Shared) (σ : St) (H:Hp) (E:Value→Shared→Prop),Inv X pins σ H s→(∀ b∈fp,FpOk X pins H b)→tn i s.heap→J.go i H →
  wpAny (model P w) X.A (pyNext (.ref it)) (fun r s1=>∃ u,r=some u ∧
   wpAny (model P w) X.A (letOwnedTupleGo tg (.ref it) u) (fun _ s2=>∃ x H',Inv X pins σ H' s2∧RelV x u∧J.yld i H x H'∧tn (i + 1) s2.heap∧∀ b∈fp,H' b=none) E s1) E s
 done:∀ (X:Cx),X.prog=P→X.w=w→X.K=K→Φ X→∀ (i:Nat) (pins:List (Addr×Obj)) (s:Shared) (σ : St) (H:Hp) (E:Value→Shared→Prop),Inv X pins σ H s→(∀ b∈fp,FpOk X pins H b)→tn i s.heap→J.stop i H →
  wpAny (model P w) X.A (pyNext (.ref it)) (fun r s1=>r=none∧Inv X pins σ H s1) E s
 self:∀ (A:Around) (i:Nat) (s:Shared) (Q:Value→Shared→Prop) (E:Value→Shared→Prop),tn i s.heap→Q (.ref it) s→wpAny (model P w) A (pyIter (.ref it)) Q E s
noncomputable abbrev Turn:=TurnP fun X=>X.calm=true
noncomputable abbrev TI:=St→Hp→(It→Hp→Prop)→Prop
noncomputable def PIE (X:Cx) (pins:List (Addr×Obj)) (σ : St) (tg:Expr) (R:It→Hp→Prop) (itv:Value) (s2:Shared):Prop :=
 ∃ (it:Addr) (fp:List Addr) (tn:Nat→Heap→Prop) (J:It) (H':Hp),itv=.ref it∧Inv X pins σ H' s2∧Turn X.prog X.w X.K tg J fp it tn∧tn 0 s2.heap∧(∀ b∈fp,FpOk X pins H' b)∧R J H'
noncomputable def PI (X:Cx) (tg iter:Expr) (wi:TI):Prop :=
 ∀ (pins:List (Addr×Obj)) (s:Shared) (σ : St) (H:Hp) (R:It→Hp→Prop),Inv X pins σ H s→wi σ H R →
  wpAny (model X.prog X.w) X.A (eval iter X.env) (fun v s1=>wpAny (model X.prog X.w) X.A (pyIter v) (PIE X pins σ tg R) X.xe s1) X.xe s
theorem go_of {M:Model}{A:Around}{E:Value→Shared→Prop}{s:Shared}{tg:Expr}{it:Addr}{u:Value}{o:Obj}{n:String}{vs:Array Value}{Q:Unit→Shared→Prop} (ho:s.heap.get? it=some o) (hc:o.cls=.type n) (hd:o.data=.fields vs)
  (hn:["enumerate", "zip", "dict_itemiterator", "dict_reverseitemiterator", "odict_iterator", "itertools.zip_longest", "itertools.pairwise"].contains n=false) (hQ:Q () s):wpAny M A (letOwnedTupleGo tg (.ref it) u) Q E s:=by
 unfold letOwnedTupleGo
 cases tg <;> first
  | exact wpAny_pure hQ
  | (cases u <;> first
    | exact wpAny_pure hQ
    | (refine wpAny_bind (wpAny_load ho ?_)
       rw [hc,hd];show wpAny M A (if (["enumerate", "zip", "dict_itemiterator", "dict_reverseitemiterator", "odict_iterator", "itertools.zip_longest", "itertools.pairwise"].contains n && vs[0]? == some (rawInt _))=true then _ else _) Q E s;rw [if_neg (by intro h;rw [hn,Bool.false_and] at h;cases h)]
       exact wpAny_pure hQ))
noncomputable def Itl (K:PySem.W.Frag) (a:Addr):It :=
 ⟨fun i H=>∃ xs x,SqL K H a xs∧xs[i]? = some x,fun i H x H'=>H'=H∧∀ xs,SqL K H a xs→xs[i]? = some x,fun i H=>∃ xs,SqL K H a xs∧xs.length≤i⟩
noncomputable def Itr (lo:Int) (n:Nat):It:=⟨fun i _=>i < n,fun i H x H'=>H'=H∧x=.int (lo + i),fun i _=>n≤i⟩
theorem turn_list {P:Program}{w:World}{K:PySem.W.Frag}{tg:Expr} (a it:Addr):Turn P w K tg (Itl K a) [it] it (fun i h=>h.IsListIter it a i) where
 mem:=by simp
 obj:=fun i h st b hb=>by
  have e:b=it:=by simpa using hb
  subst e;obtain ⟨o,e,c,d⟩:=st;exact ⟨o,e,fun v z=>by rw [d] at z;cases z⟩
 keep:=fun i h h' st k=>st.at fun o e=>k it (by simp) o e
 item:=by
  intro X hP hw hK hc i pins s σ H E I hf st hg;subst hP hw hK;obtain ⟨xs,x,hq,hx⟩:=hg;obtain ⟨its,rv,p,hz⟩:=I.list hq;obtain ⟨u,hu,ru⟩:=rv.get hx;obtain ⟨f0,f1,f2,f3,f4,f5⟩:=hf it (by simp);refine wpAny_pyNext_list_item st p.isList (x:=u) (by simpa using hu) fun h' st' sb=>?_;have I1:Inv X pins σ H { s with heap:=h' }:=I.turned (t':=s.toks) (fun b o hb e=>(sb.2 b hb).trans e) f0 f1 f3 f4 f5;obtain ⟨o,e,c,d⟩:=id st';exact ⟨u,rfl,go_of (s:={ s with heap:=h' }) e c d (by decide) ⟨x,H,I1,ru,⟨rfl,fun ys hy=>by rw [I.list_inj hy hq];exact hx⟩,st',fun b hb=>(hf b hb).1⟩⟩
 done:=by
  intro X hP hw hK hc i pins s σ H E I hf st hg;subst hP hw hK;obtain ⟨xs,hq,hx⟩:=hg;obtain ⟨its,rv,p,hz⟩:=I.list hq;obtain ⟨f0,f1,f2,f3,f4,f5⟩:=hf it (by simp);have hl:=rv.length;exact wpAny_pyNext_list_end (I.ok.hd hc) st p.isList (by simp;omega) fun h' eb=>⟨rfl,I.turned (t':=s.toks) (fun b o hb e=>eb b o hb e) f0 f1 f3 f4 f5⟩
 self:=fun _ _ _ _ _ st h=>wpAny_pyIter_listiter st h
theorem turn_range {P:Program}{w:World}{K:PySem.W.Frag}{tg:Expr} (it:Addr) (lo:Int) (n:Nat):Turn P w K tg (Itr lo n) [it] it (fun i h=>IsRangeIter h it (lo + (i:Nat) * 1) ((n:Int) - (i:Nat)) 1) where
 mem:=by simp
 obj:=fun i h st b hb=>by
  have e:b=it:=by simpa using hb
  subst e
  exact ⟨_,st,fun v z=>by
   have z':Data.fields _=Data.cell v:=z
   cases z'⟩
 keep:=fun i h h' st k=>k it (by simp) _ st
 item:=by
  intro X hP hw hK hc i pins s σ H E I hf st hg;subst hP hw hK;obtain ⟨f0,f1,f2,f3,f4,f5⟩:=hf it (by simp);have W:=Walks.range (prog:=X.prog) (w:=X.w) (I.ok.hd hc) it lo 1 n;refine W.item i s _ _ hg st fun v h' tk hv st' kk=>?_;obtain ⟨t,rfl⟩:=hv;have I1:Inv X pins σ H { s with heap:=h',toks:=tk }:=I.turned (fun b o hb e=>kk b o (by simpa using hb) e) f0 f1 f3 f4 f5;refine ⟨_,rfl,go_of (s:={ s with heap:=h',toks:=tk }) (n:="range_iterator") st' rfl rfl (by decide) ⟨.int (lo + i),H,I1,⟨t,?_⟩,⟨rfl,rfl⟩,st',fun b hb=>(hf b hb).1⟩⟩;rw [Int.mul_one]
 done:=by
  intro X hP hw hK hc i pins s σ H E I hf st hg;subst hP hw hK;obtain ⟨f0,f1,f2,f3,f4,f5⟩:=hf it (by simp);exact wpAny_pyNext_range_end (I.ok.hd hc) st (by have:n≤i:=hg;omega) fun h' eb=>⟨rfl,I.turned (t':=s.toks) (fun b o hb e=>eb b o hb e) f0 f1 f3 f4 f5⟩
 self:=fun _ _ _ _ _ st h=>wpAny_pyIter_rangeiter st h
end L2
namespace L2
open PySem PySem.Spec PyProof.Rows
section
variable {X:Cx}{tg:Expr}
noncomputable def iList (K:PySem.W.Frag) (tl:TE):TI:=fun σ H R=>tl σ H fun x H1=>∃ a,x=.ref a∧(∃ xs,SqL K H1 a xs)∧R (Itl K a) H1
theorem zAj {l:Expr}{tl:TE} (hl:PE X l tl):PI X tg l (iList X.K tl):=by
 intro pins s σ H R I h;refine thn (hl pins s σ H _ I h) fun v s1 ⟨x,H1,I1,r1,q1⟩=>?_;obtain ⟨a,e,⟨xs,hq⟩,q⟩:=q1;subst e;cases r1;obtain ⟨its,rv,p,hz⟩:=I1.list hq;refine wpAny_pyIter_list p.isList ?_;refine ⟨s1.heap.objs.size,[s1.heap.objs.size],_,_,H1,rfl,I1.kept (t':=s1.toks) fun b o e=>Z1 _ e,turn_list a _,⟨_,Zh _ rfl,rfl,rfl⟩,fun b hb=>?_,q⟩;have e:b=s1.heap.objs.size:=by simpa using hb
 subst e;exact I1.fpOk (Z7 _) (I1.hok.fresh (Z7 _))
theorem range_it {pins:List (Addr×Obj)}{σ : St}{H:Hp}{s:Shared}{R:It→Hp→Prop}{E:Value→Shared→Prop}{lo hi:Int}{t u v:Tok}{tk:Nat} (I:Inv X pins σ H s) (h1 : -(2 ^ 62)≤lo) (h2:lo < 2 ^ 62) (h3 : -(2 ^ 62)≤hi) (h4:hi < 2 ^ 62)
  (q:R (Itr lo (hi - lo).toNat) H):wpAny (model X.prog X.w) X.A (pyIter (.ref s.heap.objs.size)) (PIE X pins σ tg R) E { s with heap:=s.heap.push { cls:=.type "range",data:=.fields #[.int lo t,.int hi u,.int 1 v] },toks:=tk }:=by
 refine wpAny_pyIter_range (IsRange.new ..) (small_one h1 h2 h3 h4) ?_;have I1:Inv X pins σ H { s with heap:=s.heap.push { cls:=.type "range",data:=.fields #[.int lo t,.int hi u,.int 1 v] },toks:=tk }:=I.kept fun b o e=>Z1 _ e
 refine ⟨(s.heap.push { cls:=.type "range",data:=.fields #[.int lo t,.int hi u,.int 1 v] }).objs.size,[(s.heap.push { cls:=.type "range",data:=.fields #[.int lo t,.int hi u,.int 1 v] }).objs.size],_,_,H,rfl,
  I1.kept (t':=tk) fun b o e=>Z1 _ e,turn_range _ lo (hi - lo).toNat,?_,fun b hb=>?_,q⟩
 ·have e1:lo + ((0:Nat):Int) * 1=lo:=by simp
  have e2:(((hi - lo).toNat:Nat):Int) - ((0:Nat):Int)=Builtin.Range.rangeSize lo hi 1:=by rw [rangeSize_one];split <;> omega
  show IsRangeIter _ _ (lo + ((0:Nat):Int) * 1) ((((hi - lo).toNat:Nat):Int) - ((0:Nat):Int)) 1;rw [e1,e2];exact Zh _ rfl
 ·have e:b=(s.heap.push { cls:=.type "range",data:=.fields #[.int lo t,.int hi u,.int 1 v] }).objs.size:=by simpa using hb
  subst e;exact I1.fpOk (Z7 _) (I1.hok.fresh (Z7 _))
noncomputable def iRng1 (ta:TA):TI:=fun σ H R=>ta σ H fun vs H1=>∃ j:Int,vs=[.int j]∧-(2 ^ 62)≤j∧j < 2 ^ 62∧R (Itr 0 j.toNat) H1
theorem zBq {a:Expr}{ta:TA}{p pos:Pos} (hg:Gl X "range") (hm:X.mg "range" = none) (ha:PA X [a] ta) (hs:starEach [a] X.env=[(false,eval a X.env)]:=by rfl):PI X tg (.Call (.Name "range" p) [a] [] pos) (iRng1 ta):=by
 intro pins s σ H R I h;refine Call_ (ld_blt I hg hm boot_range (PyProof.Rows.callWith_type1 (thn (ha pos pins s σ H _ I h) fun us s1 ⟨vs,H1,I1,r1,q1⟩=>?_) hs rfl));obtain ⟨j,e,q1,q2,q⟩:=q1;subst e;cases r1 with
 | cons r rr =>
  cases rr;obtain ⟨t,rfl⟩:=r;exact call_range_1 (range_it I1 (by omega) (by omega) q1 q2 (by simpa using q))
noncomputable def tFor (wi:TI) (g:TG) (tb:TS):TS:=fun D σ H=>wi σ H fun J H1=>∃ W:Nat→Nat→St→Hp→Prop,(∃ m,W 0 m σ H1)∧∀ i m σ H,W i m σ H →
 (J.stop i H∧D.nx σ H)∨(J.go i H∧∃ N:St→Hp→Prop,(∀ σ' H',N σ' H'→∃ m',m' < m∧W (i + 1) m' σ' H')∧∀ x H',J.yld i H x H'→g x σ H' fun σ2 H2=>tb { D with nx:=N,ct:=N,bk:=D.nx } σ2 H2)
noncomputable def pinsAt (fp:List Addr) (h:Heap):List (Addr×Obj):=fp.filterMap fun b=>(h.get? b).map fun o=>(b,o)
theorem zDg {fp:List Addr}{h:Heap}{b:Addr}{o:Obj} (hb:b∈fp) (e:h.get? b=some o):(b,o)∈pinsAt fp h:=List.mem_filterMap.mpr ⟨b,hb,by rw [e];rfl⟩
theorem of_pinsAt {fp:List Addr}{h:Heap}{p:Addr×Obj} (hp:p∈pinsAt fp h):p.1∈fp∧h.get? p.1=some p.2:=by
 obtain ⟨b,hb,e⟩:=List.mem_filterMap.mp hp;cases q:h.get? b with
 | none=>rw [q] at e;cases e
 | some o =>
  rw [q] at e;have e':(b,o)=p:=Zk e;subst e';exact ⟨hb,q⟩
theorem Inv.pinned {pins:List (Addr×Obj)}{σ : St}{H:Hp}{s:Shared}{fp:List Addr} (I:Inv X pins σ H s) (hf:∀ b∈fp,FpOk X pins H b) (ho:∀ b∈fp,∃ o,s.heap.get? b=some o∧∀ v,o.data≠.cell v):Inv X (pins++pinsAt fp s.heap) σ H s :=
 I.pins_of fun p hp=>(List.mem_append.mp hp).elim (fun z=>I.pin p (Zv _ z)) fun z=>by
  obtain ⟨hb,e⟩:=of_pinsAt z;obtain ⟨f0,f1,f2,_⟩:=hf p.1 hb;obtain ⟨o,e',d⟩:=ho p.1 hb;rw [e] at e';cases e';exact ⟨e,f0,f1,f2,d⟩
theorem Inv.unpinned {pins pl:List (Addr×Obj)}{σ : St}{H:Hp}{s:Shared} (I:Inv X (pins++pl) σ H s):Inv X pins σ H s:=I.pins_of fun p hp=>I.pin p (Zv _ (Y6 _ hp))
theorem zCv {iter:Expr}{body:List Stmt}{wi:TI}{g:TG}{tb:TS}{pos:Pos} (hp:PassesOwn (model X.prog X.w) X.A X.env X.xe) (hc:X.calm=true) (hi:PI X tg iter wi) (hg:PG X tg g) (hb:PSs X body tb)
  (hs:∀ x,foldedSetIterable iter X.env x=pure x:=by intro _;rfl):PS X (.For tg iter body [] pos) (tFor wi g tb):=by
 intro pins s σ H D I h;refine wpAny_For (thn (hi pins s σ H _ I h) fun v s1 h1=>thn h1 fun itv s2 h2=>?_) hs;obtain ⟨it,fp,tn,J,H2,e,I2,T,st2,f2,W,⟨m0,w0⟩,turn⟩:=h2;subst e;have stat:∀ {H':Hp},(∀ b∈fp,H' b=none)→∀ b∈fp,FpOk X pins H' b:=fun hn b hb=>⟨hn b hb,(f2 b hb).2⟩;refine codeAny_forLoop_any (fun n s'=>∃ i σ' H',Inv X pins σ' H' s'∧tn i s'.heap∧(∀ b∈fp,H' b=none)∧W i n σ' H') ?_ m0 ⟨0,σ,H2,I2,st2,fun b hb=>(f2 b hb).1,w0⟩;rintro n s3 ⟨i,σ3,H3,I3,st3,fr3,w3⟩;rcases turn i n σ3 H3 w3 with ⟨stop,qn⟩ | ⟨go,N,hN,step⟩
 ·refine wpAny_passesOwn hp (thn (T.done X rfl rfl rfl hc i pins s3 σ3 H3 X.xe I3 (stat fr3) st3 stop) fun r s4 ⟨hr,I4⟩=>?_);subst hr;exact wpAny_execs_nil ⟨σ3,H3,I4,qn⟩
 ·refine wpAny_passesOwn hp (thn (T.item X rfl rfl rfl hc i pins s3 σ3 H3 X.xe I3 (stat fr3) st3 go) fun r s4 ⟨u,hr,h4⟩=>?_);subst hr;refine wpAny_passesOwn hp (thn h4 fun _ s5 ⟨x,H5,I5,r5,y5,st5,fr5⟩=>?_);have I5':=I5.pinned (stat fr5) (T.obj _ _ st5);refine wpAny_passesOwn hp (thn (hg _ s5 σ3 H5 x u _ I5' r5 (step x H5 y5)) fun _ s6 ⟨σ6,H6,I6,q6⟩=>?_);refine wpAny_passesOwn hp (thn (hb _ s6 σ6 H6 _ I6 q6) fun f s7 q7=>?_);have again:∀ {σ7:St}{H7:Hp},Inv X (pins++pinsAt fp s5.heap) σ7 H7 s7→N σ7 H7→∃ m,m < n∧∃ i σ' H',Inv X pins σ' H' s7∧tn i s7.heap∧(∀ b∈fp,H' b=none)∧W i m σ' H':=fun {σ7 H7} I7 n7=>by
   obtain ⟨m',hm,w7⟩:=hN σ7 H7 n7;refine ⟨m',hm,i + 1,σ7,H7,I7.unpinned,T.keep _ _ _ st5 fun b hb o e=>(I7.pin (b,o) (Zv _ (Zv _ (zDg hb e)))).1,fun b hb=>?_,w7⟩;obtain ⟨o,e,d⟩:=T.obj _ _ st5 b hb;exact (I7.pin (b,o) (Zv _ (Zv _ (zDg hb e)))).2.1
  cases f with
  | next=>obtain ⟨σ7,H7,I7,n7⟩:=q7;exact again I7 n7
  | cont=>obtain ⟨σ7,H7,I7,n7⟩:=q7;exact again I7 n7
  | brk=>obtain ⟨σ7,H7,I7,q7⟩:=q7;exact ⟨σ7,H7,I7.unpinned,q7⟩
  | ret v=>obtain ⟨x7,σ7,H7,I7,r7,q7⟩:=q7;exact ⟨x7,σ7,H7,I7.unpinned,r7,q7⟩
end
theorem zDo {K:PySem.W.Frag}{a:Addr}{xs:List V}{g:TG}{tb:TS}{D:Ends}{σ : St}{H:Hp} (Pv:Nat→St→Hp→Prop) (h0:Pv 0 σ H) (hl:∀ i σ H,i≤xs.length→Pv i σ H→SqL K H a xs)
  (hs:∀ i x σ H,xs[i]? = some x→Pv i σ H→g x σ H fun σ2 H2=>tb { D with nx:=Pv (i + 1),ct:=Pv (i + 1),bk:=D.nx } σ2 H2) (hd:∀ σ H,Pv xs.length σ H→D.nx σ H) :
  ∃ W:Nat→Nat→St→Hp→Prop,(∃ m,W 0 m σ H)∧∀ i m σ H,W i m σ H →
   ((Itl K a).stop i H∧D.nx σ H)∨((Itl K a).go i H∧∃ N:St→Hp→Prop,(∀ σ' H',N σ' H'→∃ m',m' < m∧W (i + 1) m' σ' H')∧∀ x H',(Itl K a).yld i H x H'→g x σ H' fun σ2 H2=>tb { D with nx:=N,ct:=N,bk:=D.nx } σ2 H2):=by
 refine ⟨fun i m σ H=>m=xs.length - i∧i≤xs.length∧Pv i σ H,⟨xs.length,by simp,Zm _,h0⟩,?_⟩;rintro i m σ H ⟨rfl,hi,p⟩;have q:=hl i σ H hi p;by_cases hlt:i < xs.length
 ·refine .inr ⟨⟨xs,xs[i],q,by simp [hlt]⟩,Pv (i + 1),fun σ' H' p'=>⟨xs.length - (i + 1),by omega,rfl,hlt,p'⟩,fun x H' y=>?_⟩;obtain ⟨e,y⟩:=y;subst e;exact hs i x σ _ (y xs q) p
 ·have e:i=xs.length:=by omega
  subst e;exact .inl ⟨⟨xs,q,Z7 _⟩,hd σ H p⟩
theorem zE6 {lo:Int}{n:Nat}{g:TG}{tb:TS}{D:Ends}{σ : St}{H:Hp} (Pv:Nat→St→Hp→Prop) (h0:Pv 0 σ H)
  (hs:∀ i σ H,i < n→Pv i σ H→g (.int (lo + i)) σ H fun σ2 H2=>tb { D with nx:=Pv (i + 1),ct:=Pv (i + 1),bk:=D.nx } σ2 H2) (hd:∀ σ H,Pv n σ H→D.nx σ H) :
  ∃ W:Nat→Nat→St→Hp→Prop,(∃ m,W 0 m σ H)∧∀ i m σ H,W i m σ H →
   ((Itr lo n).stop i H∧D.nx σ H)∨((Itr lo n).go i H∧∃ N:St→Hp→Prop,(∀ σ' H',N σ' H'→∃ m',m' < m∧W (i + 1) m' σ' H')∧∀ x H',(Itr lo n).yld i H x H'→g x σ H' fun σ2 H2=>tb { D with nx:=N,ct:=N,bk:=D.nx } σ2 H2):=by
 refine ⟨fun i m σ H=>m=n - i∧i≤n∧Pv i σ H,⟨n,by simp,Zm _,h0⟩,?_⟩;rintro i m σ H ⟨rfl,hi,p⟩;by_cases hlt:i < n
 ·refine .inr ⟨hlt,Pv (i + 1),fun σ' H' p'=>⟨n - (i + 1),by omega,rfl,hlt,p'⟩,fun x H' y=>?_⟩;obtain ⟨e,y⟩:=y;subst e y;exact hs i σ _ hlt p
 ·have e:i=n:=by omega
  subst e;exact .inl ⟨Z7 _,hd σ H p⟩
end L2
namespace L2
open PySem PySem.Spec PyProof.Rows
noncomputable abbrev R2:=V→V→Hp→VK→Prop
noncomputable def OpR (X:Cx) (f:Value→Value→Sem Value) (r:R2):Prop :=
 ∀ (pins:List (Addr×Obj)) (s:Shared) (σ : St) (H:Hp) (x y:V) (v u:Value) (Q:VK),Inv X pins σ H s→RelV x v→RelV y u→r x y H Q →
  wpAny (model X.prog X.w) X.A (f v u) (EP X pins σ Q) X.xe s
noncomputable def UnR (X:Cx) (f:Value→Sem Value) (r:V→Hp→VK→Prop):Prop :=
 ∀ (pins:List (Addr×Obj)) (s:Shared) (σ : St) (H:Hp) (x:V) (v:Value) (Q:VK),Inv X pins σ H s→RelV x v→r x H Q →
  wpAny (model X.prog X.w) X.A (f v) (EP X pins σ Q) X.xe s
noncomputable def CallR (X:Cx) (f:Value) (r:List V→Hp→VK→Prop):Prop :=
 ∀ (pins:List (Addr×Obj)) (s:Shared) (σ : St) (H:Hp) (xs:List V) (us:List Value) (Q:VK),Inv X pins σ H s→Vals xs us→r xs H Q →
  wpAny (model X.prog X.w) X.A (call f us) (EP X pins σ Q) X.xe s
noncomputable def TruR (X:Cx) (r:V→Hp→(Bool→Hp→Prop)→Prop):Prop :=
 ∀ (pins:List (Addr×Obj)) (s:Shared) (σ : St) (H:Hp) (x:V) (v:Value) (Q:Bool→Hp→Prop),Inv X pins σ H s→RelV x v→r x H Q →
  wpAny (model X.prog X.w) X.A (truthy v) (TP X pins σ Q) X.xe s
noncomputable def tOp (r:R2) (ta tb:TE):TE:=fun σ H Q=>ta σ H fun x H1=>tb σ H1 fun y H2=>r x y H2 Q
noncomputable def tUn (r:V→Hp→VK→Prop) (ta:TE):TE:=fun σ H Q=>ta σ H fun x H1=>r x H1 Q
noncomputable def rI (C:Int→Int→Prop) (g:Int→Int→V):R2:=fun x y H Q=>∃ i j,x=.int i∧y=.int j∧C i j∧Q (g i j) H
noncomputable def rI0 (g:Int→Int→V):R2:=fun x y H Q=>∃ i j,x=.int i∧y=.int j∧Q (g i j) H
noncomputable def rU (g:Int→V):V→Hp→VK→Prop:=fun x H Q=>∃ i,x=.int i∧Q (g i) H
section
variable {X:Cx}{a b c:Expr}{ta tb tc:TE}{pos:Pos}
theorem binT (ha:PE X a ta) (hb:PE X b tb) {pins:List (Addr×Obj)}{s:Shared}{σ : St}{H:Hp}{R:V→V→Hp→Prop} (I:Inv X pins σ H s)
  (h:ta σ H fun x H1=>tb σ H1 fun y H2=>R x y H2) {Q:Value→Shared→Prop}{f:Value→Value→Sem Value}
  (hf:∀ v u s2 x y H2,Inv X pins σ H2 s2→RelV x v→RelV y u→R x y H2→wpAny (model X.prog X.w) X.A (f v u) Q X.xe s2) :
  wpAny (model X.prog X.w) X.A (eval a X.env) (fun v s₁=>wpAny (model X.prog X.w) X.A (eval b X.env) (fun u s₂=>wpAny (model X.prog X.w) X.A (f v u) Q X.xe s₂) X.xe s₁) X.xe s:=by
 refine thn (ha pins s σ H _ I h) fun v s1 ⟨x,H1,I1,r1,q1⟩=>?_;refine thn (hb pins s1 σ H1 _ I1 q1) fun u s2 ⟨y,H2,I2,r2,q2⟩=>?_;exact hf v u s2 x y H2 I2 r1 r2 q2
theorem zAx {op:Operator}{r:R2} (ho:OpR X (binaryOp op) r) (ha:PE X a ta) (hb:PE X b tb):PE X (.BinOp a op b pos) (tOp r ta tb):=by
 intro pins s σ H Q I h;exact wpAny_BinOp (binT ha hb I h fun v u s2 x y H2 I2 rx ry q=>ho pins s2 σ H2 x y v u Q I2 rx ry q)
theorem pe_un {op:UnaryOp}{r:V→Hp→VK→Prop} (ho:UnR X (unaryOp op) r) (ha:PE X a ta):PE X (.UnaryOp op a pos) (tUn r ta):=by
 intro pins s σ H Q I h;exact UnaryOp_ (thn (ha pins s σ H _ I h) fun v s1 ⟨x,H1,I1,r1,q1⟩=>ho pins s1 σ H1 x v Q I1 r1 q1)
theorem opI {f:Value→Value→Sem Value}{C:Int→Int→Prop}{g:Int→Int→Int}
  (rule:∀ (i j:Int) (t u:Tok) (s:Shared) (Q:Value→Shared→Prop) (E:Value→Shared→Prop),C i j→Q (.int (g i j) s.toks) { s with toks:=s.toks + 1 }→wpAny (model X.prog X.w) X.A (f (.int i t) (.int j u)) Q E s) :
  OpR X f (rI C fun i j=>.int (g i j)):=by
 intro pins s σ H x y v u Q I rx ry h;obtain ⟨i,j,rfl,rfl,hc,q⟩:=h;obtain ⟨t,rfl⟩:=rx;obtain ⟨t',rfl⟩:=ry;exact rule i j t t' s _ _ hc ⟨.int (g i j),H,I.tok _,⟨_,rfl⟩,q⟩
theorem opI0 {f:Value→Value→Sem Value}{g:Int→Int→Int}
  (rule:∀ (i j:Int) (t u:Tok) (s:Shared) (Q:Value→Shared→Prop) (E:Value→Shared→Prop),Q (.int (g i j) s.toks) { s with toks:=s.toks + 1 }→wpAny (model X.prog X.w) X.A (f (.int i t) (.int j u)) Q E s) :
  OpR X f (rI0 fun i j=>.int (g i j)):=by
 intro pins s σ H x y v u Q I rx ry h;obtain ⟨i,j,rfl,rfl,q⟩:=h;obtain ⟨t,rfl⟩:=rx;obtain ⟨t',rfl⟩:=ry;exact rule i j t t' s _ _ ⟨.int (g i j),H,I.tok _,⟨_,rfl⟩,q⟩
theorem opB0 {f:Value→Value→Sem Value}{g:Int→Int→Bool}
  (rule:∀ (i j:Int) (t u:Tok) (s:Shared) (Q:Value→Shared→Prop) (E:Value→Shared→Prop),Q (.bool (g i j)) s→wpAny (model X.prog X.w) X.A (f (.int i t) (.int j u)) Q E s) :
  OpR X f (rI0 fun i j=>.bl (g i j)):=by
 intro pins s σ H x y v u Q I rx ry h;obtain ⟨i,j,rfl,rfl,q⟩:=h;obtain ⟨t,rfl⟩:=rx;obtain ⟨t',rfl⟩:=ry;exact rule i j t t' s _ _ ⟨.bl (g i j),H,I,rfl,q⟩
noncomputable def CDiv (i j:Int):Prop:=0 < j∧j < 1073741824
noncomputable def CMul (i j:Int):Prop:=(-(2 ^ 64) < i∧i < 2 ^ 64)∨(-(2 ^ 64) < j∧j < 2 ^ 64)
theorem CMul.ok {i j:Int} (h:CMul i j):IntMulOk i j:=by
 rcases h with ⟨h1,h2⟩ | ⟨h1,h2⟩
 ·exact .of_left (intBits_le_64 h1 h2)
 ·exact .of_right (intBits_le_64 h1 h2)
theorem zBs:OpR X (binaryOp .Add) (rI0 fun i j=>.int (i + j)):=opI0 fun _ _ _ _ _ _ _ q=>add_int q
theorem op_sub:OpR X (binaryOp .Sub) (rI0 fun i j=>.int (i - j)):=opI0 fun _ _ _ _ _ _ _ q=>sub_int q
theorem zDj:OpR X (binaryOp .Mult) (rI CMul fun i j=>.int (i * j)):=opI fun _ _ _ _ _ _ _ hc q=>mul_int q hc.ok
theorem zDw:OpR X (binaryOp .FloorDiv) (rI CDiv fun i j=>.int (i / j)):=opI fun i j _ _ _ _ _ hc q=>by
 have h1:(0:Int) < j:=hc.1;have h2:j < 1073741824:=hc.2;exact floordiv_int (by omega) (by rw [Int.fdiv_eq_ediv_of_nonneg i (by omega)];exact q) (.inl (PyProof.noPylong_small (by omega)))
theorem zCj:OpR X (binaryOp .Mod) (rI (fun _ j=>0 < j) fun i j=>.int (i % j)):=opI fun i j _ _ _ _ _ hc q=>by
 have h1:(0:Int) < j:=hc;exact mod_int' (by omega) (by rw [Int.fmod_eq_emod_of_nonneg i (by omega)];exact q)
theorem unI {f:Value→Sem Value}{g:Int→Int}
  (rule:∀ (i:Int) (t:Tok) (s:Shared) (Q:Value→Shared→Prop) (E:Value→Shared→Prop),Q (.int (g i) s.toks) { s with toks:=s.toks + 1 }→wpAny (model X.prog X.w) X.A (f (.int i t)) Q E s) :
  UnR X f (rU fun i=>.int (g i)):=by
 intro pins s σ H x v Q I rx h;obtain ⟨i,rfl,q⟩:=h;obtain ⟨t,rfl⟩:=rx;exact rule i t s _ _ ⟨.int (g i),H,I.tok _,⟨_,rfl⟩,q⟩
theorem un_neg:UnR X (unaryOp .USub) (rU fun i=>.int (-i)):=unI fun _ _ _ _ _ q=>neg_int q
end
noncomputable def scal:V→V→Bool
 | .non,.non=>true | .non,.int _=>true | .int _,.non=>true | .non,.bl _=>true | .bl _,.non=>true | .non,.str _=>true | .str _,.non=>true
 | .int _,.int _=>true | .bl _,.bl _=>true | .str _,.str _=>true | .byt _,.byt _=>true
 | .int _,.str _=>true | .str _,.int _=>true | .bl _,.str _=>true | .str _,.bl _=>true
 | _,_=>false
noncomputable def rEq:R2:=fun x y H Q=>scal x y=true∧Q (.bl (decide (x=y))) H
noncomputable def rNe:R2:=fun x y H Q=>scal x y=true∧Q (.bl (!decide (x=y))) H
theorem dec_int {i j:Int}:decide (V.int i=V.int j)=(i == j):=by
 rw [Ye];simp
theorem dec_bl {i j:Bool}:decide (V.bl i=V.bl j)=(i == j):=by
 rw [Ye];simp
theorem dec_str {i j:Str}:decide (V.str i=V.str j)=(i == j):=by
 rw [Ye];simp
theorem dec_byt {i j:Array UInt8}:decide (V.byt i=V.byt j)=(i.toList == j.toList):=by
 rw [Ye];cases i;cases j;simp
section
variable {X:Cx}{a b c:Expr}{ta tb tc:TE}{pos:Pos}
theorem zB1 {pins:List (Addr×Obj)}{σ : St}{H:Hp}{s:Shared}{Q:VK}{k k':Bool} (I:Inv X pins σ H s) (q:Q (.bl k) H) (e:k=k'):EP X pins σ Q (.bool k') s:=by
 subst e;exact ⟨.bl k,H,I,rfl,q⟩
theorem zBc:OpR X (compareOp .Eq) rEq:=by
 intro pins s σ H x y v u Q I rx ry h;obtain ⟨hs,q⟩:=h;cases x with
 | non =>
  cases rx;cases y with
  | non=>cases ry;exact PySem.EqNone.eq_none_none (zB1 I q (by simp))
  | bl j=>cases ry;exact PySem.EqNone.eq_none_bool (zB1 I q (by simp))
  | int j=>obtain ⟨t',rfl⟩:=ry;exact PySem.EqNone.eq_none_int (zB1 I q (by simp))
  | str j=>obtain ⟨t',rfl⟩:=ry;exact PySem.EqNone.eq_none_str (zB1 I q (by simp))
  | _=>exact absurd (show false=true from hs) Ze
 | bl i =>
  cases rx;cases y with
  | non=>cases ry;exact PySem.EqNone.eq_bool_none (zB1 I q (by simp))
  | bl j=>cases ry;exact eq_bool (zB1 I q dec_bl)
  | str j=>obtain ⟨t',rfl⟩:=ry;exact PySem.EqMixed.eq_bool_str (zB1 I q (by simp))
  | _=>exact absurd (show false=true from hs) Ze
 | int i =>
  obtain ⟨t,rfl⟩:=rx;cases y with
  | non=>cases ry;exact PySem.EqNone.eq_int_none (zB1 I q (by simp))
  | int j=>obtain ⟨t',rfl⟩:=ry;exact eq_int (zB1 I q dec_int)
  | str j=>obtain ⟨t',rfl⟩:=ry;exact PySem.EqMixed.eq_int_str (zB1 I q (by simp))
  | _=>exact absurd (show false=true from hs) Ze
 | str i =>
  obtain ⟨t,rfl⟩:=rx;cases y with
  | non=>cases ry;exact PySem.EqNone.eq_str_none (zB1 I q (by simp))
  | bl j=>cases ry;exact PySem.EqMixed.eq_str_bool (zB1 I q (by simp))
  | int j=>obtain ⟨t',rfl⟩:=ry;exact PySem.EqMixed.eq_str_int (zB1 I q (by simp))
  | str j=>obtain ⟨t',rfl⟩:=ry;exact eq_str (zB1 I q dec_str)
  | _=>exact absurd (show false=true from hs) Ze
 | byt i =>
  obtain ⟨t,rfl⟩:=rx;cases y with
  | byt j=>obtain ⟨t',rfl⟩:=ry;exact PySem.W.eq_bytes (zB1 I q dec_byt)
  | _=>exact absurd (show false=true from hs) Ze
 | _=>cases y <;> exact absurd (show false=true from hs) Ze
theorem op_ne:OpR X (compareOp .NotEq) rNe:=by
 intro pins s σ H x y v u Q I rx ry h;obtain ⟨hs,q⟩:=h;cases x with
 | non =>
  cases rx;cases y with
  | non=>cases ry;exact PySem.EqNone.ne_none_none (zB1 I q (by simp))
  | bl j=>cases ry;exact PySem.EqNone.ne_none_bool (zB1 I q (by simp))
  | int j=>obtain ⟨t',rfl⟩:=ry;exact PySem.EqNone.ne_none_int (zB1 I q (by simp))
  | str j=>obtain ⟨t',rfl⟩:=ry;exact PySem.EqNone.ne_none_str (zB1 I q (by simp))
  | _=>exact absurd (show false=true from hs) Ze
 | bl i =>
  cases rx;cases y with
  | non=>cases ry;exact PySem.EqNone.ne_bool_none (zB1 I q (by simp))
  | bl j=>cases ry;exact ne_bool (zB1 I q (congrArg not dec_bl))
  | str j=>obtain ⟨t',rfl⟩:=ry;exact PySem.EqMixed.ne_bool_str (zB1 I q (by simp))
  | _=>exact absurd (show false=true from hs) Ze
 | int i =>
  obtain ⟨t,rfl⟩:=rx;cases y with
  | non=>cases ry;exact PySem.EqNone.ne_int_none (zB1 I q (by simp))
  | int j=>obtain ⟨t',rfl⟩:=ry;exact ne_int (zB1 I q (congrArg not dec_int))
  | str j=>obtain ⟨t',rfl⟩:=ry;exact PySem.EqMixed.ne_int_str (zB1 I q (by simp))
  | _=>exact absurd (show false=true from hs) Ze
 | str i =>
  obtain ⟨t,rfl⟩:=rx;cases y with
  | non=>cases ry;exact PySem.EqNone.ne_str_none (zB1 I q (by simp))
  | bl j=>cases ry;exact PySem.EqMixed.ne_str_bool (zB1 I q (by simp))
  | int j=>obtain ⟨t',rfl⟩:=ry;exact PySem.EqMixed.ne_str_int (zB1 I q (by simp))
  | str j=>obtain ⟨t',rfl⟩:=ry;exact ne_str (zB1 I q (congrArg not dec_str))
  | _=>exact absurd (show false=true from hs) Ze
 | byt i =>
  obtain ⟨t,rfl⟩:=rx;cases y with
  | byt j=>obtain ⟨t',rfl⟩:=ry;exact PySem.W.ne_bytes (zB1 I q (congrArg not dec_byt))
  | _=>exact absurd (show false=true from hs) Ze
 | _=>cases y <;> exact absurd (show false=true from hs) Ze
theorem op_lt:OpR X (compareOp .Lt) (rI0 fun i j=>.bl (decide (i < j))):=opB0 fun _ _ _ _ _ _ _ q=>lt_int q
theorem op_le:OpR X (compareOp .LtE) (rI0 fun i j=>.bl (decide (i≤j))):=opB0 fun _ _ _ _ _ _ _ q=>le_int q
theorem op_gt:OpR X (compareOp .Gt) (rI0 fun i j=>.bl (decide (j < i))):=opB0 fun _ _ _ _ _ _ _ q=>gt_int q
theorem op_in_str:OpR X (compareOp .In) (fun x y H Q=>∃ i j,x=.str i∧y=.str j∧Q (.bl (!(Builtin.Str.occurrences j i 0 j.length 1).isEmpty)) H):=by
 intro pins s σ H x y v u Q I rx ry h;obtain ⟨i,j,rfl,rfl,q⟩:=h;obtain ⟨t,rfl⟩:=rx;obtain ⟨t',rfl⟩:=ry;exact in_str (zB1 I q rfl)
theorem op_isN:OpR X (compareOp .Is) (fun x y H Q=>y=.non∧Q (.bl (decide (x=.non))) H):=by
 intro pins s σ H x y v u Q I rx ry h;obtain ⟨rfl,q⟩:=h;cases ry;refine is_none_gen (zB1 I q ?_)
 cases x <;> first
  | (cases rx;rfl)
  | (obtain ⟨t,rfl⟩:=rx;rfl)
theorem zDf:OpR X (compareOp .IsNot) (fun x y H Q=>y=.non∧Q (.bl (!decide (x=.non))) H):=by
 intro pins s σ H x y v u Q I rx ry h;obtain ⟨rfl,q⟩:=h;cases ry;refine isnot_none_gen (zB1 I q ?_)
 cases x <;> first
  | (cases rx;rfl)
  | (obtain ⟨t,rfl⟩:=rx;rfl)
theorem nomark (b:Expr) {op:CmpOp} (h:op≠.In:=by decide) (h2:op≠.NotIn:=by decide):behindInMarks op b=false:=by
 have e1:(op == CmpOp.In)=false:=by cases op <;> first | rfl | exact absurd rfl h
 have e2:(op == CmpOp.NotIn)=false:=by cases op <;> first | rfl | exact absurd rfl h2
 cases b <;> simp [behindInMarks,e1,e2]
theorem zB0 {op:CmpOp}{r:R2} (ho:OpR X (compareOp op) r) (ha:PE X a ta) (hb:PE X b tb) (hm:behindInMarks op b=false):PE X (.Compare a [op] [b] pos) (tOp r ta tb):=by
 intro pins s σ H Q I h;exact wpAny_Compare1 (binT ha hb I h fun v u s2 x y H2 I2 rx ry q=>ho pins s2 σ H2 x y v u Q I2 rx ry q) hm
noncomputable def tTest (t:TE):TT:=fun σ H Q=>t σ H fun x H'=>∃ k,x=.bl k∧Q k H'
theorem zAg {op:CmpOp}{r:R2} (ho:OpR X (compareOp op) r) (ha:PE X a ta) (hb:PE X b tb) (hm:behindInMarks op b=false):PT X (.Compare a [op] [b] pos) (tTest (tOp r ta tb)):=by
 intro pins s σ H Q I h
 refine wpAny_isTrue_Compare1 (thn (ha pins s σ H _ I h) fun v s1 ⟨x,H1,I1,r1,q1⟩=>thn (hb pins s1 σ H1 _ I1 q1) fun u s2 ⟨y,H2,I2,r2,q2⟩ =>
  thn (ho pins s2 σ H2 x y v u _ I2 r1 r2 q2) fun c s3 ⟨z,H3,I3,r3,k,e,q3⟩=>?_) hm
 subst e;cases r3;exact wpAny_truthy_bool ⟨H3,I3,q3⟩
noncomputable def tChain (r r':R2) (ta tb tc:TE):TE:=fun σ H Q=>ta σ H fun x H1=>tb σ H1 fun y H2=>r x y H2 fun z H3=>∃ k,z=.bl k ∧
 (if k=true then tc σ H3 fun w' H4=>r' y w' H4 Q else Q (.bl false) H3)
theorem zEy {op op':CmpOp}{r r':R2} (ho:OpR X (compareOp op) r) (ho':OpR X (compareOp op') r') (ha:PE X a ta) (hb:PE X b tb) (hc:PE X c tc)
  (hm:lastMarks [op,op'] [b,c]=false:=by with_unfolding_all rfl):PE X (.Compare a [op,op'] [b,c] pos) (tChain r r' ta tb tc):=by
 intro pins s σ H Q I h
 refine Compare_chain (thn (ha pins s σ H _ I h) fun v s1 ⟨x,H1,I1,r1,q1⟩=>chain_link (thn (hb pins s1 σ H1 _ I1 q1) fun u s2 ⟨y,H2,I2,r2,q2⟩ =>
  thn (ho pins s2 σ H2 x y v u _ I2 r1 r2 q2) fun d s3 ⟨z,H3,I3,r3,k,e,q3⟩=>?_)) hm
 subst e;cases r3;refine wpAny_truthy_bool ?_;cases k with
 | false=>exact ite_ff ⟨.bl false,H3,I3,rfl,q3⟩
 | true=>exact ite_tt (chain_last (thn (hc pins s3 σ H3 _ I3 q3) fun w' s4 ⟨z',H4,I4,r4,q4⟩=>ho' pins s4 σ H4 y z' u w' Q I4 r2 r4 q4))
noncomputable def TruV (K:PySem.W.Frag) (x:V) (H:Hp) (k:Bool):Prop :=
 match x with
 | .non=>k=false
 | .bl b=>k=b
 | .int i=>k=(i != 0)
 | .str y=>y.length≤sizeLine∧k=((y.length:Int) != 0)
 | .byt y=>y.size≤sizeLine∧k=((y.size:Int) != 0)
 | .ref p=>(∃ xs,SqL K H p xs∧k = !xs.isEmpty)∨(∃ xs,SqT K H p xs∧k = !xs.isEmpty)∨∃ kvs,H p=some (.dK kvs)∧k = !kvs.isEmpty
 | _=>False
theorem isEmpty_kv {κ : Type}{kvs:List (κ×V)}{vs:List (κ×Value)} (r:KV kvs vs):(!vs.isEmpty) = !kvs.isEmpty:=by
 cases r <;> rfl
theorem zEh {xs:List V}{its:List Value} (r:Vals xs its):(!its.toArray.isEmpty) = !xs.isEmpty:=by
 cases r <;> simp
theorem line63:(sizeLine:Nat) < 2 ^ 63:=by rw [sizeLine_eq];decide
theorem tru_ok:TruR X (fun x H Q=>∃ k,TruV X.K x H k∧Q k H):=by
 intro pins s σ H x v Q I rx h;obtain ⟨k,e,q⟩:=h;have hl:=line63;have hs:sizeLine=16777216:=sizeLine_eq;cases x with
 | non =>
  cases rx;have e':k=false:=e;subst e';exact truthy_none ⟨H,I,q⟩
 | bl b =>
  cases rx;have e':k=b:=e;subst e';exact wpAny_truthy_bool ⟨H,I,q⟩
 | int i =>
  obtain ⟨t,rfl⟩:=rx;have e':k=(i != 0):=e;subst e';exact PySem.P.truthy_int ⟨H,I,q⟩
 | str y =>
  obtain ⟨t,rfl⟩:=rx;obtain ⟨hy,e'⟩:y.length≤sizeLine∧k=((y.length:Int) != 0):=e;subst e';exact PySem.P.truthy_str (by omega) ⟨H,I.tok _,q⟩
 | byt y =>
  obtain ⟨t,rfl⟩:=rx;obtain ⟨hy,e'⟩:y.size≤sizeLine∧k=((y.size:Int) != 0):=e;subst e';exact PySem.W.truthy_bytes (by omega) ⟨H,I.tok _,q⟩
 | ref p =>
  cases rx;have e':(∃ xs,SqL X.K H p xs∧k = !xs.isEmpty)∨(∃ xs,SqT X.K H p xs∧k = !xs.isEmpty)∨∃ kvs,H p=some (.dK kvs)∧k = !kvs.isEmpty:=e;rcases e' with ⟨xs,hx,e'⟩ | ⟨xs,hx,e'⟩ | ⟨kvs,hx,e'⟩
  ·subst e';obtain ⟨its,r,pl,hz⟩:=I.list hx;have hlen:=r.length;exact wpAny_truthy_list pl.isList (by simp only [Z9];omega) ⟨H,I.tok _,by rw [zEh r];exact q⟩
  ·subst e';obtain ⟨its,r,pl,hz⟩:=I.tuple hx;have hlen:=r.length;exact truthy_tuple pl (by simp only [Z9];omega) ⟨H,I.tok _,by rw [zEh r];exact q⟩
  ·subst e';obtain ⟨hz,hS,vs,r,m⟩:kvs.length≤sizeLine∧(p == sysModules)=false∧∃ vs,KV kvs vs∧s.heap.DictOf (mixKind X.prog X.w) p vs:=I.hok p _ hx;have hlen:kvs.length=vs.length:=Paired.length r;exact wpAny_truthy_dict hS m (by omega) ⟨H,I.tok _,by rw [isEmpty_kv r];exact q⟩
 | _=>exact (show False from e).elim
theorem zEr (ha:PE X a ta) (he:∀ whole,isTrue a X.env whole=(do let v ← whole;standAt a.pos;holding [v] (truthy v))) :
  PT X a (fun σ H Q=>ta σ H fun x H'=>∃ k,TruV X.K x H' k∧Q k H'):=by
 intro pins s σ H Q I h;exact isTrue_plain (thn (ha pins s σ H _ I h) fun v s1 ⟨x,H1,I1,r1,q1⟩=>tru_ok pins s1 σ H1 x v Q I1 r1 q1) (he _)
theorem vals1 {x:V}{us:List Value} (r:Vals [x] us):∃ u,us=[u]∧RelV x u:=by
 cases r with
 | cons r1 r2=>cases r2;exact ⟨_,rfl,r1⟩
theorem vals2 {x y:V}{us:List Value} (r:Vals [x,y] us):∃ u w',us=[u,w']∧RelV x u∧RelV y w':=by
 cases r with
 | cons r1 r2 =>
  cases r2 with
  | cons r3 r4=>cases r4;exact ⟨_,_,rfl,r1,r3⟩
theorem call_min2 (hc:X.calm=true):CallR X (.builtin "min") (fun xs H Q=>∃ i j,xs=[.int i,.int j]∧Q (.int (if j < i then j else i)) H):=by
 intro pins s σ H xs us Q I r h;obtain ⟨i,j,rfl,q⟩:=h;obtain ⟨u,w',rfl,⟨t,rfl⟩,⟨t',rfl⟩⟩:=vals2 r;refine min_two_ints (I.ok.hd hc) fun h' tk k=>⟨_,H,I.kept k,?_,q⟩;by_cases hj:j < i
 ·rw [if_pos hj,if_pos hj];exact ⟨_,rfl⟩
 ·rw [if_neg hj,if_neg hj];exact ⟨_,rfl⟩
theorem zC8:CallR X (.type "int") (fun xs H Q=>(∃ i,xs=[.int i]∧Q (.int i) H)∨∃ k,xs=[.bl k]∧Q (.int (if k then 1 else 0)) H):=by
 intro pins s σ H xs us Q I r h;rcases h with ⟨i,rfl,q⟩ | ⟨k,rfl,q⟩
 ·obtain ⟨u,rfl,t,rfl⟩:=vals1 r;exact call_int_int ⟨.int i,H,I,⟨_,rfl⟩,q⟩
 ·obtain ⟨u,rfl,r1⟩:=vals1 r;cases r1;exact call_int_bool ⟨.int (if k then 1 else 0),H,I.tok _,⟨_,rfl⟩,q⟩
end
end L2
namespace L2
open PySem PySem.Spec PyProof.Rows
structure ObjM (h:Heap) (x dx C:Addr) (mA:Str→Option Value):Prop where
 obj:h.get? x=some (PySem.W.instObj C dx)
 ns:h.Ns1 dx mA
 ne:dx≠x
theorem lookIn_ns {h:Heap}{dx:Addr}{mA:Str→Option Value} (n:h.Ns1 dx mA):∃ od,h.get? dx=some od∧∀ name,PySem.W.lookIn name od=some (mA name):=by
 obtain ⟨o,es,ep,ho,hd,hk,_,hm⟩:=n;refine ⟨o,ho,fun name=>?_⟩;have e:=hm name;unfold nsFind findBy at e;rw [← Array.find?_toList] at e;unfold PySem.W.lookIn;rw [hd];dsimp only;split
 ·rename_i y q
  rw [q] at e;exact congrArg some e
 ·rename_i q
  rw [q] at e;have a:es.toList.any (·.refKey)=false:=by
   rw [List.any_eq_false];intro y hy;obtain ⟨z,t,hkey⟩:=hk y (Array.mem_toList_iff.mp hy);simp [DictEntry.refKey,hkey]
  have a':¬ es.toList.any (·.refKey)=true:=by rw [a];exact Ze
  rw [if_neg a'];exact congrArg some e
theorem ObjM.look {h:Heap}{x dx C:Addr}{mA:Str→Option Value} (I:ObjM h x dx C mA):∃ od,PySem.W.InstAt h x (PySem.W.instObj C dx) C (some od)∧∀ name,PySem.W.lookIn name od=some (mA name) :=
 let ⟨od,ho,hl⟩:=lookIn_ns I.ns
 ⟨od,⟨I.obj,rfl,rfl,ho⟩,hl⟩
section
variable {prog:Program}{w:World}{A:Around}{E:Value→Shared→Prop}{s:Shared}{K:PySem.W.Frag}{x dx C f:Addr}{mA:Str→Option Value}{name:Str}{v:Value}
theorem get_map {expr:Bool}{Q:Value→Shared→Prop} (X:K.In s.heap) (I:ObjM s.heap x dx C mA) (hg:PySem.W.plainGet K C name=true) (hh:PySem.W.hasDictIn K C=true)
  (ha:PySem.W.findIn K (.ref C) name=some none) (hv:mA name=some v) (hv':PySem.W.handedIn v=true) (h:Q v { s with toks:=s.toks + 1 }) :
  wpAny (model prog w) A (getAttr (.ref x) name expr) Q E s:=by
 obtain ⟨od,J,hl⟩:=I.look;exact PySem.W.get_value X J (PySem.W.plainGet_of hg).1 (PySem.W.findObj_own hh ha rfl (by rw [hl,hv])) hv' h
theorem get_meth {pl:Sem Bool}{Q:Value×List Value→Shared→Prop} (X:K.In s.heap) (I:ObjM s.heap x dx C mA) (hg:PySem.W.plainGet K C name=true)
  (hf:PySem.W.findIn K (.ref C) name=some (some (.ref f))) (ht:PySem.W.isFn K (.ref f)=true) (hv:mA name=none) (h:Q (.ref f,[.ref x]) s) :
  wpAny (model prog w) A (getMethod (.ref x) name pl) Q E s:=by
 obtain ⟨od,J,hl⟩:=I.look;exact PySem.W.method_fn X J (PySem.W.plainGet_of hg).1 (PySem.W.plainGet_of hg).2 hf (beq_iff_eq.mp ht) (by show (PySem.W.lookIn name od).map (·.isSome)=some false;rw [hl,hv];rfl) h
theorem set_map {ns:List Str}{Q:Unit→Shared→Prop} (X:K.In s.heap) (I:ObjM s.heap x dx C mA)
  (hs:PySem.W.findIn K (.ref C) "__setattr__" = some (some (.builtin "object.__setattr__"))) (hp:PySem.W.plainOver K C=true) (ht:PySem.W.takerIn K C name=some none) (hh:PySem.W.hasDictIn K C=true)
  (hw:PySem.Within mA ns) (hsz:ns.length≤sizeLine)
  (h:∀ h',ObjM h' x dx C (fun y=>if y=name then some v else mA y)→Heap.SameBut dx s.heap h'→Q () { s with heap:=h',toks:=s.toks + 2 }) :
  wpAny (model prog w) A (setAttr (.ref x) name v) Q E s:=by
 obtain ⟨od,J,hl⟩:=I.look;refine PySem.W.set_plain X J hs (PySem.W.osa_open (s:={ s with toks:=s.toks + 1 }) (r:=none) X J hp ht fun b=>?_);obtain ⟨cd,hc,hd'⟩:=PySem.W.any_some hh;have hx:s.heap.get? x=some ⟨.ref C,some dx,.plain,#[]⟩:=I.obj;refine wpAny_bind (wpAny_pure (wpAny_bind (wpAny_bind (wpAny_loadPart hx (wpAny_bind (PySem.W.Looks.here (s:={ s with toks:=s.toks + 1 }) (PySem.W.looks_clsIn X hc) ?_))))));rw [hd'];refine wpAny_pure (a:=some dx) (wpAny_bind (wpAny_pure (wpAny_bind ?_)));refine wpAny_nsSet1 (s:={ s with toks:=s.toks + 1 }) I.ns fun h' hn2 hs2=>?_;obtain ⟨oD,esD,epD,hoD,hdD,hcD⟩:=hn2.count (PySem.Within.cons name v hw);refine wpAny_bind (wpAny_lookBehind hoD (by rw [hdD];exact pastItsLine_dict (Zo hcD (by rw [Zj];omega))) ?_);exact wpAny_pure (h _ ⟨(hs2.2 _ (Ne.symm I.ne)).trans I.obj,hn2,I.ne⟩ hs2)
theorem make_map {R:Result→Shared→Prop}{vs:List Value}{kw:List (Str×Value)} (X:K.In s.heap) (hm:PySem.W.makesIn K C=true)
  (hi:PySem.W.findIn K (.ref C) "__init__" = some (some (.ref f))) (hf:PySem.W.typeIn K (.ref f)=some (.type "function"))
  (h:codeAny (model prog w) (A.under (.builtin "type.__call__" ⟨.ref C :: vs,kw⟩)) (.call (.ref f) ⟨.ref (s.heap.objs.size + 1) :: vs,kw⟩) (PySem.W.InitBack (s.heap.objs.size + 1) R)
   { s with heap:=(s.heap.push PySem.W.emptyDict).push (PySem.W.instObj C s.heap.objs.size) }) :
  codeAny (model prog w) A (.call (.ref C) ⟨vs,kw⟩) R s:=by
 obtain ⟨hh,g,d,t,os⟩:=s;exact PySem.W.make_core (PySem.W.makes_of X hm) (PySem.W.looks_findIn X hi) (fun self=>PySem.W.bind_fn X self hf) (.inl rfl) h
theorem make_map0 {R:Result→Shared→Prop} (X:K.In s.heap) (hm:PySem.W.makesIn K C=true)
  (hi:PySem.W.findIn K (.ref C) "__init__" = some (some (.builtin "object.__init__")))
  (hb:∀ self,PySem.W.Looks (model prog w) s.heap (bindSpecial (.builtin "object.__init__") self) (.builtin "object.__init__",[self]))
  (h:codeAny (model prog w) (A.under (.builtin "type.__call__" ⟨[.ref C],[]⟩)) (.call (.builtin "object.__init__") ⟨[.ref (s.heap.objs.size + 1)],[]⟩) (PySem.W.InitBack (s.heap.objs.size + 1) R)
   { s with heap:=(s.heap.push PySem.W.emptyDict).push (PySem.W.instObj C s.heap.objs.size) }) :
  codeAny (model prog w) A (.call (.ref C) ⟨[],[]⟩) R s:=by
 obtain ⟨hh,g,d,t,os⟩:=s;exact PySem.W.make_core (PySem.W.makes_of X hm) (PySem.W.looks_findIn X hi) hb (.inr ⟨rfl,rfl⟩) h
end
noncomputable def putF (f:Str) (v:V):List (Str×V)→List (Str×V)
 | []=>[(f,v)]
 | (g,x) :: r=>if g=f then (g,v) :: r else (g,x) :: putF f v r
theorem zA8 (f g:Str) (v:V):∀ fs:List (Str×V),(putF f v fs).lookup g=if g=f then some v else fs.lookup g
 | []=>by
  show List.lookup g [(f,v)]=_;by_cases h:g=f
  ·have hb:(g == f)=true:=beq_iff_eq.mpr h;simp only [List.lookup,hb,if_pos h]
  ·have hb:(g == f)=false:=beq_eq_false_iff_ne.mpr h;simp only [List.lookup,hb,if_neg h]
 | (k,x) :: r=>by
  have ih:=zA8 f g v r;rw [show putF f v ((k,x) :: r)=(if k=f then (k,v) :: r else (k,x) :: putF f v r) from rfl];by_cases hk:k=f
  ·rw [if_pos hk];by_cases h:g=k
   ·have hb:(g == k)=true:=beq_iff_eq.mpr h;simp only [List.lookup,hb,if_pos (h.trans hk)]
   ·have hb:(g == k)=false:=beq_eq_false_iff_ne.mpr h;simp only [List.lookup,hb,if_neg (fun e:g=f=>h (e.trans hk.symm))]
  ·rw [if_neg hk];by_cases h:g=k
   ·have hb:(g == k)=true:=beq_iff_eq.mpr h;simp only [List.lookup,hb,if_neg (fun e:g=f=>hk (h.symm.trans e))]
   ·have hb:(g == k)=false:=beq_eq_false_iff_ne.mpr h;simp only [List.lookup,hb];exact ih
theorem zE3 (f:Str) (v:V):∀ fs:List (Str×V),f∈(putF f v fs).map (·.1)∧∀ g,g∈fs.map (·.1)→g∈(putF f v fs).map (·.1)
 | []=>⟨by simp [putF],fun g h=>by simp at h⟩
 | (k,x) :: r=>by
  obtain ⟨i1,i2⟩:=zE3 f v r;rw [show putF f v ((k,x) :: r)=(if k=f then (k,v) :: r else (k,x) :: putF f v r) from rfl];by_cases hk:k=f
  ·rw [if_pos hk];subst hk;exact ⟨by simp,fun g h=>by simpa using h⟩
  ·rw [if_neg hk];refine ⟨?_,fun g h=>?_⟩
   ·rw [Zq];exact Zb _ i1
   ·rw [Zq] at h ⊢;rcases List.mem_cons.mp h with e | e
    ·exact List.mem_cons.mpr (.inl e)
    ·exact Zb _ (i2 g e)
theorem zCy (f:Str) (v:V):∀ fs:List (Str×V),(putF f v fs).length≤fs.length + 1
 | []=>by simp [putF]
 | (k,x) :: r=>by
  have ih:=zCy f v r;rw [show putF f v ((k,x) :: r)=(if k=f then (k,v) :: r else (k,x) :: putF f v r) from rfl];by_cases hk:k=f
  ·rw [if_pos hk,Zj,Zj];omega
  ·rw [if_neg hk,Zj,Zj];omega
theorem RelO.some_of {v:V}{o:Option Value} (r:RelO (some v) o):∃ u,o=some u∧RelV v u:=by
 cases o with
 | none=>exact (show False from r).elim
 | some u=>exact ⟨u,rfl,r⟩
theorem RelO.none_of {o:Option Value} (r:RelO none o):o=none:=by
 cases o with
 | none=>rfl
 | some u=>exact (show False from r).elim
theorem handed_of {v:V}{u:Value} (r:RelV v u):PySem.W.handedIn u=true:=by
 cases v with
 | non=>cases (show u=Value.none from r);rfl
 | bl b=>cases (show u=Value.bool b from r);rfl
 | int i=>obtain ⟨t,e⟩:=(show ∃ t,u=Value.int i t from r);cases e;rfl
 | str x=>obtain ⟨t,e⟩:=(show ∃ t,u=Value.str x t from r);cases e;rfl
 | byt b=>obtain ⟨t,e⟩:=(show ∃ t,u=Value.bytes b t from r);cases e;rfl
 | flt b=>obtain ⟨t,e⟩:=(show ∃ t,u=Value.float b t from r);cases e;rfl
 | ref a=>cases (show u=Value.ref a from r);rfl
 | ty n=>cases (show u=Value.type n from r);rfl
section
variable {P:Program}{w:World}{H H':Hp}{h h':Heap}{a C dx:Addr}{fs fs':List (Str×V)}
theorem zE5 (hok:HOk P w H h) (e:H a=some (.ins C dx fs)):∃ mA,ObjM h a dx C mA∧(∀ f,RelO (fs.lookup f) (mA f))∧PySem.Within mA (fs.map (·.1))∧fs.length≤1000∧H dx=some (.own a):=by
 obtain ⟨d,z,ne,ob,mA,n,r,q⟩:=(show ObjOk P w H h a (.ins C dx fs) from hok a _ e);exact ⟨mA,⟨ob,n,ne⟩,r,q,z,d⟩
end
structure Cls (K:PySem.W.Frag) (C:Addr):Prop where
 pg:PySem.W.plainGet K C Str.empty=true
 hd:PySem.W.hasDictIn K C=true
 po:PySem.W.plainOver K C=true
 sa:PySem.W.findIn K (.ref C) "__setattr__" = some (some (.builtin "object.__setattr__"))
theorem Cls.get {K:PySem.W.Frag}{C:Addr} (c:Cls K C) (f:Str):PySem.W.plainGet K C f=true:=c.pg
noncomputable def NoAttr (K:PySem.W.Frag) (C:Addr) (f:Str):Prop:=PySem.W.findIn K (.ref C) f=some none
theorem NoAttr.taker {K:PySem.W.Frag}{C:Addr}{f:Str} (n:NoAttr K C f):PySem.W.takerIn K C f=some none:=by
 unfold PySem.W.takerIn;rw [show PySem.W.findIn K (.ref C) f=some none from n];rfl
structure Meth (K:PySem.W.Frag) (C:Addr) (m:Str) (f:Addr):Prop where
 at_:PySem.W.findIn K (.ref C) m=some (some (.ref f))
 fn:PySem.W.isFn K (.ref f)=true
 kp:PySem.W.keepIn K (.ref f)=true
section
variable {X:Cx}{pins:List (Addr×Obj)}{σ : St}{H:Hp}{s:Shared}{a C dx:Addr}{fs:List (Str×V)}{f:Str}{v:V}{A:Around}{E:Value→Shared→Prop}
theorem getattr_ok {b:Bool}{Q:Value→Shared→Prop} (I:Inv X pins σ H s) (e:H a=some (.ins C dx fs)) (c:Cls X.K C) (n:NoAttr X.K C f) (l:fs.lookup f=some v)
  (h:∀ u s',Inv X pins σ H s'→RelV v u→Q u s'):wpAny (model X.prog X.w) A (getAttr (.ref a) f b) Q E s:=by
 obtain ⟨mA,O,r,_,_,_⟩:=zE5 I.hok e;obtain ⟨u,hu,ru⟩:=RelO.some_of (v:=v) (o:=mA f) (by rw [← l];exact r f);exact get_map I.kIn O (c.get f) c.hd n hu (handed_of ru) (h u _ (I.tok _) ru)
theorem zCu {m:Str}{g:Addr}{pl:Sem Bool}{Q:Value×List Value→Shared→Prop} (I:Inv X pins σ H s) (e:H a=some (.ins C dx fs)) (c:Cls X.K C) (k:Meth X.K C m g) (l:fs.lookup m=none)
  (h:Q (.ref g,[.ref a]) s):wpAny (model X.prog X.w) A (getMethod (.ref a) m pl) Q E s:=by
 obtain ⟨mA,O,r,_,_,_⟩:=zE5 I.hok e;have hn:mA m=none:=RelO.none_of (by rw [← l];exact r m);exact get_meth I.kIn O (c.get m) k.at_ k.fn hn h
theorem setattr_ok {y:V}{u:Value}{Q:Unit→Shared→Prop} (I:Inv X pins σ H s) (e:H a=some (.ins C dx fs)) (c:Cls X.K C) (n:NoAttr X.K C f) (hl:fs.length < 1000) (ry:RelV y u)
  (h:∀ s',Inv X pins σ (upd H a (.ins C dx (putF f y fs))) s'→Q () s'):wpAny (model X.prog X.w) A (setAttr (.ref a) f u) Q E s:=by
 obtain ⟨mA,O,r,wi,_,ho⟩:=zE5 I.hok e;have hz:(fs.map (·.1)).length≤sizeLine:=by rw [Z0,sizeLine_eq];omega
 refine set_map I.kIn O c.sa c.po n.taker c.hd wi hz fun h' O' sb=>h _ ?_;have hd:∃ o,h'.get? dx=some o:=let ⟨o,_,_,e',_⟩:=O'.ns;⟨o,e'⟩;refine I.write (x:=a) (e:=dx) (by rw [e];exact True.intro) (.inr ho) (fun b q hb z=>(sb.2 b hb).trans z) hd ?_;refine ⟨by rw [zA9 O.ne];exact ho,?_,O.ne,O'.obj,_,O'.ns,fun g=>?_,fun g hg=>?_⟩
 ·have:=zCy f y fs;omega
 ·show RelO ((putF f y fs).lookup g) (if g=f then some u else mA g);rw [zA8];by_cases q:g=f
  ·rw [if_pos q,if_pos q];exact ry
  ·rw [if_neg q,if_neg q];exact r g
 ·by_cases q:g=f
  ·rw [q];exact (zE3 f y fs).1
  ·refine (zE3 f y fs).2 g (wi g fun z=>hg ?_);show (if g=f then some u else mA g)=none;rw [if_neg q];exact z
theorem Inv.made (I:Inv X pins σ H s):Inv X pins σ (upd (upd H s.heap.objs.size (.own (s.heap.objs.size + 1))) (s.heap.objs.size + 1) (.ins C s.heap.objs.size []))
  { s with heap:=(s.heap.push PySem.W.emptyDict).push (PySem.W.instObj C s.heap.objs.size) }:=by
 have e1:(s.heap.push PySem.W.emptyDict).get? s.heap.objs.size=some PySem.W.emptyDict:=Zh s.heap rfl;have e2:((s.heap.push PySem.W.emptyDict).push (PySem.W.instObj C s.heap.objs.size)).get? (s.heap.objs.size + 1)=some (PySem.W.instObj C s.heap.objs.size):=by
  have:=Zh (s.heap.push PySem.W.emptyDict) (o:=PySem.W.instObj C s.heap.objs.size) rfl
  rwa [Yi] at this
 have e3:(s.heap.push PySem.W.emptyDict).Ns s.heap.objs.size (fun _=>none):=⟨PySem.W.emptyDict,#[],_,e1,rfl,(fun e he=>absurd he (by simp)),fun _=>rfl⟩;have I1:=I.laid (a:=s.heap.objs.size) (o:=.own (s.heap.objs.size + 1)) (h':=s.heap.push PySem.W.emptyDict) (t':=s.toks) (fun b u q=>Z1 _ q) (Z7 _) ⟨_,e1⟩;refine I1.laid (a:=s.heap.objs.size + 1) (o:=.ins C s.heap.objs.size []) (t':=s.toks) (fun b u q=>Z1 _ q) (Nat.le_of_eq (Yi _ _)) ?_;have ne:s.heap.objs.size≠s.heap.objs.size + 1:=Zf (Yk _);refine ⟨by rw [zA9 ne,zA1],Zm _,ne,e2,fun _=>none,(Heap.Ns1.of_empty e3).at fun o q=>Z1 _ q,fun _=>True.intro,fun y hy=>absurd rfl hy⟩
theorem attr_of {prog:Program}{w:World}{env:Env}{e:Expr}{f:Str}{pos:Pos}{s:Shared}{Q:Value→Shared→Prop} (hb:attributeBase e f env (eval e env)=eval e env)
  (h:wpAny (model prog w) A (eval e env) (fun o s₁=>wpAny (model prog w) A (getAttr o f true) Q E s₁) E s):wpAny (model prog w) A (eval (.Attribute e f pos) env) Q E s :=
 Attribute_any_ h (by rw [arm_eval_Attribute,hb])
end
noncomputable def tFld (K:PySem.W.Frag) (ta:TE) (f:Str):TE:=fun σ H Q=>ta σ H fun x H1=>∃ a C dx fs v,x=.ref a∧H1 a=some (.ins C dx fs)∧Cls K C∧NoAttr K C f∧fs.lookup f=some v∧Q v H1
noncomputable def sFld (K:PySem.W.Frag) (ta tv:TE) (f:Str):TS:=fun D σ H=>tv σ H fun y H1=>ta σ H1 fun x H2=>∃ a C dx fs,x=.ref a∧H2 a=some (.ins C dx fs)∧Cls K C∧NoAttr K C f∧fs.length < 1000 ∧
 D.nx σ (upd H2 a (.ins C dx (putF f y fs)))
section
variable {X:Cx}{o e value:Expr}{f:Str}{pos pos' tpos:Pos}{ta tv:TE}
theorem zB2 (he:PE X e ta) (hb:attributeBase e f X.env (eval e X.env)=eval e X.env):PE X (.Attribute e f pos) (tFld X.K ta f):=by
 intro pins s σ H Q I h;refine attr_of hb (thn (he pins s σ H _ I h) fun u s1 ⟨x,H1,I1,rx,a,C,dx,fs,v,ex,ea,c,n,l,q⟩=>?_);subst ex;obtain rfl:u=Value.ref a:=rx;exact getattr_ok I1 ea c n l fun u' s2 I2 ru=>⟨v,H1,I2,ru,q⟩
theorem zB9 (ha:PE X o ta) (hv:PE X value tv) (hs:swapsWith value (some (.Attribute o f pos')) pos.line X.env=pure false):PS X (.Assign [.Attribute o f pos'] value pos) (sFld X.K ta tv f):=by
 intro pins s σ H D I h;refine plainObj_wpAny_Assign_Attribute (thn (hv pins s σ H _ I h) fun u s1 ⟨y,H1,I1,ry,q⟩=>thn (ha pins s1 σ H1 _ I1 q) fun ov s2 ⟨x,H2,I2,rx,a,C,dx,fs,ex,ea,c,n,l,q2⟩=>?_) hs;subst ex;obtain rfl:ov=Value.ref a:=rx;exact setattr_ok I2 ea c n l ry fun s3 I3=>⟨σ,_,I3,q2⟩
theorem zE1 {pl:Sem Bool}{m:Str}{apos:Pos}{args:List Expr}{pins:List (Addr×Obj)}{s:Shared}{σ : St}{H:Hp}{Q:Value→Shared→Prop}{te:TE} (he:PE X e te) (I:Inv X pins σ H s)
  (h:te σ H fun x H1=>∃ a C dx fs g,x=.ref a∧H1 a=some (.ins C dx fs)∧Cls X.K C∧Meth X.K C m g∧fs.lookup m=none ∧
   ∀ s1,Inv X pins σ H1 s1→wpAny (model X.prog X.w) X.A (callWith pos (.ref g) [.ref a] (backTo pos (starEach args X.env)) (backToKw pos (keywordEach [] X.env))) Q X.xe s1)
  (ht:eval (.Call (.Attribute e m apos) args [] pos) X.env=(do
   let ov ← eval e X.env
   standAt apos.atName
   let (f,first) ← holding [ov] (getMethod ov m pl)
   callWith pos f first (backTo pos (starEach args X.env)) (backToKw pos (keywordEach [] X.env)))) :
  wpAny (model X.prog X.w) X.A (eval (.Call (.Attribute e m apos) args [] pos) X.env) Q X.xe s:=by
 refine PySem.W.methodCall_KW (pl:=pl) (thn (he pins s σ H _ I h) fun u s1 ⟨x,H1,I1,rx,a,C,dx,fs,g,ex,ea,c,k,l,q⟩=>?_) ht;subst ex;obtain rfl:u=Value.ref a:=rx;exact zCu I1 ea c k l (q s1 I1)
end
section
variable {X:Cx}{pins:List (Addr×Obj)}{σ : St}{H:Hp}{s:Shared}{A:Around}{E:Value→Shared→Prop}{Q:Value→Shared→Prop}{c:Value}{b:Bool}
inductive TyOf (K:PySem.W.Frag) (H:Hp):V→Value→Prop where
 | non:TyOf K H .non (.type "NoneType")
 | bl (x:Bool):TyOf K H (.bl x) (.type "bool")
 | int (i:Int):TyOf K H (.int i) (.type "int")
 | str (x:Str):TyOf K H (.str x) (.type "str")
 | flt (x:UInt64):TyOf K H (.flt x) (.type "float")
 | lst {a:Addr}{xs:List V} (e:H a=some (.lst xs)):TyOf K H (.ref a) (.type "list")
 | frz {a:Addr}{o:Obj}{xs:List V} (e:H a=some (.frz o (.lst xs))):TyOf K H (.ref a) (.type "list")
 | tup {a:Addr}{xs:List V} (e:H a=some (.tup xs)):TyOf K H (.ref a) (.type "tuple")
 | dK {a:Addr}{kvs:List (Key×V)} (e:H a=some (.dK kvs)):TyOf K H (.ref a) (.type "dict")
 | dT {a:Addr}{kvs:List (List Key×V)} (e:H a=some (.dT kvs)):TyOf K H (.ref a) (.type "dict")
 | ins {a C dx:Addr}{fs:List (Str×V)} (e:H a=some (.ins C dx fs)) (cl:Cls K C) (ha:PySem.W.findIn K (.ref C) "__class__" = some (some (.builtin "object.__class__")))
   (hn:PySem.W.specialIn K (.builtin "object.__class__") "__get__" = some (some (.builtin "getset_descriptor.__get__"))) (htk:PySem.W.takesIn K (.builtin "object.__class__")=some true)
   (hm:PySem.W.mroIn K C (.type "object")=some true):TyOf K H (.ref a) (.ref C)
theorem isinst_ok {x:V}{u t:Value} (I:Inv X pins σ H s) (rx:RelV x u) (ty:TyOf X.K H x t) (e:PySem.W.kitOne X.K t c=some b) (h:∀ tk,Q (.bool b) { s with toks:=tk }) :
  wpAny (model X.prog X.w) A (call (.builtin "isinstance") [u,c]) Q E s:=by
 cases ty with
 | non=>cases (show u=Value.none from rx);exact PySem.W.kia_one PySem.W.kitx_none I.kIn True.intro e (fun z=>nomatch z) h
 | bl y=>cases (show u=Value.bool y from rx);exact PySem.W.kia_one PySem.W.kitx_bool I.kIn True.intro e (fun z=>nomatch z) h
 | int i=>obtain ⟨t,q⟩:=(show ∃ t,u=Value.int i t from rx);cases q;exact PySem.W.kia_one PySem.W.kitx_int I.kIn True.intro e (fun z=>nomatch z) h
 | str y=>obtain ⟨t,q⟩:=(show ∃ t,u=Value.str y t from rx);cases q;exact PySem.W.kia_one PySem.W.kitx_str I.kIn True.intro e (fun z=>nomatch z) h
 | flt y=>obtain ⟨t,q⟩:=(show ∃ t,u=Value.float y t from rx);cases q;exact PySem.W.kia_one PySem.W.kitx_float I.kIn True.intro e (fun z=>nomatch z) h
 | @lst a xs ea =>
  cases (show u=Value.ref a from rx);obtain ⟨_,_,n,_,h1⟩:=(show ObjOk X.prog X.w H s.heap a (.lst xs) from I.hok a _ ea);exact PySem.W.kia_one PySem.W.kitx_list I.kIn ⟨_,h1,rfl⟩ e (fun z=>nomatch z) h
 | @frz a ob xs ea =>
  cases (show u=Value.ref a from rx);obtain ⟨_,_,_,n,_,h1⟩:=(show ObjOk X.prog X.w H s.heap a (.frz ob (.lst xs)) from I.hok a _ ea);exact PySem.W.kia_one PySem.W.kitx_list I.kIn ⟨_,h1,rfl⟩ e (fun z=>nomatch z) h
 | @tup a xs ea =>
  cases (show u=Value.ref a from rx);obtain ⟨_,_,_,p⟩:=(show ObjOk X.prog X.w H s.heap a (.tup xs) from I.hok a _ ea);obtain ⟨o,h1,h2,_⟩:=p;exact PySem.W.kia_one PySem.W.kitx_tuple I.kIn ⟨o,h1,h2⟩ e (fun z=>nomatch z) h
 | @dK a kvs ea =>
  cases (show u=Value.ref a from rx);obtain ⟨_,_,vs,_,p⟩:=(show ObjOk X.prog X.w H s.heap a (.dK kvs) from I.hok a _ ea);obtain ⟨o,es,ep,h1,h2,_⟩:=p;exact PySem.W.kia_one PySem.W.kitx_dict I.kIn ⟨o,h1,h2.1⟩ e (fun z=>nomatch z) h
 | @dT a kvs ea =>
  cases (show u=Value.ref a from rx);obtain ⟨_,_,xs,_,o,es,ep,h1,h2,_⟩:=(show ObjOk X.prog X.w H s.heap a (.dT kvs) from I.hok a _ ea);exact PySem.W.kia_one PySem.W.kitx_dict I.kIn ⟨o,h1,h2.1⟩ e (fun z=>nomatch z) h
 | @ins a C dx fs ea cl ha hn htk hm =>
  cases (show u=Value.ref a from rx);obtain ⟨mA,O,_⟩:=zE5 I.hok ea;obtain ⟨od,J,_⟩:=O.look;exact PySem.W.kia_one (PySem.W.kitx_own (cl.get _) cl.hd ha hn htk hm) I.kIn J e (fun z=>nomatch z) h
end
end L2
namespace L2
open PySem PySem.Spec PyProof.Rows
structure RoomQ (q:Bool) (k:Nat) (A:Around):Prop where
 hd:q=true→A.handled=none
 dp:A.depth + 3 * k + 5 < recursionLimit
 un:A.units + 16 * k + 200 < cLine
noncomputable abbrev Room:=RoomQ true
theorem RoomQ.mono {q:Bool}{j k:Nat}{A:Around} (r:RoomQ q k A) (h:j≤k):RoomQ q j A:=⟨r.hd,by have:=r.dp;omega,by have:=r.un;omega⟩
theorem RoomQ.deeper {q:Bool}{k:Nat}{A:Around} (r:RoomQ q (k + 1) A) (env:Env):RoomQ q k (A.deeper env) :=
 ⟨r.hd,by have:=r.dp;show A.depth + 1 + 3 * k + 5 < _;omega,by have:=r.un;show A.units + 3 + 16 * k + 200 < _;omega⟩
theorem RoomQ.in1 {q:Bool}{k:Nat}{A:Around} (r:RoomQ q (k + 1) A):RoomQ q k A.in1 :=
 ⟨r.hd,by have:=r.dp;show A.depth + 3 * k + 5 < _;omega,by have:=r.un;show A.units + 1 + 16 * k + 200 < _;omega⟩
theorem make_depth {A:Around}{C:Addr}{us:List Value}{kw:List (Str×Value)}:(A.under (.builtin "type.__call__" ⟨.ref C :: us,kw⟩)).depth=A.depth + 1:=by
 first | rfl | simp [Around.under,Code.weight,Code.isCreation,Code.isGuard,Code.isCaller,Code.frames,Code.isFrame,guardIds]
theorem make_units {A:Around}{C:Addr}{us:List Value}{kw:List (Str×Value)}:(A.under (.builtin "type.__call__" ⟨.ref C :: us,kw⟩)).units=A.units + 1:=by
 first | rfl | simp [Around.under,Code.cUnits,Code.frames,Code.isFrame]
theorem RoomQ.make {q:Bool}{k:Nat}{A:Around} (r:RoomQ q (k + 1) A) (C:Addr) (us:List Value) (kw:List (Str×Value)):RoomQ q k (A.under (.builtin "type.__call__" ⟨.ref C :: us,kw⟩)) :=
 ⟨r.hd,by have:=r.dp;rw [make_depth];omega,by have:=r.un;rw [make_units];omega⟩
theorem RoomQ.depth {q:Bool}{k:Nat}{A:Around} (r:RoomQ q k A):A.depth < recursionLimit:=by have:=r.dp;omega
theorem RoomQ.units {q:Bool}{k:Nat}{A:Around} (r:RoomQ q k A):A.units + 64 < cLine:=by have:=r.un;omega
noncomputable def tNil:TA:=fun _ H Q=>Q [] H
noncomputable def tCons (ta:TE) (tr:TA):TA:=fun σ H Q=>ta σ H fun x H1=>tr σ H1 fun xs H2=>Q (x :: xs) H2
section
variable {X:Cx}{e:Expr}{es:List Expr}{te:TE}{t:TA}{pos:Pos}
theorem zA2:PA X [] tNil:=fun _ _ _ _ H Q I h=>Calls.spliced_nil ⟨[],H,I,.nil,h⟩
theorem zA0 (ha:PE X e te) (hr:PA X es t) (hs:starEach (e :: es) X.env=(false,eval e X.env) :: starEach es X.env:=by rfl):PA X (e :: es) (tCons te t):=by
 intro pos pins s σ H Q I h;rw [hs];show wpAny _ _ (spliced ((false,eval e X.env) :: backTo pos (starEach es X.env))) _ _ s;refine Calls.spliced_cons (thn (ha pins s σ H _ I h) fun u s1 ⟨x,H1,I1,r1,q1⟩=>?_);exact thn (hr pos pins s1 σ H1 _ I1 q1) fun us s2 ⟨xs,H2,I2,r2,q2⟩=>⟨x :: xs,H2,I2,.cons r1 r2,q2⟩
noncomputable def tTup (t:TA):TE:=fun σ H Q=>t σ H fun xs H1=>xs.length≤sizeLine∧∀ p,H1 p=none→Q (.ref p) (upd H1 p (.tup xs))
noncomputable def tLst (t:TA):TE:=fun σ H Q=>t σ H fun xs H1=>xs.length≤sizeLine∧∀ p,H1 p=none→Q (.ref p) (upd H1 p (.lst xs))
theorem zB8 {x1} (h:PA X es t):PE X (.Tuple es x1 pos) (tTup t):=by
 intro pins s σ H Q I hq;refine wpAny_Tuple_spliced (thn (h pos pins s σ H _ I hq) fun us s1 ⟨xs,H1,I1,r,z,q⟩=>⟨by rw [← r.length];exact z,?_⟩);have hf:H1 s1.heap.objs.size=none:=I1.hok.fresh (Z7 _);refine ⟨.ref s1.heap.objs.size,upd H1 s1.heap.objs.size (.tup xs),I1.laid (t':=s1.toks) (fun b u e=>Z1 _ e) (Z7 _) ?_,rfl,q _ hf⟩;exact ⟨z,us,r,⟨_,Zh _ rfl,rfl,_,rfl⟩⟩
theorem zAm (h:PA X es t):PE X (.List es pos) (tLst t):=by
 intro pins s σ H Q I hq;refine wpAny_List_spliced (thn (h pos pins s σ H _ I hq) fun us s1 ⟨xs,H1,I1,r,z,q⟩=>⟨by rw [← r.length];exact z,?_⟩);have hf:H1 s1.heap.objs.size=none:=I1.hok.fresh (Z7 _);refine ⟨.ref s1.heap.objs.size,upd H1 s1.heap.objs.size (.lst xs),I1.laid (t':=s1.toks) (fun b u e=>Z1 _ e) (Z7 _) ?_,rfl,q _ hf⟩;exact ⟨z,us,0,r,Zh _ rfl⟩
end
noncomputable abbrev Sp:=List V→Hp→VK→XK→Prop
noncomputable abbrev CXT:=List Env→Hp→Shared→XK→Value→Shared→Prop
structure Env0 (P:Program) (w:World) (K:PySem.W.Frag) (mg:Str→Option Value) (base:Heap) (A:Around) (outer:List Env) (s:Shared) (H:Hp):Prop where
 frames:A.frames=some outer
 mod:Mod K mg base
 bs:∀ b o,base.get? b=some o→s.heap.get? b=some o∧H b=none
 bsz:base.objs.size≤s.heap.objs.size
 funs:s.heap.FunFrames base outer
 frf:∀ b∈frs outer,H b=none
 hok:HOk P w H s.heap
 bare:AllBare s.gens
noncomputable def CE (outer:List Env) (P:Program) (w:World) (H:Hp) (s:Shared) (Q:VK) (u:Value) (s':Shared):Prop :=
 ∃ v H',s'.os=s.os∧AllBare s'.gens∧Un (frs outer) [] H H' s.heap s'.heap∧HOk P w H' s'.heap∧RelV v u∧Q v H'
noncomputable def CR (CX:CXT) (outer:List Env) (P:Program) (w:World) (H:Hp) (s:Shared) (Q:VK) (E:XK) (r:Result) (s':Shared):Prop :=
 match r with
 | .ok (.ret u)=>CE outer P w H s Q u s'
 | .ok _=>False
 | .error e=>CX outer H s E e s'
structure FnOkQ (q:Bool) (P:Program) (w:World) (K:PySem.W.Frag) (mg:Str→Option Value) (base:Heap) (CX:CXT) (k:Nat) (f:Addr) (fd:FuncData) (ps:List Str) (sp:Sp):Prop where
 len:∀ vs H Q E,sp vs H Q E→vs.length=ps.length
 run:∀ (A:Around) (outer:List Env) (s:Shared) (H:Hp) (args:Args) (us:List Value) (vs:List V) (Q:VK) (E:XK),RoomQ q k A→Env0 P w K mg base A outer s H→BindsTo s fd args (ps.zip us)→Vals vs us→sp vs H Q E →
  codeAny (model P w) A (.call (.ref f) args) (CR CX outer P w H s Q E) s
noncomputable abbrev FnOk:=FnOkQ true
theorem FnOk.mono {P:Program}{w:World}{K:PySem.W.Frag}{mg:Str→Option Value}{base:Heap}{CX:CXT}{j k:Nat}{f:Addr}{fd:FuncData}{ps:List Str}{sp:Sp} (F:FnOk P w K mg base CX j f fd ps sp) (h:j≤k) :
  FnOk P w K mg base CX k f fd ps sp:=⟨F.len,fun A outer s H args us vs Q E hr=>F.run A outer s H args us vs Q E (hr.mono h)⟩
theorem FnOk.imp {P:Program}{w:World}{K:PySem.W.Frag}{mg:Str→Option Value}{base:Heap}{CX:CXT}{k:Nat}{f:Addr}{fd:FuncData}{ps:List Str}{sp sp':Sp} (F:FnOk P w K mg base CX k f fd ps sp)
  (h:∀ vs H Q E,sp' vs H Q E→sp vs H Q E):FnOk P w K mg base CX k f fd ps sp' :=
 ⟨fun vs H Q E q=>F.len vs H Q E (h _ _ _ _ q),fun A outer s H args us vs Q E hr he hb hv hs=>F.run A outer s H args us vs Q E hr he hb hv (h _ _ _ _ hs)⟩
theorem Env0.make {P:Program}{w:World}{K:PySem.W.Frag}{mg:Str→Option Value}{base:Heap}{A:Around}{outer:List Env}{s:Shared}{H:Hp} (e:Env0 P w K mg base A outer s H) (C:Addr) (us:List Value) (kw:List (Str×Value)) :
  Env0 P w K mg base (A.under (.builtin "type.__call__" ⟨.ref C :: us,kw⟩)) outer s H:=⟨by first | exact e.frames | (simpa [Around.under,Code.envs,Code.isFrame,pushEnvs] using e.frames),e.mod,e.bs,e.bsz,e.funs,e.frf,e.hok,e.bare⟩
section
variable {X:Cx}{pins:List (Addr×Obj)}{σ : St}{H:Hp}{s s':Shared}
theorem Inv.env0 (I:Inv X pins σ H s):Env0 X.prog X.w X.K X.mg X.base X.A X.stack s H :=
 ⟨I.ok.frames,I.ok.mod,I.bs,Zo I.ok.bsz I.sz,I.stack,I.stkFree,I.hok,I.bare⟩
theorem Inv.after {Q:VK}{u:Value} (I:Inv X pins σ H s) (h:CE X.stack X.prog X.w H s Q u s'):EP X pins σ Q u s':=by
 obtain ⟨v,H',os,bare,un,hok,r,q⟩:=h;obtain ⟨hh,g,d,t,os'⟩:=s';obtain rfl:os'=s.os:=os;exact ⟨v,H',I.call (h':=hh) (g':=g) (d':=d) (t':=t) (ch:=[]) un hok bare (fun b z=>absurd z (by simp)),r,q⟩
end
noncomputable def tCall (sp:Sp) (dvs:List V) (E:St→XK) (t:TA):TE:=fun σ H Q=>t σ H fun vs H1=>sp (vs++dvs) H1 Q (E σ)
noncomputable def tMeth (C:Addr) (m:Str) (sp:Sp) (dvs:List V) (E:St→XK) (ta:TE) (t:TA):TE:=fun σ H Q=>ta σ H fun x H1=>∃ a dx fs,x=.ref a∧H1 a=some (.ins C dx fs)∧fs.lookup m=none ∧
 t σ H1 fun vs H2=>sp (x :: (vs++dvs)) H2 Q (E σ)
noncomputable def tMake (C:Addr) (sp:Sp) (dvs:List V) (E:St→XK) (t:TA):TE:=fun σ H Q=>t σ H fun vs H1=>∀ x dx,H1 x=none→H1 dx=none→dx≠x →
 sp (.ref x :: (vs++dvs)) (upd (upd H1 dx (.own x)) x (.ins C dx [])) (fun v H2=>v=.non∧Q (.ref x) H2) (E σ)
noncomputable def Binds (K:PySem.W.Frag) (fd:FuncData) (ps:List Str) (ds:List Value):Prop :=
 ∀ (s:Shared) (us:List Value),K.In s.heap→(us++ds).length=ps.length→BindsTo s fd ⟨us,[]⟩ (ps.zip (us++ds))
theorem Binds.all {K:PySem.W.Frag}{fd:FuncData}{ps:List Str} (h:∀ us:List Value,us.length=ps.length→bindArgs fd ⟨us,[]⟩=pure (ps.zip us)):Binds K fd ps []:=fun s us _ hl=>by
 rw [List.append_nil] at hl ⊢;exact .of_eq (h us hl)
noncomputable def Passes (CX:CXT) (X:Cx) (E:St→XK):Prop:=∀ (pins:List (Addr×Obj)) (σ : St) (H:Hp) (s:Shared) (e:Value) (s':Shared),Inv X pins σ H s→CX X.stack H s (E σ) e s'→X.xe e s'
section
variable {X:Cx}{CX:CXT}{k:Nat}{f C:Addr}{fd:FuncData}{ps:List Str}{sp:Sp}{dvs:List V}{ds:List Value}{E:St→XK}{x m:Str}{p pos apos:Pos}{e o:Expr}{es:List Expr}{ta:TE}{t:TA}
theorem run_fn {pins:List (Addr×Obj)}{σ : St}{H:Hp}{s:Shared}{Q:VK}{us:List Value}{vs:List V}{q:Bool} (F:FnOkQ q X.prog X.w X.K X.mg X.base CX k f fd ps sp) (hr:RoomQ q k X.A) (hb:Binds X.K fd ps ds) (hd:Vals dvs ds) (hx:Passes CX X E)
  (I:Inv X pins σ H s) (r:Vals vs us) (h:sp (vs++dvs) H Q (E σ)):wpAny (model X.prog X.w) X.A (call (.ref f) us) (EP X pins σ Q) X.xe s:=by
 have r2:Vals (vs++dvs) (us++ds):=r.append hd;have hl:(us++ds).length=ps.length:=by rw [← r2.length];exact F.len _ _ _ _ h
 refine wpAny_call (codeAny_mono (F.run X.A X.stack s H ⟨us,[]⟩ (us++ds) (vs++dvs) Q (E σ) hr I.env0 (hb s us I.kIn hl) r2 h) fun r s' hq=>?_);cases r with
 | error e=>exact hx pins σ H s e s' I hq
 | ok fl =>
  cases fl with
  | ret u=>exact I.after hq
  | next=>exact False.elim hq
  | brk=>exact False.elim hq
  | cont=>exact False.elim hq
theorem zA6 {q:Bool} (F:FnOkQ q X.prog X.w X.K X.mg X.base CX k f fd ps sp) (hr:RoomQ q k X.A) (hg:Gl X x) (hm:X.mg x=some (.ref f)) (hk:PySem.W.keepIn X.K (.ref f)=true) (hb:Binds X.K fd ps ds) (hd:Vals dvs ds) (hx:Passes CX X E)
  (ha:PA X (e :: es) t) (hdb:(x == ("__debug__" : Str))=false:=by decide) (he:starEach (e :: es) X.env=(false,eval e X.env) :: starEach es X.env:=by rfl) (hpl:(backTo pos (starEach es X.env)).any (·.1)=false:=by rfl) :
  PE X (.Call (.Name x p) (e :: es) [] pos) (tCall sp dvs E t):=by
 intro pins s σ H Q I h;refine wpAny_Call_Name_kw (zDh I hg hm ?_ hdb);refine PySem.W.callWith_K (h₀:=X.base) I.ok.mod.kin hk (thn (ha pos pins s σ H _ I h) fun us s1 ⟨vs,H1,I1,r,q⟩=>⟨I1.kIn,?_⟩) he hpl;exact run_fn F hr hb hd hx I1 r q
theorem zEv {pl:Sem Bool} (he:PE X o ta) (c:Cls X.K C) (hm:Meth X.K C m f) (F:FnOk X.prog X.w X.K X.mg X.base CX k f fd ps sp) (hr:Room k X.A) (hb:Binds X.K fd ps ds) (hd:Vals dvs ds) (hx:Passes CX X E) (ha:PA X (e :: es) t)
  (hst:starEach (e :: es) X.env=(false,eval e X.env) :: starEach es X.env:=by rfl) (hpl:(backTo pos (starEach es X.env)).any (·.1)=false:=by rfl)
  (ht:eval (.Call (.Attribute o m apos) (e :: es) [] pos) X.env=(do
   let ov ← eval o X.env
   standAt apos.atName
   let (f,first) ← holding [ov] (getMethod ov m pl)
   callWith pos f first (backTo pos (starEach (e :: es) X.env)) (backToKw pos (keywordEach [] X.env))):=by rfl) :
  PE X (.Call (.Attribute o m apos) (e :: es) [] pos) (tMeth C m sp dvs E ta t):=by
 intro pins s σ H Q I h;refine PySem.W.methodCall_KW (pl:=pl) (thn (he pins s σ H _ I h) fun u s1 ⟨x,H1,I1,rx,a,dx,fs,ex,ea,l,q⟩=>?_) ht;subst ex;obtain rfl:u=Value.ref a:=rx;refine zCu I1 ea c hm l ?_;refine PySem.W.callWith_K (first:=[.ref a]) (h₀:=X.base) I.ok.mod.kin hm.kp (thn (ha pos pins s1 σ H1 _ I1 q) fun us s2 ⟨vs,H2,I2,r,q2⟩=>⟨I2.kIn,?_⟩) hst hpl;exact run_fn (us:=.ref a :: us) (vs:=.ref a :: vs) F hr hb hd hx I2 (.cons rfl r) q2
theorem zEu {pl:Sem Bool} (he:PE X o ta) (c:Cls X.K C) (hm:Meth X.K C m f) (F:FnOk X.prog X.w X.K X.mg X.base CX k f fd ps sp) (hr:Room k X.A) (hb:Binds X.K fd ps ds) (hd:Vals dvs ds) (hx:Passes CX X E)
  (ht:eval (.Call (.Attribute o m apos) [] [] pos) X.env=(do
   let ov ← eval o X.env
   standAt apos.atName
   let (f,first) ← holding [ov] (getMethod ov m pl)
   callWith pos f first (backTo pos (starEach [] X.env)) (backToKw pos (keywordEach [] X.env))):=by rfl) :
  PE X (.Call (.Attribute o m apos) [] [] pos) (tMeth C m sp dvs E ta tNil):=by
 intro pins s σ H Q I h;refine PySem.W.methodCall_KW (pl:=pl) (thn (he pins s σ H _ I h) fun u s1 ⟨x,H1,I1,rx,a,dx,fs,ex,ea,l,q⟩=>?_) ht;subst ex;obtain rfl:u=Value.ref a:=rx;refine zCu I1 ea c hm l ?_;exact PySem.W.callWith_K0 (first:=[.ref a]) I1.kIn hm.kp (run_fn (us:=[.ref a]) (vs:=[.ref a]) F hr hb hd hx I1 (.cons rfl .nil) q)
structure Mk (K:PySem.W.Frag) (C f:Addr):Prop where
 makes:PySem.W.makesIn K C=true
 init:PySem.W.findIn K (.ref C) "__init__" = some (some (.ref f))
 fn:PySem.W.isFn K (.ref f)=true
 kp:PySem.W.keepIn K (.ref C)=true
theorem run_make {pins:List (Addr×Obj)}{σ : St}{H:Hp}{s:Shared}{Q:VK}{us:List Value}{vs:List V} (M:Mk X.K C f) (F:FnOk X.prog X.w X.K X.mg X.base CX k f fd ps sp) (hr:Room (k + 1) X.A) (hb:Binds X.K fd ps ds) (hd:Vals dvs ds)
  (hx:Passes CX X E) (I:Inv X pins σ H s) (r:Vals vs us)
  (h:∀ x dx,H x=none→H dx=none→dx≠x→sp (.ref x :: (vs++dvs)) (upd (upd H dx (.own x)) x (.ins C dx [])) (fun v H2=>v=.non∧Q (.ref x) H2) (E σ)) :
  wpAny (model X.prog X.w) X.A (call (.ref C) us) (EP X pins σ Q) X.xe s:=by
 have hq:=h (s.heap.objs.size + 1) s.heap.objs.size (I.hok.fresh (Nat.le_succ _)) (I.hok.fresh (Z7 _)) (Zf (Yk _));have I2:=Inv.made (C:=C) I;have r2:Vals (V.ref (s.heap.objs.size + 1) :: (vs++dvs)) (Value.ref (s.heap.objs.size + 1) :: (us++ds)):=.cons rfl (r.append hd);have hl:(Value.ref (s.heap.objs.size + 1) :: us++ds).length=ps.length:=by
  have e:=r2.length;rw [F.len _ _ _ _ hq] at e;exact e.symm
 refine wpAny_call (make_map (f:=f) I.kIn M.makes M.init (beq_iff_eq.mp M.fn) (codeAny_mono (F.run _ X.stack _ _ ⟨Value.ref (s.heap.objs.size + 1) :: us,[]⟩ (Value.ref (s.heap.objs.size + 1) :: (us++ds)) _ _ (E σ) (hr.make C us [])
  (I2.env0.make C us []) (hb _ (Value.ref (s.heap.objs.size + 1) :: us) I2.kIn hl) r2 hq) fun r s' hq'=>?_))
 cases r with
 | error e=>exact hx pins σ _ _ e s' I2 hq'
 | ok fl =>
  cases fl with
  | ret u =>
   obtain ⟨v,H',I3,rv,ev,q3⟩:=I2.after hq';subst ev;exact ⟨rv,⟨V.ref (s.heap.objs.size + 1),H',I3,rfl,q3⟩⟩
  | next=>exact False.elim hq'
  | brk=>exact False.elim hq'
  | cont=>exact False.elim hq'
theorem zBg (M:Mk X.K C f) (F:FnOk X.prog X.w X.K X.mg X.base CX k f fd ps sp) (hr:Room (k + 1) X.A) (hg:Gl X x) (hm:X.mg x=some (.ref C)) (hb:Binds X.K fd ps ds) (hd:Vals dvs ds) (hx:Passes CX X E)
  (ha:PA X (e :: es) t) (hdb:(x == ("__debug__" : Str))=false:=by decide) (he:starEach (e :: es) X.env=(false,eval e X.env) :: starEach es X.env:=by rfl) (hpl:(backTo pos (starEach es X.env)).any (·.1)=false:=by rfl) :
  PE X (.Call (.Name x p) (e :: es) [] pos) (tMake C sp dvs E t):=by
 intro pins s σ H Q I h;refine wpAny_Call_Name_kw (zDh I hg hm ?_ hdb);refine PySem.W.callWith_K (h₀:=X.base) I.ok.mod.kin M.kp (thn (ha pos pins s σ H _ I h) fun us s1 ⟨vs,H1,I1,r,q⟩=>⟨I1.kIn,?_⟩) he hpl;exact run_make M F hr hb hd hx I1 r q
end
section
variable {X:Cx}{CX:CXT}{k:Nat}{f C:Addr}{fd:FuncData}{ps ks:List Str}{sp:Sp}{E:St→XK}{x m:Str}{p pos apos kpos:Pos}{e o:Expr}{es:List Expr}{kws:List Keyword}{te ta:TE}{t tk:TA}{nm:Option Str}
variable {g:List Value→List Value→List Value}{gV:List V→List V→List V}
end
structure FnScope (N P:List Str) (sc:Scope):Prop where
 kind:sc.kind=.function
 co:sc.isCoroutine=false
 gen:sc.isGenerator=false
 nd:N.Nodup
 pre:N.take P.length=P
 par:∀ x∈P,sc.names.lookup x=some .local∨sc.names.lookup x=some .cell
 nofree:∀ y∈sc.names,y.2≠.free
theorem bindL_out {kindOf:Str→Option NameKind}{x:Str}:∀ {binds:List (Str×Value)}{m:Str→Option Value},(∀ v,(x,v)∉binds)→bindL kindOf binds m x=m x
 | [],_,_=>rfl
 | (n,v) :: r,m,h=>by
  unfold bindL;rw [bindL_out fun w hw=>h w (Zb _ hw)];split
  ·have:x≠n:=by rintro rfl;exact h v Zg
   simp [this]
  ·rfl
theorem bindC_out {kindOf:Str→Option NameKind}{x:Str}:∀ {binds:List (Str×Value)}{m:Str→Option Value},(∀ v,(x,v)∉binds)→bindC kindOf binds m x=m x
 | [],_,_=>rfl
 | (n,v) :: r,m,h=>by
  unfold bindC;rw [bindC_out fun w hw=>h w (Zb _ hw)];split
  ·rfl
  ·have:x≠n:=by rintro rfl;exact h v Zg
   simp [this]
theorem bindL_get {kindOf:Str→Option NameKind}{x:Str}{v:Value}:∀ {P:List Str}{vs:List Value}{i:Nat}{m:Str→Option Value},P.Nodup→P[i]? = some x→vs[i]? = some v→kindOf x=some .local →
  bindL kindOf (P.zip vs) m x=some v
 | [],_,_,_,_,h,_,_=>by simp at h
 | _ :: _,[],_,_,_,_,h,_=>by simp at h
 | p :: P,w :: vs,0,m,nd,h1,h2,hk=>by
  simp at h1 h2;subst h1;subst h2;show bindL kindOf ((p,w) :: P.zip vs) m p=_;unfold bindL;rw [bindL_out fun v hv=>(List.nodup_cons.mp nd).1 (List.of_mem_zip hv).1,if_pos hk];simp
 | p :: P,w :: vs,i + 1,m,nd,h1,h2,hk=>by
  show bindL kindOf ((p,w) :: P.zip vs) m x=_;unfold bindL;exact bindL_get (i:=i) (List.nodup_cons.mp nd).2 (by simpa using h1) (by simpa using h2) hk
theorem bindC_get {kindOf:Str→Option NameKind}{x:Str}{v:Value}:∀ {P:List Str}{vs:List Value}{i:Nat}{m:Str→Option Value},P.Nodup→P[i]? = some x→vs[i]? = some v→kindOf x≠some .local →
  bindC kindOf (P.zip vs) m x=some v
 | [],_,_,_,_,h,_,_=>by simp at h
 | _ :: _,[],_,_,_,_,h,_=>by simp at h
 | p :: P,w :: vs,0,m,nd,h1,h2,hk=>by
  simp at h1 h2;subst h1;subst h2;show bindC kindOf ((p,w) :: P.zip vs) m p=_;unfold bindC;rw [bindC_out fun v hv=>(List.nodup_cons.mp nd).1 (List.of_mem_zip hv).1,if_neg hk];simp
 | p :: P,w :: vs,i + 1,m,nd,h1,h2,hk=>by
  show bindC kindOf ((p,w) :: P.zip vs) m x=_;unfold bindC;exact bindC_get (i:=i) (List.nodup_cons.mp nd).2 (by simpa using h1) (by simpa using h2) hk
noncomputable def start (N:List Str) (vs:List V):St:=vs.map some++List.replicate (N.length - vs.length) none
noncomputable def cxOfC (q:Bool) (CX:CXT) (P:Program) (w:World) (K:PySem.W.Frag) (mg:Str→Option Value) (base:Heap) (N:List Str) (qual:Str) (scope:Scope) (f:Addr) (cd:Value) (A:Around) (outer:List Env) (s:Shared) (H:Hp) (E:XK):Cx where
 prog:=P
 w:=w
 K:=K
 mg:=mg
 base:=base
 A:=A.deeper (envOfC qual scope s.heap.objs.size f cd)
 N:=N
 s₀:=s
 H₀:=H
 env:=envOfC qual scope s.heap.objs.size f cd
 outer:=outer
 stack:=envOfC qual scope s.heap.objs.size f cd :: outer
 ex:=[]
 calm:=q
 fn:=fun _=>true
 pn:=[]
 xe:=fun e s'=>wpAny (model P w) (A.deeper (envOfC qual scope s.heap.objs.size f cd)) (leaving (envOfC qual scope s.heap.objs.size f cd) e) (fun _ s''=>CX outer H s E e s'') (fun e' s''=>CX outer H s E e' s'') s'
noncomputable abbrev cxOf:=cxOfC true
theorem cell_has {sc:Scope}{n:Nat}{x:Str} (h:sc.names.lookup x=some .cell):∃ c,(cellsFrom n sc.names []).lookup x=some c:=by
 have q:=PySem.W.cellsFrom_some sc.names n [] (.inl h);exact Option.isSome_iff_exists.mp q
theorem inv_start {q:Bool}{CX:CXT}{P:Program}{w:World}{K:PySem.W.Frag}{mg:Str→Option Value}{base:Heap}{N ps:List Str}{qual:Str}{scope:Scope}{f:Addr}{cd:Value}{A:Around}{outer:List Env}{s s1:Shared}{H:Hp}{E:XK}{us:List Value}{vs:List V}
  (S:FnScope N ps scope) (hd:q=true→A.handled=none) (e0:Env0 P w K mg base A outer s H) (hl:vs.length=ps.length) (r:Vals vs us)
  (x:InCallC s s.heap.objs.size (bindL (envOfC qual scope s.heap.objs.size f cd).kindOf (ps.zip us) fun _=>none) (cellsFrom (s.heap.objs.size + 1) scope.names []) (bindC (envOfC qual scope s.heap.objs.size f cd).kindOf (ps.zip us) fun _=>none) s1) :
  Inv (cxOfC q CX P w K mg base N qual scope f cd A outer s H E) [] (start N vs) H s1:=by
 have hpl:ps.length≤N.length:=by have:=congrArg List.length S.pre;rw [Zl] at this;omega
 obtain ⟨h1,tk,rfl,hk⟩:=x.done;have noA:∀ b:Addr,b∉(cxOfC q CX P w K mg base N qual scope f cd A outer s H E).ex:=fun b z=>absurd (show b∈([]:List Addr) from z) (by simp)
 refine ⟨⟨e0.mod,S.kind,rfl,rfl,Z7 _,fun y z c h1 h2=>?_,fun y hy=>?_,fun y c _ h=>?_,hd,Around.frames_deeper e0.frames,.inr ⟨rfl,rfl⟩,fun b z=>absurd z (noA b),e0.bs,e0.bsz,fun b _ _=>noA b,fun b z=>absurd z (noA b),e0.funs,e0.frf⟩,
  rfl,e0.bare,Un.kept hk,⟨_,x.toInCall.ns,fun i y v h1 h2 h3=>?_⟩,fun y c h=>⟨_,x.cell y c h⟩,e0.hok.fresh (Z7 _),fun y c h=>?_,fun p hp=>absurd (show p∈([]:List (Addr×Obj)) from hp) (by simp),e0.hok.kept hk,?_⟩
 ·exact name_of_addr x.apart (PySem.mem_of_lookup h1) (PySem.mem_of_lookup h2)
 ·have hy:scope.names.lookup y=some .cell∨scope.names.lookup y=some .free:=hy;rcases hy with hy | hy
  ·exact cell_has hy
  ·exact absurd rfl (S.nofree _ (PySem.mem_of_lookup hy))
 ·exact Zi (x.above y c (PySem.mem_of_lookup h))
 ·have hi:i < vs.length:=by
   unfold start at h2;by_cases hi:i < vs.length
   ·exact hi
   ·rw [Zt (by simpa using hi)] at h2;rw [List.getElem?_replicate] at h2;split at h2 <;> cases h2
  have ha:vs[i]? = some v:=by
   unfold start at h2;rw [Zn (by simpa using hi),Z6] at h2;cases e:vs[i]? with
   | none=>rw [e] at h2;cases h2
   | some a=>rw [e] at h2;cases h2;rfl
  obtain ⟨u,hu,rv⟩:=r.get ha;have hp:ps[i]? = some y:=by
   rw [← S.pre,List.getElem?_take_of_lt (by omega)];exact h1
  have ndP:ps.Nodup:=by rw [← S.pre];exact S.nd.sublist (List.take_sublist _ _)
  refine ⟨u,rv,?_⟩;rcases S.par y (Z3 hp) with k | k
  ·exact .inl ⟨k,bindL_get ndP hp hu k⟩
  ·obtain ⟨c,e⟩:=cell_has (n:=s.heap.objs.size + 1) k;refine .inr ⟨.inl k,c,e,?_⟩;have q:=x.cell y c e;rw [bindC_get ndP hp hu (by show scope.names.lookup y≠_;rw [k];decide)] at q;exact q
 ·exact e0.hok.fresh (Zi (x.above y c (PySem.mem_of_lookup h)))
 ·unfold start;show _=N.length;rw [Zc,Z0,Zp];omega
theorem zF8 {q:Bool}{CX:CXT}{P:Program}{w:World}{K:PySem.W.Frag}{mg:Str→Option Value}{base:Heap}{k:Nat}{f:Addr}{name qual:Str}{params:Arguments}{body:List Stmt}{scope:Scope}{dV kV doc pm cdv ct oc:Value}{an od:Option Addr}
  {osl:Array (Option Value)}{N ps:List Str}{sp:Sp} (lk:K.lookup f=some ⟨oc,od,.func (PySem.W.fnOf name qual params body scope dV kV doc pm an cdv ct),osl⟩) (hcd:PySem.W.codeIn K cdv qual=true) (S:FnScope N ps scope)
  (len:∀ vs H Q E,sp vs H Q E→vs.length=ps.length)
  (hbody:∀ (A:Around) (outer:List Env) (s:Shared) (H:Hp) (vs:List V) (Q:VK) (E:XK),RoomQ q k (A.deeper (envOfC qual scope s.heap.objs.size f cdv))→sp vs H Q E →
   ∃ t,PSs (cxOfC q CX P w K mg base N qual scope f cdv A outer s H E) body t∧t { nx:=fun _ H'=>Q .non H',rt:=Q } (start N vs) H) :
  FnOkQ q P w K mg base CX (k + 1) f (PySem.W.fnOf name qual params body scope dV kV doc pm an cdv ct) ps sp:=by
 refine ⟨len,fun A outer s H args us vs Q E hr e0 hb r hsp=>?_⟩;have hl:=len _ _ _ _ hsp;have KX:K.In s.heap:=e0.mod.kin.keeps fun b o e=>(e0.bs b o e).1;have lim:s.heap.NoLimit:=e0.mod.nolimit.keeps fun b o e=>(e0.bs b o e).1;have hkind:∀ y∈ps.zip us,scope.names.lookup y.1=some .local∨(scope.names.lookup y.1=some .cell∧((cellsFrom (s.heap.objs.size + 1) scope.names []).lookup y.1).isSome=true):=fun ⟨n,v⟩ hy=>by
  rcases S.par n (List.of_mem_zip hy).1 with q | q
  ·exact .inl q
  ·exact .inr ⟨q,PySem.W.cellsFrom_some _ _ _ (.inl q)⟩
 refine codeAny_call_function hr.depth (KX _ _ lk) rfl S.co S.gen rfl (PySem.W.codeRec_of KX hcd) (hb _ _ _ _ ?_);refine wpAny_newFunctionEnv_cells S.kind hkind fun env he s1 x=>?_;subst he;refine ⟨lim.keeps x.toInCall.keep,codeAny_func ?_⟩;obtain ⟨t,ht,hq⟩:=hbody A outer s H vs Q E (hr.deeper _) hsp;have I:Inv (cxOfC q CX P w K mg base N qual scope f cdv A outer s H E) [] (start N vs) H s1:=inv_start S hr.hd e0 hl r x;refine wpAny_mono (ht [] s1 (start N vs) H _ I hq) (fun fl s' hs=>?_) fun e s' hs=>hs;have fin:∀ {σ':St}{H':Hp}{v:V}{u:Value},Inv (cxOfC q CX P w K mg base N qual scope f cdv A outer s H E) [] σ' H' s'→RelV v u→Q v H'→CE outer P w H s Q u s' :=
  fun {σ' H' v u} J rv z=>⟨v,H',J.os,J.bare,J.base,J.hok,rv,z⟩
 cases fl with
 | ret u =>
  obtain ⟨v,σ',H',J,rv,q⟩:=hs;exact fin J rv q
 | next =>
  obtain ⟨σ',H',J,q⟩:=hs;exact fin (v:=V.non) (u:=Value.none) J rfl q
 | brk =>
  obtain ⟨_,_,_,q⟩:=hs;exact False.elim q
 | cont =>
  obtain ⟨_,_,_,q⟩:=hs;exact False.elim q
end L2
namespace L2
open PySem PySem.Spec PyProof.Rows
section
variable {X:Cx}{x:Str}{p pos:Pos}{e:Expr}{es:List Expr}{t:TA}{id T:String}{r:List V→Hp→VK→Prop}
noncomputable def tCB (r:List V→Hp→VK→Prop) (t:TA):TE:=fun σ H Q=>t σ H fun vs H1=>r vs H1 Q
theorem zAa (hc:CallR X (.builtin id) r) (hg:Gl X x) (hm:X.mg x=none) (hv:bootBuiltins x=some (.builtin id)) (ha:PA X (e :: es) t) (hn:x≠"__name__":=by decide) (hdb:(x == ("__debug__" : Str))=false:=by decide)
  (he:starEach (e :: es) X.env=(false,eval e X.env) :: starEach es X.env:=by rfl) (hpl:(backTo pos (starEach es X.env)).any (·.1)=false:=by rfl):PE X (.Call (.Name x p) (e :: es) [] pos) (tCB r t):=by
 intro pins s σ H Q I h;refine wpAny_Call_Name_kw (ld_blt I hg hm hv ?_ hn hdb);exact PyProof.Rows.callWith_builtin1 (thn (ha pos pins s σ H _ I h) fun us s1 ⟨vs,H1,I1,r1,q1⟩=>hc pins s1 σ H1 vs us Q I1 r1 q1) he hpl
theorem zAn (hc:CallR X (.type T) r) (hg:Gl X x) (hm:X.mg x=none) (hv:bootBuiltins x=some (.type T)) (ha:PA X (e :: es) t) (hn:x≠"__name__":=by decide) (hdb:(x == ("__debug__" : Str))=false:=by decide)
  (he:starEach (e :: es) X.env=(false,eval e X.env) :: starEach es X.env:=by rfl) (hpl:(backTo pos (starEach es X.env)).any (·.1)=false:=by rfl):PE X (.Call (.Name x p) (e :: es) [] pos) (tCB r t):=by
 intro pins s σ H Q I h;refine wpAny_Call_Name_kw (ld_blt I hg hm hv ?_ hn hdb);exact PyProof.Rows.callWith_type1 (thn (ha pos pins s σ H _ I h) fun us s1 ⟨vs,H1,I1,r1,q1⟩=>hc pins s1 σ H1 vs us Q I1 r1 q1) he hpl
end
end L2
namespace HT
open PySem PyProof.Rows
section
open PySem.SeqAt
open PySem.AutoSeq1 (wpAny_loadPart')
open PySem.MeetsSeq PySem.MeetsSeq2 PySem.MeetsSeq3
end
section
variable {prog:Program}{w:World}{A:Around}{E:Value→Shared→Prop}{s:Shared}
theorem cat_tup {t b:Addr}{vs ws:List Value}{Q:Value→Shared→Prop} (ht:IsTup s.heap t vs.toArray) (hb:IsTup s.heap b ws.toArray) (hv:vs≠[])
  (h1:ws=[]→Q (.ref t) s) (h2:ws≠[]→Q (.ref s.heap.objs.size) { s with heap:=s.heap.push { cls:=.type "tuple",data:=.seq (vs++ws).toArray } })
  (hsz:vs.length + ws.length≤sizeLine):wpAny (model prog w) A (binaryOp .Add (.ref t) (.ref b)) Q E s:=by
 obtain ⟨⟨cls,dd,data,sl⟩,ho,hc,n,hd⟩:=id ht;obtain ⟨⟨cls2,dd2,data2,sl2⟩,ho2,hc2,n2,hd2⟩:=id hb;simp only at hc hd hc2 hd2;subst hc hd hc2 hd2;have e:vs.toArray++ws.toArray=(vs++ws).toArray:=by simp
 by_cases hw:ws=[]
 ·exact concat_meets ⟨_,ho,rfl⟩ ⟨_,ho2,rfl⟩ noFill_tuple_add seq_tuple_add PySem.F.slot_tuple_add PySem.F.entry_tuple_add (PySem.F.args_tuple_add_2 _ _)
   (tuple_addW1 t b vs.toArray ws.toArray n n2 dd dd2 sl sl2 (by simpa using hv) (by simp [hw])) ⟨ho,ho2,h1 hw⟩
 ·refine concat_meets ⟨_,ho,rfl⟩ ⟨_,ho2,rfl⟩ noFill_tuple_add seq_tuple_add PySem.F.slot_tuple_add PySem.F.entry_tuple_add (PySem.F.args_tuple_add_2 _ _)
   (tuple_addW2 t b vs.toArray ws.toArray n n2 dd dd2 sl sl2 (by simpa using hv) (by simpa using hw) (by rw [Z9,Z9];exact hsz)) ⟨ho,ho2,?_⟩
  rw [e];exact h2 hw
noncomputable def sIx (n d:Nat):Option Int→Nat
 | none=>d
 | some v=>if v < 0 then (v + (n:Int)).toNat else min v.toNat n
theorem sIx_nat (n d k:Nat):sIx n d (some (k:Int))=min k n:=by
 show (if (k:Int) < 0 then ((k:Int) + (n:Int)).toNat else min (k:Int).toNat n)=min k n;rw [if_neg (by omega),Int.toNat_natCast]
theorem sIx_le (n d:Nat) (hd:d≤n) (o:Option Int):sIx n d o≤n:=by
 cases o with
 | none=>exact hd
 | some v =>
  show (if v < 0 then (v + (n:Int)).toNat else min v.toNat n)≤n;by_cases hv:v < 0
  ·rw [if_pos hv];omega
  ·rw [if_neg hv];exact Nat.min_le_right _ _
theorem clip_eq (v:Int) (n d:Nat):(if v < 0 then max (v + (n:Int)) 0 else min v (n:Int))=((sIx n d (some v):Nat):Int):=by
 show (if v < 0 then max (v + (n:Int)) 0 else min v (n:Int))=(((if v < 0 then (v + (n:Int)).toNat else min v.toNat n):Nat):Int);by_cases hv:v < 0
 ·simp only [if_pos hv];omega
 ·simp only [if_neg hv];omega
theorem adjust_gen (lo hi:Option Int) (n:Nat):Builtin.Slice.sliceAdjust lo hi 1 (n:Int)=(((sIx n 0 lo:Nat):Int),((sIx n n hi:Nat):Int)):=by
 have h1:¬ ((1:Int) < 0):=by omega
 unfold Builtin.Slice.sliceAdjust;simp only [h1,if_false];refine Prod.ext ?_ ?_
 ·cases lo with
  | none=>rfl
  | some v=>exact clip_eq v n 0
 ·cases hi with
  | none=>rfl
  | some v=>exact clip_eq v n n
theorem places_gen (i j:Nat):Builtin.Slice.slicePlaces (i:Int) (j:Int) 1=j - i:=by
 unfold Builtin.Slice.slicePlaces;have h1:(1:Int) > 0:=by omega
 simp only [h1,if_true,Int.ediv_one];split <;> omega
theorem zEd {v:Value}{o:Option Int}{Q:Option Int→Shared→Prop} (p:IsPart v o) (h:Q o s):wpAny (model prog w) A (Builtin.Slice.slicePartIndex v) Q E s:=by
 cases p with
 | none=>exact slicePart_none h
 | int i t=>exact slicePart_int h
theorem zDm {sl:Addr}{vl vu:Value}{lo hi:Option Int}{n:Nat}{Q:Int×Int×Nat→Shared→Prop} (hs:s.heap.IsSliceOf sl vl vu .none) (pl:IsPart vl lo) (pu:IsPart vu hi)
  (h:Q (((sIx n 0 lo:Nat):Int),1,sIx n n hi - sIx n 0 lo) s):wpAny (model prog w) A (Builtin.Slice.sliceApplied (.ref sl) (pure (n:Int))) Q E s:=by
 obtain ⟨os,hos,hcs,hds⟩:=id hs;unfold Builtin.Slice.sliceApplied Builtin.Slice.sliceFields;refine wpAny_bind (wpAny_bind (wpAny_field hos hds (x:=vl) rfl (wpAny_bind (wpAny_field hos hds (x:=vu) rfl (wpAny_bind (wpAny_field hos hds (x:=.none) rfl (wpAny_pure ?_)))))));refine wpAny_bind (slicePart_none ?_);show wpAny _ _ (if ((1:Int) == 0)=true then _ else _) _ _ s;rw [if_neg (by decide)];refine wpAny_bind (zEd pl (wpAny_bind (zEd pu (wpAny_bind (wpAny_pure ?_)))));show wpAny _ _ (match Builtin.Slice.sliceAdjust lo hi 1 (n:Int) with | (lo,hi)=>pure (lo,(1:Int),Builtin.Slice.slicePlaces lo hi 1)) _ _ s;rw [adjust_gen lo hi n];show wpAny _ _ (pure (((sIx n 0 lo:Nat):Int),(1:Int),Builtin.Slice.slicePlaces ((sIx n 0 lo:Nat):Int) ((sIx n n hi:Nat):Int) 1)) _ _ s;rw [places_gen];exact wpAny_pure h
theorem pick_gen (xs:Array Value) (i k:Nat):((List.range k).filterMap fun (m:Nat)=>xs[((i:Int) + (m:Int) * 1).toNat]?).toArray=((xs.toList.drop i).take k).toArray:=by
 have e:(fun (m:Nat)=>xs[((i:Int) + (m:Int) * 1).toNat]?)=fun m=>xs[i + m]?:=by
  funext m;have:((i:Int) + (m:Int) * 1).toNat=i + m:=by omega
  rw [this]
 rw [e];have:=pick_run xs i k;rw [List.filterMap_map] at this;have e2:((fun x=>xs[x]?) ∘ fun x=>i + x)=fun m=>xs[i + m]?:=rfl;rw [e2] at this;rw [this]
theorem getItem_tuple_cut {t sl:Addr}{items:Array Value}{vl vu:Value}{lo hi:Option Int}{Q:Value→Shared→Prop} (ht:IsTup s.heap t items) (hs:s.heap.IsSliceOf sl vl vu .none) (pl:IsPart vl lo) (pu:IsPart vu hi)
  (hw:¬ (sIx items.size 0 lo=0∧sIx items.size items.size hi=items.size))
  (h:Q (.ref s.heap.objs.size) { s with heap:=s.heap.push { cls:=.type "tuple",data:=.seq ((items.toList.drop (sIx items.size 0 lo)).take (sIx items.size items.size hi - sIx items.size 0 lo)).toArray } })
  (hsz:items.size≤sizeLine):wpAny (model prog w) A (getItem (.ref t) (.ref sl)) Q E s:=by
 have htake:sizeOk (.seq ((items.toList.drop (sIx items.size 0 lo)).take (sIx items.size items.size hi - sIx items.size 0 lo)).toArray):=by
  show ((items.toList.drop (sIx items.size 0 lo)).take (sIx items.size items.size hi - sIx items.size 0 lo)).toArray.size≤sizeLine;rw [Z9,Zl,Yb,Ya];omega
 have hj:sIx items.size items.size hi≤items.size:=sIx_le _ _ (Z7 _) hi;obtain ⟨os,hos,hcs,hds⟩:=id hs;have hTs:s.TypeIs (.ref sl) "slice":=⟨os,hos,hcs⟩;unfold getItem
 try with_reducible refine wpAny_holding ?_
 first | refine wpAny_bind (wpAny_pure ?_) | skip
 refine wpAny_bind (wpAny_sequenceKey ht.typeIs (by decide) ?_)
 refine wpAny_bind (wpAny_callSpecial?_slot (name:=Str.ofString "__getitem__") ht.typeIs PyProof.Rows.slot_tuple_getitem
  (wpAny_call_entry PyProof.Rows.slot_tuple_getitem ht.typeIs entry_tuple_getitem ?_ (args_tuple_getitem _ _)))
 show wpAny _ _ (Builtin.Tuple.tupleItemsOf (.ref t) >>= _) _ _ s;refine wpAny_bind (tupleItemsOf_ ht ?_);refine wpAny_bind (wpAny_typeOf hTs ?_);rw [if_pos (by decide)];refine wpAny_bind (zDm hs pl pu ?_);have hno:¬ ((((sIx items.size 0 lo:Nat):Int) == 0 && (1:Int) == 1 && (sIx items.size items.size hi - sIx items.size 0 lo) == items.size)=true):=by
  intro q;rw [Zr,Zr] at q;have q1:((sIx items.size 0 lo:Nat):Int)=0:=eq_of_beq q.1.1;have q2:sIx items.size items.size hi - sIx items.size 0 lo=items.size:=eq_of_beq q.2;exact hw ⟨by omega,by omega⟩
 show wpAny _ _ (if (((sIx items.size 0 lo:Nat):Int) == 0 && (1:Int) == 1 && (sIx items.size items.size hi - sIx items.size 0 lo) == items.size)=true then _ else _) _ _ s;rw [if_neg hno,pick_gen]
 first
  | exact wpAny_bind (m:=Builtin.Tuple.tupleExact _) (wpAny_newObj_type (wpAny_pure ⟨_,rfl,wpAny_pure h⟩) htake)
  | exact wpAny_bind (m:=Builtin.Tuple.tupleExact _) (wpAny_newObj_type (wpAny_bind (wpAny_pure (wpAny_pure ⟨_,rfl,wpAny_pure h⟩))) htake)
  | exact wpAny_bind (wpAny_bind (m:=Builtin.Tuple.tupleExact _) (wpAny_newObj_type (wpAny_pure (wpAny_pure ⟨_,rfl,wpAny_pure h⟩)) htake))
  | exact wpAny_bind (wpAny_bind (m:=Builtin.Tuple.tupleExact _) (wpAny_newObj_type (wpAny_pure ⟨_,rfl,wpAny_pure h⟩) htake))
end
end HT
namespace L2
open PySem PySem.Spec PyProof.Rows
noncomputable abbrev TO:=St→Hp→(Option Int→Hp→Prop)→Prop
noncomputable def PO (X:Cx) (e:Option Expr) (t:TO):Prop :=
 ∀ (pins:List (Addr×Obj)) (s:Shared) (σ : St) (H:Hp) (Q:Option Int→Hp→Prop),Inv X pins σ H s→t σ H Q →
  wpAny (model X.prog X.w) X.A (evalPart e X.env) (fun u s'=>∃ o H',Inv X pins σ H' s'∧IsPart u o∧Q o H') X.xe s
noncomputable def tNoPart:TO:=fun _ H Q=>Q none H
noncomputable def tPart (t:TE):TO:=fun σ H Q=>t σ H fun x H1=>∃ i,x=.int i∧Q (some i) H1
section
variable {X:Cx}{e:Expr}{te:TE}{lo hi:Option Expr}{tl th:TO}{pos p2:Pos}
theorem zCx:PO X none tNoPart:=by
 intro pins s σ H Q I h;rw [evalPart_none];exact wpAny_pure ⟨none,H,I,.none,h⟩
theorem zCa (h:PE X e te):PO X (some e) (tPart te):=by
 intro pins s σ H Q I hw;rw [evalPart_some];refine thn (h pins s σ H _ I hw) fun u s1 ⟨x,H1,I1,r1,q1⟩=>?_;obtain ⟨i,rfl,q⟩:=q1;obtain ⟨t,rfl⟩:=r1;exact ⟨some i,H1,I1,.int i t,q⟩
noncomputable def SlR (X:Cx) (r:V→Option Int→Option Int→Hp→VK→Prop):Prop :=
 ∀ (pins:List (Addr×Obj)) (s:Shared) (σ : St) (H:Hp) (x:V) (v vl vu:Value) (lo hi:Option Int) (sl:Addr) (Q:VK),Inv X pins σ H s→RelV x v→s.heap.IsSliceOf sl vl vu .none→IsPart vl lo→IsPart vu hi→r x lo hi H Q →
  ∃ T id,typeLookup (.type T) "__getitem__" = pure (some (.builtin id))∧s.TypeIs v T∧wpAny (model X.prog X.w) X.A (getItem v (.ref sl)) (EP X pins σ Q) X.xe s
noncomputable def tSl (r:V→Option Int→Option Int→Hp→VK→Prop) (te:TE) (tl th:TO):TE:=fun σ H Q=>te σ H fun x H1=>tl σ H1 fun l H2=>th σ H2 fun u H3=>r x l u H3 Q
theorem zBp {r:V→Option Int→Option Int→Hp→VK→Prop} (hr:SlR X r) (he:PE X e te) (hl:PO X lo tl) (hu:PO X hi th):PE X (.Subscript e (.Slice lo hi none p2) pos) (tSl r te tl th):=by
 intro pins s σ H Q I h;refine Subscript_ (thn (he pins s σ H _ I h) fun v s1 ⟨x,H1,I1,r1,q1⟩=>?_);refine wpAny_Slice (thn (hl pins s1 σ H1 _ I1 q1) fun vl s2 ⟨l,H2,I2,pl,q2⟩=>thn (hu pins s2 σ H2 _ I2 q2) fun vu s3 ⟨u,H3,I3,pu,q3⟩=>?_);rw [evalPart_none];refine wpAny_pure ?_;have I4:Inv X pins σ H3 { s3 with heap:=s3.heap.push { cls:=.type "slice",data:=.fields #[vl,vu,.none] } }:=I3.kept (t':=s3.toks) fun b ob q=>Z1 _ q;obtain ⟨T,id,hT,ht,hg⟩:=hr pins { s3 with heap:=s3.heap.push { cls:=.type "slice",data:=.fields #[vl,vu,.none] } } σ H3 x v vl vu l u s3.heap.objs.size Q I4 r1 (Heap.IsSliceOf.new ..) pl pu q3;show wpAny (model X.prog X.w) X.A (subscriptTail e (.Slice lo hi none p2) v (.ref s3.heap.objs.size)) (EP X pins σ Q) X.xe { s3 with heap:=s3.heap.push { cls:=.type "slice",data:=.fields #[vl,vu,.none] } };exact tail_any (ops:=[.ref s3.heap.objs.size,v]) ht hT hg (by with_unfolding_all rfl)
noncomputable def cutV (xs:List V) (lo hi:Option Int):List V:=(xs.drop (HT.sIx xs.length 0 lo)).take (HT.sIx xs.length xs.length hi - HT.sIx xs.length 0 lo)
theorem zE7 (xs:List V) (lo hi:Option Int):(cutV xs lo hi).length≤xs.length:=by
 unfold cutV;rw [Zl,Yb];omega
noncomputable def rSlT (K:PySem.W.Frag):V→Option Int→Option Int→Hp→VK→Prop:=fun x lo hi H Q=>∃ a xs,x=.ref a∧SqT K H a xs ∧
 ¬ (HT.sIx xs.length 0 lo=0∧HT.sIx xs.length xs.length hi=xs.length)∧∀ p,H p=none→Q (.ref p) (upd H p (.tup (cutV xs lo hi)))
theorem sl_tup:SlR X (rSlT X.K):=by
 intro pins s σ H x v vl vu lo hi sl Q I rx hs pl pu h;obtain ⟨a,xs,rfl,hx,hw,q⟩:=h;cases rx;obtain ⟨its,r,ht,hz⟩:=I.tuple hx;have hlen:its.toArray.size=xs.length:=by rw [Z9];exact r.length.symm
 refine ⟨"tuple",_,PyProof.Rows.slot_tuple_getitem.lookup,ht.typeIs,?_⟩;refine HT.getItem_tuple_cut ht hs pl pu (by rw [hlen];exact hw) ?_ (by rw [hlen];exact hz);rw [hlen];refine ⟨.ref s.heap.objs.size,_,I.laid (t':=s.toks) (o:=.tup (cutV xs lo hi)) (fun b ob q=>Z1 _ q) (Z7 _) ?_,rfl,q _ (I.hok.fresh (Z7 _))⟩;exact ⟨Zo (zE7 xs lo hi) hz,_,(r.drop (HT.sIx xs.length 0 lo)).take (HT.sIx xs.length xs.length hi - HT.sIx xs.length 0 lo),IsTup.new _ _⟩
theorem Vals.nil_iff {xs:List V}{us:List Value} (r:Vals xs us):us=[] ↔ xs=[]:=by
 cases r with
 | nil=>simp
 | cons _ _=>simp
end
end L2
namespace L2
open PySem PySem.Spec PyProof.Rows
noncomputable def ixN (n:Nat) (i:Int):Option Nat:=if 0≤i then (if i < n then some i.toNat else none) else if -(n:Int)≤i then some (i + n).toNat else none
noncomputable def atI {α : Type} (xs:List α) (i:Int):Option α:=(ixN xs.length i).bind fun j=>xs[j]?
theorem ixN_seq {n:Nat}{i:Int}{j:Nat} (h:ixN n i=some j):seqIndex? i n=some j∧j < n∧-(n:Int)≤i∧i < n:=by
 unfold ixN at h;by_cases h0:0≤i
 ·rw [if_pos h0] at h;by_cases h1:i < n
  ·rw [if_pos h1] at h;have e:i.toNat=j:=Zk h;exact ⟨by rw [seqIndex_of h0 h1,e],by omega,by omega,h1⟩
  ·rw [if_neg h1] at h;cases h
 ·rw [if_neg h0] at h;by_cases h1 : -(n:Int)≤i
  ·rw [if_pos h1] at h;have e:(i + n).toNat=j:=Zk h;exact ⟨by rw [seqIndex_neg (by omega) h1,e],by omega,h1,by omega⟩
  ·rw [if_neg h1] at h;cases h
theorem atI_get {α : Type}{xs:List α}{i:Int}{v : α} (h:atI xs i=some v):∃ j,seqIndex? i xs.length=some j∧xs[j]? = some v∧j < xs.length∧-(xs.length:Int)≤i∧i < xs.length:=by
 unfold atI at h;cases e:ixN xs.length i with
 | none=>rw [e] at h;cases h
 | some j =>
  rw [e] at h;obtain ⟨h1,h2,h3,h4⟩:=ixN_seq e;exact ⟨j,h1,h,h2,h3,h4⟩
theorem zBw {α : Type}{xs:List α}{j:Nat}{v : α} (h:xs[j]? = some v):atI xs (j:Int)=some v:=by
 have hj:j < xs.length:=(List.getElem?_eq_some_iff.mp h).1;have e:ixN xs.length (j:Int)=some j:=by
  unfold ixN;rw [if_pos (by omega),if_pos (by omega)];simp
 unfold atI;rw [e];exact h
theorem atI_last {α : Type} (xs:List α) (v : α):atI (xs++[v]) (-1)=some v:=by
 have hl:(xs++[v]).length=xs.length + 1:=by simp
 have e:ixN (xs++[v]).length (-1)=some xs.length:=by
  unfold ixN;rw [hl,if_neg (by decide),if_pos (by omega)]
  congr 1
  omega
 unfold atI;rw [e];show (xs++[v])[xs.length]? = some v;simp
noncomputable def PlainIx (b:Expr):Prop:=∀ o i,subscripted b false o i=operate [o,i] (getItem o i)
noncomputable def IxR (X:Cx) (r:R2):Prop :=
 ∀ (value slice:Expr) (pins:List (Addr×Obj)) (s:Shared) (σ : St) (H:Hp) (x y:V) (v u:Value) (Q:VK),Inv X pins σ H s→RelV x v→RelV y u→r x y H Q →
  subscripted slice false v u=operate [v,u] (getItem v u)→wpAny (model X.prog X.w) X.A (subscriptTail value slice v u) (EP X pins σ Q) X.xe s
noncomputable def MtR (X:Cx) (id:String) (r:V→List V→Hp→VK→Prop):Prop :=
 ∀ (pins:List (Addr×Obj)) (s:Shared) (σ : St) (H:Hp) (x:V) (xs:List V) (v:Value) (us:List Value) (Q:VK),Inv X pins σ H s→RelV x v→Vals xs us→r x xs H Q →
  wpAny (model X.prog X.w) X.A (call (.builtin id) (v :: us)) (EP X pins σ Q) X.xe s
section
variable {X:Cx}{a b:Expr}{ta tb:TE}{pos:Pos}
theorem zAh {r:R2} (hr:IxR X r) (ha:PE X a ta) (hb:PE X b tb) (hs:PlainIx b):PE X (.Subscript a b pos) (tOp r ta tb):=by
 intro pins s σ H Q I h;exact Subscript_ (binT ha hb I h fun v u s2 x y H2 I2 rx ry q=>hr a b pins s2 σ H2 x y v u Q I2 rx ry q (hs _ _))
noncomputable def rIxL (K:PySem.W.Frag):R2:=fun x y H Q=>∃ p xs i v,x=.ref p∧y=.int i∧SqL K H p xs∧atI xs i=some v∧Q v H
noncomputable def rIxT (K:PySem.W.Frag):R2:=fun x y H Q=>∃ p xs i v,x=.ref p∧y=.int i∧SqT K H p xs∧atI xs i=some v∧Q v H
theorem zAr:IxR X (rIxL X.K):=by
 intro value slice pins s σ H x y v u Q I rx ry h hs;obtain ⟨p,xs,i,z,rfl,rfl,hq,he,q⟩:=h;cases rx;obtain ⟨t,rfl⟩:=ry;obtain ⟨its,r,pl,hz⟩:=I.list hq;obtain ⟨j,h1,h2,h3,h4,h5⟩:=atI_get he;obtain ⟨w,ew,rw'⟩:=r.get h2;have hl:=r.length;have hn:=line63;have fin:EP X pins σ Q w s:=⟨z,H,I,rw',q⟩;by_cases h0:0≤i
 ·have hj:i.toNat=j:=by
   rw [seqIndex_of h0 h5] at h1;exact Zk h1
  exact item_listR pl.isList h0 (by omega) (by rw [hj];simpa using ew) fin hs
 ·have hj:(i + (its.toArray.size:Int)).toNat=j:=by
   rw [seqIndex_neg (by omega) h4] at h1;rw [Z9,← hl];exact Zk h1
  exact subscriptTail_builtinR (x:=w) pl.isList.typeIs slot_list_getitem.lookup
   (wpAny_getItem_list_neg (Q:=fun r s'=>r=w∧EP X pins σ Q r s') pl.isList (by omega) (by rw [Z9] <;> omega) (by omega) (by rw [hj];simpa using ew) ⟨rfl,fin⟩) hs
theorem zAi:IxR X (rIxT X.K):=by
 intro value slice pins s σ H x y v u Q I rx ry h hs;obtain ⟨p,xs,i,z,rfl,rfl,hq,he,q⟩:=h;cases rx;obtain ⟨t,rfl⟩:=ry;obtain ⟨its,r,pl,hz⟩:=I.tuple hq;obtain ⟨j,h1,h2,h3,h4,h5⟩:=atI_get he;obtain ⟨w,ew,rw'⟩:=r.get h2;have hl:=r.length;have hn:=line63;have fin:EP X pins σ Q w s:=⟨z,H,I,rw',q⟩;exact subscriptTail_builtinR (x:=w) pl.typeIs slot_tuple_getitem.lookup
  (getItem_tuple (j:=j) (Q:=fun r s'=>r=w∧EP X pins σ Q r s') pl (by omega) (by omega) (by rw [Z9,← hl];exact h1) (by simpa using ew) ⟨rfl,fin⟩) hs
theorem mapSeq_set (its:List Value) (n j:Nat) (u:Value):Obj.mapSeq (·.setIfInBounds j u) { cls:=.type "list",data:=.seq its.toArray n }={ cls:=.type "list",data:=.seq (its.set j u).toArray n }:=by
 simp [Obj.mapSeq]
theorem Inv.lst {pins:List (Addr×Obj)}{σ : St}{H:Hp}{s:Shared}{p:Addr}{xs:List V} (I:Inv X pins σ H s) (h:H p=some (.lst xs)) :
  ∃ (its:List Value) (n:Nat),Vals xs its∧s.heap.get? p=some { cls:=.type "list",data:=.seq its.toArray n }∧xs.length≤sizeLine:=by
 obtain ⟨z,its,n,r,e⟩:=I.hok p _ h;exact ⟨its,n,r,e,z⟩
theorem Inv.lstUpd {pins:List (Addr×Obj)}{σ : St}{H:Hp}{s:Shared}{p:Addr}{xs ys:List V}{its its':List Value}{n n':Nat}{f:Obj→Obj} (I:Inv X pins σ H s) (h:H p=some (.lst xs))
  (ho:s.heap.get? p=some { cls:=.type "list",data:=.seq its.toArray n }) (hf:f { cls:=.type "list",data:=.seq its.toArray n }={ cls:=.type "list",data:=.seq its'.toArray n' }) (r:Vals ys its') (hz:ys.length≤sizeLine) (t:Nat) :
  Inv X pins σ (upd H p (.lst ys)) { s with heap:=s.heap.update p f,toks:=t }:=by
 have e:(s.heap.update p f).get? p=some { cls:=.type "list",data:=.seq its'.toArray n' }:=by
  rw [Heap.get?_update_self f ho (by rw [hf] <;> rfl),hf]
 refine I.write (x:=p) (e:=p) (by rw [h];trivial) (.inl rfl) (fun b u hb q=>(Heap.get?_update_other _ _ (Ne.symm hb)).trans q) ⟨_,e⟩ ?_;exact ⟨hz,its',n',r,e⟩
noncomputable def rSetL:V→V→V→Hp→(Hp→Prop)→Prop:=fun o i v H Q=>∃ p xs k j,o=.ref p∧i=.int k∧H p=some (.lst xs)∧ixN xs.length k=some j∧Q (upd H p (.lst (xs.set j v)))
theorem set_list:PSet X rSetL:=by
 intro pins s σ H o i v ov iv u Q I ro ri rv h;obtain ⟨p,xs,k,j,rfl,rfl,hp,hj,q⟩:=h;cases ro;obtain ⟨t,rfl⟩:=ri;obtain ⟨its,n,r,ho,hz⟩:=I.lst hp;obtain ⟨h1,h2,h3,h4⟩:=ixN_seq hj;have hl:=r.length;have hn:=line63;have I':Inv X pins σ (upd H p (.lst (xs.set j v))) { s with heap:=s.heap.update p (Obj.mapSeq (·.setIfInBounds j u)) } :=
  I.lstUpd hp ho (mapSeq_set its n j u) (r.set rv j) (by rw [List.length_set];exact hz) s.toks
 by_cases h0:0≤k
 ·have hk:k.toNat=j:=by
   rw [seqIndex_of h0 h4] at h1;exact Zk h1
  exact PySem.W.ki_setAt ho h0 (by omega) (by rw [Z9,← hl];exact h4) (by rw [hk];exact ⟨_,I',q⟩)
 ·have hk:(k + (its.toArray.size:Int)).toNat=j:=by
   rw [seqIndex_neg (by omega) h3] at h1;rw [Z9,← hl];exact Zk h1
  exact PySem.W.ki_setBack ho (by omega) (by rw [Z9,← hl];exact h3) (by omega) (by rw [hk];exact ⟨_,I',q⟩)
theorem slice_bounds (lo hi:Option Int) (n:Nat):(sliceBounds lo hi none n).1=((HT.sIx n 0 lo:Nat):Int)∧(sliceBounds lo hi none n).2.1=((HT.sIx n n hi:Nat):Int)∧(sliceBounds lo hi none n).2.2=1:=by
 refine ⟨?_,?_,rfl⟩
 ·cases lo with
  | none=>simp [sliceBounds,HT.sIx]
  | some i =>
   simp only [sliceBounds,HT.sIx,Option.getD_none,show (1:Int) > 0 by decide,if_true];by_cases h:i < 0
   ·simp only [h,if_true] <;> omega
   ·simp only [h,if_false] <;> omega
 ·cases hi with
  | none=>simp [sliceBounds,HT.sIx]
  | some i =>
   simp only [sliceBounds,HT.sIx,Option.getD_none,show (1:Int) > 0 by decide,if_true];by_cases h:i < 0
   ·simp only [h,if_true] <;> omega
   ·simp only [h,if_false] <;> omega
theorem zD1 (its:List Value) (lo hi:Option Int):slicePick its.toArray lo hi none=((its.drop (HT.sIx its.length 0 lo)).take (HT.sIx its.length its.length hi - HT.sIx its.length 0 lo)).toArray:=by
 obtain ⟨h1,h2,h3⟩:=slice_bounds lo hi its.toArray.size;unfold slicePick;rw [h1,h2,h3];simp only [sliceRange_one,pick_run,Z9] <;> rfl
noncomputable def rSlL (K:PySem.W.Frag):V→Option Int→Option Int→Hp→VK→Prop:=fun x lo hi H Q=>∃ a xs,x=.ref a∧SqL K H a xs∧∀ p,H p=none→Q (.ref p) (upd H p (.lst (cutV xs lo hi)))
theorem zDr:SlR X (rSlL X.K):=by
 intro pins s σ H x v vl vu lo hi sl Q I rx hs pl pu h;obtain ⟨a,xs,rfl,hx,q⟩:=h;cases rx;obtain ⟨its,r,ht,hz⟩:=I.list hx;have hlen:=r.length;refine ⟨"list",_,slot_list_getitem.lookup,ht.isList.typeIs,?_⟩;refine wpAny_getItem_list_slice ht.isList hs pl pu .none (by simp) ?_ (by rw [Z9] <;> omega);rw [zD1,← hlen];refine ⟨.ref s.heap.objs.size,_,I.laid (t':=s.toks) (o:=.lst (cutV xs lo hi)) (fun b ob q=>Z1 _ q) (Z7 _) ?_,rfl,q _ (I.hok.fresh (Z7 _))⟩;exact ⟨Zo (zE7 xs lo hi) hz,_,0,(r.drop (HT.sIx xs.length 0 lo)).take (HT.sIx xs.length xs.length hi - HT.sIx xs.length 0 lo),Zh _ rfl⟩
noncomputable def flatV:V→Bool
 | .non=>true
 | .bl _=>true
 | .int _=>true
 | .str _=>true
 | _=>false
noncomputable def eqV:V→V→Bool
 | .non,.non=>true
 | .bl a,.bl b=>a == b
 | .bl a,.int b=>(if a then 1 else 0) == b
 | .int a,.bl b=>a == (if b then 1 else 0)
 | .int a,.int b=>a == b
 | .str a,.str b=>a == b
 | _,_=>false
theorem eqAt_V {A:Around}{s:Shared}{y x:V}{u v:Value} (ry:RelV y u) (rx:RelV x v) (fy:flatV y=true) (fx:flatV x=true):SeqAt.EqAt A s u v (eqV y x):=by
 cases y with
 | non =>
  cases ry;cases x with
  | non=>cases rx;exact SeqAt.EqAt.same _
  | bl b=>cases rx;exact SeqAt.EqAt.none_bool b
  | int b=>obtain ⟨t,rfl⟩:=rx;exact SeqAt.EqAt.none_int b t
  | str b=>obtain ⟨t,rfl⟩:=rx;exact SeqAt.EqAt.none_str b t
  | _=>exact absurd (show false=true from fx) Ze
 | bl a =>
  cases ry;cases x with
  | non=>cases rx;exact SeqAt.EqAt.bool_none a
  | bl b=>cases rx;exact SeqAt.EqAt.bool_bool a b
  | int b=>obtain ⟨t,rfl⟩:=rx;exact SeqAt.EqAt.bool_int a b t
  | str b=>obtain ⟨t,rfl⟩:=rx;exact SeqAt.EqAt.bool_str a b t
  | _=>exact absurd (show false=true from fx) Ze
 | int a =>
  obtain ⟨t',rfl⟩:=ry;cases x with
  | non=>cases rx;exact SeqAt.EqAt.int_none a t'
  | bl b=>cases rx;exact SeqAt.EqAt.int_bool a t' b
  | int b=>obtain ⟨t,rfl⟩:=rx;exact SeqAt.EqAt.int_int a t' b t
  | str b=>obtain ⟨t,rfl⟩:=rx;exact SeqAt.EqAt.int_str a t' b t
  | _=>exact absurd (show false=true from fx) Ze
 | str a =>
  obtain ⟨t',rfl⟩:=ry;cases x with
  | non=>cases rx;exact SeqAt.EqAt.str_none a t'
  | bl b=>cases rx;exact SeqAt.EqAt.str_bool a t' b
  | int b=>obtain ⟨t,rfl⟩:=rx;exact SeqAt.EqAt.str_int a t' b t
  | str b=>obtain ⟨t,rfl⟩:=rx;exact SeqAt.EqAt.str_str a t' b t
  | _=>exact absurd (show false=true from fx) Ze
 | _=>exact absurd (show false=true from fy) Ze
noncomputable def eqU (x:V) (u:Value):Bool:=match u with
 | .none=>eqV .non x
 | .bool b=>eqV (.bl b) x
 | .int i _=>eqV (.int i) x
 | .str z _=>eqV (.str z) x
 | _=>false
theorem eqU_of {x y:V}{u:Value} (r:RelV y u) (f:flatV y=true):eqU x u=eqV y x:=by
 cases y with
 | non=>cases r;rfl
 | bl b=>cases r;rfl
 | int i=>obtain ⟨t,rfl⟩:=r;rfl
 | str z=>obtain ⟨t,rfl⟩:=r;rfl
 | _=>exact absurd (show false=true from f) Ze
theorem zEa {x:V}:∀ {xs:List V}{us:List Value},Vals xs us→xs.all flatV=true→us.any (eqU x)=xs.any fun y=>eqV y x
 | _,_,.nil,_=>rfl
 | y :: xs,u :: us,.cons r t,f=>by
  rw [Zy,Zr] at f;rw [Y8,Y8,eqU_of r f.1,zEa t f.2]
theorem zCt {A:Around}{s:Shared}{x:V}{v:Value} (rx:RelV x v) (fx:flatV x=true):∀ {xs:List V}{us:List Value},Vals xs us→xs.all flatV=true→∀ u∈us,SeqAt.EqAt A s u v (eqU x u)
 | _,_,.nil,_=>fun u hu=>by cases hu
 | y :: xs,u :: us,.cons r t,f=>fun u' hu=>by
  rw [Zy,Zr] at f;rcases List.mem_cons.mp hu with rfl | hu
  ·rw [eqU_of r f.1];exact eqAt_V r rx f.1 fx
  ·exact zCt rx fx t f.2 u' hu
noncomputable def inV (x:V) (xs:List V):Bool:=xs.any fun y=>eqV y x
noncomputable def rIn (K:PySem.W.Frag) (neg:Bool):R2:=fun x y H Q=>∃ p xs,y=.ref p∧(SqL K H p xs∨SqT K H p xs)∧flatV x=true∧xs.all flatV=true∧Q (.bl (if neg then !inV x xs else inV x xs)) H
theorem zCk:OpR X (compareOp .In) (rIn X.K false):=by
 intro pins s σ H x y v u Q I rx ry h;obtain ⟨p,xs,rfl,hq,fx,fs,q⟩:=h;cases ry;rcases hq with hq | hq
 ·obtain ⟨its,r,pl,hz⟩:=I.list hq;refine SeqAt.in_listAt (eqU x) pl.isList (fun w hw=>zCt rx fx r fs w (by simpa using hw)) ⟨.bl _,H,I,rfl,?_⟩;rw [show its.toArray.any (eqU x)=its.any (eqU x) by simp,zEa r fs];exact q
 ·obtain ⟨its,r,pl,hz⟩:=I.tuple hq;refine SeqAt.in_tupleAt (eqU x) pl (fun w hw=>zCt rx fx r fs w (by simpa using hw)) ⟨.bl _,H,I,rfl,?_⟩;rw [show its.toArray.any (eqU x)=its.any (eqU x) by simp,zEa r fs];exact q
theorem zCi:OpR X (compareOp .NotIn) (rIn X.K true):=by
 intro pins s σ H x y v u Q I rx ry h;obtain ⟨p,xs,rfl,hq,fx,fs,q⟩:=h;cases ry;rcases hq with hq | hq
 ·obtain ⟨its,r,pl,hz⟩:=I.list hq;refine SeqAt.notIn_listAt (eqU x) pl.isList (fun w hw=>zCt rx fx r fs w (by simpa using hw)) ⟨.bl _,H,I,rfl,?_⟩;rw [show its.toArray.any (eqU x)=its.any (eqU x) by simp,zEa r fs];exact q
 ·obtain ⟨its,r,pl,hz⟩:=I.tuple hq;refine SeqAt.notIn_tupleAt (eqU x) pl (fun w hw=>zCt rx fx r fs w (by simpa using hw)) ⟨.bl _,H,I,rfl,?_⟩;rw [show its.toArray.any (eqU x)=its.any (eqU x) by simp,zEa r fs];exact q
theorem zAp:CallR X (.builtin "len") (fun xs H Q=>∃ p ys,xs=[.ref p]∧(SqL X.K H p ys∨SqT X.K H p ys)∧Q (.int ys.length) H):=by
 intro pins s σ H xs us Q I r h;obtain ⟨p,ys,rfl,hq,q⟩:=h;obtain ⟨u,rfl,rx⟩:=vals1 r;cases rx;have hn:=line63;rcases hq with hq | hq
 ·obtain ⟨its,r',pl,hz⟩:=I.list hq;have hlen:=r'.length;exact Calls.call_len_list pl.isList (by simp only [Z9] <;> omega) ⟨.int ys.length,H,I.tok _,⟨s.toks + 1,by rw [Z9,hlen]⟩,q⟩
 ·obtain ⟨its,r',pl,hz⟩:=I.tuple hq;have hlen:=r'.length;exact len_tuple pl (by simp only [Z9] <;> omega) ⟨.int ys.length,H,I.tok _,⟨s.toks + 1,by rw [Z9,hlen]⟩,q⟩
theorem call_len_str:CallR X (.builtin "len") (fun xs H Q=>∃ z,xs=[.str z]∧z.length≤sizeLine∧Q (.int z.length) H):=by
 intro pins s σ H xs us Q I r h;obtain ⟨z,rfl,hz,q⟩:=h;obtain ⟨u,rfl,t,rfl⟩:=vals1 r;have hn:=line63;exact len_str (by omega) ⟨.int z.length,H,I.tok _,⟨_,rfl⟩,q⟩
theorem zAz:CallR X (.type "list") (fun xs H Q=>∃ p ys,xs=[.ref p]∧(SqL X.K H p ys∨SqT X.K H p ys)∧∀ l,H l=none→Q (.ref l) (upd H l (.lst ys))):=by
 intro pins s σ H xs us Q I r h;obtain ⟨p,ys,rfl,hq,q⟩:=h;obtain ⟨u,rfl,rx⟩:=vals1 r;cases rx
 have fin:∀ (its:List Value),Vals ys its→ys.length≤sizeLine→∀ (h':Heap) (c':Nat),(∀ b o',s.heap.get? b=some o'→h'.get? b=some o') →
   h'.get? s.heap.objs.size=some { cls:=.type "list",dict:=none,data:=.seq its.toArray c',slots:=#[] }→EP X pins σ Q (.ref s.heap.objs.size) { s with heap:=h' }:=fun its r' hz h' c' kp e =>
  ⟨.ref s.heap.objs.size,_,I.laid (t':=s.toks) kp (Z7 _) (show ObjOk X.prog X.w _ h' _ (.lst ys) from ⟨hz,its,c',r',e⟩),rfl,q _ (I.hok.fresh (Z7 _))⟩
 rcases hq with hq | hq
 ·obtain ⟨its,r',pl,hz⟩:=I.list hq;have hlen:=r'.length;obtain ⟨o,ho,hc,n,hd⟩:=pl.isList;exact call_list_seq p (.inl rfl) ho hc hd (fun h' c' kp e=>fin its r' hz h' c' kp e) (by simp only [Z9] <;> omega)
 ·obtain ⟨its,r',pl,hz⟩:=I.tuple hq;have hlen:=r'.length;obtain ⟨o,ho,hc,n,hd⟩:=pl;exact call_list_seq p (.inr rfl) ho hc hd (fun h' c' kp e=>fin its r' hz h' c' kp e) (by simp only [Z9] <;> omega)
theorem zFd:CallR X (.type "tuple") (fun xs H Q=>∃ p ys,xs=[.ref p]∧((SqL X.K H p ys∧∀ l,H l=none→Q (.ref l) (upd H l (.tup ys)))∨(SqT X.K H p ys∧Q (.ref p) H))):=by
 intro pins s σ H xs us Q I r h;obtain ⟨p,ys,rfl,h⟩:=h;obtain ⟨u,rfl,rx⟩:=vals1 r;cases rx;rcases h with ⟨hq,q⟩ | ⟨hq,q⟩
 ·obtain ⟨its,r',pl,hz⟩:=I.list hq;have hlen:=r'.length;refine call_tuple_list pl.isList (fun h' kp=>?_) (by simp only [Z9] <;> omega);have I1:Inv X pins σ H { s with heap:=h' }:=I.kept (t':=s.toks) kp;have I2:Inv X pins σ (upd H h'.objs.size (.tup ys)) { s with heap:=h'.push { cls:=.type "tuple",data:=.seq its.toArray } } :=
   I1.laid (t':=s.toks) (fun b o e=>Z1 _ e) (Z7 _) (show ObjOk X.prog X.w _ _ _ (.tup ys) from ⟨hz,its,r',IsTup.new _ _⟩)
  exact ⟨.ref h'.objs.size,_,I2,rfl,q _ (I1.hok.fresh (Z7 _))⟩
 ·obtain ⟨its,r',pl,hz⟩:=I.tuple hq;exact call_tuple_same pl ⟨.ref p,H,I,rfl,q⟩
noncomputable def tyV (K:PySem.W.Frag) (T:String) (x:V) (H:Hp):Prop:=match x with
 | .str _=>T = "str"
 | .int _=>T = "int"
 | .ref p=>(T = "list"∧∃ xs,SqL K H p xs)∨(T = "tuple"∧∃ o,K.lookup p=some o∧o.cls=.type "tuple"∧o.dict=none) ∨
   (T = "dict"∧((∃ kvs,H p=some (.dK kvs))∨∃ kvs,H p=some (.dT kvs)))∨(T = "set"∧∃ S n,H p=some (.set S n))
 | _=>False
theorem tyV_is {pins:List (Addr×Obj)}{σ : St}{H:Hp}{s:Shared}{T:String}{x:V}{v:Value} (I:Inv X pins σ H s) (r:RelV x v) (ty:tyV X.K T x H) :
  s.TypeIs v T∧∀ a,v=.ref a→∃ ob,s.heap.get? a=some ob∧ob.dict=none:=by
 cases x with
 | str z =>
  obtain ⟨t,rfl⟩:=r;cases (show T = "str" from ty);exact ⟨typeIs_str s z t,fun _ e=>nomatch e⟩
 | int i =>
  obtain ⟨t,rfl⟩:=r;cases (show T = "int" from ty);exact ⟨typeIs_int s i t,fun _ e=>nomatch e⟩
 | ref p =>
  cases r;rcases ty with ⟨rfl,xs,hq⟩ | ⟨rfl,o,hk,hc,hd⟩ | ⟨rfl,hk⟩ | ⟨rfl,S,n,hk⟩
  ·obtain ⟨its,_,pl,_⟩:=I.list hq;refine ⟨pl.isList.typeIs,fun a e=>?_⟩;cases e;obtain ⟨o,n,e,c,hd,_⟩:=pl;exact ⟨o,e,hd⟩
  ·refine ⟨⟨o,I.kIn p o hk,hc⟩,fun a e=>?_⟩;cases e;exact ⟨o,I.kIn _ o hk,hd⟩
  ·have z:∃ o,s.heap.get? p=some o∧o.ExactDict:=by
    rcases hk with ⟨kvs,hk⟩ | ⟨kvs,hk⟩
    ·obtain ⟨_,_,_,_,o,_,_,e,ex,_⟩:=I.hok p _ hk;exact ⟨o,e,ex⟩
    ·obtain ⟨_,_,_,_,o,_,_,e,ex,_⟩:=I.hok p _ hk;exact ⟨o,e,ex⟩
   obtain ⟨o,e,ex⟩:=z;refine ⟨⟨o,e,ex.1⟩,fun a e2=>?_⟩;cases e2;exact ⟨o,e,ex.2.1⟩
  ·obtain ⟨o,_,_,_,e,ex,_⟩:=I.hok p _ hk;refine ⟨⟨o,e,ex.1⟩,fun a e2=>?_⟩;cases e2;exact ⟨o,e,ex.2.1⟩
 | _=>exact False.elim ty
noncomputable def tBM (K:PySem.W.Frag) (T:String) (r:V→List V→Hp→VK→Prop) (to:TE) (t:TA):TE:=fun σ H Q=>to σ H fun x H1=>tyV K T x H1∧t σ H1 fun xs H2=>r x xs H2 Q
variable {o e:Expr}{es:List Expr}{to:TE}{t:TA}{name:Str}{apos cpos:Pos}{T id:String}{r:V→List V→Hp→VK→Prop}
theorem pe_bm (pa:PlainAttrs T) (slot:Slot T name id) (hty:typeOf (.builtin id)=pure (.type "method_descriptor")) (hm:MtR X id r) (ho:PE X o to) (ha:PA X (e :: es) t)
  (hbase:attributeBase o name X.env (eval o X.env)=eval o X.env:=by rfl)
  (hfew:((backTo cpos (starEach (e :: es) X.env)).all (fun x=>!x.1) && (backToKw cpos (keywordEach [] X.env)).all (fun x=>x.1.isSome)
   && decide ((e :: es).length + ([]:List Keyword).length + (if ([]:List Keyword).isEmpty then 0 else 1) < 30))=true:=by rfl)
  (hline:(apos.endLine == cpos.line)=true:=by rfl) (hs:starEach (e :: es) X.env=(false,eval e X.env) :: starEach es X.env:=by rfl) (hplain:(backTo cpos (starEach es X.env)).any (·.1)=false:=by rfl) :
  PE X (.Call (.Attribute o name apos) (e :: es) [] cpos) (tBM X.K T r to t):=by
 intro pins s σ H Q I h;refine wpAny_Call_method_late hbase hfew hline rfl (thn (ho pins s σ H _ I h) fun v s1 ⟨x,H1,I1,r1,ty,q1⟩=>?_);obtain ⟨h1,h2⟩:=tyV_is I1 r1 ty;refine ⟨T,id,pa,slot,hty,h1,h2,?_⟩;have hA:=ha cpos pins s1 σ H1 _ I1 q1;rw [hs] at hA ⊢;refine Calls.callWith_builtin (by show (false || (backTo cpos (starEach es X.env)).any (·.1))=false;rw [hplain] <;> rfl) (Calls.evalArgs_plain ?_);exact thn hA fun us s2 ⟨vs,H2,I2,r2,q2⟩=>hm pins s2 σ H2 x vs v us Q I2 r1 r2 q2
end
end L2
namespace L2
open PySem PySem.Spec PyProof.Rows
noncomputable def MtM (X:Cx) (id:String) (r:V→List V→Hp→VK→Prop):Prop :=
 ∀ (pins:List (Addr×Obj)) (s:Shared) (σ : St) (H:Hp) (x:V) (xs:List V) (v:Value) (us:List Value) (Q:VK),Inv X pins σ H s→RelV x v→Vals xs us→r x xs H Q →
  wpAny (model X.prog X.w) X.A (call (.builtin id) (v :: us)) (EP X pins σ Q) X.xe s
theorem Vals.one:∀ {x:V}{us:List Value},Vals [x] us→∃ u,us=[u]∧RelV x u
 | _,_,.cons r .nil=>⟨_,rfl,r⟩
theorem Vals.dropLast {xs:List V}{us:List Value} (h:Vals xs us):Vals xs.dropLast us.dropLast:=by
 induction h with
 | nil=>exact .nil
 | cons r t ih =>
  cases t with
  | nil=>exact .nil
  | cons q t'=>exact .cons r ih
theorem Vals.eraseIdx:∀ {xs:List V}{us:List Value} (i:Nat),Vals xs us→Vals (xs.eraseIdx i) (us.eraseIdx i)
 | _,_,_,.nil=>.nil
 | _,_,0,.cons _ t=>t
 | _,_,i + 1,.cons r t=>.cons r (Vals.eraseIdx i t)
theorem Vals.reverse {xs:List V}{us:List Value} (h:Vals xs us):Vals xs.reverse us.reverse:=by
 induction h with
 | nil=>exact .nil
 | cons r t ih=>rw [List.reverse_cons,List.reverse_cons];exact Vals.append ih (.cons r .nil)
theorem erase_last {α : Type} (l:List α):l.eraseIdx (l.length - 1)=l.dropLast:=by
 induction l with
 | nil=>rfl
 | cons a r ih =>
  cases r with
  | nil=>rfl
  | cons b r =>
   have e:(a :: b :: r).length - 1=((b :: r).length - 1) + 1:=by
    have h1:(a :: b :: r).length=r.length + 2:=rfl;have h2:(b :: r).length=r.length + 1:=rfl;omega
   rw [e,List.eraseIdx_cons_succ,ih]
   all_goals rfl
section
variable {X:Cx}{pins:List (Addr×Obj)}{σ : St}{H:Hp}{s:Shared}{l b:Addr}{xs ys zs:List V}
theorem Inv.lset {its its':List Value}{n:Nat}{f:Array Value→Array Value}{t':Nat} (I:Inv X pins σ H s) (hH:H l=some (.lst xs))
  (e:s.heap.get? l=some { cls:=.type "list",data:=.seq its.toArray n }) (hf:f its.toArray=its'.toArray) (hv:Vals ys its') (hz:ys.length≤sizeLine) :
  Inv X pins σ (upd H l (.lst ys)) { s with heap:=s.heap.update l (Obj.mapSeq f),toks:=t' }:=by
 have q:=PySem.IsL.update e f;rw [hf] at q;refine I.write (x:=l) (e:=l) (by rw [hH];exact trivial) (.inl rfl) (fun b' u hb hu=>(Heap.get?_update_other s.heap (Obj.mapSeq f) (Ne.symm hb)).trans hu) ⟨_,q⟩ ?_;exact ⟨hz,its',_,hv,q⟩
theorem Inv.lnew {its:List Value}{t':Nat} (I:Inv X pins σ H s) (hv:Vals ys its) (hz:ys.length≤sizeLine) :
  Inv X pins σ (upd H s.heap.objs.size (.lst ys)) { s with heap:=s.heap.push { cls:=.type "list",data:=.seq its.toArray },toks:=t' } :=
 I.laid (fun _ _ q=>Z1 _ q) (Z7 _) ⟨hz,its,0,hv,Zh _ rfl⟩
theorem Inv.fresh (I:Inv X pins σ H s):H s.heap.objs.size=none:=I.hok.fresh (Z7 _)
theorem Inv.lstM (I:Inv X pins σ H s) (hH:H l=some (.lst xs)):xs.length≤sizeLine∧∃ (its:List Value) (n:Nat),Vals xs its∧xs.length=its.length∧s.heap.get? l=some { cls:=.type "list",data:=.seq its.toArray n }:=by
 obtain ⟨z,its,n,r,e⟩:=I.hok l _ hH;exact ⟨z,its,n,r,r.length,e⟩
theorem notLongL {n:Nat} (h:n≤sizeLine):Builtin.List.listTooLong n=false:=by
 unfold Builtin.List.listTooLong;exact decide_eq_false (by omega)
end
section
variable {X:Cx}
noncomputable def rAppend:V→List V→Hp→VK→Prop:=fun x vs H Q=>∃ l xs y,x=.ref l∧vs=[y]∧H l=some (.lst xs)∧xs.length < sizeLine∧Q .non (upd H l (.lst (xs++[y])))
theorem zCl:MtM X "list.append" rAppend:=by
 intro pins s σ H x vs v us Q I rx rv h;obtain ⟨l,xs,y,rfl,rfl,hH,hz,q⟩:=h;cases rx;obtain ⟨u,rfl,ru⟩:=rv.one;obtain ⟨z,its,n,r,hl,e⟩:=I.lstM hH;refine call_meets F.slot_list_append ⟨_,e,rfl⟩ F.entry_list_append (F.args_list_append_2 _ _) (PySem.list_append l its.toArray n u (by rw [Z9];omega)) ⟨e,?_⟩;refine ⟨.non,_,I.lset (its':=its++[u]) hH e (by simp) (r.append (.cons ru .nil)) ?_,rfl,q⟩;rw [Zc,List.length_singleton];omega
noncomputable def rExtend:V→List V→Hp→VK→Prop:=fun x vs H Q=>∃ l b xs zs,x=.ref l∧vs=[.ref b]∧H l=some (.lst xs)∧H b=some (.lst zs)∧xs.length + zs.length≤sizeLine∧Q .non (upd H l (.lst (xs++zs)))
theorem mt_extend:MtM X "list.extend" rExtend:=by
 intro pins s σ H x vs v us Q I rx rv h;obtain ⟨l,b,xs,zs,rfl,rfl,hH,hB,hz,q⟩:=h;cases rx;obtain ⟨u,rfl,ru⟩:=rv.one;cases ru;obtain ⟨z,its,n,r,hl,e⟩:=I.lstM hH;obtain ⟨z2,its2,n2,r2,hl2,e2⟩:=I.lstM hB;have hsz:its.toArray.size + its2.toArray.size≤sizeLine:=by rw [Z9,Z9];omega
 have hlong:¬ (!its.toArray.isEmpty && Builtin.List.listTooLong (its.toArray.size + its2.toArray.size))=true:=by
  rw [notLongL hsz,Bool.and_false];exact Ze
 refine call_meets F.slot_list_extend ⟨_,e,rfl⟩ F.entry_list_extend (F.args_list_extend_2 _ _)
  (AutoSeq1.list_extend_list_list_0 l its.toArray n b its2.toArray n2 hlong (by rw [Z9];omega) (by omega)) ⟨e,e2,?_⟩
 refine ⟨.non,_,I.lset (its':=its++its2) hH e (by simp) (r.append r2) ?_,rfl,q⟩;rw [Zc];omega
noncomputable def rCat:R2:=fun x y H Q=>∃ l b xs zs,x=.ref l∧y=.ref b∧H l=some (.lst xs)∧H b=some (.lst zs)∧xs.length + zs.length≤sizeLine∧∀ p,H p=none→Q (.ref p) (upd H p (.lst (xs++zs)))
theorem zDx:OpR X (binaryOp .Add) rCat:=by
 intro pins s σ H x y v u Q I rx ry h;obtain ⟨l,b,xs,zs,rfl,rfl,hH,hB,hz,q⟩:=h;cases rx;cases ry;obtain ⟨z,its,n,r,hl,e⟩:=I.lstM hH;obtain ⟨z2,its2,n2,r2,hl2,e2⟩:=I.lstM hB;refine PySem.P.add_list e e2 ?_ (by rw [Z9,Z9];omega);have ea:its.toArray++its2.toArray=(its++its2).toArray:=by simp
 rw [ea];exact ⟨.ref _,_,I.lnew (t':=s.toks) (r.append r2) (by rw [Zc];omega),rfl,q _ I.fresh⟩
end
section
variable {prog:Program}{w:World}{A:Around}{E:Value→Shared→Prop}{s:Shared}
set_option maxRecDepth 100000 in
end
section
variable {X:Cx}
end
end L2
namespace Att
open PySem PySem.W PySem.Calls PyProof.Rows
theorem zE4 {P:Params}{h:Heap}:∀ (ns:List Int) (vs:List Value),WellAll P h vs (ns.map WData.int)→IntsAre vs ns:=by
 intro ns
 induction ns with
 | nil =>
  intro vs w;rw [List.map_nil] at w;cases w;exact .nil
 | cons n ns ih =>
  intro vs w;rw [Zq] at w;cases w with
  | cons a b =>
   cases a;exact .cons _ _ (ih _ b)
theorem script_of {l:OpenLaw}{n:Nat} (hn:l.most=some n) {P:Params}{h:Heap}{args:List WData}{vals:List Value}
  (hpre:l.row.toRowW.claim.pre args=true) (hwl:WellAll P h vals args) :
  ∃ a vs ns,vals=[Value.ref a]∧args=[WData.list (ns.map WData.int)]∧h.get? a=some { cls:=.type "list",data:=.seq vs.toArray }∧IntsAre vs ns∧ns.length≤n:=by
 have hsh:WShape.hasAll [] args [.list .int]=true:=(pre_splitW hpre).1;have hc:l.pre.holds [] { args:=args }=true:=(pre_splitW hpre).2;obtain ⟨d,r,rfl,h1,h2⟩:=hasAllW_cons hsh;obtain rfl:=hasAllW_nil h2;obtain ⟨xs,rfl,h3⟩:=hasW_list h1;obtain ⟨ns,rfl⟩:=items_int h3;have hlen:ns.length≤n:=by
  unfold OpenLaw.pre at hc;have h4:(WTm.not (.lt (.lit (.int (n:Int))) (.len (.arg 0)))).holds [] { args:=[.list (ns.map .int)] }=true:=by
   have h4:=(holds_andW hc).1;rw [hn] at h4;exact h4
  have h5:=condW_of h4 (w_not (w_lt w_lit (w_len_list (w_arg rfl))));rw [Z0] at h5;refine Nat.le_of_not_lt fun q=>?_;have q':(n:Int) < ((ns.length:Nat):Int):=by omega
  first
   | (rw [decide_eq_true q'] at h5;exact absurd h5 (by decide))
   | (simp at h5;omega)
 cases hwl with
 | cons w1 w2 =>
  cases w2;cases w1 with
  | list ho hall=>exact ⟨_,_,ns,rfl,rfl,ho,zE4 ns _ hall,hlen⟩
theorem post_true (l:OpenLaw) (args:List WData):l.row.toRowW.claim.post args (.bool true) args=true :=
 postW_of (r:=l.row.toRowW) (X:=(true == true))
  (show WShape.has [] (.bool true) .bool=true by first | rfl | decide | simp [WShape.has,WShape.arms,WShape.armsAll])
  (show (WTm.eq .res (.lit (.bool true))).value [] { args:=args,res:=some (.bool true),after:=args }=some (.bool (true == true)) from w_eq_bool (w_res rfl) w_lit) rfl
theorem attach_call {l:OpenLaw}{n:Nat}{q:Program}{loose:List Str}{XP:(Str→Option Value)→Heap→Prop}{YP:World→Heap→Prop}{d:DefRec}
  (hn:l.most=some n) (hdf:d.params.defaults=[])
  (call:∀ (w:World) (s₀ s₁ : Shared) (mg mb:Str→Option Value) (fa:Addr) (o:Obj) (pm cd doc:Value) (a:Addr) (vs:List Value) (ns:List Int),
   Ground q loose [] XP w s₀ mg mb s₁.heap→YP w s₁.heap →
   s₁.heap.get? fa=some o→o.data=.func (docDef d.name d.params d.body d.scope pm cd doc)→s₁.heap.CodeRec cd d.name→mg d.name=some (.ref fa) →
   s₁.heap.get? a=some { cls:=.type "list",data:=.seq vs.toArray }→IntsAre vs ns→ns.length≤n→s₁.gens = #[] →
   codeAny (model l.prog w) callerA (.call (.ref fa) ⟨[.ref a],[]⟩) (fun r s'=>r=.ok (.ret (.bool true))∧OldK s₁.heap s'.heap∧s'.os=s₁.os∧AllBare s'.gens) s₁) :
  WalkO q loose XP YP l.row.toRowW d [] (fun f vs=>PySem.call f vs):=by
 intro w s₀ s₁ mg mb G Y fa o pm cd doc dV kV ho hd hcd hD hmg hg args vals as hpre hlay hrd hwl hlo;obtain rfl:dV=.none:=Dflts.none hD hdf;obtain rfl:kV=.none:=Dflts.noKw hD;obtain ⟨a,vs,ns,rfl,rfl,hobj,hints,hlen⟩:=script_of hn hpre hwl;refine enter_call (codeAny_mono (call w s₀ s₁ mg mb fa o pm cd doc a vs ns G Y ho (fd_plain hd) hcd hmg hobj hints hlen hg) fun r s' hq=>?_);obtain ⟨rfl,h2,h3,h4⟩:=hq;exact ⟨.inl ⟨.bool true,.bool true,[],rfl,fun _=>rfl,.bool true,post_true l _,fun _=>⟨List.Pairwise.nil,fun _ hm=>(nomatch hm)⟩⟩,h2,h3,h4⟩
section
variable {prog:Program}{w:World}{A:Around}{E:Value→Shared→Prop}{s:Shared}{K:Frag}
noncomputable def ledger (h:Heap) (L d:Addr):List (Addr×Obj):=(List.range h.objs.size).filterMap fun a=>if a=L∨a=d then none else (h.get? a).map fun o=>(a,o)
end
end Att
namespace L2
open PySem PySem.Spec PyProof.Rows
theorem vals_ints:∀ {vs:List Value}{ns:List Int},IntsAre vs ns→Vals (ns.map V.int) vs
 | _,_,.nil=>.nil
 | _,_,.cons n t h=>.cons ⟨t,rfl⟩ (vals_ints h)
end L2
namespace L2
open PySem PySem.Spec PyProof.Rows
noncomputable abbrev KOf {K:PySem.W.Frag}{h:Heap} (_:K.In h):PySem.W.Frag:=K
end L2
namespace L2
open PySem PySem.Spec PyProof.Rows
noncomputable def inClass (s:Stmt) (j:Nat):Stmt:=match s with
 | .ClassDef _ _ _ body _ _ _ _ _ _ _=>body.getD j (.Pass ⟨0,0,0,0⟩)
 | _=>.Pass ⟨0,0,0,0⟩
noncomputable def defArgs (s:Stmt):Arguments:=match s with
 | .FunctionDef _ a _ _ _ _ _ _ _ _=>a
 | _=>{ posonlyargs:=[],args:=[],vararg:=none,kwonlyargs:=[],kw_defaults:=[],kwarg:=none,defaults:=[] }
noncomputable def defBody (s:Stmt):List Stmt:=match s with
 | .FunctionDef _ _ b _ _ _ _ _ _ _=>b
 | _=>[]
noncomputable def defScope (s:Stmt):Scope:=match s with
 | .FunctionDef _ _ _ _ _ _ sc _ _ _=>sc
 | _=>{ kind:=.function,names:=[],isGenerator:=false,isCoroutine:=false }
noncomputable abbrev CX0:CXT:=fun _ _ _ _ _ _=>False
noncomputable abbrev E0:St→XK:=fun _ _ _ _=>False
structure Fun (K:PySem.W.Frag) (x qual:Str) (st:Stmt) (f:Addr) (fd:FuncData):Prop where
 ex:∃ (oc:Value) (od:Option Addr) (kV doc pm:Value) (an:Option Addr) (cdv ct:Value) (osl:Array (Option Value)),
  fd=PySem.W.fnOf x qual (defArgs st) (defBody st) (defScope st) .none kV doc pm an cdv ct∧K.lookup f=some ⟨oc,od,.func fd,osl⟩∧PySem.W.codeIn K cdv qual=true
 kp:PySem.W.keepIn K (.ref f)=true
section
variable {P:Program}{w:World}{K:PySem.W.Frag}{mg:Str→Option Value}{base:Heap}
theorem Fun.ok {x qual:Str}{st:Stmt}{f:Addr}{fd:FuncData}{N ps:List Str}{k:Nat}{sp:Sp} (F:Fun K x qual st f fd) (S:FnScope N ps (defScope st)) (len:∀ vs H Q E,sp vs H Q E→vs.length=ps.length)
  (hbody:∀ (cdv:Value) (A:Around) (outer:List Env) (s:Shared) (H:Hp) (vs:List V) (Q:VK) (E:XK),Room k (A.deeper (envOfC qual (defScope st) s.heap.objs.size f cdv))→sp vs H Q E →
   ∃ t,PSs (cxOf CX0 P w K mg base N qual (defScope st) f cdv A outer s H E).nox (defBody st) t∧t { nx:=fun _ H'=>Q .non H',rt:=Q } (start N vs) H):FnOk P w K mg base CX0 (k + 1) f fd ps sp:=by
 obtain ⟨oc,od,kV,doc,pm,an,cdv,ct,osl,rfl,lk,hcd⟩:=F.ex;refine zF8 lk hcd S len fun A outer s H vs Q E hr hsp=>?_;obtain ⟨t,h,q⟩:=hbody cdv A outer s H vs Q E hr hsp;exact ⟨t,h.nox,q⟩
theorem Fun.binds {x qual:Str}{st:Stmt}{f:Addr}{fd:FuncData}{ps:List Str} (F:Fun K x qual st f fd)
  (h:∀ (kV doc pm:Value) (an:Option Addr) (cdv ct:Value) (us:List Value),us.length=ps.length→bindArgs (PySem.W.fnOf x qual (defArgs st) (defBody st) (defScope st) .none kV doc pm an cdv ct) ⟨us,[]⟩=pure (ps.zip us)):Binds K fd ps []:=by
 obtain ⟨oc,od,kV,doc,pm,an,cdv,ct,osl,rfl,lk,hcd⟩:=F.ex;exact .all (h kV doc pm an cdv ct)
theorem fun_mk {x qual:Str}{st:Stmt}{f:Addr}{oc:Value}{od an:Option Addr}{osl:Array (Option Value)}{kV doc pm cdv ct:Value} (l:K.lookup f=some ⟨oc,od,.func (PySem.W.fnOf x qual (defArgs st) (defBody st) (defScope st) .none kV doc pm an cdv ct),osl⟩)
  (c:PySem.W.codeIn K cdv qual=true) (k:PySem.W.keepIn K (.ref f)=true):Fun K x qual st f (PySem.W.fnOf x qual (defArgs st) (defBody st) (defScope st) .none kV doc pm an cdv ct):=⟨⟨oc,od,kV,doc,pm,an,cdv,ct,osl,rfl,l,c⟩,k⟩
end
theorem hu_of {A:Around}{k:Nat} (hr:Room k A):A.units + 1 < cLine:=Nat.lt_of_le_of_lt (Nat.add_le_add_left (by decide:1≤64) _) hr.units
theorem small1000 {n:Nat} (h:n≤1000):n < sizeLine:=Nat.lt_of_le_of_lt h (by decide)
section
variable {X:Cx}
theorem pv (i:Nat) {x:Str}{pos:Pos} (hN:X.N[i]? = some x:=by rfl) (hv:Vis X.env.scope x:=by first | exact Or.inl rfl | exact Or.inr (Or.inl rfl) | exact Or.inr (Or.inr rfl)) (hd:(x == ("__debug__" : Str))=false:=by decide)
  (hcd:(x == ("__classdict__" : Str))=false:=by decide):PE X (.Name x pos) (tVar i):=pe_var hN hv hd hcd
end
theorem iteF {A B:Prop} (h:B):if false=true then A else B:=by
 rw [if_neg Ze];exact h
theorem iteT {A B:Prop} (h:A):if true=true then A else B:=by
 rw [if_pos rfl];exact h
theorem ite2 {c A B:Prop} [Decidable c] (h1:c→A) (h2:¬ c→B):if c then A else B:=by
 by_cases h:c
 ·rw [if_pos h];exact h1 h
 ·rw [if_neg h];exact h2 h
noncomputable def Same (H H':Hp):Prop:=∀ b o,H b=some o→H' b=some o
theorem Same.refl (H:Hp):Same H H:=fun _ _ h=>h
theorem Same.trans {H H1 H2:Hp} (a:Same H H1) (b:Same H1 H2):Same H H2:=fun c o h=>b c o (a c o h)
theorem Same.free {H H':Hp} (e:Same H H') {l:Addr} (h:H' l=Option.none):H l=Option.none:=by
 cases q:H l with
 | none=>rfl
 | some o =>
  rw [e l o q] at h;cases h
end L2
namespace L2
open PySem PySem.Spec PyProof.Rows
section
variable {κ : Type} [DecidableEq κ]
noncomputable def valV (kvs:List (κ×V)) (k : κ):Option V:=(kvs.find? fun kv=>decide (kv.1=k)).map (·.2)
noncomputable def putK (kvs:List (κ×V)) (k : κ) (v:V):List (κ×V) :=
 if (kvs.any fun kv=>decide (kv.1=k))=true then kvs.map (fun kv=>if kv.1=k then (kv.1,v) else kv) else kvs++[(k,v)]
theorem zCr {p : κ×V}{r:List (κ×V)}{k : κ} (e:p.1=k):valV (p :: r) k=some p.2:=by simp [valV,Yf,e]
theorem zCs {p : κ×V}{r:List (κ×V)}{k : κ} (e:¬ p.1=k):valV (p :: r) k=valV r k:=by simp [valV,Yf,e]
theorem zEm (k : κ):∀ kvs:List (κ×V),(kvs.any fun kv=>decide (kv.1=k))=(valV kvs k).isSome
 | []=>rfl
 | p :: r=>by
  rw [Y8];by_cases e:p.1=k
  ·simp only [zCr e,decide_eq_true e,Bool.true_or,Option.isSome_some]
  ·rw [zCs e,decide_eq_false e,Bool.false_or];exact zEm k r
theorem zE2 (kvs:List (κ×V)) (k : κ) (v:V):(putK kvs k v).length≤kvs.length + 1:=by
 unfold putK;split
 ·rw [Z0];omega
 ·rw [Zc,Zj,List.length_nil];omega
theorem RelO.isSome_eq {o:Option V}{u:Option Value} (r:RelO o u):o.isSome=u.isSome:=by
 cases o with
 | none=>cases u with
  | none=>rfl
  | some _=>exact (show False from r).elim
 | some _=>cases u with
  | none=>exact (show False from r).elim
  | some _=>rfl
theorem RelO.getD {o:Option V}{u:Option Value}{d:V}{d':Value} (r:RelO o u) (rd:RelV d d'):RelV (o.getD d) (u.getD d'):=by
 cases o with
 | none=>cases u with
  | none=>exact rd
  | some _=>exact (show False from r).elim
 | some _=>cases u with
  | none=>exact (show False from r).elim
  | some _=>exact r
theorem KV.val {kvs:List (κ×V)}{vs:List (κ×Value)} (r:KV kvs vs) (k : κ):RelO (valV kvs k) (valueAt vs k):=by
 unfold KV at r
 induction r with
 | nil=>exact True.intro
 | @cons p q ps qs h t ih =>
  obtain ⟨h1,h2⟩:=h;by_cases e:p.1=k
  ·have e':q.1=k:=h1.symm.trans e;have b:valueAt (q :: qs) k=some q.2:=by simp [valueAt,Yf,e']
   rw [zCr e,b];exact h2
  ·have e':¬ q.1=k:=fun z=>e (h1.trans z);have b:valueAt (q :: qs) k=valueAt qs k:=by simp [valueAt,Yf,e']
   rw [zCs e,b];exact ih
theorem KV.any {kvs:List (κ×V)}{vs:List (κ×Value)} (r:KV kvs vs) (k : κ):(kvs.any fun kv=>decide (kv.1=k))=vs.any fun kv=>decide (kv.1=k):=by
 unfold KV at r
 induction r with
 | nil=>rfl
 | cons h t ih=>rw [Y8,Y8,ih,h.1]
theorem KV.repl {kvs:List (κ×V)}{vs:List (κ×Value)} (r:KV kvs vs) (k : κ) {y:V}{u:Value} (ry:RelV y u) :
  KV (kvs.map fun kv=>if kv.1=k then (kv.1,y) else kv) (vs.map fun kv=>if kv.1=k then (kv.1,u) else kv):=by
 unfold KV at r ⊢
 induction r with
 | nil=>exact .nil
 | @cons p q ps qs h t ih =>
  rw [Zq,Zq];refine .cons ?_ ih;obtain ⟨h1,h2⟩:=h;by_cases e:p.1=k
  ·rw [if_pos e,if_pos (h1.symm.trans e)];exact ⟨h1,ry⟩
  ·rw [if_neg e,if_neg (fun z=>e (h1.trans z))];exact ⟨h1,h2⟩
theorem KV.put {kvs:List (κ×V)}{vs:List (κ×Value)} (r:KV kvs vs) (k : κ) {y:V}{u:Value} (ry:RelV y u):KV (putK kvs k y) (stored vs k u):=by
 unfold putK stored;rw [r.any k];by_cases e:(vs.any fun kv=>decide (kv.1=k))=true
 ·rw [if_pos e,if_pos e];exact r.repl k ry
 ·rw [if_neg e,if_neg e];exact Paired.snoc r ⟨rfl,ry⟩
theorem KV.length {kvs:List (κ×V)}{vs:List (κ×Value)} (r:KV kvs vs):kvs.length=vs.length:=Paired.length r
end
theorem kV_is {P:Program}{w:World}{k:Key}{u:Value} (r:RelV (kV k) u):(mixKind P w).is k u=true:=by
 cases k with
 | inl i=>obtain ⟨t,e⟩:=(show ∃ t,u=Value.int i t from r);subst e;exact mixKind_int P w i t
 | inr x=>obtain ⟨t,e⟩:=(show ∃ t,u=Value.str x t from r);subst e;exact mixKind_str P w x t
theorem items_are {P:Program}{w:World}:∀ {ks:List Key}{us:List Value},Vals (ks.map kV) us→ItemsAre (mixKind P w) ks us
 | [],_,r=>by rw [List.map_nil] at r;cases r;exact .nil
 | k :: ks,_,r=>by
  rw [Zq] at r;cases r with
  | cons h t=>exact .cons (kV_is h) (items_are t)
noncomputable abbrev KT (H:Hp):List (List Key×V)→List (List Key×Addr×Value)→Prop:=Paired fun p q=>p.1=q.1∧H q.2.1=some (.tup (p.1.map kV))∧RelV p.2 q.2.2
theorem KT.val {H:Hp}{kvs:List (List Key×V)}{xs:List (List Key×Addr×Value)} (r:KT H kvs xs) (k:List Key):RelO (valV kvs k) ((atKey xs k).map (·.2)):=by
 induction r with
 | nil=>exact True.intro
 | @cons p q ps qs h t ih =>
  obtain ⟨h1,_,h2⟩:=h;by_cases e:p.1=k
  ·have e':q.1=k:=h1.symm.trans e;have b:atKey (q :: qs) k=some q.2:=by simp [atKey,Yf,e']
   rw [zCr e,b];exact h2
  ·have e':¬ q.1=k:=fun z=>e (h1.trans z);have b:atKey (q :: qs) k=atKey qs k:=by simp [atKey,Yf,e']
   rw [zCs e,b];exact ih
theorem KT.repl {H:Hp}{kvs:List (List Key×V)}{xs:List (List Key×Addr×Value)} (r:KT H kvs xs) (k:List Key) {y:V}{u:Value} (ry:RelV y u) :
  KT H (kvs.map fun kv=>if kv.1=k then (kv.1,y) else kv) (xs.map (putAt k u)):=by
 induction r with
 | nil=>exact .nil
 | @cons p q ps qs h t ih =>
  rw [Zq,Zq];refine .cons ?_ ih;obtain ⟨h1,h2,h3⟩:=h;unfold putAt;by_cases e:p.1=k
  ·rw [if_pos e,if_pos (h1.symm.trans e)];exact ⟨h1,h2,ry⟩
  ·rw [if_neg e,if_neg (fun z=>e (h1.trans z))];exact ⟨h1,h2,h3⟩
theorem KT.put {H:Hp}{kvs:List (List Key×V)}{xs:List (List Key×Addr×Value)} (r:KT H kvs xs) (k:List Key) {b:Addr}{y:V}{u:Value} (hb:H b=some (.tup (k.map kV))) (ry:RelV y u) :
  KT H (putK kvs k y) (storedH xs k b u):=by
 have e:(kvs.any fun kv=>decide (kv.1=k))=(atKey xs k).isSome:=by
  rw [zEm,(r.val k).isSome_eq,Option.isSome_map]
 unfold putK storedH;rw [e];by_cases q:(atKey xs k).isSome=true
 ·rw [if_pos q,if_pos q];exact r.repl k ry
 ·rw [if_neg q,if_neg q];exact Paired.snoc r ⟨rfl,hb,ry⟩
theorem KT.keeps {H H':Hp}{kvs:List (List Key×V)}{xs:List (List Key×Addr×Value)} (r:KT H kvs xs) (ht:∀ b ys,H b=some (.tup ys)→H' b=some (.tup ys)):KT H' kvs xs :=
 Paired.mapP r fun _ _ z=>⟨z.1,ht _ _ z.2.1,z.2.2⟩
section
variable {P:Program}{w:World}{H:Hp}{h:Heap}{a:Addr}
theorem rd_of {u:HO} (ok:HOk P w H h) (e:Rd H a u):ObjOk P w H h a u:=e.ok ok
theorem zFa {kvs:List (Key×V)} (ok:HOk P w H h) (e:Rd H a (.dK kvs)):kvs.length≤sizeLine∧(a == sysModules)=false∧∃ vs,KV kvs vs∧h.DictOf (mixKind P w) a vs :=
 show ObjOk P w H h a (.dK kvs) from rd_of ok e
theorem dk_of {kvs:List (Key×V)} (ok:HOk P w H h) (e:H a=some (.dK kvs)):kvs.length≤sizeLine∧(a == sysModules)=false∧∃ vs,KV kvs vs∧h.DictOf (mixKind P w) a vs:=zFa ok (.inl e)
theorem zEg {ks:List Key} (ok:HOk P w H h) (e:H a=some (.tup (ks.map kV))):(tupleKind (mixKind P w)).is h ks a:=by
 obtain ⟨_,its,r,o,h1,h2,n,h3⟩:=(show ObjOk P w H h a (.tup (ks.map kV)) from ok a _ e);exact ⟨o,its.toArray,n,h1,h2,h3,by simpa using items_are r⟩
theorem dt_rd {kvs:List (List Key×V)} (ok:HOk P w H h) (e:Rd H a (.dT kvs)):kvs.length≤sizeLine∧(a == sysModules)=false ∧
  ∃ xs,KT H kvs xs∧h.DictOfH (tupleKind (mixKind P w)) a xs:=by
 obtain ⟨z,y,xs,r,o,es,ep,h1,h2,h3,h4,h5⟩:=(show ObjOk P w H h a (.dT kvs) from rd_of ok e);refine ⟨z,y,xs,r,o,es,ep,h1,h2,h3,h4,fun x hx=>?_,h5⟩;have all:∀ {l:List (List Key×V)}{m:List (List Key×Addr×Value)},KT H l m→∀ x∈m,(tupleKind (mixKind P w)).is h x.1 x.2.1:=by
  intro l m q
  induction q with
  | nil=>intro x hx;exact nomatch hx
  | @cons p q ps qs hq t ih =>
   intro x hx;rcases List.mem_cons.mp hx with e | hx
   ·subst e;exact zEg ok (by rw [← hq.1];exact hq.2.1)
   ·exact ih x hx
 exact all r x hx
theorem dt_of {kvs:List (List Key×V)} (ok:HOk P w H h) (e:H a=some (.dT kvs)):kvs.length≤sizeLine∧(a == sysModules)=false ∧
  ∃ xs,KT H kvs xs∧h.DictOfH (tupleKind (mixKind P w)) a xs:=dt_rd ok (.inl e)
end
noncomputable def DGet (H:Hp) (a:Addr) (y:V) (r:Option V):Prop :=
 (∃ kvs k,Rd H a (.dK kvs)∧y=kV k∧r=valV kvs k)∨∃ kvs k b,Rd H a (.dT kvs)∧y=.ref b∧H b=some (.tup (k.map kV))∧r=valV kvs k
noncomputable def DPut (H:Hp) (a:Addr) (y v:V) (H':Hp):Prop :=
 (∃ kvs k,H a=some (.dK kvs)∧y=kV k∧kvs.length < sizeLine∧H'=upd H a (.dK (putK kvs k v))) ∨
 ∃ kvs k b,H a=some (.dT kvs)∧y=.ref b∧H b=some (.tup (k.map kV))∧kvs.length < sizeLine∧H'=upd H a (.dT (putK kvs k v))
theorem DGet.k {H:Hp}{a:Addr}{kvs:List (Key×V)}{k:Key} (e:H a=some (.dK kvs)):DGet H a (kV k) (valV kvs k):=.inl ⟨kvs,k,.inl e,rfl,rfl⟩
theorem DGet.t {H:Hp}{a b:Addr}{kvs:List (List Key×V)}{k:List Key} (e:H a=some (.dT kvs)) (eb:H b=some (.tup (k.map kV))):DGet H a (.ref b) (valV kvs k):=.inr ⟨kvs,k,b,.inl e,rfl,eb,rfl⟩
theorem DPut.k {H:Hp}{a:Addr}{kvs:List (Key×V)}{k:Key}{v:V} (e:H a=some (.dK kvs)) (hl:kvs.length < sizeLine):DPut H a (kV k) v (upd H a (.dK (putK kvs k v))):=.inl ⟨kvs,k,e,rfl,hl,rfl⟩
theorem DPut.t {H:Hp}{a b:Addr}{kvs:List (List Key×V)}{k:List Key}{v:V} (e:H a=some (.dT kvs)) (eb:H b=some (.tup (k.map kV))) (hl:kvs.length < sizeLine) :
  DPut H a (.ref b) v (upd H a (.dT (putK kvs k v))):=.inr ⟨kvs,k,b,e,rfl,eb,hl,rfl⟩
section
variable {X:Cx}{pins:List (Addr×Obj)}{σ : St}{H:Hp}{s:Shared}{a:Addr}{y v:V}{u r:Value}{o:Option V}{A:Around}{E:Value→Shared→Prop}
theorem Inv.big (I:Inv X pins σ H s):sysModules < s.heap.objs.size:=by
 have h:mainGlobals < s.heap.objs.size:=(I.mod.glob.keeps I.bk).lt;exact Nat.lt_trans (by decide) h
theorem d_getItem {Q:Value→Shared→Prop} (hu:A.units + 1 < cLine) (I:Inv X pins σ H s) (g:DGet H a y (some v)) (ry:RelV y u) (h:∀ w' s',Inv X pins σ H s'→RelV v w'→Q w' s') :
  wpAny (model X.prog X.w) A (getItem (.ref a) u) Q E s:=by
 rcases g with ⟨kvs,k,e,ey,l⟩ | ⟨kvs,k,b,e,ey,eb,l⟩
 ·subst ey;obtain ⟨z,hd,vs,rel,dd⟩:=zFa I.hok e;obtain ⟨w',hw,rw'⟩:=RelO.some_of (v:=v) (o:=valueAt vs k) (by rw [l];exact rel.val k);exact wpAny_getItem_of (kV_is ry) dd.mapOf hw (h w' _ (I.tok _) rw')
 ·subst ey;cases (show u=Value.ref b from ry);obtain ⟨z,hd,xs,rel,dd⟩:=dt_rd I.hok e;obtain ⟨w',hw,rw'⟩:=RelO.some_of (v:=v) (o:=(atKey xs k).map (·.2)) (by rw [l];exact rel.val k);obtain ⟨p,hp,hp2⟩:=Option.map_eq_some_iff.mp hw;refine wpAny_getItem_heap (tupleKind_room_in1 hu) (zEg I.hok eb) dd hp ?_;rw [hp2];exact h w' _ (I.tok _) rw'
theorem d_in {Q:Value→Shared→Prop} (hu:A.units + 1 < cLine) (I:Inv X pins σ H s) (g:DGet H a y o) (ry:RelV y u) (h:∀ s',Inv X pins σ H s'→Q (.bool o.isSome) s') :
  wpAny (model X.prog X.w) A (compareOp .In u (.ref a)) Q E s:=by
 rcases g with ⟨kvs,k,e,ey,l⟩ | ⟨kvs,k,b,e,ey,eb,l⟩
 ·subst ey;obtain ⟨z,hd,vs,rel,dd⟩:=zFa I.hok e;refine wpAny_in_of (kV_is ry) hd dd.mapOf ?_;rw [← (rel.val k).isSome_eq,← l];exact h _ (I.tok _)
 ·subst ey;cases (show u=Value.ref b from ry);obtain ⟨z,hd,xs,rel,dd⟩:=dt_rd I.hok e;refine wpAny_in_heap (tupleKind_room_in1 hu) (zEg I.hok eb) hd dd ?_;have q:=(rel.val k).isSome_eq;rw [Option.isSome_map] at q;rw [← q,← l];exact h _ (I.tok _)
theorem d_notIn {Q:Value→Shared→Prop} (hu:A.units + 1 < cLine) (I:Inv X pins σ H s) (g:DGet H a y o) (ry:RelV y u) (h:∀ s',Inv X pins σ H s'→Q (.bool (!o.isSome)) s') :
  wpAny (model X.prog X.w) A (compareOp .NotIn u (.ref a)) Q E s:=by
 rcases g with ⟨kvs,k,e,ey,l⟩ | ⟨kvs,k,b,e,ey,eb,l⟩
 ·subst ey;obtain ⟨z,hd,vs,rel,dd⟩:=zFa I.hok e;refine wpAny_notIn_of (kV_is ry) hd dd.mapOf ?_;rw [← (rel.val k).isSome_eq,← l];exact h _ (I.tok _)
 ·subst ey;cases (show u=Value.ref b from ry);obtain ⟨z,hd,xs,rel,dd⟩:=dt_rd I.hok e;refine wpAny_notIn_heap (tupleKind_room_in1 hu) (zEg I.hok eb) hd dd ?_;have q:=(rel.val k).isSome_eq;rw [Option.isSome_map] at q;rw [← q,← l];exact h _ (I.tok _)
theorem d_write {h':Heap}{t':Nat}{ob:HO} (I:Inv X pins σ H s) (mu:Mut (H a)) (hs:Heap.SameBut a s.heap h') (he:∃ q,h'.get? a=some q) (new:ObjOk X.prog X.w (upd H a ob) h' a ob) :
  Inv X pins σ (upd H a ob) { s with heap:=h',toks:=t' } :=
 I.write (x:=a) (e:=a) mu (.inl rfl) (fun b q hb z=>(hs.2 b hb).trans z) he new
theorem dk_new {P:Program}{w:World}{H':Hp}{h':Heap}{kvs:List (Key×V)}{vs:List (Key×Value)} (z:kvs.length≤sizeLine) (hd:(a == sysModules)=false) (rel:KV kvs vs) (dd:h'.DictOf (mixKind P w) a vs) :
  ObjOk P w H' h' a (.dK kvs):=⟨z,hd,vs,rel,dd⟩
theorem d_setItem {H':Hp}{Q:Unit→Shared→Prop} (hu:A.units + 1 < cLine) (I:Inv X pins σ H s) (g:DPut H a y v H') (ry:RelV y u) (rv:RelV v r) (h:∀ s',Inv X pins σ H' s'→Q () s') :
  wpAny (model X.prog X.w) A (setItem (.ref a) u r) Q E s:=by
 rcases g with ⟨kvs,k,e,ey,l,eH⟩ | ⟨kvs,k,b,e,ey,eb,l,eH⟩
 ·subst ey eH;obtain ⟨z,hd,vs,rel,dd⟩:=dk_of I.hok e;have hz:vs.length≤sizeLine:=by rw [← rel.length];exact z
  have hl:(putK kvs k v).length≤sizeLine:=by have:=zE2 kvs k v;omega
  refine wpAny_setItem_pairs (hsz:=hz) (kV_is ry) dd fun h' dd' hs=>h _ ?_;have he:∃ q,h'.get? a=some q:=let ⟨q,_,_,hq,_⟩:=dd';⟨q,hq⟩;exact d_write I (by rw [e];exact True.intro) hs he (dk_new hl hd (rel.put k rv) dd')
 ·subst ey eH;cases (show u=Value.ref b from ry);obtain ⟨z,hd,xs,rel,dd⟩:=dt_of I.hok e;have hz:xs.length≤sizeLine:=by rw [← Paired.length rel];exact z
  have hl:(putK kvs k v).length≤sizeLine:=by have:=zE2 kvs k v;omega
  refine wpAny_setItem_heap (hsz:=hz) (tupleKind_room_in1 hu) (zEg I.hok eb) dd fun h' dd' hs=>h _ ?_;obtain ⟨q,es,ep,hq,h2,h3,h4,_,h5⟩:=dd';refine d_write I (by rw [e];exact True.intro) hs ⟨q,hq⟩ ⟨hl,hd,_,(rel.put k eb rv).keeps fun c ys ec=>?_,q,es,ep,hq,h2,h3,h4,h5⟩;rw [zA9 (ne_of ec e (fun z=>nomatch z))];exact ec
end
section
variable {X:Cx}{pins:List (Addr×Obj)}{σ : St}{H:Hp}{s:Shared}{a:Addr}{kvs:List (Key×V)}{k:Key}{u:Value}{A:Around}{E:Value→Shared→Prop}
theorem d_len {Q:Value→Shared→Prop} (I:Inv X pins σ H s) (e:Rd H a (.dK kvs)) (h:∀ t s',Inv X pins σ H s'→Q (.int kvs.length t) s'):wpAny (model X.prog X.w) A (call (.builtin "len") [.ref a]) Q E s:=by
 obtain ⟨z,hd,vs,rel,dd⟩:=zFa I.hok e;refine call_len_dict hd dd (by rw [← rel.length];rw [sizeLine_eq] at z;omega) ?_;rw [← rel.length];exact h _ _ (I.tok _)
end
noncomputable def NoSl (i:Expr):Prop:=∀ ov iv,subscripted i false ov iv=operate [ov,iv] (getItem ov iv)
theorem subD_of {prog:Program}{w:World}{A:Around}{E:Value→Shared→Prop}{s:Shared}{env:Env}{value slice:Expr}{pos:Pos}{T id:String}{Q:Value→Shared→Prop}
  (hl:typeLookup (.type T) "__getitem__" = pure (some (.builtin id))) (hs:NoSl slice)
  (h:wpAny (model prog w) A (eval value env) (fun o s₁=>wpAny (model prog w) A (eval slice env) (fun i s₂=>s₂.TypeIs o T∧wpAny (model prog w) A (getItem o i) Q E s₂) E s₁) E s) :
  wpAny (model prog w) A (eval (.Subscript value slice pos) env) Q E s:=by
 refine Subscript_ (wpAny_mono h (fun o s₁ h₁=>wpAny_mono h₁ (fun i s₂ h₂=>?_) fun _ _ x=>x) fun _ _ x=>x);obtain ⟨hT,h₂⟩:=h₂;unfold subscriptTail;refine wpAny_bind ?_;rw [getitemInPython_of_ne hT.not_modules];refine wpAny_bind (wpAny_specialOf hT hl ?_);have fin:wpAny (model prog w) A (subscripted slice false o i) (fun r s₃=>wpAny (model prog w) A (letTemporaryGo value o r >>= fun _=>pure r) Q E s₃) E s₂:=by
  rw [hs o i];exact wpAny_operating (wpAny_mono h₂ (fun r s₃ h₃=>wpAny_bind (wpAny_letTemporaryGo (wpAny_pure h₃))) fun _ _ x=>x)
 first
  | exact wpAny_pure (wpAny_bind fin)
  | exact wpAny_bind (wpAny_pure (wpAny_bind fin))
  | exact wpAny_bind fin
theorem dict_typeIs {X:Cx}{pins:List (Addr×Obj)}{σ : St}{H:Hp}{s:Shared}{a:Addr}{y:V}{o:Option V} (I:Inv X pins σ H s) (g:DGet H a y o):s.TypeIs (.ref a) "dict":=by
 rcases g with ⟨kvs,k,e,_,_⟩ | ⟨kvs,k,b,e,_,_,_⟩
 ·obtain ⟨_,_,vs,_,dd⟩:=zFa I.hok e;exact dd.typeIs
 ·obtain ⟨_,_,xs,_,dd⟩:=dt_rd I.hok e;exact dd.typeIs
noncomputable def tDGet (td ty:TE):TE:=fun σ H Q=>td σ H fun x H1=>ty σ H1 fun y H2=>∃ a v,x=.ref a∧DGet H2 a y (some v)∧Q v H2
noncomputable def tDIn (ty td:TE):TE:=fun σ H Q=>ty σ H fun y H1=>td σ H1 fun x H2=>∃ a o,x=.ref a∧DGet H2 a y o∧Q (.bl o.isSome) H2
noncomputable def tDNotIn (ty td:TE):TE:=fun σ H Q=>ty σ H fun y H1=>td σ H1 fun x H2=>∃ a o,x=.ref a∧DGet H2 a y o∧Q (.bl (!o.isSome)) H2
noncomputable def sDPut (td ty tv:TE):TS:=fun D σ H=>tv σ H fun v H1=>td σ H1 fun x H2=>ty σ H2 fun y H3=>∃ a H4,x=.ref a∧DPut H3 a y v H4∧D.nx σ H4
section
variable {X:Cx}{o i e value:Expr}{pos pos' tpos:Pos}{td ty tv:TE}
theorem pe_dget (hu:X.A.units + 1 < cLine) (ho:PE X o td) (hi:PE X i ty) (hs:NoSl i):PE X (.Subscript o i pos) (tDGet td ty):=by
 intro pins s σ H Q I h;refine subD_of PySem.F.slot_dict_getitem.lookup hs (thn (ho pins s σ H _ I h) fun u s1 ⟨x,H1,I1,rx,q1⟩=>thn (hi pins s1 σ H1 _ I1 q1) fun iv s2 ⟨y,H2,I2,ry,a,v,ex,g,q2⟩=>?_);subst ex;obtain rfl:u=Value.ref a:=rx;exact ⟨dict_typeIs I2 g,d_getItem hu I2 g ry fun w' s3 I3 rw'=>⟨v,H2,I3,rw',q2⟩⟩
theorem pc_din (hu:X.A.units + 1 < cLine) (hi:PE X i ty) (ho:PE X o td):PC X .In i o (tDIn ty td):=by
 intro pins s σ H Q I h;refine thn (hi pins s σ H _ I h) fun iv s1 ⟨y,H1,I1,ry,q1⟩=>thn (ho pins s1 σ H1 _ I1 q1) fun u s2 ⟨x,H2,I2,rx,a,ov,ex,g,q2⟩=>?_;subst ex;obtain rfl:u=Value.ref a:=rx;exact d_in hu I2 g ry fun s3 I3=>⟨.bl ov.isSome,H2,I3,rfl,q2⟩
theorem zD6 (hu:X.A.units + 1 < cLine) (hi:PE X i ty) (ho:PE X o td):PC X .NotIn i o (tDNotIn ty td):=by
 intro pins s σ H Q I h;refine thn (hi pins s σ H _ I h) fun iv s1 ⟨y,H1,I1,ry,q1⟩=>thn (ho pins s1 σ H1 _ I1 q1) fun u s2 ⟨x,H2,I2,rx,a,ov,ex,g,q2⟩=>?_;subst ex;obtain rfl:u=Value.ref a:=rx;exact d_notIn hu I2 g ry fun s3 I3=>⟨.bl (!ov.isSome),H2,I3,rfl,q2⟩
theorem ps_dput (hu:X.A.units + 1 < cLine) (ho:PE X o td) (hi:PE X i ty) (hv:PE X value tv) (hs:swapsWith value (some (.Subscript o i pos')) pos.line X.env=pure false) :
  PS X (.Assign [.Subscript o i pos'] value pos) (sDPut td ty tv):=by
 intro pins s σ H D I h;refine wpAny_Assign_Subscript (thn (hv pins s σ H _ I h) fun r s1 ⟨v,H1,I1,rv,q1⟩=>thn (ho pins s1 σ H1 _ I1 q1) fun u s2 ⟨x,H2,I2,rx,q2⟩=>thn (hi pins s2 σ H2 _ I2 q2) fun iv s3 ⟨y,H3,I3,ry,a,H4,ex,g,q3⟩=>?_) hs;subst ex;obtain rfl:u=Value.ref a:=rx;exact d_setItem hu I3 g ry rv fun s4 I4=>⟨σ,H4,I4,q3⟩
end
theorem dk_empty {P:Program}{w:World}{H:Hp} (h:Heap) (hb:sysModules < h.objs.size):ObjOk P w H (h.push { cls:=.type "dict",data:=.dict #[] }) h.objs.size (.dK []) :=
 ⟨Zm _,beq_eq_false_iff_ne.mpr (Ne.symm (Zf hb)),[],.nil,Heap.DictOf.new h⟩
noncomputable def tDNewK:TE:=fun _ H Q=>∀ p,H p=none→Q (.ref p) (upd H p (.dK []))
section
variable {X:Cx}{pos:Pos}
theorem zEw:PE X (.Dict [] [] pos) tDNewK:=fun pins s σ H Q I h =>
 wpAny_Dict_empty ⟨.ref s.heap.objs.size,_,I.laid (a:=s.heap.objs.size) (o:=.dK []) (t':=s.toks) (fun _ _ q=>Z1 _ q) (Z7 _) (dk_empty s.heap I.big),rfl,h _ (I.hok.fresh (Z7 _))⟩
end
structure M1 (X:Cx) (o:Expr) (m:Str) (apos:Pos) (e:Expr) (cpos:Pos):Prop where
 base:attributeBase o m X.env (eval o X.env)=eval o X.env
 few:((backTo cpos (starEach [e] X.env)).all (fun x=>!x.1) && (backToKw cpos (keywordEach [] X.env)).all (fun x=>x.1.isSome)
  && decide (([e]:List Expr).length + ([]:List Keyword).length + (if ([]:List Keyword).isEmpty then 0 else 1) < 30))=true
 line:(apos.endLine == cpos.line)=true
 trees:backTo cpos (starEach [e] X.env)=[(false,eval e X.env)]
noncomputable def IsD (H:Hp) (a:Addr):Prop:=(∃ kvs,Rd H a (.dK kvs))∨∃ kvs,Rd H a (.dT kvs)
theorem isD_at {X:Cx}{pins:List (Addr×Obj)}{σ : St}{H:Hp}{s:Shared}{a:Addr} (I:Inv X pins σ H s) (d:IsD H a) :
  s.TypeIs (.ref a) "dict"∧(∀ b,Value.ref a=.ref b→∃ ob,s.heap.get? b=some ob∧ob.dict=none)∧(a == sysModules)=false:=by
 rcases d with ⟨kvs,e⟩ | ⟨kvs,e⟩
 ·obtain ⟨_,hd,vs,_,dd⟩:=zFa I.hok e;refine ⟨dd.typeIs,fun b q=>?_,hd⟩;cases q;obtain ⟨ob,_,_,h1,h2,_⟩:=dd;exact ⟨ob,h1,h2.2.1⟩
 ·obtain ⟨_,hd,xs,_,dd⟩:=dt_rd I.hok e;refine ⟨dd.typeIs,fun b q=>?_,hd⟩;cases q;obtain ⟨ob,_,_,h1,h2,_⟩:=dd;exact ⟨ob,h1,h2.2.1⟩
section
variable {X:Cx}{pins:List (Addr×Obj)}{σ : St}{H:Hp}{s:Shared}{a:Addr}{y d:V}{u r:Value}{o:Option V}{A:Around}{E:Value→Shared→Prop}
theorem d_get1 {Q:Value→Shared→Prop} (hu:A.units + 1 < cLine) (I:Inv X pins σ H s) (g:DGet H a y o) (ry:RelV y u) (h:∀ w' s',Inv X pins σ H s'→RelV (o.getD .non) w'→Q w' s') :
  wpAny (model X.prog X.w) A (call (.builtin "dict.get") [.ref a,u]) Q E s:=by
 rcases g with ⟨kvs,k,e,ey,l⟩ | ⟨kvs,k,b,e,ey,eb,l⟩
 ·subst ey;obtain ⟨z,hd,vs,rel,dd⟩:=zFa I.hok e;refine call_meetsIn PySem.F.slot_dict_get dd.typeIs PySem.F.entry_dict_get (PySem.F.args_dict_get_2 _ _) (meets_dict_get (mixKind X.prog X.w) a (kV_is ry) hd) ⟨_,dd.mapOf,h _ _ (I.tok _) ?_⟩;rw [l];exact (rel.val k).getD rfl
 ·subst ey;cases (show u=Value.ref b from ry);obtain ⟨z,hd,xs,rel,dd⟩:=dt_rd I.hok e;refine call_meetsIn PySem.F.slot_dict_get dd.typeIs PySem.F.entry_dict_get (PySem.F.args_dict_get_2 _ _) (meetsH_dict_get (tupleKind (mixKind X.prog X.w)) a b hd) ⟨tupleKind_room_in1 hu,k,xs,zEg I.hok eb,dd,h _ _ (I.tok _) ?_⟩;rw [l];exact (rel.val k).getD rfl
end
noncomputable def tDGet1 (td ty:TE):TE:=fun σ H Q=>td σ H fun x H1=>∃ a,x=.ref a∧IsD H1 a∧ty σ H1 fun y H2=>∃ o,DGet H2 a y o∧Q (o.getD .non) H2
section
variable {X:Cx}{o e f:Expr}{apos cpos:Pos}{td ty tx:TE}
theorem zEx (hu:X.A.units + 1 < cLine) (ho:PE X o td) (he:PE X e ty) (m:M1 X o "get" apos e cpos):PE X (.Call (.Attribute o "get" apos) [e] [] cpos) (tDGet1 td ty):=by
 intro pins s σ H Q I h;refine wpAny_Call_method m.base m.few m.line PySem.F.plainAttrs_dict PySem.F.slot_dict_get PySem.F.type_dict_get (thn (ho pins s σ H _ I h) fun u s1 ⟨x,H1,I1,rx,a,ex,d,q1⟩=>?_);subst ex;obtain rfl:u=Value.ref a:=rx;obtain ⟨t1,t2,_⟩:=isD_at I1 d;refine ⟨t1,t2,?_⟩;rw [m.trees];refine Calls.callWith_builtin rfl (Calls.evalArgs_plain (Calls.spliced_cons (thn (he pins s1 σ H1 _ I1 q1) fun iv s2 ⟨y,H2,I2,ry,ov,g,q2⟩=>Calls.spliced_nil ?_)));exact d_get1 hu I2 g ry fun w' s3 I3 rw'=>⟨_,H2,I3,rw',q2⟩
end
section
variable {X:Cx}{pins:List (Addr×Obj)}{σ : St}{H:Hp}{s:Shared}{a:Addr}{kvs:List (Key×V)}{A:Around}{E:Value→Shared→Prop}
end
section
variable {X:Cx}{pins:List (Addr×Obj)}{σ : St}{H:Hp}{s:Shared}{a:Addr}{y:V}{u:Value}{A:Around}{E:Value→Shared→Prop}
end
end L2
namespace L2
open PySem PySem.Spec PyProof.Rows
noncomputable def PFs (X:Cx) (ifs:List Expr) (t:TT):Prop :=
 ∀ (pins:List (Addr×Obj)) (s:Shared) (σ : St) (H:Hp) (Q:Bool→Hp→Prop),Inv X pins σ H s→t σ H Q →
  wpAny (model X.prog X.w) X.A (forIn ifs true fun c r=>if r=true then do let ok ← isTrue c X.env (eval c X.env);pure (ForInStep.yield ok) else pure (ForInStep.yield r)) (TP X pins σ Q) X.xe s
noncomputable def tYes:TT:=fun _ H Q=>Q true H
theorem zAy {X:Cx}:PFs X [] tYes:=fun _ _ _ H _ I h=>wpAny_tests_nil ⟨H,I,h⟩
theorem zD4 {X:Cx}{c:Expr}{t:TT} (h:PT X c t):PFs X [c] t:=fun pins s σ H Q I q=>wpAny_tests_one (h pins s σ H Q I q)
section
variable {prog:Program}{w:World}{A:Around}{R:Result→Shared→Prop}
theorem comp_loop {elt tg iter:Expr}{ifs:List Expr}{sc:Scope}{pos:Pos}{it acc:Value}{env:Env} (J:Nat→Shared→Prop) (N:Value→Shared→Prop)
  (hN:N=notedBy (model prog w) A env fun e z=>R (.error e) z)
  (turn:∀ k z,J k z→wpAny (model prog w) A (pyNext it) (fun r z1=>match r with
   | none=>R (.ok .next) z1
   | some v=>wpAny (model prog w) A (letOwnedTupleGo tg it v) (fun _ z2=>wpAny (model prog w) A (assign tg env v) (fun _ z3 =>
     wpAny (model prog w) A (forIn ifs true fun c r=>if r=true then do let ok ← isTrue c env (eval c env);pure (ForInStep.yield ok) else pure (ForInStep.yield r)) (fun ok z4 =>
      if ok=true then wpAny (model prog w) A (eval elt env) (fun y z5=>wpAny (model prog w) A (call (.builtin "list.append") [acc,y]) (fun _ z6=>∃ j,j < k∧J j z6) N z5) N z4
      else ∃ j,j < k∧J j z4) N z3) N z2) N z1) N z)
  {z:Shared} (k:Nat) (h:J k z):codeAny (model prog w) A (.compLoop (.ListComp elt [⟨tg,iter,ifs,0⟩] sc pos) 0 it acc env) R z:=by
 subst hN;refine codeAny_loop rfl J (fun k z hJ=>?_) k h;show wpAny _ A ((compTurn (.ListComp elt [⟨tg,iter,ifs,0⟩] sc pos) 0 it acc env).onRaise (fun x=>do noteFrame x env;theTreesLotGoes x)) _ _ z;refine wpAny_noted ?_;rw [compTurn_list];refine wpAny_bind (wpAny_standAt (wpAny_bind (thn (turn k z hJ) fun r z1 h1=>?_)));cases r with
 | none=>exact wpAny_pure h1
 | some v =>
  refine wpAny_bind (thn h1 fun _ z2 h2=>?_);refine wpAny_bind (thn h2 fun _ z3 h3=>?_);refine wpAny_bind (thn h3 fun ok z4 h4=>?_);cases ok with
  | false=>exact wpAny_pure ⟨rfl,h4⟩
  | true=>exact wpAny_bind (wpAny_bind (thn h4 fun y z5 h5=>wpAny_bind (thn h5 fun _ z6 h6=>wpAny_pure (wpAny_pure ⟨rfl,h6⟩))))
end
noncomputable def cxComp (X:Cx) (sc:Scope) (cl:List (Str×Addr)) (T:List Str) (C:Addr) (s2:Shared) (H2:Hp) (fp:List Addr):Cx where
 prog:=X.prog
 w:=X.w
 K:=X.K
 mg:=X.mg
 base:=X.base
 A:=X.A
 N:=X.N++T
 s₀:=s2
 H₀:=H2
 env:=compEnvC sc cl C X.env
 outer:=X.stack
 stack:=X.stack
 ex:=fp
 fn:=fun _=>false
 calm:=X.calm
 pn:=[]
 xe:=fun _ _=>False
noncomputable def ClOk (X:Cx):List (Str×Addr)→Prop
 | []=>True
 | p :: r=>X.env.cells.lookup p.1=some p.2∧ClOk X r
theorem ClOk.look {X:Cx}:∀ {cl:List (Str×Addr)},ClOk X cl→∀ x c,cl.lookup x=some c→X.env.cells.lookup x=some c
 | [],_,_,_,h=>by cases h
 | p :: r,k,x,c,h=>by
  cases e:x == p.1 with
  | true =>
   rw [Y1,e] at h;have ex:x=p.1:=by simpa using e
   rw [ex,k.1];exact h
  | false =>
   rw [Y1,e] at h;exact ClOk.look k.2 x c h
structure ScOk (X:Cx) (sc:Scope) (cl:List (Str×Addr)) (T:List Str):Prop where
 clos:closureFor sc X.env=pure cl
 cell:∀ y∈sc.names,y.2≠.cell
 kind:sc.kind=.function
 names:∀ x∈sc.names,x.2=.local→sc.names.lookup x.1=some .local
 cls:ClOk X cl
 has:∀ x∈sc.names,x.2=.free→(cl.lookup x.1).isSome=true∧(X.env.scope.names.lookup x.1=some .cell∨X.env.scope.names.lookup x.1=some .free)
 out:∀ x∈X.N,sc.names.lookup x≠some .local
theorem zDc {sc:Scope}{env:Env}{x:Str}{k:NameKind}:∀ {names:List (Str×NameKind)},
  (names.map fun (n,k)=>if (k == NameKind.free && env.scope.kind == .function && env.kindOf n == some .cell) then (n,NameKind.cell) else (n,k)).lookup x=some k →
  ∃ j,(x,j)∈names∧names.lookup x=some j∧(j=k∨(j=.free∧k=.cell))
 | [],h=>by cases h
 | (n,j) :: r,h=>by
  cases e:x == n with
  | true =>
   have ex:x=n:=by simpa using e
   subst ex;refine ⟨j,Zg,by rw [Y1,e],?_⟩;have h':List.lookup x ((if (j == NameKind.free && env.scope.kind == .function && env.kindOf x == some .cell)=true then (x,NameKind.cell) else (x,j)) :: _)=some k:=h;by_cases c:(j == NameKind.free && env.scope.kind == .function && env.kindOf x == some .cell)=true
   ·rw [if_pos c,Y1,e] at h';have c1:(j == NameKind.free)=true:=by
     cases q:(j == NameKind.free) with
     | true=>rfl
     | false=>rw [q] at c;simp at c
    exact .inr ⟨by simpa using c1,(Zk h').symm⟩
   ·rw [if_neg c,Y1,e] at h';exact .inl (Zk h')
  | false =>
   have h':List.lookup x ((if (j == NameKind.free && env.scope.kind == .function && env.kindOf n == some .cell)=true then (n,NameKind.cell) else (n,j)) :: _)=some k:=h;have h2:(List.map (fun (n,k)=>if (k == NameKind.free && env.scope.kind == .function && env.kindOf n == some .cell) then (n,NameKind.cell) else (n,k)) r).lookup x=some k:=by
    by_cases c:(j == NameKind.free && env.scope.kind == .function && env.kindOf n == some .cell)=true
    ·rw [if_pos c,Y1,e] at h';exact h'
    ·rw [if_neg c,Y1,e] at h';exact h'
   obtain ⟨i,m,l,q⟩:=zDc (sc:=sc) (env:=env) h2;exact ⟨i,Zb _ m,by rw [Y1,e];exact l,q⟩
section
variable {X:Cx}{sc:Scope}{cl:List (Str×Addr)}{T:List Str}
theorem ScOk.seen (S:ScOk X sc cl T) {C:Addr}{x:Str} (h:(compEnvC sc cl C X.env).scope.names.lookup x=some .cell∨(compEnvC sc cl C X.env).scope.names.lookup x=some .free) :
  (∃ c,cl.lookup x=some c)∧(X.env.scope.names.lookup x=some .cell∨X.env.scope.names.lookup x=some .free):=by
 have key:∀ k,(k=.cell∨k=.free)→(relabel sc X.env).names.lookup x=some k→(∃ c,cl.lookup x=some c)∧(X.env.scope.names.lookup x=some .cell∨X.env.scope.names.lookup x=some .free):=by
  intro k hk h;obtain ⟨j,m,l,q⟩:=zDc (sc:=sc) (env:=X.env) h;have jf:j=.free:=by
   rcases q with rfl | ⟨q,_⟩
   ·rcases hk with rfl | rfl
    ·exact absurd rfl (S.cell _ m)
    ·rfl
   ·exact q
  subst jf;obtain ⟨a,b⟩:=S.has _ m rfl;exact ⟨Option.isSome_iff_exists.mp a,b⟩
 rcases h with h | h
 ·exact key _ (.inl rfl) h
 ·exact key _ (.inr rfl) h
theorem ScOk.local_out (S:ScOk X sc cl T) {C:Addr}{x:Str} (hx:x∈X.N):(compEnvC sc cl C X.env).scope.names.lookup x≠some .local:=by
 intro h;obtain ⟨j,m,l,q⟩:=zDc (sc:=sc) (env:=X.env) h;rcases q with rfl | ⟨_,q⟩
 ·exact S.out x hx l
 ·cases q
variable {pins:List (Addr×Obj)}{σ : St}{H:Hp}{s:Shared}{fp:List Addr}{C:Addr}
theorem comp_ok (S:ScOk X sc cl T) (I:Inv X pins σ H s) (hf:∀ b∈fp,FpOk X pins H b) (hl:∀ b∈fp,b < s.heap.objs.size) (hC:s.heap.objs.size≤C):(cxComp X sc cl T C s H fp).Ok where
 mod:=I.ok.mod
 kind:=S.kind
 glob:=I.ok.glob
 blt:=I.ok.blt
 above:=hC
 inj:=fun x y c h1 h2=>I.ok.inj x y c (S.cls.look x c h1) (S.cls.look y c h2)
 has:=fun x hx=>(S.seen hx).1
 cab:=fun x c h=>by cases h
 hd:=I.ok.hd
 frames:=I.ok.frames
 stk:=.inl rfl
 exf:=fun b hb=>⟨Zf (Z8 (hl b hb) hC),fun x c h=>(hf b hb).2.2.2.2.1 x c (S.cls.look x c h)⟩
 bs:=I.bs
 bsz:=Zo I.ok.bsz I.sz
 noex:=fun b o e hb=>by
  rcases (hf b hb).2.2.2.1 with z | z
  ·exact I.ok.noex b o e z
  ·exact absurd (Z8 (Zd e) (Zo I.ok.bsz z)) (Yl _)
 exfs:=fun b hb z=>by
  rcases List.mem_cons.mp (I.stkSub b z) with e | e
  ·exact (hf b hb).2.1 e
  ·exact (hf b hb).2.2.1 e
 funs:=I.stack
 frf:=I.stkFree
theorem comp_inv (S:ScOk X sc cl T) (I:Inv X pins σ H s) (hf:∀ b∈fp,FpOk X pins H b) (hl:∀ b∈fp,b < s.heap.objs.size) (hC:s.heap.objs.size≤C) {h1:Heap}{m:Str→Option Value}{t1:Nat}
  (k:∀ b o,s.heap.get? b=some o→h1.get? b=some o) (hn:h1.Ns C m):Inv (cxComp X sc cl T C s H fp) [] (σ++List.replicate T.length none) H { s with heap:=h1,toks:=t1 } where
 ok:=comp_ok S I hf hl hC
 os:=rfl
 bare:=I.bare
 base:=Un.kept k
 loc:=by
  refine ⟨m,hn,fun i x v e1 e2 e3=>?_⟩;have hi:i < σ.length:=by
   by_cases hi:i < σ.length
   ·exact hi
   ·rw [Zt (Nat.not_lt.mp hi),List.getElem?_replicate] at e2;split at e2 <;> cases e2
  rw [Zn hi] at e2;have e1':X.N[i]? = some x:=by
   have e:(X.N++T)[i]? = some x:=e1
   rwa [Zn (by rw [← I.len];exact hi)] at e
  have hx:x∈X.N:=Z3 e1';have e3':(compEnvC sc cl C X.env).scope.names.lookup x=some .cell∨(compEnvC sc cl C X.env).scope.names.lookup x=some .free:=by
   rcases e3 with z | z | z
   ·exact absurd z (S.local_out hx)
   ·exact .inl z
   ·exact .inr z
  obtain ⟨⟨c,hc⟩,ko⟩:=S.seen e3';obtain ⟨m0,hn0,hl0⟩:=I.loc;obtain ⟨u,r,l⟩:=hl0 i x v e1' e2 (.inr ko);refine ⟨u,r,.inr ⟨e3',c,hc,?_⟩⟩;have hc':=S.cls.look x c hc;rcases l with ⟨kl,_⟩ | ⟨_,c',hc2,z⟩
  ·have kl':X.env.scope.names.lookup x=some .local:=kl;rcases ko with q | q
   ·rw [q] at kl';cases kl'
   ·rw [q] at kl';cases kl'
  ·rw [hc'] at hc2;cases hc2;obtain ⟨o,ho,hd⟩:=z;exact ⟨o,k _ _ ho,hd⟩
 cell:=fun x c hc=>by
  obtain ⟨v,o,ho,hd⟩:=I.cell x c (S.cls.look x c hc);exact ⟨v,o,k _ _ ho,hd⟩
 free:=I.hok.fresh hC
 freeC:=fun x c hc=>I.freeC x c (S.cls.look x c hc)
 pin:=fun p hp=>absurd (show p∈([]:List (Addr×Obj)) from hp) (by simp)
 hok:=I.hok.kept k
 len:=by
  show (σ++List.replicate T.length none).length=(X.N++T).length;rw [Zc,Zc,Zp,I.len]
theorem comp_out (S:ScOk X sc cl T) (I:Inv X pins σ H s) (hf:∀ b∈fp,FpOk X pins H b) {D:Addr} (hD:s.heap.objs.size≤D) (hC:s.heap.objs.size≤C) (hDC:D≠C) {s1:Shared}{H1:Hp}{σ1:St}{p1:List (Addr×Obj)}{ys:List V}{its:List Value}
  (J:Inv (cxComp X sc cl T C s H fp) p1 σ1 H1 s1) (hH:H1 D=none) (rv:Vals ys its) (hz:ys.length≤sizeLine) (hget:s1.heap.get? D=some (LCg.lst its)) :
  Inv X pins σ (upd H1 D (.lst ys)) s1:=by
 have fD:H D=none:=I.hok.fresh hD;have nD:∀ b o,s.heap.get? b=some o→b≠D:=fun b o e=>Zf (Z8 (Zd e) hD);refine I.call' (ch:=fp) J.os ⟨fun b o e n hb hx=>J.base.keep b o e n hb hx,fun b o e n hb hx=>J.base.slot b o e n hb hx,fun b o e n hx=>?_,fun b o e hx=>J.base.there b o e hx,fun b xs e=>?_,fun b o u e=>?_,fun b ps e=>?_⟩ (fun b u e=>?_) J.bare fun b hb=>⟨(hf b hb).2.2.2.1,(hf b hb).2.1,(hf b hb).2.2.2.2.1,(hf b hb).2.2.2.2.2⟩
 ·rw [zA9 (nD b o e)];exact J.base.free b o e n hx
 ·rw [zA9 (zA7 e fD)];exact J.base.tups b xs e
 ·rw [zA9 (zA7 e fD)];exact J.base.frzs b o u e
 ·rw [zA9 (zA7 e fD)];exact J.base.tbls b ps e
 ·by_cases hb:b=D
  ·subst hb;rw [zA1] at e;cases e;exact ⟨hz,its,its.length,rv,hget⟩
  ·rw [zA9 hb] at e;exact (J.hok b u e).stay (fun c v _ q=>q) (fun c q=>by rw [zA9 (zA7 q hH)];exact q) fun c xs q=>by rw [zA9 (zA7 q hH)];exact q
end
noncomputable def CompGoal (J:It) (k:Nat) (σ : St) (H1:Hp) (g:TG) (tt:TT) (te:TE) (Q:VK):Prop:=∃ W:Nat→Nat→List V→Hp→Prop,(∃ m,W 0 m [] H1)∧∀ i m ys H,W i m ys H →
 (J.stop i H∧ys.length≤sizeLine∧∀ p,H p=none→Q (.ref p) (upd H p (.lst ys))) ∨
 (J.go i H∧ys.length≤sizeLine∧∀ x H',J.yld i H x H'→g x (σ++List.replicate k none) H' fun σ2 H2=>tt σ2 H2 fun b H3 =>
  if b=true then te σ2 H3 fun y H4=>∃ m',m' < m∧W (i + 1) m' (ys++[y]) H4 else ∃ m',m' < m∧W (i + 1) m' ys H3)
noncomputable def tComp (k:Nat) (wi:TI) (g:TG) (tt:TT) (te:TE):TE:=fun σ H Q=>wi σ H fun J H1=>CompGoal J k σ H1 g tt te Q
section
variable {X:Cx}{elt tg iter:Expr}{ifs:List Expr}{sc:Scope}{pos:Pos}{cl:List (Str×Addr)}{T:List Str}{wi:TI}{g:TG}{tt:TT}{te:TE}
theorem zDp {pins:List (Addr×Obj)}{σ : St}{s2:Shared}{H2:Hp}{Q:VK}{E:Value→Shared→Prop}{R:Value→Addr→Result→Shared→Prop}{it:Addr}{fp:List Addr}{tn:Nat→Heap→Prop}{J:It}
  {Φ : Cx→Prop} (hc:∀ C s H fp,Φ (cxComp X sc cl T C s H fp)) (S:ScOk X sc cl T)
  (hg:∀ C s H fp,PG (cxComp X sc cl T C s H fp) tg g) (hf:∀ C s H fp,PFs (cxComp X sc cl T C s H fp) ifs tt) (he:∀ C s H fp,PE (cxComp X sc cl T C s H fp) elt te)
  (I:Inv X pins σ H2 s2) (TT':TurnP Φ X.prog X.w X.K tg J fp it tn) (st:tn 0 s2.heap) (f2:∀ b∈fp,FpOk X pins H2 b)
  (W:Nat→Nat→List V→Hp→Prop) (m0:Nat) (w0:W 0 m0 [] H2)
  (turn:∀ i m ys H,W i m ys H→(J.stop i H∧ys.length≤sizeLine∧∀ p,H p=none→Q (.ref p) (upd H p (.lst ys))) ∨
   (J.go i H∧ys.length≤sizeLine∧∀ x H',J.yld i H x H'→g x (σ++List.replicate T.length none) H' fun σ2 H2=>tt σ2 H2 fun b H3 =>
    if b=true then te σ2 H3 fun y H4=>∃ m',m' < m∧W (i + 1) m' (ys++[y]) H4 else ∃ m',m' < m∧W (i + 1) m' ys H3))
  (hR:∀ (D C:Addr) (s1:Shared) (H1:Hp) (m:Str→Option Value),Inv X pins σ H1 s1→H1 C=none→C≠X.env.locals→X.s₀.heap.objs.size≤C→(∀ x c,X.env.cells.lookup x=some c→c≠C)→(∀ p∈X.pn++pins,p.1≠C) →
   s1.heap.Ns C m→Q (.ref D) H1→R (.ref D) C (.ok .next) s1) :
  wpAny (model X.prog X.w) X.A (newList []) (fun acc s₃=>wpAny (model X.prog X.w) X.A (newFunctionEnv sc X.env.globals cl [] X.env.qual none .none (some X.env)) (fun cenv s₄ =>
   codeAny (model X.prog X.w) X.A (.compStart (.ListComp elt [⟨tg,iter,ifs,0⟩] sc pos) 0 (.ref it) acc { cenv with scope:=relabel sc X.env }) (R acc cenv.locals) s₄) E s₃) E s2:=by
 refine wpAny_newObj_type (wpAny_newFunctionEnv S.cell (by intro y hy;simp at hy) (fun h1 hn1 sb1=>?_) S.kind);dsimp only at hn1 sb1 ⊢;generalize hH:s2.heap.push { cls:=.type "list",dict:=none,data:=.seq ([]:List Value).toArray }=G at hn1 sb1 ⊢;have hC:G.objs.size=s2.heap.objs.size + 1:=by rw [← hH,Yi]
 have hDC:s2.heap.objs.size≠G.objs.size:=by rw [hC];exact Zf (Yk _)
 have hCle:s2.heap.objs.size≤G.objs.size:=by rw [hC];exact Nat.le_succ _
 have old:∀ b o,s2.heap.get? b=some o→h1.get? b=some o:=fun b o e=>by
  exact sb1.extBut b o (Zf (Z8 (Zd e) hCle)) (Z1 _ (hH ▸ Z1 _ e))
 have hacc:h1.get? s2.heap.objs.size=some (LCg.lst []):=sb1.extBut _ _ hDC (Z1 _ (hH ▸ Zh _ rfl));have fl:∀ b∈fp,b < s2.heap.objs.size:=fun b hb=>by
  obtain ⟨o,e,_⟩:=TT'.obj _ _ st b hb;exact Zd e
 have DS:s2.heap.objs.size∉frs X.stack:=fun z=>by
  rcases List.mem_cons.mp (I.stkSub _ z) with e | e
  ·exact Zf I.lt e.symm
  ·exact I.nofs (Z7 _) e
 have keepT:∀ (i:Nat) (h h':Heap),tn i h→(∀ b o,b < s2.heap.objs.size→h.get? b=some o→h'.get? b=some o)→tn i h':=fun i h h' z k=>TT'.keep i h h' z fun b hb o e=>k b o (fl b hb) e;have fpo:∀ {H':Hp}{pl:List (Addr×Obj)},(∀ b∈fp,H' b=none)→(∀ p∈pl,s2.heap.objs.size≤p.1)→∀ b∈fp,FpOk (cxComp X sc cl T G.objs.size s2 H2 fp) pl H' b:=fun {H' pl} hn hp b hb=>by
  refine ⟨hn b hb,fun z=>?_,fun z=>?_,.inl hb,fun x c h=>(f2 b hb).2.2.2.2.1 x c (S.cls.look x c h),fun p hp' z=>?_⟩
  ·exact Zf (Z8 (fl b hb) hCle) z
  ·rcases List.mem_cons.mp (I.stkSub b z) with e | e
   ·exact (f2 b hb).2.1 e
   ·exact (f2 b hb).2.2.1 e
  ·exact Zf (Z8 (fl b hb) (hp p (show p∈pl from hp'))) z.symm
 let Y:=cxComp X sc cl T G.objs.size s2 H2 fp
 have loop:∀ z:Shared,z={ s2 with heap:=h1,toks:=s2.toks + ([]:List (Str×Value)).length } →
   codeAny (model X.prog X.w) X.A (.compLoop (.ListComp elt [⟨tg,iter,ifs,0⟩] sc pos) 0 (.ref it) (.ref s2.heap.objs.size) (compEnvC sc cl G.objs.size X.env)) (R (.ref s2.heap.objs.size) G.objs.size) z:=by
  rintro z rfl;refine comp_loop (fun n z=>∃ i ys its H',Inv Y [] (σ++List.replicate T.length none) H' z∧tn i z.heap∧(∀ b∈fp,H' b=none)∧H' s2.heap.objs.size=none∧Vals ys its∧z.heap.get? s2.heap.objs.size=some (LCg.lst its)∧W i n ys H') _ rfl ?_ m0
   ⟨0,[],[],H2,comp_inv S I f2 fl hCle old hn1,TT'.keep _ _ _ st fun b hb o e=>old b o e,fun b hb=>(f2 b hb).1,I.hok.fresh (Z7 _),.nil,hacc,w0⟩
  rintro n z ⟨i,ys,its,H',IY,stz,frz,fD,rv,hget,wz⟩;have IP:Inv Y [(s2.heap.objs.size,LCg.lst its)] (σ++List.replicate T.length none) H' z:=IY.pins_of fun p hp=>by
   have e:p=(s2.heap.objs.size,LCg.lst its):=by simpa using hp
   subst e;exact ⟨hget,fD,hDC,DS,fun v q=>by cases (show Data.seq _ _=Data.cell v from q)⟩
  have hpl:∀ p∈[(s2.heap.objs.size,LCg.lst its)],s2.heap.objs.size≤p.1:=fun p hp=>by
   have e:p=(s2.heap.objs.size,LCg.lst its):=by simpa using hp
   subst e;exact Z7 _
  rcases turn i n ys H' wz with ⟨stop,hz,q⟩ | ⟨go,hz,step⟩
  ·refine thn (TT'.done Y rfl rfl rfl (hc _ _ _ _) i _ z _ H' _ IP (fpo frz hpl) stz stop) fun r z1 ⟨hr,I1⟩=>?_;subst hr;have g1:z1.heap.get? s2.heap.objs.size=some (LCg.lst its):=(I1.pin (s2.heap.objs.size,LCg.lst its) (by simp [Y,cxComp])).1;obtain ⟨mC,hnC,_⟩:=I1.loc;have out:=comp_out S I f2 (Z7 _) hCle hDC I1 fD rv hz g1;refine hR _ _ z1 _ mC out ?_ ?_ ?_ ?_ ?_ hnC (q _ fD)
   ·rw [zA9 (Ne.symm hDC)];exact I1.free
   ·exact (Zf (Z8 I.lt hCle)).symm
   ·exact Zo I.sz hCle
   ·intro x c hcc;obtain ⟨v,zc⟩:=I.cell x c hcc;exact Zf (Z8 zc.lt hCle)
   ·intro p hp;exact Zf (Z8 (Zd (I.pin p hp).1) hCle)
  ·refine thn (TT'.item Y rfl rfl rfl (hc _ _ _ _) i _ z _ H' _ IP (fpo frz hpl) stz go) fun r z1 ⟨u,hr,h1'⟩=>?_;subst hr;refine thn h1' fun _ z2 ⟨x,H3,I3,r3,y3,st3,fr3⟩=>?_;have I3':=I3.pinned (fpo fr3 hpl) (TT'.obj _ _ st3);have fin:∀ {H':Hp}{σ':St}{z':Shared},Inv Y ([(s2.heap.objs.size,LCg.lst its)]++pinsAt fp z2.heap) σ' H' z'→tn (i + 1) z'.heap∧(∀ b∈fp,H' b=none)∧H' s2.heap.objs.size=none∧z'.heap.get? s2.heap.objs.size=some (LCg.lst its):=fun {H' σ' z'} I'=>by
    have a1:∀ b∈fp,∀ o,z2.heap.get? b=some o→z'.heap.get? b=some o∧H' b=none:=fun b hb o e =>
     let p:=I'.pin (b,o) (Zv _ (Zv _ (zDg hb e)))
     ⟨p.1,p.2.1⟩
    have a2:=I'.pin (s2.heap.objs.size,LCg.lst its) (Zv _ (by simp))
    exact ⟨TT'.keep _ _ _ st3 fun b hb o e=>(a1 b hb o e).1,fun b hb=>by
     obtain ⟨o,e,_⟩:=TT'.obj _ _ st3 b hb
     exact (a1 b hb o e).2,a2.2.1,a2.1⟩
   have bare:∀ {H':Hp}{σ':St}{z':Shared},Inv Y ([(s2.heap.objs.size,LCg.lst its)]++pinsAt fp z2.heap) σ' H' z'→Inv Y [] σ' H' z':=fun I'=>I'.pins_of fun p hp=>absurd hp (by simp);refine wpAny_mono (hg G.objs.size s2 H2 fp _ z2 _ H3 x u _ I3' r3 (step x H3 y3)) (fun _ z3 ⟨σ4,H4,I4,q4⟩=>?_) fun _ _ e=>e.elim;refine wpAny_mono (hf G.objs.size s2 H2 fp _ z3 _ H4 _ I4 q4) (fun ok z4 ⟨H5,I5,q5⟩=>?_) fun _ _ e=>e.elim;have lenσ : ∀ {H':Hp}{σ':St}{z':Shared}{pl},Inv Y pl σ' H' z'→(σ++List.replicate T.length none).length = σ'.length:=fun I'=>by rw [I'.len];exact IY.len
   have weak:∀ {H':Hp}{z':Shared},Inv Y [] σ4 H' z'→Inv Y [] (σ++List.replicate T.length none) H' z':=fun {H' z'} I'=>by
    have c0:=comp_inv (T:=T) (t1:=z'.toks) S I f2 fl hCle old hn1;obtain ⟨m',hn',hl'⟩:=I'.loc;obtain ⟨_,_,hl0⟩:=I.loc;refine ⟨I'.ok,I'.os,I'.bare,I'.base,⟨m',hn',fun j x v e1 e2 e3=>?_⟩,I'.cell,I'.free,I'.freeC,I'.pin,I'.hok,(lenσ I').trans I'.len⟩;have hj:j < σ.length:=by
     by_cases hj:j < σ.length
     ·exact hj
     ·rw [Zt (Nat.not_lt.mp hj),List.getElem?_replicate] at e2;split at e2 <;> cases e2
    have e2':=e2;rw [Zn hj] at e2';have e1':X.N[j]? = some x:=by
     have e:(X.N++T)[j]? = some x:=e1
     rwa [Zn (by rw [← I.len];exact hj)] at e
    have hx:x∈X.N:=Z3 e1';have e3':(compEnvC sc cl G.objs.size X.env).scope.names.lookup x=some .cell∨(compEnvC sc cl G.objs.size X.env).scope.names.lookup x=some .free:=by
     rcases e3 with z | z | z
     ·exact absurd z (S.local_out hx)
     ·exact .inl z
     ·exact .inr z
    obtain ⟨⟨c,hc'⟩,ko⟩:=S.seen e3';obtain ⟨u,r,l⟩:=hl0 j x v e1' e2' (.inr ko);have hcX:=S.cls.look x c hc';refine ⟨u,r,.inr ⟨e3',c,hc',?_⟩⟩;rcases l with ⟨kl,_⟩ | ⟨_,c',hc2,zc⟩
    ·have kl':X.env.scope.names.lookup x=some .local:=kl;rcases ko with q | q
     ·rw [q] at kl';cases kl'
     ·rw [q] at kl';cases kl'
    ·rw [hcX] at hc2;cases hc2;obtain ⟨o,ho,hd⟩:=zc;have nfp:c∉fp:=fun hb=>(f2 c hb).2.2.2.2.1 x c hcX rfl;obtain ⟨sl,e⟩:=I'.base.any ho (I.freeC x c hcX) nfp;exact ⟨_,e,hd⟩
   cases ok with
   | false =>
    rw [if_neg Ze] at q5 ⊢;obtain ⟨m',hm,w'⟩:=q5;obtain ⟨b1,b2,b3,b4⟩:=fin I5;exact ⟨m',hm,i + 1,ys,its,H5,weak (bare I5),b1,b2,b3,rv,b4,w'⟩
   | true =>
    rw [if_pos rfl] at q5 ⊢;refine wpAny_mono (he G.objs.size s2 H2 fp _ z4 _ H5 _ I5 q5) (fun y z5 ⟨yv,H6,I6,r6,q6⟩=>?_) fun _ _ e=>e.elim;obtain ⟨m',hm,w'⟩:=q6;obtain ⟨b1,b2,b3,b4⟩:=fin I6;refine append_at (hsz:=by show its.toArray.size≤sizeLine;rw [Z9,← rv.length];exact hz) b4 fun h6 sb6 g6=>?_
    have I7:Inv Y [] (σ++List.replicate T.length none) H6 { z5 with heap:=h6 }:=(weak (bare I6)).turned (t':=z5.toks) (it:=s2.heap.objs.size) (fun b o hb e=>(sb6.2 b hb).trans e) b3 hDC (.inr (Z7 _)) (fun x c h=>by
     obtain ⟨v,zc⟩:=I.cell x c (S.cls.look x c h)
     exact Zf zc.lt) fun p hp=>absurd (show p∈([]:List (Addr×Obj)) from hp) (by simp)
    refine ⟨m',hm,i + 1,ys++[yv],its++[y],H6,I7,keepT _ _ _ b1 fun b o hb e=>(sb6.2 b (Zf hb)).trans e,b2,b3,rv.append (.cons r6 .nil),g6.trans (congrArg some (LCg.lst_snoc its y)),w'⟩
 exact codeAny_compStart_list (loop _ rfl) (TT'.self _ 0 _ _ _ (TT'.keep _ _ _ st fun b hb o e=>old b o e) (loop _ rfl))
theorem zAt (hc:X.calm=true) (S:ScOk X sc cl T) (hi:PI X tg iter wi)
  (hg:∀ C s H fp,PG (cxComp X sc cl T C s H fp) tg g) (hf:∀ C s H fp,PFs (cxComp X sc cl T C s H fp) ifs tt) (he:∀ C s H fp,PE (cxComp X sc cl T C s H fp) elt te)
  (hs:∀ x,foldedSetIterable iter X.env x=pure x:=by intro _;rfl):PE X (.ListComp elt [⟨tg,iter,ifs,0⟩] sc pos) (tComp T.length wi g tt te):=by
 intro pins s σ H Q I h;rw [eval_ListComp];refine wpAny_comprehension_free (use:=none) rfl hs S.clos S.kind S.names (thn (hi pins s σ H _ I h) fun v s1 h1=>thn h1 fun itv s2 h2=>?_);obtain ⟨it,fp,tn,J,H2,e,I2,TT',st2,f2,W,⟨m0,w0⟩,turn⟩:=h2;subst e;refine zDp (Q:=Q) (fun _ _ _ _=>hc) S hg hf he I2 TT' st2 f2 W m0 w0 turn fun D C z H1 m I1 n1 n2 n3 n4 n5 hn q=>?_;exact ⟨m,hn,fun h' sb=>⟨.ref D,H1,I1.turned (t':=z.toks) (it:=C) (fun b o hb e=>(sb.2 b hb).trans e) n1 n2 (.inr n3) n4 n5,rfl,q⟩⟩
theorem zB4 {i:Nat}{y:Str}{py spos:Pos} (hc:X.calm=true) (S:ScOk X sc cl T) (hi:PI X tg iter wi)
  (hg:∀ C s H fp,PG (cxComp X sc cl T C s H fp) tg g) (hf:∀ C s H fp,PFs (cxComp X sc cl T C s H fp) ifs tt) (he:∀ C s H fp,PE (cxComp X sc cl T C s H fp) elt te)
  (hN:X.N.Nodup) (hix:X.N[i]? = some y) (hx:X.env.scope.names.lookup y=some .local)
  (hsw:swapsWith (.ListComp elt [⟨tg,iter,ifs,0⟩] sc pos) (some (.Name y py)) spos.line X.env=pure true)
  (hs:∀ x,foldedSetIterable iter X.env x=pure x:=by intro _;rfl) :
  PS X (.Assign [.Name y py] (.ListComp elt [⟨tg,iter,ifs,0⟩] sc pos) spos) (tAsg (tComp T.length wi g tt te) (gName i)):=by
 intro pins s σ H D I h;rw [exec_Assign_Name_used _ _ _ _ hsw];refine wpAny_bind (wpAny_standAt (wpAny_bind ?_));show wpAny _ X.A (do let _ ← comprehension (.ListComp elt [⟨tg,iter,ifs,0⟩] sc pos) sc X.env _ (newList []) false (eval iter X.env) (some (assign (.Name y py) X.env))) _ _ s;refine wpAny_bind (thn (wpAny_comprehension_free (use:=some (assign (.Name y py) X.env)) (Q:=fun _ s'=>SP X pins D .next s') rfl hs S.clos S.kind S.names (thn (hi pins s σ H _ I h) fun v s1 h1=>thn h1 fun itv s2 h2=>?_)) fun _ s' hq=>wpAny_pure (wpAny_pure hq));obtain ⟨it,fp,tn,J,H2,e,I2,TT',st2,f2,W,⟨m0,w0⟩,turn⟩:=h2;subst e;refine zDp (Q:=fun x H1=>gName i x σ H1 D.nx) (fun _ _ _ _=>hc) S hg hf he I2 TT' st2 f2 W m0 w0 turn fun A C z H1 m I1 n1 n2 n3 n4 n5 hn q=>?_;show wpAny _ X.A (assign (.Name y py) X.env (.ref A)) _ _ z;refine wpAny_assign_Name (store_ok2 (v:=.ref A) I1 hN hix (.inl hx) rfl (fun z' I' ⟨a,sb,ha⟩=>?_) (.inr hx));have hCa:C≠a:=by
  rcases ha with e | e
  ·rw [e];exact n2
  ·exact (n4 y a e).symm
 refine ⟨m,hn.sameBut sb hCa,fun h' sb'=>⟨_,H1,I'.turned (t':=z'.toks) (it:=C) (fun b o hb e=>(sb'.2 b hb).trans e) n1 n2 (.inr n3) n4 n5,q⟩⟩
end
end L2
namespace L2
open PySem PySem.Spec PyProof.Rows
section
variable {X:Cx}
theorem v1 {x:V}{us:List Value} (r:Vals [x] us):∃ u,us=[u]∧RelV x u:=by
 cases r with
 | cons a b=>cases b;exact ⟨_,rfl,a⟩
theorem v2 {x y:V}{us:List Value} (r:Vals [x,y] us):∃ u v,us=[u,v]∧RelV x u∧RelV y v:=by
 cases r with
 | cons a b =>
  cases b with
  | cons c d=>cases d;exact ⟨_,_,rfl,a,c⟩
theorem zAs:CallR X (.builtin "isinstance") (fun xs H Q=>∃ x c t cv b,xs=[x,c]∧TyOf X.K H x t∧RelV c cv∧PySem.W.kitOne X.K t cv=some b∧Q (.bl b) H):=by
 intro pins s σ H xs us Q I r h;obtain ⟨x,c,t,cv,b,rfl,ty,rc,e,q⟩:=h;obtain ⟨u,v,rfl,ru,rv⟩:=v2 r;have hv:v=cv:=by
  cases c with
  | non=>exact (show v=Value.none from rv).trans (show cv=Value.none from rc).symm
  | bl z=>exact (show v=Value.bool z from rv).trans (show cv=Value.bool z from rc).symm
  | int i =>
   obtain ⟨t1,rfl⟩:=rc;exact absurd e (by unfold PySem.W.kitOne;cases ty <;> simp [PySem.W.kitCls])
  | str i =>
   obtain ⟨t1,rfl⟩:=rc;exact absurd e (by unfold PySem.W.kitOne;cases ty <;> simp [PySem.W.kitCls])
  | byt i =>
   obtain ⟨t1,rfl⟩:=rc;exact absurd e (by unfold PySem.W.kitOne;cases ty <;> simp [PySem.W.kitCls])
  | flt i =>
   obtain ⟨t1,rfl⟩:=rc;exact absurd e (by unfold PySem.W.kitOne;cases ty <;> simp [PySem.W.kitCls])
  | ref a=>exact (show v=Value.ref a from rv).trans (show cv=Value.ref a from rc).symm
  | ty n=>exact (show v=Value.type n from rv).trans (show cv=Value.type n from rc).symm
 subst hv;exact isinst_ok I ru ty e fun tk=>⟨.bl b,H,I.tok tk,rfl,q⟩
theorem bools_get:∀ {bs:List Bool}{us:List Value}{i:Nat}{v:Value},Vals (bs.map V.bl) us→us[i]? = some v→∃ b,bs[i]? = some b∧v=Value.bool b
 | [],_,i,v,.nil,h=>by simp at h
 | b :: r,_,0,v,.cons a t,h=>by
  simp at h;subst h;exact ⟨b,rfl,a⟩
 | b :: r,_,i + 1,v,.cons a t,h=>by
  obtain ⟨b',e,q⟩:=bools_get (bs:=r) (i:=i) t (by simpa using h);exact ⟨b',by simpa using e,q⟩
theorem all_range:∀ (bs:List Bool),((List.range bs.length).all fun i=>(bs[i]?).getD true)=bs.all id
 | []=>rfl
 | b :: r=>by
  rw [Zj,List.range_succ_eq_map,Zy,Y7,Zy];have e:=all_range r;simp only [Function.comp_def,List.getElem?_cons_succ,List.getElem?_cons_zero,Option.getD_some,id] at *;rw [← e]
theorem zB3 (hc:X.calm=true):CallR X (.builtin "all") (fun xs H Q=>∃ (p:Addr) (bs:List Bool),xs=[.ref p]∧SqL X.K H p (bs.map V.bl)∧Q (.bl (bs.all id)) H):=by
 intro pins s σ H xs us Q I r h;obtain ⟨p,bs,rfl,hp,q⟩:=h;obtain ⟨u,rfl,ru⟩:=v1 r;cases (show u=Value.ref p from ru);obtain ⟨its,rv,pl,hz⟩:=I.list hp;have hl:=pl.isList;have hlt:p < s.heap.objs.size:=by obtain ⟨_,e,_⟩:=hl;exact Zd e
 have hlen:its.length=bs.length:=by rw [← rv.length,Z0]
 refine call_all_walk (wpAny_pyIter_list hl ?_)
 refine ⟨s.heap.objs.size,[s.heap.objs.size,p],[s.heap.objs.size],its.toArray.size,_,_,fun i=>(bs[i]?).getD true,rfl,Walks.list (A:=X.A.in1) (I.ok.hd hc) _ p (Zf hlt) its.toArray,
  ⟨⟨_,Zh _ rfl,rfl,rfl⟩,hl.push _⟩,fun i v s' Q' E' hP hQ=>?_,fun h' tk hk=>?_⟩
 ·obtain ⟨b,e,rfl⟩:=bools_get rv (by simpa using hP);simp only [e,Option.getD_some] at hQ;exact wpAny_truthy_bool hQ
 ·rw [Z9,hlen,all_range];exact ⟨.bl _,H,I.kept (t':=tk) fun b o e=>hk b o (fun hm=>by rw [List.mem_singleton.mp hm] at e;exact Yl _ (Zd e)) (Z1 _ e),rfl,q⟩
noncomputable def Its (x:Str):It:=⟨fun i _=>i < x.length,fun i H v H'=>H'=H∧∃ c,x.cps[i]? = some c∧v=.str ⟨#[c]⟩,fun i _=>x.length≤i⟩
noncomputable def iStr (tl:TE):TI:=fun σ H R=>tl σ H fun v H1=>∃ x,v=.str x∧R (Its x) H1
theorem turn_str {P:Program}{w:World}{K:PySem.W.Frag}{y:Str}{py:Pos}{x:Str}{it:Addr}{St:Nat→Heap→Prop} (ho:∀ i h,St i h→∃ o,h.get? it=some o∧∀ v,o.data≠.cell v)
  (W:∀ A':Around,A'.handled=none→Walks P w A' it [it] [it] x.cps.size (SignAt x) St) (hself:∀ (A:Around) (i:Nat) (s:Shared) (Q:Value→Shared→Prop) (E:Value→Shared→Prop),St i s.heap→Q (.ref it) s→wpAny (model P w) A (pyIter (.ref it)) Q E s)
  (hst:∀ i h,St i h→i≤x.cps.size→True):Turn P w K (.Name y py) (Its x) [it] it (fun i h=>i≤x.cps.size∧St i h) where
 mem:=by simp
 obj:=fun i h st b hb=>by
  have e:b=it:=by simpa using hb
  subst e;exact ho i h st.2
 keep:=fun i h h' st k=>⟨st.1,(W { callerA with handled:=none } rfl).frame i h h' st.2 k⟩
 item:=by
  intro X hP hw hK hc i pins s σ H E I hf st hg;subst hP hw hK;obtain ⟨f0,f1,f2,f3,f4,f5⟩:=hf it (by simp);refine (W X.A (I.ok.hd hc)).item i s _ _ hg st.2 fun v h' tk hv st' kk=>?_;obtain ⟨c,u,hc',rfl⟩:=hv;have I1:Inv X pins σ H { s with heap:=h',toks:=tk }:=I.turned (fun b o hb e=>kk b o (by simpa using hb) e) f0 f1 f3 f4 f5;exact ⟨_,rfl,wpAny_pure ⟨.str ⟨#[c]⟩,H,I1,⟨u,rfl⟩,⟨rfl,c,hc',rfl⟩,⟨hg,st'⟩,fun b hb=>(hf b hb).1⟩⟩
 done:=by
  intro X hP hw hK hc i pins s σ H E I hf st hg;subst hP hw hK;obtain ⟨f0,f1,f2,f3,f4,f5⟩:=hf it (by simp);have e:i=x.cps.size:=Nat.le_antisymm st.1 hg;have st2:=st.2;rw [e] at st2;exact (W X.A (I.ok.hd hc)).done s _ _ st2 fun h' tk kk=>⟨rfl,I.turned (fun b o hb e=>kk b o (by simpa using hb) e) f0 f1 f3 f4 f5⟩
 self:=fun A i s Q E st h=>hself A i s Q E st.2 h
theorem pi_str {y:Str}{py:Pos}{l:Expr}{tl:TE} (hl:PE X l tl):PI X (.Name y py) l (iStr tl):=by
 intro pins s σ H R I h;refine thn (hl pins s σ H _ I h) fun v s1 ⟨x,H1,I1,r1,q1⟩=>?_;obtain ⟨z,rfl,q⟩:=q1;obtain ⟨t,rfl⟩:=r1;have fin:∀ {o:Obj}{St:Nat→Heap→Prop},Turn X.prog X.w X.K (.Name y py) (Its z) [s1.heap.objs.size] s1.heap.objs.size St→St 0 (s1.heap.push o)→PIE X pins σ (.Name y py) R (.ref s1.heap.objs.size) { s1 with heap:=s1.heap.push o }:=fun {o St} T st=>by
  refine ⟨s1.heap.objs.size,[s1.heap.objs.size],St,_,H1,rfl,I1.kept (t':=s1.toks) fun b o e=>Z1 _ e,T,st,fun b hb=>?_,q⟩;have e:b=s1.heap.objs.size:=by simpa using hb
  subst e;exact I1.fpOk (Z7 _) (I1.hok.fresh (Z7 _))
 cases ha:z.cps.all (· < 128)
 ·refine wpAny_pyIter_wide ha (fin (turn_str (fun i h st=>?_) (fun A' hA=>Walks.strWide hA _ z t) (fun A i s Q E st h=>wpAny_pyIter_striter_wide st h) fun _ _ _ _=>trivial) ⟨Zm _,⟨_,Zh _ rfl,rfl,rfl⟩⟩);obtain ⟨o,e,c,d⟩:=st;exact ⟨o,e,fun v q=>by rw [d] at q;cases q⟩
 ·refine wpAny_pyIter_ascii ha (fin (turn_str (fun i h st=>?_) (fun A' hA=>Walks.strAscii hA _ z t) (fun A i s Q E st h=>wpAny_pyIter_striter_ascii st h) fun _ _ _ _=>trivial) ⟨Zm _,⟨_,Zh _ rfl,rfl,rfl⟩⟩);obtain ⟨o,e,c,d⟩:=st;exact ⟨o,e,fun v q=>by rw [d] at q;cases q⟩
end
section
variable {X:Cx}{CX:CXT}{k:Nat}{f C:Addr}{fd:FuncData}{ps ks:List Str}{sp:Sp}{E:St→XK}{x:Str}{p pos:Pos}{e:Expr}{es:List Expr}{kws:List Keyword}{t tk:TA}{g:List Value→List Value→List Value}{gV:List V→List V→List V}
end
end L2
namespace L2
open PySem PySem.Spec PyProof.Rows
theorem log2_lt64 {j:Int} (h0:0 < j) (h1:j < 2 ^ 64):j.natAbs.log2 < 9000:=by
 have:j.natAbs < 2 ^ 64:=by omega
 have h:j.natAbs.log2 < 64:=(Nat.log2_lt (by omega)).mpr this;omega
noncomputable def CDivB (i j:Int):Prop:=0 < j∧j < 2 ^ 64
theorem op_fdivB {X:Cx}:OpR X (binaryOp .FloorDiv) (rI CDivB fun i j=>.int (i / j)):=opI fun i j _ _ _ _ _ hc q=>by
 have h1:(0:Int) < j:=hc.1;exact floordiv_int (by omega) (by rw [Int.fdiv_eq_ediv_of_nonneg i (by omega)];exact q) (.inl (PyProof.noPylong_of_log2 (log2_lt64 hc.1 hc.2)))
mutual
inductive Has (G:Addr→Prop) (H:Hp):V→PyData→Prop where
 | non:Has G H .non .none
 | bl (b:Bool):Has G H (.bl b) (.bool b)
 | int (i:Int):Has G H (.int i) (.int i)
 | str (x:Str) (hx:x.length≤1000) (ho:PyData.strOk x=true):Has G H (.str x) (.str x)
 | lst {a:Addr}{xs:List V}{ds:List PyData}:G a→H a=some (.lst xs)→xs.length≤1000→HasAll G H xs ds→Has G H (.ref a) (.list ds)
 | tup {a:Addr}{xs:List V}{ds:List PyData}:G a→H a=some (.tup xs)→xs.length≤1000→HasAll G H xs ds→Has G H (.ref a) (.tuple ds)
inductive HasAll (G:Addr→Prop) (H:Hp):List V→List PyData→Prop where
 | nil:HasAll G H [] []
 | cons {x:V}{xs:List V}{d:PyData}{ds:List PyData}:Has G H x d→HasAll G H xs ds→HasAll G H (x :: xs) (d :: ds)
end
noncomputable abbrev Any:Addr→Prop:=fun _=>True
noncomputable def isSeq:HO→Prop
 | .lst _=>True
 | .tup _=>True
 | _=>False
mutual
theorem Has.frameS {G G':Addr→Prop}{H H':Hp} (e:∀ a o,G a→isSeq o→H a=some o→G' a∧H' a=some o):∀ {v:V}{d:PyData},Has G H v d→Has G' H' v d
 | _,_,.non=>.non
 | _,_,.bl b=>.bl b
 | _,_,.int i=>.int i
 | _,_,.str x hx ho=>.str x hx ho
 | _,_,.lst (xs:=xs) g s z h=>.lst (e _ (.lst xs) g trivial s).1 (e _ (.lst xs) g trivial s).2 z (HasAll.frameS e h)
 | _,_,.tup (xs:=xs) g s z h=>.tup (e _ (.tup xs) g trivial s).1 (e _ (.tup xs) g trivial s).2 z (HasAll.frameS e h)
theorem HasAll.frameS {G G':Addr→Prop}{H H':Hp} (e:∀ a o,G a→isSeq o→H a=some o→G' a∧H' a=some o):∀ {vs:List V}{ds:List PyData},HasAll G H vs ds→HasAll G' H' vs ds
 | _,_,.nil=>.nil
 | _,_,.cons h t=>.cons (Has.frameS e h) (HasAll.frameS e t)
end
theorem Has.frame {G G':Addr→Prop}{H H':Hp}{v:V}{d:PyData} (h:Has G H v d) (e:∀ a o,G a→H a=some o→G' a∧H' a=some o):Has G' H' v d:=h.frameS fun a o g _ q=>e a o g q
theorem HasAll.frame {G G':Addr→Prop}{H H':Hp}{v:List V}{d:List PyData} (h:HasAll G H v d) (e:∀ a o,G a→H a=some o→G' a∧H' a=some o):HasAll G' H' v d:=h.frameS fun a o g _ q=>e a o g q
theorem Has.mono {G:Addr→Prop}{H H':Hp}{v:V}{d:PyData} (h:Has G H v d) (e:Same H H'):Has G H' v d:=h.frame fun a o g q=>⟨g,e a o q⟩
theorem HasAll.mono {G:Addr→Prop}{H H':Hp}{v:List V}{d:List PyData} (h:HasAll G H v d) (e:Same H H'):HasAll G H' v d:=h.frame fun a o g q=>⟨g,e a o q⟩
theorem Has.any {G:Addr→Prop}{H:Hp}{v:V}{d:PyData} (h:Has G H v d):Has Any H v d:=h.frame fun _ _ _ q=>⟨trivial,q⟩
theorem HasAll.any {G:Addr→Prop}{H:Hp}{v:List V}{d:List PyData} (h:HasAll G H v d):HasAll Any H v d:=h.frame fun _ _ _ q=>⟨trivial,q⟩
section
variable {G:Addr→Prop}{H:Hp}
theorem HasAll.length:∀ {xs:List V}{ds:List PyData},HasAll G H xs ds→xs.length=ds.length
 | _,_,.nil=>rfl
 | _,_,.cons _ t=>by rw [Zj,Zj,HasAll.length t]
theorem HasAll.get:∀ {xs:List V}{ds:List PyData}{i:Nat}{x:V},HasAll G H xs ds→xs[i]? = some x→∃ d,ds[i]? = some d∧Has G H x d
 | _,_,i,x,.nil,h=>by simp at h
 | _,_,0,x,.cons a t,h=>by simp at h;subst h;exact ⟨_,rfl,a⟩
 | _,_,i + 1,x,.cons a t,h=>by
  obtain ⟨d,e,q⟩:=HasAll.get (i:=i) t (by simpa using h);exact ⟨d,by simpa using e,q⟩
theorem HasAll.snoc:∀ {xs:List V}{ds:List PyData}{x:V}{d:PyData},HasAll G H xs ds→Has G H x d→HasAll G H (xs++[x]) (ds++[d])
 | _,_,_,_,.nil,h=>.cons h .nil
 | _,_,_,_,.cons a t,h=>.cons a (HasAll.snoc t h)
theorem Has.list_inv {v:V}{ds:List PyData} (h:Has G H v (.list ds)):∃ a xs,v=.ref a∧G a∧H a=some (.lst xs)∧xs.length≤1000∧HasAll G H xs ds:=by
 cases h with
 | lst g s z q=>exact ⟨_,_,rfl,g,s,z,q⟩
theorem Has.tup_inv {v:V}{ds:List PyData} (h:Has G H v (.tuple ds)):∃ a xs,v=.ref a∧G a∧H a=some (.tup xs)∧xs.length≤1000∧HasAll G H xs ds:=by
 cases h with
 | tup g s z q=>exact ⟨_,_,rfl,g,s,z,q⟩
theorem Has.str_inv {v:V}{x:Str} (h:Has G H v (.str x)):v=.str x∧x.length≤1000∧PyData.strOk x=true:=by
 cases h with
 | str _ a b=>exact ⟨rfl,a,b⟩
mutual
theorem Has.lay:∀ {v:V}{d:PyData},Has G H v d→d.canLay0=true
 | _,_,.non=>rfl
 | _,_,.bl b=>rfl
 | _,_,.int i=>rfl
 | _,_,.str x _ ho=>ho
 | _,_,.lst _ _ _ h=>HasAll.lay h
 | _,_,.tup _ _ _ h=>HasAll.lay h
theorem HasAll.lay:∀ {vs:List V}{ds:List PyData},HasAll G H vs ds→PyData.canLayAll0 ds=true
 | _,_,.nil=>rfl
 | _,_,.cons h t=>by
  show (PyData.canLay0 _ && PyData.canLayAll0 _)=true;rw [Has.lay h,HasAll.lay t];rfl
end
end
section
variable {X:Cx}{pins:List (Addr×Obj)}{σ : St}{H:Hp}{s:Shared}{G:Addr→Prop}
mutual
theorem Has.reads (I:Inv X pins σ H s):∀ {v:V}{d:PyData}{u:Value},Has G H v d→RelV v u→∃ as,Reads s.heap u d as
 | _,_,u,.non,r=>by cases (show u=Value.none from r);exact ⟨_,.none⟩
 | _,_,u,.bl b,r=>by cases (show u=Value.bool b from r);exact ⟨_,.bool b⟩
 | _,_,u,.int i,r=>by obtain ⟨t,rfl⟩:=(show ∃ t,u=Value.int i t from r);exact ⟨_,.int i t⟩
 | _,_,u,.str x _ _,r=>by obtain ⟨t,rfl⟩:=(show ∃ t,u=Value.str x t from r);exact ⟨_,.str x t⟩
 | _,_,u,.lst (a:=a) _ q _ h,r=>by
  cases (show u=Value.ref a from r);obtain ⟨_,its,n,rv,e⟩:=I.hok a _ q;obtain ⟨as,ra⟩:=HasAll.reads I h rv;exact ⟨_,.list e rfl rfl (by simpa using ra)⟩
 | _,_,u,.tup (a:=a) _ q _ h,r=>by
  cases (show u=Value.ref a from r);obtain ⟨_,its,rv,⟨o,e,c,n,d⟩⟩:=I.hok a _ q;obtain ⟨as,ra⟩:=HasAll.reads I h rv;exact ⟨_,.tuple e c d (by simpa using ra)⟩
theorem HasAll.reads (I:Inv X pins σ H s):∀ {vs:List V}{ds:List PyData}{us:List Value},HasAll G H vs ds→Vals vs us→∃ as,ReadsAll s.heap us ds as
 | _,_,_,.nil,.nil=>⟨_,.nil⟩
 | _,_,_,.cons h t,.cons r rr=>by
  obtain ⟨as,ra⟩:=Has.reads I h r;obtain ⟨bs,rb⟩:=HasAll.reads I t rr;exact ⟨_,.cons ra rb⟩
end
end
theorem Has.shaped {G:Addr→Prop}{H:Hp}{v:V}{d:PyData} (h:Has G H v d) (hd:d.depth≤64):SeqAt.shaped d=true:=by
 unfold SeqAt.shaped;rw [h.lay,decide_eq_true hd];rfl
noncomputable def rEqD:R2:=fun x y H Q=>∃ d e,Has Any H x d∧Has Any H y e∧d.depth≤64∧e.depth≤64∧Q (.bl (PyData.eqv d e)) H
noncomputable def rNeD:R2:=fun x y H Q=>∃ d e,Has Any H x d∧Has Any H y e∧d.depth≤64∧e.depth≤64∧Q (.bl (!PyData.eqv d e)) H
theorem op_eqD {X:Cx} (hu:X.A.units + 64 < cLine):OpR X (compareOp .Eq) rEqD:=by
 intro pins s σ H x y u v Q I rx ry h;obtain ⟨d,e,hd,he,sd,se,q⟩:=h;obtain ⟨as,ra⟩:=hd.reads I rx;obtain ⟨bs,rb⟩:=he.reads I ry;exact eq_dataH ra rb (hd.shaped sd) (he.shaped se) hu ⟨.bl _,H,I,rfl,q⟩
theorem op_neD {X:Cx} (hu:X.A.units + 64 < cLine):OpR X (compareOp .NotEq) rNeD:=by
 intro pins s σ H x y u v Q I rx ry h;obtain ⟨d,e,hd,he,sd,se,q⟩:=h;obtain ⟨as,ra⟩:=hd.reads I rx;obtain ⟨bs,rb⟩:=he.reads I ry;exact ne_dataH ra rb (hd.shaped sd) (he.shaped se) hu ⟨.bl _,H,I,rfl,q⟩
section
variable {κ : Type} [DecidableEq κ]
noncomputable def dstep (acc:List κ) (x : κ):List κ:=if x∈acc then acc else acc++[x]
noncomputable def dl (l:List κ):List κ:=l.foldl dstep []
theorem dl_snoc (l:List κ) (x : κ):dl (l++[x])=dstep (dl l) x:=by unfold dl;rw [List.foldl_append];rfl
theorem zCm:∀ (l acc:List κ) (k : κ),k∈l.foldl dstep acc ↔ k∈acc∨k∈l
 | [],acc,k=>by simp
 | x :: r,acc,k=>by
  rw [Yg,zCm r];unfold dstep;by_cases h:x∈acc
  ·rw [if_pos h];constructor
   ·rintro (a | a)
    ·exact .inl a
    ·exact .inr (Zb _ a)
   ·rintro (a | a)
    ·exact .inl a
    ·rcases List.mem_cons.mp a with rfl | a
     ·exact .inl h
     ·exact .inr a
  ·rw [if_neg h];simp only [List.mem_append,Y3,Zz,or_false];constructor
   ·rintro ((a | a) | a)
    ·exact .inl a
    ·exact .inr (.inl a)
    ·exact .inr (.inr a)
   ·rintro (a | a | a)
    ·exact .inl (.inl a)
    ·exact .inl (.inr a)
    ·exact .inr a
theorem mem_dl {l:List κ}{k : κ}:k∈dl l ↔ k∈l:=by unfold dl;rw [zCm];simp
theorem zBv:∀ (l acc:List κ),(l.foldl dstep acc).length≤acc.length + l.length
 | [],acc=>Z7 _
 | x :: r,acc=>by
  rw [Yg];refine Zo (zBv r _) ?_;unfold dstep;split
  ·rw [Zj];omega
  ·simp only [Zc,Zj,List.length_nil];omega
theorem dl_len_le (l:List κ):(dl l).length≤l.length:=by have:=zBv l [];simpa [dl] using this
theorem zC4:∀ (l acc:List κ),(∀ x∈l,x∉acc)→l.Nodup→(l.foldl dstep acc).length=acc.length + l.length
 | [],acc,_,_=>rfl
 | x :: r,acc,h,hn=>by
  obtain ⟨h1,h2⟩:=List.nodup_cons.mp hn;have hx:x∉acc:=h x Zg;rw [Yg,show dstep acc x=acc++[x] from if_neg hx,zC4 r _ (fun y hy m=>?_) h2]
  ·simp;omega
  ·rcases List.mem_append.mp m with m | m
   ·exact h y (Zb _ hy) m
   ·rw [List.mem_singleton.mp m] at hy;exact h1 hy
theorem zCn:∀ (l acc:List κ),((∃ x∈l,x∈acc)∨¬ l.Nodup)→(l.foldl dstep acc).length < acc.length + l.length
 | [],acc,h=>by
  rcases h with ⟨x,hx,_⟩ | h
  ·simp at hx
  ·exact absurd Yc h
 | x :: r,acc,h=>by
  rw [Yg];by_cases hx:x∈acc
  ·rw [show dstep acc x=acc from if_pos hx];have:=zBv r acc;simp only [Zj];omega
  ·rw [show dstep acc x=acc++[x] from if_neg hx];have ih:=zCn r (acc++[x]) ?_
   ·simp only [Zc,Zj,List.length_nil] at *;omega
   ·rcases h with ⟨y,hy,ha⟩ | h
    ·rcases List.mem_cons.mp hy with rfl | hy
     ·exact absurd ha hx
     ·exact .inl ⟨y,hy,Y6 _ ha⟩
    ·by_cases hr:x∈r
     ·exact .inl ⟨x,hr,by simp⟩
     ·exact .inr fun z=>h (List.nodup_cons.mpr ⟨hr,z⟩)
theorem zEj (l:List κ):decide ((dl l).length=l.length)=decide l.Nodup:=by
 by_cases h:l.Nodup
 ·have:=zC4 l [] (fun _ _ z=>by simp at z) h;rw [decide_eq_true h,decide_eq_true (by simpa [dl] using this)]
 ·have:=zCn l [] (.inr h);rw [decide_eq_false h,decide_eq_false (by simp [dl] at *;omega)]
variable {prog:Program}{w:World}{A:Around}{R:Result→Shared→Prop}{I:Addr}{fp wr:List Addr}{n:Nat}{P:Nat→Value→Prop}{St:Nat→Heap→Prop}
theorem SetOf_eqv {knd:KeyKind prog w κ}{h:Heap}{a:Addr}{S S' : κ→Bool}{m m':Nat} (x:h.SetOf knd a S m) (e:∀ k,S k=S' k) (em:m=m'):h.SetOf knd a S' m':=by
 have e':S=S':=funext e;subst e' em;exact x
theorem set_loopK (W:Walks prog w A.in1 I fp wr n P St) {D:Addr} (hD:D∉fp) {knd:KeyKind prog w κ}{ks:List κ} (hn:ks.length=n) (hval:∀ i v k,P i v→ks[i]? = some k→knd.is k v=true∧v.scannable=true) (hb:n + 1 < scanBound) :
  ∀ (j i:Nat) (z:Shared),n - i=j→i≤n→St i z.heap→z.heap.SetOf knd D (fun k=>decide (k∈ks.take i)) (dl (ks.take i)).length →
   (∀ h' tk,(∀ b o,b∉D :: wr→z.heap.get? b=some o→h'.get? b=some o)→h'.SetOf knd D (fun k=>decide (k∈ks)) (dl ks).length→R (.ok (.ret .none)) { z with heap:=h',toks:=tk }) →
   codeAny (model prog w) A (.builtin "set.update.loop" ⟨[.ref D,.ref I],[]⟩) R z:=by
 have hDw:D∉wr:=fun h=>hD (W.sub _ h);intro j
 induction j with
 | zero =>
  intro i z hj hi st hS hR;obtain rfl:i=n:=by omega
  refine codeAny_builtin PyProof.Rows.F.entry_set_update_loop ?_;rw [Around.under_plainId PyProof.Rows.F.plain_set_update_loop _];show wpAny _ A.in1 (pyNext (.ref I) >>= _) _ _ z;refine wpAny_bind (W.done z _ _ st fun h' tk kk=>?_);rw [List.take_of_length_le (Nat.le_of_eq hn)] at hS;obtain ⟨o,es,ep,t,ho,more⟩:=hS;exact wpAny_pure (hR h' tk (fun b o hb e=>kk b o (fun m=>hb (Zb _ m)) e) ⟨o,es,ep,t,kk D _ hDw ho,more⟩)
 | succ j ih =>
  intro i z hj hi st hS hR;have lt:i < n:=by omega
  refine codeAny_builtin PyProof.Rows.F.entry_set_update_loop ?_;rw [Around.under_plainId PyProof.Rows.F.plain_set_update_loop _];show wpAny _ A.in1 (pyNext (.ref I) >>= _) _ _ z;refine wpAny_bind (W.item i z _ _ lt st fun v h1 tk1 hP st1 k1=>?_);have hk:ks[i]? = some (ks[i]'(by omega)):=Z5 _;obtain ⟨hv,hs⟩:=hval i v _ hP hk;obtain ⟨o,es,ep,t,ho,more⟩:=hS;have hS1:h1.SetOf knd D (fun k=>decide (k∈ks.take i)) (dl (ks.take i)).length:=⟨o,es,ep,t,k1 D _ hDw ho,more⟩;show wpAny _ A.in1 (holding [v] (setAdd D v) >>= _) _ _ _;refine wpAny_bind (wpAny_holding ?_);unfold setAdd;refine wpAny_holding (wpAny_bind (knd.pyHash hv ?_));have room:(dl (ks.take i)).length + 1 < scanBound:=by
   have a1:=dl_len_le (ks.take i);have a2:(ks.take i).length≤i:=Zw _ _;omega
  refine wpAny_setAddHashed_of (knd:=knd) (s:={ z with heap:=h1,toks:=tk1 + 1 }) hv hs hS1 room fun h2 sb2 hS2=>?_;have et:ks.take (i + 1)=ks.take i++[ks[i]'(by omega)]:=by rw [Z4,hk];rfl
  have hS3:h2.SetOf knd D (fun k=>decide (k∈ks.take (i + 1))) (dl (ks.take (i + 1))).length:=by
   refine SetOf_eqv hS2 (fun k=>?_) ?_
   ·rw [et,Ye];simp only [Bool.or_eq_true,decide_eq_true_eq,List.mem_append,List.mem_singleton]
   ·rw [et,dl_snoc];unfold dstep;by_cases q:ks[i]'(by omega)∈ks.take i
    ·rw [if_pos (by simpa using q),if_pos (mem_dl.mpr q)]
    ·rw [if_neg (by simpa using q),if_neg (fun z=>q (mem_dl.mp z)),Zc,List.length_singleton]
  refine wpAny_pure ⟨plainId_quiet PyProof.Rows.F.plain_set_update_loop _,ih (i + 1) _ (by omega) lt (W.frame _ h1 _ st1 fun b hb o e=>?_) hS3 fun h' tk kk hS'=>hR h' tk (fun b o hb e=>kk b o hb ?_) hS'⟩
  ·rw [sb2.2 b (fun q:b=D=>hD (by rw [← q];exact hb))];exact e
  ·rw [sb2.2 b (fun q:b=D=>hb (by rw [q];exact Zg))];exact k1 b o (fun m=>hb (Zb _ m)) e
end
end L2
namespace L2
open PySem PySem.Spec PyProof.Rows
noncomputable abbrev bareSet (b:Bool):Obj:={ cls:=.type "set",dict:=none,data:=.set #[] 0 (.fresh 0 0 b) }
section
variable {κ : Type} [DecidableEq κ] {prog:Program}{w:World}{A:Around}{E:Value→Shared→Prop}{z:Shared}
noncomputable def SetMade (knd:KeyKind prog w κ) (ks:List κ) (z:Shared) (r:Value) (z':Shared):Prop :=
 r=.none∧∃ h' tk,z'={ z with heap:=h',toks:=tk }∧h'.SetOf knd z.heap.objs.size (fun k=>decide (k∈ks)) (dl ks).length∧∀ b o,b < z.heap.objs.size→z.heap.get? b=some o→h'.get? b=some o
set_option maxHeartbeats 6400000 in
theorem call_setK {knd:KeyKind prog w κ}{l:Addr}{its:Array Value}{ks:List κ}{Q:Value→Shared→Prop} (hh:A.handled=none) (hl:z.heap.IsList l its) (hn:ks.length=its.size)
  (hv:∀ (i:Nat) (v:Value) (k : κ),its[i]? = some v→ks[i]? = some k→knd.is k v=true∧v.scannable=true) (hb:its.size + 1 < scanBound)
  (h:∀ z',SetMade knd ks z .none z'→Q (.ref z.heap.objs.size) z'):wpAny (model prog w) A (call (.type "set") [.ref l]) Q E z:=by
 obtain ⟨mc,mt,m0⟩:=PySem.F.called_set.mro;have m1:=PySem.F.called_set.made;have m2:=PySem.F.called_set.sub;refine wpAny_call (codeAny_of_tree ?_);show wpAny _ _ (callAny (.type "set") _) _ _ _;refine wpAny_pure ⟨Code.quiet_builtin _ (by decide +kernel),codeAny_builtin PySem.F.entry_type_call ?_⟩;rw [Around.under_plain (weight_type_call_type "set" [.ref l] []) rfl];have m3:=PySem.F.called_set.notType;have m4:=PySem.F.called_set.canCreate;have m5:=PySem.F.typeCall_set_1 (.ref l)
 repeat (any_goals (first | assumption | wp_step))
 refine codeAny_mono (code_set_new_1 (.ref l) (E:=E) (Q₁:=fun r z1=>∃ b:Bool,r=.ref z.heap.objs.size∧z1={ z with heap:=z.heap.push (bareSet b) }) fun b=>⟨b,rfl,rfl⟩) fun r z1 hr=>?_;cases r with
 | error e=>exact hr
 | ok fl =>
  cases fl with
  | next=>exact hr.elim
  | brk=>exact hr.elim
  | cont=>exact hr.elim
  | ret r =>
   obtain ⟨b,rfl,rfl⟩:=hr;have g0:(z.heap.push (bareSet b)).get? z.heap.objs.size=some (bareSet b):=Zh _ rfl;have ty:Shared.TypeIs { z with heap:=z.heap.push (bareSet b) } (.ref z.heap.objs.size) "set":=⟨_,g0,rfl⟩;have i1:=PySem.F.called_set.init.lookup;have i2:=PySem.F.called_set.init.bind (.ref z.heap.objs.size)
   repeat (any_goals (first | assumption | wp_step))
   refine codeAny_mono (codeAny_call_builtin (R:=wants (SetMade knd ks z) E) PySem.F.called_set.init.plain PySem.F.entry_set_init (check_set_init_1 ty ?_)) fun r2 z2 hr2=>?_
   ·obtain ⟨⟨oc,od,odt,osl⟩,ho,c1,nl,d1⟩:=hl;simp only at c1 d1;subst c1 d1;have ho1:(z.heap.push (bareSet b)).get? l=some { cls:=.type "list",dict:=od,data:=.seq its nl,slots:=osl }:=Z1 _ ho;have s1:=PySem.F.sub_list_set;have s2:=PySem.F.sub_list_frozenset;have s3:(Value.type "list" == Value.type "dict")=false:=by decide
    have hl1:(z.heap.push (bareSet b)).IsList l its:=⟨_,ho1,rfl,nl,rfl⟩;unfold Builtin.«set.__init__» noKeywords Builtin.Frozenset.updateFrom;generalize ePI:pyIter=PI
    wp_walk
    subst ePI;refine wpAny_pyIter_list hl1 ?_;refine wpAny_bind (wpAny_runValue ?_);have lt:l < z.heap.objs.size:=Zd ho;have sz1:(z.heap.push (bareSet b)).objs.size=z.heap.objs.size + 1:=Yi _ _;have neI:l≠(z.heap.push (bareSet b)).objs.size:=by rw [sz1];exact Zf (Nat.lt_succ_of_lt lt)
    have nD:z.heap.objs.size∉[(z.heap.push (bareSet b)).objs.size,l]:=by
     rw [sz1];simp only [Y3,Zz,or_false,not_or];exact ⟨Zf (Yk _),Nat.ne_of_gt lt⟩
    refine set_loopK (Walks.list (by simp [hh]) _ l neI its) nD (knd:=knd) (ks:=ks) hn hv hb (its.size - 0) 0 _ (by omega) (Zm _) ⟨⟨_,Zh _ rfl,rfl,rfl⟩,hl1.push _⟩ ?_ fun h' tk kk hS=>?_
    ·refine SetOf_eqv ((PyProof.Rows.setObjOf_fresh (knd:=knd) b).setOf (Z1 _ g0) (by unfold scanBound;omega)) (fun k=>?_) rfl;simp
    ·show wpAny _ _ _ _ _ _;refine wpAny_pure ?_;show wpAny _ _ (ret Value.none) _ _ _;refine wpAny_pure ⟨rfl,h',tk,rfl,hS,fun c o hc e=>kk c o ?_ (Z1 _ (Z1 _ e))⟩;rw [sz1];simp only [Y3,Zz,or_false,not_or];exact ⟨Zf hc,Zf (Nat.lt_succ_of_lt hc)⟩
   ·cases r2 with
    | error e=>exact hr2
    | ok fl2 =>
     cases fl2 with
     | next=>exact hr2.elim
     | brk=>exact hr2.elim
     | cont=>exact hr2.elim
     | ret r =>
      have hs:=hr2;obtain ⟨rfl,h',tk,rfl,hS,kk⟩:=hr2
      repeat (any_goals (first | assumption | wp_step))
      exact h _ hs
end
noncomputable def SetS (P:Program) (w:World) (p:Addr) (ks:List Str):HO:=.ext fun h=>h.SetOf (strKind P w) p (fun k=>decide (k∈ks)) (dl ks).length
section
variable {X:Cx}
theorem strs_get:∀ {ks:List Str}{us:List Value}{i:Nat}{v:Value}{k:Str},Vals (ks.map V.str) us→us[i]? = some v→ks[i]? = some k→∃ t,v=Value.str k t
 | [],_,i,v,k,.nil,h,_=>by simp at h
 | b :: r,_,0,v,k,.cons a t,h,hk=>by
  simp at h hk;subst h hk;exact a
 | b :: r,_,i + 1,v,k,.cons a t,h,hk=>strs_get (ks:=r) (i:=i) t (by simpa using h) (by simpa using hk)
theorem zD8 (hc:X.calm=true):CallR X (.type "set") (fun xs H Q=>∃ (p:Addr) (ks:List Str),xs=[.ref p]∧SqL X.K H p (ks.map V.str)∧ks.length≤4000∧∀ d,H d=none→Q (.ref d) (upd H d (SetS X.prog X.w d ks))):=by
 intro pins s σ H xs us Q I r h;obtain ⟨p,ks,rfl,hp,hz,q⟩:=h;obtain ⟨u,rfl,ru⟩:=v1 r;cases (show u=Value.ref p from ru);obtain ⟨its,rv,pl,_⟩:=I.list hp;have hlen:its.length=ks.length:=by rw [← rv.length,Z0]
 refine call_setK (knd:=strKind X.prog X.w) (ks:=ks) (I.ok.hd hc) pl.isList (by rw [Z9,hlen]) (fun i v k h1 h2=>?_) (by rw [Z9,hlen];unfold scanBound;omega) fun z' hs=>?_
 ·obtain ⟨t,rfl⟩:=strs_get rv (by simpa using h1) h2;exact ⟨strKind_is _ _ _ _,rfl⟩
 ·obtain ⟨_,h',tk,rfl,hS,kk⟩:=hs;refine ⟨.ref s.heap.objs.size,_,I.laid (t':=tk) (a:=s.heap.objs.size) (o:=SetS X.prog X.w s.heap.objs.size ks) (fun b o e=>kk b o (Zd e) e) (Z7 _) ?_,rfl,q _ (I.hok.fresh (Z7 _))⟩;refine ⟨hS,?_,fun h1 h2 hs1 k12=>?_⟩
  ·obtain ⟨o,_,_,_,e,_⟩:=hS;exact ⟨o,e⟩
  ·obtain ⟨o,es,ep,t,e,more⟩:=hs1;exact ⟨o,es,ep,t,k12 o e,more⟩
theorem zC7:CallR X (.builtin "len") (fun xs H Q=>∃ (d:Addr) (ks:List Str),xs=[.ref d]∧H d=some (SetS X.prog X.w d ks)∧ks.length≤4000∧Q (.int (dl ks).length) H):=by
 intro pins s σ H xs us Q I r h;obtain ⟨d,ks,rfl,hd,hz,q⟩:=h;obtain ⟨u,rfl,ru⟩:=v1 r;cases (show u=Value.ref d from ru);obtain ⟨hS,_,_⟩:=I.hok d _ hd;obtain ⟨o,es,ep,t,e,hex,hdt,_,_,hb,hf,hn⟩:=hS;refine call_len_set e hex hdt hf ?_ ?_
 ·unfold scanBound at hb;omega
 ·rw [hn];exact ⟨.int _,H,I.tok _,⟨_,rfl⟩,q⟩
end
end L2
namespace L2
open PySem PySem.Spec PyProof.Rows
theorem ScOk.auto {X:Cx}{sc:Scope}{cl:List (Str×Addr)}{T:List Str} (h1:closureFor sc X.env=pure cl:=by rfl) (h2:(sc.names.all fun y=>y.2 != .cell)=true:=by rfl) (h3:sc.kind=.function:=by rfl)
  (h4:(sc.names.all fun x=>x.2 != .local || sc.names.lookup x.1 == some .local)=true:=by rfl)
  (h5:ClOk X cl:=by first | exact trivial | exact ⟨rfl,trivial⟩ | exact ⟨rfl,rfl,trivial⟩ | exact ⟨rfl,rfl,rfl,trivial⟩ | exact ⟨rfl,rfl,rfl,rfl,trivial⟩)
  (h6:(sc.names.all fun x=>x.2 != .free || ((cl.lookup x.1).isSome && (X.env.scope.names.lookup x.1 == some .cell || X.env.scope.names.lookup x.1 == some .free)))=true:=by rfl)
  (h7:(X.N.all fun x=>sc.names.lookup x != some .local)=true:=by rfl):ScOk X sc cl T where
 clos:=h1
 cell:=fun y hy=>by have:=List.all_eq_true.mp h2 y hy;simpa using this
 kind:=h3
 names:=fun x hx hl=>by
  have:=List.all_eq_true.mp h4 x hx;rw [hl] at this
  simpa using this
 cls:=h5
 has:=fun x hx hf=>by
  have:=List.all_eq_true.mp h6 x hx;rw [hf] at this
  simpa using this
 out:=fun x hx=>by have:=List.all_eq_true.mp h7 x hx;simpa using this
theorem comp_by {J:It}{n k:Nat}{σ : St}{H:Hp}{g:TG}{tt:TT}{te:TE}{Q:VK} (Pv:Nat→List V→Hp→Prop) (h0:Pv 0 [] H) (go:∀ i ys H,i < n→Pv i ys H→J.go i H) (stop:∀ ys H,Pv n ys H→J.stop n H)
  (hz:∀ i ys H,i≤n→Pv i ys H→ys.length≤sizeLine)
  (hs:∀ i ys H x H',i < n→Pv i ys H→J.yld i H x H'→∀ N:List V→Hp→Prop,(∀ ys H,Pv (i + 1) ys H→N ys H)→g x (σ++List.replicate k none) H' fun σ2 H2=>tt σ2 H2 fun b H3=>if b=true then te σ2 H3 fun y H4=>N (ys++[y]) H4 else N ys H3)
  (hd:∀ ys H,Pv n ys H→∀ p,H p=none→Q (.ref p) (upd H p (.lst ys))):CompGoal J k σ H g tt te Q:=by
 refine ⟨fun i m ys H=>m=n - i∧i≤n∧Pv i ys H,⟨n,by simp,Zm _,h0⟩,?_⟩;rintro i m ys H ⟨rfl,hi,p⟩;by_cases lt:i < n
 ·exact .inr ⟨go i ys H lt p,hz _ _ _ hi p,fun x H' y=>hs i ys H x H' lt p y (fun ys' H'=>∃ m',m' < n - i∧m'=n - (i + 1)∧i + 1≤n∧Pv (i + 1) ys' H') fun ys' H' q=>⟨n - (i + 1),by omega,rfl,lt,q⟩⟩
 ·obtain rfl:i=n:=by omega
  exact .inl ⟨stop _ _ p,hz _ _ _ hi p,hd _ _ p⟩
theorem comp_chars {x:Str}{k:Nat}{σ : St}{H:Hp}{g:TG}{tt:TT}{te:TE}{Q:VK} (p:Nat→Bool) (f:Nat→V) (hz:x.length≤sizeLine)
  (hs:∀ c (Ry:VK) (Rn:Hp→Prop),(p c=true→Ry (f c) H)→(p c=false→Rn H)→g (.str ⟨#[c]⟩) (σ++List.replicate k none) H fun σ2 H2=>tt σ2 H2 fun b H3=>if b=true then te σ2 H3 Ry else Rn H3)
  (hd:∀ q,H q=none→Q (.ref q) (upd H q (.lst ((x.cps.toList.filter p).map f)))):CompGoal (Its x) k σ H g tt te Q:=by
 have hlen:x.cps.toList.length=x.length:=by rw [Ya];rfl
 refine comp_by (J:=Its x) (n:=x.length) (fun i ys H'=>H'=H∧ys=((x.cps.toList.take i).filter p).map f) ⟨rfl,rfl⟩ (fun i ys H' lt _=>lt) (fun ys H' _=>Z7 _) (fun i ys H' hi q=>?_) ?_ ?_
 ·obtain ⟨_,rfl⟩:=q;rw [Z0];have a:=Y5 p (x.cps.toList.take i);have b:=Zw i x.cps.toList;omega
 ·rintro i ys H' v H2 lt ⟨rfl,rfl⟩ ⟨rfl,c,hc,rfl⟩ N hN;have hc':x.cps.toList[i]? = some c:=by rw [Array.getElem?_toList];exact hc
  refine hs c _ _ (fun e=>hN _ _ ⟨rfl,?_⟩) (fun e=>hN _ _ ⟨rfl,?_⟩)
  ·rw [Z4,hc',Y2];simp [e]
  ·rw [Z4,hc',Y2];simp [e]
 ·rintro ys H' ⟨rfl,rfl⟩ q hq;rw [← hlen,Za];exact hd q hq
theorem zAe {K:PySem.W.Frag}{a:Addr}{xs:List V}{k:Nat}{σ : St}{H:Hp}{g:TG}{tt:TT}{te:TE}{Q:VK} (Pv:Nat→List V→Hp→Prop) (h0:Pv 0 [] H) (hl:∀ i ys H,Pv i ys H→SqL K H a xs)
  (hz:∀ i ys H,i≤xs.length→Pv i ys H→ys.length≤sizeLine)
  (hs:∀ i x ys H,xs[i]? = some x→Pv i ys H→∀ N:List V→Hp→Prop,(∀ ys H,Pv (i + 1) ys H→N ys H)→g x (σ++List.replicate k none) H fun σ2 H2=>tt σ2 H2 fun b H3=>if b=true then te σ2 H3 fun y H4=>N (ys++[y]) H4 else N ys H3)
  (hd:∀ ys H,Pv xs.length ys H→∀ p,H p=none→Q (.ref p) (upd H p (.lst ys))):CompGoal (Itl K a) k σ H g tt te Q:=by
 refine comp_by (J:=Itl K a) (n:=xs.length) Pv h0 (fun i ys H lt p=>⟨xs,xs[i],hl i ys H p,Z5 lt⟩) (fun ys H p=>⟨xs,hl _ ys H p,Z7 _⟩) hz ?_ hd;rintro i ys H x H' lt p ⟨rfl,y⟩ N hN;exact hs i x ys _ (y xs (hl _ _ _ p)) p N hN
theorem zEk {lo:Int}{n k:Nat}{σ : St}{H:Hp}{g:TG}{tt:TT}{te:TE}{Q:VK} (Pv:Nat→List V→Hp→Prop) (h0:Pv 0 [] H)
  (hz:∀ i ys H,i≤n→Pv i ys H→ys.length≤sizeLine)
  (hs:∀ i ys H,i < n→Pv i ys H→∀ N:List V→Hp→Prop,(∀ ys H,Pv (i + 1) ys H→N ys H)→g (.int (lo + i)) (σ++List.replicate k none) H fun σ2 H2=>tt σ2 H2 fun b H3=>if b=true then te σ2 H3 fun y H4=>N (ys++[y]) H4 else N ys H3)
  (hd:∀ ys H,Pv n ys H→∀ p,H p=none→Q (.ref p) (upd H p (.lst ys))):CompGoal (Itr lo n) k σ H g tt te Q:=by
 refine comp_by (J:=Itr lo n) (n:=n) Pv h0 (fun i ys H lt p=>lt) (fun ys H p=>Z7 _) hz ?_ hd;rintro i ys H x H' lt p ⟨rfl,rfl⟩ N hN;exact hs i ys _ lt p N hN
theorem pick {A B:St→Hp→Prop}{σ : St}{H:Hp}{i:Nat}{x:V} (h:A (σ.set i (some x)) H):gName i x σ H fun σ2 H2=>tYes σ2 H2 fun b H3=>if b=true then A σ2 H3 else B σ2 H3:=by
 show if true=true then A (σ.set i (some x)) H else B (σ.set i (some x)) H
 rw [if_pos rfl];exact h
theorem Fun.okC {P:Program}{w:World}{K:PySem.W.Frag}{mg:Str→Option Value}{base:Heap}{CX:CXT}{x qual:Str}{st:Stmt}{f:Addr}{fd:FuncData}{N ps:List Str}{k:Nat}{sp:Sp} (F:Fun K x qual st f fd) (S:FnScope N ps (defScope st)) (len:∀ vs H Q E,sp vs H Q E→vs.length=ps.length)
  (hbody:∀ (cdv:Value) (A:Around) (outer:List Env) (s:Shared) (H:Hp) (vs:List V) (Q:VK) (E:XK),Room k (A.deeper (envOfC qual (defScope st) s.heap.objs.size f cdv))→sp vs H Q E →
   ∃ t,PSs (cxOf CX P w K mg base N qual (defScope st) f cdv A outer s H E).nox (defBody st) t∧t { nx:=fun _ H'=>Q .non H',rt:=Q } (start N vs) H):FnOk P w K mg base CX (k + 1) f fd ps sp:=by
 obtain ⟨oc,od,kV,doc,pm,an,cdv,ct,osl,rfl,lk,hcd⟩:=F.ex;refine zF8 lk hcd S len fun A outer s H vs Q E hr hsp=>?_;obtain ⟨t,h,q⟩:=hbody cdv A outer s H vs Q E hr hsp;exact ⟨t,h.nox,q⟩
noncomputable def Calm (CX:CXT):Prop:=∀ o H s e s',CX o H s (fun _ _ _=>False) e s'→False
theorem passC {CX:CXT} (h:Calm CX) {X:Cx}:Passes CX X E0:=fun _ _ _ _ _ _ _ q=>(h _ _ _ _ _ q).elim
structure Def (K:PySem.W.Frag) (mg:Str→Option Value) (x:Str) (st:Stmt) (ps:List Str) (f:Addr) (fd:FuncData):Prop where
 fn:Fun K x x st f fd
 at_:mg x=some (.ref f)
 bind:Binds K fd ps []
theorem Same.new {H:Hp}{p:Addr}{o:HO} (h:H p=none):Same H (upd H p o):=fun b u e=>by rw [zA9 (zA7 e h)];exact e
end L2
namespace L2
open PySem PySem.Spec PyProof.Rows
section
variable {X:Cx}{pins:List (Addr×Obj)}{σ : St}{H:Hp}{s:Shared}
end
section
variable {X:Cx}
end
end L2
namespace L2
open PySem PySem.Spec PyProof.Rows
section
variable {X:Cx}{K:PySem.W.Frag}{o e:Expr}{es:List Expr}{to ta tl:TE}{t:TA}{name f:Str}{apos cpos pos:Pos}{T id:String}{r:V→List V→Hp→VK→Prop}{tg:Expr}
theorem zCc (hK:X.K=K) (he:PE X e ta) (hb:attributeBase e f X.env (eval e X.env)=eval e X.env):PE X (.Attribute e f pos) (tFld K ta f):=by
 subst hK;exact zB2 he hb
theorem zDe (hK:X.K=K) {es:List Expr}{k:Nat}{t:TGs}{n:Nat} (hc:X.calm=true) (h:PGs X es t)
  (hn:(assignEach es X.env).length=n:=by rfl) (hst:(assignEach es X.env).findIdx? (·.1)=none:=by rfl):PG X (.Tuple es k pos) (gTup K n t):=by
 subst hK;exact zDt hc h hn hst
end
end L2
namespace L2
open PySem PySem.Spec PyProof.Rows
end L2
namespace L2
open PySem PySem.Spec PyProof.Rows
section
variable {X:Cx}
noncomputable def rCat2 (K:PySem.W.Frag):R2:=fun x y H Q=>∃ a b xs ys,x=.ref a∧y=.ref b∧SqT K H a xs∧SqT K H b ys∧xs.length + ys.length≤sizeLine ∧
 (xs=[]→Q (.ref b) H)∧(xs≠[]→ys=[]→Q (.ref a) H)∧(xs≠[]→ys≠[]→∀ p,H p=none→Q (.ref p) (upd H p (.tup (xs++ys))))
theorem zF2 {K:PySem.W.Frag} (hK:X.K=K):OpR X (binaryOp .Add) (rCat2 K):=by
 subst hK;intro pins s σ H x y v u Q I rx ry h;obtain ⟨a,b,xs,ys,rfl,rfl,ha,hb,hz,q0,q1,q2⟩:=h;cases rx;cases ry;obtain ⟨its,r1,p1,_⟩:=I.tuple ha;obtain ⟨its2,r2,p2,_⟩:=I.tuple hb;by_cases hx:xs=[]
 ·obtain ⟨⟨cls,dd,data,sl⟩,ho,hc,n,hd⟩:=id p1;obtain ⟨⟨cls2,dd2,data2,sl2⟩,ho2,hc2,n2,hd2⟩:=id p2;simp only at hc hd hc2 hd2;subst hc hd hc2 hd2;have hv:its=[]:=r1.nil_iff.mpr hx;exact concat_meets ⟨_,ho,rfl⟩ ⟨_,ho2,rfl⟩ noFill_tuple_add seq_tuple_add PySem.F.slot_tuple_add PySem.F.entry_tuple_add (PySem.F.args_tuple_add_2 _ _)
   (tuple_addW0 a b its.toArray its2.toArray n n2 dd dd2 sl sl2 (by simp [hv])) ⟨ho,ho2,.ref b,H,I,rfl,q0 hx⟩
 ·refine HT.cat_tup p1 p2 (fun z=>hx (r1.nil_iff.mp z)) (fun z=>⟨.ref a,H,I,rfl,q1 hx (r2.nil_iff.mp z)⟩) (fun z=>?_) (by rw [← r1.length,← r2.length];exact hz);refine ⟨.ref s.heap.objs.size,_,I.laid (t':=s.toks) (o:=.tup (xs++ys)) (fun b ob q=>Z1 _ q) (Z7 _) ?_,rfl,q2 hx (fun w=>z (r2.nil_iff.mpr w)) _ (I.hok.fresh (Z7 _))⟩;exact ⟨by rw [Zc];exact hz,_,r1.append r2,IsTup.new _ _⟩
end
end L2
namespace L2
open PySem PySem.Spec PyProof.Rows
noncomputable def Kept (h h':Heap):Prop:=∀ b o,h.get? b=some o→h'.get? b=some o
theorem Kept.trans {a b c:Heap} (x:Kept a b) (y:Kept b c):Kept a c:=fun p o e=>y p o (x p o e)
theorem Kept.push (h:Heap) (o:Obj):Kept h (h.push o):=fun _ _ e=>Z1 _ e
theorem Kept.same {g h h':Heap}{a:Addr} (k:Kept g h) (ha:g.objs.size≤a) (sb:Heap.SameBut a h h'):Kept g h':=fun b o e =>
 (sb.2 b (Zf (Z8 (Zd e) ha))).trans (k b o e)
theorem Kept.but {g h h':Heap}{a:Addr} (k:Kept g h) (ha:g.objs.size≤a) (sb:∀ b o,b∉[a]→h.get? b=some o→h'.get? b=some o):Kept g h':=fun b o e =>
 sb b o (fun z=>Zf (Z8 (Zd e) ha) (List.mem_singleton.mp z)) (k b o e)
noncomputable def ltS (a b:Str):Prop:=a.cps.toList < b.cps.toList
noncomputable instance (a b:Str):Decidable (ltS a b):=inferInstanceAs (Decidable (a.cps.toList < b.cps.toList))
theorem ltS_trans {a b c:Str} (x:ltS a b) (y:ltS b c):ltS a c:=List.lt_trans x y
section
variable {P:Program}{w:World}{A:Around}{E:Value→Shared→Prop}{z:Shared}{g:Heap}{l q I S:Addr}{vs:List Value}{R:Result→Shared→Prop}
noncomputable def KeyEnd (z:Shared) (h:Heap) (k:Str) (u:Value) (y:Shared):Prop:=∃ (h':Heap) (tk':Nat) (t:Tok),u=.str k t∧y={ z with heap:=h',toks:=tk' }∧Kept h h'
theorem min_loop (ks:Nat→Str) (hh:A.handled=none) (hl:g.IsList l vs.toArray) (hI:g.objs.size≤I) (hS:g.objs.size≤S) (ne:S≠I)
  (turn:∀ i v,vs[i]? = some v→∀ (h:Heap) (tk:Nat),Kept g h→wpAny (model P w) A.in1 (call (.ref q) [v]) (KeyEnd z h (ks i)) (fun _ _=>False) { z with heap:=h,toks:=tk })
  (fin:∀ i v h tk,vs[i]? = some v→(∀ j,j < vs.length→¬ ltS (ks j) (ks i))→Kept g h→R (.ok (.ret v)) { z with heap:=h,toks:=tk }) :
  ∀ (r j i:Nat) (h:Heap) (tk:Nat) (b:Value) (t:Tok) (n:Nat),vs.length - (j + 1)=r→j + 1≤vs.length→Kept g h→h.get? S=some (seqObj "list" #[b,.str (ks i) t] n)→h.IsListIter I l (j + 1) →
   vs[i]? = some b→i≤j→(∀ k,k≤j→¬ ltS (ks k) (ks i))→codeAny (model P w) A (.builtin "min.loop" ⟨[.ref I,.ref q,.ref S],[]⟩) R { z with heap:=h,toks:=tk }:=by
 have nm:(toString "min"++toString ".loop" : String) = "min.loop":=by decide
 have hlI:l≠I:=by
  obtain ⟨o,e,_⟩:=hl;exact Zf (Z8 (Zd e) hI)
 have W:=Walks.list (prog:=P) (w:=w) (A:=A.in1) hh I l hlI vs.toArray;have sz:vs.toArray.size=vs.length:=by simp
 have lst:∀ {h},Kept g h→h.IsList l vs.toArray:=fun {h} k=>by
  obtain ⟨o,e,r⟩:=hl;exact ⟨o,k _ _ e,r⟩
 intro r
 induction r with
 | zero =>
  intro j i h tk b t n hr hj k hs it hb hij best;have hin:j + 1=vs.length:=by omega
  refine codeAny_builtin PySem.F.entry_min_loop ?_;rw [Around.under_plainId PySem.F.plain_min_loop _];show wpAny _ A.in1 (seqItems? (Value.ref S) >>= _) _ _ _;refine wpAny_bind (wpAny_seqItems hs rfl ?_);show wpAny _ A.in1 (tryCatch (pyNext (Value.ref I)) _ >>= _) _ _ _;refine wpAny_bind (wpAny_tryCatch (W.done _ _ _ ⟨by rw [sz,← hin];exact it,lst k⟩ fun h1 tk1 k1=>?_));have e1:=k1 S _ (by simpa using ne) hs;show wpAny _ A.in1 (updateSeq S (fun _=>(#[]:Array Value)) >>= _) _ _ _;refine wpAny_bind (wpAny_updateSeq e1 rfl (wpAny_bind (wpAny_letGo (wpAny_pure ?_))));exact fin i b _ _ hb (fun k' hk=>best k' (by omega)) ((k.but hI k1).same hS (Heap.SameBut.update h1 S _))
 | succ r ih =>
  intro j i h tk b t n hr hj k hs it hb hij best;have hlt:j + 1 < vs.length:=by omega
  refine codeAny_builtin PySem.F.entry_min_loop ?_;rw [Around.under_plainId PySem.F.plain_min_loop _];show wpAny _ A.in1 (seqItems? (Value.ref S) >>= _) _ _ _;refine wpAny_bind (wpAny_seqItems hs rfl ?_);show wpAny _ A.in1 (tryCatch (pyNext (Value.ref I)) _ >>= _) _ _ _;refine wpAny_bind (wpAny_tryCatch (W.item (j + 1) _ _ _ (by rw [sz];exact hlt) ⟨it,lst k⟩ fun v h1 tk1 hp st k1=>?_));have hv:vs[j + 1]? = some v:=by simpa using hp
  have e1:=k1 S _ (by simpa using ne) hs;have kg:=k.but hI k1;show wpAny _ A.in1 (tryCatch (holding [v] (call (Value.ref q) [v])) _ >>= _) _ _ _;refine wpAny_bind (wpAny_tryCatch (wpAny_holding (wpAny_mono (turn (j + 1) v hv h1 tk1 kg) (fun u y he=>?_) fun _ _ f=>f.elim)));obtain ⟨h2,tk2,t2,rfl,rfl,k2⟩:=he;have e2:=k2 S _ e1;have it2:h2.IsListIter I l (j + 1 + 1):=st.1.at fun o e=>k2 _ _ e;have kg2:=kg.trans k2;show wpAny _ A.in1 (tryCatch (holding [v,Value.str (ks (j + 1)) t2] (richCompare .Lt (Value.str (ks (j + 1)) t2) (Value.str (ks i) t) >>= _)) _ >>= _) _ _ _;refine wpAny_bind (wpAny_tryCatch (wpAny_holding (wpAny_bind (show wpAny _ _ (compareOp .Lt (Value.str (ks (j + 1)) t2) (Value.str (ks i) t)) _ _ _ from lt_str ?_))));refine wpAny_bind (wpAny_holding (wpAny_truthy_bool ?_));refine wpAny_bind (wpAny_letGo (wpAny_pure ?_));by_cases c:ltS (ks (j + 1)) (ks i)
  ·have c':(ks (j + 1)).cps.toList < (ks i).cps.toList:=c;obtain ⟨n2,g2⟩:∃ n2,(h2.update S (Obj.mapSeq fun _=>#[v,Value.str (ks (j + 1)) t2])).get? S=some (seqObj "list" #[v,Value.str (ks (j + 1)) t2] n2):=⟨_,get?_update_seq e2 fun _=>#[v,Value.str (ks (j + 1)) t2]⟩;have s2:=Heap.SameBut.update h2 S (Obj.mapSeq fun _=>#[v,Value.str (ks (j + 1)) t2]);simp only [c',decide_true,if_true];refine wpAny_bind (wpAny_updateSeq e2 rfl (wpAny_bind (wpAny_letGo ?_)));rw [nm];refine wpAny_pure ⟨plainId_quiet PySem.F.plain_min_loop _,ih (j + 1) (j + 1) _ _ v t2 n2 (by omega) hlt (kg2.same hS s2) g2 (it2.at fun o e=>(s2.2 I (Ne.symm ne)).trans e) hv (Z7 _) fun k' hk=>?_⟩;by_cases e:k'=j + 1
   ·subst e;exact fun z=>List.lt_irrefl _ z
   ·exact fun z=>best k' (by omega) (ltS_trans z c)
  ·have c':¬ (ks (j + 1)).cps.toList < (ks i).cps.toList:=c;simp only [c',decide_false,Bool.false_eq_true,if_false];refine wpAny_bind (wpAny_letGo ?_);rw [nm];refine wpAny_pure ⟨plainId_quiet PySem.F.plain_min_loop _,ih (j + 1) i _ _ b t n (by omega) hlt kg2 e2 it2 hb (by omega) fun k' hk=>?_⟩;by_cases e:k'=j + 1
   ·subst e;exact c
   ·exact best k' (by omega)
theorem min_key {Q:Value→Shared→Prop} (ks:Nat→Str) (hh:A.handled=none) (hl:z.heap.IsList l vs.toArray) (h0:0 < vs.length)
  (turn:∀ i v,vs[i]? = some v→∀ (h:Heap) (tk:Nat),Kept z.heap h→wpAny (model P w) A.in1 (call (.ref q) [v]) (KeyEnd z h (ks i)) (fun _ _=>False) { z with heap:=h,toks:=tk })
  (fin:∀ i v h tk,vs[i]? = some v→(∀ j,j < vs.length→¬ ltS (ks j) (ks i))→Kept z.heap h→Q v { z with heap:=h,toks:=tk }) :
  wpAny (model P w) A (call (.builtin "min") [.ref l] [(Str.ofString "key",.ref q)]) Q E z:=by
 have nm:(toString "min"++toString ".loop" : String) = "min.loop":=by decide
 refine kmk_tree PySem.F.kind_min PySem.F.plain_min PySem.F.entry_min (kmk_min_key _ _) ?_;show wpAny _ A.in1 (Builtin.Builtins.bindParams "min" ["key", "default"] 0 ⟨[],[(Str.ofString "key",Value.ref q)]⟩ >>= _) _ _ z;refine wpAny_bind (wpAny_of_eq (show Builtin.Builtins.bindParams "min" ["key", "default"] 0 ⟨[],[(Str.ofString "key",Value.ref q)]⟩=pure [some (Value.ref q),none] from rfl) ?_);refine wpAny_bind (wpAny_pure (wpAny_bind (wpAny_pyIter_list hl (wpAny_bind (wpAny_newList ?_ (Zm _))))));rw [nm];refine wpAny_pure ⟨plainId_quiet PySem.F.plain_min_loop _,?_⟩
 let oI:Obj:={ cls:=.type "list_iterator",data:=.fields #[.ref l,.int 0 0] }
 have sz1:(z.heap.push oI).objs.size=z.heap.objs.size + 1:=Yi ..;have gI:((z.heap.push oI).push (seqObj "list" #[] 0)).get? z.heap.objs.size=some oI:=Z1 _ (Zh _ rfl);have gS:((z.heap.push oI).push (seqObj "list" #[] 0)).get? (z.heap.push oI).objs.size=some (seqObj "list" #[] 0):=Zh _ rfl;have kk:Kept z.heap ((z.heap.push oI).push (seqObj "list" #[] 0)):=(Kept.push _ _).trans (Kept.push _ _);have hI:z.heap.objs.size≤z.heap.objs.size:=Z7 _;have hS:z.heap.objs.size≤(z.heap.push oI).objs.size:=by rw [sz1];exact Nat.le_succ _
 have ne:(z.heap.push oI).objs.size≠z.heap.objs.size:=by rw [sz1];exact Nat.succ_ne_self _
 have hlI:l≠z.heap.objs.size:=by
  obtain ⟨o,e,_⟩:=hl;exact Zf (Zd e)
 have W:=Walks.list (prog:=P) (w:=w) (A:=A.in1) hh z.heap.objs.size l hlI vs.toArray;have sz:vs.toArray.size=vs.length:=by simp
 have lst:∀ {h},Kept z.heap h→h.IsList l vs.toArray:=fun {h} k=>by
  obtain ⟨o,e,r⟩:=hl;exact ⟨o,k _ _ e,r⟩
 refine codeAny_builtin PySem.F.entry_min_loop ?_;rw [Around.under_plainId PySem.F.plain_min_loop _];show wpAny _ A.in1 (seqItems? (Value.ref (z.heap.push oI).objs.size) >>= _) _ _ _;refine wpAny_bind (wpAny_seqItems gS rfl ?_);show wpAny _ A.in1 (tryCatch (pyNext (Value.ref z.heap.objs.size)) _ >>= _) _ _ _;refine wpAny_bind (wpAny_tryCatch (W.item 0 _ _ _ (by rw [sz];exact h0) ⟨⟨_,gI,rfl,rfl⟩,lst kk⟩ fun v h1 tk1 hp st k1=>?_));have hv:vs[0]? = some v:=by simpa using hp
 have e1:=k1 _ _ (by simpa using ne) gS;have kg:=kk.but hI k1;show wpAny _ A.in1 (tryCatch (holding [v] (call (Value.ref q) [v])) _ >>= _) _ _ _;refine wpAny_bind (wpAny_tryCatch (wpAny_holding (wpAny_mono (turn 0 v hv h1 tk1 kg) (fun u y he=>?_) fun _ _ f=>f.elim)));obtain ⟨h2,tk2,t2,rfl,rfl,k2⟩:=he;have e2:=k2 _ _ e1;have s2:=Heap.SameBut.update h2 (z.heap.push oI).objs.size (Obj.mapSeq fun _=>#[v,Value.str (ks 0) t2]);obtain ⟨n2,g2⟩:∃ n2,(h2.update (z.heap.push oI).objs.size (Obj.mapSeq fun _=>#[v,Value.str (ks 0) t2])).get? (z.heap.push oI).objs.size=some (seqObj "list" #[v,Value.str (ks 0) t2] n2):=⟨_,get?_update_seq e2 fun _=>#[v,Value.str (ks 0) t2]⟩;show wpAny _ A.in1 (updateSeq (z.heap.push oI).objs.size (fun _=>#[v,Value.str (ks 0) t2]) >>= _) _ _ _;refine wpAny_bind (wpAny_updateSeq e2 rfl ?_);rw [nm];refine wpAny_pure ⟨plainId_quiet PySem.F.plain_min_loop _,min_loop ks hh hl hI hS ne turn fin _ 0 0 _ _ v t2 n2 rfl h0 ((kg.trans k2).same hS s2) g2 ((st.1.at fun o e=>k2 _ _ e).at fun o e=>(s2.2 _ (Ne.symm ne)).trans e) hv (Z7 _) fun k' hk=>?_⟩;have:k'=0:=by omega
 subst this;exact fun z=>List.lt_irrefl _ z
end
end L2
namespace L2
open PySem PySem.Spec PyProof.Rows
noncomputable def CodeO (c:Addr) (q:Str):HO:=.ext fun h=>h.CodeRec (.ref c) q
noncomputable def TabOk (H:Hp) (P:Addr) (pos:Pos) (q:Str):Prop:=H P=some (.tbl #[])∨∃ c,H P=some (.tbl #[rawInt pos.line,rawInt pos.col,.ref c])∧H c=some (CodeO c q)
noncomputable def GrownBut (P:Addr) (H H':Hp):Prop:=∀ b o,H b=some o→b≠P→H' b=some o
theorem TabOk.ne {H:Hp}{P:Addr}{pos:Pos}{q:Str} (T:TabOk H P pos q) {a:Addr}{o:HO} (e:H a=some o) (h:∀ ps,o≠.tbl ps):a≠P:=by
 rintro rfl;rcases T with z | ⟨c,z,_⟩ <;> rw [e] at z <;> exact h _ (Zk z)
theorem TabOk.stay {H H':Hp}{P:Addr}{pos:Pos}{q:Str} (T:TabOk H P pos q) (k:∀ b o,H b=some o→H' b=some o):TabOk H' P pos q:=by
 rcases T with z | ⟨c,z,y⟩
 ·exact .inl (k _ _ z)
 ·exact .inr ⟨c,k _ _ z,k _ _ y⟩
theorem TabOk.but {H H':Hp}{P:Addr}{pos:Pos}{q:Str}{p:Addr}{u:HO} (T:TabOk H P pos q) (hp:H p=some u) (h1:∀ ps,u≠.tbl ps) (h2:∀ f,u≠.ext f) (k:∀ b o,H b=some o→b≠p→H' b=some o):TabOk H' P pos q:=by
 have n1:=T.ne hp h1;rcases T with z | ⟨c,z,y⟩
 ·exact .inl (k _ _ z (Ne.symm n1))
 ·refine .inr ⟨c,k _ _ z (Ne.symm n1),k _ _ y ?_⟩;rintro rfl;rw [hp] at y;exact h2 _ (Zk y)
noncomputable def BltAt (mg:Str→Option Value) (base:Heap):Prop:=∃ (bm:Addr) (ob:Obj),mg "__builtins__" = some (.ref bm)∧bm≠builtinsNs∧bm≠mainGlobals∧base.get? bm=some ob∧ob.cls=.type "module"∧ob.dict=some builtinsNs∧ob.data=.plain
structure LamTxt (K:PySem.W.Frag) (mg:Str→Option Value) (base:Heap) (c P:Addr):Prop where
 hd:PySem.W.codeHdIn K c P=true
 blt:BltAt mg base
section
variable {X:Cx}{pins:List (Addr×Obj)}{σ : St}{H:Hp}{s:Shared}{A:Around}{E:Value→Shared→Prop}
theorem zD2 {c:Addr}{q:Str}:∀ h1 h2:Heap,h1.CodeRec (.ref c) q→(∀ o,h1.get? c=some o→h2.get? c=some o)→h2.CodeRec (.ref c) q:=fun h1 h2 ⟨c',o,vs,t,e,ho,r⟩ k=>by
 cases e;exact ⟨c,o,vs,t,rfl,k o ho,r⟩
theorem lam_made {params:Arguments}{body:Expr}{scope:Scope}{pos:Pos}{c P:Addr}{q:Str}{Q:Value→Shared→Prop} (I:Inv X pins σ H s) (T:LamTxt X.K X.mg X.base c P) (hcode:X.env.code=.ref c) (hq:X.env.qual++"<lambda>" = q)
  (hcl:closureFor scope X.env=pure []) (hdef:defaultsOf params X.env=([],[])) (W:TabOk H P pos q)
  (h:∀ (H':Hp) (s':Shared) (f c':Addr) (pm ctv:Value),Inv X pins σ H' s'→s'.heap.get? f=some (PySem.W.kla_obj "<lambda>" q params body scope [] pm c' ctv)→s'.heap.CodeRec (.ref c') q→TabOk H' P pos q→GrownBut P H H'→Q (.ref f) s') :
  wpAny (model X.prog X.w) A (eval (.Lambda params body scope pos) X.env) Q E s:=by
 subst hq;refine PySem.W.kla_eval hdef ?_;obtain ⟨bm,ob,e1,e3,e4,e2,e5,e6,e7⟩:=T.blt;have hbP:bm≠P:=by
  rintro rfl;have:=(I.bs _ _ e2).2;rcases W with z | ⟨c',z,_⟩ <;> rw [this] at z <;> cases z
 have hb:s.heap.BuiltinsAt X.mg P:=⟨bm,ob,e1,e3,e4,hbP,I.bk _ _ e2,e5,e6,e7⟩;have hg:=I.mod.glob.keeps I.bk;have C:=PySem.W.codeHd_of_K I.kIn T.hd;have tab:∀ {ps},H P=some (.tbl ps)→s.heap.get? P=some (PySem.W.tabObj ps):=fun {ps} e=>I.hok P _ e;have hgP:mainGlobals≠P:=by
  rintro rfl;obtain ⟨o,es,ep,ho,hd,_⟩:=hg;rcases W with z | ⟨c',z,_⟩ <;> (rw [tab z] at ho;cases ho;cases hd)
 rcases W with z | ⟨c',z,y⟩
 ·refine PySem.W.kla_makeFunction hcl I.ok.glob hg hcode C (tab z) trivial rfl hgP hb fun c' ctv h' tk hx hge hlt hrec htb=>?_;have fc:H c'=none:=I.hok.fresh hge;have nP:c'≠P:=Ne.symm (zA7 z fc)
  let H':Hp:=upd (upd H P (.tbl #[rawInt pos.line,rawInt pos.col,.ref c'])) c' (CodeO c' (X.env.qual++"<lambda>"))
  have hP':H' P=some (.tbl #[rawInt pos.line,rawInt pos.col,.ref c']):=by show upd _ _ _ _=_;rw [zA9 (Ne.symm nP),zA1]
  have hc':H' c'=some (CodeO c' (X.env.qual++"<lambda>")):=zA1;have gr:∀ b o,H b=some o→b≠P→H' b=some o:=fun b o e nb=>by
   show upd _ _ _ _=_;rw [zA9 (zA7 e fc),zA9 nb];exact e
  have I1:Inv X pins σ H' { s with heap:=h',toks:=tk }:=by
   refine I.step (g':=s.gens) (d':=s.drawn) (ch:=[]) (fun _ m=>nomatch m) (fun b o _ _ _ e n=>hx b o (Ne.symm (zA7 z n)) e) (fun b o _ _ _ e n=>⟨o.slots,hx b o (Ne.symm (zA7 z n)) e⟩) (fun b o _ e n=>?_) (fun b o _ e=>?_)
    (fun b xs e=>gr b _ e fun k=>by subst k;rw [z] at e;cases e) (fun b o u e=>gr b _ e fun k=>by subst k;rw [z] at e;cases e) (fun b ps e=>?_) (fun m hm=>?_) (fun b u e=>?_) I.bare
   ·show upd _ _ _ _=_;rw [zA9 (Zf (Z8 (Zd e) hge)),zA9 (Ne.symm (zA7 z n))];exact n
   ·by_cases k:b=P
    ·subst k;exact ⟨_,htb⟩
    ·exact ⟨o,hx b o k e⟩
   ·by_cases k:b=P
    ·subst k;rw [z] at e;cases e;exact ⟨#[rawInt pos.line,rawInt pos.col,.ref c'],by rw [hP'];rfl⟩
    ·exact ⟨#[],by rw [gr b _ e k];simp⟩
   ·exact hm.extBut hx fun k=>by have:=I.free;rw [k,z] at this;cases this
   ·by_cases k1:b=c'
    ·subst k1;rw [hc'] at e;cases e;obtain ⟨_,o,_,_,e',ho,_⟩:=id hrec;cases e';exact ⟨hrec,⟨o,ho⟩,zD2⟩
    ·by_cases k2:b=P
     ·subst k2;rw [hP'] at e;cases e;exact htb
     ·have e':H b=some u:=by
       have e2:upd (upd H P _) c' _ b=some u:=e
       rwa [zA9 k1,zA9 k2] at e2
      refine (I.hok b u e').stay (fun d v hd' r=>hx d v ?_ r) (fun d r=>gr d _ r ?_) fun d xs r=>gr d _ r ?_
      ·rcases hd' with k | k
       ·rw [k];exact k2
       ·rintro rfl;rw [z] at k;cases k
      ·rintro rfl;rw [z] at r;cases r
      ·rintro rfl;rw [z] at r;cases r
  have I2:Inv X pins σ H' { s with heap:=h'.push _,toks:=tk }:=I1.kept (t':=tk) (h':=h'.push (PySem.W.kla_obj "<lambda>" (X.env.qual++"<lambda>") params body scope [] ((X.mg "__name__").getD .none) c' ctv)) fun b u e=>Z1 _ e;refine h H' _ h'.objs.size c' ((X.mg "__name__").getD .none) ctv I2 (Zh _ rfl) ?_ (.inr ⟨c',hP',hc'⟩) gr;exact zD2 h' _ hrec fun o e=>Z1 _ e
 ·refine PySem.W.kla_makeFunctionHit (cv:=.ref c') hcl I.ok.glob hg hcode C (tab z) trivial ?_ hb fun ctv h' tk kk sz=>?_
  ·simp [codeAmong,rawInt]
  ·have I2:Inv X pins σ H { s with heap:=h'.push _,toks:=tk }:=I.kept (t':=tk) (h':=h'.push (PySem.W.kla_obj "<lambda>" (X.env.qual++"<lambda>") params body scope [] ((X.mg "__name__").getD .none) c' ctv)) fun b u e=>Z1 _ (kk b u e);refine h H _ h'.objs.size c' ((X.mg "__name__").getD .none) ctv I2 (Zh _ rfl) ?_ (.inr ⟨c',z,y⟩) fun b o e _=>e;obtain ⟨hr,_,_⟩:=I.hok c' _ y;exact zD2 s.heap _ hr fun o e=>Z1 _ (kk _ _ e)
end
structure LamSc (scope:Scope) (x:Str):Prop where
 co:scope.isCoroutine=false
 gen:scope.isGenerator=false
 kind:scope.kind=.function
 cell:∀ y∈scope.names,y.2≠.cell
 loc:scope.names.lookup x=some .local
section
variable {P:Program}{w:World}{A:Around}{z:Shared}
theorem lam_fld {f c':Addr}{nm q x fld k:Str}{params:Arguments}{p1 p2:Pos}{scope:Scope}{pm ctv v:Value} (ho:z.heap.get? f=some (PySem.W.kla_obj nm q params (.Attribute (.Name x p1) fld p2) scope [] pm c' ctv)) (hc:z.heap.CodeRec (.ref c') q)
  (hroom:A.depth < recursionLimit) (hlim:z.heap.NoLimit) (hb:bindArgs (PySem.W.kla_fn nm q params (.Attribute (.Name x p1) fld p2) scope [] pm (.ref c') ctv) ⟨[v],[]⟩=pure [(x,v)]) (S:LamSc scope x) (hx:(x == ("__debug__" : Str))=false)
  (hat:∀ env:Env,attributeBase (.Name x p1) fld env (eval (.Name x p1) env)=eval (.Name x p1) env)
  (hget:∀ (A':Around) (E':Value→Shared→Prop) (h:Heap) (tk:Nat),Kept z.heap h→wpAny (model P w) A' (getAttr v fld true) (fun u y=>∃ t tk',u=.str k t∧y={ z with heap:=h,toks:=tk' }) E' { z with heap:=h,toks:=tk }) :
  wpAny (model P w) A (call (.ref f) [v]) (KeyEnd z z.heap k) (fun _ _=>False) z:=by
 refine wpAny_call (PySem.W.kla_callFunE hroom ho rfl S.co S.gen rfl hc ?_);rw [hb];refine wpAny_pure (wpAny_newFunctionEnv S.cell (fun y hy=>by rw [List.mem_singleton.mp hy];exact S.loc) (fun h1 hns hsb=>?_) S.kind);have kk:Kept z.heap h1:=fun b o e=>(hsb.2 b (Zf (Zd e))).trans (Z1 _ e);refine ⟨hlim.keeps kk,PySem.W.kla_codeExpr (attr_of (hat _) (wpAny_Name (wpAny_loadName_local S.kind S.loc hns (v:=v) (by simp) ?_) hx))⟩;refine thn (hget _ _ h1 _ kk) fun u y ⟨t,tk',eu,ey⟩=>?_;exact ⟨h1,tk',t,eu,ey,kk⟩
end
noncomputable def tMinKey (K:PySem.W.Frag) (P:Addr) (pos:Pos) (q fld:Str) (ta:TA):TE:=fun σ H Q=>ta σ H fun vs H1=>∃ (l:Addr) (xs:List V) (ks:List Str),vs=[.ref l]∧SqL K H1 l xs∧0 < xs.length∧TabOk H1 P pos q∧ks.length=xs.length ∧
 (∀ (i:Nat) (v:V) (k:Str),xs[i]? = some v→ks[i]? = some k→∃ a C dx fs,v=.ref a∧H1 a=some (.ins C dx fs)∧Cls K C∧NoAttr K C fld∧fs.lookup fld=some (.str k)) ∧
 ∀ (i:Nat) (v:V) (k:Str) (H2:Hp),xs[i]? = some v→ks[i]? = some k→(∀ y∈ks,¬ ltS y k)→TabOk H2 P pos q→GrownBut P H1 H2→Q v H2
section
variable {X:Cx}
theorem zDu {e:Expr}{ta:TA}{x fld q:Str}{params:Arguments}{p p1 p2 lpos kpos pos:Pos}{scope:Scope}{c P:Addr} (T:LamTxt X.K X.mg X.base c P) (hcode:X.env.code=.ref c) (hr:Room 2 X.A) (hcm:X.calm=true) (hg:Gl X "min") (hm:X.mg "min" = none) (ha:PA X [e] ta)
  (S:LamSc scope x) (hq:X.env.qual++"<lambda>" = q:=by rfl) (hcl:closureFor scope X.env=pure []:=by rfl) (hdef:defaultsOf params X.env=([],[]):=by rfl)
  (hb:∀ (pm cd ctv v:Value),bindArgs (PySem.W.kla_fn "<lambda>" q params (.Attribute (.Name x p1) fld p2) scope [] pm cd ctv) ⟨[v],[]⟩=pure [(x,v)]:=by intros;rfl) (hx:(x == ("__debug__" : Str))=false:=by decide)
  (hat:∀ env:Env,attributeBase (.Name x p1) fld env (eval (.Name x p1) env)=eval (.Name x p1) env:=by intros;rfl)
  (he:backTo pos (starEach [e] X.env)=(false,eval e X.env) :: backTo pos (starEach [] X.env):=by rfl) (hpl:(backTo pos (starEach [e] X.env)).any (·.1)=false:=by rfl) :
  PE X (.Call (.Name "min" p) [e] [⟨some "key",.Lambda params (.Attribute (.Name x p1) fld p2) scope lpos,kpos⟩] pos) (tMinKey X.K P lpos q fld ta):=by
 intro pins s σ H Q I h;refine wpAny_Call_Name_kw (ld_blt I hg hm PyProof.Rows.boot_min ?_);refine PyProof.Rows.callWith_kw (thn (ha pos pins s σ H _ I h) fun us s1 ⟨vs,H1,I1,r1,q1⟩=>?_) he hpl rfl rfl;obtain ⟨l,xs,ks,rfl,hl,h0,W,hlen,hat1,fin⟩:=q1;obtain ⟨u,rfl,ru⟩:=v1 r1;cases (show u=Value.ref l from ru);refine PyProof.Rows.evalAll_cons (wpAny_bind (lam_made I1 T hcode hq hcl hdef W fun H2 s2 f c' pm ctv I2 ho hrec W2 gr=>wpAny_bind (wpAny_standAt (wpAny_pure ?_))));refine PyProof.Rows.evalAll_nil ?_;have hlP:SqL X.K H2 l xs:=by
  rcases hl with (z | ⟨o,z⟩) | z
  ·exact .inl (.inl (gr _ _ z (W.ne z (fun _ k=>nomatch k))))
  ·exact .inl (.inr ⟨o,gr _ _ z (W.ne z (fun _ k=>nomatch k))⟩)
  ·exact .inr z
 obtain ⟨its,rv,pl,_⟩:=I2.list hlP;have il:=rv.length;refine min_key (vs:=its) (fun i=>ks.getD i Str.empty) (I2.ok.hd hcm) pl.isList (by omega) (fun i v hv h tk kk=>?_) fun i v h tk hv hbest kk=>?_
 ·have hi:i < its.length:=(List.getElem?_eq_some_iff.mp hv).1;obtain ⟨y,hy⟩:∃ y,xs[i]? = some y:=⟨_,Z5 (by omega)⟩;obtain ⟨k,hk⟩:∃ k,ks[i]? = some k:=⟨_,Z5 (by omega)⟩;obtain ⟨u,hu,ry⟩:=rv.get hy;rw [hv] at hu;cases hu;obtain ⟨a,C,dx,fs,rfl,ea,cc,nn,lf⟩:=hat1 i y k hy hk;cases (show v=Value.ref a from ry);have ek:ks.getD i Str.empty=k:=by simp [hk]
  show wpAny _ _ _ (KeyEnd s2 h (ks.getD i Str.empty)) _ _;rw [ek];have I3:Inv X pins σ H2 { s2 with heap:=h,toks:=tk }:=I2.kept (t':=tk) kk;have ea2:H2 a=some (.ins C dx fs):=gr _ _ ea (W.ne ea (fun _ k=>nomatch k));refine lam_fld (z:={ s2 with heap:=h,toks:=tk }) (kk _ _ ho) (zD2 _ _ hrec fun o e=>kk _ _ e) hr.in1.depth I3.nolimit (hb _ _ _ _) S hx hat fun A' E' h2 tk2 k2=>?_;have I4:Inv X pins σ H2 { s2 with heap:=h2,toks:=tk2 }:=I3.kept (t':=tk2) k2;obtain ⟨mA,O,r,_,_,_⟩:=zE5 I4.hok ea2;obtain ⟨w',hw,rw'⟩:=RelO.some_of (v:=V.str k) (o:=mA fld) (by rw [← lf];exact r fld);obtain ⟨t,rfl⟩:=rw';exact get_map I4.kIn O (cc.get fld) cc.hd nn hw rfl ⟨t,_,rfl,rfl⟩
 ·have hi:i < its.length:=(List.getElem?_eq_some_iff.mp hv).1;obtain ⟨y,hy⟩:∃ y,xs[i]? = some y:=⟨_,Z5 (by omega)⟩;obtain ⟨k,hk⟩:∃ k,ks[i]? = some k:=⟨_,Z5 (by omega)⟩;obtain ⟨u,hu,ry⟩:=rv.get hy;rw [hv] at hu;cases hu;have ek:ks.getD i Str.empty=k:=by simp [hk]
  refine ⟨y,H2,I2.kept (t':=tk) kk,ry,fin i y k H2 hy hk (fun y' hy'=>?_) W2 gr⟩;obtain ⟨j,hj,ej⟩:=Zx hy';have:=hbest j (by omega);rw [ek] at this;have e2:ks.getD j Str.empty=y':=by simp [Z5 hj,ej]
  rw [e2] at this;exact this
end
end L2
namespace L2
open PySem PySem.Spec PyProof.Rows
theorem blt_of {p:Program}{loose:List Str}{mean:ExcName→Option Value}{mg mb:Str→Option Value}{h:Heap} (T:PyProof.Rows.Top p loose mean mg mb h):BltAt mg h:=by
 obtain ⟨bm,ob,b1,b2,b3,b4,b5,b6⟩:=T.bmain;refine ⟨bm,ob,b1,b2,fun q=>?_,b3,b4,b5,b6⟩;obtain ⟨o,es,ep,e,hd,_⟩:=T.g;rw [q,e] at b3;cases b3;rw [hd] at b6;cases b6
end L2
namespace L2
open PySem PySem.Spec PyProof.Rows
section
variable {X:Cx}
end
noncomputable def Froze (H:Hp) (d:Addr) (kvs:List (Key×V)) (H':Hp):Prop:=∃ o,H'=upd H d (.frz o (.dK kvs))
theorem Froze.at {H H':Hp}{d:Addr}{kvs:List (Key×V)} (z:Froze H d kvs H'):Rd H' d (.dK kvs):=by
 obtain ⟨o,rfl⟩:=z;exact .inr ⟨o,zA1⟩
theorem Froze.ne {H H':Hp}{d:Addr}{kvs:List (Key×V)} (z:Froze H d kvs H') {b:Addr} (h:b≠d):H' b=H b:=by
 obtain ⟨o,rfl⟩:=z;exact zA9 h
section
variable {X:Cx}{pins:List (Addr×Obj)}{σ : St}{H:Hp}{s:Shared}{d:Addr}{kvs:List (Key×V)}
end
theorem KV.get {κ : Type}:∀ {kvs:List (κ×V)}{vs:List (κ×Value)}{i:Nat}{k : κ}{x:V},KV kvs vs→kvs[i]? = some (k,x)→∃ u,vs[i]? = some (k,u)∧RelV x u
 | _,_,_,_,_,.nil,e=>by simp at e
 | _,_,0,k,x,.cons (b:=b) r _,e=>by
  simp at e;obtain ⟨k',u⟩:=b;subst e;obtain ⟨e1,e2⟩:=r;exact ⟨u,by simp at e1;simp [e1],e2⟩
 | _,_,i + 1,k,x,.cons _ t,e=>by
  obtain ⟨u,h1,h2⟩:=KV.get (i:=i) (k:=k) (x:=x) t (by simpa using e);exact ⟨u,by simpa using h1,h2⟩
theorem KV.len {κ : Type}{kvs:List (κ×V)}{vs:List (κ×Value)} (h:KV kvs vs):kvs.length=vs.length:=Paired.length h
theorem key_rel {k:Key}{v:Value} (h:keyIs k v=true):RelV (kV k) v:=by
 rcases zB5 h with ⟨i,t,rfl,rfl⟩ | ⟨x,t,rfl,rfl⟩
 ·exact ⟨t,rfl⟩
 ·exact ⟨t,rfl⟩
section
variable {X:Cx}{tg:Expr}
theorem zEb:CallR X (.type "list") (fun vs H Q=>∃ d kvs,vs=[.ref d]∧Rd H d (.dK kvs)∧X.calm=true∧∀ p,H p=none→Q (.ref p) (upd H p (.lst (kvs.map fun kv=>kV kv.1)))):=by
 intro pins s σ H vs us Q I rv h;obtain ⟨d,kvs,rfl,rd,hc,q⟩:=h;obtain ⟨u,rfl,ru⟩:=v1 rv;cases (show u=Value.ref d from ru);obtain ⟨hz,lo,ks,kv,dd⟩:=zFa I.hok rd;obtain ⟨o,es,ep,g,ex,hd,r⟩:=id dd;have da:s.heap.DictAt (mixKind X.prog X.w) d ks ep:=⟨o,es,g,ex,hd,r⟩;have kl:=kv.len;refine PySem.W.kdl_call (PySem.W.kdl_dict (knd:=mixKind X.prog X.w) (kvs:=ks) (ep:=ep) lo) (I.ok.hd hc) da (by omega) fun h' tk acc c' kk hS hacc=>?_;have fr:H s.heap.objs.size=none:=I.hok.fresh (Z7 _);refine ⟨.ref s.heap.objs.size,_,I.laid (t':=tk) (a:=s.heap.objs.size) (o:=.lst (kvs.map fun kv=>kV kv.1)) kk (Z7 _) ⟨by rw [Z0];exact hz,acc.toList,c',?_,by rw [Array.toArray_toList];exact hS⟩,rfl,q _ fr⟩;have ln:acc.toList.length=kvs.length:=by rw [Ya,kl];exact hacc.1
 have all:∀ (j:Nat) (v:Value),acc.toList[j]? = some v→∃ k x,kvs[j]? = some (k,x)∧RelV (kV k) v:=fun j v e=>by
  obtain ⟨k,x,e2,hk⟩:=hacc.2 j v (by rw [← Array.getElem?_toList];exact e);have hj:j < kvs.length:=by rw [← ln];exact (List.getElem?_eq_some_iff.mp e).1
  obtain ⟨⟨k',x'⟩,hk'⟩:∃ p,kvs[j]? = some p:=⟨_,Z5 hj⟩;obtain ⟨u',hu',_⟩:=kv.get hk';rw [e2] at hu';cases hu';exact ⟨k,x',hk',key_rel hk⟩
 clear hS hacc hz da dd kk kl kv rd q;generalize acc.toList=ys at ln all
 induction kvs generalizing ys with
 | nil =>
  cases ys with
  | nil=>exact .nil
  | cons a b=>cases ln
 | cons p t ih =>
  cases ys with
  | nil=>cases ln
  | cons a b =>
   refine .cons ?_ (ih b (by simpa using ln) fun j v e=>?_)
   ·obtain ⟨k,x,e,q⟩:=all 0 a rfl;simp at e;subst e;exact q
   ·obtain ⟨k,x,e2,q⟩:=all (j + 1) v (by simpa using e);exact ⟨k,x,by simpa using e2,q⟩
end
end L2
namespace L2
open PySem PySem.Spec PyProof.Rows
theorem lk_list_keys:typeLookup (.type "list") "keys" = pure none:=by rw [typeLookup_type,builtinLookup_eq_fast];kernel_rfl
theorem entry_dul:entryFor table "dict.update.loop" = some Builtin.«dict.update.loop»:=entryFor_of_tree (by kernel_rfl)
theorem zD3:plainId "dict.update.loop" = true:=by decide +kernel
section
variable {P:Program}{w:World}{A:Around}{E:Value→Shared→Prop}
theorem no_keys {s:Shared}{a:Addr}{o:Obj}{xs:Array Value}{k:Nat}{Q:Option Value→Shared→Prop} (hx:s.heap.get? a=some o) (hc:o.cls=.type "list") (hdat:o.data=.seq xs k) (hd:o.dict=none) (hA:A.handled=none)
  (h:∀ h' tk,Kept s.heap h'→Q none { s with heap:=h',toks:=tk }):wpAny (model P w) A (getAttr? (.ref a) "keys") Q E s:=by
 obtain ⟨c,dct,dat,sl⟩:=o;simp only at hc hdat hd;subst hc hdat hd;obtain ⟨hp,g,d,tk,os⟩:=s;have hT:∀ n,(⟨hp,g,d,n,os⟩:Shared).TypeIs (.ref a) "list":=fun _=>⟨_,hx,rfl⟩;have f1:=sub_AttributeError;have f3:=F.slot_list_getattribute.lookup;have f4:=F.slot_list_getattribute.bind (.ref a);have f5:=am_list_getattr_none;unfold getAttr? getAttrBy? getAttrBy
 repeat (any_goals (first | assumption | exact hT _ | ((with_reducible show wpAny _ _ (call (Value.builtin "list.__getattribute__") _ _) _ _ _);refine call_meets F.slot_list_getattribute (hT _) am_entry_list_getattribute (F.args_list_getattribute_2 _ _) (meets_getattribute_miss_list a xs k sl "keys" _ lk_list_keys (by decide) (by size_fits)) ⟨hx,hA,fun h' tk' e hx'=>?_⟩) | wp_step))
 obtain ⟨t',u',he⟩:=hx'.there;show wpAny _ _ (getattributeRaised _ _ _ _ _ _ _) _ _ _;unfold getattributeRaised hookOrError attributeErrorLeaves
 repeat (any_goals (first | assumption | wp_step))
 exact h _ _ hx'.of.keeps
theorem zF4 {α : Type}{l:List α} (h:l.Nodup) {i j:Nat}{x : α} (a:l[i]? = some x) (b:l[j]? = some x):i=j:=by
 obtain ⟨h1,e1⟩:=List.getElem?_eq_some_iff.mp a;obtain ⟨h2,e2⟩:=List.getElem?_eq_some_iff.mp b;exact (List.getElem_inj h).mp (e1.trans e2.symm)
theorem pairs_loop {z:Shared}{g:Heap}{l I d:Addr}{its:List Value}{ps:List (Key×Value)}{R:Result→Shared→Prop} (hh:A.handled=none) (hl:g.IsList l its.toArray) (hI:g.objs.size≤I) (hd:g.objs.size≤d) (ne:d≠I) (hz:its.length≤sizeLine)
  (len:ps.length=its.length) (nd:(ps.map (·.1)).Nodup) (hp:∀ (i:Nat) (v:Value) (k:Key) (u:Value),its[i]? = some v→ps[i]? = some (k,u)→∃ (t:Addr) (y:Value),v=.ref t∧IsTup g t #[y,u]∧keyIs k y=true)
  (fin:∀ h tk,Kept g h→h.DictOf (mixKind P w) d ps→R (.ok (.ret .none)) { z with heap:=h,toks:=tk }) :
  ∀ (r i:Nat) (h:Heap) (tk:Nat),its.length - i=r→i≤its.length→Kept g h→h.DictOf (mixKind P w) d (ps.take i)→h.IsListIter I l i →
   codeAny (model P w) A (.builtin "dict.update.loop" ⟨[.ref d,.ref I,rawInt (i:Nat),.none],[]⟩) R { z with heap:=h,toks:=tk }:=by
 have hlI:l≠I:=by
  obtain ⟨o,e,_⟩:=hl;exact Zf (Z8 (Zd e) hI)
 have W:=Walks.list (prog:=P) (w:=w) (A:=A.in1) hh I l hlI its.toArray;have sz:its.toArray.size=its.length:=by simp
 have lst:∀ {h},Kept g h→h.IsList l its.toArray:=fun {h} k=>by
  obtain ⟨o,e,r⟩:=hl;exact ⟨o,k _ _ e,r⟩
 have dk:∀ {h h':Heap}{q:List (Key×Value)},h.DictOf (mixKind P w) d q→(∀ b o,b∉[I]→h.get? b=some o→h'.get? b=some o)→h'.DictOf (mixKind P w) d q:=fun ⟨o,es,ep,e,r⟩ k=>⟨o,es,ep,k _ _ (by simpa using ne) e,r⟩;intro r
 induction r with
 | zero =>
  intro i h tk hr hi k hm it;have hin:i=its.length:=by omega
  subst hin;refine codeAny_builtin entry_dul ?_;rw [Around.under_plainId zD3 _];show wpAny _ A.in1 (pyNext (Value.ref I) >>= _) _ _ _;refine wpAny_bind (W.done _ _ _ ⟨by rw [sz];exact it,lst k⟩ fun h1 tk1 k1=>?_);show wpAny _ A.in1 (Builtin.Dict.addKeywords d [] >>= _) _ _ _;refine wpAny_bind (wpAny_pure (wpAny_pure ?_));rw [← len,Za] at hm;exact fin _ _ (k.but hI k1) (dk hm k1)
 | succ r ih =>
  intro i h tk hr hi k hm it;have hlt:i < its.length:=by omega
  refine codeAny_builtin entry_dul ?_;rw [Around.under_plainId zD3 _];show wpAny _ A.in1 (pyNext (Value.ref I) >>= _) _ _ _;refine wpAny_bind (W.item i _ _ _ (by rw [sz];exact hlt) ⟨it,lst k⟩ fun v h1 tk1 hv st k1=>?_);have hv':its[i]? = some v:=by simpa using hv
  obtain ⟨⟨key,u⟩,hk⟩:∃ p,ps[i]? = some p:=⟨_,Z5 (by omega)⟩;obtain ⟨t,y,rfl,ht,hy⟩:=hp i v key u hv' hk;have kg:=k.but hI k1;have ht1:=ht.keeps kg;obtain ⟨o,ho,hc,n,hdt⟩:=id ht1;have hT:({ z with heap:=h1,toks:=tk1 }:Shared).TypeIs (.ref t) "tuple":=⟨o,ho,hc⟩;refine wpAny_bind (wpAny_holding (wpAny_bind (wpAny_tryCatch ?_)));unfold Builtin.Dict.pairItems;refine wpAny_bind (wpAny_typeOf hT ?_);rw [if_pos (by decide)];refine wpAny_bind (wpAny_seqItems ho hdt (wpAny_pure ?_));show wpAny _ A.in1 (holding [y,u] (dictSet d y u)) _ _ _;have hm1:=dk hm k1;have nk:key∉(ps.take i).map (·.1):=fun m=>by
   obtain ⟨q,hq,e⟩:=List.mem_map.mp m;obtain ⟨j,hj,ej⟩:=Zx hq;have hj':j < i:=by simp at hj;omega
   have e1:(ps.map (·.1))[j]? = some key:=by
    have:ps[j]? = some q:=by
     have:=Z5 hj;rw [List.getElem?_take_of_lt hj'] at this;rw [this,ej]
    simp [this,e]
   have e2:(ps.map (·.1))[i]? = some key:=by simp [hk]
   have:=zF4 nd e1 e2;omega
  have st1:stored (ps.take i) key u=ps.take (i + 1):=by
   have hany:¬ ((ps.take i).any fun kv=>decide (kv.1=key))=true:=by
    rw [List.any_eq_true];rintro ⟨kv,h1,h2⟩;exact nk (List.mem_map.mpr ⟨kv,h1,of_decide_eq_true h2⟩)
   rw [stored,if_neg hany,Z4,hk];rfl
  refine wpAny_holding (wpAny_dictSet_pairs (knd:=mixKind P w) (k:=key) hy hm1 (fun h2 hm2 sb=>?_) (by have:=Zw i ps;omega));rw [st1] at hm2;refine wpAny_pure ⟨plainId_quiet zD3 _,?_⟩;have e3:((i:Nat):Int) + 1=((i + 1:Nat):Int):=by push_cast;rfl
  show codeAny _ A (.builtin "dict.update.loop" ⟨[.ref d,.ref I,rawInt (((i:Nat):Int) + 1),.none],[]⟩) _ _;rw [e3];exact ih (i + 1) h2 _ (by omega) (by omega) (kg.same hd sb) hm2 (st.1.at fun o e=>(sb.2 I (Ne.symm ne)).trans e)
theorem call_pairs {z:Shared}{l:Addr}{its:List Value}{ps:List (Key×Value)}{Q:Value→Shared→Prop} (hh:A.handled=none) (hl:PlainL z.heap l its.toArray) (hz:its.length≤sizeLine)
  (len:ps.length=its.length) (nd:(ps.map (·.1)).Nodup) (hp:∀ (i:Nat) (v:Value) (k:Key) (u:Value),its[i]? = some v→ps[i]? = some (k,u)→∃ (t:Addr) (y:Value),v=.ref t∧IsTup z.heap t #[y,u]∧keyIs k y=true)
  (fin:∀ h tk,Kept z.heap h→h.DictOf (mixKind P w) z.heap.objs.size ps→Q (.ref z.heap.objs.size) { z with heap:=h,toks:=tk }) :
  wpAny (model P w) A (call (.type "dict") [.ref l]) Q E z:=by
 refine callType_codes (Q₁:=fun obj s₁=>obj=.ref z.heap.objs.size∧s₁ = { z with heap:=z.heap.push { cls:=.type "dict",data:=.dict #[] } }) F.kt_called_dict (F.kt_typeCall_dict_1 _) F.entry_dict_init (kt_code_dict_new _ ⟨rfl,rfl⟩) ?_;rintro obj s₁ ⟨rfl,rfl⟩;have hnew:(z.heap.push { cls:=.type "dict",data:=.dict #[] }).DictOf (mixKind P w) z.heap.objs.size []:=Heap.DictOf.new z.heap;have k0:Kept z.heap (z.heap.push { cls:=.type "dict",data:=.dict #[] }):=Kept.push _ _;obtain ⟨ol,n,el,cl,dl,sl⟩:=id hl;refine ⟨hnew.typeIs,F.args_dict_init_2 _ _,?_⟩;unfold Builtin.«dict.__init__»;refine wpAny_bind ?_;unfold Builtin.Dict.selfAndRest;refine wpAny_bind (wpAny_notOrdered_dict hnew.typeIs ?_);show wpAny _ _ (pure (z.heap.objs.size,[Value.ref l])) _ _ _;refine wpAny_pure ?_;show wpAny _ _ (Builtin.Dict.updateFrom "dict.__init__" z.heap.objs.size (.ref l) [] .none) _ _ _;unfold Builtin.Dict.updateFrom;have hT:({ z with heap:=z.heap.push { cls:=.type "dict",data:=.dict #[] } }:Shared).TypeIs (.ref l) "list":=⟨ol,k0 _ _ el,cl⟩;refine wpAny_bind (wpAny_typeOf hT ?_);rw [if_pos (by decide)];refine wpAny_bind (no_keys (k0 _ _ el) cl sl dl hh fun h1 tk1 k1=>?_);simp only [Option.isNone_none,if_true];have hl1:h1.IsList l its.toArray:=by
  obtain ⟨o,e,r⟩:=hl.isList;exact ⟨o,k1 _ _ (k0 _ _ e),r⟩
 refine wpAny_bind (wpAny_rule (wpAny_bind (wpAny_pyIter_list hl1 (wpAny_pure ⟨plainId_quiet zD3 _,?_⟩))));have sz1:z.heap.objs.size + 1≤h1.objs.size:=by
  have:=Zd (k1 _ _ (Zh z.heap (o:={ cls:=.type "dict",data:=.dict #[] }) rfl));exact this
 refine pairs_loop (g:=z.heap) (z:=z) (A:=A.in1) hh hl.isList (I:=h1.objs.size) (d:=z.heap.objs.size) (by omega) (Z7 _) (Zf (by omega)) hz len nd hp (fun h tk kk hm=>⟨rfl,fin h tk kk hm⟩) _ 0 _ _ rfl (Zm _) ((k0.trans k1).trans (Kept.push _ _)) ?_ ⟨_,Zh _ rfl,rfl,rfl⟩;obtain ⟨o,es,ep,e,r⟩:=hnew;exact ⟨o,es,ep,Z1 _ (k1 _ _ e),r⟩
end
section
variable {X:Cx}
theorem zE9 {K:PySem.W.Frag} (hK:X.K=K):CallR X (.type "dict") (fun vs H Q=>∃ (l:Addr) (ts:List Addr) (kvs:List (Key×V)),vs=[.ref l]∧SqL K H l (ts.map V.ref)∧X.calm=true∧(kvs.map (·.1)).Nodup∧kvs.length=ts.length ∧
  (∀ (i:Nat) (t:Addr) (k:Key) (v:V),ts[i]? = some t→kvs[i]? = some (k,v)→H t=some (.tup [kV k,v]))∧∀ p,H p=none→Q (.ref p) (upd H p (.dK kvs))):=by
 subst hK;intro pins s σ H vs us Q I rv h;obtain ⟨l,ts,kvs,rfl,hl,hc,nd,ln,ht,q⟩:=h;obtain ⟨u,rfl,ru⟩:=v1 rv;cases (show u=Value.ref l from ru);obtain ⟨its,rx,pl,hz⟩:=I.list hl;have il:=rx.length;simp only [Z0] at il hz;have one:∀ (i:Nat) (v:Value),its[i]? = some v→∃ (t:Addr) (k:Key) (x:V) (y u:Value),v=.ref t∧kvs[i]? = some (k,x)∧IsTup s.heap t #[y,u]∧keyIs k y=true∧RelV x u:=fun i v e=>by
  have hi:i < its.length:=(List.getElem?_eq_some_iff.mp e).1;obtain ⟨t,et⟩:∃ t,ts[i]? = some t:=⟨_,Z5 (by omega)⟩;obtain ⟨⟨k,x⟩,ek⟩:∃ p,kvs[i]? = some p:=⟨_,Z5 (by omega)⟩;obtain ⟨v',hv',r⟩:=rx.get (i:=i) (x:=.ref t) (by simp [et]);rw [e] at hv';cases hv';cases (show v=Value.ref t from r);obtain ⟨_,is,rr,it⟩:=I.hok t _ (ht i t k x et ek);obtain ⟨y,u,rfl,ry,ru⟩:=v2 rr;refine ⟨t,k,x,y,u,rfl,ek,it,?_,ru⟩;cases k with
  | inl n=>obtain ⟨tk,rfl⟩:=ry;exact keyIs_int n tk
  | inr z=>obtain ⟨tk,rfl⟩:=ry;exact keyIs_str z tk
 obtain ⟨ps,lp,hps⟩:∃ ps:List (Key×Value),ps.length=its.length∧∀ i,i < its.length→∃ (t:Addr) (k:Key) (x:V) (y u:Value),its[i]? = some (.ref t)∧kvs[i]? = some (k,x)∧IsTup s.heap t #[y,u]∧keyIs k y=true∧RelV x u∧ps[i]? = some (k,u):=by
  have:∀ i:Fin its.length,∃ p:Key×Value,∃ (t:Addr) (k:Key) (x:V) (y u:Value),its[i.1]? = some (.ref t)∧kvs[i.1]? = some (k,x)∧IsTup s.heap t #[y,u]∧keyIs k y=true∧RelV x u∧p=(k,u):=fun i=>by
   obtain ⟨v,hv⟩:∃ v,its[i.1]? = some v:=⟨_,Z5 i.2⟩;obtain ⟨t,k,x,y,u,rfl,h2,h3,h4,h5⟩:=one i.1 v hv;exact ⟨(k,u),t,k,x,y,u,hv,h2,h3,h4,h5,rfl⟩
  refine ⟨List.ofFn fun i=>(this i).choose,by simp,fun i hi=>?_⟩;obtain ⟨t,k,x,y,u,a1,a2,a3,a4,a5,a6⟩:=(this ⟨i,hi⟩).choose_spec;exact ⟨t,k,x,y,u,a1,a2,a3,a4,a5,by rw [List.getElem?_ofFn,dif_pos hi,a6]⟩
 have keys:ps.map (·.1)=kvs.map (·.1):=by
  refine List.ext_getElem? fun i=>?_;by_cases hi:i < its.length
  ·obtain ⟨t,k,x,y,u,a1,a2,a3,a4,a5,a6⟩:=hps i hi;simp [a2,a6]
  ·rw [List.getElem?_eq_none (by simp;omega),List.getElem?_eq_none (by simp;omega)]
 have kv:KV kvs ps:=by
  have:∀ (a:List (Key×V)) (b:List (Key×Value)),a.length=b.length→(∀ (i:Nat) (k:Key) (x:V) (k':Key) (u:Value),a[i]? = some (k,x)→b[i]? = some (k',u)→k=k'∧RelV x u)→KV a b:=by
   intro a
   induction a with
   | nil =>
    intro b hb _;cases b with
    | nil=>exact .nil
    | cons _ _=>cases hb
   | cons p t ih =>
    intro b hb hr;cases b with
    | nil=>cases hb
    | cons c d=>exact .cons (hr 0 p.1 p.2 c.1 c.2 rfl rfl) (ih d (by simpa using hb) fun i k x k' u h1 h2=>hr (i + 1) k x k' u (by simpa using h1) (by simpa using h2))
  refine this _ _ (by omega) fun i k x k' u h1 h2=>?_;obtain ⟨t,k2,x2,y,u2,a1,a2,a3,a4,a5,a6⟩:=hps i (by rw [← lp];exact (List.getElem?_eq_some_iff.mp h2).1);rw [h1] at a2;cases a2;rw [h2] at a6;cases a6;exact ⟨rfl,a5⟩
 have fr:H s.heap.objs.size=none:=I.hok.fresh (Z7 _);refine call_pairs (P:=X.prog) (w:=X.w) (ps:=ps) (I.ok.hd hc) pl (by omega) lp (by rw [keys];exact nd) (fun i v k u hv hk=>?_) fun h tk kk hm=>?_
 ·obtain ⟨t,k2,x2,y,u2,a1,a2,a3,a4,a5,a6⟩:=hps i (List.getElem?_eq_some_iff.mp hv).1;rw [hv] at a1;cases a1;rw [hk] at a6;cases a6;exact ⟨t,y,rfl,a3,a4⟩
 ·refine ⟨.ref s.heap.objs.size,_,I.laid (t':=tk) (a:=s.heap.objs.size) (o:=.dK kvs) kk (Z7 _) ⟨by omega,?_,ps,kv,hm⟩,rfl,q _ fr⟩;have:=I.big;exact beq_false_of_ne (Nat.ne_of_gt this)
end
end L2
namespace L2
open PySem PySem.Spec PyProof.Rows
section
variable {X:Cx}
theorem zBz {K:PySem.W.Frag} (hK:X.K=K):CallR X (.builtin "isinstance") (fun xs H Q=>∃ x c t cv b,xs=[x,c]∧TyOf K H x t∧RelV c cv∧PySem.W.kitOne K t cv=some b∧Q (.bl b) H):=by
 subst hK;exact zAs
end
structure FunL (K:PySem.W.Frag) (x qual:Str) (st:Stmt) (f:Addr) (fd:FuncData) (c:Addr):Prop where
 ex:∃ (oc:Value) (od:Option Addr) (kV doc pm:Value) (an:Option Addr) (ct:Value) (osl:Array (Option Value)),
  fd=PySem.W.fnOf x qual (defArgs st) (defBody st) (defScope st) .none kV doc pm an (.ref c) ct∧K.lookup f=some ⟨oc,od,.func fd,osl⟩∧PySem.W.codeIn K (.ref c) qual=true
 kp:PySem.W.keepIn K (.ref f)=true
theorem FunL.fn {K:PySem.W.Frag}{x qual:Str}{st:Stmt}{f c:Addr}{fd:FuncData} (F:FunL K x qual st f fd c):Fun K x qual st f fd:=by
 obtain ⟨oc,od,kV,doc,pm,an,ct,osl,e,lk,hcd⟩:=F.ex;exact ⟨⟨oc,od,kV,doc,pm,an,.ref c,ct,osl,e,lk,hcd⟩,F.kp⟩
theorem FunL.okC {P:Program}{w:World}{K:PySem.W.Frag}{mg:Str→Option Value}{base:Heap}{CX:CXT}{x qual:Str}{st:Stmt}{f c:Addr}{fd:FuncData}{N ps:List Str}{k:Nat}{sp:Sp} (F:FunL K x qual st f fd c) (S:FnScope N ps (defScope st)) (len:∀ vs H Q E,sp vs H Q E→vs.length=ps.length)
  (hbody:∀ (A:Around) (outer:List Env) (s:Shared) (H:Hp) (vs:List V) (Q:VK) (E:XK),Room k (A.deeper (envOfC qual (defScope st) s.heap.objs.size f (.ref c)))→sp vs H Q E →
   ∃ t,PSs (cxOf CX P w K mg base N qual (defScope st) f (.ref c) A outer s H E).nox (defBody st) t∧t { nx:=fun _ H'=>Q .non H',rt:=Q } (start N vs) H):FnOk P w K mg base CX (k + 1) f fd ps sp:=by
 obtain ⟨oc,od,kV,doc,pm,an,ct,osl,rfl,lk,hcd⟩:=F.ex;refine zF8 lk hcd S len fun A outer s H vs Q E hr hsp=>?_;obtain ⟨t,h,q⟩:=hbody A outer s H vs Q E hr hsp;exact ⟨t,h.nox,q⟩
end L2
namespace L2
open PySem PySem.Spec PyProof.Rows
end L2
namespace L2
open PySem PySem.Spec PyProof.Rows
section
variable {X:Cx}
end
end L2
namespace L2
open PySem PySem.Spec PyProof.Rows
noncomputable abbrev OKey:=Option Str
noncomputable def okIs:OKey→Value→Bool
 | none,.none=>true
 | none,_=>false
 | some x,v=>Value.isStrOf x v
noncomputable def okH (w:World):OKey→Int
 | none=>0xFCA86420
 | some x=>hashStr w x
theorem zBb:∀ {k:OKey}{v:Value},okIs k v=true→(k=none∧v=Value.none)∨(∃ x t,k=some x∧v=Value.str x t)
 | none,v,h=>by
  cases v <;> first | exact .inl ⟨rfl,rfl⟩ | exact nomatch h
 | some x,v,h=>by
  obtain ⟨t,e⟩:=Value.isStrOf_shape (x:=x) (v:=v) h;exact .inr ⟨x,t,rfl,e⟩
theorem zDa {prog:Program}{w:World}{A:Around}{E:Value→Shared→Prop}{s:Shared}{Q:Int→Shared→Prop} (h:Q 0xFCA86420 { s with toks:=s.toks + 1 }) :
  wpAny (model prog w) A (pyHash .none) Q E s:=by
 have hT:s.TypeIs .none "NoneType":=rfl;have hv:[Value.none].any Value.onHeap=false:=rfl;show wpAny _ _ (pyHashByItsType .none) Q E s;unfold pyHashByItsType;refine wpAny_bind ?_;rw [cRoomFor,if_neg (by rw [hv];exact Ze)];refine wpAny_pure ?_;refine wpAny_bind (wpAny_specialOf hT F.slot_NoneType_hash.lookup ?_);show wpAny _ _ (if (some (Value.builtin "NoneType.__hash__") == some Value.none)=true then _ else _) Q E s;rw [if_neg (by rw [beq_builtin_none];exact Ze)];refine wpAny_bind (wpAny_specialOf hT F.slot_NoneType_hash.lookup ?_);show wpAny _ _ (callSpecialIfBoundUnlessNone? .none "__hash__" _ >>= _) Q E s
 refine wpAny_bind (wpAny_callSpecialIfBoundUnlessNone?_slot hT F.slot_NoneType_hash
  (wpAny_call_entry F.slot_NoneType_hash hT F.entry_NoneType_hash
   (show wpAny _ _ (do ret (← mkInt 0xFCA86420)) _ _ s from wpAny_ret_mkInt ?_) (F.args_NoneType_hash_1 _)))
 exact wpAny_pure h
noncomputable def optKind (prog:Program) (w:World):PySem.KeyKind prog w OKey where
 is:=okIs
 hash:=okH w
 inj:=fun v a b ha hb=>by
  rcases zBb ha with ⟨rfl,rfl⟩ | ⟨x,t,rfl,rfl⟩
  ·rcases zBb hb with ⟨rfl,e⟩ | ⟨y,u,rfl,e⟩
   ·rfl
   ·exact nomatch e
  ·rcases zBb hb with ⟨rfl,e⟩ | ⟨y,u,rfl,e⟩
   ·exact nomatch e
   ·injection e with e1 _;rw [e1]
 byValue:=fun k v h=>by
  rcases zBb h with ⟨rfl,rfl⟩ | ⟨x,t,rfl,rfl⟩ <;> rfl
 pyHash:=fun hv h=>by
  rcases zBb hv with ⟨rfl,rfl⟩ | ⟨x,t,rfl,rfl⟩
  ·exact zDa h
  ·exact wpAny_pyHash_str h
 eqBool:=fun hu hv h=>by
  rcases zBb hu with ⟨rfl,rfl⟩ | ⟨x,t,rfl,rfl⟩
  ·rcases zBb hv with ⟨rfl,rfl⟩ | ⟨y,u,rfl,rfl⟩
   ·rw [decide_eq_true rfl] at h;unfold eqBool;rw [if_pos (by rfl)];exact wpAny_bind (wpAny_rule (wpAny_pure h))
   ·rw [decide_eq_false (fun q=>nomatch q)] at h;exact SeqAt.EqAt.none_str y u _ _ _ _ h
  ·rcases zBb hv with ⟨rfl,rfl⟩ | ⟨y,u,rfl,rfl⟩
   ·rw [decide_eq_false (fun q=>nomatch q)] at h;exact SeqAt.EqAt.str_none x t _ _ _ _ h
   ·have e:decide ((some x:OKey)=some y)=decide (x=y):=by
     by_cases e:x=y
     ·subst e;simp
     ·rw [decide_eq_false e,decide_eq_false (fun q=>e (Zk q))]
    rw [e] at h;exact wpAny_eqBool_str h
 «strs»:=fun k x t v h=>by
  rcases zBb h with ⟨rfl,e⟩ | ⟨y,u,rfl,e⟩
  ·exact nomatch e
  ·injection e with e1 _;subst e1;cases v <;> rfl
noncomputable def DO (P:Program) (w:World) (a:Addr) (kvs:List (OKey×V)):HO:=.ext fun h=>kvs.length≤sizeLine∧(a == sysModules)=false∧∃ vs,KV kvs vs∧h.DictOf (optKind P w) a vs
section
variable {P:Program}{w:World}{H:Hp}{h:Heap}{a:Addr}{kvs:List (OKey×V)}
end
section
variable {X:Cx}{o i e value:Expr}{pos pos' tpos:Pos}{td ty tv tk:TE}
end
end L2
namespace L2
open PySem PySem.Spec PyProof.Rows
end L2
namespace L2
open PySem PySem.Spec PyProof.Rows
noncomputable def P2 (e:Addr) (h:Heap):Prop:=∃ o vs,h.get? e=some o∧o.data=.fields vs∧vs[2]? = some Value.none
noncomputable def Kp (e:Addr) {α : Type} (t:Sem α):Prop:=∀ (M:Model) (Γ : PySem.Ctx) (Q : α→Pos→Shared→Prop) (E:Value→Pos→Shared→Prop) (p:Pos) (s:Shared),P2 e s.heap→Sem.wp M Γ t Q E p s →
 Sem.wp M Γ t (fun a p' s'=>Q a p' s'∧P2 e s'.heap) (fun v p' s'=>E v p' s'∧P2 e s'.heap) p s
section
variable {e:Addr}{α β : Type}
theorem Kp.pure (a : α):Kp e (Pure.pure a:Sem α):=fun M Γ Q E p s h w=>by
 rw [Sem.wp_pure'] at w ⊢;exact ⟨w,h⟩
theorem Kp.bind {m:Sem α}{f : α→Sem β} (hm:Kp e m) (hf:∀ a,Kp e (f a)):Kp e (m >>= f):=fun M Γ Q E p s h w=>by
 rw [Sem.wp_bind'] at w ⊢;exact Sem.wp_mono M Γ m (fun a p' s' z=>hf a M Γ Q E p' s' z.2 z.1) (fun _ _ _ z=>z) p s (hm M Γ _ E p s h w)
theorem Kp.un (x:String):Kp e (unsupported x:Sem α):=fun M Γ Q E p s h w=>by
 have z:False:=by simpa [unsupported] using w
 exact z.elim
theorem Kp.ld (a:Addr):Kp e (load a):=fun M Γ Q E p s h w=>by
 obtain ⟨o,h1,h2⟩:=(show ∃ o,s.heap.get? a=some o∧Q o p s from w);exact ⟨o,h1,h2,h⟩
theorem Kp.stk:Kp e stack:=fun M Γ Q E p s h w=>⟨w,h⟩
theorem Kp.alc (o:Obj):Kp e (alloc o):=fun M Γ Q E p s ⟨o',vs,h1,h2⟩ w=>⟨w,o',vs,Z1 _ h1,h2⟩
theorem Kp.upt (a:Addr) (f:Obj→Obj) (hf:∀ o vs,o.data=.fields vs→vs[2]? = some Value.none→∃ vs',(f o).data=.fields vs'∧vs'[2]? = some Value.none):Kp e (update a f):=fun M Γ Q E p s ⟨o,vs,h1,h2,h3⟩ ⟨w1,w2⟩=>by
 refine ⟨w1,w2,?_⟩;obtain ⟨vs',h4,h5⟩:=hf o vs h2 h3;by_cases z:a=e
 ·subst z;exact ⟨_,vs',Heap.get?_update_self f h1 (Obj.isFreed_of_fields h4),h4,h5⟩
 ·exact ⟨o,vs,(Heap.get?_update_other _ f z).trans h1,h2,h3⟩
theorem Kp.fld (v:Value) (i:Nat):Kp e (field v i):=by
 unfold field fieldsOf;cases v with
 | ref a =>
  refine .bind (.bind (.ld a) fun o=>?_) fun vs=>?_
  ·split
   ·exact .pure _
   ·exact .un _
  ·split
   ·exact .pure _
   ·exact .un _
 | _=>exact .bind (.un _) fun vs=>by split <;> first | exact .pure _ | exact .un _
theorem Kp.setF (v:Value) (i:Nat) (x:Value) (hi:i≠2):Kp e (setField v i x):=by
 unfold setField;cases v with
 | ref a =>
  unfold updateField;refine .bind (.ld a) fun o=>?_;split
  ·split
   ·refine .upt a _ fun o vs h1 h2=>⟨_,Obj.data_mapFields h1 _,?_⟩;rw [Array.getElem?_setIfInBounds_ne hi];exact h2
   ·exact .un _
  ·exact .un _
 | _=>exact .un _
theorem Kp.ite {c:Prop} [Decidable c] {a b:Sem α} (h1:Kp e a) (h2:Kp e b):Kp e (if c then a else b):=by
 split
 ·exact h1
 ·exact h2
theorem Kp.flt (v:Value) (f:Option Addr):Kp e (setFlight v f):=by
 unfold setFlight;exact .bind (.fld v 1) fun tb=>.ite (.setF _ _ _ (by decide)) (.pure _)
theorem Kp.kept (env:Env) (b:Bool):∀ l,Kp e (keptBack env b l)
 | []=>by
  unfold keptBack underTheClaimsCaller;exact .ite (.pure _) (.bind (.bind .stk fun _=>.pure _) fun b=>by cases b <;> exact .pure _)
 | _ :: _=>.pure _
theorem Kp.ready:∀ l,Kp e (readyFrames l)
 | []=>.pure _
 | env :: outer=>by
  unfold readyFrames;split
  ·refine .bind (.ld _) fun o=>.ite (.pure _) (.bind ?_ fun b=>.bind (.kept _ _ _) fun v=>.bind (.upt _ _ fun o vs h1 h2=>⟨vs,h1,h2⟩) fun _=>Kp.ready outer);unfold behindIsImport;exact .ite (.pure _) (.ite (.pure _) (.bind (.fld _ _) fun _=>.pure _))
  ·exact .un _
theorem Kp.frm (env:Env):Kp e (PySem.frameOf env):=by
 unfold PySem.frameOf frameEnvs;refine .bind (.bind .stk fun _=>.pure _) fun l=>.bind ?_ fun r=>?_
 ·generalize l.dropWhile _=k;cases k with
  | nil=>exact .pure _
  | cons a b=>exact .bind (.ready _) fun _=>.pure _
 ·split
  ·exact .pure _
  ·exact .un _
theorem Kp.place (f:Addr) (b:Bool):Kp e (entryPlaceOf f b):=by
 unfold entryPlaceOf;refine .bind .stk fun l=>?_;split
 ·exact .pure _
 ·exact .pure _
theorem Kp.note (v:Value) (env:Env):Kp e (noteFrame v env):=by
 unfold noteFrame;split
 ·refine .bind (.fld v 1) fun hd=>?_;have rest:Kp e (do setField v 1 (← EntryCells.newEntry hd (← PySem.frameOf env) .none (rawInt ‹Addr›) .none (← entryPlaceOf ‹Addr› (hd != .none)))):=by
   refine .bind (.frm env) fun _=>.bind (.place _ _) fun _=>.bind ?_ fun _=>.setF _ _ _ (by decide);unfold EntryCells.newEntry newFields newObj;have z:∀ d,Kp e (newObjAsIs (.type "traceback") d):=fun d=>.bind (.alc _) fun _=>.pure _;exact .ite (.bind (.un _) fun _=>z _) (z _)
  exact .ite (.bind (.fld hd 3) fun _=>.ite (.pure _) (.bind (.setF _ _ _ (by decide)) fun _=>rest)) rest
 ·exact .un _
theorem Kp.leave (v:Value) (env:Env):Kp e (leaving env v):=.bind (.note v env) fun _=>.flt v none
theorem zD0 {M:Model}{A:Around}{E:Value→Shared→Prop}{s:Shared}{t:Sem α}{Q : α→Shared→Prop} (k:Kp e t) (h:P2 e s.heap) (w:wpAny M A t (fun a s'=>P2 e s'.heap→Q a s') E s):wpAny M A t Q E s:=fun Γ p hΓ =>
 Sem.wp_mono M Γ t (fun _ _ _ z=>z.1 z.2) (fun _ _ _ z=>z.1) p s (k M Γ _ _ p s h (w Γ p hΓ))
end
end L2
namespace L2.W
open PySem PySem.Spec PyProof.Rows
@[irreducible] noncomputable def PE (X:Cx) (e:Expr) (t:TE):Prop:=L2.PE X e t
theorem ePE : @L2.PE = @PE:=by unfold PE;rfl
@[irreducible] noncomputable def PT (X:Cx) (e:Expr) (t:TT):Prop:=L2.PT X e t
theorem ePT : @L2.PT = @PT:=by unfold PT;rfl
@[irreducible] noncomputable def PW (X:Cx) (e:Expr) (t:TT):Prop:=L2.PW X e t
theorem ePW : @L2.PW = @PW:=by unfold PW;rfl
@[irreducible] noncomputable def PA (X:Cx) (es:List Expr) (t:TA):Prop:=L2.PA X es t
theorem ePA : @L2.PA = @PA:=by unfold PA;rfl
@[irreducible] noncomputable def PS (X:Cx) (st:Stmt) (t:TS):Prop:=L2.PS X st t
theorem ePS : @L2.PS = @PS:=by unfold PS;rfl
@[irreducible] noncomputable def PSs (X:Cx) (st:List Stmt) (t:TS):Prop:=L2.PSs X st t
theorem ePSs : @L2.PSs = @PSs:=by unfold PSs;rfl
@[irreducible] noncomputable def PG (X:Cx) (g:Expr) (t:TG):Prop:=L2.PG X g t
theorem ePG : @L2.PG = @PG:=by unfold PG;rfl
@[irreducible] noncomputable def PGs (X:Cx) (ts:List Expr) (t:TGs):Prop:=L2.PGs X ts t
theorem ePGs : @L2.PGs = @PGs:=by unfold PGs;rfl
@[irreducible] noncomputable def PI (X:Cx) (tg iter:Expr) (wi:TI):Prop:=L2.PI X tg iter wi
theorem ePI : @L2.PI = @PI:=by unfold PI;rfl
@[irreducible] noncomputable def PFs (X:Cx) (ifs:List Expr) (t:TT):Prop:=L2.PFs X ifs t
theorem ePFs : @L2.PFs = @PFs:=by unfold PFs;rfl
noncomputable def zAq:=by have h:=@L2.zAq;rw [ePS,ePSs,ePT] at h;exact @h
noncomputable def zB2:=by have h:=@L2.zB2;rw [ePE] at h;exact @h
noncomputable def zAl:=by have h:=@L2.zAl;rw [ePE,ePT] at h;exact @h
noncomputable def zDs:=by have h:=@L2.zDs;rw [ePE,ePS,ePG] at h;exact @h
noncomputable def zAn:=by have h:=@L2.zAn;rw [ePE,ePA] at h;exact @h
noncomputable def zAa:=by have h:=@L2.zAa;rw [ePE,ePA] at h;exact @h
noncomputable def zAc:=by have h:=@L2.zAc;rw [ePE,ePS] at h;exact @h
noncomputable def zF8:=by have h:=@L2.zF8;rw [ePSs] at h;exact @h
noncomputable def zBg:=by have h:=@L2.zBg;rw [ePE,ePA] at h;exact @h
noncomputable def zAh:=by have h:=@L2.zAh;rw [ePE] at h;exact @h
noncomputable def pe_un:=by have h:=@L2.pe_un;rw [ePE] at h;exact @h
noncomputable def pe_bm:=by have h:=@L2.pe_bm;rw [ePE,ePA] at h;exact @h
noncomputable def zBj:=by have h:=@L2.zBj;rw [ePT,ePW] at h;exact @h
noncomputable def zBr:=by have h:=@L2.zBr;rw [ePE] at h;exact @h
noncomputable def zAx:=by have h:=@L2.zAx;rw [ePE] at h;exact @h
noncomputable def pv:=by have h:=@L2.pv;rw [ePE] at h;exact @h
noncomputable def zB9:=by have h:=@L2.zB9;rw [ePE,ePS] at h;exact @h
noncomputable def zA5:=by have h:=@L2.zA5;rw [ePS,ePSs] at h;exact @h
noncomputable def zEu:=by have h:=@L2.zEu;rw [ePE] at h;exact @h
noncomputable def zBk:=by have h:=@L2.zBk;rw [ePE] at h;exact @h
noncomputable def zC1:=by have h:=@L2.zC1;rw [ePGs] at h;exact @h
noncomputable def zDt:=by have h:=@L2.zDt;rw [ePG,ePGs] at h;exact @h
noncomputable def zA3:=by have h:=@L2.zA3;rw [ePS,ePSs] at h;exact @h
noncomputable def bin:=by have h:=@L2.bin;rw [ePE] at h;exact @h
noncomputable def zD5:=by have h:=@L2.zD5;rw [ePE,ePT] at h;exact @h
noncomputable def zEz:=by have h:=@L2.zEz;rw [ePE] at h;exact @h
noncomputable def zAo:=by have h:=@L2.zAo;rw [ePSs] at h;exact @h
noncomputable def zAv:=by have h:=@L2.zAv;rw [ePE] at h;exact @h
noncomputable def zAw:=by have h:=@L2.zAw;rw [ePG,ePGs] at h;exact @h
noncomputable def zEs:=by have h:=@L2.zEs;rw [ePS,ePSs,ePT] at h;exact @h
noncomputable def pe_var:=by have h:=@L2.pe_var;rw [ePE] at h;exact @h
noncomputable def zAd:=by have h:=@L2.zAd;rw [ePG] at h;exact @h
noncomputable def zBq:=by have h:=@L2.zBq;rw [ePA,ePI] at h;exact @h
noncomputable def zEr:=by have h:=@L2.zEr;rw [ePE,ePT] at h;exact @h
noncomputable def pe_or:=by have h:=@L2.pe_or;rw [ePE] at h;exact @h
noncomputable def zCv:=by have h:=@L2.zCv;rw [ePS,ePSs,ePG,ePI] at h;exact @h
noncomputable def zAg:=by have h:=@L2.zAg;rw [ePE,ePT] at h;exact @h
noncomputable def zA6:=by have h:=@L2.zA6;rw [ePE,ePA] at h;exact @h
noncomputable def zEf:=by have h:=@L2.zEf;rw [ePE] at h;exact @h
noncomputable def zE1:=by have h:=@L2.zE1;rw [ePE] at h;exact @h
noncomputable def zBd:=by have h:=@L2.zBd;rw [ePT,ePW] at h;exact @h
noncomputable def zB8:=by have h:=@L2.zB8;rw [ePE,ePA] at h;exact @h
noncomputable def zBx:=by have h:=@L2.zBx;rw [ePE] at h;exact @h
noncomputable def binT:=by have h:=@L2.binT;rw [ePE] at h;exact @h
noncomputable def zB0:=by have h:=@L2.zB0;rw [ePE] at h;exact @h
noncomputable def zAb:=by have h:=@L2.zAb;rw [ePSs] at h;exact @h
noncomputable def PW.pt:=by have h:=@L2.PW.pt;rw [ePT,ePW] at h;exact @h
noncomputable def zEv:=by have h:=@L2.zEv;rw [ePE,ePA] at h;exact @h
noncomputable def zC3:=by have h:=@L2.zC3;rw [ePT,ePW] at h;exact @h
noncomputable def zCh:=by have h:=@L2.zCh;rw [ePT] at h;exact @h
noncomputable def zBp:=by have h:=@L2.zBp;rw [ePE] at h;exact @h
noncomputable def zEy:=by have h:=@L2.zEy;rw [ePE] at h;exact @h
noncomputable def zA2:=by have h:=@L2.zA2;rw [ePA] at h;exact @h
noncomputable def zA4:=by have h:=@L2.zA4;rw [ePE] at h;exact @h
noncomputable def zAj:=by have h:=@L2.zAj;rw [ePE,ePI] at h;exact @h
noncomputable def PT.nox:=by have h:=@L2.PT.nox;rw [ePT] at h;exact @h
noncomputable def zAf:=by have h:=@L2.zAf;rw [ePE] at h;exact @h
noncomputable def zAk:=by have h:=@L2.zAk;rw [ePE,ePS] at h;exact @h
noncomputable def zCd:=by have h:=@L2.zCd;rw [ePE] at h;exact @h
noncomputable def zCa:=by have h:=@L2.zCa;rw [ePE] at h;exact @h
noncomputable def Fun.ok:=by have h:=@L2.Fun.ok;rw [ePSs] at h;exact @h
noncomputable def zAu:=by have h:=@L2.zAu;rw [ePT] at h;exact @h
noncomputable def pg_sub:=by have h:=@L2.pg_sub;rw [ePE,ePG] at h;exact @h
noncomputable def zBo:=by have h:=@L2.zBo;rw [ePE] at h;exact @h
noncomputable def zAm:=by have h:=@L2.zAm;rw [ePE,ePA] at h;exact @h
noncomputable def PSs.nox:=by have h:=@L2.PSs.nox;rw [ePSs] at h;exact @h
noncomputable def zA0:=by have h:=@L2.zA0;rw [ePE,ePA] at h;exact @h
noncomputable def PE.nox:=by have h:=@L2.PE.nox;rw [ePE] at h;exact @h
noncomputable def zBn:=by have h:=@L2.zBn;rw [ePE,ePS] at h;exact @h
noncomputable def zC0:=by have h:=@L2.zC0;rw [ePT,ePW] at h;exact @h
noncomputable def pc_din:=by have h:=@L2.pc_din;rw [ePE] at h;exact @h
noncomputable def zEw:=by have h:=@L2.zEw;rw [ePE] at h;exact @h
noncomputable def zD6:=by have h:=@L2.zD6;rw [ePE] at h;exact @h
noncomputable def zEx:=by have h:=@L2.zEx;rw [ePE] at h;exact @h
noncomputable def ps_dput:=by have h:=@L2.ps_dput;rw [ePE,ePS] at h;exact @h
noncomputable def pe_dget:=by have h:=@L2.pe_dget;rw [ePE] at h;exact @h
noncomputable def zDp:=by have h:=@L2.zDp;rw [ePE,ePG,ePFs] at h;exact @h
noncomputable def zB4:=by have h:=@L2.zB4;rw [ePE,ePS,ePG,ePI,ePFs] at h;exact @h
noncomputable def zAt:=by have h:=@L2.zAt;rw [ePE,ePG,ePI,ePFs] at h;exact @h
noncomputable def zD4:=by have h:=@L2.zD4;rw [ePT,ePFs] at h;exact @h
noncomputable def zAy:=by have h:=@L2.zAy;rw [ePFs] at h;exact @h
noncomputable def pi_str:=by have h:=@L2.pi_str;rw [ePE,ePI] at h;exact @h
noncomputable def Fun.okC:=by have h:=@L2.Fun.okC;rw [ePSs] at h;exact @h
noncomputable def zDe:=by have h:=@L2.zDe;rw [ePG,ePGs] at h;exact @h
noncomputable def zCc:=by have h:=@L2.zCc;rw [ePE] at h;exact @h
noncomputable def zDu:=by have h:=@L2.zDu;rw [ePE,ePA] at h;exact @h
noncomputable def FunL.okC:=by have h:=@L2.FunL.okC;rw [ePSs] at h;exact @h
end L2.W
namespace L2
open PySem PySem.Spec PyProof.Rows
noncomputable def XO (C a:Addr):HO:=.ext fun h=>∃ o vs,h.get? a=some o∧o.cls=.ref C∧o.data=.fields vs∧vs[2]? = some Value.none
section
variable {P:Program}{w:World}{H:Hp}{h:Heap}{a C:Addr}{o:HO}
theorem xo_ok {ob:Obj}{vs:Array Value} (e:h.get? a=some ob) (c:ob.cls=.ref C) (d:ob.data=.fields vs) (n:vs[2]? = some Value.none):ObjOk P w H h a (XO C a) :=
 ⟨⟨ob,vs,e,c,d,n⟩,⟨ob,e⟩,fun _ _ ⟨o,vs,e,c,d⟩ k=>⟨o,vs,k _ e,c,d⟩⟩
theorem xo_of (ok:HOk P w H h) (e:H a=some (XO C a)):∃ o vs,h.get? a=some o∧o.cls=.ref C∧o.data=.fields vs∧vs[2]? = some Value.none:=(show ObjOk P w H h a (XO C a) from ok a _ e).1
theorem xo_p2 (ok:HOk P w H h) (e:H a=some (XO C a)):P2 a h:=let ⟨o,vs,h1,_,h2⟩:=xo_of ok e;⟨o,vs,h1,h2⟩
theorem ObjOk.ex (x:ObjOk P w H h a o):∃ ob,h.get? a=some ob:=by
 cases o with
 | lst xs=>obtain ⟨_,_,_,_,e⟩:=x;exact ⟨_,e⟩
 | tup xs=>obtain ⟨_,_,_,ob,e,_⟩:=x;exact ⟨_,e⟩
 | dK kvs=>obtain ⟨_,_,_,_,o,_,_,e,_⟩:=x;exact ⟨_,e⟩
 | dT kvs=>obtain ⟨_,_,_,_,o,_,_,e,_⟩:=x;exact ⟨_,e⟩
 | set S n=>obtain ⟨o,_,_,_,e,_⟩:=x;exact ⟨_,e⟩
 | ins C dx fs=>obtain ⟨_,_,_,e,_⟩:=x;exact ⟨_,e⟩
 | own y=>exact x
 | xd fs=>obtain ⟨_,⟨_,_,_,e,_⟩,_⟩:=x;exact ⟨_,e⟩
 | rng lo hi=>obtain ⟨_,_,_,e⟩:=x;exact ⟨_,e⟩
 | frz ob u=>exact ⟨_,x.1⟩
 | tbl ps=>exact ⟨_,x⟩
 | met f y=>exact ⟨_,x⟩
 | ext φ=>exact x.2.1
theorem HOk.noth (ok:HOk P w H h) (e:h.get? a=none):H a=none:=by
 cases q:H a with
 | none=>rfl
 | some u =>
  obtain ⟨ob,eb⟩:=(ok a u q).ex;rw [e] at eb;cases eb
end
noncomputable def Tr (G:Addr→Prop) (H:Hp) (h:Heap) (e:Addr):Prop:=∃ o vs a0 T oT ts,h.get? e=some o∧o.data=.fields vs∧vs[0]? = some a0∧vs[1]? = some (.ref T)∧G T∧H T=none∧h.get? T=some oT∧oT.data=.fields ts∧ts[3]? = some .none
noncomputable def Fresh (h:Heap) (e:Addr):Prop:=∃ o vs a0,h.get? e=some o∧o.data=.fields vs∧vs[0]? = some a0∧vs[1]? = some .none
theorem Tr.imp {G G':Addr→Prop}{H:Hp}{h:Heap}{e:Addr} (x:Tr G H h e) (f:∀ T,G T→G' T):Tr G' H h e :=
 let ⟨o,vs,a0,T,oT,ts,h1,h2,h3,h4,g,r⟩:=x
 ⟨o,vs,a0,T,oT,ts,h1,h2,h3,h4,f _ g,r⟩
noncomputable def CXM (P:Program) (w:World):CXT:=fun outer H s E u s'=>∃ e C H',u=.ref e∧s'.os=s.os∧AllBare s'.gens∧Un (frs outer) [] H H' s.heap s'.heap∧HOk P w H' s'.heap∧H' e=some (XO C e)∧Tr (fun T=>s.heap.get? T=none) H' s'.heap e∧E (.ref C) (some e) H'
theorem calmM {P:Program}{w:World}:Calm (CXM P w):=fun _ _ _ _ _ ⟨_,_,_,_,_,_,_,_,_,_,q⟩=>q
structure Mvd (l:List Env) (e T0:Addr) (cls a0 fl:Value) (h h':Heap):Prop where
 keep:∀ b o,h.get? b=some o→b≠e→b≠T0→b∉frs l→h'.get? b=some o
 slot:∀ b o,h.get? b=some o→b∈frs l→∃ sl,h'.get? b=some { o with slots:=sl }
 tr:∃ oe vs T oT ts,h'.get? e=some oe∧oe.cls=cls∧vs[0]? = some a0∧oe.data=.fields vs∧vs[1]? = some (.ref T)∧(T=T0∨h.get? T=none)∧T≠e∧h'.get? T=some oT∧oT.data=.fields ts∧ts[3]? = some fl
 p2:P2 e h'
noncomputable abbrev bas (h:Heap) (l:List Env) (e T0:Addr):Heap:=PySem.W.hideAll h (e :: T0 :: frs l)
section
variable {base h h':Heap}{l:List Env}{e T0:Addr}{cls a0 fl:Value}
theorem moved (hl:h.FunFrames base l) (st:(bas h l e T0).StaysIn h') (ff:h'.FunFrames (bas h l e T0) l) (tr:h'.TracedAtW (bas h l e T0) e cls a0 fl) (up:h.UpToSlots h') (p2:P2 e h'):Mvd l e T0 cls a0 fl h h':=by
 refine ⟨fun b o q n1 n2 n3=>st b o (PySem.W.hideAll_get _ q ?_),fun b o q hb=>?_,?_,p2⟩
 ·intro z;rcases List.mem_cons.mp z with z | z
  ·exact n1 z
  ·rcases List.mem_cons.mp z with z | z
   ·exact n2 z
   ·exact n3 z
 ·obtain ⟨_,o',ho,hn⟩:=hl.mem hb;rw [q] at ho;cases ho;exact up b o q hn
 ·obtain ⟨oe,vs,T,oT,ts,he,⟨hc,h0⟩,hd,h1,hn,hne,hT,hdT,h3⟩:=tr;refine ⟨oe,vs,T,oT,ts,he,hc,h0,hd,h1,?_,hne,hT,hdT,h3⟩;cases q:h.get? T with
  | none=>exact .inr rfl
  | some o =>
   refine .inl (Classical.byContradiction fun nT=>?_);have:(bas h l e T0).get? T=some o:=PySem.W.hideAll_get _ q fun z=>by
    rcases List.mem_cons.mp z with z | z
    ·exact hne z
    ·rcases List.mem_cons.mp z with z | z
     ·exact nT z
     ·obtain ⟨_,o',ho,hnf⟩:=ff.mem z;rw [hT] at ho;cases ho;exact hnf _ hdT
   rw [hn] at this;cases this
theorem fly_of (hl:h.FunFrames base l) {oe oT:Obj}{vs ts:Array Value} (he:h.get? e=some oe) (hd:oe.data=.fields vs) (h0:vs[0]? = some a0) (h1:vs[1]? = some (.ref T0)) (hne:T0≠e) (hT:h.get? T0=some oT) (hdT:oT.data=.fields ts) (h3:ts[3]? = some .none) :
  Heap.FlyingW (bas h l e T0) l e oe.cls a0 h :=
 ⟨fun b o q=>PySem.W.of_hideAll _ q,PySem.W.hideAll_none _ (.head _),PySem.W.funFrames_hide hl fun env he a ea=>.tail _ (.tail _ (List.mem_filterMap.mpr ⟨env,he,ea⟩)),oe,vs,T0,oT,ts,he,⟨rfl,h0⟩,hd,h1,PySem.W.hideAll_none _ (.tail _ (.head _)),hne,hT,hdT,h3⟩
end
section
variable {X:Cx}{pins:List (Addr×Obj)}{σ : St}{H:Hp}{s:Shared}{e C T0:Addr}{h':Heap}{cls a0 fl:Value}
theorem Mvd.ex (m:Mvd X.stack e T0 cls a0 fl s.heap h') (b:Addr) (o:Obj) (q:s.heap.get? b=some o) (h2:b≠T0):∃ o',h'.get? b=some o':=by
 obtain ⟨oe,_,_,_,_,he,_⟩:=m.tr;by_cases h1:b=e
 ·rw [h1];exact ⟨oe,he⟩
 ·by_cases h3:b∈frs X.stack
  ·obtain ⟨sl,z⟩:=m.slot b o q h3;exact ⟨_,z⟩
  ·exact ⟨o,m.keep b o q h1 h2 h3⟩
theorem Mvd.hok (m:Mvd X.stack e T0 (.ref C) a0 fl s.heap h') (I:Inv X pins σ H s) (he:H e=some (XO C e)) (hT:T0=e∨H T0=none):HOk X.prog X.w H h':=fun b u eb=>by
 by_cases h1:b=e
 ·subst h1;rw [he] at eb;cases eb;obtain ⟨oe,vs,_,_,_,h2,h3,_,h4,_⟩:=m.tr;obtain ⟨o',vs',h5,h6,h7⟩:=m.p2;rw [h2] at h5;cases h5;exact xo_ok h2 h3 h6 h7
 ·refine (I.hok b u eb).stay (fun c v hc q=>m.keep c v q ?_ ?_ ?_) (fun _ q=>q) fun _ _ q=>q
  ·rintro rfl;rcases hc with z | z
   ·exact h1 z.symm
   ·rw [he] at z;cases z
  ·rintro rfl;rcases hT with z | z
   ·subst z;rcases hc with z | z
    ·exact h1 z.symm
    ·rw [he] at z;cases z
   ·rcases hc with y | y
    ·rw [← y,z] at eb;cases eb
    ·rw [z] at y;cases y
  ·intro z;have:=I.stkFree c z;rcases hc with y | y
   ·rw [← y,this] at eb;cases eb
   ·rw [this] at y;cases y
theorem Inv.moved {t':Nat} (I:Inv X pins σ H s) (he:H e=some (XO C e)) (hT:H T0=none) (h0:X.s₀.heap.get? T0=none) (hp:∀ p∈X.pn++pins,p.1≠T0) {oT:Obj}{ts:Array Value} (eT:s.heap.get? T0=some oT) (dT:oT.data=.fields ts)
  (m:Mvd X.stack e T0 (.ref C) a0 fl s.heap h'):Inv X pins σ H { s with heap:=h',toks:=t' }:=by
 have nL:T0≠X.env.locals:=by
  rintro rfl;obtain ⟨_,⟨o,es,ep,ho,hd,_⟩,_⟩:=I.loc;rw [ho] at eT;cases eT;rw [hd] at dT;cases dT
 have nC:∀ x c,X.env.cells.lookup x=some c→c≠T0:=by
  rintro x c hc rfl;obtain ⟨v,o,ho,hd⟩:=I.cell x c hc;rw [ho] at eT;cases eT;rw [hd] at dT;cases dT
 have neS:∀ b,H b=none→b≠e:=fun b n z=>by rw [z,he] at n;cases n
 have sub:∀ b,b∈X.fs→b∈frs X.stack:=fun b hb=>by
  rcases I.ok.stk with z | ⟨z,hf⟩
  ·rw [z];exact hb
  ·rw [z];unfold frs;rw [Y9,hf];exact Zb _ hb
 refine I.step (g':=s.gens) (d':=s.drawn) (ch:=[T0]) (fun b hb=>?_) (fun b o n1 n2 n3 q n=>m.keep b o q (neS b n) (fun z=>n3 (by simp [z])) fun z=>(List.mem_cons.mp (I.stkSub b z)).elim n1 n2)
  (fun b o n1 n2 n3 q n=>m.slot b o q (sub b n2)) (fun b o _ _ n=>n) (fun b o n q=>m.ex b o q fun z=>n (by simp [z])) (fun _ _ q=>q) (fun _ _ _ q=>q) (fun b ps q=>⟨#[],by rw [q];simp⟩) (fun mm hm=>?_) (m.hok I he (.inr hT)) I.bare
 ·have:b=T0:=by simpa using hb
  subst this;exact ⟨.inr h0,nL,nC,hp⟩
 ·obtain ⟨o,es,ep,ho,hd,r⟩:=hm;by_cases z:X.env.locals∈frs X.stack
  ·obtain ⟨sl,q⟩:=m.slot _ _ ho z;exact ⟨_,es,ep,q,hd,r⟩
  ·exact ⟨o,es,ep,m.keep _ _ ho (neS _ I.free) (Ne.symm nL) z,hd,r⟩
theorem leave_cx {E:XK}{E':Value→Shared→Prop} (I:Inv X pins σ H s) (hx:X.ex=[]) (hs:X.stack=X.env :: X.outer) (hf:X.env.frame=some X.env.locals) (he:H e=some (XO C e)) (fl:Fresh s.heap e∨Tr (fun T=>X.s₀.heap.get? T=none) H s.heap e) (q:E (.ref C) (some e) H) :
  wpAny (model X.prog X.w) X.A (leaving X.env (.ref e)) (fun _ s''=>CXM X.prog X.w X.outer X.H₀ X.s₀ E (.ref e) s'') E' s:=by
 have hfr:X.A.frames=some (X.env :: X.outer):=by rw [← hs];exact I.ok.frames
 have hl:s.heap.FunFrames X.base (X.env :: X.outer):=by rw [← hs];exact I.stack
 obtain ⟨ox,vx,hox,hcx,hdx⟩:=xo_of I.hok he;have fin:∀ (T0:Addr) (h':Heap) (a0:Value),(T0=e∨(H T0=none∧X.s₀.heap.get? T0=none))→Mvd X.stack e T0 (.ref C) a0 .none s.heap h'→CXM X.prog X.w X.outer X.H₀ X.s₀ E (.ref e) { s with heap:=h' }:=by
  intro T0 h' a0 hT m;have hT1:T0=e∨H T0=none:=hT.imp_right fun z=>z.1;have back:∀ b o,X.s₀.heap.get? b=some o→∃ o',s.heap.get? b=some o':=fun b o z=>I.base.there b o z (by rw [hx];simp);have nT:∀ b o,X.s₀.heap.get? b=some o→H b=none→b≠T0:=fun b o z n y=>by
   rcases hT with w | ⟨_,w⟩
   ·rw [y,w,he] at n;cases n
   ·rw [y,w] at z;cases z
  have nE:∀ b,H b=none→b≠e:=fun b n z=>by rw [z,he] at n;cases n
  have nL:∀ b o,X.s₀.heap.get? b=some o→b≠X.env.locals:=fun b o z=>Zf (Z8 (Zd z) I.ok.above);have inS:∀ b,b∈frs X.stack→b=X.env.locals∨b∈frs X.outer:=fun b z=>List.mem_cons.mp (I.stkSub b z);obtain ⟨oe,vs,T,oT,ts,h1,h2,h3,h4,h5,h6,h7,h8,h9,h10⟩:=m.tr;refine ⟨e,C,H,rfl,I.os,I.bare,⟨fun b o z n hb _=>?_,fun b o z n hb _=>?_,fun b o z n _=>I.base.free b o z n (by rw [hx];simp),fun b o z _=>?_,I.base.tups,I.base.frzs,I.base.tbls⟩,m.hok I he hT1,he,⟨oe,vs,a0,T,oT,ts,h1,h4,h3,h5,?_,?_,h8,h9,h10⟩,q⟩
  ·have n':=I.base.free b o z n (by rw [hx];simp);exact m.keep b o (I.base.keep b o z n hb (by rw [hx];simp)) (nE b n') (nT b o z n') fun y=>(inS b y).elim (nL b o z) hb
  ·obtain ⟨sl,z1⟩:=I.base.slot b o z n hb (by rw [hx];simp);obtain ⟨sl',z2⟩:=m.slot b _ z1 (by rw [hs];unfold frs;rw [Y9,hf];exact Zb _ hb);exact ⟨sl',z2⟩
  ·obtain ⟨o',z1⟩:=back b o z;by_cases y:b=T0
   ·rcases hT with w | ⟨_,w⟩
    ·rw [y,w];exact ⟨oe,h1⟩
    ·rw [y,w] at z;cases z
   ·exact m.ex b o' z1 y
  ·show X.s₀.heap.get? T=none;rcases h6 with z | z
   ·rcases hT with y | ⟨_,y⟩
    ·exact absurd (z.trans y) h7
    ·rw [z];exact y
   ·cases y:X.s₀.heap.get? T with
    | none=>rfl
    | some o =>
     obtain ⟨o',y1⟩:=back T o y;rw [z] at y1;cases y1
  ·rcases h6 with z | z
   ·rcases hT with y | ⟨y,_⟩
    ·exact absurd (z.trans y) h7
    ·rw [z];exact y
   ·exact I.hok.noth z
 rcases fl with ⟨oe,vs,a0,h1,h2,h3,h4⟩ | ⟨oe,vs,a0,T0,oT,ts,h1,h2,h3,h4,g,n,h5,h6,h7⟩
 ·rw [h1] at hox;cases hox;refine zD0 (.leave _ _) (xo_p2 I.hok he) (wpAny_leaving_firstW (base:=bas s.heap (X.env :: X.outer) e e) (a0:=a0) hfr (PySem.W.funFrames_hide hl fun env he a ea=>.tail _ (.tail _ (List.mem_filterMap.mpr ⟨env,he,ea⟩))) hf h1 (fun b o z=>PySem.W.of_hideAll _ z) (PySem.W.hideAll_none _ (.head _)) h2 h4 h3 fun h' hL p2=>?_);obtain ⟨k1,k2,k3,k4⟩:=hL;rw [hcx] at k3;refine fin e h' a0 (.inl rfl) ?_;rw [hs];exact L2.moved hl k1 k2 k3 k4 p2
 ·rw [h1] at hox;cases hox;have hne:T0≠e:=fun z=>by rw [z,he] at n;cases n
  have F:=fly_of hl h1 h2 h3 h4 hne h5 h6 h7;rw [hcx] at F;refine zD0 (.leave _ _) (xo_p2 I.hok he) (wpAny_leaving_nextW hfr F.2.2.1 hf F.2.2.2 F.1 F.2.1 fun h' hL p2=>?_);obtain ⟨k1,k2,k3,k4⟩:=hL;have m:=L2.moved hl k1 k2 k3 k4 p2;exact fin T0 h' a0 (.inr ⟨n,g⟩) (by rw [hs];exact m)
end
end L2
namespace L2
open PySem PySem.Spec PyProof.Rows
theorem zF9 {K:PySem.W.Frag}{h:Heap}{C:Addr}{bmB:List Value}{newId:String} (X:K.In h) (q:PySem.W.excIn K C bmB newId=true) :
  ∃ bm N nm q bs hdct sn sub ab col dd k0 k1 k2 k3 k5 mN,h.get? C=some (excClassObj nm q C N bs bm hdct sn sub ab col dd k0 k1 k2 k3 k5 newId)∧h.Ns N mN∧mN "__init__" = none∧OwnTail h bmB bm:=by
 unfold PySem.W.excIn at q;split at q
 ·rename_i dd cd sl ho
  split at q
  ·rename_i C' bm k0 k1 k2 k3 n k5 hm hs
   simp only [Zr,beq_iff_eq,Bool.not_eq_true'] at q;obtain ⟨⟨⟨⟨⟨rfl,rfl⟩,hdel⟩,ht⟩,hok⟩,hni⟩:=q;obtain ⟨nm,bs,mro,ns,qn,hd,sn,sub,ab,col,del⟩:=cd;dsimp only at hm hdel hok hni;subst hm hdel;have hsl:sl = #[k0,k1,k2,k3,some (.builtin n),k5]:=by
    obtain ⟨l⟩:=sl;simp only at hs;rw [hs]
   subst hsl;exact ⟨bm,ns,nm,qn,bs,hd,sn,sub,ab,col,dd,k0,k1,k2,k3,k5,_,X _ _ ho,.of_isNs (PySem.W.isNs_of_in X hok),PySem.W.nsMap_none_of_in X hok hni,PySem.W.tail_of_in X ht⟩
  ·cases q
 ·cases q
section
variable {X:Cx}{pins:List (Addr×Obj)}{σ : St}{H H':Hp}{s:Shared}{e C:Addr}{h h':Heap}{o:HO}
theorem Un.born {fs ex:List Addr} (k:∀ b u,h.get? b=some u→h'.get? b=some u) (hp:h.get? e=none) (hn:H e=none):Un fs ex H (upd H e o) h h' where
 keep:=fun b u q _ _ _=>k b u q
 slot:=fun b u q _ _ _=>⟨u.slots,k b u q⟩
 free:=fun b u q n _=>by rw [zA9 (fun z=>by rw [z,hp] at q;cases q)];exact n
 there:=fun b u q _=>⟨u,k b u q⟩
 tups:=fun b xs q=>by rw [zA9 (zA7 q hn)];exact q
 frzs:=fun b u xs q=>by rw [zA9 (zA7 q hn)];exact q
 tbls:=fun b ps q=>⟨#[],by rw [zA9 (zA7 q hn),q];simp⟩
theorem HOk.born {P:Program}{w:World} (x:HOk P w H h) (k:∀ b u,h.get? b=some u→h'.get? b=some u) (hp:h.get? e=none) (new:ObjOk P w (upd H e o) h' e o):HOk P w (upd H e o) h':=fun b u q=>by
 have hn:=x.noth hp;by_cases hb:b=e
 ·subst hb;rw [zA1] at q;cases q;exact new
 ·rw [zA9 hb] at q;exact (x b u q).stay (fun c v _ q=>k c v q) (fun c q=>by rw [zA9 (zA7 q hn)];exact q) fun c xs q=>by rw [zA9 (zA7 q hn)];exact q
theorem Inv.born {t':Nat} (I:Inv X pins σ H s) (k:∀ b u,s.heap.get? b=some u→h'.get? b=some u) (hp:s.heap.get? e=none) (new:ObjOk X.prog X.w (upd H e o) h' e o):Inv X pins σ (upd H e o) { s with heap:=h',toks:=t' } :=
 I.un (Un.born k hp (I.hok.noth hp)) (I.hok.born k hp new)
theorem Inv.cx {s':Shared}{E:XK}{u:Value} (I:Inv X pins σ H s) (c:CXM X.prog X.w X.stack H s E u s') :
  ∃ e C H',u=.ref e∧Inv X pins σ H' s'∧H' e=some (XO C e)∧Tr (fun T=>s.heap.get? T=none) H' s'.heap e∧E (.ref C) (some e) H':=by
 obtain ⟨e,C,H',rfl,os,bare,un,hok,he,tr,q⟩:=c;exact ⟨e,C,H',rfl,I.call' (ch:=[]) os un hok bare (fun b z=>absurd z (by simp)),he,tr,q⟩
theorem Inv.back (I:Inv X pins σ H s) (hx:X.ex=[]) {T:Addr} (n:s.heap.get? T=none):X.s₀.heap.get? T=none:=by
 cases y:X.s₀.heap.get? T with
 | none=>rfl
 | some o =>
  obtain ⟨o',y1⟩:=I.base.there T o y (by rw [hx];simp);rw [n] at y1;cases y1
end
section
variable {P:Program}{w:World}{K:PySem.W.Frag}{mg:Str→Option Value}{base:Heap}{N:List Str}{qual:Str}{scope:Scope}{f:Addr}{cd:Value}{A:Around}{outer:List Env}{s:Shared}{H:Hp}{E:XK}
noncomputable abbrev cxM (P:Program) (w:World) (K:PySem.W.Frag) (mg:Str→Option Value) (base:Heap) (N:List Str) (qual:Str) (scope:Scope) (f:Addr) (cd:Value) (A:Around) (outer:List Env) (s:Shared) (H:Hp) (E:XK):Cx:=cxOf (CXM P w) P w K mg base N qual scope f cd A outer s H E
theorem xe_new {pins:List (Addr×Obj)}{σ : St}{H':Hp}{s':Shared}{e C:Addr} (I:Inv (cxM P w K mg base N qual scope f cd A outer s H E) pins σ H' s') (he:H' e=some (XO C e)) (fl:Fresh s'.heap e∨Tr (fun T=>s.heap.get? T=none) H' s'.heap e) (q:E (.ref C) (some e) H') :
  (cxM P w K mg base N qual scope f cd A outer s H E).xe (.ref e) s':=leave_cx I rfl rfl rfl he fl q
end
section
variable {X:Cx}{x:Str}{np cpos pos:Pos}{a:Expr}{as:List Expr}{t:TA}{C:Addr}{W:St→Addr→Hp→Prop}
theorem zC9 (hc:PySem.W.excIn X.K C [.type "ValueError",.type "Exception",.type "BaseException",.type "object"] "ValueError.__new__" = true) (hg:Gl X x) (hm:X.mg x=some (.ref C)) (hcm:X.calm=true) (ha:PA X (a :: as) t)
  (hx:∀ pins σ H s e,Inv X pins σ H s→H e=some (XO C e)→Fresh s.heap e→W σ e H→X.xe (.ref e) s) (hdb:(x == ("__debug__" : Str))=false:=by decide)
  (he:starEach (a :: as) X.env=(false,eval a X.env) :: starEach as X.env:=by rfl) (hpl:(backTo cpos (starEach as X.env)).any (·.1)=false:=by rfl) :
  PS X (.Raise (some (.Call (.Name x np) (a :: as) [] cpos)) none pos) (fun _ σ H=>t σ H fun vs H1=>vs.length≤sizeLine∧∀ e,H1 e=none→W σ e (upd H1 e (XO C e))):=by
 intro pins s σ H D I h;obtain ⟨bm,N,nm,q,bs,hdct,sn,sub,ab,col,dd,k0,k1,k2,k3,k5,mN,hC,hN,hni,T⟩:=zF9 I.ok.mod.kin hc;have hA:=ha cpos pins s σ H _ I h;refine wpAny_Raise_call_subU (C:=C) (nm:=nm) (q:=q) (N:=N) (bs:=bs) (bm:=bm) (hdct:=hdct) (sn:=sn) (sub:=sub) (ab:=ab) (col:=col) (dd:=dd) (k0:=k0) (k1:=k1) (k2:=k2) (k3:=k3) (k5:=k5)
  PySem.F.excBase_ValueError PySem.F.excBase_ValueError.hasB PySem.F.excBase_ValueError (mN:=mN) (T.hasType PySem.F.excBase_ValueError.hasBase) (I.ok.hd hcm) (by rw [he];show (false || (backTo cpos (starEach as X.env)).any (·.1))=false;rw [hpl];rfl) hni (zDh I hg hm ⟨rfl,?_⟩ hdb)
 rw [he] at hA ⊢;refine Calls.evalArgs_plain (thn hA fun us s2 ⟨vs,H2,I2,r,hz,k⟩=>⟨rfl,by rw [← r.length];exact hz,I2.bk _ _ hC,hN.keeps I2.bk,T.keeps I2.bk,fun h' e hm=>?_⟩);obtain ⟨tt,h1,h2,h3⟩:=hm.there;exact hx pins σ _ { s2 with heap:=h' } e (I2.born (t':=s2.toks) (o:=XO C e) hm.keeps hm.new (xo_ok h1 rfl rfl rfl)) zA1 ⟨_,_,_,h1,rfl,rfl,rfl⟩ (k e (I2.hok.noth hm.new))
end
end L2
namespace L2
open PySem PySem.Spec PyProof.Rows
noncomputable abbrev TW:=St→Addr→Addr→Hp→Prop
noncomputable def Cx.tri (X:Cx) (pins:List (Addr×Obj)) (W:TW):Cx:={ X with
 pn:=X.pn++pins
 xe:=fun u s'=>∃ e C σ' H',u=.ref e∧Inv X pins σ' H' s'∧H' e=some (XO C e)∧Tr (fun T=>X.s₀.heap.get? T=none∧∀ p∈X.pn++pins,p.1≠T) H' s'.heap e∧W σ' e C H' }
noncomputable def Cx.hnd (X:Cx) (e:Addr):Cx:={ X with
 A:=X.A.mark (some (.ref e))
 calm:=false
 xe:=fun _ _=>False }
section
variable {X:Cx}{pins pins':List (Addr×Obj)}{σ : St}{H:Hp}{s:Shared}{W:TW}{e:Addr}
theorem Cx.Ok.tri (ok:X.Ok):(X.tri pins W).Ok:=⟨ok.mod,ok.kind,ok.glob,ok.blt,ok.above,ok.inj,ok.has,ok.cab,ok.hd,ok.frames,ok.stk,ok.exf,ok.bs,ok.bsz,ok.noex,ok.exfs,ok.funs,ok.frf⟩
theorem Cx.Ok.untri (ok:(X.tri pins W).Ok):X.Ok:=⟨ok.mod,ok.kind,ok.glob,ok.blt,ok.above,ok.inj,ok.has,ok.cab,ok.hd,ok.frames,ok.stk,ok.exf,ok.bs,ok.bsz,ok.noex,ok.exfs,ok.funs,ok.frf⟩
theorem Cx.Ok.hnd (ok:X.Ok):(X.hnd e).Ok:=⟨ok.mod,ok.kind,ok.glob,ok.blt,ok.above,ok.inj,ok.has,ok.cab,(fun z=>Bool.noConfusion (show false=true from z)),ok.frames,ok.stk,ok.exf,ok.bs,ok.bsz,ok.noex,ok.exfs,ok.funs,ok.frf⟩
theorem Inv.tri (I:Inv X pins σ H s):Inv (X.tri pins W) [] σ H s:=⟨I.ok.tri,I.os,I.bare,I.base,I.loc,I.cell,I.free,I.freeC,fun p hp=>I.pin p (by simpa [Cx.tri] using hp),I.hok,I.len⟩
theorem Inv.untri (I:Inv (X.tri pins W) pins' σ H s):Inv X pins σ H s:=⟨I.ok.untri,I.os,I.bare,I.base,I.loc,I.cell,I.free,I.freeC,fun p hp=>I.pin p (Y6 _ hp),I.hok,I.len⟩
theorem Inv.hnd (I:Inv X pins σ H s):Inv (X.hnd e) pins σ H s:=⟨I.ok.hnd,I.os,I.bare,I.base,I.loc,I.cell,I.free,I.freeC,I.pin,I.hok,I.len⟩
theorem Inv.unhnd (ok:X.Ok) (I:Inv (X.hnd e) pins σ H s):Inv X pins σ H s:=⟨ok,I.os,I.bare,I.base,I.loc,I.cell,I.free,I.freeC,I.pin,I.hok,I.len⟩
theorem SP.untri {D:Ends}{f:Flow}{s':Shared} (h:SP (X.tri pins W) pins' D f s'):SP X pins D f s':=by
 cases f with
 | next=>obtain ⟨σ',H',I,q⟩:=h;exact ⟨σ',H',I.untri,q⟩
 | brk=>obtain ⟨σ',H',I,q⟩:=h;exact ⟨σ',H',I.untri,q⟩
 | cont=>obtain ⟨σ',H',I,q⟩:=h;exact ⟨σ',H',I.untri,q⟩
 | ret u=>obtain ⟨v,σ',H',I,r,q⟩:=h;exact ⟨v,σ',H',I.untri,r,q⟩
theorem pass_try (hx:X.ex=[]):Passes (CXM X.prog X.w) (X.tri pins W) (fun σ cls eo H'=>∃ e C,cls=.ref C∧eo=some e∧W σ e C H'):=fun pins' σ H1 s1 u s2 I c=>by
 obtain ⟨e,C,H',rfl,I',he,tr,e',C',h1,h2,q⟩:=I.cx c;cases h1;cases h2
 exact ⟨e,C,σ,H',rfl,I'.untri,he,tr.imp fun T n=>⟨I.back hx n,fun p hp z=>by
  have:=(I.pin p (Y6 _ hp)).1;rw [z,n] at this
  cases this⟩,q⟩
theorem Inv.gone {i:Nat}{n:Str}{v:Option Value}{m:Str→Option Value}{h':Heap}{t':Nat} (I:Inv X pins σ H s) (hN:X.N.Nodup) (hi:X.N[i]? = some n)
  (hl:∀ (j:Nat) (x:Str) (v:V),X.N[j]? = some x→σ[j]? = some (some v)→Vis X.env.scope x→∃ u,RelV v u∧Look X.env s.heap m x u) (hn:h'.Ns X.env.locals (fun x=>if x=n then v else m x)) (hs:Heap.SameBut X.env.locals s.heap h') :
  Inv X pins (σ.set i none) H { s with heap:=h',toks:=t' }:=by
 obtain ⟨oL,_,_,hoL,_⟩:=id I.loc.choose_spec.1;have cne:=I.cne;refine ⟨I.ok,I.os,I.bare,⟨fun b o e n hb hx=>?_,fun b o e n hb hx=>?_,I.base.free,fun b o e hx=>?_,I.base.tups,I.base.frzs,I.base.tbls⟩,⟨_,hn,fun j y v' e1 e2 e3=>?_⟩,fun y c e=>?_,I.free,I.freeC,fun p hp=>?_,fun b ob e=>?_,by simpa using I.len⟩
 ·exact (hs.2 b (Zf (Z8 (Zd e) I.ok.above))).trans (I.base.keep b o e n hb hx)
 ·obtain ⟨sl,e1⟩:=I.base.slot b o e n hb hx;exact ⟨sl,(hs.2 b (Zf (Z8 (Zd e) I.ok.above))).trans e1⟩
 ·obtain ⟨o',e1⟩:=I.base.there b o e hx;exact ⟨o',(hs.2 b (Zf (Z8 (Zd e) I.ok.above))).trans e1⟩
 ·have hj:j≠i:=by
   rintro rfl;rw [List.getElem?_set] at e2;simp only [if_true] at e2;split at e2 <;> cases e2
  rw [Yh (Ne.symm hj)] at e2;obtain ⟨u',r',q⟩:=hl j y v' e1 e2 e3;refine ⟨u',r',?_⟩;rcases q with ⟨k,e⟩ | ⟨k,c,e,z⟩
  ·refine .inl ⟨k,?_⟩;have:y≠n:=fun e=>hj (zF3 hN e1 (e ▸ hi));simp [this,e]
  ·exact .inr ⟨k,c,e,z.sameBut hs (cne y c e)⟩
 ·obtain ⟨w',z⟩:=I.cell y c e;exact ⟨w',z.sameBut hs (cne y c e)⟩
 ·obtain ⟨e,n,ne,nf,d⟩:=I.pin p hp;exact ⟨(hs.2 p.1 ne).trans e,n,ne,nf,d⟩
 ·refine (I.hok b ob e).stay (fun c w' hc q=>(hs.2 c ?_).trans q) (fun _ q=>q) fun _ _ q=>q;rintro rfl;rcases hc with hc | hc
  ·rw [← hc,I.free] at e;cases e
  ·rw [I.free] at hc;cases hc
end
noncomputable def Ends.but (D:Ends) (i:Nat):Ends:={ nx:=fun σ H=>D.nx (σ.set i none) H,rt:=D.rt,bk:=fun σ H=>D.bk (σ.set i none) H,ct:=fun σ H=>D.ct (σ.set i none) H }
section
variable {X:Cx}{x n:Str}{np hpos pos:Pos}{body suite:List Stmt}{b₀ : Stmt}{i:Nat}{B:Addr}{tb:TW→TS}{th:Addr→TS}
theorem ps_try (hx:X.ex=[]) (hs:X.stack=X.env :: X.outer) (hf:X.env.frame=some X.env.locals) (hN:X.N.Nodup) (hi:X.N[i]? = some n) (hl:X.env.scope.names.lookup n=some .local) (hg:Gl X x) (hm:X.mg x=some (.ref B))
  (hb:∀ pins W,PSs (X.tri pins W) body (tb W)) (hh:∀ e,PSs (X.hnd e) (b₀ :: suite) (th e)) (hdb:(x == ("__debug__" : Str))=false:=by decide) :
  PS X (.Try body [.ExceptHandler (some (.Name x np)) (some n) (b₀ :: suite) hpos] [] [] pos) (fun D σ H=>∃ W:TW,tb W D σ H∧∀ σ' e C H',H' e=some (XO C e)→W σ' e C H'→PySem.W.exmOne X.K (.ref C) (.ref B)=some true∧th e (D.but i) (σ'.set i (some (.ref e))) H'):=by
 intro pins s σ H D I ⟨W,hbW,hW⟩;refine wpAny_Try_except (wpAny_mono (hb pins W [] s σ H D I.tri hbW) (fun f s1 h1=>?_) (fun u s1 h1=>?_))
 ·have h1:=h1.untri;cases f with
  | next =>
   obtain ⟨σ',H',I',q⟩:=h1;exact zAb pins s1 σ' H' D I' q
  | brk=>exact h1
  | cont=>exact h1
  | ret u=>exact h1
 ·obtain ⟨e,C,σ',H',rfl,I',he,tr,w⟩:=h1;obtain ⟨oe,vs,a0,T0,oT,ts,h1,h2,h3,h4,⟨g1,g2⟩,nT,h5,h6,h7⟩:=tr;obtain ⟨hK,hT⟩:=hW σ' e C H' he w;have hfr:X.A.frames=some (X.env :: X.outer):=by rw [← hs];exact I.ok.frames
  have hl':s1.heap.FunFrames X.base (X.env :: X.outer):=by rw [← hs];exact I'.stack
  obtain ⟨ox,vx,hox,hcx,hdx⟩:=xo_of I'.hok he;rw [h1] at hox;cases hox;have hne:T0≠e:=fun z=>by rw [z,he] at nT;cases nT
  have F:=fly_of hl' h1 h2 h3 h4 hne h5 h6 h7;rw [hcx] at F;have mv:∀ {h':Heap}{t':Nat},Heap.FlyingW (bas s1.heap (X.env :: X.outer) e T0) (X.env :: X.outer) e (.ref C) a0 h'→s1.heap.UpToSlots h'→P2 e h'→Inv X pins σ' H' { s1 with heap:=h',toks:=t' }:=fun {h'}{t'} F up p2=>by
   have m:=L2.moved (fl:=.none) hl' F.1 F.2.2.1 F.2.2.2 up p2;rw [← hs] at m;exact I'.moved he nT g1 g2 h5 h6 m
  refine zD0 (.note _ _) (xo_p2 I'.hok he) (wpAny_looks_onW hfr hf F fun h₄ H4 up4 p4=>?_);refine zD0 (.flt _ _) p4 (wpAny_landsW H4 fun h₅ F5 up5 p5=>?_);have I5:=mv (t':=s1.toks) F5 (up4.trans up5) p5;have I5h:=I5.hnd (e:=e);refine wpAny_handleBy_cons (codeAny_handlers_test (zDh I5h hg hm ?_ hdb)) (by intro q;cases q);obtain ⟨o5,ho5,hc5⟩:=F5.there;have LT:PySem.W.Looks (model X.prog X.w) h₅ (typeOf (.ref e)) (.ref C):=by
   rw [← hc5];exact (PySem.W.Looks.ld ho5).andThen .now
  refine PySem.W.exm_one I5.kIn LT hK _ _ _ _ (fun _ _ q=>q) ?_;refine codeAny_handlers_suite_as ?_;refine zD0 (.flt _ _) p5 (lands_againW F5 fun h₆ F6 up6 p6=>?_);have I6:=(mv (t':=s1.toks) F6 ((up4.trans up5).trans up6) p6).hnd (e:=e);refine zEp (X:=X.hnd e) (i:=i) I6 hN hi (.inl hl) (v:=.ref e) rfl (fun s7 I7=>?_) (.inr hl);refine wpAny_mono (hh e pins s7 _ H' (D.but i) I7 hT) (fun f s8 h8=>?_) (fun _ _ z=>False.elim z);have done:∀ {σ8:St}{H8:Hp}{R:Unit→Shared→Prop}{E:Value→Shared→Prop},Inv (X.hnd e) pins σ8 H8 s8→(∀ s9,Inv X pins (σ8.set i none) H8 s9→R () s9)→wpAny (model X.prog X.w) X.A (do bindName X.env n .none;unbindBehindTheSuite X.env n hpos) R E s8:=fun {σ8 H8 R E} J r=>by
   have J:=J.unhnd I.ok;obtain ⟨m,hn,hloc⟩:=id J.loc;exact wpAny_nameGoes_keeps hl hn (by rw [I.ok.kind];rfl) fun h9 v hn9 hs9=>r _ (J.gone hN hi hloc hn9 hs9)
  cases f with
  | next=>obtain ⟨σ8,H8,J,q⟩:=h8;exact done J fun s9 J9=>⟨_,_,J9,q⟩
  | brk=>obtain ⟨σ8,H8,J,q⟩:=h8;exact done J fun s9 J9=>⟨_,_,J9,q⟩
  | cont=>obtain ⟨σ8,H8,J,q⟩:=h8;exact done J fun s9 J9=>⟨_,_,J9,q⟩
  | ret u=>obtain ⟨v,σ8,H8,J,r,q⟩:=h8;exact done J fun s9 J9=>⟨v,_,_,J9,r,q⟩
end
end L2
namespace L2
open PySem PySem.Spec PyProof.Rows PySem.W
section
variable {prog:Program}{w:World}{A:Around}{E:Value→Shared→Prop}{h:Heap}{g:Array GenState}{d:Drawn}{t:Nat}{os:OsState}{a:Addr}{o:Obj}
 {nm q:Str}{C N:Addr}{bs bm:List Value}{hdct:Bool}{sn:List Str}{sub:List Value}{ab:Bool}{col:Option Bool}{dd:Option Addr}{k0 k1 k2 k3 k5:Option Value}{newId:String}
theorem check_ga {M:Model}{nameV:Value}{Q:Unit→Shared→Prop} (hC:h.get? C=some (excClassObj nm q C N bs bm hdct sn sub ab col dd k0 k1 k2 k3 k5 newId)) (hcB:(Value.ref C :: bm).contains (.type "BaseException")=true)
  (hx:h.get? a=some o) (hc:o.cls=.ref C) (hq:Q () ⟨h,g,d,t,os⟩):wpAny M A (checkBuiltinCall "BaseException.__getattribute__" ⟨[.ref a,nameV],[]⟩) Q E ⟨h,g,d,t,os⟩:=by
 have hk:builtinKind "BaseException.__getattribute__" = some .slot:=by decide +kernel
 have hsplit:splitId "BaseException.__getattribute__" = some ("BaseException", "__getattribute__"):=by decide +kernel
 have ha:=PySem.F.args_bexc_ga (.ref a) nameV;simp only [checkBuiltinCall,hk,hsplit];refine wpAny_bind ?_
 ·unfold isInstance
  repeat (first | (with_reducible refine wpAny_loadPart_at hx ?_;rw [hc]) | (with_reducible refine wpAny_isSubtype_exc hC ?_;rw [hcB]) | wp_step)
  exact hq
end
section
variable {prog:Program}{w:World}{A:Around}{E:Value→Shared→Prop}{s:Shared}{K:Frag}{x C D:Addr}{ox:Obj}
open Builtin Builtin.ObjectAttr Builtin.Getset_descriptor in
theorem xc_get {R:Result→Shared→Prop}{tp:Value} (X:K.In s.heap) (L0:Looks (model prog w) s.heap (typeOf (.ref x)) (.ref D)) (hm:mroIn K D (.type "object")=some true) (h:R (.ok (.ret (.ref D))) s) :
  codeAny (model prog w) A (.call (.builtin "getset_descriptor.__get__") ⟨[.builtin "object.__class__",.ref x,tp],[]⟩) R s:=by
 obtain ⟨hh,g,dr,t,os⟩:=s;have L1:=looks_mroIn (M:=model prog w) X hm;refine codeAny_call_builtin KF.slot_gs.plain KF.entry_gs (KF.slot_gs.check _ _ _ _ _ _ _ _ KF.type_class (KF.args_gs _ _ _) ?_);unfold Builtin.«getset_descriptor.__get__» descrGet;rw [dga_obj];refine wpAny_bind (wpAny_pure ?_);unfold descrGetter descrCheckInstance descrNameAndClass isInstance;simp only [KF.owner_class];repeat lk
 refine ⟨Code.quiet_builtin _ (by decide +kernel),codeAny_builtin KF.entry_class ?_⟩;unfold Builtin.«object.__class__» shownTypeOf
 repeat lk
 exact h
theorem xc_class {Q:Option Value→Shared→Prop} (X:K.In s.heap) (hx:s.heap.get? x=some ox) (hc:ox.cls=.ref D) (hga:findIn K (.ref D) "__getattribute__" = some (some (.builtin "BaseException.__getattribute__"))) (hgt:findIn K (.ref D) "__getattr__" = some none)
  (hcf:findIn K (.ref D) "__class__" = some (some (.builtin "object.__class__"))) (hm:mroIn K D (.type "object")=some true) (hexc:excIn K D [.type "ValueError",.type "Exception",.type "BaseException",.type "object"] "ValueError.__new__" = true)
  (h:Q (some (.ref D)) { s with toks:=s.toks + 1 }):wpAny (model prog w) A (getAttr? (.ref x) "__class__") Q E s:=by
 obtain ⟨hh,g,d,t,os⟩:=s;have L0:Looks (model prog w) hh (typeOf (.ref x)) (.ref D):=by rw [← hc];exact (Looks.ld hx).andThen .now
 have L1:=looks_findIn (M:=model prog w) X hga;have L2:=looks_findIn (M:=model prog w) X hgt;have hx2:(Value.builtin "BaseException.__getattribute__" == Value.builtin "object.__getattribute__")=false:=by decide +kernel
 have hx1:(onTheHeap (Value.ref D) && Value.builtin "BaseException.__getattribute__" == Value.builtin "object.__getattribute__")=false:=by rw [hx2];rfl
 have f3:=PySem.F.attr_ValueError.ga.bind (.ref x);unfold getAttr? getAttrBy? getAttrBy;refine wpAny_bind (wpAny_mkText (wpAny_bind (wpAny_attempt (wpAny_holding (wpAny_bind (L0.at (wpAny_bind (L1.at ?_))))))));simp only [hx1,hx2];rw [if_neg (by simp)];unfold getAttrByItsOwn
 repeat (any_goals (first | assumption | with_reducible refine L2.at ?_ | with_reducible refine L0.at ?_ | with_reducible refine L1.at ?_ | wp_step))
 obtain ⟨bm,N,nm,q,bs,hdct,sn,sub,ab,col,dd,k0,k1,k2,k3,k5,mN,hC,hN,hni,T⟩:=zF9 X hexc;refine codeAny_call_builtin PySem.F.attr_ValueError.ga.plain PySem.F.entry_bexc_ga (check_ga hC (by rw [List.contains_cons,T.hasType PySem.F.excBase_ValueError.hasBase];rfl) hx hc ?_);have L3:=looks_findIn (M:=model prog w) X hcf;have f5:typeOf (.builtin "object.__class__")=pure (.type "getset_descriptor"):=by kernel_rfl
 have f6:=PySem.F.slot_gs_get.lookup;have f7:=PySem.F.slot_gs_set.lookup
 repeat (any_goals (first | assumption | with_reducible refine L3.at ?_ | with_reducible refine L0.at ?_ | wp_step))
 refine xc_get X L0 hm ?_;exact wpAny_pure (handed_on rfl (wpAny_pure h))
structure XCls (K:Frag) (C:Addr):Prop where
 exc:excIn K C [.type "ValueError",.type "Exception",.type "BaseException",.type "object"] "ValueError.__new__" = true
 ga:findIn K (.ref C) "__getattribute__" = some (some (.builtin "BaseException.__getattribute__"))
 gt:findIn K (.ref C) "__getattr__" = some none
 cf:findIn K (.ref C) "__class__" = some (some (.builtin "object.__class__"))
 ob:mroIn K C (.type "object")=some true
theorem kitx_exc {e:Addr} (c:XCls K C):KitX K (.ref e) (.ref C) (fun h=>∃ ox,h.get? e=some ox∧ox.cls=.ref C) where
 ty:=fun _ _ _ ⟨_,hx,hc⟩=>by rw [← hc];exact (Looks.ld hx).andThen .now
 it:=fun _ _ X _=>by
  obtain ⟨bm,N,nm,q,bs,hdct,sn,sub,ab,col,dd,k0,k1,k2,k3,k5,mN,hC,_⟩:=zF9 X c.exc;intro A' Q' E' s' k q;unfold isType loadHead;exact wpAny_bind (wpAny_loadPart (k _ _ hC) (wpAny_pure q))
 ne:=fun h tp dd its n sl X htp=>by
  obtain ⟨bm,N,nm,q,bs,hdct,sn,sub,ab,col,dd,k0,k1,k2,k3,k5,mN,hC,_⟩:=zF9 X c.exc;refine Bool.eq_false_iff.mpr fun q=>?_;have e:C=tp:=Value.ref.inj (beq_iff_eq.mp q);subst e;rw [hC] at htp;exact nomatch congrArg Obj.data (Zk htp)
 ca:=fun X ⟨_,hx,hc⟩ k=>xc_class X hx hc c.ga c.gt c.cf c.ob c.exc k
end
section
variable {X:Cx}
theorem call_isinstX {K:Frag} (hK:X.K=K):CallR X (.builtin "isinstance") (fun xs H Q=>∃ a C c cv b,xs=[.ref a,c]∧H a=some (XO C a)∧XCls K C∧absV cv=some c∧kitOne K (.ref C) cv=some b∧((∀ t,cv≠.ref t)→∃ T,cv=.type T)∧Q (.bl b) H):=by
 intro pins s σ H xs us Q I rv ⟨a,C,c,cv,b,ex,ha,hc,rc,hk,hT,q⟩;subst ex hK;obtain ⟨u1,u2,rfl,r1,r2⟩:=L2.v2 rv;cases (show u1=Value.ref a from r1);obtain ⟨o,vs,h1,h2,h3⟩:=xo_of I.hok ha;have e2:u2=cv:=by
  cases cv with
  | ref t=>cases (Zk rc);exact r2
  | type T=>cases (Zk rc);exact r2
  | _=>obtain ⟨T,z⟩:=hT (fun _ z=>nomatch z);cases z
 subst e2;exact kia_one (kitx_exc hc) I.kIn ⟨o,h1,h2⟩ hk (fun z=>nomatch z) fun tk=>⟨.bl b,H,I.tok tk,rfl,q⟩
theorem zDl {K:Frag} (hK:X.K=K):CallR X (.builtin "isinstance") (fun xs H Q=>∃ (a C t:Addr) (cs:List Addr) (b:Bool),xs=[.ref a,.ref t]∧H a=some (XO C a)∧XCls K C∧H t=some (.tup (cs.map V.ref))∧kitAny K (.ref C) (cs.map Value.ref)=some b∧Q (.bl b) H):=by
 intro pins s σ H xs us Q I rv ⟨a,C,t,cs,b,ex,ha,hc,ht,hk,q⟩;subst ex hK;obtain ⟨u1,u2,rfl,r1,r2⟩:=L2.v2 rv;cases (show u1=Value.ref a from r1);cases (show u2=Value.ref t from r2);obtain ⟨o,vs,h1,h2,h3⟩:=xo_of I.hok ha;obtain ⟨_,its,r,ob,e1,e2,n,e3⟩:=(show ObjOk X.prog X.w H s.heap t (.tup (cs.map V.ref)) from I.hok t _ ht);have key:∀ (cs:List Addr) (its:List Value),Vals (cs.map V.ref) its→its=cs.map Value.ref:=by
  intro cs
  induction cs with
  | nil=>intro its r;cases r;rfl
  | cons c cs ih =>
   intro its r;cases r with
   | cons r0 r' =>
    rw [ih _ r'];cases r0;rfl
 have ei:=key cs its r;subst ei;obtain ⟨oc,od,oda,osl⟩:=ob;cases e2;cases e3;exact kia_tup (kitx_exc hc) I.kIn ⟨o,h1,h2⟩ e1 hk (fun z=>nomatch z) fun tk=>⟨.bl b,H,I.tok tk,rfl,q⟩
end
end L2
namespace L2
open PySem PySem.Spec PyProof.Rows
theorem Fun.okX {P:Program}{w:World}{K:PySem.W.Frag}{mg:Str→Option Value}{base:Heap}{CX:CXT}{x qual:Str}{st:Stmt}{f:Addr}{fd:FuncData}{N ps:List Str}{k:Nat}{sp:Sp} (F:Fun K x qual st f fd) (S:FnScope N ps (defScope st)) (len:∀ vs H Q E,sp vs H Q E→vs.length=ps.length)
  (hbody:∀ (cdv:Value) (A:Around) (outer:List Env) (s:Shared) (H:Hp) (vs:List V) (Q:VK) (E:XK),Room k (A.deeper (envOfC qual (defScope st) s.heap.objs.size f cdv))→sp vs H Q E →
   ∃ t,PSs (cxOf CX P w K mg base N qual (defScope st) f cdv A outer s H E) (defBody st) t∧t { nx:=fun _ H'=>Q .non H',rt:=Q } (start N vs) H):FnOk P w K mg base CX (k + 1) f fd ps sp:=by
 obtain ⟨oc,od,kV,doc,pm,an,cdv,ct,osl,rfl,lk,hcd⟩:=F.ex;exact zF8 lk hcd S len fun A outer s H vs Q E hr hsp=>hbody cdv A outer s H vs Q E hr hsp
theorem FnOk.or {P:Program}{w:World}{K:PySem.W.Frag}{mg:Str→Option Value}{base:Heap}{CX:CXT}{k:Nat}{f:Addr}{fd:FuncData}{ps:List Str}{sp sp':Sp} (F:FnOk P w K mg base CX k f fd ps sp) (G:FnOk P w K mg base CX k f fd ps sp'):FnOk P w K mg base CX k f fd ps (fun vs H Q E=>sp vs H Q E∨sp' vs H Q E) :=
 ⟨fun vs H Q E h=>h.elim (F.len vs H Q E) (G.len vs H Q E),fun A outer s H args us vs Q E hr he hb hv h=>h.elim (F.run A outer s H args us vs Q E hr he hb hv) (G.run A outer s H args us vs Q E hr he hb hv)⟩
namespace W
noncomputable def zC9:=by have h:=@L2.zC9;rw [ePS,ePA] at h;exact @h
noncomputable def ps_try:=by have h:=@L2.ps_try;rw [ePS,ePSs] at h;exact @h
noncomputable def Fun.okX:=by have h:=@L2.Fun.okX;rw [ePSs] at h;exact @h
end W
end L2
namespace L2
open PySem PySem.Spec PyProof.Rows
noncomputable def Cx.re (X:Cx) (N':List Str):Cx:={ X with N:=N' }
noncomputable def hide:List Nat→St→St
 | [],σ=>σ
 | i :: is,σ=>hide is (σ.set i none)
theorem zF6:∀ (is:List Nat) (σ : St),(hide is σ).length = σ.length
 | [],_=>rfl
 | i :: is,σ=>by rw [hide,zF6 is,List.length_set]
theorem zF7:∀ (is:List Nat) (σ : St) (i:Nat) (v:V),(hide is σ)[i]? = some (some v)→i∉is∧σ[i]? = some (some v)
 | [],_,_,_,h=>⟨by simp,h⟩
 | j :: is,σ,i,v,h=>by
  obtain ⟨h1,h2⟩:=zF7 is _ i v h;have ne:j≠i:=by
   rintro rfl;rw [List.getElem?_set] at h2;simp only [if_true] at h2;split at h2 <;> cases h2
  rw [Yh ne] at h2;exact ⟨by simp [h1,Ne.symm ne],h2⟩
noncomputable def Ends.hid (D:Ends) (is:List Nat):Ends:={ nx:=fun σ H=>D.nx (hide is σ) H,rt:=D.rt,bk:=fun σ H=>D.bk (hide is σ) H,ct:=fun σ H=>D.ct (hide is σ) H }
noncomputable def sameN (N N':List Str) (is:List Nat):Prop:=N'.length=N.length∧∀ i,i < N.length→i∉is→N'[i]? = N[i]?
section
variable {X:Cx}{pins:List (Addr×Obj)}{σ : St}{H:Hp}{s:Shared}{N':List Str}{is:List Nat}{st:Stmt}{t:TS}
theorem Inv.re (h:sameN X.N N' is) (I:Inv X pins σ H s):Inv (X.re N') pins (hide is σ) H s :=
 ⟨⟨I.ok.mod,I.ok.kind,I.ok.glob,I.ok.blt,I.ok.above,I.ok.inj,I.ok.has,I.ok.cab,I.ok.hd,I.ok.frames,I.ok.stk,I.ok.exf,I.ok.bs,I.ok.bsz,I.ok.noex,I.ok.exfs,I.ok.funs,I.ok.frf⟩,I.os,I.bare,I.base,by
  obtain ⟨m,hn,hl⟩:=I.loc;refine ⟨m,hn,fun i x v e1 e2 e3=>?_⟩;obtain ⟨n,e2⟩:=zF7 is σ i v e2;have il:i < X.N.length:=by rw [← h.1];exact (List.getElem?_eq_some_iff.mp e1).1
  exact hl i x v ((h.2 i il n).symm.trans e1) e2 e3,I.cell,I.free,I.freeC,I.pin,I.hok,by rw [zF6,I.len];exact h.1.symm⟩
theorem Inv.unre (ok:X.Ok) (h:sameN X.N N' is) (I:Inv (X.re N') pins σ H s):Inv X pins (hide is σ) H s :=
 ⟨ok,I.os,I.bare,I.base,by
  obtain ⟨m,hn,hl⟩:=I.loc;refine ⟨m,hn,fun i x v e1 e2 e3=>?_⟩;obtain ⟨n,e2⟩:=zF7 is σ i v e2;have il:i < X.N.length:=(List.getElem?_eq_some_iff.mp e1).1
  exact hl i x v ((h.2 i il n).trans e1) e2 e3,I.cell,I.free,I.freeC,I.pin,I.hok,by rw [zF6,I.len];exact h.1⟩
theorem ps_re (N':List Str) (is:List Nat) (h:sameN X.N N' is) (hs:PS (X.re N') st t):PS X st (fun D σ H=>t (D.hid is) (hide is σ) H):=by
 intro pins s σ H D I hw;refine wpAny_mono (hs pins s (hide is σ) H (D.hid is) (I.re h) hw) (fun f s1 h1=>?_) (fun _ _ e=>e);cases f with
 | next=>obtain ⟨σ',H',J,q⟩:=h1;exact ⟨_,_,J.unre I.ok h,q⟩
 | brk=>obtain ⟨σ',H',J,q⟩:=h1;exact ⟨_,_,J.unre I.ok h,q⟩
 | cont=>obtain ⟨σ',H',J,q⟩:=h1;exact ⟨_,_,J.unre I.ok h,q⟩
 | ret u=>obtain ⟨v,σ',H',J,r,q⟩:=h1;exact ⟨v,_,_,J.unre I.ok h,r,q⟩
end
theorem FnOk.calm {P:Program}{w:World}{K:PySem.W.Frag}{mg:Str→Option Value}{base:Heap}{CX:CXT}{k:Nat}{f:Addr}{fd:FuncData}{ps:List Str}{sp:Sp} (hC:Calm CX) (F:FnOk P w K mg base CX k f fd ps sp):FnOk P w K mg base CX0 k f fd ps (fun vs H Q E=>sp vs H Q fun _ _ _=>False) :=
 ⟨fun vs H Q E h=>F.len vs H Q _ h,fun A outer s H args us vs Q E hr he hb hv h=>by
  have:=F.run A outer s H args us vs Q (fun _ _ _=>False) hr he hb hv h;refine codeAny_mono this fun r s' h'=>?_;cases r with
  | ok c =>
   cases c with
   | ret u=>exact h'
   | _=>exact h'
  | error e=>exact hC _ _ _ _ _ h'⟩
namespace W
noncomputable def ps_re:=by have h:=@L2.ps_re;rw [ePS] at h;exact @h
end W
end L2
namespace L2
open PySem PySem.Spec PyProof.Rows
structure TabM (H:Hp) (P:Addr) (q:Str):Prop where
 ex:∃ ps:Array Value,H P=some (.tbl ps)∧TriplesOk ps.toList∧∀ (pos:Pos) (v:Value),codeAmong pos ps.toList=some v→∃ a,v=.ref a∧H a=some (CodeO a q)
theorem TabM.ne {H:Hp}{P:Addr}{q:Str} (T:TabM H P q) {a:Addr}{o:HO} (e:H a=some o) (h:∀ ps,o≠.tbl ps):a≠P:=by
 rintro rfl;obtain ⟨ps,z,_⟩:=T.ex;rw [e] at z;exact h _ (Zk z)
theorem TabM.upd {H:Hp}{P:Addr}{q:Str}{p:Addr}{u o:HO} (T:TabM H P q) (hp:H p=some u) (h1:∀ ps,u≠.tbl ps) (h2:∀ f,u≠.ext f):TabM (L2.upd H p o) P q:=by
 have n1:=T.ne hp h1;obtain ⟨ps,z,t,c⟩:=T.ex;refine ⟨ps,by rw [zA9 (Ne.symm n1)];exact z,t,fun pos v e=>?_⟩;obtain ⟨a,e1,e2⟩:=c pos v e;refine ⟨a,e1,?_⟩;rw [zA9 ?_]
 ·exact e2
 ·rintro rfl;rw [hp] at e2;exact h2 _ (Zk e2)
section
variable {f c':Addr}{q:Str}{params:Arguments}{body:Expr}{scope:Scope}{cl:List (Str×Addr)}{N:List Str}{ws:List V}{h h':Heap}{H:Hp}
end
section
variable {CX:CXT}{P:Program}{w:World}{K:PySem.W.Frag}{mg:Str→Option Value}{base:Heap}{k:Nat}{f c':Addr}{q:Str}{params:Arguments}{body:Expr}{scope:Scope}{cl:List (Str×Addr)}{N:List Str}{ws:List V}
end
section
variable {X:Cx}{CX:CXT}{k:Nat}{f c':Addr}{q x:Str}{params:Arguments}{body:Expr}{scope:Scope}{cl:List (Str×Addr)}{N:List Str}{ws:List V}{sp:Hp→VK→XK→Prop}{E:St→XK}{i:Nat}{p pos:Pos}
end
section
variable {X:Cx}{pins:List (Addr×Obj)}{σ : St}{H:Hp}{s:Shared}{A:Around}{E:Value→Shared→Prop}
end
section
variable {X:Cx}{CX:CXT}{k:Nat}{fw c P:Addr}{fd:FuncData}{q x y:Str}{params:Arguments}{body:Expr}{scope:Scope}{N:List Str}{ix:List Nat}{sp:Addr→Addr→List (Str×Addr)→List V→Sp}{E:St→XK}{p lpos pos:Pos}
end
theorem FunL.okX {P:Program}{w:World}{K:PySem.W.Frag}{mg:Str→Option Value}{base:Heap}{CX:CXT}{x qual:Str}{st:Stmt}{f c:Addr}{fd:FuncData}{N ps:List Str}{k:Nat}{sp:Sp} (F:FunL K x qual st f fd c) (S:FnScope N ps (defScope st)) (len:∀ vs H Q E,sp vs H Q E→vs.length=ps.length)
  (hbody:∀ (A:Around) (outer:List Env) (s:Shared) (H:Hp) (vs:List V) (Q:VK) (E:XK),Room k (A.deeper (envOfC qual (defScope st) s.heap.objs.size f (.ref c)))→sp vs H Q E →
   ∃ t,PSs (cxOf CX P w K mg base N qual (defScope st) f (.ref c) A outer s H E) (defBody st) t∧t { nx:=fun _ H'=>Q .non H',rt:=Q } (start N vs) H):FnOk P w K mg base CX (k + 1) f fd ps sp:=by
 obtain ⟨oc,od,kV,doc,pm,an,ct,osl,rfl,lk,hcd⟩:=F.ex;exact zF8 lk hcd S len fun A outer s H vs Q E hr hsp=>hbody A outer s H vs Q E hr hsp
namespace W
noncomputable def FunL.okX:=by have h:=@L2.FunL.okX;rw [ePSs] at h;exact @h
end W
end L2
namespace PySem.SeqAt
open AutoSeq1 (wpAny_loadPart')
open MeetsSeq
section
variable {A:Around}{s:Shared}
end
end PySem.SeqAt
namespace L2
open PySem PySem.Spec PyProof.Rows
section
variable {X:Cx}{pins:List (Addr×Obj)}{σ : St}{H:Hp}{s:Shared}
end
end L2
namespace L2
open PySem PySem.Spec PyProof.Rows
noncomputable def OnlyTs (ts:List Addr) (H:Hp):Prop:=(∀ T∈ts,H T=some (.tbl #[]))∧∀ b,b∉ts→H b=none∨∃ o xs,H b=some (.frz o (.lst xs))
theorem law_callTs {P:Program}{w:World}{K:PySem.W.Frag}{mg mb:Str→Option Value}{CX:CXT}{k:Nat}{fa a:Addr}{ts:List Addr}{fd:FuncData}{x:Str}{sp:Sp}{s₁ : Shared}{vs:List Value}{ns:List Int}
  (KX:K.In s₁.heap) (hns:s₁.heap.Ns mainGlobals mg) (hb:s₁.heap.Ns builtinsNs mb) (hbb:∀ x:Str,x≠"__name__"→mb x=bootBuiltins x) (hlim:s₁.heap.NoLimit) (hg:s₁.gens = #[]) (hBl:BltAt mg s₁.heap) (hT:∀ T∈ts,s₁.heap.get? T=some (PySem.W.tabObj #[])) (hKT:∀ T∈ts,K.lookup T=none) (hCd:∀ T∈ts,∃ c,PySem.W.codeHdIn K c T=true)
  (ha:s₁.heap.get? a=some { cls:=.type "list",data:=.seq vs.toArray }) (hi:IntsAre vs ns) (hl:ns.length≤sizeLine) (hr:Room k callerA)
  (F:∀ base:Heap,K.In base→base.Ns mainGlobals mg→BltAt mg base→FnOk P w K mg base CX k fa fd [x] sp) (hbind:∀ (s:Shared) (u:Value),BindsTo s fd ⟨[u],[]⟩ [(x,u)])
  (hsp:∀ H:Hp,OnlyTs ts H→SqL K H a (ns.map V.int)→sp [.ref a] H (fun v _=>v=.bl true) fun _ _ _=>False)
  (hCX:∀ H e s',CX [] H s₁ (fun _ _ _=>False) e s'→False) :
  codeAny (model P w) callerA (.call (.ref fa) ⟨[.ref a],[]⟩) (fun r s'=>r=.ok (.ret (.bool true))∧OldK s₁.heap s'.heap∧s'.os=s₁.os∧AllBare s'.gens) s₁:=by
 have rv:=vals_ints hi;have lenV:=hi.length;have aT:a∉ts:=fun h=>by
  have:=hT a h;rw [ha] at this;cases this
 have core:∀ H:Hp,OnlyTs ts H→SqL K H a (ns.map V.int)→HOk P w H s₁.heap→(∀ b,H b≠none→b=a∨b∈ts)→(H a≠none→K.lookup a=none) →
   codeAny (model P w) callerA (.call (.ref fa) ⟨[.ref a],[]⟩) (fun r s'=>r=.ok (.ret (.bool true))∧OldK s₁.heap s'.heap∧s'.os=s₁.os∧AllBare s'.gens) s₁:=by
  intro H hO hS hok hA hK;have base_of:∀ {b:Addr}{o:Obj},s₁.heap.get? b=some o→H b=none→(hidT s₁.heap H).get? b=some o:=fun e n=>hidT_get e n;have noA:∀ {b:Addr}{o:Obj}{es:Array DictEntry}{ep:Nat},s₁.heap.get? b=some o→o.data=.dict es ep→H b=none:=fun {b o es ep} e d=>by
   cases q:H b with
   | none=>rfl
   | some u =>
    rcases hA b (by rw [q];simp) with e' | e'
    ·subst e';rw [ha] at e;cases e;have d':Data.seq vs.toArray _=Data.dict es ep:=d;cases d'
    ·rw [hT b e'] at e;cases e;cases d
  have nsK:∀ {b:Addr}{m:Str→Option Value},s₁.heap.Ns b m→(hidT s₁.heap H).Ns b m:=fun {b m} ⟨o,es,ep,e,d,r⟩=>⟨o,es,ep,base_of e (noA e d),d,r⟩
  have hKb:K.In (hidT s₁.heap H):=fun b o e=>base_of (KX b o e) (by
   cases q:H b with
   | none=>rfl
   | some u =>
    rcases hA b (by rw [q];simp) with e' | e'
    ·subst e';rw [hK (by rw [q];simp)] at e;cases e
    ·rw [hKT b e'] at e;cases e)
  have hBl2:BltAt mg (hidT s₁.heap H):=by
   obtain ⟨bm,ob,e1,e2,e3,e4,e5,e6,e7⟩:=hBl;refine ⟨bm,ob,e1,e2,e3,base_of e4 ?_,e5,e6,e7⟩;cases q:H bm with
   | none=>rfl
   | some u =>
    rcases hA bm (by rw [q];simp) with e' | e'
    ·subst e';rw [ha] at e4;cases e4;exact absurd (show Value.type "list" = Value.type "module" from e5) (by decide)
    ·rw [hT bm e'] at e4;cases e4;exact absurd (show Value.none=Value.type "module" from e5) (by decide)
  have hM:Mod K mg (hidT s₁.heap H):=⟨hKb,nsK hns,⟨mb,nsK hb,hbb⟩,let ⟨mc,h1,h2⟩:=hlim;⟨mc,nsK h1,h2⟩⟩;have e0:Env0 P w K mg (hidT s₁.heap H) callerA [] s₁ H:=⟨rfl,hM,fun b o e=>of_hidT e,Nat.le_of_eq (hidT_size _ _),trivial,fun b hb=>absurd (show b∈([]:List Addr) from hb) (by simp),hok,.of_eq hg⟩;refine codeAny_mono ((F _ hKb (nsK hns) hBl2).run callerA [] s₁ H ⟨[.ref a],[]⟩ [.ref a] [.ref a] _ _ hr e0 (hbind s₁ (.ref a)) (.cons rfl .nil) (hsp H hO hS)) fun r s' h=>?_;cases r with
  | error e=>exact (hCX H e s' h).elim
  | ok fl =>
   cases fl with
   | next=>exact False.elim h
   | brk=>exact False.elim h
   | cont=>exact False.elim h
   | ret u =>
    obtain ⟨v,H',os,bare,un,hok',r',q⟩:=h;have q':v=.bl true:=q;subst q';obtain rfl:u=Value.bool true:=r';have keep:∀ b o,b∉ts→s₁.heap.get? b=some o→s'.heap.get? b=some o:=fun b o nb e=>by
     cases q:H b with
     | none=>exact un.keep b o e q (by intro z;exact absurd (show b∈([]:List Addr) from z) (by simp)) (by simp)
     | some u =>
      rcases hO.2 b nb with z | ⟨ob,xs,z⟩
      ·rw [q] at z;cases z
      ·have z2:=un.frzs b ob _ z;obtain ⟨e1,_⟩:=hok b _ z;obtain ⟨e2,_⟩:=hok' b _ z2;rw [e] at e1;cases e1;exact e2
    have gT:∀ T∈ts,∃ more,s'.heap.get? T=some { cls:=.none,data:=.fields (#[]++more) }:=fun T hm=>by
     obtain ⟨more,eT⟩:=un.tbls T _ (hO.1 T hm);exact ⟨more,hok' T _ eT⟩
    refine ⟨rfl,⟨fun b o e=>?_,fun b o e=>?_⟩,os,bare⟩
    ·by_cases nb:b∈ts
     ·obtain ⟨more,g⟩:=gT b nb;rw [hT b nb] at e;cases e;obtain ⟨c,hc⟩:=hCd b nb;obtain ⟨oc,vsc,_,_,_,_,_,_,_,g1,g2,g3,g4,_⟩:=PySem.W.codeHd_of_K KX hc;exact .inr (.inl ⟨⟨c,oc,vsc,g1,g2,g3,g4⟩,rfl,#[],more,rfl,g⟩)
     ·exact .inl (keep b o nb e)
    ·by_cases nb:b∈ts
     ·obtain ⟨more,g⟩:=gT b nb;exact ⟨_,g⟩
     ·exact ⟨o,keep b o nb e⟩
 cases hk:K.lookup a with
 | some o =>
  have e:=KX a o hk;rw [ha] at e;cases e;refine core (fun b=>if b∈ts then some (.tbl #[]) else none) ⟨fun T hm=>if_pos hm,fun b nb=>.inl (if_neg nb)⟩ (.inr ⟨_,vs.toArray,_,hk,rfl,rfl,rfl,by rw [Z9,lenV];exact hl,by simpa using rv⟩) (fun b u z=>?_) (fun b z=>?_) fun z=>absurd (if_neg aT) z
  ·by_cases nb:b∈ts
   ·have z':=(if_pos nb).symm.trans z;cases z';exact hT b nb
   ·have z':=(if_neg nb).symm.trans z;cases z'
  ·by_cases nb:b∈ts
   ·exact .inr nb
   ·exact absurd (if_neg nb) z
 | none =>
  refine core (fun b=>if b∈ts then some (.tbl #[]) else if b=a then some (.frz { cls:=.type "list",data:=.seq vs.toArray } (.lst (ns.map V.int))) else none) ⟨fun T hm=>if_pos hm,fun b nb=>?_⟩ (.inl (.inr ⟨{ cls:=.type "list",data:=.seq vs.toArray },?_⟩)) (fun b u z=>?_) (fun b z=>?_) fun _=>hk
  ·by_cases hb:b=a
   ·exact .inr ⟨_,_,(if_neg nb).trans (if_pos hb)⟩
   ·exact .inl ((if_neg nb).trans (if_neg hb))
  ·exact (if_neg aT).trans (if_pos rfl)
  ·by_cases nb:b∈ts
   ·have z':=(if_pos nb).symm.trans z;cases z';exact hT b nb
   ·have z':=(if_neg nb).symm.trans z;by_cases hb:b=a
    ·have z2:=(if_pos hb).symm.trans z';cases z2;subst hb;exact ⟨ha,by rw [Z0];exact hl,vs,_,rv,ha⟩
    ·have z2:=(if_neg hb).symm.trans z';cases z2
  ·by_cases nb:b∈ts
   ·exact .inr nb
   ·by_cases hb:b=a
    ·exact .inl hb
    ·exact absurd ((if_neg nb).trans (if_neg hb)) z
end L2
namespace L2
open PySem PySem.Spec PyProof.Rows
section
variable {X:Cx}
theorem mt_lindex {K:PySem.W.Frag} (hK:X.K=K):MtR X "list.index" (fun x xs H Q=>∃ (l:Addr) (ks:List Str) (n:Str) (j:Nat),x=.ref l∧xs=[.str n]∧SqL K H l (ks.map V.str)∧ks[j]? = some n∧(∀ m,m < j→ks[m]?≠some n)∧Q (.int (j:Nat)) H):=by
 subst hK;intro pins s σ H x xs v us Q I rx rv h;obtain ⟨l,ks,n,j,rfl,rfl,hl,hj,hno,q⟩:=h;cases (show v=Value.ref l from rx);obtain ⟨u,rfl,ru⟩:=v1 rv;obtain ⟨its,r,pl,hz⟩:=I.list hl;obtain ⟨⟨cls,dd,data,sl⟩,ho,hc,n',hd⟩:=pl.isList;simp only at hc hd;subst hc hd;have jl:j < ks.length:=(List.getElem?_eq_some_iff.mp hj).1;have ln:=r.length;rw [Z0] at ln hz;have fs:(ks.map V.str).all flatV=true:=by
  rw [Yd];intro x hx;obtain ⟨k,_,rfl⟩:=List.mem_map.mp hx;rfl
 have at_:∀ (i:Nat) (hi:i < its.toArray.size) (k:Str),ks[i]? = some k→eqU (.str n) its.toArray[i]=eqV (.str k) (.str n):=fun i hi k e=>by
  obtain ⟨w',hw,rw'⟩:=r.get (i:=i) (x:=.str k) (by rw [Z6,e];rfl);have:its.toArray[i]=w':=by
   have h1:its[i]? = some its.toArray[i]:=by simp
   rw [hw] at h1;exact (Zk h1).symm
  rw [this];exact eqU_of rw' rfl
 have szl:(sizeLine:Nat)=16777216:=sizeLine_eq;refine call_meets PySem.F.slot_list_index ⟨_,ho,rfl⟩ PySem.F.entry_list_index (PySem.F.args_list_index_2 _ _) (SeqAt.list_indexAt l its.toArray n' dd sl u (eqU (.str n)) j (by simp;omega) (by omega) ?_ ?_) ⟨ho,fun y hy=>zCt ru rfl r fs y (by simpa using hy),?_⟩
 ·rw [at_ j (by simp;omega) n hj];simp [eqV]
 ·intro m hm lt;obtain ⟨k,hk⟩:∃ k,ks[m]? = some k:=⟨_,Z5 (by omega)⟩;rw [at_ m hm k hk];have:k≠n:=fun e=>hno m lt (by rw [hk,e]);simp [eqV,this]
 ·exact ⟨.int j,H,I.tok _,⟨_,rfl⟩,q⟩
end
end L2
namespace L2
open PySem PySem.Spec PyProof.Rows
section
variable {X:Cx}
end
namespace W
end W
end L2
namespace L2
open PySem PySem.Spec PyProof.Rows
section
variable {X:Cx}
end
namespace W
end W
end L2
namespace L2
open PySem PySem.Spec PyProof.Rows
section
variable {P:Program}{w:World}{A:Around}{E:Value→Shared→Prop}{s:Shared}
end
section
variable {P:Program}{w:World}{A:Around}{E:Value→Shared→Prop}{s:Shared}
end
end L2
namespace L2.W
open PySem PySem.Spec PyProof.Rows
end L2.W
namespace L2
open PySem PySem.Spec PyProof.Rows
section
variable {X:Cx}{CX:CXT}{k:Nat}{f C:Addr}{fd:FuncData}{ps:List Str}{sp:Sp}{dvs:List V}{ds:List Value}{E:St→XK}{x m:Str}{p pos apos:Pos}{e:Expr}{es:List Expr}{t:TA}
end
end L2
namespace L2.W
open PySem PySem.Spec PyProof.Rows
end L2.W
namespace L2
open PySem PySem.Spec PyProof.Rows
end L2
namespace L2.W
open PySem PySem.Spec PyProof.Rows
end L2.W
namespace L2
open PySem PySem.Spec PyProof.Rows
section
variable {prog:Program}{w:World}{A:Around}{R:Result→Shared→Prop}{I:Addr}{fp wr:List Addr}{G:Array GenState→Array GenState→Prop}{n:Nat}{P:Nat→Value→Prop}{St:Nat→Shared→Prop}
end
section
variable {prog:Program}{w:World}{A:Around}{E:Value→Shared→Prop}{s:Shared}
end
section
variable {X:Cx}
end
end L2
namespace L2
open PySem PySem.Spec PyProof.Rows
section
variable {X:Cx}
end
end L2
namespace L2
open PySem PySem.Spec PyProof.Rows
section
variable {X:Cx}{e:Expr}{es:List Expr}{te:TE}{t:TA}
end
end L2
namespace L2.W
open PySem PySem.Spec PyProof.Rows
end L2.W
namespace L2
open PySem PySem.Spec PyProof.Rows
section
variable {X:Cx}{CX:CXT}{k:Nat}{fw c P:Addr}{fd:FuncData}{q x y:Str}{params:Arguments}{body:Expr}{scope:Scope}{N:List Str}{ix:List Nat}{sp:Addr→Addr→List (Str×Addr)→List V→Sp}{E:St→XK}{p lpos pos:Pos}
end
namespace W
end W
end L2
namespace L2
open PySem PySem.Spec PyProof.Rows
structure MkN (K:PySem.W.Frag) (C:Addr):Prop where
 makes:PySem.W.makesIn K C=true
 init:PySem.W.findIn K (.ref C) "__init__" = some (some (.builtin "object.__init__"))
 kp:PySem.W.keepIn K (.ref C)=true
noncomputable def tMakeN (C:Addr):TE:=fun _ H Q=>∀ x dx,H x=none→H dx=none→dx≠x→Q (.ref x) (upd (upd H dx (.own x)) x (.ins C dx []))
theorem zBy {X:Cx}{C:Addr}{x:Str}{p pos:Pos} (M:MkN X.K C) (hg:Gl X x) (hm:X.mg x=some (.ref C)) (hdb:(x == ("__debug__" : Str))=false:=by decide):PE X (.Call (.Name x p) [] [] pos) (tMakeN C):=by
 intro pins s σ H Q I h;refine wpAny_Call_Name_kw (zDh I hg hm ?_ hdb);refine PySem.W.callWith_K0 I.kIn M.kp (wpAny_call ?_);have q:=h (s.heap.objs.size + 1) s.heap.objs.size (I.hok.fresh (Nat.le_succ _)) (I.hok.fresh (Z7 _)) (Zf (Yk _));have I2:=Inv.made (C:=C) I;have Y:=PySem.W.makes_of (M:=model X.prog X.w) I.kIn M.makes;refine make_map0 I.kIn M.makes M.init (fun self=>PySem.W.Looks.of_pure (PySem.W.oi_bind self)) ?_;have e2:((s.heap.push PySem.W.emptyDict).push (PySem.W.instObj C s.heap.objs.size)).get? (s.heap.objs.size + 1)=some (PySem.W.instObj C s.heap.objs.size):=by
  have:=Zh (s.heap.push PySem.W.emptyDict) (o:=PySem.W.instObj C s.heap.objs.size) rfl
  rwa [Yi] at this
 have t1:PySem.W.Looks (model X.prog X.w) ((s.heap.push PySem.W.emptyDict).push (PySem.W.instObj C s.heap.objs.size)) (typeOf (.ref (s.heap.objs.size + 1))) (.ref C):=(PySem.W.Looks.ld e2).andThen .now;have t2:PySem.W.Looks (model X.prog X.w) ((s.heap.push PySem.W.emptyDict).push (PySem.W.instObj C s.heap.objs.size)) (isInstance (.ref (s.heap.objs.size + 1)) (.type "object")) true:=t1.andThen (Y.top.keeps fun b o e=>Z1 _ (Z1 _ e));refine codeAny_call_builtin PySem.W.oi_plain PySem.W.entry_oi (@PySem.W.check_slot (model X.prog X.w) _ _ _ "object.__init__" "object" "__init__" (.ref (s.heap.objs.size + 1)) [] [] _ PySem.W.oi_kind PySem.W.oi_split t2 (PySem.W.oi_args (.ref (s.heap.objs.size + 1))) ?_);rw [PySem.W.oi_run];exact wpAny_pure (And.intro rfl ⟨V.ref (s.heap.objs.size + 1),_,I2,rfl,q⟩)
section
variable {X:Cx}{x n:Str}{np hpos pos:Pos}{body suite:List Stmt}{b₀ : Stmt}{i:Nat}{B:Addr}{tb:TW→TS}{th:Addr→TS}
end
section
variable {X:Cx}
end
namespace W
noncomputable def zBy:=by have h:=@L2.zBy;rw [ePE] at h;exact @h
end W
end L2
namespace L2
open PySem PySem.Spec PyProof.Rows
namespace W
end W
end L2
namespace L2
open PySem PySem.Spec PyProof.Rows
section
variable {P:Program}{w:World}{A:Around}{E:Value→Shared→Prop}{s:Shared}{r:Addr}{n:Nat}
end
section
variable {X:Cx}{pins:List (Addr×Obj)}{σ : St}{H:Hp}{s:Shared}{r f:Addr}{n:Nat}{Q:VK}
end
end L2
namespace L2
open PySem PySem.Spec PyProof.Rows
section
variable {X:Cx}{pins:List (Addr×Obj)}{σ : St}{H:Hp}{s:Shared}{A:Around}{E:Value→Shared→Prop}
end
section
variable {CX:CXT}{P:Program}{w:World}{K:PySem.W.Frag}{mg:Str→Option Value}{base:Heap}{k:Nat}{f c':Addr}{q x:Str}{params:Arguments}{body:Expr}{scope:Scope}{cl:List (Str×Addr)}{N:List Str}{ws:List V}
end
section
variable {X:Cx}{CX:CXT}{k:Nat}{c P:Addr}{q:Str}{params:Arguments}{body:Expr}{scope:Scope}{N:List Str}{ix:List Nat}{sp:Addr→Addr→List (Str×Addr)→List V→V→Hp→VK→XK→Prop}{e:Expr}{ta:TA}{p lpos kpos pos:Pos}
end
namespace W
end W
end L2
namespace L2
open PySem PySem.Spec PyProof.Rows PySem.W
section
variable {prog:Program}{w:World}{A:Around}{E:Value→Shared→Prop}{s:Shared}
end
section
variable {X:Cx}
end
end L2
namespace L2
open PySem PySem.Spec PyProof.Rows
section
variable {prog:Program}{w:World}{A:Around}{E:Value→Shared→Prop}{s:Shared}{it e:Addr}
end
section
variable {X:Cx}{elt tg a:Expr}{ifs:List Expr}{sc:Scope}{p rp pos:Pos}{cl:List (Str×Addr)}{T:List Str}{ta:TA}{g:TG}{tt:TT}{te:TE}{e:Addr}
end
theorem Fun.okQ {q:Bool}{P:Program}{w:World}{K:PySem.W.Frag}{mg:Str→Option Value}{base:Heap}{CX:CXT}{x qual:Str}{st:Stmt}{f:Addr}{fd:FuncData}{N ps:List Str}{k:Nat}{sp:Sp} (F:Fun K x qual st f fd) (S:FnScope N ps (defScope st)) (len:∀ vs H Q E,sp vs H Q E→vs.length=ps.length)
  (hbody:∀ (cdv:Value) (A:Around) (outer:List Env) (s:Shared) (H:Hp) (vs:List V) (Q:VK) (E:XK),RoomQ q k (A.deeper (envOfC qual (defScope st) s.heap.objs.size f cdv))→sp vs H Q E →
   ∃ t,PSs (cxOfC q CX P w K mg base N qual (defScope st) f cdv A outer s H E).nox (defBody st) t∧t { nx:=fun _ H'=>Q .non H',rt:=Q } (start N vs) H):FnOkQ q P w K mg base CX (k + 1) f fd ps sp:=by
 obtain ⟨oc,od,kV,doc,pm,an,cdv,ct,osl,rfl,lk,hcd⟩:=F.ex;refine zF8 lk hcd S len fun A outer s H vs Q E hr hsp=>?_;obtain ⟨t,h,z⟩:=hbody cdv A outer s H vs Q E hr hsp;exact ⟨t,h.nox,z⟩
theorem Room.hnd {k:Nat}{X:Cx}{e:Addr} (r:Room k X.A):RoomQ false k (X.hnd e).A:=⟨(fun z=>nomatch z),r.dp,r.un⟩
namespace W
noncomputable def Fun.okQ:=by have h:=@L2.Fun.okQ;rw [ePSs] at h;exact @h
end W
end L2
namespace L2
open PySem PySem.Spec PyProof.Rows
section
variable {X:Cx}{y n:Str}{i:Nat}
end
end L2
namespace L2.W
open PySem PySem.Spec PyProof.Rows
end L2.W
namespace L2
open PySem PySem.Spec PyProof.Rows
structure Disp (P:Program) (w:World) (K:PySem.W.Frag) (mg:Str→Option Value) (base:Heap) (CX:CXT) (k:Nat) (m:Str) (ps:List Str) (sp:Sp) (C:Addr):Prop where
 ex:∃ f fd,Cls K C∧Meth K C m f∧FnOk P w K mg base CX k f fd ps sp∧Binds K fd ps []
noncomputable def tMethD (D:Addr→Prop) (m:Str) (sp:Addr→Sp) (E:St→XK) (ta:TE) (t:TA):TE:=fun σ H Q=>ta σ H fun x H1=>∃ a C dx fs,x=.ref a∧H1 a=some (.ins C dx fs)∧D C∧fs.lookup m=none∧t σ H1 fun vs H2=>sp C (x :: vs) H2 Q (E σ)
section
variable {X:Cx}{CX:CXT}{k:Nat}{ps:List Str}{sp:Addr→Sp}{E:St→XK}{m:Str}{pos apos:Pos}{e o:Expr}{es:List Expr}{ta:TE}{t:TA}{D:Addr→Prop}
theorem zCb {pl:Sem Bool} (he:PE X o ta) (F:∀ C,D C→Disp X.prog X.w X.K X.mg X.base CX k m ps (sp C) C) (hr:Room k X.A) (hx:Passes CX X E) (ha:PA X (e :: es) t)
  (hst:starEach (e :: es) X.env=(false,eval e X.env) :: starEach es X.env:=by rfl) (hpl:(backTo pos (starEach es X.env)).any (·.1)=false:=by rfl)
  (ht:eval (.Call (.Attribute o m apos) (e :: es) [] pos) X.env=(do
   let ov ← eval o X.env
   standAt apos.atName
   let (f,first) ← holding [ov] (getMethod ov m pl)
   callWith pos f first (backTo pos (starEach (e :: es) X.env)) (backToKw pos (keywordEach [] X.env))):=by rfl):PE X (.Call (.Attribute o m apos) (e :: es) [] pos) (tMethD D m sp E ta t):=by
 intro pins s σ H Q I h;refine PySem.W.methodCall_KW (pl:=pl) (thn (he pins s σ H _ I h) fun u s1 ⟨x,H1,I1,rx,a,C,dx,fs,ex,ea,hD,l,q⟩=>?_) ht;obtain ⟨⟨f,fd,c,hm,G,hb⟩⟩:=F C hD;subst ex;obtain rfl:u=Value.ref a:=rx;refine zCu I1 ea c hm l ?_;refine PySem.W.callWith_K (first:=[.ref a]) (h₀:=X.base) I.ok.mod.kin hm.kp (thn (ha pos pins s1 σ H1 _ I1 q) fun us s2 ⟨vs,H2,I2,r,q2⟩=>⟨I2.kIn,?_⟩) hst hpl;exact run_fn (us:=.ref a :: us) (vs:=.ref a :: vs) (dvs:=[]) G hr hb .nil hx I2 (.cons rfl r) (by rw [List.append_nil];exact q2)
end
theorem FnOk.never {P:Program}{w:World}{K:PySem.W.Frag}{mg:Str→Option Value}{base:Heap}{CX:CXT}{k:Nat}{f:Addr}{fd:FuncData}{ps:List Str}{sp:Sp} (h:∀ vs H Q E,¬ sp vs H Q E):FnOk P w K mg base CX k f fd ps sp :=
 ⟨fun vs H Q E z=>(h vs H Q E z).elim,fun _ _ _ H _ _ vs Q E _ _ _ _ z=>(h vs H Q E z).elim⟩
noncomputable def stepL (st:Int) (xs:List V):List V:=if st=1 then xs else xs.reverse
noncomputable def rStep (K:PySem.W.Frag) (te ts:TE):TE:=fun σ H Q=>te σ H fun x H1=>ts σ H1 fun y H2=>∃ a xs st,x=.ref a∧y=.int st∧(st=1∨st = -1)∧SqL K H2 a xs∧∀ p,H2 p=none→Q (.ref p) (upd H2 p (.lst (stepL st xs)))
theorem zEt {X:Cx}{e st:Expr}{te ts:TE}{p3 pos:Pos} (he:PE X e te) (hs:PE X st ts):PE X (.Subscript e (.Slice none none (some st) p3) pos) (rStep X.K te ts):=by
 intro pins s σ H Q I h;refine Subscript_ (thn (he pins s σ H _ I h) fun v s1 ⟨x,H1,I1,r1,q1⟩=>?_);refine wpAny_Slice ?_;rw [evalPart_none];refine wpAny_pure (wpAny_pure ?_);rw [evalPart_some];refine thn (hs pins s1 σ H1 _ I1 q1) fun u s2 ⟨y,H2,I2,r2,a,xs,st,ex,ey,hst,hx,q⟩=>?_;subst ex ey;cases r1;obtain ⟨t,rfl⟩:=r2;have I4:Inv X pins σ H2 { s2 with heap:=s2.heap.push { cls:=.type "slice",data:=.fields #[.none,.none,.int st t] } }:=I2.kept (t':=s2.toks) fun b ob q=>Z1 _ q;obtain ⟨its,r,ht,hz⟩:=I4.list hx;have hlen:=r.length;have n0:some st≠some 0:=by rcases hst with rfl | rfl <;> decide
 have ep:∃ js:List Value,slicePick its.toArray none none (some st)=js.toArray∧Vals (stepL st xs) js:=by
  rcases hst with rfl | rfl
  ·refine ⟨its,?_,r⟩;have e:=zD1 its none none;rw [show slicePick its.toArray none none (some 1)=slicePick its.toArray none none none from rfl,e];simp [HT.sIx]
  ·exact ⟨its.reverse,PySem.W.krv_pick _,r.reverse⟩
 obtain ⟨js,e1,e2⟩:=ep;refine tail_any (ops:=[.ref a,.ref s2.heap.objs.size]) ht.isList.typeIs slot_list_getitem.lookup ?_ (by with_unfolding_all rfl);refine wpAny_getItem_list_slice ht.isList (Heap.IsSliceOf.new ..) .none .none (.int _ _) n0 ?_ (by rw [Z9];omega);rw [e1];have ls:(stepL st xs).length=xs.length:=by unfold stepL;split <;> simp
 exact ⟨.ref _,_,I4.laid (t':=s2.toks) (o:=.lst (stepL st xs)) (fun b ob q=>Z1 _ q) (Z7 _) ⟨by rw [ls];exact hz,js,0,e2,Zh _ rfl⟩,rfl,q _ (I4.hok.fresh (Z7 _))⟩
namespace W
noncomputable def zCb:=by have h:=@L2.zCb;rw [ePE,ePA] at h;exact @h
noncomputable def zEt:=by have h:=@L2.zEt;rw [ePE] at h;exact @h
end W
end L2
namespace L2
open PySem PySem.Spec PyProof.Rows
section
variable {P:Program}{w:World}{A:Around}{E:Value→Shared→Prop}{s:Shared}
end
section
variable {P:Program}{w:World}{A:Around}{E:Value→Shared→Prop}{s:Shared}
end
end L2
namespace L2.W
open PySem PySem.Spec PyProof.Rows
end L2.W
namespace L2
open PySem PySem.Spec PyProof.Rows
theorem vals_refs:∀ {xs:List V}{us vs:List Value},Vals xs us→Vals xs vs→(∀ v∈xs,∃ c,v=.ref c)→us=vs
 | [],_,_,.nil,.nil,_=>rfl
 | x :: xs,_,_,.cons r1 t1,.cons r2 t2,h=>by
  obtain ⟨c,rfl⟩:=h x Zg;have e1:=(show _=Value.ref c from r1);have e2:=(show _=Value.ref c from r2);rw [e1,e2,vals_refs t1 t2 fun v hv=>h v (Zb _ hv)]
noncomputable def rNeL (K:PySem.W.Frag):R2:=fun x y H Q=>∃ a b xs,x=.ref a∧y=.ref b∧SqL K H a xs∧SqL K H b xs∧(∀ v∈xs,∃ c,v=.ref c)∧Q (.bl false) H
theorem op_neL {X:Cx} (hu:X.A.units + 64 < cLine):OpR X (compareOp .NotEq) (rNeL X.K):=by
 intro pins s σ H x y u v Q I rx ry h;obtain ⟨a,b,xs,rfl,rfl,ha,hb,hr,q⟩:=h;cases (show u=Value.ref a from rx);cases (show v=Value.ref b from ry);obtain ⟨its,r1,p1,_⟩:=I.list ha;obtain ⟨jts,r2,p2,_⟩:=I.list hb;cases vals_refs r1 r2 hr;refine SeqAt.RcNeAt.lists (e:=fun _=>true) p1.isList p2.isList rfl (by omega) (fun j _ _=>SeqAt.EqAt.same _) _ _ _ _ ⟨.bl false,H,I,?_,q⟩;show _=_;simp
end L2
namespace L2
open PySem PySem.Spec PyProof.Rows
noncomputable def cutH (S:List Addr) (H:Hp):Hp:=fun a=>if a∈S then none else H a
noncomputable def putH (S:List Addr) (H H':Hp):Hp:=fun a=>if a∈S then H a else H' a
theorem zE8 {S:List Addr}{H:Hp}{a:Addr} (h:a∈S):cutH S H a=none:=if_pos h
theorem zB7 {S:List Addr}{H:Hp}{a:Addr} (h:a∉S):cutH S H a=H a:=if_neg h
theorem zCo {S:List Addr}{H:Hp}{a:Addr}{o:HO} (h:cutH S H a=some o):a∉S∧H a=some o:=by
 by_cases m:a∈S
 ·rw [zE8 m] at h;cases h
 ·rw [zB7 m] at h;exact ⟨m,h⟩
theorem zCp {S:List Addr}{H:Hp}{a:Addr} (h:H a=none):cutH S H a=none:=by
 by_cases m:a∈S
 ·exact zE8 m
 ·rw [zB7 m];exact h
theorem putH_in {S:List Addr}{H H':Hp}{a:Addr} (h:a∈S):putH S H H' a=H a:=if_pos h
theorem zBf {S:List Addr}{H H':Hp}{a:Addr} (h:a∉S):putH S H H' a=H' a:=if_neg h
noncomputable def frS (sp:Sp):Sp:=fun vs H Q _=>∃ S:List Addr,(∀ a∈S,∃ xs,H a=some (.lst xs))∧sp vs (cutH S H) (fun v H'=>(∀ a∈S,H' a=none)→Q v (putH S H H')) (fun _ _ _=>False)
theorem cut_ok {P:Program}{w:World}{S:List Addr}{H:Hp}{h:Heap} (hl:∀ a∈S,∃ xs,H a=some (.lst xs)) (ok:HOk P w H h):HOk P w (cutH S H) h:=fun a o e=>by
 obtain ⟨_,e⟩:=zCo e;refine (ok a o e).stay (fun c v _ r=>r) (fun c r=>?_) (fun c xs r=>?_)
 ·rw [zB7]
  ·exact r
  ·intro m;obtain ⟨xs,z⟩:=hl c m;rw [z] at r;cases r
 ·rw [zB7]
  ·exact r
  ·intro m;obtain ⟨ys,z⟩:=hl c m;rw [z] at r;cases r
theorem FnOkQ.frame {q:Bool}{P:Program}{w:World}{K:PySem.W.Frag}{mg:Str→Option Value}{base:Heap}{CX:CXT}{k:Nat}{f:Addr}{fd:FuncData}{ps:List Str}{sp:Sp} (hC:Calm CX) (F:FnOkQ q P w K mg base CX k f fd ps sp):FnOkQ q P w K mg base CX k f fd ps (frS sp):=by
 refine ⟨fun vs H Q E ⟨S,_,h⟩=>F.len _ _ _ _ h,fun A outer s H args us vs Q E hr he hb hv hs=>?_⟩;obtain ⟨S,hl,hs⟩:=hs;have nfr:∀ a∈S,a∉frs outer:=fun a m z=>by obtain ⟨xs,e⟩:=hl a m;rw [he.frf a z] at e;cases e
 refine codeAny_mono (F.run A outer s (cutH S H) args us vs _ _ hr ⟨he.frames,he.mod,fun b o e=>⟨(he.bs b o e).1,zCp (he.bs b o e).2⟩,he.bsz,he.funs,fun b m=>zCp (he.frf b m),cut_ok hl he.hok,he.bare⟩ hb hv hs) fun r s' hq=>?_;cases r with
 | error e=>exact (hC _ _ _ _ _ hq).elim
 | ok fl =>
  cases fl with
  | next=>exact hq
  | brk=>exact hq
  | cont=>exact hq
  | ret u =>
   obtain ⟨v,H',os,bare,un,hok,rv,q⟩:=hq;have ob:∀ a∈S,∃ o,s.heap.get? a=some o:=fun a m=>by obtain ⟨xs,e⟩:=hl a m;obtain ⟨_,its,n,_,e⟩:=he.hok a _ e;exact ⟨_,e⟩
   have fre:∀ a∈S,H' a=none:=fun a m=>by obtain ⟨o,e⟩:=ob a m;exact un.free a o e (zE8 m) (fun z=>nomatch z)
   have out:∀ c o,H' c=some o→c∉S:=fun c o e m=>by rw [fre c m] at e;cases e
   refine ⟨v,putH S H H',os,bare,⟨?_,?_,?_,un.there,?_,?_,?_⟩,?_,rv,q fre⟩
   ·exact fun b o e n=>un.keep b o e (zCp n)
   ·exact fun b o e n=>un.slot b o e (zCp n)
   ·intro b o e n x;rw [zBf]
    ·exact un.free b o e (zCp n) x
    ·intro m;obtain ⟨xs,z⟩:=hl b m;rw [z] at n;cases n
   ·intro b xs e;have m:b∉S:=fun m=>by obtain ⟨ys,z⟩:=hl b m;rw [z] at e;cases e
    rw [zBf m];exact un.tups b xs (by rw [zB7 m];exact e)
   ·intro b o u e;have m:b∉S:=fun m=>by obtain ⟨ys,z⟩:=hl b m;rw [z] at e;cases e
    rw [zBf m];exact un.frzs b o u (by rw [zB7 m];exact e)
   ·intro b o e;have m:b∉S:=fun m=>by obtain ⟨ys,z⟩:=hl b m;rw [z] at e;cases e
    obtain ⟨more,z⟩:=un.tbls b o (by rw [zB7 m];exact e);exact ⟨more,by rw [zBf m];exact z⟩
   ·intro a o e;by_cases m:a∈S
    ·rw [putH_in m] at e;obtain ⟨xs,z⟩:=hl a m;rw [z] at e;cases e;obtain ⟨l,its,n,r,g⟩:=he.hok a _ z;exact ⟨l,its,n,r,un.keep a _ g (zE8 m) (nfr a m) (fun z=>nomatch z)⟩
    ·rw [zBf m] at e;refine (hok a o e).stay (fun c v _ r=>r) (fun c r=>?_) (fun c xs r=>?_)
     ·rw [zBf (out c _ r)];exact r
     ·rw [zBf (out c _ r)];exact r
theorem put_same {S:List Addr}{H H':Hp} (s:Same (cutH S H) H'):Same H (putH S H H'):=fun b o e=>by
 by_cases m:b∈S
 ·rw [putH_in m];exact e
 ·rw [zBf m];exact s b o (by rw [zB7 m];exact e)
theorem zFb {S:List Addr}{H H':Hp} (s:∀ b o,H b=some o→b∉S→H' b=some o):Same (cutH S H) (cutH S H'):=fun b o e=>by
 obtain ⟨m,e⟩:=zCo e;rw [zB7 m];exact s b o e m
theorem cut_put {S:List Addr}{H H':Hp} (n:∀ a∈S,H' a=none):cutH S (putH S H H')=H':=by
 funext a;by_cases m:a∈S
 ·rw [zE8 m,n a m]
 ·rw [zB7 m,zBf m]
theorem same_cut {S:List Addr}{H:Hp}:Same (cutH S H) H:=fun b o e=>(zCo e).2
end L2
namespace My
open PySem L2
noncomputable def top (i:Nat):Stmt:=PySem.Challenge.pw_cometorest_k34_hands_that_suit.main.body.getD i (.Pass ⟨0,0,0,0⟩)
noncomputable abbrev sIsName:Stmt:=top 21
noncomputable abbrev sUnlike:Stmt:=top 22
noncomputable abbrev sPair:Stmt:=top 23
noncomputable abbrev sFields:Stmt:=top 24
noncomputable abbrev sCount:Stmt:=top 25
noncomputable abbrev sInit:Stmt:=inClass (top 26) 0
noncomputable abbrev sPlaceOf:Stmt:=top 27
noncomputable abbrev sHasVal:Stmt:=top 28
noncomputable abbrev sAreKinds:Stmt:=top 29
noncomputable abbrev sPlaced:Stmt:=top 30
noncomputable abbrev sInitKs:Stmt:=inClass (top 31) 0
noncomputable abbrev sOrder:Stmt:=inClass (top 31) 1
noncomputable abbrev sOf:Stmt:=inClass (top 31) 2
noncomputable abbrev sChkNames:Stmt:=top 35
noncomputable abbrev sChkConds:Stmt:=top 36
noncomputable abbrev sAlH:Stmt:=inClass (top 37) 0
noncomputable abbrev sAlSuits:Stmt:=inClass (top 37) 1
noncomputable abbrev sWaH:Stmt:=inClass (top 38) 0
noncomputable abbrev sWaS:Stmt:=inClass (top 38) 1
noncomputable abbrev sInitIs:Stmt:=inClass (top 39) 0
noncomputable abbrev sIsH:Stmt:=inClass (top 39) 1
noncomputable abbrev sIsS:Stmt:=inClass (top 39) 2
noncomputable abbrev sInitMe:Stmt:=inClass (top 40) 0
noncomputable abbrev sMeH:Stmt:=inClass (top 40) 1
noncomputable abbrev sMeS:Stmt:=inClass (top 40) 2
noncomputable abbrev sInitOw:Stmt:=inClass (top 41) 0
noncomputable abbrev sOwH:Stmt:=inClass (top 41) 1
noncomputable abbrev sOwS:Stmt:=inClass (top 41) 2
noncomputable abbrev sInitNo:Stmt:=inClass (top 42) 0
noncomputable abbrev sNoH:Stmt:=inClass (top 42) 1
noncomputable abbrev sNoS:Stmt:=inClass (top 42) 2
noncomputable abbrev sInitBo:Stmt:=inClass (top 43) 0
noncomputable abbrev sBoH:Stmt:=inClass (top 43) 1
noncomputable abbrev sBoS:Stmt:=inClass (top 43) 2
noncomputable abbrev sInitEi:Stmt:=inClass (top 44) 0
noncomputable abbrev sEiH:Stmt:=inClass (top 44) 1
noncomputable abbrev sEiS:Stmt:=inClass (top 44) 2
noncomputable abbrev sInitTM:Stmt:=inClass (top 47) 0
noncomputable abbrev sTmS:Stmt:=inClass (top 47) 1
noncomputable abbrev sInitTS:Stmt:=inClass (top 48) 0
noncomputable abbrev sTsS:Stmt:=inClass (top 48) 1
noncomputable abbrev sTtSuits:Stmt:=inClass (top 49) 0
noncomputable abbrev sOtherKinds:Stmt:=top 50
noncomputable abbrev sInitR:Stmt:=inClass (top 51) 0
noncomputable abbrev sInitH:Stmt:=inClass (top 53) 0
noncomputable abbrev sRuleSuits:Stmt:=top 54
noncomputable abbrev sCheck:Stmt:=top 55
noncomputable abbrev sIsOther:Stmt:=top 57
noncomputable abbrev sCellAt:Stmt:=top 58
noncomputable abbrev sMixed:Stmt:=top 59
noncomputable abbrev sDigits:Stmt:=top 60
noncomputable abbrev sNext:Stmt:=top 61
noncomputable abbrev sKinds:Stmt:=top 62
noncomputable abbrev sMade:Stmt:=top 63
noncomputable abbrev sLFields:Stmt:=top 65
noncomputable abbrev sOwner:Stmt:=top 66
noncomputable abbrev sLPair:Stmt:=top 68
noncomputable abbrev sLeaf:Stmt:=top 69
noncomputable abbrev sTree:Stmt:=top 70
noncomputable abbrev sObject:Stmt:=top 71
noncomputable abbrev sChange:Stmt:=top 72
noncomputable abbrev sChangeObject:Stmt:=top 73
noncomputable abbrev sRule:Stmt:=top 74
noncomputable abbrev sRuleObject:Stmt:=top 75
noncomputable abbrev sHas:Stmt:=top 76
noncomputable abbrev sTreeSuits:Stmt:=top 77
noncomputable abbrev sSuits:Stmt:=top 78
noncomputable abbrev sTurned:Stmt:=top 79
noncomputable abbrev sWord:Stmt:=top 80
noncomputable abbrev sLaw:Stmt:=top 81
noncomputable def letters:Str:="abcdefghijklmnopqrstuvwxyz"
structure Tops (K:PySem.W.Frag) (mg:Str→Option Value):Prop where
 isinst:mg "isinstance" = none
 len:mg "len" = none
 all:mg "all" = none
 set:mg "set" = none
 range:mg "range" = none
 str:mg "str" = none
 list:mg "list" = none
 tuple:mg "tuple" = none
 dict:mg "dict" = none
 min:mg "min" = none
 int:mg "int" = none
 lets:∃ t,mg "LETTERS" = some (.str letters t)
 most:∃ t,mg "MOST_LETTERS" = some (.int 8 t)
 mostS:∃ t,mg "MOST_STATES" = some (.int 8 t)
 least:∃ t,mg "LEAST_CONDITIONS" = some (.int 2 t)
noncomputable def charB (c:Nat):Bool:=decide (c∈letters.cps.toList)
noncomputable def nameB (x:Str):Bool:=decide (1≤x.length) && decide (x.length≤8) && x.cps.toList.all charB
noncomputable def spIsName (K:PySem.W.Frag):Sp:=fun vs H Q _=>(∃ x,vs=[.str x]∧x.length≤1000∧∀ H',Same H H'→Q (.bl (nameB x)) H') ∨
 ∃ v t,vs=[v]∧TyOf K H v t∧PySem.W.kitOne K t (.type "str")=some false∧Q (.bl false) H
section
variable {P:Program}{w:World}{K:PySem.W.Frag}{mg:Str→Option Value}{base:Heap}{CX:CXT}
theorem scIN:FnScope ["thing"] ["thing"] (defScope sIsName):=⟨rfl,rfl,rfl,by decide +kernel,rfl,by decide +kernel,by decide +kernel⟩
theorem ok_isName {f:Addr}{fd:FuncData} (F:Fun K "is_name" "is_name" sIsName f fd) (T:Tops K mg):FnOk P w K mg base CX 1 f fd ["thing"] (spIsName K):=by
 refine F.okC scIN (fun vs H Q E h=>?_) (fun cdv A outer s H vs Q E hr h=>?_)
 ·rcases h with ⟨x,rfl,_⟩ | ⟨v,t,rfl,_⟩ <;> rfl
 ·obtain ⟨tl,hlets⟩:=T.lets;obtain ⟨tm,hmost⟩:=T.most
  refine ⟨_,zA3 (zAq (zAu (zAl (zAa zAs rfl T.isinst PyProof.Rows.boot_isinstance (zA0 (pv 0) (zA0 (zBk (v:=.ty "str") rfl T.str PyProof.Rows.boot_str rfl) zA2))))) (zA5 (zAc zCd)) zAb)
   (zA5 (zAc (zBr (zEy op_le op_le zA4 (zAa call_len_str rfl T.len PySem.boot_len (zA0 (pv 0) zA2)) (zAv (v:=.int 8) rfl hmost ⟨_,rfl⟩))
    (zBx (zAa (zB3 rfl) rfl T.all PyProof.Rows.boot_all (zA0 (zAt (T:=["sign"]) rfl ScOk.auto (pi_str (pv 0)) (fun _ _ _ _=>zAd (i:=1) (by decide +kernel:(["thing", "sign"]:List Str).Nodup) rfl (Or.inl rfl)) (fun _ _ _ _=>zAy)
     (fun _ _ _ _=>zB0 op_in_str (pv 1) (zAv (v:=.str letters) rfl hlets ⟨_,rfl⟩) rfl)) zA2)))))),?_⟩
  rcases h with ⟨x,rfl,hx,k⟩ | ⟨v,t,rfl,ty,hk,k⟩
  ·refine ⟨_,rfl,_,_,_,_,_,rfl,.str x,rfl,rfl,_,rfl,iteF ?_⟩;have hz:x.length≤sizeLine:=Zi (small1000 hx);refine ⟨_,rfl,x,rfl,hz,_,_,rfl,rfl,_,rfl,?_⟩;refine ite2 (fun h1=>?_) (fun h1=>?_)
   ·refine ⟨_,_,rfl,rfl,_,rfl,?_⟩;refine ite2 (fun h2=>?_) (fun h2=>?_)
    ·refine ⟨_,rfl,x,rfl,comp_chars (fun _=>true) (fun c=>.bl (charB c)) hz (fun c Ry Rn q _=>?_) (fun d hd=>?_)⟩
     ·refine iteT (B:=Rn H) ⟨_,rfl,_,_,rfl,rfl,?_⟩;rw [PySem.StrLaws.found_one];exact q rfl
     ·refine ⟨d,x.cps.toList.map charB,rfl,SqL.of ?_,?_⟩
      ·rw [zA1,List.filter_eq_self.mpr (fun _ _=>rfl),Y0];rfl
      ·have e:nameB x=(x.cps.toList.map charB).all id:=by
        have a1:1≤x.length:=by have:=of_decide_eq_true h1;omega
        have a2:x.length≤8:=by have:=of_decide_eq_true h2;omega
        unfold nameB;rw [decide_eq_true a1,decide_eq_true a2,Y7];rfl
       rw [← e];exact k _ (Same.new hd)
    ·have a2:¬ x.length≤8:=fun z=>h2 (decide_eq_true (by omega));have e:nameB x=false:=by unfold nameB;rw [decide_eq_false a2];simp
     rw [← e];exact k _ (Same.refl _)
   ·have a1:¬ 1≤x.length:=fun z=>h1 (decide_eq_true (by omega));have e:nameB x=false:=by unfold nameB;rw [decide_eq_false a1];simp
    refine ⟨false,rfl,iteF ?_⟩;rw [← e];exact k _ (Same.refl _)
  ·exact ⟨_,rfl,_,_,_,_,_,rfl,ty,rfl,hk,_,rfl,iteT k⟩
end
noncomputable def spMixed:Sp:=fun vs H Q _=>∃ c k:Int,vs=[.int c,.int k]∧0≤k∧k≤1000000∧∀ n:Int,0≤n→n < 2147483629→Q (.int n) H
noncomputable def Src (H:Hp) (p:Addr) (k:Int):Prop:=∃ a c j:Int,H p=some (.lst [.int a,.int c,.int j])∧0≤j∧j≤k
noncomputable def spDigits:Sp:=fun vs H Q _=>∃ c:Int,vs=[.int c]∧∀ p H',H p=none→Src H' p 0→Same H H'→(∀ b,b≠p→H' b=H b)→Q (.ref p) H'
noncomputable def spNext:Sp:=fun vs H Q _=>∃ (p:Addr) (m k:Int),vs=[.ref p,.int m]∧Src H p k∧k≤999998∧0 < m∧m < 2 ^ 64 ∧
 ∀ (r:Int) (H':Hp),0≤r→r < m→Src H' p (k + 1)→(∀ b,b≠p→H' b=H b)→Q (.int r) H'
section
variable {P:Program}{w:World}{K:PySem.W.Frag}{mg:Str→Option Value}{base:Heap}{CX:CXT}
theorem scMx:FnScope ["_law_cell", "_law_k", "_law_number"] ["_law_cell", "_law_k"] (defScope sMixed):=⟨rfl,rfl,rfl,by decide +kernel,rfl,by decide +kernel,by decide +kernel⟩
theorem ok_mixed {f:Addr}{fd:FuncData} (F:Fun K "_law_mixed" "_law_mixed" sMixed f fd):FnOk P w K mg base CX 1 f fd ["_law_cell", "_law_k"] spMixed:=by
 refine F.okC scMx (fun vs H Q E h=>?_) (fun cdv A outer s H vs Q E hr h=>?_)
 ·obtain ⟨c,k,rfl,_⟩:=h;rfl
 ·obtain ⟨c,k,rfl,h0,h1,q⟩:=h
  refine ⟨_,zA3 (zAk (i:=2) scMx.nd rfl (Or.inl rfl) (zAx zCj (zAx zDj (zAx zBs (zAx zBs (zAx zCj (pv 0) zA4) (zAx zDj zA4 (pv 1))) zA4) zA4) zA4))
   (zA3 (zAk (i:=2) scMx.nd rfl (Or.inl rfl) (zAx zCj (zAx zDj (pv 2) (zAx zBs (zAx zDw (pv 2) zA4) zA4)) zA4))
   (zA3 (zAk (i:=2) scMx.nd rfl (Or.inl rfl) (zAx zCj (zAx zDj (pv 2) (zAx zBs (zAx zBs (zAx zDw (pv 2) zA4) zA4) (pv 1))) zA4))
   (zA5 (zAc (zAx zCj (zAx zDj (pv 2) (zAx zBs (zAx zDw (pv 2) zA4) zA4)) zA4))))),?_⟩
  have M:(0:Int) < 2147483629:=by decide
  have lo:∀ z:Int,0≤z % 2147483629:=fun z=>Int.emod_nonneg _ (by decide);have hi:∀ z:Int,z % 2147483629 < 2147483629:=fun z=>Y4 _ M;have cm:∀ z y:Int,CMul (z % 2147483629) y:=fun z y=>by have:=lo z;have:=hi z;exact .inl ⟨by omega,by omega⟩
  refine ⟨_,rfl,_,_,rfl,rfl,M,_,rfl,_,_,rfl,rfl,.inl ⟨by decide,by decide⟩,_,_,rfl,rfl,_,_,rfl,rfl,_,_,rfl,rfl,.inr ⟨by decide,by decide⟩,_,_,rfl,rfl,M,?_⟩;refine ⟨_,rfl,_,rfl,_,_,rfl,rfl,⟨by decide,by decide⟩,_,_,rfl,rfl,_,_,rfl,rfl,cm _ _,_,_,rfl,rfl,M,?_⟩;refine ⟨_,rfl,_,rfl,_,_,rfl,rfl,⟨by decide,by decide⟩,_,_,rfl,rfl,_,rfl,_,_,rfl,rfl,_,_,rfl,rfl,cm _ _,_,_,rfl,rfl,M,?_⟩;refine ⟨_,rfl,_,rfl,_,_,rfl,rfl,⟨by decide,by decide⟩,_,_,rfl,rfl,_,_,rfl,rfl,cm _ _,_,_,rfl,rfl,M,?_⟩;exact q _ (lo _) (hi _)
theorem scDg:FnScope ["_law_cell"] ["_law_cell"] (defScope sDigits):=⟨rfl,rfl,rfl,by decide +kernel,rfl,by decide +kernel,by decide +kernel⟩
theorem ok_digits {f:Addr}{fd:FuncData} (F:Fun K "_law_digits" "_law_digits" sDigits f fd):FnOk P w K mg base CX 1 f fd ["_law_cell"] spDigits:=by
 refine F.okC scDg (fun vs H Q E h=>?_) (fun cdv A outer s H vs Q E hr h=>?_)
 ·obtain ⟨c,rfl,_⟩:=h;rfl
 ·obtain ⟨c,rfl,q⟩:=h;refine ⟨_,zA5 (zAc (zAm (zA0 (zAx zDj (zAx zDw (pv 0) zA4) (zAx op_sub zA4 (zAx zCj (pv 0) zA4))) (zA0 (pv 0) (zA0 zA4 zA2))))),?_⟩;have a1:0≤c % 2:=Int.emod_nonneg _ (by decide);have a2:c % 2 < 2:=Y4 _ (by decide);refine ⟨_,rfl,_,_,rfl,rfl,⟨by decide,by decide⟩,_,rfl,_,_,rfl,rfl,(by show (0:Int) < 2;decide),_,_,rfl,rfl,_,_,rfl,rfl,.inr ⟨by omega,by omega⟩,_,rfl,(by show 3≤sizeLine;decide),fun p hp=>?_⟩;exact q p _ hp ⟨_,_,0,zA1,by decide,by decide⟩ (Same.new hp) fun b hb=>zA9 hb
theorem scNx:FnScope ["_law_source", "_law_many", "_law_found"] ["_law_source", "_law_many"] (defScope sNext):=⟨rfl,rfl,rfl,by decide +kernel,rfl,by decide +kernel,by decide +kernel⟩
theorem ok_next {f fm:Addr}{fd fdm:FuncData} (hC:Calm CX) (F:Fun K "_law_next" "_law_next" sNext f fd) (DM:Def K mg "_law_mixed" sMixed ["_law_cell", "_law_k"] fm fdm):FnOk P w K mg base CX 2 f fd ["_law_source", "_law_many"] spNext:=by
 have GM:FnOk P w K mg base CX 1 fm fdm ["_law_cell", "_law_k"] spMixed:=ok_mixed DM.fn;refine F.okC scNx (fun vs H Q E h=>?_) (fun cdv A outer s H vs Q E hr h=>?_)
 ·obtain ⟨p,m,k,rfl,_⟩:=h;rfl
 ·obtain ⟨p,m,k,rfl,⟨a,c,j,hp,j0,j1⟩,hk,m0,m1,q⟩:=h
  refine ⟨_,zA3 (zAq (zAg op_gt (zAh zAr (pv 0) zA4 (fun _ _=>rfl)) zA4 (nomark _))
    (zA3 (zAk (i:=2) scNx.nd rfl (Or.inl rfl) (zAx zCj (zAh zAr (pv 0) zA4 (fun _ _=>rfl)) (pv 1)))
    (zA3 (zDs (zAx op_fdivB (zAh zAr (pv 0) zA4 (fun _ _=>rfl)) (pv 1)) (pg_sub (pv 0) zA4 set_list))
    (zA5 (zAc (pv 2))))) zAb)
   (zA3 (zDs (zAx zBs (zAh zAr (pv 0) zA4 (fun _ _=>rfl)) zA4) (pg_sub (pv 0) zA4 set_list))
   (zA5 (zAc (zAx zCj (zA6 GM hr rfl DM.at_ DM.fn.kp DM.bind .nil (passC hC) (zA0 (zAh zAr (pv 0) zA4 (fun _ _=>rfl)) (zA0 (zAh zAr (pv 0) zA4 (fun _ _=>rfl)) zA2))) (pv 1))))),?_⟩
  have S0:SqL K H p [.int a,.int c,.int j]:=SqL.of hp;refine ⟨_,rfl,p,_,_,_,rfl,rfl,S0,rfl,_,_,rfl,rfl,_,rfl,?_⟩;refine ite2 (fun h0=>?_) (fun h0=>?_)
  ·refine ⟨_,rfl,p,_,_,_,rfl,rfl,S0,rfl,_,rfl,_,_,rfl,rfl,m0,?_⟩;refine ⟨_,rfl,p,_,_,_,rfl,rfl,S0,rfl,_,rfl,_,_,rfl,rfl,⟨m0,m1⟩,?_⟩;refine ⟨_,rfl,p,_,_,0,rfl,rfl,hp,rfl,?_⟩;refine ⟨_,rfl,q _ _ (Int.emod_nonneg _ (by omega)) (Y4 _ m0) ⟨_,_,j,zA1,j0,by omega⟩ fun b hb=>zA9 hb⟩
  ·refine ⟨_,rfl,p,_,_,_,rfl,rfl,S0,rfl,_,_,rfl,rfl,?_⟩;refine ⟨_,rfl,p,_,_,2,rfl,rfl,hp,rfl,?_⟩;have S1:SqL K (upd H p (.lst [.int a,.int c,.int (j + 1)])) p [.int a,.int c,.int (j + 1)]:=SqL.of zA1;refine ⟨_,rfl,p,_,_,_,rfl,rfl,S1,rfl,_,rfl,p,_,_,_,rfl,rfl,S1,rfl,c,j + 1,rfl,by omega,by omega,fun n n0 n1=>?_⟩;refine ⟨_,rfl,_,_,rfl,rfl,m0,?_⟩;exact q _ _ (Int.emod_nonneg _ (by omega)) (Y4 _ m0) ⟨_,_,j + 1,zA1,by omega,by omega⟩ fun b hb=>zA9 hb
end
theorem zD9 {α : Type} (xs:List α) {i:Int} (h0:0≤i) (h1:i < xs.length):∃ c,atI xs i=some c∧c∈xs:=by
 have lt:i.toNat < xs.length:=by omega
 refine ⟨xs[i.toNat],?_,List.getElem_mem _⟩;unfold atI ixN;rw [if_pos h0,if_pos h1];simp [lt]
theorem Src.mono {H:Hp}{p:Addr}{k l:Int} (h:Src H p k) (hl:k≤l):Src H p l:=by
 obtain ⟨a,c,j,e,j0,j1⟩:=h;exact ⟨a,c,j,e,j0,by omega⟩
noncomputable def nameD:PyData→Bool
 | .str x=>nameB x
 | _=>false
noncomputable def strsOf:List PyData→List Str
 | .str x :: r=>x :: strsOf r
 | _ :: r=>strsOf r
 | []=>[]
noncomputable def unlikeB (ds:List PyData):Bool:=ds.all nameD && decide (strsOf ds).Nodup
noncomputable def pairB:PyData→Bool
 | .tuple [_,.list vs]=>decide (0 < vs.length) && unlikeB vs
 | _=>false
noncomputable def firstD:PyData→PyData
 | .tuple (d :: _)=>d
 | _=>.none
noncomputable def fieldsB:PyData→Bool
 | .list ds=>ds.all pairB && unlikeB (ds.map firstD)
 | _=>false
noncomputable def spNameD:Sp:=fun vs H Q _=>∃ v d,vs=[v]∧Has Any H v d∧∀ H',Same H H'→Q (.bl (nameD d)) H'
noncomputable def spUnlike:Sp:=fun vs H Q _=>∃ v ds,vs=[v]∧Has Any H v (.list ds)∧∀ H',Same H H'→Q (.bl (unlikeB ds)) H'
noncomputable def spPair:Sp:=fun vs H Q _=>∃ v d,vs=[v]∧Has Any H v d∧∀ H',Same H H'→Q (.bl (pairB d)) H'
noncomputable def spFields:Sp:=fun vs H Q _=>∃ v d,vs=[v]∧Has Any H v d∧∀ H',Same H H'→Q (.bl (fieldsB d)) H'
theorem strs_all {G:Addr→Prop}{H:Hp}:∀ {xs:List V}{ds:List PyData},HasAll G H xs ds→ds.all nameD=true→xs=(strsOf ds).map V.str∧(strsOf ds).length=ds.length
 | _,_,.nil,_=>⟨rfl,rfl⟩
 | _,_,.cons h t,e=>by
  rw [Zy,Zr] at e;obtain ⟨e1,e2⟩:=e;obtain ⟨q1,q2⟩:=strs_all t e2;cases h with
  | str x _ _=>exact ⟨by rw [q1];rfl,by rw [strsOf,Zj,Zj,q2]⟩
  | non=>cases e1
  | bl b=>cases e1
  | int i=>cases e1
  | lst _ _ _ _=>cases e1
  | tup _ _ _ _=>cases e1
section
variable {P:Program}{w:World}{K:PySem.W.Frag}{mg:Str→Option Value}{base:Heap}{CX:CXT}
theorem name_imp {vs:List V}{H:Hp}{Q:VK}{E:XK} (h:spNameD vs H Q E):spIsName K vs H Q E:=by
 obtain ⟨v,d,rfl,hd,q⟩:=h;cases hd with
 | str x hx ho=>exact .inl ⟨x,rfl,hx,q⟩
 | non=>exact .inr ⟨_,_,rfl,.non,rfl,q _ (Same.refl _)⟩
 | bl b=>exact .inr ⟨_,_,rfl,.bl b,rfl,q _ (Same.refl _)⟩
 | int i=>exact .inr ⟨_,_,rfl,.int i,rfl,q _ (Same.refl _)⟩
 | lst _ e _ _=>exact .inr ⟨_,_,rfl,.lst e,rfl,q _ (Same.refl _)⟩
 | tup _ e _ _=>exact .inr ⟨_,_,rfl,.tup e,rfl,q _ (Same.refl _)⟩
theorem zCe {f:Addr}{fd:FuncData} (F:Fun K "is_name" "is_name" sIsName f fd) (T:Tops K mg):FnOk P w K mg base CX 1 f fd ["thing"] spNameD:=(ok_isName F T).imp fun _ _ _ _ h=>name_imp h
theorem scUl:FnScope ["things"] ["things"] (defScope sUnlike):=⟨rfl,rfl,rfl,by decide +kernel,rfl,by decide +kernel,by decide +kernel⟩
theorem zBt {f fn:Addr}{fd fdn:FuncData} (hC:Calm CX) (T:Tops K mg) (F:Fun K "are_unlike_names" "are_unlike_names" sUnlike f fd) (DN:Def K mg "is_name" sIsName ["thing"] fn fdn):FnOk P w K mg base CX 2 f fd ["things"] spUnlike:=by
 have GN:FnOk P w K mg base CX 1 fn fdn ["thing"] spNameD:=zCe DN.fn T;refine F.okC scUl (fun vs H Q E h=>?_) (fun cdv A outer s H vs Q E hr h=>?_)
 ·obtain ⟨v,ds,rfl,_⟩:=h;rfl
 ·obtain ⟨v,ds,rfl,hd,k⟩:=h;obtain ⟨a,xs,rfl,_,ha,hz,hx⟩:=hd.list_inv;have hzl:xs.length≤sizeLine:=Zi (small1000 hz)
  refine ⟨_,zA5 (zAc (zBr (zAa (zB3 rfl) rfl T.all PyProof.Rows.boot_all (zA0 (zAt (T:=["thing"]) rfl ScOk.auto (zAj (pv 0)) (fun _ _ _ _=>zAd (i:=1) (by decide +kernel:(["things", "thing"]:List Str).Nodup) rfl (Or.inl rfl)) (fun _ _ _ _=>zAy)
    (fun _ _ _ _=>zA6 GN hr rfl DN.at_ DN.fn.kp DN.bind .nil (passC hC) (zA0 (pv 1) zA2))) zA2))
   (zBx (zB0 zBc (zAa zC7 rfl T.len PySem.boot_len (zA0 (zAn (zD8 rfl) rfl T.set PyProof.Rows.boot_set (zA0 (pv 0) zA2)) zA2)) (zAa zAp rfl T.len PySem.boot_len (zA0 (pv 0) zA2)) (nomark _))))),?_⟩
  refine ⟨_,rfl,a,rfl,⟨xs,SqL.of ha⟩,zAe (xs:=xs) (fun i ys H'=>Same H H'∧ys=(ds.take i).map fun d=>V.bl (nameD d)) ⟨Same.refl _,rfl⟩ (fun i ys H' p=>SqL.of (p.1 _ _ ha)) (fun i ys H' hi p=>?_) ?_ ?_⟩
  ·rw [p.2,Z0];have:=Zw i ds;omega
  ·rintro i x ys H' hi ⟨s1,rfl⟩ N hN;obtain ⟨d,hd',hv⟩:=hx.get hi;refine pick ?_;refine ⟨_,rfl,_,d,rfl,hv.mono s1,fun H2 s2=>hN _ _ ⟨s1.trans s2,?_⟩⟩;rw [Z4,hd',Z2];rfl
  ·rintro ys H' ⟨s1,rfl⟩ p hp;have e:(ds.take xs.length).map (fun d=>V.bl (nameD d))=(ds.map nameD).map V.bl:=by
    rw [hx.length,Za,Y0];rfl
   have s2:Same H (upd H' p (.lst ((ds.take xs.length).map fun d=>V.bl (nameD d)))):=s1.trans (Same.new hp);refine ⟨p,ds.map nameD,rfl,SqL.of (by rw [zA1,e]),_,rfl,?_⟩;have ea:(ds.map nameD).all id=ds.all nameD:=by rw [Y7];rfl
   rw [ea];cases eb:ds.all nameD with
   | false =>
    refine iteF ?_;have e0:unlikeB ds=false:=by unfold unlikeB;rw [eb];rfl
    rw [← e0];exact k _ s2
   | true =>
    refine iteT ?_;obtain ⟨q1,q2⟩:=strs_all hx eb;subst q1;have ha2:=s2 _ _ ha;have hz4:(strsOf ds).length≤4000:=by rw [Z0] at hz;omega
    refine ⟨_,rfl,a,strsOf ds,rfl,SqL.of ha2,hz4,fun d hd2=>?_⟩;refine ⟨d,strsOf ds,rfl,zA1,hz4,?_⟩;refine ⟨_,rfl,a,_,rfl,.inl (SqL.of ((Same.new hd2) _ _ ha2)),rfl,?_⟩;have e1:decide (V.int ((dl (strsOf ds)).length:Int)=V.int (((strsOf ds).map V.str).length:Int))=unlikeB ds:=by
     unfold unlikeB;rw [eb,Bool.true_and,← zEj,Z0];by_cases q:(dl (strsOf ds)).length=(strsOf ds).length
     ·rw [decide_eq_true q,q];simp
     ·rw [decide_eq_false q,decide_eq_false];intro z;injection z with z;omega
    rw [e1];exact k _ (s2.trans (Same.new hd2))
end
noncomputable def sizeD:PyData→Nat
 | .tuple [_,.list vs]=>vs.length
 | _=>0
noncomputable def countD (ds:List PyData):Int:=ds.foldl (fun m d=>m * (sizeD d:Int)) 1
noncomputable def spCount:Sp:=fun vs H Q _=>∃ v ds,vs=[v]∧Has Any H v (.list ds)∧ds.all pairB=true∧Q (.int (countD ds)) H
theorem zF0 {G:Addr→Prop}{H:Hp}{v:V}{d:PyData} (h:Has G H v d) (e:pairB d=true) :
  ∃ a x y n l vs ys,v=.ref a∧G a∧H a=some (.tup [x,y])∧d=.tuple [n,.list vs]∧Has G H x n∧y=.ref l∧G l∧H l=some (.lst ys)∧ys.length≤1000∧HasAll G H ys vs∧0 < vs.length∧unlikeB vs=true:=by
 cases h with
 | non=>cases e
 | bl b=>cases e
 | int i=>cases e
 | str x _ _=>cases e
 | lst _ _ _ _=>cases e
 | tup g s z q =>
  cases q with
  | nil=>cases e
  | cons h1 q =>
   cases q with
   | nil=>cases e
   | cons h2 q =>
    cases q with
    | cons _ _=>cases h2 <;> cases e
    | nil =>
     cases h2 with
     | non=>cases e
     | bl b=>cases e
     | int i=>cases e
     | str x _ _=>cases e
     | tup _ _ _ _=>cases e
     | lst g2 s2 z2 q2 =>
      have e':(decide _ && unlikeB _)=true:=e;rw [Zr] at e';exact ⟨_,_,_,_,_,_,_,rfl,g,s,rfl,h1,rfl,g2,s2,z2,q2,of_decide_eq_true e'.1,e'.2⟩
section
variable {P:Program}{w:World}{K:PySem.W.Frag}{mg:Str→Option Value}{base:Heap}{CX:CXT}
theorem scPr:FnScope ["thing", "values"] ["thing"] (defScope sPair):=⟨rfl,rfl,rfl,by decide +kernel,rfl,by decide +kernel,by decide +kernel⟩
theorem ok_pair {f fu fn:Addr}{fd fdu fdn:FuncData} (hC:Calm CX) (T:Tops K mg) (F:Fun K "is_pair_with_values" "is_pair_with_values" sPair f fd) (DN:Def K mg "is_name" sIsName ["thing"] fn fdn)
  (DU:Def K mg "are_unlike_names" sUnlike ["things"] fu fdu):FnOk P w K mg base CX 3 f fd ["thing"] spPair:=by
 have GU:FnOk P w K mg base CX 2 fu fdu ["things"] spUnlike:=zBt hC T DU.fn DN;refine F.okC scPr (fun vs H Q E h=>?_) (fun cdv A outer s H vs Q E hr h=>?_)
 ·obtain ⟨v,d,rfl,_⟩:=h;rfl
 ·obtain ⟨v,d,rfl,hd,k⟩:=h
  refine ⟨_,zA3 (zAq (PW.pt (zC0 (zAu (zAl (zAa zAs rfl T.isinst PyProof.Rows.boot_isinstance (zA0 (pv 0) (zA0 (zBk (v:=.ty "tuple") rfl T.tuple PyProof.Rows.boot_tuple rfl) zA2)))))
    (zBd (zAg op_ne (zAa zAp rfl T.len PySem.boot_len (zA0 (pv 0) zA2)) zA4 (nomark _))))) (zA5 (zAc zCd)) zAb)
   (zA3 (zAk (i:=1) scPr.nd rfl (Or.inl rfl) (zAh zAi (pv 0) zA4 (fun _ _=>rfl)))
   (zA5 (zAc (zBr (zAa zAs rfl T.isinst PyProof.Rows.boot_isinstance (zA0 (pv 1) (zA0 (zBk (v:=.ty "list") rfl T.list PyProof.Rows.boot_list rfl) zA2)))
    (zBr (zB0 op_gt (zAa zAp rfl T.len PySem.boot_len (zA0 (pv 1) zA2)) zA4 (nomark _))
     (zBx (zA6 GU hr rfl DU.at_ DU.fn.kp DU.bind .nil (passC hC) (zA0 (pv 1) zA2)))))))),?_⟩
  have k0:pairB d=false→Q (.bl false) H:=fun e=>by rw [← e];exact k _ (Same.refl _)
  refine ⟨_,rfl,?_⟩;cases hd with
  | non=>exact ⟨_,_,_,_,_,rfl,.non,rfl,rfl,_,rfl,iteT (iteT (k0 rfl))⟩
  | bl b=>exact ⟨_,_,_,_,_,rfl,(.bl b),rfl,rfl,_,rfl,iteT (iteT (k0 rfl))⟩
  | int i=>exact ⟨_,_,_,_,_,rfl,(.int i),rfl,rfl,_,rfl,iteT (iteT (k0 rfl))⟩
  | str x _ _=>exact ⟨_,_,_,_,_,rfl,(.str x),rfl,rfl,_,rfl,iteT (iteT (k0 rfl))⟩
  | lst _ e _ _=>exact ⟨_,_,_,_,_,rfl,(.lst e),rfl,rfl,_,rfl,iteT (iteT (k0 rfl))⟩
  | @tup a xs ds _ e z q =>
   refine ⟨_,_,_,_,_,rfl,.tup e,rfl,rfl,_,rfl,iteF ?_⟩;refine ⟨_,rfl,a,xs,rfl,.inr (SqT.of e),rfl,_,rfl,?_⟩;have hl:=q.length;by_cases h2:xs.length=2
   ·rw [decide_eq_true (show V.int (xs.length:Int)=V.int 2 by rw [h2];rfl)];refine iteF ?_;obtain ⟨d0,d1,rfl⟩:∃ d0 d1,ds=[d0,d1]:=by
     match ds,hl.symm.trans h2 with
     | [d0,d1],_=>exact ⟨d0,d1,rfl⟩
    cases q with
    | @cons x0 _ _ _ q0 q =>
     cases q with
     | @cons x1 _ _ _ q1 q =>
      cases q;refine ⟨_,rfl,a,_,_,x1,rfl,rfl,SqT.of e,rfl,?_⟩;refine ⟨_,rfl,?_⟩;cases q1 with
      | non=>exact ⟨_,_,_,_,_,rfl,.non,rfl,rfl,_,rfl,iteF (k0 rfl)⟩
      | bl b=>exact ⟨_,_,_,_,_,rfl,(.bl b),rfl,rfl,_,rfl,iteF (k0 rfl)⟩
      | int i=>exact ⟨_,_,_,_,_,rfl,(.int i),rfl,rfl,_,rfl,iteF (k0 rfl)⟩
      | str x _ _=>exact ⟨_,_,_,_,_,rfl,(.str x),rfl,rfl,_,rfl,iteF (k0 rfl)⟩
      | tup _ e1 _ _=>exact ⟨_,_,_,_,_,rfl,(.tup e1),rfl,rfl,_,rfl,iteF (k0 rfl)⟩
      | @lst l ys vs g1 e1 z1 q1 =>
       refine ⟨_,_,_,_,_,rfl,.lst e1,rfl,rfl,_,rfl,iteT ?_⟩;refine ⟨_,rfl,l,ys,rfl,.inl (SqL.of e1),_,_,rfl,rfl,_,rfl,?_⟩;refine ite2 (fun h0=>?_) (fun h0=>?_)
       ·refine ⟨_,rfl,_,vs,rfl,.lst g1 e1 z1 q1,fun H' s'=>?_⟩;have e0:pairB (.tuple [d0,.list vs])=unlikeB vs:=by
         show (decide (0 < vs.length) && unlikeB vs)=_;rw [decide_eq_true,Bool.true_and];have:=q1.length;have:=of_decide_eq_true h0;omega
        rw [← e0];exact k _ s'
       ·refine k0 ?_;show (decide (0 < vs.length) && unlikeB vs)=_;rw [decide_eq_false,Bool.false_and];have:=q1.length;intro z0;exact h0 (decide_eq_true (by omega))
   ·rw [decide_eq_false (show ¬ V.int (xs.length:Int)=V.int 2 by intro z0;injection z0 with z0;omega)];refine iteT (k0 ?_)
    match ds,hl with
    | [],_=>rfl
    | [_],_=>rfl
    | [_,_],hl=>exact absurd hl h2
    | _ :: d1 :: _ :: _,_=>cases d1 <;> rfl
end
theorem all_get {ds:List PyData}{f:PyData→Bool}{i:Nat}{d:PyData} (h:ds.all f=true) (e:ds[i]? = some d):f d=true:=List.all_eq_true.mp h d (Z3 e)
section
variable {P:Program}{w:World}{K:PySem.W.Frag}{mg:Str→Option Value}{base:Heap}{CX:CXT}
theorem scFd:FnScope ["things"] ["things"] (defScope sFields):=⟨rfl,rfl,rfl,by decide +kernel,rfl,by decide +kernel,by decide +kernel⟩
theorem ok_fields {f fp fu fn:Addr}{fd fdp fdu fdn:FuncData} (hC:Calm CX) (T:Tops K mg) (F:Fun K "are_fields" "are_fields" sFields f fd) (DN:Def K mg "is_name" sIsName ["thing"] fn fdn)
  (DU:Def K mg "are_unlike_names" sUnlike ["things"] fu fdu) (DP:Def K mg "is_pair_with_values" sPair ["thing"] fp fdp):FnOk P w K mg base CX 4 f fd ["things"] spFields:=by
 have GU:FnOk P w K mg base CX 2 fu fdu ["things"] spUnlike:=zBt hC T DU.fn DN;have GP:FnOk P w K mg base CX 3 fp fdp ["thing"] spPair:=ok_pair hC T DP.fn DN DU;refine F.okC scFd (fun vs H Q E h=>?_) (fun cdv A outer s H vs Q E hr h=>?_)
 ·obtain ⟨v,d,rfl,_⟩:=h;rfl
 ·obtain ⟨v,d,rfl,hd,k⟩:=h;have hr2:=hr.mono (show 2≤3 by decide)
  refine ⟨_,zA3 (zAq (PW.pt (zC0 (zAu (zAl (zAa zAs rfl T.isinst PyProof.Rows.boot_isinstance (zA0 (pv 0) (zA0 (zBk (v:=.ty "list") rfl T.list PyProof.Rows.boot_list rfl) zA2)))))
    (zBd (zAu (zAl (zAa (zB3 rfl) rfl T.all PyProof.Rows.boot_all (zA0 (zAt (T:=["thing"]) rfl ScOk.auto (zAj (pv 0)) (fun _ _ _ _=>zAd (i:=1) (by decide +kernel:(["things", "thing"]:List Str).Nodup) rfl (Or.inl rfl)) (fun _ _ _ _=>zAy)
    (fun _ _ _ _=>zA6 GP hr rfl DP.at_ DP.fn.kp DP.bind .nil (passC hC) (zA0 (pv 1) zA2))) zA2))))))) (zA5 (zAc zCd)) zAb)
   (zA5 (zAc (zA6 GU hr2 rfl DU.at_ DU.fn.kp DU.bind .nil (passC hC) (zA0 (zAt (T:=["thing"]) rfl ScOk.auto (zAj (pv 0)) (fun _ _ _ _=>zAd (i:=1) (by decide +kernel:(["things", "thing"]:List Str).Nodup) rfl (Or.inl rfl)) (fun _ _ _ _=>zAy)
    (fun _ _ _ _=>zAh (r:=rIxT K) zAi (pv 1) zA4 (fun _ _=>rfl))) zA2)))),?_⟩
  have k0:fieldsB d=false→∀ H',Same H H'→Q (.bl false) H':=fun e H' s'=>by rw [← e];exact k _ s'
  refine ⟨_,rfl,?_⟩;cases hd with
  | non=>exact ⟨_,_,_,_,_,rfl,.non,rfl,rfl,_,rfl,iteT (iteT (k0 rfl _ (Same.refl _)))⟩
  | bl b=>exact ⟨_,_,_,_,_,rfl,(.bl b),rfl,rfl,_,rfl,iteT (iteT (k0 rfl _ (Same.refl _)))⟩
  | int i=>exact ⟨_,_,_,_,_,rfl,(.int i),rfl,rfl,_,rfl,iteT (iteT (k0 rfl _ (Same.refl _)))⟩
  | str x _ _=>exact ⟨_,_,_,_,_,rfl,(.str x),rfl,rfl,_,rfl,iteT (iteT (k0 rfl _ (Same.refl _)))⟩
  | tup _ e _ _=>exact ⟨_,_,_,_,_,rfl,(.tup e),rfl,rfl,_,rfl,iteT (iteT (k0 rfl _ (Same.refl _)))⟩
  | @lst a xs ds _ ha hz hx =>
   refine ⟨_,_,_,_,_,rfl,.lst ha,rfl,rfl,_,rfl,iteF ?_⟩;refine ⟨_,rfl,a,rfl,⟨xs,SqL.of ha⟩,zAe (xs:=xs) (fun i ys H'=>Same H H'∧ys=(ds.take i).map fun d=>V.bl (pairB d)) ⟨Same.refl _,rfl⟩ (fun i ys H' p=>SqL.of (p.1 _ _ ha)) (fun i ys H' hi p=>?_) ?_ ?_⟩
   ·rw [p.2,Z0];have:=Zw i ds;have:=small1000 hz;omega
   ·rintro i x ys H' hi ⟨s1,rfl⟩ N hN;obtain ⟨d,hd',hv⟩:=hx.get hi;refine pick ?_;refine ⟨_,rfl,_,d,rfl,hv.mono s1,fun H2 s2=>hN _ _ ⟨s1.trans s2,?_⟩⟩;rw [Z4,hd',Z2];rfl
   ·rintro ys H' ⟨s1,rfl⟩ p hp;have e:(ds.take xs.length).map (fun d=>V.bl (pairB d))=(ds.map pairB).map V.bl:=by
     rw [hx.length,Za,Y0];rfl
    have s2:Same H (upd H' p (.lst ((ds.take xs.length).map fun d=>V.bl (pairB d)))):=s1.trans (Same.new hp);refine ⟨p,ds.map pairB,rfl,SqL.of (by rw [zA1,e]),_,rfl,?_⟩;have ea:(ds.map pairB).all id=ds.all pairB:=by rw [Y7];rfl
    rw [ea];cases eb:ds.all pairB with
    | false =>
     refine iteT (k0 ?_ _ s2);show (ds.all pairB && _)=false;rw [eb];rfl
    | true =>
     refine iteF ?_;have ha2:=s2 _ _ ha;generalize upd H' p (.lst ((ds.take xs.length).map fun d=>V.bl (pairB d)))=H3 at s2 ha2 ⊢;refine ⟨_,rfl,a,rfl,⟨xs,SqL.of ha2⟩,zAe (xs:=xs) (fun i ys H'=>H'=H3∧HasAll Any H3 ys ((ds.take i).map firstD)) ⟨rfl,.nil⟩ (fun i ys H' p=>by rw [p.1];exact SqL.of ha2) (fun i ys H' hi p=>?_) ?_ ?_⟩
     ·have:=p.2.length;rw [Z0] at this;have:=Zw i ds;have:=small1000 hz;omega
     ·rintro i x ys H' hi ⟨rfl,hy⟩ N hN;obtain ⟨d,hd',hv⟩:=hx.get hi;obtain ⟨b,x0,y0,n,l,vs,zs,rfl,_,hb,rfl,hn,_⟩:=zF0 hv (all_get eb hd');refine pick ?_;refine ⟨_,rfl,b,_,_,x0,rfl,rfl,SqT.of (s2 _ _ hb),rfl,hN _ _ ⟨rfl,?_⟩⟩;rw [Z4,hd',Z2];exact hy.snoc (hn.mono s2)
     ·rintro ys H' ⟨rfl,hy⟩ q hq;have s3:=s2.trans (Same.new (o:=.lst ys) hq);have hl:ys.length≤1000:=by
       have:=hy.length;rw [Z0] at this;have:=Zw xs.length ds;omega
      refine ⟨_,ds.map firstD,rfl,.lst trivial zA1 hl ?_,fun H4 s4=>?_⟩
      ·rw [hx.length,Za] at hy;exact hy.mono (Same.new hq)
      ·have e1:fieldsB (.list ds)=unlikeB (ds.map firstD):=by
        show (ds.all pairB && unlikeB (ds.map firstD))=_;rw [eb];rfl
       rw [← e1];exact k _ (s3.trans s4)
theorem scCt:FnScope ["fields", "many", "field"] ["fields"] (defScope sCount):=⟨rfl,rfl,rfl,by decide +kernel,rfl,by decide +kernel,by decide +kernel⟩
theorem ok_count {f:Addr}{fd:FuncData} (T:Tops K mg) (F:Fun K "count_states" "count_states" sCount f fd):FnOk P w K mg base CX 1 f fd ["fields"] spCount:=by
 refine F.okC scCt (fun vs H Q E h=>?_) (fun cdv A outer s H vs Q E hr h=>?_)
 ·obtain ⟨v,ds,rfl,_⟩:=h;rfl
 ·obtain ⟨v,ds,rfl,hd,eb,k⟩:=h;obtain ⟨a,xs,rfl,_,ha,hz,hx⟩:=hd.list_inv
  refine ⟨_,zA3 (zAk (i:=1) scCt.nd rfl (Or.inl rfl) zA4)
   (zA3 (zCv PassesOwn.never rfl (zAj (pv 0)) (zAd (i:=2) scCt.nd rfl (Or.inl rfl))
    (zA5 (zAk (i:=1) scCt.nd rfl (Or.inl rfl) (zAx zDj (pv 1) (zAa zAp rfl T.len PySem.boot_len (zA0 (zAh zAi (pv 2) zA4 (fun _ _=>rfl)) zA2))))))
   (zA5 (zAc (pv 1)))),?_⟩
  refine ⟨_,rfl,a,rfl,⟨xs,SqL.of ha⟩,zDo (K:=K) (a:=a) (xs:=xs) (fun i σ H2=>∃ u,σ = [some (.ref a),some (.int (countD (ds.take i))),u]∧H2=H) ⟨none,rfl,rfl⟩ (fun i σ H2 _ ⟨_,_,e⟩=>by rw [e];exact SqL.of ha) ?_ ?_⟩
  ·rintro i x σ H2 hi ⟨u,rfl,rfl⟩;obtain ⟨d,hd',hv⟩:=hx.get hi;obtain ⟨b,x0,y0,n,l,vs,zs,rfl,_,hb,rfl,hn,rfl,_,hl,hzl,hvs,_⟩:=zF0 hv (all_get eb hd');refine ⟨_,rfl,_,rfl,b,_,_,_,rfl,rfl,SqT.of hb,rfl,l,zs,rfl,.inl (SqL.of hl),_,_,rfl,rfl,.inr ⟨by omega,by omega⟩,⟨some (.ref b),?_,rfl⟩⟩;have e:countD (ds.take (i + 1))=countD (ds.take i) * (zs.length:Int):=by
    rw [Z4,hd'];unfold countD;rw [List.foldl_append];show _ * ((sizeD (.tuple [n,.list vs]):Nat):Int)=_;rw [hvs.length];rfl
   rw [e];rfl
  ·rintro σ H2 ⟨u,rfl,rfl⟩;refine ⟨_,rfl,?_⟩;rw [hx.length,Za];exact k
end
structure FunD (K:PySem.W.Frag) (x qual:Str) (st:Stmt) (dV:Value) (f:Addr) (fd:FuncData):Prop where
 ex:∃ (oc:Value) (od:Option Addr) (kV doc pm:Value) (an:Option Addr) (cdv ct:Value) (osl:Array (Option Value)),
  fd=PySem.W.fnOf x qual (defArgs st) (defBody st) (defScope st) dV kV doc pm an cdv ct∧K.lookup f=some ⟨oc,od,.func fd,osl⟩∧PySem.W.codeIn K cdv qual=true
theorem FunD.okC {P:Program}{w:World}{K:PySem.W.Frag}{mg:Str→Option Value}{base:Heap}{CX:CXT}{x qual:Str}{st:Stmt}{dV:Value}{f:Addr}{fd:FuncData}{N ps:List Str}{k:Nat}{sp:Sp} (F:FunD K x qual st dV f fd) (S:FnScope N ps (defScope st)) (len:∀ vs H Q E,sp vs H Q E→vs.length=ps.length)
  (hbody:∀ (cdv:Value) (A:Around) (outer:List Env) (s:Shared) (H:Hp) (vs:List V) (Q:VK) (E:XK),Room k (A.deeper (PyProof.Rows.envOfC qual (defScope st) s.heap.objs.size f cdv))→sp vs H Q E →
   ∃ t,PSs (cxOf CX P w K mg base N qual (defScope st) f cdv A outer s H E).nox (defBody st) t∧t { nx:=fun _ H'=>Q .non H',rt:=Q } (start N vs) H):FnOk P w K mg base CX (k + 1) f fd ps sp:=by
 obtain ⟨oc,od,kV,doc,pm,an,cdv,ct,osl,rfl,lk,hcd⟩:=F.ex;refine zF8 lk hcd S len fun A outer s H vs Q E hr hsp=>?_;obtain ⟨t,h,q⟩:=hbody cdv A outer s H vs Q E hr hsp;exact ⟨t,h.nox,q⟩
theorem fnf:¬ (("name" : Str) = "fields"):=by decide +kernel
theorem fno:¬ (("name" : Str) = "owner"):=by decide +kernel
theorem ffo:¬ (("fields" : Str) = "owner"):=by decide +kernel
noncomputable def kflds (n f o:V):List (Str×V):=putF "owner" o (putF "fields" f (putF "name" n []))
theorem zF5 (n f o:V):(kflds n f o).lookup ("name" : Str)=some n:=by
 unfold kflds;rw [zA8,if_neg fno,zA8,if_neg fnf,zA8,if_pos rfl]
theorem kf_fields (n f o:V):(kflds n f o).lookup ("fields" : Str)=some f:=by
 unfold kflds;rw [zA8,if_neg ffo,zA8,if_pos rfl]
theorem zD7 (n f o:V):(kflds n f o).lookup ("owner" : Str)=some o:=by
 unfold kflds;rw [zA8,if_pos rfl]
structure KCls (K:PySem.W.Frag) (mg:Str→Option Value) (C fI:Addr):Prop where
 cl:Cls K C
 nN:NoAttr K C "name"
 nF:NoAttr K C "fields"
 nO:NoAttr K C "owner"
 mgC:mg "Kind" = some (.ref C)
 mkd:Mk K C fI
theorem name_any {G G':Addr→Prop}{H H':Hp}{v:V}{d:PyData} (h:Has G H v d) (e:nameD d=true):Has G' H' v d:=by
 cases h with
 | str x a b=>exact .str x a b
 | non=>cases e
 | bl b=>cases e
 | int i=>cases e
 | lst _ _ _ _=>cases e
 | tup _ _ _ _=>cases e
theorem names_any {G G':Addr→Prop}{H H':Hp}:∀ {xs:List V}{ds:List PyData},HasAll G H xs ds→ds.all nameD=true→HasAll G' H' xs ds
 | _,_,.nil,_=>.nil
 | _,_,.cons h t,e=>by
  rw [Zy,Zr] at e;exact .cons (name_any h e.1) (names_any t e.2)
theorem zEc {ds:List PyData} (h:unlikeB ds=true):ds.all nameD=true:=by
 have z:(ds.all nameD && decide (strsOf ds).Nodup)=true:=h;rw [Zr] at z;exact z.1
noncomputable def ownerD (n:Str):PyData→Bool
 | .none=>true
 | .str o=>nameB o && !decide (o=n)
 | _=>false
noncomputable def spInit (C:Addr):Sp:=fun vs H Q _=>∃ (p dx:Addr) (vf vo:V) (n:Str) (ds:List PyData) (od:PyData),vs=[.ref p,.str n,vf,vo]∧H p=some (.ins C dx [])∧n.length≤1000∧PyData.strOk n=true∧nameB n=true ∧
 Has Any H vf (.list ds)∧fieldsB (.list ds)=true∧Has Any H vo od∧ownerD n od=true∧countD ds≤8 ∧
 ∀ (H':Hp) (l:Addr),H' p=some (.ins C dx (kflds (.str n) (.ref l) vo))→Has (fun a=>H a=none) H' (.ref l) (.list ds)→(∀ b o,H b=some o→b≠p→H' b=some o)→Q .non H'
section
variable {P:Program}{w:World}{K:PySem.W.Frag}{mg:Str→Option Value}{base:Heap}{CX:CXT}
theorem scKi:FnScope ["self", "name", "fields", "owner"] ["self", "name", "fields", "owner"] (defScope sInit):=⟨rfl,rfl,rfl,by decide +kernel,rfl,by decide +kernel,by decide +kernel⟩
theorem k_both {R:Hp→Prop}{H1:Hp}{B:Prop} (t:∀ Hx,Same H1 Hx→R Hx) (h:(∀ Hx,Same H1 Hx→R Hx)→B):B:=h t
theorem ok_init {f C ff fc fp fu fn:Addr}{fd fdf fdc fdp fdu fdn:FuncData}{dV:Value} (hC:Calm CX) (T:Tops K mg) (F:FunD K "__init__" "Kind.__init__" sInit dV f fd) (KC:KCls K mg C f) (DN:Def K mg "is_name" sIsName ["thing"] fn fdn)
  (DU:Def K mg "are_unlike_names" sUnlike ["things"] fu fdu) (DP:Def K mg "is_pair_with_values" sPair ["thing"] fp fdp) (DF:Def K mg "are_fields" sFields ["things"] ff fdf) (DC:Def K mg "count_states" sCount ["fields"] fc fdc) :
  FnOk P w K mg base CX 5 f fd ["self", "name", "fields", "owner"] (spInit C):=by
 have GN:FnOk P w K mg base CX 1 fn fdn ["thing"] spNameD:=zCe DN.fn T;have GF:FnOk P w K mg base CX 4 ff fdf ["things"] spFields:=ok_fields hC T DF.fn DN DU DP;have GC:FnOk P w K mg base CX 1 fc fdc ["fields"] spCount:=ok_count T DC.fn;refine F.okC scKi (fun vs H Q E h=>?_) (fun cdv A outer s H vs Q E hr h=>?_)
 ·obtain ⟨p,dx,vf,vo,n,ds,od,rfl,_⟩:=h;rfl
 ·obtain ⟨p,dx,vf,vo,n,ds,od,rfl,hp,hn1,hn2,hn3,hf,hfb,ho,hob,hc8,k⟩:=h;have hr1:=hr.mono (show 1≤4 by decide);obtain ⟨tm,hmost⟩:=T.mostS
  refine ⟨_,zA3 (zAq (zAu (zAl (zA6 GN hr1 rfl DN.at_ DN.fn.kp DN.bind .nil (passC hC) (zA0 (pv 1) zA2)))) zAo zAb)
   (zA3 (zAq (zAu (zAl (zA6 GF hr rfl DF.at_ DF.fn.kp DF.bind .nil (passC hC) (zA0 (pv 2) zA2)))) zAo zAb)
   (zA3 (zAq (PW.pt (zC3 (zCh (zEz (pv 3))) (zBj (PW.pt (zC0 (zAu (zAl (zA6 GN hr1 rfl DN.at_ DN.fn.kp DN.bind .nil (passC hC) (zA0 (pv 3) zA2)))) (zBd (zAg zBc (pv 3) (pv 1) (nomark _)))))))) zAo zAb)
   (zA3 (zAq (zAg op_gt (zA6 GC hr1 rfl DC.at_ DC.fn.kp DC.bind .nil (passC hC) (zA0 (pv 2) zA2)) (zAv (v:=.int 8) rfl hmost ⟨_,rfl⟩) (nomark _)) zAo zAb)
   (zA3 (zB9 (pv 0) (pv 1) rfl)
   (zA3 (zB9 (pv 0) (zAt (T:=["field"]) rfl ScOk.auto (zAj (pv 2)) (fun _ _ _ _=>zAd (i:=4) (by decide +kernel:(["self", "name", "fields", "owner", "field"]:List Str).Nodup) rfl (Or.inl rfl)) (fun _ _ _ _=>zAy)
    (fun _ _ _ _=>zB8 (zA0 (zAh (r:=rIxT K) zAi (pv 4) zA4 (fun _ _=>rfl)) (zA0 (zAn (r:=fun xs H Q=>∃ p ys,xs=[.ref p]∧(SqL K H p ys∨SqT K H p ys)∧∀ l,H l=none→Q (.ref l) (upd H l (.lst ys))) zAz rfl T.list PyProof.Rows.boot_list (zA0 (zAh (r:=rIxT K) zAi (pv 4) zA4 (fun _ _=>rfl)) zA2)) zA2)))) rfl)
   (zA5 (zB9 (pv 0) (pv 3) rfl))))))),?_⟩
  refine ⟨_,rfl,_,.str n,rfl,.str n hn1 hn2,fun H1 s1=>⟨_,rfl,?_⟩⟩;rw [show nameD (.str n)=true from hn3];refine iteF ⟨_,rfl,_,.list ds,rfl,hf.mono s1,fun H2 s2=>⟨_,rfl,?_⟩⟩;rw [hfb];have s12:=s1.trans s2;refine iteF ?_;have fb:ds.all pairB=true∧unlikeB (ds.map firstD)=true:=by
   have z:(ds.all pairB && unlikeB (ds.map firstD))=true:=hfb;rw [Zr] at z;exact z
  have sh:vo=V.non∨∃ o,vo=V.str o∧o.length≤1000∧PyData.strOk o=true∧nameB o=true∧¬ o=n:=by
   cases ho with
   | bl b=>cases hob
   | int i=>cases hob
   | lst _ _ _ _=>cases hob
   | tup _ _ _ _=>cases hob
   | non=>exact .inl rfl
   | str o o1 o2 =>
    have z:(nameB o && !decide (o=n))=true:=hob;rw [Zr] at z;exact .inr ⟨o,rfl,o1,o2,z.1,by simpa using z.2⟩
  refine' k_both (H1:=H) _ (fun k2=>_);rotate_left 2
  ·rcases sh with e | ⟨o,e,o1,o2,e1,e2⟩
   ·refine ⟨_,rfl,_,rfl,?_⟩;rw [decide_eq_true e];exact iteF (iteF (k2 H2 s12))
   ·refine ⟨_,rfl,_,rfl,?_⟩;rw [decide_eq_false (show ¬ vo=V.non by rw [e];intro z;cases z)];refine iteT ?_;refine ⟨_,rfl,vo,.str o,rfl,(by rw [e];exact .str o o1 o2),fun H3 s3=>⟨_,rfl,?_⟩⟩;rw [show nameD (.str o)=true from e1];refine iteF ⟨_,rfl,_,rfl,(by rw [e];rfl),_,rfl,?_⟩;rw [decide_eq_false (show ¬ vo=V.str n by rw [e];intro z;injection z with z;exact e2 z)];exact iteF (k2 H3 (s12.trans s3))
  ·intro H3 s3;refine ⟨_,rfl,_,ds,rfl,hf.mono s3,fb.1,_,_,rfl,rfl,_,rfl,?_⟩;refine ite2 (fun h=>absurd (of_decide_eq_true h) (by omega)) (fun _=>?_);refine ⟨_,rfl,_,rfl,p,C,dx,[],rfl,s3 _ _ hp,KC.cl,KC.nN,(by show 0 < 1000;decide),?_⟩;have fr:∀ (H':Hp) (o':HO),(∃ fs,H' p=some (.ins C dx fs))→∀ (a:Addr) (o:HO),Any a→isSeq o→H' a=some o→Any a∧(upd H' p o') a=some o:=by
    rintro H' o' ⟨fs,e⟩ a o _ hs q;refine ⟨trivial,?_⟩;rw [zA9]
    ·exact q
    ·rintro rfl;rw [e] at q;cases q;exact hs
   have hf4:Has Any (upd H3 p (.ins C dx (putF "name" (.str n) []))) vf (.list ds):=(hf.mono s3).frameS (fr _ _ ⟨_,s3 _ _ hp⟩);obtain ⟨a,xs,rfl,_,ha,hz,hx⟩:=hf4.list_inv;have hp4:(upd H3 p (.ins C dx (putF "name" (.str n) []))) p=some (.ins C dx (putF "name" (.str n) [])):=zA1;have k4:∀ b o,H b=some o→b≠p→(upd H3 p (.ins C dx (putF "name" (.str n) []))) b=some o:=fun b o e hb=>by rw [zA9 hb];exact s3 _ _ e
   have n4:∀ b,(upd H3 p (.ins C dx (putF "name" (.str n) []))) b=none→H b=none:=fun b e=>by
    cases q:H b with
    | none=>rfl
    | some o =>
     by_cases hb:b=p
     ·subst hb;rw [hp4] at e;cases e
     ·rw [k4 b o q hb] at e;cases e
   generalize upd H3 p (.ins C dx (putF "name" (.str n) []))=H4 at ha hx hp4 k4 n4 ⊢;refine ⟨_,rfl,a,rfl,⟨xs,SqL.of ha⟩,zAe (xs:=xs) (fun i ys H'=>Same H4 H'∧HasAll (fun a=>H a=none) H' ys (ds.take i)) ⟨Same.refl _,.nil⟩ (fun i ys H' q=>SqL.of (q.1 _ _ ha)) (fun i ys H' hi q=>?_) ?_ ?_⟩
   ·have:=q.2.length;have:=Zw i ds;have:=small1000 hz;have:=hx.length;omega
   ·rintro i x ys H' hi ⟨s5,hy⟩ N hN;obtain ⟨d,hd',hv⟩:=hx.get hi;obtain ⟨b,x0,y0,nd,l,vs,zs,rfl,_,hb,rfl,hnm,rfl,_,hl,hzl,hvs,_,hun⟩:=zF0 hv (all_get fb.1 hd');have hnn:nameD nd=true:=by
     have z:=List.all_eq_true.mp (zEc fb.2) nd (List.mem_map.mpr ⟨_,Z3 hd',rfl⟩);exact z
    refine pick ?_;refine ⟨_,rfl,b,_,_,x0,rfl,rfl,SqT.of (s5 _ _ hb),rfl,_,rfl,b,_,_,_,rfl,rfl,SqT.of (s5 _ _ hb),rfl,l,zs,rfl,.inl (SqL.of (s5 _ _ hl)),fun l2 hl2=>⟨by show 2≤sizeLine;decide,fun t ht=>hN _ _ ⟨?_,?_⟩⟩⟩
    ·exact (s5.trans (Same.new hl2)).trans (Same.new ht)
    ·rw [Z4,hd'];have s6:Same H' (upd (upd H' l2 (.lst zs)) t (.tup [x0,.ref l2])):=(Same.new hl2).trans (Same.new ht);refine (hy.mono s6).snoc (.tup ?_ zA1 (by show 2≤1000;decide) (.cons (name_any hnm hnn) (.cons (.lst ?_ ?_ hzl (names_any hvs (zEc hun))) .nil)))
     ·exact n4 _ (s5.free ((Same.new (o:=.lst zs) hl2).free ht))
     ·exact n4 _ (s5.free hl2)
     ·exact (Same.new ht) _ _ zA1
   ·rintro ys H' ⟨s5,hy⟩ l hl;have ll:ys.length≤1000:=by
     have:=hy.length;have:=Zw xs.length ds;have:=hx.length;omega
    rw [hx.length,Za] at hy;have hp5:(upd H' l (.lst ys)) p=some (.ins C dx (putF "name" (.str n) [])):=(Same.new hl) _ _ (s5 _ _ hp4);refine ⟨_,rfl,p,C,dx,_,rfl,hp5,KC.cl,KC.nF,(by show 1 < 1000;decide),?_⟩;refine ⟨_,rfl,_,rfl,p,C,dx,_,rfl,zA1,KC.cl,KC.nO,(by have:=zCy "fields" (V.ref l) (putF "name" (V.str n) []);have:(putF "name" (V.str n) []).length=1:=rfl;omega),?_⟩;refine k _ l zA1 ?_ fun b o e hb=>?_
    ·have h0:Has (fun a=>H a=none) (upd H' l (.lst ys)) (.ref l) (.list ds):=.lst (n4 _ (s5.free hl)) zA1 ll (hy.mono (Same.new hl));refine h0.frame fun b o g q=>⟨g,?_⟩;have hb:b≠p:=fun z=>by rw [z,hp] at g;cases g
     rw [zA9 hb,zA9 hb];exact q
    ·rw [zA9 hb,zA9 hb];exact (Same.new hl) _ _ (s5 _ _ (k4 b o e hb))
end
end My
namespace L2.W
open PySem My
noncomputable def nameOk (x:Str):Prop:=nameB x=true∧PyData.strOk x=true∧x.length≤8
structure ValsOk (vs:List Str):Prop where
 ne:0 < vs.length
 le:vs.length≤8
 nd:vs.Nodup
 ok:∀ x∈vs,nameOk x
noncomputable def fieldD (f:Str×List Str):PyData:=.tuple [.str f.1,.list (f.2.map .str)]
noncomputable def manyOf (fs:List (Str×List Str)):Nat:=fs.foldl (fun m f=>m * f.2.length) 1
structure FieldsOk (fs:List (Str×List Str)):Prop where
 le:fs.length≤3
 nd:(fs.map (·.1)).Nodup
 ok:∀ f∈fs,nameOk f.1∧ValsOk f.2
 many:manyOf fs≤8
theorem pickT {K:PySem.W.Frag}{A B:St→Hp→Prop}{σ : St}{H:Hp}{i j:Nat}{p:Addr}{x y:V} (hp:SqT K H p [x,y]) (h:A ((σ.set i (some x)).set j (some y)) H) :
  gTup K 2 (gCons (gName i) (gCons (gName j) gNil)) (.ref p) σ H fun σ2 H2=>tYes σ2 H2 fun b H3=>if b=true then A σ2 H3 else B σ2 H3:=by
 refine ⟨p,[x,y],rfl,hp,rfl,x,[y],rfl,y,[],rfl,rfl,?_⟩;show if true=true then A ((σ.set i (some x)).set j (some y)) H else B ((σ.set i (some x)).set j (some y)) H
 rw [if_pos rfl];exact h
theorem zBu {G:Addr→Prop}{H:Hp}:∀ {ks:List Str},(∀ x∈ks,nameOk x)→HasAll G H (ks.map V.str) (ks.map .str)
 | [],_=>.nil
 | k :: r,h=>.cons (.str k (by have:=(h k Zg).2.2;omega) (h k Zg).2.1) (zBu fun x hx=>h x (Zb _ hx))
end L2.W
namespace L2.W
open PySem My
theorem zDb:∀ ks:List Str,strsOf (ks.map PyData.str)=ks
 | []=>rfl
 | k :: r=>by
  show k :: strsOf (r.map PyData.str)=k :: r;rw [zDb r]
theorem zCg {ks:List Str} (h:∀ x∈ks,nameB x=true) (nd:ks.Nodup):unlikeB (ks.map PyData.str)=true:=by
 unfold unlikeB;rw [zDb,decide_eq_true nd,Bool.and_true,Yd];intro d hd;obtain ⟨x,hx,rfl⟩:=List.mem_map.mp hd;exact h x hx
theorem fields_ok {fs:List (Str×List Str)} (ok:FieldsOk fs):fieldsB (.list (fs.map fieldD))=true∧countD (fs.map fieldD)≤8:=by
 constructor
 ·show ((fs.map fieldD).all pairB && unlikeB ((fs.map fieldD).map firstD))=true;have e1:(fs.map fieldD).all pairB=true:=by
   rw [Yd];intro d hd;obtain ⟨f,hf,rfl⟩:=List.mem_map.mp hd;obtain ⟨_,v⟩:=ok.ok f hf;show (decide (0 < (f.2.map PyData.str).length) && unlikeB (f.2.map PyData.str))=true;rw [Z0,decide_eq_true v.ne,zCg (fun x hx=>(v.ok x hx).1) v.nd];rfl
  have e2:(fs.map fieldD).map firstD=(fs.map (·.1)).map PyData.str:=by
   rw [Y0,Y0];rfl
  rw [e1,e2,zCg _ ok.nd]
  ·rfl
  ·intro x hx;obtain ⟨f,hf,rfl⟩:=List.mem_map.mp hx;exact (ok.ok f hf).1.1
 ·have key:∀ (l:List (Str×List Str)) (m:Nat),(l.map fieldD).foldl (fun (m:Int) d=>m * (sizeD d:Int)) (m:Int)=((l.foldl (fun m f=>m * f.2.length) m:Nat):Int):=by
   intro l
   induction l with
   | nil=>intro m;rfl
   | cons f r ih =>
    intro m;rw [Zq,Yg,Yg,← ih];have:sizeD (fieldD f)=f.2.length:=by
     show (f.2.map PyData.str).length=_;rw [Z0]
    rw [this,Int.natCast_mul]
  have k1:=key fs 1;have k2:=ok.many;unfold countD;unfold manyOf at k2;have k3:((1:Nat):Int)=1:=rfl;rw [k3] at k1;rw [k1];omega
structure Row where
 name:Str
 fields:List (Str×List Str)
 owner:Option Str
structure RowsOk (rs:List Row):Prop where
 ne:0 < rs.length
 le:rs.length≤5
 nd:(rs.map (·.name)).Nodup
 ok:∀ r∈rs,nameOk r.name∧FieldsOk r.fields
 own:∀ (i:Nat) (r:Row) (o:Str),rs[i]? = some r→r.owner=some o→∃ (j:Nat) (r':Row),j < i∧rs[j]? = some r'∧r'.name=o
noncomputable def Ready (done:List Str) (r:Row):Prop:=r.name∉done∧∀ o,r.owner=some o→o∈done
noncomputable def Greedy (M:Row→Prop) (ord:List Str):Prop:=∀ (i:Nat) (n:Str),ord[i]? = some n→(∃ r,M r∧r.name=n∧Ready (ord.take i) r)∧∀ r,M r→Ready (ord.take i) r→¬ ltS r.name n
theorem Greedy.nil {M:Row→Prop}:Greedy M []:=fun i n h=>by simp at h
theorem Greedy.snoc {M:Row→Prop}{ord:List Str}{n:Str} (g:Greedy M ord) (h1:∃ r,M r∧r.name=n∧Ready ord r) (h2:∀ r,M r→Ready ord r→¬ ltS r.name n):Greedy M (ord++[n]):=by
 intro i m e;by_cases hi:i < ord.length
 ·have e':ord[i]? = some m:=by rwa [Zn hi] at e
  have t:(ord++[n]).take i=ord.take i:=List.take_append_of_le_length (Zi hi);rw [t];exact g i m e'
 ·have hi2:i=ord.length:=by
   have:=(List.getElem?_eq_some_iff.mp e).1;simp at this;omega
  subst hi2;have:n=m:=by simpa using e
  subst this;have t:(ord++[n]).take ord.length=ord:=by simp
  rw [t];exact ⟨h1,h2⟩
theorem Greedy.nodup {M:Row→Prop}{ord:List Str} (g:Greedy M ord):ord.Nodup:=by
 suffices h:∀ k,(ord.take k).Nodup by
  have:=h ord.length
  rwa [Za] at this
 intro k
 induction k with
 | zero=>simp
 | succ k ih =>
  cases e:ord[k]? with
  | none=>rw [Z4,e];simpa using ih
  | some n =>
   obtain ⟨⟨r,_,e1,r1⟩,_⟩:=g k n e;rw [Z4,e];refine List.nodup_append.mpr ⟨ih,by simp,fun a ha b hb=>?_⟩;have:b=n:=by simpa using hb
   rw [this];rintro rfl;exact r1.1 (e1 ▸ ha)
theorem Greedy.mem {M:Row→Prop}{ord:List Str} (g:Greedy M ord) {n:Str} (h:n∈ord):∃ r,M r∧r.name=n:=by
 obtain ⟨i,hi,e⟩:=Zx h;obtain ⟨⟨r,m,e1,_⟩,_⟩:=g i n (by rw [Z5 hi,e]);exact ⟨r,m,e1⟩
theorem zEo {α : Type} [DecidableEq α]:∀ {a b:List α},a.Nodup→(∀ x∈a,x∈b)→a.length≤b.length
 | [],_,_,_=>Zm _
 | x :: r,b,nd,h=>by
  have hx:=h x Zg;obtain ⟨n1,n2⟩:=List.nodup_cons.mp nd;have:=zEo (a:=r) (b:=b.erase x) n2 fun y hy=>(List.mem_erase_of_ne (by rintro rfl;exact n1 hy)).mpr (h y (Zb _ hy));rw [List.length_erase_of_mem hx] at this;have:=List.length_pos_of_mem hx;simp;omega
theorem Greedy.le {rs:List Row}{ord:List Str} (g:Greedy (·∈rs) ord):ord.length≤rs.length:=by
 have:=zEo (b:=rs.map (·.name)) g.nodup fun n hn=>by
  obtain ⟨r,m,e⟩:=g.mem hn;exact List.mem_map.mpr ⟨r,m,e⟩
 rwa [Z0] at this
theorem progress {rs:List Row} (ok:RowsOk rs) {ord:List Str} (h:ord.length < rs.length):∃ r∈rs,Ready ord r:=by
 have ex:∃ (i:Nat) (r:Row),rs[i]? = some r∧r.name∉ord:=Classical.byContradiction fun hn=>by
  have:=zEo (b:=ord) ok.nd fun n hm=>by
   obtain ⟨r,hr,rfl⟩:=List.mem_map.mp hm;obtain ⟨i,hi,e⟩:=Zx hr;exact Classical.byContradiction fun k=>hn ⟨i,r,by rw [Z5 hi,e],k⟩
  rw [Z0] at this;omega
 obtain ⟨i,r,hi,hr⟩:=ex;revert r
 induction i using Nat.strongRecOn with
 | _ i ih =>
  intro r hi hr;by_cases c:∀ o,r.owner=some o→o∈ord
  ·exact ⟨r,Z3 hi,hr,c⟩
  ·have:∃ o,r.owner=some o∧o∉ord:=Classical.byContradiction fun k=>c fun o e=>Classical.byContradiction fun m=>k ⟨o,e,m⟩;obtain ⟨o,e,no⟩:=this;obtain ⟨j,r',hj,e1,e2⟩:=ok.own i r o hi e;exact ih j hj r' e1 (by rw [e2];exact no)
theorem RowsOk.one {rs:List Row} (ok:RowsOk rs) {r r':Row} (h:r∈rs) (h':r'∈rs) (e:r.name=r'.name):r=r':=by
 obtain ⟨i,hi,ei⟩:=Zx h;obtain ⟨j,hj,ej⟩:=Zx h';have a:(rs.map (·.name))[i]? = some r.name:=by simp [Z5 hi,ei]
 have b:(rs.map (·.name))[j]? = some r.name:=by simp [Z5 hj,ej,e]
 have:=zF4 ok.nd a b;subst this;rw [← ei,← ej]
theorem RowsOk.owner {rs:List Row} (ok:RowsOk rs) {r:Row}{o:Str} (h:r∈rs) (e:r.owner=some o):nameOk o∧o≠r.name∧∃ r'∈rs,r'.name=o:=by
 obtain ⟨i,hi,ei⟩:=Zx h;have gi:rs[i]? = some r:=by rw [Z5 hi,ei]
 obtain ⟨j,r',hj,e1,rfl⟩:=ok.own i r o gi e;have m:=Z3 e1;refine ⟨(ok.ok r' m).1,fun k=>?_,r',m,rfl⟩;have a:(rs.map (·.name))[i]? = some r.name:=by simp [gi]
 have b:(rs.map (·.name))[j]? = some r.name:=by simp [e1,k]
 have:=zF4 ok.nd a b;omega
end L2.W
namespace L2.W
open PySem My
structure KIsi (K:PySem.W.Frag) (C:Addr):Prop where
 ha:PySem.W.findIn K (.ref C) "__class__" = some (some (.builtin "object.__class__"))
 hn:PySem.W.specialIn K (.builtin "object.__class__") "__get__" = some (some (.builtin "getset_descriptor.__get__"))
 htk:PySem.W.takesIn K (.builtin "object.__class__")=some true
 hm:PySem.W.mroIn K C (.type "object")=some true
 one:PySem.W.kitOne K (.ref C) (.ref C)=some true
noncomputable def ownV:Option Str→V
 | none=>.non
 | some o=>.str o
noncomputable def KindO (C:Addr) (H:Hp) (p:Addr) (r:Row):Prop:=∃ dx l,H p=some (.ins C dx (kflds (.str r.name) (.ref l) (ownV r.owner)))
noncomputable abbrev KL (C:Addr) (H:Hp):List Addr→List Row→Prop:=Paired fun p r=>KindO C H p r
theorem zBl {α β : Type}{R : α→β→Prop}:∀ {l:List α}{m:List β}{i:Nat}{a : α},Paired R l m→l[i]? = some a→∃ b,m[i]? = some b∧R a b
 | _,_,_,_,.nil,e=>by simp at e
 | _,_,0,a,.cons r _,e=>by
  simp at e;subst e;exact ⟨_,rfl,r⟩
 | _,_,i + 1,a,.cons _ t,e=>by
  obtain ⟨b,h1,h2⟩:=zBl (i:=i) (a:=a) t (by simpa using e);exact ⟨b,by simpa using h1,h2⟩
theorem KindO.mono {C:Addr}{H H':Hp}{p:Addr}{r:Row} (h:KindO C H p r) (k:∀ b o,H b=some o→(∃ C dx fs,o=.ins C dx fs)→H' b=some o):KindO C H' p r:=by
 obtain ⟨dx,l,e⟩:=h;exact ⟨dx,l,k _ _ e ⟨_,_,_,rfl⟩⟩
noncomputable def RowsP (rs:List Row):Prop:=∃ rs0,RowsOk rs0∧rs.Perm rs0
theorem RowsP.nd {rs:List Row} (h:RowsP rs):(rs.map (·.name)).Nodup:=by
 obtain ⟨r0,ok,p⟩:=h;exact (p.map _).nodup_iff.mpr ok.nd
theorem RowsP.le {rs:List Row} (h:RowsP rs):0 < rs.length∧rs.length≤5:=by
 obtain ⟨r0,ok,p⟩:=h;have:=p.length_eq;have:=ok.ne;have:=ok.le;omega
theorem RowsP.ok {rs:List Row} (h:RowsP rs):∀ r∈rs,nameOk r.name∧FieldsOk r.fields:=by
 obtain ⟨r0,ok,p⟩:=h;exact fun r hr=>ok.ok r (p.mem_iff.mp hr)
theorem RowsP.one {rs:List Row} (h:RowsP rs) {r r':Row} (a:r∈rs) (b:r'∈rs) (e:r.name=r'.name):r=r':=by
 obtain ⟨r0,ok,p⟩:=h;exact ok.one (p.mem_iff.mp a) (p.mem_iff.mp b) e
theorem RowsP.progress {rs:List Row} (h:RowsP rs) {ord:List Str} (hl:ord.length < rs.length):∃ r∈rs,Ready ord r:=by
 obtain ⟨r0,ok,p⟩:=h;obtain ⟨r,hr,q⟩:=L2.W.progress ok (ord:=ord) (by rw [← p.length_eq];exact hl);exact ⟨r,p.mem_iff.mpr hr,q⟩
noncomputable def spAreKinds (C:Addr):Sp:=fun vs H Q _=>∃ (l:Addr) (ps:List Addr) (rs:List Row),vs=[.ref l]∧H l=some (.lst (ps.map V.ref))∧KL C H ps rs∧RowsP rs∧∀ H',Same H H'→Q (.bl true) H'
section
variable {P:Program}{w:World}{K:PySem.W.Frag}{mg:Str→Option Value}{base:Heap}{CX:CXT}
theorem scAk:FnScope ["things"] ["things"] (defScope sAreKinds):=⟨rfl,rfl,rfl,by decide +kernel,rfl,by decide +kernel,by decide +kernel⟩
theorem ok_areKinds {f fu fn C fI:Addr}{fd fdu fdn:FuncData} (hC:Calm CX) (T:Tops K mg) (KC:KCls K mg C fI) (KI:KIsi K C) (F:Fun K "are_kinds" "are_kinds" sAreKinds f fd) (DN:Def K mg "is_name" sIsName ["thing"] fn fdn)
  (DU:Def K mg "are_unlike_names" sUnlike ["things"] fu fdu):FnOk P w K mg base CX 3 f fd ["things"] (spAreKinds C):=by
 have GU:FnOk P w K mg base CX 2 fu fdu ["things"] spUnlike:=zBt hC T DU.fn DN;refine Fun.okC F scAk (fun vs H Q E h=>?_) (fun cdv A outer s H vs Q E hr h=>?_)
 ·obtain ⟨l,ps,rs,rfl,_⟩:=h;rfl
 ·obtain ⟨l,ps,rs,rfl,hl,hk,rp,k⟩:=h
  refine ⟨_,zA3 (zAq (PW.pt (zC0 (zAu (zAl (zAa zAs rfl T.isinst PyProof.Rows.boot_isinstance (zA0 (pv 0) (zA0 (zBk (v:=.ty "list") rfl T.list PyProof.Rows.boot_list rfl) zA2)))))
    (zBd (zAg zBc (zAa zAp rfl T.len PySem.boot_len (zA0 (pv 0) zA2)) zA4 (nomark _))))) (zA5 (zAc zCd)) zAb)
   (zA3 (zAq (zAu (zAl (zAa (zB3 rfl) rfl T.all PyProof.Rows.boot_all (zA0 (zAt (T:=["thing"]) rfl ScOk.auto (zAj (pv 0)) (fun _ _ _ _=>zAd (i:=1) (by decide +kernel:(["things", "thing"]:List Str).Nodup) rfl (Or.inl rfl)) (fun _ _ _ _=>zAy)
    (fun _ _ _ _=>zAa (zBz (K:=K) rfl) rfl T.isinst PyProof.Rows.boot_isinstance (zA0 (pv 1) (zA0 (zAv (v:=.ref C) rfl KC.mgC rfl) zA2)))) zA2)))) (zA5 (zAc zCd)) zAb)
   (zA5 (zAc (zA6 GU hr rfl DU.at_ DU.fn.kp DU.bind .nil (passC hC) (zA0 (zAt (T:=["kind"]) rfl ScOk.auto (zAj (pv 0)) (fun _ _ _ _=>zAd (i:=1) (by decide +kernel:(["things", "kind"]:List Str).Nodup) rfl (Or.inl rfl)) (fun _ _ _ _=>zAy)
    (fun _ _ _ _=>zCc (K:=K) rfl (pv 1) rfl)) zA2))))),?_⟩
  have len:ps.length=rs.length:=Paired.length hk;obtain ⟨l0,l5⟩:=rp.le;have small:∀ n:Nat,n≤1000→n≤sizeLine:=fun n h=>Zi (small1000 h);refine ⟨_,rfl,_,_,_,_,_,rfl,.lst hl,rfl,rfl,_,rfl,iteF ?_⟩;refine ⟨_,rfl,l,_,rfl,.inl (SqL.of hl),rfl,_,rfl,?_⟩;rw [decide_eq_false (show ¬ V.int ((ps.map V.ref).length:Int)=V.int 0 by intro z0;injection z0 with z0;rw [Z0] at z0;omega)];refine iteF ?_;refine ⟨_,rfl,l,rfl,⟨_,SqL.of hl⟩,zAe (xs:=ps.map V.ref) (fun i ys H'=>H=H'∧ys=(List.replicate i true).map V.bl) ⟨rfl,rfl⟩ (fun i ys H' p=>by rw [← p.1];exact SqL.of hl) (fun i ys H' hi p=>?_) ?_ ?_⟩
  ·rw [p.2,Z0,Zp];rw [Z0] at hi;exact small _ (by omega)
  ·rintro i x ys H' hi ⟨rfl,rfl⟩ N hN;rw [Z6] at hi;cases ep:ps[i]? with
   | none=>rw [ep] at hi;cases hi
   | some p =>
    rw [ep] at hi;cases hi;obtain ⟨r,er,dx,lf,e⟩:=zBl hk ep;refine pick ?_;refine ⟨_,rfl,_,_,_,_,_,rfl,.ins e KC.cl KI.ha KI.hn KI.htk KI.hm,rfl,KI.one,hN _ _ ⟨rfl,?_⟩⟩;rw [List.replicate_succ',Z2];rfl
  ·rintro ys H' ⟨rfl,rfl⟩ q hq;rw [Z0];have s1:Same H (upd H q (.lst ((List.replicate ps.length true).map V.bl))):=Same.new hq;refine ⟨q,List.replicate ps.length true,rfl,SqL.of zA1,_,rfl,?_⟩;have ea:(List.replicate ps.length true).all id=true:=by simp
   rw [ea];refine iteF ?_;generalize upd H q (.lst ((List.replicate ps.length true).map V.bl))=H2 at s1 ⊢;refine ⟨_,rfl,l,rfl,⟨_,SqL.of (s1 _ _ hl)⟩,zAe (xs:=ps.map V.ref) (fun i ys H'=>H2=H'∧ys=((rs.take i).map (·.name)).map V.str) ⟨rfl,rfl⟩ (fun i ys H' p=>by rw [← p.1];exact SqL.of (s1 _ _ hl)) (fun i ys H' hi p=>?_) ?_ ?_⟩
   ·rw [p.2,Z0,Z0];have:(rs.take i).length≤rs.length:=by rw [Zl];omega
    exact small _ (by omega)
   ·rintro i x ys H' hi ⟨rfl,rfl⟩ N hN;rw [Z6] at hi;cases ep:ps[i]? with
    | none=>rw [ep] at hi;cases hi
    | some p =>
     rw [ep] at hi;cases hi;obtain ⟨r,er,dx,lf,e⟩:=zBl hk ep;refine pick ?_;refine ⟨_,rfl,p,C,dx,_,_,rfl,s1 _ _ e,KC.cl,KC.nN,zF5 _ _ _,hN _ _ ⟨rfl,?_⟩⟩;rw [Z4,er,Z2,Z2];rfl
   ·rintro ys H' ⟨rfl,rfl⟩ q2 hq2;rw [Z0,len,Za];refine ⟨_,(rs.map (·.name)).map PyData.str,rfl,.lst trivial zA1 (by rw [Z0,Z0];omega) (zBu fun x hx=>?_),fun H4 s4=>?_⟩
    ·obtain ⟨r,hr,rfl⟩:=List.mem_map.mp hx;exact (rp.ok r hr).1
    ·rw [zCg (fun x hx=>?_) rp.nd]
     ·exact k _ (s1.trans ((Same.new hq2).trans s4))
     ·obtain ⟨r,hr,rfl⟩:=List.mem_map.mp hx;exact (rp.ok r hr).1.1
end
end L2.W
namespace L2.W
open PySem My
noncomputable def lamPos:Pos:=⟨92,31,92,53⟩
noncomputable def lamQ:Str:=(("placed_by_owners" : Str)++".<locals>.")++"<lambda>"
noncomputable def readyB (done:List Str) (r:Row):Bool:=decide (r.name∉done) && (match r.owner with | none=>true | some o=>decide (o∈done))
theorem readyB_iff {done:List Str}{r:Row}:readyB done r=true ↔ Ready done r:=by
 unfold readyB Ready;cases r.owner with
 | none=>simp
 | some o=>simp
noncomputable abbrev Placed (zs:List (Addr×Row)):List Str→List (Key×V)→Prop:=Paired fun n kv=>∃ q∈zs,kv=(Sum.inr n,V.ref q.1)∧q.2.name=n
theorem Placed.val {zs:List (Addr×Row)}:∀ {ord:List Str}{kvs:List (Key×V)},Placed zs ord kvs→∀ n:Str,(valV kvs (Sum.inr n)).isSome=decide (n∈ord)
 | _,_,.nil,n=>by simp [valV]
 | m :: ord,kv :: kvs,.cons r t,n=>by
  obtain ⟨q,_,rfl,e⟩:=r;by_cases c:m=n
  ·rw [zCr (by rw [c])];simp [c]
  ·rw [zCs (by intro z;exact c (Sum.inr.inj z)),Placed.val t n];simp [Ne.symm c]
theorem zDv {α β : Type}{R : α→β→Prop}:∀ {l:List α}{m:List β}{a : α}{b : β},Paired R l m→R a b→Paired R (l++[a]) (m++[b])
 | _,_,_,_,.nil,r=>.cons r .nil
 | _,_,_,_,.cons r t,q=>.cons r (zDv t q)
theorem putK_new {kvs:List (Key×V)}{k:Key}{v:V} (h:(valV kvs k).isSome=false):putK kvs k v=kvs++[(k,v)]:=by
 unfold putK;rw [zEm,h];rfl
structure Zs (C:Addr) (H:Hp) (zs:List (Addr×Row)):Prop where
 at_:∀ q∈zs,KindO C H q.1 q.2
 nd:(zs.map fun q=>q.2.name).Nodup
 le:zs.length≤50
theorem Zs.mono {C:Addr}{H H':Hp}{zs:List (Addr×Row)} (z:Zs C H zs) (k:∀ b o,H b=some o→(∃ C dx fs,o=.ins C dx fs)→H' b=some o):Zs C H' zs:=⟨fun q hq=>(z.at_ q hq).mono k,z.nd,z.le⟩
noncomputable def spPlaced (C Pt:Addr):Sp:=fun vs H Q _=>∃ (l:Addr) (zs:List (Addr×Row)),vs=[.ref l]∧H l=some (.lst (zs.map fun q=>V.ref q.1))∧Zs C H zs∧TabOk H Pt lamPos lamQ ∧
 ∀ (d:Addr) (ord:List Str) (kvs:List (Key×V)) (H':Hp),H d=none→H' d=some (.dK kvs)→Placed zs ord kvs→Greedy (·∈zs.map (·.2)) ord→(∀ r∈zs.map (·.2),¬ Ready ord r)→TabOk H' Pt lamPos lamQ→GrownBut Pt H H'→Q (.ref d) H'
theorem _root_.L2.GrownBut.trans {P:Addr}{a b c:Hp} (x:GrownBut P a b) (y:GrownBut P b c):GrownBut P a c:=fun p o e n=>y p o (x p o e n) n
theorem _root_.L2.GrownBut.same {P:Addr}{a b:Hp} (x:Same a b):GrownBut P a b:=fun p o e _=>x p o e
theorem _root_.L2.TabOk.same {H H':Hp}{P:Addr}{pos:Pos}{q:Str} (T:TabOk H P pos q) (k:Same H H'):TabOk H' P pos q:=T.stay k
theorem _root_.L2.TabOk.upd {H:Hp}{P:Addr}{pos:Pos}{q:Str}{p:Addr}{u o:HO} (T:TabOk H P pos q) (hp:H p=some u) (h1:∀ ps,u≠.tbl ps) (h2:∀ f,u≠.ext f):TabOk (upd H p o) P pos q :=
 T.but hp h1 h2 fun b x e nb=>by rw [zA9 nb];exact e
theorem zCf {zs:List (Addr×Row)}{i:Nat}{q:Addr×Row} (p:Addr×Row→Bool) (h:zs[i]? = some q):(zs.take (i + 1)).filter p=if p q=true then (zs.take i).filter p++[q] else (zs.take i).filter p:=by
 rw [Z4,h,Y2];cases e:p q <;> simp [e]
section
variable {P:Program}{w:World}{K:PySem.W.Frag}{mg:Str→Option Value}{base:Heap}{CX:CXT}
theorem scPl:FnScope ["kinds", "placed", "ready", "first"] ["kinds"] (defScope sPlaced):=⟨rfl,rfl,rfl,by decide +kernel,rfl,by decide +kernel,by decide +kernel⟩
theorem ok_placed {f C fI c Pt:Addr}{fd:FuncData} (hC:Calm CX) (T:Tops K mg) (KC:KCls K mg C fI) (LT:LamTxt K mg base c Pt) (F:FunL K "placed_by_owners" "placed_by_owners" sPlaced f fd c):FnOk P w K mg base CX 4 f fd ["kinds"] (spPlaced C Pt):=by
 refine FunL.okC F scPl (fun vs H Q E h=>?_) (fun A outer s H vs Q E hr h=>?_)
 ·obtain ⟨l,zs,rfl,_⟩:=h;rfl
 ·obtain ⟨l,zs,rfl,hl,hz,hT,k⟩:=h;have nd:=scPl.nd;have hr2:=hr.mono (show 2≤3 by decide);have hu:=hu_of hr
  refine ⟨_,zA3 (zAk (i:=1) nd rfl (Or.inr rfl) zEw)
   (zA3 (zB4 (T:=["kind"]) (i:=2) rfl ScOk.auto (zAj (pv 0)) (fun _ _ _ _=>zAd (i:=4) (by decide +kernel:(["kinds", "placed", "ready", "first", "kind"]:List Str).Nodup) rfl (Or.inl rfl))
    (fun _ _ _ _=>zD4 (zCh (zEf (zCc (K:=K) rfl (pv 4) rfl)))) (fun _ _ _ _=>pv 4) nd rfl rfl rfl)
   (zA3 (zEs PassesOwn.never (zEr (pv 2) (fun _=>rfl))
    (zA3 (zAk (i:=3) nd rfl (Or.inl rfl) (zDu LT rfl hr2 rfl rfl T.min (zA0 (pv 2) zA2) (by exact ⟨rfl,rfl,rfl,by decide +kernel,rfl⟩)))
    (zA3 (ps_dput hu (pv 1) (zB2 (pv 3) rfl) (pv 3) rfl)
    (zA5 (zB4 (T:=["kind"]) (i:=2) rfl ScOk.auto (zAj (pv 0)) (fun _ _ _ _=>zAd (i:=4) (by decide +kernel:(["kinds", "placed", "ready", "first", "kind"]:List Str).Nodup) rfl (Or.inl rfl))
     (fun _ _ _ _=>zD4 (PW.pt (zC3 (zCh (zD6 hu (zCc (K:=K) rfl (pv 4) rfl) (pv 1))) (zBj (PW.pt (zC0 (zCh (zEf (zCc (K:=K) rfl (pv 4) rfl))) (zBd (zCh (pc_din hu (zCc (K:=K) rfl (pv 4) rfl) (pv 1)))))))))) (fun _ _ _ _=>pv 4) nd rfl rfl rfl)))))
   (zA5 (zAc (pv 1))))),?_⟩
  have small:∀ n:Nat,n≤1000→n≤sizeLine:=fun n h=>Zi (small1000 h);have flen:∀ (p:Addr×Row→Bool) (i:Nat),((zs.take i).filter p).length≤50:=fun p i=>by
   have h1:=Y5 p (zs.take i);have h2:(zs.take i).length≤zs.length:=by rw [Zl];omega
   have:=hz.le;omega
  intro d hd;have g0:Same H (upd H d (.dK [])):=Same.new hd;have e0:(upd H d (.dK [])) d=some (.dK []):=zA1;generalize upd H d (.dK [])=H0 at g0 e0 ⊢;refine ⟨_,rfl,l,rfl,⟨_,SqL.of (g0 _ _ hl)⟩,zAe (xs:=zs.map fun q=>V.ref q.1) (fun i ys H'=>H0=H'∧ys=((zs.take i).filter (fun q=>readyB [] q.2)).map fun q=>V.ref q.1) ⟨rfl,rfl⟩ (fun i ys H' p=>by rw [← p.1];exact SqL.of (g0 _ _ hl)) (fun i ys H' hi p=>?_) ?_ ?_⟩
  ·rw [p.2,Z0];exact small _ (Zo (flen _ i) (by decide))
  ·rintro i x ys H' hi ⟨rfl,rfl⟩ N hN;rw [Z6] at hi;cases ep:zs[i]? with
   | none=>rw [ep] at hi;cases hi
   | some q =>
    rw [ep] at hi;cases hi;obtain ⟨dx,lf,e⟩:=hz.at_ q (Z3 ep);refine ⟨_,rfl,q.1,C,dx,_,_,rfl,g0 _ _ e,KC.cl,KC.nO,zD7 _ _ _,_,rfl,?_⟩;cases eo:q.2.owner with
    | none =>
     refine iteT ⟨_,rfl,hN _ _ ⟨rfl,?_⟩⟩;rw [zCf _ ep,if_pos (by simp [readyB,eo]),Z2];rfl
    | some o =>
     refine iteF (hN _ _ ⟨rfl,?_⟩);rw [zCf _ ep,if_neg (by simp [readyB,eo])]
  ·rintro ys H' ⟨rfl,rfl⟩ lr hlr;rw [Z0,Za];have g1:Same H (upd H0 lr (.lst ((zs.filter fun q=>readyB [] q.2).map fun q=>V.ref q.1))):=g0.trans (Same.new hlr);have e1:=(Same.new (o:=.lst ((zs.filter fun q=>readyB [] q.2).map fun q=>V.ref q.1)) hlr) _ _ e0
   refine ⟨fun m σ H2=>∃ ord kvs lr x,m=zs.length - ord.length∧σ = [some (.ref l),some (.ref d),some (.ref lr),x]∧H2 d=some (.dK kvs)∧Placed zs ord kvs∧Greedy (·∈zs.map (·.2)) ord ∧
    H2 lr=some (.lst ((zs.filter fun q=>readyB ord q.2).map fun q=>V.ref q.1))∧TabOk H2 Pt lamPos lamQ∧GrownBut Pt H H2,⟨_,[],[],lr,none,rfl,rfl,e1,.nil,.nil,zA1,hT.same g1,.same g1⟩,?_⟩
   clear g1 e1 hlr e0 g0;rintro m σ H2 ⟨ord,kvs,lr,x,rfl,rfl,hd2,hpl,hgr,hlr,hT2,hG⟩;have hk2:∀ q∈zs,∃ dx lf,H2 q.1=some (.ins C dx (kflds (.str q.2.name) (.ref lf) (ownV q.2.owner))):=fun q hq=>by
    obtain ⟨dx,lf,e⟩:=hz.at_ q hq;exact ⟨dx,lf,hG _ _ e (hT.ne e fun _ z=>nomatch z)⟩
   refine ⟨_,rfl,_,.inl ⟨_,SqL.of hlr,rfl⟩,?_⟩;generalize ets:(zs.filter fun q=>readyB ord q.2)=ts at hlr ⊢;have mts:∀ q,q∈ts ↔ q∈zs∧Ready ord q.2:=fun q=>by rw [← ets,List.mem_filter,readyB_iff]
   by_cases c:ts=[]
   ·subst c;refine iteF ⟨_,rfl,k d ord kvs H2 hd hd2 hpl hgr (fun r hr z=>?_) hT2 hG⟩;obtain ⟨q,hq,rfl⟩:=List.mem_map.mp hr;have:=(mts q).mpr ⟨hq,z⟩;cases this
   ·have pos:0 < ts.length:=List.length_pos_iff.mpr c;rw [show (!(ts.map fun q=>V.ref q.1).isEmpty)=true by cases ts with | nil=>exact absurd rfl c | cons _ _=>rfl];refine iteT ?_
    refine ⟨fun σ' H'=>∃ m',m' < zs.length - ord.length∧∃ ord kvs lr x,m'=zs.length - ord.length∧σ'=[some (.ref l),some (.ref d),some (.ref lr),x]∧H' d=some (.dK kvs)∧Placed zs ord kvs∧Greedy (·∈zs.map (·.2)) ord ∧
     H' lr=some (.lst ((zs.filter fun q=>readyB ord q.2).map fun q=>V.ref q.1))∧TabOk H' Pt lamPos lamQ∧GrownBut Pt H H',fun _ _ h=>h,?_⟩
    refine ⟨_,rfl,lr,_,ts.map (·.2.name),rfl,SqL.of hlr,(by rw [Z0];exact pos),hT2,(by rw [Z0,Z0]),fun i v kx hi hk=>?_,fun i v kx H3 hi hk hbest hT3 hG3=>?_⟩
    ·rw [Z6] at hi hk;cases ep:ts[i]? with
     | none=>rw [ep] at hi;cases hi
     | some q =>
      rw [ep] at hi hk;cases hi;cases hk;obtain ⟨dx,lf,e⟩:=hk2 q ((mts q).mp (Z3 ep)).1;exact ⟨q.1,C,dx,_,rfl,e,KC.cl,KC.nN,zF5 _ _ _⟩
    ·rw [Z6] at hi hk;cases ep:ts[i]? with
     | none=>rw [ep] at hi;cases hi
     | some q =>
      rw [ep] at hi hk;cases hi;cases hk;obtain ⟨hq,hrd⟩:=(mts q).mp (Z3 ep);have hG3':=hG.trans hG3;have hk3:∀ q∈zs,∃ dx lf,H3 q.1=some (.ins C dx (kflds (.str q.2.name) (.ref lf) (ownV q.2.owner))):=fun q hq=>by
       obtain ⟨dx,lf,e⟩:=hz.at_ q hq;exact ⟨dx,lf,hG3' _ _ e (hT.ne e fun _ z=>nomatch z)⟩
      obtain ⟨dx,lf,e⟩:=hk3 q hq;have hd3:H3 d=some (.dK kvs):=hG3 _ _ hd2 (hT2.ne hd2 fun _ z=>nomatch z);have kl:kvs.length=ord.length:=(Paired.length hpl).symm;have ol:ord.length≤zs.length:=by have:=hgr.le;rwa [Z0] at this
      refine ⟨_,rfl,_,rfl,_,rfl,q.1,C,dx,_,_,rfl,e,KC.cl,KC.nN,zF5 _ _ _,d,_,rfl,DPut.k (k:=Sum.inr q.2.name) hd3 (Nat.lt_of_le_of_lt (Zo (Nat.le_of_eq kl) (Zo ol hz.le)) (small1000 (by decide))),?_⟩;have vn:(valV kvs (Sum.inr q.2.name)).isSome=false:=by rw [hpl.val];simpa using hrd.1
      rw [putK_new vn];have hpl':Placed zs (ord++[q.2.name]) (kvs++[(Sum.inr q.2.name,V.ref q.1)]):=zDv hpl ⟨q,hq,rfl,rfl⟩;have hgr':Greedy (·∈zs.map (·.2)) (ord++[q.2.name]):=hgr.snoc ⟨q.2,List.mem_map.mpr ⟨q,hq,rfl⟩,rfl,hrd⟩ fun r hr hrr=>by
       obtain ⟨q',hq',rfl⟩:=List.mem_map.mp hr;exact hbest _ (List.mem_map.mpr ⟨q',(mts q').mpr ⟨hq',hrr⟩,rfl⟩)
      have ol':(ord++[q.2.name]).length≤zs.length:=by have:=hgr'.le;rwa [Z0] at this
      have lt:zs.length - (ord++[q.2.name]).length < zs.length - ord.length:=by
       rw [Zc] at ol' ⊢;simp at ol' ⊢;omega
      generalize ord++[q.2.name]=ord' at hpl' hgr' lt;have hd4:(upd H3 d (.dK (kvs++[(Sum.inr q.2.name,V.ref q.1)]))) d=some (.dK (kvs++[(Sum.inr q.2.name,V.ref q.1)])):=zA1;have hT4:TabOk (upd H3 d (.dK (kvs++[(Sum.inr q.2.name,V.ref q.1)]))) Pt lamPos lamQ:=hT3.upd hd3 (fun _ z=>nomatch z) (fun _ z=>nomatch z);have hG4:GrownBut Pt H (upd H3 d (.dK (kvs++[(Sum.inr q.2.name,V.ref q.1)]))):=fun b o e n=>by
       rw [zA9 (zA7 e hd)];exact hG3' b o e n
      generalize upd H3 d (.dK (kvs++[(Sum.inr q.2.name,V.ref q.1)]))=H4 at hd4 hT4 hG4 ⊢;generalize kvs++[(Sum.inr q.2.name,V.ref q.1)]=kvs' at hd4 hpl';clear hk2 hk3;have hk4:∀ q∈zs,∃ dx lf,H4 q.1=some (.ins C dx (kflds (.str q.2.name) (.ref lf) (ownV q.2.owner))):=fun q hq=>by
       obtain ⟨dx,lf,e⟩:=hz.at_ q hq;exact ⟨dx,lf,hG4 _ _ e (hT.ne e fun _ z=>nomatch z)⟩
      have hl4:=hG4 _ _ hl (hT.ne hl fun _ z=>nomatch z);refine ⟨_,rfl,l,rfl,⟨_,SqL.of hl4⟩,zAe (xs:=zs.map fun q=>V.ref q.1) (fun i ys H'=>H4=H'∧ys=((zs.take i).filter (fun q=>readyB ord' q.2)).map fun q=>V.ref q.1) ⟨rfl,rfl⟩ (fun i ys H' p=>by rw [← p.1];exact SqL.of hl4) (fun i ys H' hi p=>?_) ?_ ?_⟩
      ·rw [p.2,Z0];exact small _ (Zo (flen _ i) (by decide))
      ·rintro i x ys H' hi ⟨rfl,rfl⟩ N hN;rw [Z6] at hi;cases ep:zs[i]? with
       | none=>rw [ep] at hi;cases hi
       | some q =>
        rw [ep] at hi;cases hi;obtain ⟨dx,lf,e⟩:=hk4 q (Z3 ep);have no:readyB ord' q.2=false→((zs.take i).filter (fun q=>readyB ord' q.2)).map (fun q=>V.ref q.1)=((zs.take (i + 1)).filter (fun q=>readyB ord' q.2)).map fun q=>V.ref q.1:=fun z=>by rw [zCf _ ep,if_neg (by rw [z];simp)]
        have ye:readyB ord' q.2=true→((zs.take i).filter (fun q=>readyB ord' q.2)).map (fun q=>V.ref q.1)++[V.ref q.1]=((zs.take (i + 1)).filter (fun q=>readyB ord' q.2)).map fun q=>V.ref q.1:=fun z=>by rw [zCf _ ep,if_pos z,Z2];rfl
        refine ⟨_,rfl,q.1,C,dx,_,_,rfl,e,KC.cl,KC.nN,zF5 _ _ _,_,rfl,d,_,rfl,DGet.k (k:=Sum.inr q.2.name) hd4,_,rfl,?_⟩;rw [hpl'.val];by_cases c1:q.2.name∈ord'
        ·rw [decide_eq_true c1];refine iteF (iteF (hN _ _ ⟨rfl,no ?_⟩));simp [readyB,c1]
        ·rw [decide_eq_false c1];refine iteT ⟨_,rfl,q.1,C,dx,_,_,rfl,e,KC.cl,KC.nO,zD7 _ _ _,_,rfl,?_⟩;cases eo:q.2.owner with
         | none =>
          refine iteT (iteT ⟨_,rfl,hN _ _ ⟨rfl,ye ?_⟩⟩);simp [readyB,c1,eo]
         | some o =>
          have ev:(kflds (.str q.2.name) (.ref lf) (ownV q.2.owner)).lookup ("owner" : Str)=some (.str o):=by rw [zD7,eo];rfl
          refine iteF ⟨_,rfl,q.1,C,dx,_,_,rfl,e,KC.cl,KC.nO,ev,_,rfl,d,_,rfl,DGet.k (k:=Sum.inr o) hd4,_,rfl,?_⟩;rw [hpl'.val];by_cases c2:o∈ord'
          ·rw [decide_eq_true c2];refine iteT ⟨_,rfl,hN _ _ ⟨rfl,ye ?_⟩⟩;simp [readyB,c1,eo,c2]
          ·rw [decide_eq_false c2];refine iteF (hN _ _ ⟨rfl,no ?_⟩);simp [readyB,c1,eo,c2]
      ·rintro ys H' ⟨rfl,rfl⟩ lr' hlr';rw [Z0,Za];exact ⟨_,lt,ord',kvs',lr',_,rfl,rfl,(Same.new hlr') _ _ hd4,hpl',hgr',zA1,hT4.same (Same.new hlr'),hG4.trans (.same (Same.new hlr'))⟩
end
end L2.W
namespace L2.W
open PySem My
theorem call_len_dict {X:Cx}:CallR X (.builtin "len") (fun vs H Q=>∃ d kvs,vs=[.ref d]∧Rd H d (.dK kvs)∧Q (.int (kvs.length:Nat)) H):=by
 intro pins s σ H vs us Q I rv h;obtain ⟨d,kvs,rfl,rd,q⟩:=h;obtain ⟨u,rfl,ru⟩:=v1 rv;cases (show u=Value.ref d from ru);exact d_len I rd fun t s' I'=>⟨.int _,H,I',⟨t,rfl⟩,q⟩
structure KsCls (K:PySem.W.Frag) (mg:Str→Option Value) (CK fI fOr fOf fOw:Addr):Prop where
 cl:Cls K CK
 nB:NoAttr K CK "by_name"
 mgC:mg "Kinds" = some (.ref CK)
 mkd:Mk K CK fI
 mOf:Meth K CK "of" fOf
noncomputable def ksF (d:V):List (Str×V):=putF "by_name" d []
theorem ks_by (d:V):(ksF d).lookup ("by_name" : Str)=some d:=by
 unfold ksF;rw [zA8,if_pos rfl]
theorem ks_no {m:Str} (d:V) (h:¬ m = "by_name"):(ksF d).lookup m=none:=by
 unfold ksF;rw [zA8,if_neg h];rfl
noncomputable def KindsAt (CK:Addr) (H:Hp) (p d:Addr) (kvs:List (Key×V)):Prop:=(∃ dx,H p=some (.ins CK dx (ksF (.ref d))))∧Rd H d (.dK kvs)
theorem KindsAt.mono {CK:Addr}{H H':Hp}{p d:Addr}{kvs:List (Key×V)} (h:KindsAt CK H p d kvs) (k:∀ b o,H b=some o→(∃ C dx fs,o=.ins C dx fs)∨(∃ kvs,o=.dK kvs)∨(∃ x u,o=.frz x u)→H' b=some o):KindsAt CK H' p d kvs:=by
 obtain ⟨⟨dx,e⟩,r⟩:=h;refine ⟨⟨dx,k _ _ e (.inl ⟨_,_,_,rfl⟩)⟩,?_⟩;rcases r with r | ⟨o,r⟩
 ·exact .inl (k _ _ r (.inr (.inl ⟨_,rfl⟩)))
 ·exact .inr ⟨o,k _ _ r (.inr (.inr ⟨_,_,rfl⟩))⟩
noncomputable def spInitKs (CK C Pt:Addr):Sp:=fun vs H Q _=>∃ (p dx l:Addr) (zs:List (Addr×Row)),vs=[.ref p,.ref l]∧H p=some (.ins CK dx [])∧H l=some (.lst (zs.map fun q=>V.ref q.1))∧Zs C H zs∧RowsP (zs.map (·.2))∧TabOk H Pt lamPos lamQ ∧
 ∀ (d:Addr) (ord:List Str) (kvs:List (Key×V)) (H':Hp),H' p=some (.ins CK dx (ksF (.ref d)))→H d=none→H' d=some (.dK kvs)→Placed zs ord kvs→Greedy (·∈zs.map (·.2)) ord→ord.length=zs.length→TabOk H' Pt lamPos lamQ →
  (∀ b o,H b=some o→b≠p→b≠Pt→H' b=some o)→Q .non H'
noncomputable def spOf (CK:Addr):Sp:=fun vs H Q _=>∃ (p d:Addr) (kvs:List (Key×V)) (n:Str) (v:V),vs=[.ref p,.str n]∧nameOk n∧KindsAt CK H p d kvs∧valV kvs (Sum.inr n)=some v∧∀ H',Same H H'→Q v H'
section
variable {P:Program}{w:World}{K:PySem.W.Frag}{mg:Str→Option Value}{base:Heap}{CX:CXT}
theorem scKs:FnScope ["self", "kinds", "placed"] ["self", "kinds"] (defScope sInitKs):=⟨rfl,rfl,rfl,by decide +kernel,rfl,by decide +kernel,by decide +kernel⟩
theorem ok_initKs {f fI fa fp fu fn C CK fIk fOr fOf fOw c Pt:Addr}{fd fda fdp fdu fdn:FuncData} (hC:Calm CX) (T:Tops K mg) (KC:KCls K mg C fI) (KI:KIsi K C) (KS:KsCls K mg CK fIk fOr fOf fOw) (LT:LamTxt K mg base c Pt) (F:Fun K "__init__" "Kinds.__init__" sInitKs f fd)
  (DN:Def K mg "is_name" sIsName ["thing"] fn fdn) (DU:Def K mg "are_unlike_names" sUnlike ["things"] fu fdu) (DA:Def K mg "are_kinds" sAreKinds ["things"] fa fda) (DP:FunL K "placed_by_owners" "placed_by_owners" sPlaced fp fdp c) (DPa:mg "placed_by_owners" = some (.ref fp)) (DPb:Binds K fdp ["kinds"] []) :
  FnOk P w K mg base CX 5 f fd ["self", "kinds"] (spInitKs CK C Pt):=by
 have GA:FnOk P w K mg base CX 3 fa fda ["things"] (spAreKinds C):=ok_areKinds hC T KC KI DA.fn DN DU;have GP:FnOk P w K mg base CX 4 fp fdp ["kinds"] (spPlaced C Pt):=ok_placed hC T KC LT DP;refine Fun.okC F scKs (fun vs H Q E h=>?_) (fun cdv A outer s H vs Q E hr h=>?_)
 ·obtain ⟨p,dx,l,zs,rfl,_⟩:=h;rfl
 ·obtain ⟨p,dx,l,zs,rfl,hp,hl,hz,rp,hT,k⟩:=h;have nd:=scKs.nd;have hr3:=hr.mono (show 3≤4 by decide)
  refine ⟨_,zA3 (zAq (zAu (zAl (zA6 GA hr3 rfl DA.at_ DA.fn.kp DA.bind .nil (passC hC) (zA0 (pv 1) zA2)))) zAo zAb)
   (zA3 (zAk (i:=2) nd rfl (Or.inl rfl) (zA6 GP hr rfl DPa DP.kp DPb .nil (passC hC) (zA0 (pv 1) zA2)))
   (zA3 (zAq (zAg op_lt (zAa call_len_dict rfl T.len PySem.boot_len (zA0 (pv 2) zA2)) (zAa zAp rfl T.len PySem.boot_len (zA0 (pv 1) zA2)) (nomark _)) zAo zAb)
   (zA5 (zB9 (pv 0) (pv 2) rfl)))),?_⟩
  have kl:KL C H (zs.map (·.1)) (zs.map (·.2)):=by
   have:=hz.at_;clear hl hz rp k
   induction zs with
   | nil=>exact .nil
   | cons q t ih=>exact .cons (this q Zg) (ih fun q' h=>this q' (Zb _ h))
  refine ⟨_,rfl,l,zs.map (·.1),zs.map (·.2),rfl,(by rw [Y0];exact hl),kl,rp,fun H1 s1=>⟨_,rfl,iteF ?_⟩⟩;refine ⟨_,rfl,l,zs,rfl,s1 _ _ hl,hz.mono fun b o e _=>s1 _ _ e,hT.same s1,fun d ord kvs H2 hd hd2 hpl hgr hno hT2 hG=>?_⟩;have nT:∀ {b:Addr}{o:HO},H b=some o→(∀ ps,o≠.tbl ps)→H2 b=some o:=fun e h=>hG _ _ (s1 _ _ e) (hT.ne e h);have full:ord.length=zs.length:=by
   have a:=hgr.le;rw [Z0] at a;refine Nat.le_antisymm a (Nat.le_of_not_lt fun lt=>?_);obtain ⟨r,hr,q⟩:=rp.progress (ord:=ord) (by rw [Z0];exact lt);exact hno r hr q
  have hp2:=nT hp fun _ z=>nomatch z;have hl2:=nT hl fun _ z=>nomatch z;refine ⟨_,rfl,d,kvs,rfl,.inl hd2,_,rfl,l,_,rfl,.inl (SqL.of hl2),_,_,rfl,rfl,_,rfl,?_⟩;have kvl:kvs.length=ord.length:=(Paired.length hpl).symm;refine ite2 (fun h=>absurd (of_decide_eq_true h) (by rw [Z0];omega)) (fun _=>?_);refine ⟨_,rfl,_,rfl,p,CK,dx,[],rfl,hp2,KS.cl,KS.nB,(by show 0 < 1000;decide),?_⟩;have dp:d≠p:=Ne.symm (zA7 (s1 _ _ hp) hd);refine k d ord kvs _ zA1 ?_ (by rw [zA9 dp];exact hd2) hpl hgr full (hT2.upd hp2 (fun _ z=>nomatch z) (fun _ z=>nomatch z)) fun b o e n1 n2=>?_
  ·exact s1.free hd
  ·rw [zA9 n1];exact hG _ _ (s1 _ _ e) n2
theorem scOf:FnScope ["self", "name"] ["self", "name"] (defScope sOf):=⟨rfl,rfl,rfl,by decide +kernel,rfl,by decide +kernel,by decide +kernel⟩
theorem rd_same {H H':Hp}{d:Addr}{u:HO} (s:Same H H') (r:Rd H d u):Rd H' d u:=by
 rcases r with r | ⟨o,r⟩
 ·exact .inl (s _ _ r)
 ·exact .inr ⟨o,s _ _ r⟩
theorem ok_of {f fn CK fIk fOr fOf fOw:Addr}{fd fdn:FuncData} (hC:Calm CX) (T:Tops K mg) (KS:KsCls K mg CK fIk fOr fOf fOw) (F:Fun K "of" "Kinds.of" sOf f fd) (DN:Def K mg "is_name" sIsName ["thing"] fn fdn):FnOk P w K mg base CX 2 f fd ["self", "name"] (spOf CK):=by
 have GN:FnOk P w K mg base CX 1 fn fdn ["thing"] spNameD:=zCe DN.fn T;refine Fun.okC F scOf (fun vs H Q E h=>?_) (fun cdv A outer s H vs Q E hr h=>?_)
 ·obtain ⟨p,d,kvs,n,v,rfl,_⟩:=h;rfl
 ·obtain ⟨p,d,kvs,n,v,rfl,nn,⟨⟨dx,hp⟩,rd⟩,hv,k⟩:=h;have hu:=hu_of hr
  refine ⟨_,zA3 (zAq (PW.pt (zC0 (zAu (zAl (zA6 GN hr rfl DN.at_ DN.fn.kp DN.bind .nil (passC hC) (zA0 (pv 1) zA2)))) (zBd (zCh (zD6 hu (pv 1) (zB2 (pv 0) rfl)))))) zAo zAb)
   (zA5 (zAc (pe_dget hu (zB2 (pv 0) rfl) (pv 1) (fun _ _=>rfl)))),?_⟩
  refine ⟨_,rfl,_,.str n,rfl,.str n (Zo nn.2.2 (by decide)) nn.2.1,fun H1 s1=>⟨_,rfl,?_⟩⟩;rw [show nameD (.str n)=true from nn.1];refine iteF ⟨_,rfl,_,rfl,p,CK,dx,_,_,rfl,s1 _ _ hp,KS.cl,KS.nB,ks_by _,d,_,rfl,.inl ⟨kvs,Sum.inr n,rd_same s1 rd,rfl,rfl⟩,_,rfl,?_⟩;rw [hv];refine iteF ?_;exact ⟨_,rfl,p,CK,dx,_,_,rfl,s1 _ _ hp,KS.cl,KS.nB,ks_by _,_,rfl,d,v,rfl,.inl ⟨kvs,Sum.inr n,rd_same s1 rd,rfl,hv.symm⟩,k _ s1⟩
end
end L2.W
namespace L2.W
open PySem My
noncomputable def ownD:Option Str→PyData
 | none=>.none
 | some o=>.str o
noncomputable def rowD (r:Row):PyData:=.tuple [.str r.name,.list (r.fields.map fieldD),ownD r.owner]
structure RowsI (rs:List Row):Prop where
 ok:∀ r∈rs,nameOk r.name∧FieldsOk r.fields
 own:∀ (i:Nat) (r:Row) (o:Str),rs[i]? = some r→r.owner=some o→∃ (j:Nat) (r':Row),j < i∧rs[j]? = some r'∧r'.name=o
theorem RowsI.snoc {rs:List Row} (h:RowsI rs) {r:Row} (h1:nameOk r.name∧FieldsOk r.fields) (h2:∀ o,r.owner=some o→∃ (j:Nat) (r':Row),rs[j]? = some r'∧r'.name=o):RowsI (rs++[r]):=by
 refine ⟨fun q hq=>?_,fun i q o e eo=>?_⟩
 ·rcases List.mem_append.mp hq with hq | hq
  ·exact h.ok q hq
  ·rw [List.mem_singleton.mp hq];exact h1
 ·by_cases lt:i < rs.length
  ·rw [Zn lt] at e;obtain ⟨j,r',hj,e1,e2⟩:=h.own i q o e eo;exact ⟨j,r',hj,by rw [Zn (by omega)];exact e1,e2⟩
  ·have hi:i=rs.length:=by
    have:=(List.getElem?_eq_some_iff.mp e).1;simp at this;omega
   subst hi;have:r=q:=by simpa using e
   subst this;obtain ⟨j,r',e1,e2⟩:=h2 o eo;have hj:=(List.getElem?_eq_some_iff.mp e1).1;exact ⟨j,r',hj,by rw [Zn hj];exact e1,e2⟩
theorem zF1 {G:Addr→Prop}{H:Hp}{o:Option Str} (h:∀ x,o=some x→nameOk x):Has G H (ownV o) (ownD o):=by
 cases o with
 | none=>exact .non
 | some x =>
  have:=h x rfl;exact .str x (Zo this.2.2 (by decide)) this.2.1
end L2.W
namespace L2.W
open PySem My
theorem zC5 {G:Addr→Prop}{H:Hp}{v:V}{f:Str×List Str} (h:Has G H v (fieldD f)):∃ a l,v=.ref a∧H a=some (.tup [.str f.1,.ref l])∧H l=some (.lst (f.2.map V.str)):=by
 obtain ⟨a,xs,rfl,_,ha,_,hx⟩:=h.tup_inv;cases hx with
 | cons h1 hx =>
  cases hx with
  | cons h2 hx =>
   cases hx;obtain ⟨rfl,_⟩:=h1.str_inv;obtain ⟨l,ys,rfl,_,hl,_,hy⟩:=h2.list_inv;refine ⟨a,l,rfl,ha,?_⟩;rw [hl]
   congr 2
   clear hl h2 ha h;generalize f.2=vs at hy
   induction vs generalizing ys with
   | nil=>cases hy;rfl
   | cons x r ih =>
    cases hy with
    | cons q t =>
     obtain ⟨rfl,_⟩:=q.str_inv;rw [Zq,ih _ (by simp at *;omega) t]
theorem zCw {G:Addr→Prop}{H:Hp}{v:V}{r:Row} (h:Has G H v (rowD r)):∃ t lf,v=.ref t∧H t=some (.tup [.str r.name,.ref lf,ownV r.owner])∧Has G H (.ref lf) (.list (r.fields.map fieldD)):=by
 obtain ⟨t,xs,rfl,g,e,_,hx⟩:=h.tup_inv;cases hx with
 | cons h1 h2 =>
  cases h2 with
  | cons h3 h4 =>
   cases h4 with
   | @cons x _ _ _ h5 h6 =>
    cases h6;obtain ⟨rfl,_⟩:=h1.str_inv;obtain ⟨lf,ys,rfl,_⟩:=id h3.list_inv;have eo:x=ownV r.owner:=by
     cases er:r.owner with
     | none=>rw [er] at h5;cases h5;rfl
     | some o=>rw [er] at h5;exact h5.str_inv.1
    subst eo;exact ⟨t,lf,rfl,e,h3⟩
theorem init_ownF {C x dx:Addr}{H:Hp}{r:Row}{vf:V}{Q:VK}{E:XK} (hx:H x=none) (hdx:H dx=none) (ne:dx≠x) (hn:nameOk r.name) (hf:Has Any H vf (.list (r.fields.map fieldD))) (ok:FieldsOk r.fields) (ho:∀ o,r.owner=some o→nameOk o∧o≠r.name)
  (k:∀ H' l,Same H H'→H' x=some (.ins C dx (kflds (.str r.name) (.ref l) (ownV r.owner)))→Has (fun a=>H a=none) H' (.ref l) (.list (r.fields.map fieldD))→Q .non H') :
  spInit C (.ref x :: ([.str r.name,vf,ownV r.owner]++[])) (upd (upd H dx (.own x)) x (.ins C dx [])) Q E:=by
 have hx2:(upd H dx (.own x)) x=none:=by rw [zA9 ne.symm];exact hx
 have s:Same H (upd (upd H dx (.own x)) x (.ins C dx [])):=(Same.new hdx).trans (Same.new hx2);refine ⟨x,dx,vf,ownV r.owner,r.name,_,ownD r.owner,rfl,zA1,by have:=hn.2.2;omega,hn.2.1,hn.1,hf.mono s,(fields_ok ok).1,zF1 fun o e=>(ho o e).1,?_,(fields_ok ok).2,fun H' l hp hl fr=>k H' l (fun b o e=>fr b o (s _ _ e) (zA7 e hx)) hp (hl.frame fun b o g e=>⟨s.free g,e⟩)⟩;cases eo:r.owner with
 | none=>rfl
 | some o =>
  obtain ⟨h1,h2⟩:=ho o eo;show (nameB o && !decide (o=r.name))=true;rw [h1.1,decide_eq_false h2];rfl
noncomputable def KF (C:Addr) (G:Addr→Prop) (H:Hp) (p:Addr) (r:Row):Prop:=∃ dx l,H p=some (.ins C dx (kflds (.str r.name) (.ref l) (ownV r.owner)))∧Has G H (.ref l) (.list (r.fields.map fieldD))
theorem KF.o {C:Addr}{G:Addr→Prop}{H:Hp}{p:Addr}{r:Row} (h:KF C G H p r):KindO C H p r:=let ⟨dx,l,e,_⟩:=h;⟨dx,l,e⟩
theorem KF.frame {C:Addr}{G G':Addr→Prop}{H H':Hp}{p:Addr}{r:Row} (h:KF C G H p r) (h1:∀ b o,H b=some o→(∃ C dx fs,o=.ins C dx fs)→H' b=some o) (h2:∀ b o,G b→isSeq o→H b=some o→G' b∧H' b=some o):KF C G' H' p r :=
 let ⟨dx,l,e,d⟩:=h
 ⟨dx,l,h1 _ _ e ⟨_,_,_,rfl⟩,d.frameS h2⟩
theorem RowsP.owner {rs:List Row} (h:RowsP rs) {r:Row}{o:Str} (hr:r∈rs) (e:r.owner=some o):nameOk o∧o≠r.name:=by
 obtain ⟨r0,ok,p⟩:=h;obtain ⟨a,b,_⟩:=ok.owner (p.mem_iff.mp hr) e;exact ⟨a,b⟩
noncomputable def spMade (CK C Pt:Addr):Sp:=fun vs H Q _=>∃ (l:Addr) (rs:List Row),vs=[.ref l]∧Has Any H (.ref l) (.list (rs.map rowD))∧RowsP rs∧TabOk H Pt lamPos lamQ ∧
 ∀ (q d:Addr) (ord:List Str) (kvs:List (Key×V)) (zs:List (Addr×Row)) (H':Hp),KindsAt CK H' q d kvs→H q=none→H d=none→Zs C H' zs→(∀ q∈zs,KF C (fun a=>H a=none) H' q.1 q.2)→zs.map (·.2)=rs→Placed zs ord kvs→Greedy (·∈rs) ord→ord.length=rs.length→TabOk H' Pt lamPos lamQ→GrownBut Pt H H'→Q (.ref q) H'
section
variable {P:Program}{w:World}{K:PySem.W.Frag}{mg:Str→Option Value}{base:Heap}{CX:CXT}
theorem scMa:FnScope ["_law_spec", "_law_some", "_law_name", "_law_fields_here", "_law_owner_here"] ["_law_spec"] (defScope sMade):=⟨rfl,rfl,rfl,by decide +kernel,rfl,by decide +kernel,by decide +kernel⟩
theorem ok_made {f C fI CK fIk fOr fOf fOw Pt:Addr}{fd fdI fdk:FuncData} (hC:Calm CX) (T:Tops K mg) (KC:KCls K mg C fI) (KS:KsCls K mg CK fIk fOr fOf fOw) (GK:FnOk P w K mg base CX 5 fI fdI ["self", "name", "fields", "owner"] (spInit C)) (bK:Binds K fdI ["self", "name", "fields", "owner"] [])
  (GS:FnOk P w K mg base CX 5 fIk fdk ["self", "kinds"] (spInitKs CK C Pt)) (bS:Binds K fdk ["self", "kinds"] []) (F:Fun K "_law_made" "_law_made" sMade f fd):FnOk P w K mg base CX 7 f fd ["_law_spec"] (spMade CK C Pt):=by
 refine Fun.okC F scMa (fun vs H Q E h=>?_) (fun cdv A outer s H vs Q E hr h=>?_)
 ·obtain ⟨l,rs,rfl,_⟩:=h;rfl
 ·obtain ⟨l,rs,rfl,hl,rp,hT,q⟩:=h;have nd:=scMa.nd
  refine ⟨_,zA3 (zAk (i:=1) nd rfl (Or.inl rfl) (zAm zA2))
   (zA3 (zCv PassesOwn.never rfl (zAj (pv 0)) (zDt rfl (zAw (zAd (i:=2) nd rfl (Or.inl rfl)) (zAw (zAd (i:=3) nd rfl (Or.inl rfl)) (zAw (zAd (i:=4) nd rfl (Or.inl rfl)) zC1))))
    (zA5 (zBn (pe_bm PySem.F.plainAttrs_list PySem.F.slot_list_append PySem.F.type_list_append zCl (pv 1) (zA0 (zBg KC.mkd GK hr rfl KC.mgC bK .nil (passC hC) (zA0 (pv 2) (zA0
     (zAt (T:=["_law_field", "_law_values"]) rfl ScOk.auto (zAj (pv 3)) (fun _ _ _ _=>zDe (K:=K) (n:=2) rfl rfl (zAw (zAd (i:=5) (by decide +kernel:(["_law_spec", "_law_some", "_law_name", "_law_fields_here", "_law_owner_here", "_law_field", "_law_values"]:List Str).Nodup) rfl (Or.inl rfl)) (zAw (zAd (i:=6) (by decide +kernel:(["_law_spec", "_law_some", "_law_name", "_law_fields_here", "_law_owner_here", "_law_field", "_law_values"]:List Str).Nodup) rfl (Or.inl rfl)) zC1))) (fun _ _ _ _=>zAy)
      (fun _ _ _ _=>zB8 (zA0 (pv 5) (zA0 (zAn (r:=fun xs H Q=>∃ p ys,xs=[.ref p]∧(SqL K H p ys∨SqT K H p ys)∧∀ l,H l=none→Q (.ref l) (upd H l (.lst ys))) zAz rfl T.list PyProof.Rows.boot_list (zA0 (pv 6) zA2)) zA2))))
     (zA0 (pv 4) zA2)))) zA2)))))
   (zA5 (zAc (zBg KS.mkd GS hr rfl KS.mgC bS .nil (passC hC) (zA0 (pv 1) zA2))))),?_⟩
  have small:∀ n:Nat,n≤1000→n≤sizeLine:=fun n h=>Zi (small1000 h);obtain ⟨l',xs,e,_,hl1,hz,hx⟩:=hl.list_inv;cases e;have xl:xs.length=rs.length:=by rw [hx.length,Z0]
  obtain ⟨r0,r5⟩:=rp.le;refine ⟨Zm _,fun lg fg=>?_⟩
  refine ⟨_,rfl,l,rfl,⟨_,SqL.of ((Same.new fg) _ _ hl1)⟩,zDo (K:=K) (a:=l) (xs:=xs) (fun i σ H2=>∃ (zs:List (Addr×Row)) (x2 x3 x4:Option V),σ = [some (.ref l),some (.ref lg),x2,x3,x4]∧H2 lg=some (.lst (zs.map fun q=>V.ref q.1))∧zs.map (·.2)=rs.take i∧(∀ q∈zs,KF C (fun a=>H a=none∧a≠lg) H2 q.1 q.2)∧Same H H2)
   ⟨[],none,none,none,rfl,zA1,rfl,(fun q h=>nomatch h),Same.new fg⟩ (fun i σ H2 _ ⟨_,_,_,_,_,_,_,_,s2⟩=>SqL.of (s2 _ _ hl1)) ?_ ?_⟩
  ·rintro i x σ H2 hi ⟨zs,x2,x3,x4,rfl,hg2,hzs,hk2,s2⟩;obtain ⟨dd,hdd,hv⟩:=hx.get hi;rw [Z6] at hdd;cases er:rs[i]? with
   | none=>rw [er] at hdd;cases hdd
   | some r =>
    rw [er] at hdd;cases hdd;have mr:=Z3 er;obtain ⟨onm,ofs⟩:=rp.ok r mr;obtain ⟨t,lf,rfl,ht,hf⟩:=zCw hv;have hf2:=hf.mono s2;obtain ⟨lf',fs,e,_,hlf,hlz,hfx⟩:=hf2.list_inv;cases e;have zl:zs.length≤i:=by
     have:=congrArg List.length hzs;rw [Z0,Zl] at this;omega
    have il:i < rs.length:=(List.getElem?_eq_some_iff.mp er).1;refine ⟨t,_,rfl,SqT.of (s2 _ _ ht),rfl,_,_,rfl,_,_,rfl,_,_,rfl,rfl,?_⟩;refine ⟨_,rfl,.inl ⟨rfl,_,SqL.of hg2⟩,_,rfl,_,rfl,lf,rfl,⟨_,SqL.of hlf⟩,zAe (xs:=fs) (fun j ys H'=>Same H2 H'∧HasAll Any H' ys ((r.fields.take j).map fieldD)) ⟨Same.refl _,.nil⟩ (fun j ys H' z=>SqL.of (z.1 _ _ hlf)) (fun j ys H' hj z=>?_) ?_ ?_⟩
    ·have:=z.2.length;rw [Z0] at this;have:=Zu j r.fields;have:=ofs.le;exact small _ (by omega)
    ·rintro j y ys H' hj ⟨s6,hy⟩ N hN;obtain ⟨d,hd,hv⟩:=hfx.get hj;rw [Z6] at hd;cases ef:r.fields[j]? with
     | none=>rw [ef] at hd;cases hd
     | some f =>
      rw [ef] at hd;cases hd;obtain ⟨b,lv,rfl,hb,hlv⟩:=zC5 hv;refine pickT (SqT.of (s6 _ _ hb)) ?_;obtain ⟨okn,okv⟩:=ofs.ok f (Z3 ef);refine ⟨_,rfl,_,rfl,lv,_,rfl,.inl (SqL.of (s6 _ _ hlv)),fun l3 hl3=>⟨by show 2≤sizeLine;exact small 2 (by decide),fun t ht=>hN _ _ ⟨(s6.trans (Same.new hl3)).trans (Same.new ht),?_⟩⟩⟩;rw [Z4,ef,Z2];refine HasAll.snoc (hy.mono ((Same.new hl3).trans (Same.new ht))) (.tup trivial zA1 (by show 2≤1000;decide) (.cons (.str _ (by have:=okn.2.2;omega) okn.2.1) (.cons (.lst trivial ((Same.new ht) _ _ zA1) ?_ (zBu okv.ok)) .nil)));rw [Z0];have:=okv.le;omega
    ·rintro ys H' ⟨s6,hy⟩ ln hln;have ex:fs.length=r.fields.length:=by rw [hfx.length,Z0]
     rw [ex,Za] at hy;have s7:Same H2 (upd H' ln (.lst ys)):=s6.trans (Same.new hln);have hf7:Has Any (upd H' ln (.lst ys)) (.ref ln) (.list (r.fields.map fieldD)):=.lst trivial zA1 (by rw [hy.length,Z0];have:=ofs.le;omega) (hy.mono (Same.new hln));generalize upd H' ln (.lst ys)=H7 at s7 hf7 ⊢;refine ⟨_,rfl,?_⟩;intro x dx hx' hdx hne;refine init_ownF hx' hdx hne onm hf7 ofs (fun o e=>rp.owner mr e) fun H8 lf8 s8 e8 d8=>⟨rfl,?_⟩;have s28:=s7.trans s8;have hg8:=s28 _ _ hg2;refine ⟨lg,_,_,rfl,rfl,hg8,by rw [Z0];exact small1000 (by omega),?_⟩;have kk:∀ {p:Addr}{r:Row},KF C (fun a=>H a=none∧a≠lg) H8 p r→KF C (fun a=>H a=none∧a≠lg) (upd H8 lg (.lst ((zs.map fun q=>V.ref q.1)++[V.ref x]))) p r:=fun h=>h.frame (fun b o e ⟨_,_,_,eo⟩=>by rw [zA9 (ne_of e hg8 (by rw [eo];exact fun z=>nomatch z))];exact e) fun b o g _ e=>⟨g,by rw [zA9 g.2];exact e⟩;have kd8:KF C (fun a=>H a=none∧a≠lg) H8 x r:=⟨dx,lf8,e8,d8.frame fun b o g e=>⟨⟨(s2.trans s7).free g,fun z=>(by rw [z,s7 _ _ hg2] at g;cases g)⟩,e⟩⟩;refine ⟨zs++[(x,r)],_,_,_,rfl,by rw [zA1,Z2];rfl,by rw [Z2,hzs,Z4,er];rfl,fun q hq=>?_,fun b o e=>?_⟩
     ·rcases List.mem_append.mp hq with hq | hq
      ·exact kk ((hk2 q hq).frame (fun b o e _=>s28 _ _ e) fun b o g _ e=>⟨g,s28 _ _ e⟩)
      ·rw [List.mem_singleton.mp hq];exact kk kd8
     ·rw [zA9 (zA7 e fg)];exact s28 _ _ (s2 _ _ e)
  ·rintro σ H2 ⟨zs,x2,x3,x4,rfl,hg2,hzs,hk2,s2⟩;rw [xl,Za] at hzs;have zl:zs.length=rs.length:=by rw [← hzs,Z0]
   refine ⟨_,rfl,?_⟩;intro x dx hx' hdx hne;have hx2:(upd H2 dx (.own x)) x=none:=by rw [zA9 hne.symm];exact hx'
   have s3:Same H2 (upd (upd H2 dx (.own x)) x (.ins CK dx [])):=(Same.new hdx).trans (Same.new hx2);refine ⟨x,dx,lg,zs,rfl,zA1,s3 _ _ hg2,⟨fun q hq=>(hk2 q hq).o.mono fun b o e _=>s3 _ _ e,?_,by omega⟩,by rw [hzs];exact rp,(hT.same s2).same s3,fun d ord kvs H' hp' hd' hd2 hpl hgr hlen hT' fr=>⟨rfl,?_⟩⟩
   ·have:=rp.nd;rw [← hzs,Y0] at this;exact this
   ·have fr2:∀ b o,H2 b=some o→b≠Pt→H' b=some o:=fun b o e nb=>fr b o (s3 _ _ e) (zA7 e hx') nb;have hT2:=hT.same s2;rw [hzs] at hgr;refine q x d ord kvs zs H' ⟨⟨dx,hp'⟩,.inl hd2⟩ (s2.free hx') (s2.free (s3.free hd')) ⟨fun q hq=>?_,?_,by omega⟩ (fun q hq=>(hk2 q hq).frame (fun b o e ⟨_,_,_,eo⟩=>fr2 _ _ e (hT2.ne e (by rw [eo];exact fun _ z=>nomatch z))) fun b o g hs e=>⟨g.1,fr2 _ _ e (hT2.ne e (by rintro ps rfl;exact hs))⟩) hzs hpl hgr (by omega) hT' fun b o e nb=>fr2 b o (s2 _ _ e) nb
    ·obtain ⟨dx',l',e⟩:=(hk2 q hq).o;exact ⟨dx',l',fr2 _ _ e (hT2.ne e fun _ z=>nomatch z)⟩
    ·have:=rp.nd;rw [← hzs,Y0] at this;exact this
end
end L2.W
namespace L2.W
open PySem My
noncomputable def atOk (a:Option Str):Prop:=∀ x,a=some x→nameOk x
theorem at_has {G:Addr→Prop}{H:Hp}{a:Option Str} (h:atOk a):Has G H (ownV a) (ownD a):=zF1 h
theorem atoms_has {G:Addr→Prop}{H:Hp}:∀ {ks:List (Option Str)},(∀ x∈ks,atOk x)→HasAll G H (ks.map ownV) (ks.map ownD)
 | [],_=>.nil
 | k :: r,h=>.cons (at_has (h k Zg)) (atoms_has fun x hx=>h x (Zb _ hx))
theorem at_inv {G:Addr→Prop}{H:Hp}{x:V}{a:Option Str} (h:Has G H x (ownD a)):x=ownV a:=by
 cases a with
 | none=>cases h;rfl
 | some s=>exact h.str_inv.1
noncomputable def stepA (acc:List (List (Option Str))) (vs:List (Option Str)):List (List (Option Str)):=acc.flatMap fun st=>vs.map fun v=>st++[v]
noncomputable def allA (fs:List (List (Option Str))):List (List (Option Str)):=fs.foldl (fun acc f=>stepA acc f) [[]]
noncomputable def tupA (st:List (Option Str)):PyData:=.tuple (st.map ownD)
noncomputable def manyA (fs:List (List (Option Str))):Nat:=fs.foldl (fun m f=>m * f.length) 1
theorem stepA_len (acc:List (List (Option Str))) (vs:List (Option Str)):(stepA acc vs).length=acc.length * vs.length:=by
 unfold stepA
 induction acc with
 | nil=>simp
 | cons a r ih=>rw [List.flatMap_cons,Zc,ih,Z0,Zj,Nat.succ_mul,Nat.add_comm]
theorem allA_snoc (fs:List (List (Option Str))) (f:List (Option Str)):allA (fs++[f])=stepA (allA fs) f:=by
 unfold allA;rw [List.foldl_append];rfl
theorem manyA_snoc (fs:List (List (Option Str))) (f:List (Option Str)):manyA (fs++[f])=manyA fs * f.length:=by
 unfold manyA;rw [List.foldl_append];rfl
theorem zFf (fs:List (List (Option Str))):(allA fs).length=manyA fs:=by
 suffices h:∀ (n:Nat),(allA (fs.take n)).length=manyA (fs.take n) by
  have:=h fs.length
  rwa [Za] at this
 intro n
 induction n with
 | zero=>rfl
 | succ n ih =>
  cases e:fs[n]? with
  | none=>rw [Z4,e];simpa using ih
  | some f =>
   have e2:fs.take (n + 1)=fs.take n++[f]:=by rw [Z4,e];rfl
   rw [e2,allA_snoc,manyA_snoc,stepA_len,ih]
theorem tupA_has {G:Addr→Prop}{H:Hp}{a:Addr}{st:List (Option Str)} (g:G a) (h:H a=some (.tup (st.map ownV))) (hl:st.length≤1000) (ok:∀ x∈st,atOk x):Has G H (.ref a) (tupA st) :=
 .tup g h (by rw [Z0];exact hl) (atoms_has ok)
theorem atoms_inv {G:Addr→Prop}{H:Hp}:∀ {xs:List V}{ks:List (Option Str)},HasAll G H xs (ks.map ownD)→xs=ks.map ownV
 | _,[],.nil=>rfl
 | _,k :: r,.cons h t=>by rw [Zq,atoms_inv t,at_inv h]
theorem tupA_inv {G:Addr→Prop}{H:Hp}{v:V}{st:List (Option Str)} (h:Has G H v (tupA st)):∃ a,v=.ref a∧G a∧H a=some (.tup (st.map ownV)):=by
 obtain ⟨a,xs,rfl,g,ha,_,hx⟩:=h.tup_inv;rw [atoms_inv hx] at ha;exact ⟨a,rfl,g,ha⟩
noncomputable def stA (fs:List (Str×List Str)):List (List (Option Str)):=fs.map fun f=>f.2.map some
noncomputable def wiA (fs:List (Str×List Str)):List (List (Option Str)):=fs.map fun f=>none :: f.2.map some
noncomputable def optT:Option (List (Option Str))→PyData
 | none=>.none
 | some st=>tupA st
theorem many_stA (fs:List (Str×List Str)):manyA (stA fs)=manyOf fs:=by
 unfold manyA manyOf stA;rw [List.foldl_map]
 congr 1
 funext m f;rw [Z0]
noncomputable def wishes (fs:List (Str×List Str)):List (Option (List (Option Str))):=none :: (allA (wiA fs)).map some
theorem paired_at {α β : Type}{R : α→β→Prop}:∀ {l:List α}{m:List β}{i:Nat}{a : α},Paired R l m→l[i]? = some a→∃ b,m[i]? = some b∧R a b
 | _,_,_,_,.nil,h=>by simp at h
 | _,_,0,_,.cons r _,h=>⟨_,rfl,by simp at h;rw [← h];exact r⟩
 | _,_,i + 1,_,.cons _ t,h=>by
  obtain ⟨b,e,r⟩:=paired_at (i:=i) t (by simpa using h);exact ⟨b,by simpa using e,r⟩
noncomputable def Kd (CK C:Addr) (H:Hp) (q:Addr) (rs:List Row):Prop:=∃ (d:Addr) (kvs:List (Key×V)) (zs:List (Addr×Row)),KindsAt CK H q d kvs∧zs.map (·.2)=rs∧(∀ z∈zs,KF C Any H z.1 z.2∧valV kvs (Sum.inr z.2.name)=some (.ref z.1))∧∀ n,n∉rs.map (·.name)→valV kvs (Sum.inr n)=none
theorem KF.same {C:Addr}{H H':Hp}{p:Addr}{r:Row} (h:KF C Any H p r) (s:Same H H'):KF C Any H' p r:=h.frame (fun _ _ e _=>s _ _ e) fun _ _ _ _ e=>⟨trivial,s _ _ e⟩
theorem KindsAt.same {CK:Addr}{H H':Hp}{p d:Addr}{kvs:List (Key×V)} (h:KindsAt CK H p d kvs) (s:Same H H'):KindsAt CK H' p d kvs:=h.mono fun _ _ e _=>s _ _ e
theorem Kd.same {CK C:Addr}{H H':Hp}{q:Addr}{rs:List Row} (h:Kd CK C H q rs) (s:Same H H'):Kd CK C H' q rs:=by
 obtain ⟨d,kvs,zs,h1,h2,h3,h4⟩:=h;exact ⟨d,kvs,zs,h1.same s,h2,fun z hz=>⟨(h3 z hz).1.same s,(h3 z hz).2⟩,h4⟩
theorem Kd.kind {CK C:Addr}{H:Hp}{q:Addr}{rs:List Row} (h:Kd CK C H q rs) {r:Row} (hr:r∈rs):∃ d kvs p,KindsAt CK H q d kvs∧valV kvs (Sum.inr r.name)=some (.ref p)∧KF C Any H p r:=by
 obtain ⟨d,kvs,zs,h1,h2,h3,h4⟩:=h;rw [← h2] at hr;obtain ⟨z,hz,rfl⟩:=List.mem_map.mp hr;exact ⟨d,kvs,z.1,h1,(h3 z hz).2,(h3 z hz).1⟩
noncomputable def fieldsOf (rs:List Row) (o:Str):List (Str×List Str):=((rs.find? fun r=>decide (r.name=o)).map (·.fields)).getD []
theorem zBm {rs:List Row} (h:RowsP rs) {r:Row} (hr:r∈rs):fieldsOf rs r.name=r.fields:=by
 unfold fieldsOf;cases e:rs.find? fun q=>decide (q.name=r.name) with
 | none=>exact absurd (List.find?_eq_none.mp e r hr) (by simp)
 | some q =>
  have h1:q.name=r.name:=by simpa using List.find?_some e
  have h2:=h.one (List.mem_of_find?_eq_some e) hr h1;rw [h2];rfl
noncomputable def ownS (rs:List Row) (r:Row):List (Option (List (Option Str))):=match r.owner with
 | none=>[none]
 | some o=>(allA (stA (fieldsOf rs o))).map some
noncomputable def OptAt (H:Hp) (x:V) (w:Option (List (Option Str))):Prop:=match w with
 | none=>x=.non
 | some st=>∃ a,x=.ref a∧H a=some (.tup (st.map ownV))
noncomputable def optOk (w:Option (List (Option Str))):Prop:=∀ st,w=some st→st.length≤3∧∀ x∈st,atOk x
theorem OptAt.has {G:Addr→Prop}{H:Hp}{x:V}{w:Option (List (Option Str))} (h:OptAt H x w) (ok:optOk w) (g:∀ a xs,H a=some (.tup xs)→G a):Has G H x (optT w):=by
 cases w with
 | none=>rw [show x=.non from h];exact .non
 | some st =>
  obtain ⟨a,rfl,ha⟩:=h;obtain ⟨h1,h2⟩:=ok st rfl;exact tupA_has (g _ _ ha) ha (by omega) h2
theorem OptAt.of {G:Addr→Prop}{H:Hp}{x:V}{w:Option (List (Option Str))} (h:Has G H x (optT w)):OptAt H x w:=by
 cases w with
 | none=>cases h;rfl
 | some st =>
  obtain ⟨a,rfl,_,ha⟩:=tupA_inv h;exact ⟨a,rfl,ha⟩
theorem OptAt.keep {H H':Hp}{x:V}{w:Option (List (Option Str))} (h:OptAt H x w) (k:∀ b xs,H b=some (.tup xs)→H' b=some (.tup xs)):OptAt H' x w:=by
 cases w with
 | none=>exact h
 | some st =>
  obtain ⟨a,rfl,ha⟩:=h;exact ⟨a,rfl,k _ _ ha⟩
noncomputable def nowS (r:Row):List (Option (List (Option Str))):=none :: (allA (stA r.fields)).map some
noncomputable def sitD (n:Str) (w o s:Option (List (Option Str))):PyData:=.tuple [.str n,optT w,optT o,optT s]
noncomputable def rowS (r:Row) (w o:Option (List (Option Str))):List PyData:=(nowS r).map (sitD r.name w o)
noncomputable def colS (rs:List Row) (r:Row) (w:Option (List (Option Str))):List PyData:=(ownS rs r).flatMap (rowS r w)
noncomputable def sitsOf (rs:List Row) (r:Row):List PyData:=(wishes r.fields).flatMap (colS rs r)
theorem flat_len {α β : Type}{l:List α}{f : α→List β}{n:Nat} (h:∀ x∈l,(f x).length=n):(l.flatMap f).length=l.length * n:=by
 induction l with
 | nil=>simp
 | cons a t ih=>rw [List.flatMap_cons,Zc,h a Zg,ih fun x hx=>h x (Zb _ hx),Zj,Nat.succ_mul,Nat.add_comm]
theorem rowS_len (r:Row) (w o:Option (List (Option Str))):(rowS r w o).length=(nowS r).length:=by unfold rowS;rw [Z0]
theorem colS_len (rs:List Row) (r:Row) (w:Option (List (Option Str))):(colS rs r w).length=(ownS rs r).length * (nowS r).length:=flat_len fun o _=>rowS_len r w o
theorem sits_len (rs:List Row) (r:Row):(sitsOf rs r).length=(wishes r.fields).length * ((ownS rs r).length * (nowS r).length):=flat_len fun w _=>colS_len rs r w
noncomputable def OwnIn (rs:List Row):Prop:=∀ r∈rs,∀ o,r.owner=some o→∃ r'∈rs,r'.name=o
theorem RowsP.ownIn {rs:List Row} (h:RowsP rs):OwnIn rs:=by
 obtain ⟨rs0,ok,p⟩:=h;intro r hr o e;obtain ⟨i,hi,ei⟩:=Zx (p.mem_iff.mp hr);obtain ⟨j,r',_,h1,h2⟩:=ok.own i r o (by rw [Z5 hi,ei]) e;exact ⟨r',p.mem_iff.mpr (Z3 h1),h2⟩
theorem ownS_none {rs:List Row}{r:Row} (e:r.owner=none):ownS rs r=[none]:=by unfold ownS;rw [e]
theorem ownS_some {rs:List Row} (h:RowsP rs) {r r':Row} (h1:r'∈rs) (e:r.owner=some r'.name):ownS rs r=(allA (stA r'.fields)).map some:=by
 unfold ownS;rw [e];show (allA (stA (fieldsOf rs r'.name))).map some=_;rw [zBm h h1]
end L2.W
namespace L2.W
open PySem My
noncomputable def placeOf (fs:List (Str×List Str)) (f:Str):Option Nat:=fs.findIdx? fun p=>decide (p.1=f)
noncomputable def optV:Option Nat→V
 | none=>.non
 | some i=>.int (i:Nat)
noncomputable def spPlace (C:Addr):Sp:=fun vs H Q _=>∃ (p:Addr) (r:Row) (f:Str),vs=[.ref p,.str f]∧KF C Any H p r∧FieldsOk r.fields∧∀ H',Same H H'→Q (optV (placeOf r.fields f)) H'
theorem flats (ks:List Str):(ks.map V.str).all flatV=true:=by
 rw [Yd];intro x hx;obtain ⟨k,_,rfl⟩:=List.mem_map.mp hx;rfl
theorem zCz {n:Str}:∀ ks:List Str,inV (.str n) (ks.map V.str)=decide (n∈ks)
 | []=>by simp [inV]
 | k :: r=>by
  have:=zCz (n:=n) r;unfold inV at this ⊢;rw [Zq,Y8,this];by_cases c:k=n
  ·subst c;simp [eqV]
  ·have h1:eqV (.str k) (.str n)=false:=by
    unfold eqV;simp [c]
   rw [h1];simp [Ne.symm c]
theorem zDd {fs:List (Str×List Str)}{f:Str}{i:Nat} (h:placeOf fs f=some i):(fs.map (·.1))[i]? = some f∧∀ m,m < i→(fs.map (·.1))[m]?≠some f:=by
 unfold placeOf at h;rw [List.findIdx?_eq_some_iff_getElem] at h;obtain ⟨hi,h1,h2⟩:=h;refine ⟨?_,fun m hm e=>?_⟩
 ·rw [Z6,Z5 hi];exact congrArg some (of_decide_eq_true h1)
 ·have hm':m < fs.length:=by omega
  rw [Z6,Z5 hm'] at e;exact h2 m hm (decide_eq_true (Zk e))
theorem zEe {fs:List (Str×List Str)}{f:Str} (h:placeOf fs f=none):f∉fs.map (·.1):=fun hm=>by
 unfold placeOf at h;rw [List.findIdx?_eq_none_iff] at h;obtain ⟨q,hq,e⟩:=List.mem_map.mp hm;have:=h q hq;rw [decide_eq_true e] at this;cases this
section
variable {P:Program}{w:World}{K:PySem.W.Frag}{mg:Str→Option Value}{base:Heap}{CX:CXT}
theorem scPlc:FnScope ["kind", "field", "fields"] ["kind", "field"] (defScope sPlaceOf):=⟨rfl,rfl,rfl,by decide +kernel,rfl,by decide +kernel,by decide +kernel⟩
theorem ok_place {f C fI:Addr}{fd:FuncData} (KC:KCls K mg C fI) (F:Fun K "place_of" "place_of" sPlaceOf f fd):FnOk P w K mg base CX 1 f fd ["kind", "field"] (spPlace C):=by
 refine Fun.okC F scPlc (fun vs H Q E h=>?_) (fun cdv A outer s H vs Q E hr h=>?_)
 ·obtain ⟨p,r,f,rfl,_⟩:=h;rfl
 ·obtain ⟨p,r,f,rfl,⟨dx,l,e,hd⟩,ok,k⟩:=h;have nd:=scPlc.nd
  refine ⟨_,zA3 (zB4 (T:=["pair"]) (i:=2) rfl ScOk.auto (zAj (zB2 (pv 0) rfl)) (fun _ _ _ _=>zAd (i:=3) (by decide +kernel:(["kind", "field", "fields", "pair"]:List Str).Nodup) rfl (Or.inl rfl)) (fun _ _ _ _=>zAy) (fun _ _ _ _=>zAh (r:=rIxT K) zAi (pv 3) zA4 (fun _ _=>rfl)) nd rfl rfl rfl)
   (zA5 (zAc (zD5 (zAg zCk (pv 1) (pv 2) rfl) (pe_bm PySem.F.plainAttrs_list PySem.F.slot_list_index PySem.F.type_list_index (mt_lindex rfl) (pv 2) (zA0 (pv 1) zA2)) zBo))),?_⟩
  have small:∀ n:Nat,n≤1000→n≤sizeLine:=fun n h=>Zi (small1000 h);obtain ⟨l',xs,e',_,hl,hz,hx⟩:=hd.list_inv;cases e';have xl:xs.length=r.fields.length:=by rw [hx.length,Z0]
  have fl:=ok.le;refine ⟨_,rfl,p,C,dx,_,_,rfl,e,KC.cl,KC.nF,kf_fields _ _ _,l,rfl,⟨_,SqL.of hl⟩,zAe (xs:=xs) (fun i ys H'=>H=H'∧ys=((r.fields.take i).map (·.1)).map V.str) ⟨rfl,rfl⟩ (fun i ys H' p=>by rw [← p.1];exact SqL.of hl) (fun i ys H' hi p=>?_) ?_ ?_⟩
  ·rw [p.2,Z0,Z0];have:=Zu i r.fields;exact small _ (by omega)
  ·rintro i x ys H' hi ⟨rfl,rfl⟩ N hN;obtain ⟨dd,hdd,hv⟩:=hx.get hi;rw [Z6] at hdd;cases ef:r.fields[i]? with
   | none=>rw [ef] at hdd;cases hdd
   | some q =>
    rw [ef] at hdd;cases hdd;obtain ⟨b,lv,rfl,hb,_⟩:=zC5 hv;refine pick ?_;refine ⟨_,rfl,b,_,0,_,rfl,rfl,SqT.of hb,rfl,hN _ _ ⟨rfl,?_⟩⟩;rw [Z4,ef,Z2,Z2];rfl
  ·rintro ys H' ⟨rfl,rfl⟩ c hc;rw [xl,Za];have s1:Same H (upd H c (.lst ((r.fields.map (·.1)).map V.str))):=Same.new hc;have e1:(upd H c (.lst ((r.fields.map (·.1)).map V.str))) c=some (.lst ((r.fields.map (·.1)).map V.str)):=zA1;generalize upd H c (.lst ((r.fields.map (·.1)).map V.str))=H1 at s1 e1 ⊢;refine ⟨_,rfl,_,rfl,c,_,rfl,.inl (SqL.of e1),rfl,flats _,_,rfl,?_⟩;rw [show (if false=true then !inV (.str f) ((r.fields.map (·.1)).map V.str) else inV (.str f) ((r.fields.map (·.1)).map V.str))=inV (.str f) ((r.fields.map (·.1)).map V.str) from rfl,zCz];cases pe:placeOf r.fields f with
   | none =>
    rw [decide_eq_false (zEe pe)];refine iteF ?_;rw [pe] at k;exact k _ s1
   | some j =>
    obtain ⟨h1,h2⟩:=zDd pe;rw [decide_eq_true (Z3 h1)];refine iteT ?_;rw [pe] at k;exact ⟨_,rfl,.inl ⟨rfl,_,SqL.of e1⟩,_,rfl,c,_,f,j,rfl,rfl,SqL.of e1,h1,h2,k _ s1⟩
end
end L2.W
namespace L2.W
open PySem My
inductive Leaf where
 | always | wanted | is (f v:Str) | meets (f:Str) | owner (f v:Str)
inductive Tr where
 | leaf (l:Leaf) | no (t:Tr) | node (b:Bool) (ts:List Tr)
noncomputable def leafD:Leaf→PyData
 | .always=>.tuple [.str "always"]
 | .wanted=>.tuple [.str "wanted"]
 | .is f v=>.tuple [.str "is",.str f,.str v]
 | .meets f=>.tuple [.str "meets",.str f]
 | .owner f v=>.tuple [.str "owner",.str f,.str v]
noncomputable def sgn (b:Bool):Str:=if b then "&" else "|"
mutual
noncomputable def trD:Tr→PyData
 | .leaf l=>leafD l
 | .no t=>.tuple [.str "not",trD t]
 | .node b ts=>.tuple [.str (sgn b),.list (trsD ts)]
noncomputable def trsD:List Tr→List PyData
 | []=>[]
 | t :: ts=>trD t :: trsD ts
end
mutual
noncomputable def trH:Tr→Nat
 | .leaf _=>0
 | .no t=>trH t + 1
 | .node _ ts=>trsH ts + 1
noncomputable def trsH:List Tr→Nat
 | []=>0
 | t :: ts=>max (trH t) (trsH ts)
end
mutual
noncomputable def ev (g:Leaf→Bool):Tr→Bool
 | .leaf l=>g l
 | .no t=>!ev g t
 | .node b ts=>if b then (evs g ts).all id else (evs g ts).any id
noncomputable def evs (g:Leaf→Bool):List Tr→List Bool
 | []=>[]
 | t :: ts=>ev g t :: evs g ts
end
noncomputable def LeafOk:Leaf→Prop
 | .is f v=>nameOk f∧nameOk v
 | .meets f=>nameOk f
 | .owner f v=>nameOk f∧nameOk v
 | _=>True
mutual
noncomputable def TrOk:Tr→Prop
 | .leaf l=>LeafOk l
 | .no t=>TrOk t
 | .node _ ts=>2≤ts.length∧ts.length≤50∧TrsOk ts
noncomputable def TrsOk:List Tr→Prop
 | []=>True
 | t :: ts=>TrOk t∧TrsOk ts
end
theorem trsD_eq:∀ ts:List Tr,trsD ts=ts.map trD
 | []=>rfl
 | t :: ts=>by rw [trsD,trsD_eq ts];rfl
theorem zDq:∀ {ts:List Tr}{t:Tr},t∈ts→trH t≤trsH ts
 | t :: ts,x,h=>by
  rw [trsH];rcases List.mem_cons.mp h with rfl | h
  ·omega
  ·have:=zDq h;omega
theorem trsH_of {n:Nat}:∀ {ts:List Tr},(∀ t∈ts,trH t≤n)→trsH ts≤n
 | [],_=>Zm _
 | t :: ts,h=>by
  rw [trsH];have h1:=h t Zg;have h2:=trsH_of fun x hx=>h x (Zb _ hx);omega
theorem zC2:∀ {ts:List Tr},TrsOk ts ↔ ∀ t∈ts,TrOk t
 | []=>⟨fun _ t h=>(nomatch h),fun _=>trivial⟩
 | t :: ts=>by
  rw [TrsOk,zC2 (ts:=ts)];refine ⟨fun ⟨a,b⟩ x hx=>?_,fun h=>⟨h t Zg,fun x hx=>h x (Zb _ hx)⟩⟩;rcases List.mem_cons.mp hx with rfl | hx
  ·exact a
  ·exact b x hx
structure CA where
 (cc al wa is_ me ow no bo ei fIs fMe fOw fNo fBo fEi hAl hWa hIs hMe hOw hNo hBo hEi:Addr)
noncomputable def IsCond (A:CA) (C:Addr):Prop:=C=A.al∨C=A.wa∨C=A.is_∨C=A.me∨C=A.ow∨C=A.no∨C=A.bo∨C=A.ei
structure CC1 (K:PySem.W.Frag) (cc C:Addr):Prop where
 cl:Cls K C
 ki:KIsi K C
 sub:PySem.W.kitOne K (.ref C) (.ref cc)=some true
noncomputable def fF (f:V):List (Str×V):=putF "field" f []
noncomputable def fV (f v:V):List (Str×V):=putF "value" v (putF "field" f [])
noncomputable def fC (c:V):List (Str×V):=putF "condition" c []
noncomputable def fCs (c:V):List (Str×V):=putF "conditions" c []
theorem nvf:¬ (("field" : Str) = "value"):=by decide +kernel
theorem fF_f (f:V):(fF f).lookup ("field" : Str)=some f:=by unfold fF;rw [zA8,if_pos rfl]
theorem fV_f (f v:V):(fV f v).lookup ("field" : Str)=some f:=by unfold fV;rw [zA8,if_neg nvf,zA8,if_pos rfl]
theorem fV_v (f v:V):(fV f v).lookup ("value" : Str)=some v:=by unfold fV;rw [zA8,if_pos rfl]
theorem fC_c (c:V):(fC c).lookup ("condition" : Str)=some c:=by unfold fC;rw [zA8,if_pos rfl]
theorem fCs_c (c:V):(fCs c).lookup ("conditions" : Str)=some c:=by unfold fCs;rw [zA8,if_pos rfl]
theorem fF_h (f:V):(fF f).lookup ("holds" : Str)=none:=by unfold fF;rw [zA8,if_neg (by decide +kernel)];rfl
theorem fV_h (f v:V):(fV f v).lookup ("holds" : Str)=none:=by unfold fV;rw [zA8,if_neg (by decide +kernel),zA8,if_neg (by decide +kernel)];rfl
theorem fC_h (c:V):(fC c).lookup ("holds" : Str)=none:=by unfold fC;rw [zA8,if_neg (by decide +kernel)];rfl
theorem fCs_h (c:V):(fCs c).lookup ("holds" : Str)=none:=by unfold fCs;rw [zA8,if_neg (by decide +kernel)];rfl
mutual
inductive CondAt (A:CA) (H:Hp):Addr→Tr→Prop where
 | al {p dx:Addr} (e:H p=some (.ins A.al dx [])):CondAt A H p (.leaf .always)
 | wa {p dx:Addr} (e:H p=some (.ins A.wa dx [])):CondAt A H p (.leaf .wanted)
 | is {p dx:Addr}{f v:Str} (e:H p=some (.ins A.is_ dx (fV (.str f) (.str v)))):CondAt A H p (.leaf (.is f v))
 | me {p dx:Addr}{f:Str} (e:H p=some (.ins A.me dx (fF (.str f)))):CondAt A H p (.leaf (.meets f))
 | ow {p dx:Addr}{f v:Str} (e:H p=some (.ins A.ow dx (fV (.str f) (.str v)))):CondAt A H p (.leaf (.owner f v))
 | no {p dx q:Addr}{t:Tr} (e:H p=some (.ins A.no dx (fC (.ref q)))) (c:CondAt A H q t):CondAt A H p (.no t)
 | bo {p dx l:Addr}{ps:List Addr}{ts:List Tr} (e:H p=some (.ins A.bo dx (fCs (.ref l)))) (hl:H l=some (.lst (ps.map V.ref))) (c:CondAll A H ps ts):CondAt A H p (.node true ts)
 | ei {p dx l:Addr}{ps:List Addr}{ts:List Tr} (e:H p=some (.ins A.ei dx (fCs (.ref l)))) (hl:H l=some (.lst (ps.map V.ref))) (c:CondAll A H ps ts):CondAt A H p (.node false ts)
inductive CondAll (A:CA) (H:Hp):List Addr→List Tr→Prop where
 | nil:CondAll A H [] []
 | cons {p:Addr}{ps:List Addr}{t:Tr}{ts:List Tr} (a:CondAt A H p t) (b:CondAll A H ps ts):CondAll A H (p :: ps) (t :: ts)
end
mutual
theorem CondAt.keep {A:CA}{H H':Hp} (s:∀ b o,H b=some o→(∃ C dx fs,o=.ins C dx fs)∨(∃ ps:List Addr,o=.lst (ps.map V.ref))→H' b=some o):∀ {p:Addr}{t:Tr},CondAt A H p t→CondAt A H' p t
 | _,_,.al e=>.al (s _ _ e (.inl ⟨_,_,_,rfl⟩))
 | _,_,.wa e=>.wa (s _ _ e (.inl ⟨_,_,_,rfl⟩))
 | _,_,.is e=>.is (s _ _ e (.inl ⟨_,_,_,rfl⟩))
 | _,_,.me e=>.me (s _ _ e (.inl ⟨_,_,_,rfl⟩))
 | _,_,.ow e=>.ow (s _ _ e (.inl ⟨_,_,_,rfl⟩))
 | _,_,.no e c=>.no (s _ _ e (.inl ⟨_,_,_,rfl⟩)) (CondAt.keep s c)
 | _,_,.bo e hl c=>.bo (s _ _ e (.inl ⟨_,_,_,rfl⟩)) (s _ _ hl (.inr ⟨_,rfl⟩)) (CondAll.keep s c)
 | _,_,.ei e hl c=>.ei (s _ _ e (.inl ⟨_,_,_,rfl⟩)) (s _ _ hl (.inr ⟨_,rfl⟩)) (CondAll.keep s c)
theorem CondAll.keep {A:CA}{H H':Hp} (s:∀ b o,H b=some o→(∃ C dx fs,o=.ins C dx fs)∨(∃ ps:List Addr,o=.lst (ps.map V.ref))→H' b=some o):∀ {ps:List Addr}{ts:List Tr},CondAll A H ps ts→CondAll A H' ps ts
 | _,_,.nil=>.nil
 | _,_,.cons a b=>.cons (CondAt.keep s a) (CondAll.keep s b)
end
theorem CondAt.same {A:CA}{H H':Hp}{p:Addr}{t:Tr} (c:CondAt A H p t) (s:Same H H'):CondAt A H' p t:=c.keep fun b o e _=>s b o e
theorem CondAll.same {A:CA}{H H':Hp}{ps:List Addr}{ts:List Tr} (c:CondAll A H ps ts) (s:Same H H'):CondAll A H' ps ts:=c.keep fun b o e _=>s b o e
theorem CondAll.len {A:CA}{H:Hp}:∀ {ps:List Addr}{ts:List Tr},CondAll A H ps ts→ps.length=ts.length
 | _,_,.nil=>rfl
 | _,_,.cons _ b=>by rw [Zj,Zj,b.len]
theorem CondAll.get {A:CA}{H:Hp}:∀ {ps:List Addr}{ts:List Tr}{i:Nat}{p:Addr},CondAll A H ps ts→ps[i]? = some p→∃ t,ts[i]? = some t∧CondAt A H p t
 | _,_,_,_,.nil,h=>by simp at h
 | _,_,0,_,.cons a _,h=>by simp at h;subst h;exact ⟨_,rfl,a⟩
 | _,_,i + 1,p,.cons _ b,h=>by
  obtain ⟨t,h1,h2⟩:=CondAll.get (i:=i) (p:=p) b (by simpa using h);exact ⟨t,by simpa using h1,h2⟩
theorem CondAll.snoc {A:CA}{H:Hp}{p:Addr}{t:Tr}:∀ {ps:List Addr}{ts:List Tr},CondAll A H ps ts→CondAt A H p t→CondAll A H (ps++[p]) (ts++[t])
 | _,_,.nil,c=>.cons c .nil
 | _,_,.cons a b,c=>.cons a (b.snoc c)
theorem CondAt.ins {A:CA}{H:Hp}{p:Addr}{t:Tr} (c:CondAt A H p t):∃ C dx fs,H p=some (.ins C dx fs)∧IsCond A C∧fs.lookup ("holds" : Str)=none:=by
 cases c with
 | al e=>exact ⟨_,_,_,e,.inl rfl,rfl⟩
 | wa e=>exact ⟨_,_,_,e,.inr (.inl rfl),rfl⟩
 | is e=>exact ⟨_,_,_,e,.inr (.inr (.inl rfl)),fV_h _ _⟩
 | me e=>exact ⟨_,_,_,e,.inr (.inr (.inr (.inl rfl))),fF_h _⟩
 | ow e=>exact ⟨_,_,_,e,.inr (.inr (.inr (.inr (.inl rfl)))),fV_h _ _⟩
 | no e _=>exact ⟨_,_,_,e,.inr (.inr (.inr (.inr (.inr (.inl rfl))))),fC_h _⟩
 | bo e _ _=>exact ⟨_,_,_,e,.inr (.inr (.inr (.inr (.inr (.inr (.inl rfl)))))),fCs_h _⟩
 | ei e _ _=>exact ⟨_,_,_,e,.inr (.inr (.inr (.inr (.inr (.inr (.inr rfl)))))),fCs_h _⟩
structure Cnd (K:PySem.W.Frag) (mg:Str→Option Value) (A:CA):Prop where
 all:∀ C,IsCond A C→CC1 K A.cc C
 cc:mg "Condition" = some (.ref A.cc)
 gAl:mg "Always" = some (.ref A.al)
 gWa:mg "Wanted" = some (.ref A.wa)
 kAl:MkN K A.al
 kWa:MkN K A.wa
 ne:[A.al,A.wa,A.is_,A.me,A.ow,A.no,A.bo,A.ei].Nodup
 gIs:mg "Is" = some (.ref A.is_)
 kIs:Mk K A.is_ A.fIs
 gMe:mg "Meets" = some (.ref A.me)
 kMe:Mk K A.me A.fMe
 gOw:mg "Owner" = some (.ref A.ow)
 kOw:Mk K A.ow A.fOw
 gNo:mg "Not" = some (.ref A.no)
 kNo:Mk K A.no A.fNo
 gBo:mg "Both" = some (.ref A.bo)
 kBo:Mk K A.bo A.fBo
 gEi:mg "Either" = some (.ref A.ei)
 kEi:Mk K A.ei A.fEi
 nIsf:NoAttr K A.is_ "field"
 nIsv:NoAttr K A.is_ "value"
 nMef:NoAttr K A.me "field"
 nOwf:NoAttr K A.ow "field"
 nOwv:NoAttr K A.ow "value"
 nNoc:NoAttr K A.no "condition"
 nBoc:NoAttr K A.bo "conditions"
 nEic:NoAttr K A.ei "conditions"
 mAl:Meth K A.al "holds" A.hAl
 mWa:Meth K A.wa "holds" A.hWa
 mIs:Meth K A.is_ "holds" A.hIs
 mMe:Meth K A.me "holds" A.hMe
 mOw:Meth K A.ow "holds" A.hOw
 mNo:Meth K A.no "holds" A.hNo
 mBo:Meth K A.bo "holds" A.hBo
 mEi:Meth K A.ei "holds" A.hEi
end L2.W
namespace L2.W
open PySem My
theorem CC1.ty {K:PySem.W.Frag}{cc C p dx:Addr}{H:Hp}{fs:List (Str×V)} (c:CC1 K cc C) (e:H p=some (.ins C dx fs)):TyOf K H (.ref p) (.ref C):=.ins e c.cl c.ki.ha c.ki.hn c.ki.htk c.ki.hm
noncomputable def But (p:Addr) (H H':Hp):Prop:=∀ b o,H b=some o→b≠p→H' b=some o
noncomputable def IsC (A:CA) (H:Hp) (p:Addr):Prop:=∃ C dx fs,H p=some (.ins C dx fs)∧IsCond A C
theorem IsC.same {A:CA}{H H':Hp}{p:Addr} (h:IsC A H p) (s:Same H H'):IsC A H' p:=let ⟨C,dx,fs,e,c⟩:=h;⟨C,dx,fs,s _ _ e,c⟩
theorem CondAt.isC {A:CA}{H:Hp}{p:Addr}{t:Tr} (c:CondAt A H p t):IsC A H p:=let ⟨C,dx,fs,e,h,_⟩:=c.ins;⟨C,dx,fs,e,h⟩
noncomputable def spChkN:Sp:=fun vs H Q _=>∃ (l:Addr) (ks:List Str),vs=[.ref l]∧H l=some (.lst (ks.map V.str))∧ks.length≤10∧(∀ x∈ks,nameOk x)∧∀ H',Same H H'→Q .non H'
noncomputable def spChkC (A:CA):Sp:=fun vs H Q _=>∃ (l:Addr) (ps:List Addr),vs=[.ref l]∧H l=some (.lst (ps.map V.ref))∧2≤ps.length∧ps.length≤60∧(∀ p∈ps,IsC A H p)∧∀ H',Same H H'→Q .non H'
noncomputable def spIV (C:Addr):Sp:=fun vs H Q _=>∃ (p dx:Addr) (f v:Str),vs=[.ref p,.str f,.str v]∧H p=some (.ins C dx [])∧nameOk f∧nameOk v∧∀ H',H' p=some (.ins C dx (fV (.str f) (.str v)))→But p H H'→Q .non H'
noncomputable def spIF (C:Addr):Sp:=fun vs H Q _=>∃ (p dx:Addr) (f:Str),vs=[.ref p,.str f]∧H p=some (.ins C dx [])∧nameOk f∧∀ H',H' p=some (.ins C dx (fF (.str f)))→But p H H'→Q .non H'
noncomputable def spIC (A:CA):Sp:=fun vs H Q _=>∃ (p dx q:Addr),vs=[.ref p,.ref q]∧H p=some (.ins A.no dx [])∧IsC A H q∧∀ H',H' p=some (.ins A.no dx (fC (.ref q)))→But p H H'→Q .non H'
noncomputable def spIL (A:CA) (C:Addr):Sp:=fun vs H Q _=>∃ (p dx l:Addr) (ps:List Addr),vs=[.ref p,.ref l]∧H p=some (.ins C dx [])∧H l=some (.lst (ps.map V.ref))∧2≤ps.length∧ps.length≤60∧(∀ q∈ps,IsC A H q) ∧
 ∀ H' l',H' p=some (.ins C dx (fCs (.ref l')))→H' l'=some (.lst (ps.map V.ref))→H l'=none→But p H H'→Q .non H'
theorem isi_all {K:PySem.W.Frag}{mg:Str→Option Value}{A:CA} (N:Cnd K mg A) {H:Hp}{p:Addr} (h:IsC A H p):∃ C,TyOf K H (.ref p) (.ref C)∧PySem.W.kitOne K (.ref C) (.ref A.cc)=some true:=let ⟨C,_,_,e,c⟩:=h;⟨C,(N.all C c).ty e,(N.all C c).sub⟩
section
variable {P:Program}{w:World}{K:PySem.W.Frag}{mg:Str→Option Value}{base:Heap}{CX:CXT}
theorem scCn:FnScope ["things"] ["things"] (defScope sChkNames):=⟨rfl,rfl,rfl,by decide +kernel,rfl,by decide +kernel,by decide +kernel⟩
theorem ok_chkN {f fn:Addr}{fd fdn:FuncData} (hC:Calm CX) (T:Tops K mg) (F:Fun K "check_names" "check_names" sChkNames f fd) (DN:Def K mg "is_name" sIsName ["thing"] fn fdn):FnOk P w K mg base CX 2 f fd ["things"] spChkN:=by
 have GN:FnOk P w K mg base CX 1 fn fdn ["thing"] spNameD:=zCe DN.fn T;refine Fun.okC F scCn (fun vs H Q E h=>?_) (fun cdv A outer s H vs Q E hr h=>?_)
 ·obtain ⟨l,ks,rfl,_⟩:=h;rfl
 ·obtain ⟨l,ks,rfl,hl,h10,ok,q⟩:=h;have nd:=scCn.nd
  refine ⟨_,zA5 (zAq (zAu (zAl (zAa (zB3 rfl) rfl T.all PyProof.Rows.boot_all (zA0 (zAt (T:=["thing"]) rfl ScOk.auto (zAj (pv 0)) (fun _ _ _ _=>zAd (i:=1) (by decide +kernel:(["things", "thing"]:List Str).Nodup) rfl (Or.inl rfl)) (fun _ _ _ _=>zAy) (fun _ _ _ _=>(zA6 GN hr rfl DN.at_ DN.fn.kp DN.bind .nil (passC hC) (zA0 (pv 1) zA2)))) zA2))))
     zAo zAb),?_⟩
  have small:∀ n:Nat,n≤1000→n≤sizeLine:=fun n h=>Zi (small1000 h);refine ⟨_,rfl,l,rfl,⟨_,SqL.of hl⟩,zAe (xs:=ks.map V.str) (fun i ys H'=>Same H H'∧ys=List.replicate i (V.bl true)) ⟨Same.refl _,rfl⟩ (fun i ys H' z=>SqL.of (z.1 _ _ hl)) (fun i ys H' hi z=>?_) ?_ ?_⟩
  ·rw [z.2,Zp];rw [Z0] at hi;exact small _ (by omega)
  ·rintro i x ys H' hi ⟨s1,rfl⟩ N hN;rw [Z6] at hi;cases e:ks[i]? with
   | none=>rw [e] at hi;cases hi
   | some k =>
    rw [e] at hi;cases hi;have ok:=ok k (Z3 e);refine pick ⟨_,rfl,_,.str k,rfl,.str k (by have:=ok.2.2;omega) ok.2.1,fun H2 s2=>?_⟩;rw [show nameD (.str k)=true from ok.1];exact hN _ _ ⟨s1.trans s2,by rw [List.replicate_succ']⟩
  ·rintro ys H' ⟨s1,rfl⟩ la hla;refine ⟨la,List.replicate (ks.map V.str).length true,rfl,SqL.of (by rw [zA1,List.map_replicate]),_,rfl,?_⟩;rw [show (List.replicate (ks.map V.str).length true).all id=true by simp];exact iteF (q _ (s1.trans (Same.new hla)))
theorem scCc:FnScope ["things"] ["things"] (defScope sChkConds):=⟨rfl,rfl,rfl,by decide +kernel,rfl,by decide +kernel,by decide +kernel⟩
theorem ok_chkC {f:Addr}{fd:FuncData}{A:CA} (T:Tops K mg) (N:Cnd K mg A) (F:Fun K "check_conditions" "check_conditions" sChkConds f fd):FnOk P w K mg base CX 1 f fd ["things"] (spChkC A):=by
 refine Fun.okC F scCc (fun vs H Q E h=>?_) (fun cdv Ar outer s H vs Q E hr h=>?_)
 ·obtain ⟨l,ps,rfl,_⟩:=h;rfl
 ·obtain ⟨l,ps,rfl,hl,h2,h60,ok,q⟩:=h;have nd:=scCc.nd;obtain ⟨tl,hleast⟩:=T.least
  refine ⟨_,zA3 (zAq (PW.pt (zC0 (zAu (zAl (zAa zAs rfl T.isinst PyProof.Rows.boot_isinstance (zA0 (pv 0) (zA0 (zBk (v:=.ty "list") rfl T.list PyProof.Rows.boot_list rfl) zA2))))) (zBd (zAg op_lt (zAa zAp rfl T.len PySem.boot_len (zA0 (pv 0) zA2)) (zAv (v:=.int 2) rfl hleast ⟨_,rfl⟩) (nomark _)))))
     zAo zAb)
     (zA5 (zAq (zAu (zAl (zAa (zB3 rfl) rfl T.all PyProof.Rows.boot_all (zA0 (zAt (T:=["thing"]) rfl ScOk.auto (zAj (pv 0)) (fun _ _ _ _=>zAd (i:=1) (by decide +kernel:(["things", "thing"]:List Str).Nodup) rfl (Or.inl rfl)) (fun _ _ _ _=>zAy) (fun _ _ _ _=>(zAa (r:=fun xs H Q=>∃ x c t cv b,xs=[x,c]∧TyOf K H x t∧RelV c cv∧PySem.W.kitOne K t cv=some b∧Q (.bl b) H) zAs rfl T.isinst PyProof.Rows.boot_isinstance (zA0 (pv 1) (zA0 (zAv (v:=.ref A.cc) rfl N.cc rfl) zA2))))) zA2))))
     zAo zAb)),?_⟩
  have small:∀ n:Nat,n≤1000→n≤sizeLine:=fun n h=>Zi (small1000 h);refine ⟨_,rfl,_,_,_,_,_,rfl,.lst hl,rfl,rfl,_,rfl,iteF ?_⟩;refine ⟨_,rfl,l,_,rfl,.inl (SqL.of hl),_,_,rfl,rfl,_,rfl,ite2 (fun z=>absurd (of_decide_eq_true z) (by rw [Z0];omega)) (fun _=>?_)⟩;refine ⟨_,rfl,l,rfl,⟨_,SqL.of hl⟩,zAe (xs:=ps.map V.ref) (fun i ys H'=>H'=H∧ys=List.replicate i (V.bl true)) ⟨rfl,rfl⟩ (fun i ys H' z=>by rw [z.1];exact SqL.of hl) (fun i ys H' hi z=>?_) ?_ ?_⟩
  ·rw [z.2,Zp];rw [Z0] at hi;exact small _ (by omega)
  ·rintro i x ys H' hi ⟨rfl,rfl⟩ Nn hN;rw [Z6] at hi;cases e:ps[i]? with
   | none=>rw [e] at hi;cases hi
   | some p =>
    rw [e] at hi;cases hi;obtain ⟨C,ty,kt⟩:=isi_all N (ok p (Z3 e));exact pick ⟨_,rfl,_,_,_,_,_,rfl,ty,rfl,kt,hN _ _ ⟨rfl,by rw [List.replicate_succ']⟩⟩
  ·rintro ys H' ⟨rfl,rfl⟩ la hla;refine ⟨la,List.replicate (ps.map V.ref).length true,rfl,SqL.of (by rw [zA1,List.map_replicate]),_,rfl,?_⟩;rw [show (List.replicate (ps.map V.ref).length true).all id=true by simp];exact iteF (q _ (Same.new hla))
theorem scIIs:FnScope ["self", "field", "value"] ["self", "field", "value"] (defScope sInitIs):=⟨rfl,rfl,rfl,by decide +kernel,rfl,by decide +kernel,by decide +kernel⟩
theorem ok_initIs {f fc:Addr}{fd fdc:FuncData}{A:CA} (hC:Calm CX) (N:Cnd K mg A) (F:Fun K "__init__" "Is.__init__" sInitIs f fd) (DC:Def K mg "check_names" sChkNames ["things"] fc fdc) (GC:FnOk P w K mg base CX 2 fc fdc ["things"] spChkN):FnOk P w K mg base CX 3 f fd ["self", "field", "value"] (spIV A.is_):=by
 refine Fun.okC F scIIs (fun vs H Q E h=>?_) (fun cdv Ar outer s H vs Q E hr h=>?_)
 ·obtain ⟨p,dx,f,v,rfl,_⟩:=h;rfl
 ·obtain ⟨p,dx,f,v,rfl,hp,of,ov,q⟩:=h;have nd:=scIIs.nd;have cl:=(N.all A.is_ (by unfold IsCond;simp)).cl
  refine ⟨_,zA3 (zBn (zA6 GC hr rfl DC.at_ DC.fn.kp DC.bind .nil (passC hC) (zA0 (zAm (zA0 (pv 1) (zA0 (pv 2) zA2))) zA2)))
     (zA3 (zB9 (pv 0) (pv 1) rfl)
     (zA5 (zB9 (pv 0) (pv 2) rfl))),?_⟩
  refine ⟨_,rfl,_,rfl,by show 2≤sizeLine;decide,fun l hl=>⟨l,[f,v],rfl,zA1,by show 2≤10;decide,by simp [of,ov],fun H1 s1=>?_⟩⟩;have s:=(Same.new hl).trans s1;refine ⟨_,rfl,_,rfl,p,A.is_,dx,[],rfl,s _ _ hp,cl,N.nIsf,(by show 0 < 1000;decide),?_⟩;refine ⟨_,rfl,_,rfl,p,A.is_,dx,_,rfl,zA1,cl,N.nIsv,(by show 1 < 1000;decide),?_⟩;exact q _ zA1 fun b o e n=>by rw [zA9 n,zA9 n];exact s _ _ e
theorem scIOw:FnScope ["self", "field", "value"] ["self", "field", "value"] (defScope sInitOw):=⟨rfl,rfl,rfl,by decide +kernel,rfl,by decide +kernel,by decide +kernel⟩
theorem ok_initOw {f fc:Addr}{fd fdc:FuncData}{A:CA} (hC:Calm CX) (N:Cnd K mg A) (F:Fun K "__init__" "Owner.__init__" sInitOw f fd) (DC:Def K mg "check_names" sChkNames ["things"] fc fdc) (GC:FnOk P w K mg base CX 2 fc fdc ["things"] spChkN):FnOk P w K mg base CX 3 f fd ["self", "field", "value"] (spIV A.ow):=by
 refine Fun.okC F scIOw (fun vs H Q E h=>?_) (fun cdv Ar outer s H vs Q E hr h=>?_)
 ·obtain ⟨p,dx,f,v,rfl,_⟩:=h;rfl
 ·obtain ⟨p,dx,f,v,rfl,hp,of,ov,q⟩:=h;have nd:=scIOw.nd;have cl:=(N.all A.ow (by unfold IsCond;simp)).cl
  refine ⟨_,zA3 (zBn (zA6 GC hr rfl DC.at_ DC.fn.kp DC.bind .nil (passC hC) (zA0 (zAm (zA0 (pv 1) (zA0 (pv 2) zA2))) zA2)))
     (zA3 (zB9 (pv 0) (pv 1) rfl)
     (zA5 (zB9 (pv 0) (pv 2) rfl))),?_⟩
  refine ⟨_,rfl,_,rfl,by show 2≤sizeLine;decide,fun l hl=>⟨l,[f,v],rfl,zA1,by show 2≤10;decide,by simp [of,ov],fun H1 s1=>?_⟩⟩;have s:=(Same.new hl).trans s1;refine ⟨_,rfl,_,rfl,p,A.ow,dx,[],rfl,s _ _ hp,cl,N.nOwf,(by show 0 < 1000;decide),?_⟩;refine ⟨_,rfl,_,rfl,p,A.ow,dx,_,rfl,zA1,cl,N.nOwv,(by show 1 < 1000;decide),?_⟩;exact q _ zA1 fun b o e n=>by rw [zA9 n,zA9 n];exact s _ _ e
theorem scIMe:FnScope ["self", "field"] ["self", "field"] (defScope sInitMe):=⟨rfl,rfl,rfl,by decide +kernel,rfl,by decide +kernel,by decide +kernel⟩
theorem ok_initMe {f fc:Addr}{fd fdc:FuncData}{A:CA} (hC:Calm CX) (N:Cnd K mg A) (F:Fun K "__init__" "Meets.__init__" sInitMe f fd) (DC:Def K mg "check_names" sChkNames ["things"] fc fdc) (GC:FnOk P w K mg base CX 2 fc fdc ["things"] spChkN):FnOk P w K mg base CX 3 f fd ["self", "field"] (spIF A.me):=by
 refine Fun.okC F scIMe (fun vs H Q E h=>?_) (fun cdv Ar outer s H vs Q E hr h=>?_)
 ·obtain ⟨p,dx,f,rfl,_⟩:=h;rfl
 ·obtain ⟨p,dx,f,rfl,hp,of,q⟩:=h;have nd:=scIMe.nd;have cl:=(N.all A.me (by unfold IsCond;simp)).cl
  refine ⟨_,zA3 (zBn (zA6 GC hr rfl DC.at_ DC.fn.kp DC.bind .nil (passC hC) (zA0 (zAm (zA0 (pv 1) zA2)) zA2)))
     (zA5 (zB9 (pv 0) (pv 1) rfl)),?_⟩
  refine ⟨_,rfl,by show 1≤sizeLine;decide,fun l hl=>⟨l,[f],rfl,zA1,by show 1≤10;decide,by simp [of],fun H1 s1=>?_⟩⟩;have s:=(Same.new hl).trans s1;refine ⟨_,rfl,_,rfl,p,A.me,dx,[],rfl,s _ _ hp,cl,N.nMef,(by show 0 < 1000;decide),?_⟩;exact q _ zA1 fun b o e n=>by rw [zA9 n];exact s _ _ e
theorem scINo:FnScope ["self", "condition"] ["self", "condition"] (defScope sInitNo):=⟨rfl,rfl,rfl,by decide +kernel,rfl,by decide +kernel,by decide +kernel⟩
theorem ok_initNo {f:Addr}{fd:FuncData}{A:CA} (T:Tops K mg) (N:Cnd K mg A) (F:Fun K "__init__" "Not.__init__" sInitNo f fd):FnOk P w K mg base CX 1 f fd ["self", "condition"] (spIC A):=by
 refine Fun.okC F scINo (fun vs H Q E h=>?_) (fun cdv Ar outer s H vs Q E hr h=>?_)
 ·obtain ⟨p,dx,q,rfl,_⟩:=h;rfl
 ·obtain ⟨p,dx,q',rfl,hp,hc,q⟩:=h;have nd:=scINo.nd;have cl:=(N.all A.no (by unfold IsCond;simp)).cl
  refine ⟨_,zA3 (zAq (zAu (zAl (zAa (r:=fun xs H Q=>∃ x c t cv b,xs=[x,c]∧TyOf K H x t∧RelV c cv∧PySem.W.kitOne K t cv=some b∧Q (.bl b) H) zAs rfl T.isinst PyProof.Rows.boot_isinstance (zA0 (pv 1) (zA0 (zAv (v:=.ref A.cc) rfl N.cc rfl) zA2)))))
     zAo zAb)
     (zA5 (zB9 (pv 0) (pv 1) rfl)),?_⟩
  obtain ⟨C,ty,kt⟩:=isi_all N hc;refine ⟨_,rfl,_,_,_,_,_,rfl,ty,rfl,kt,_,rfl,iteF ?_⟩;refine ⟨_,rfl,_,rfl,p,A.no,dx,[],rfl,hp,cl,N.nNoc,(by show 0 < 1000;decide),?_⟩;exact q _ zA1 fun b o e n=>by rw [zA9 n];exact e
theorem scIBo:FnScope ["self", "conditions"] ["self", "conditions"] (defScope sInitBo):=⟨rfl,rfl,rfl,by decide +kernel,rfl,by decide +kernel,by decide +kernel⟩
theorem ok_initBo {f fc:Addr}{fd fdc:FuncData}{A:CA} (hC:Calm CX) (T:Tops K mg) (N:Cnd K mg A) (F:Fun K "__init__" "Both.__init__" sInitBo f fd) (DC:Def K mg "check_conditions" sChkConds ["things"] fc fdc) (GC:FnOk P w K mg base CX 1 fc fdc ["things"] (spChkC A)):FnOk P w K mg base CX 2 f fd ["self", "conditions"] (spIL A A.bo):=by
 refine Fun.okC F scIBo (fun vs H Q E h=>?_) (fun cdv Ar outer s H vs Q E hr h=>?_)
 ·obtain ⟨p,dx,l,ps,rfl,_⟩:=h;rfl
 ·obtain ⟨p,dx,l,ps,rfl,hp,hl,h2,h60,ok,q⟩:=h;have nd:=scIBo.nd;have cl:=(N.all A.bo (by unfold IsCond;simp)).cl
  refine ⟨_,zA3 (zBn (zA6 GC hr rfl DC.at_ DC.fn.kp DC.bind .nil (passC hC) (zA0 (pv 1) zA2)))
     (zA5 (zB9 (pv 0) (zAn zAz rfl T.list PyProof.Rows.boot_list (zA0 (pv 1) zA2)) rfl)),?_⟩
  refine ⟨_,rfl,l,ps,rfl,hl,h2,h60,ok,fun H1 s1=>?_⟩;refine ⟨_,rfl,l,_,rfl,.inl (SqL.of (s1 _ _ hl)),fun l2 hl2=>?_⟩;have s2:Same H1 (upd H1 l2 (.lst (ps.map V.ref))):=Same.new hl2;have e2:(upd H1 l2 (.lst (ps.map V.ref))) l2=some (.lst (ps.map V.ref)):=zA1;generalize upd H1 l2 (.lst (ps.map V.ref))=H2 at s2 e2 ⊢;have s:=s1.trans s2;have ne:l2≠p:=(zA7 (s1 _ _ hp) hl2).symm;refine ⟨_,rfl,p,A.bo,dx,[],rfl,s _ _ hp,cl,N.nBoc,(by show 0 < 1000;decide),?_⟩;exact q _ l2 zA1 (by rw [zA9 ne];exact e2) (s1.free hl2) fun b o e n=>by rw [zA9 n];exact s _ _ e
theorem scIEi:FnScope ["self", "conditions"] ["self", "conditions"] (defScope sInitEi):=⟨rfl,rfl,rfl,by decide +kernel,rfl,by decide +kernel,by decide +kernel⟩
theorem ok_initEi {f fc:Addr}{fd fdc:FuncData}{A:CA} (hC:Calm CX) (T:Tops K mg) (N:Cnd K mg A) (F:Fun K "__init__" "Either.__init__" sInitEi f fd) (DC:Def K mg "check_conditions" sChkConds ["things"] fc fdc) (GC:FnOk P w K mg base CX 1 fc fdc ["things"] (spChkC A)):FnOk P w K mg base CX 2 f fd ["self", "conditions"] (spIL A A.ei):=by
 refine Fun.okC F scIEi (fun vs H Q E h=>?_) (fun cdv Ar outer s H vs Q E hr h=>?_)
 ·obtain ⟨p,dx,l,ps,rfl,_⟩:=h;rfl
 ·obtain ⟨p,dx,l,ps,rfl,hp,hl,h2,h60,ok,q⟩:=h;have nd:=scIEi.nd;have cl:=(N.all A.ei (by unfold IsCond;simp)).cl
  refine ⟨_,zA3 (zBn (zA6 GC hr rfl DC.at_ DC.fn.kp DC.bind .nil (passC hC) (zA0 (pv 1) zA2)))
     (zA5 (zB9 (pv 0) (zAn zAz rfl T.list PyProof.Rows.boot_list (zA0 (pv 1) zA2)) rfl)),?_⟩
  refine ⟨_,rfl,l,ps,rfl,hl,h2,h60,ok,fun H1 s1=>?_⟩;refine ⟨_,rfl,l,_,rfl,.inl (SqL.of (s1 _ _ hl)),fun l2 hl2=>?_⟩;have s2:Same H1 (upd H1 l2 (.lst (ps.map V.ref))):=Same.new hl2;have e2:(upd H1 l2 (.lst (ps.map V.ref))) l2=some (.lst (ps.map V.ref)):=zA1;generalize upd H1 l2 (.lst (ps.map V.ref))=H2 at s2 e2 ⊢;have s:=s1.trans s2;have ne:l2≠p:=(zA7 (s1 _ _ hp) hl2).symm;refine ⟨_,rfl,p,A.ei,dx,[],rfl,s _ _ hp,cl,N.nEic,(by show 0 < 1000;decide),?_⟩;exact q _ l2 zA1 (by rw [zA9 ne];exact e2) (s1.free hl2) fun b o e n=>by rw [zA9 n];exact s _ _ e
end
end L2.W
namespace L2.W
open PySem My
noncomputable def clsT (A:CA):Tr→Addr
 | .leaf .always=>A.al
 | .leaf .wanted=>A.wa
 | .leaf (.is _ _)=>A.is_
 | .leaf (.meets _)=>A.me
 | .leaf (.owner _ _)=>A.ow
 | .no _=>A.no
 | .node b _=>if b then A.bo else A.ei
theorem CondAt.cls {A:CA}{H:Hp}{p:Addr}{t:Tr} (c:CondAt A H p t):∃ dx fs,H p=some (.ins (clsT A t) dx fs):=by
 cases c with
 | al e=>exact ⟨_,_,e⟩
 | wa e=>exact ⟨_,_,e⟩
 | is e=>exact ⟨_,_,e⟩
 | me e=>exact ⟨_,_,e⟩
 | ow e=>exact ⟨_,_,e⟩
 | no e _=>exact ⟨_,_,e⟩
 | bo e _ _=>exact ⟨_,_,e⟩
 | ei e _ _=>exact ⟨_,_,e⟩
theorem kd_of {CK C:Addr}{H:Hp}{q:Addr}{rs:List Row} (kd:Kd CK C H q rs) (rp:RowsP rs) {r:Row} (hr:r∈rs):∃ d kvs p dxk,KindsAt CK H q d kvs∧H q=some (.ins CK dxk (ksF (.ref d)))∧valV kvs (Sum.inr r.name)=some (.ref p)∧KF C Any H p r∧nameOk r.name∧FieldsOk r.fields:=by
 obtain ⟨d,kvs,p,ka,vv,kf⟩:=kd.kind hr;obtain ⟨⟨dxk,hq⟩,rd⟩:=id ka;exact ⟨d,kvs,p,dxk,ka,hq,vv,kf,(rp.ok r hr).1,(rp.ok r hr).2⟩
theorem zCq {A:CA} (ne:[A.al,A.wa,A.is_,A.me,A.ow,A.no,A.bo,A.ei].Nodup) {t:Tr}:(clsT A t=A.al→t=.leaf .always)∧(clsT A t=A.wa→t=.leaf .wanted)∧(clsT A t=A.is_→∃ f v,t=.leaf (.is f v))∧(clsT A t=A.me→∃ f,t=.leaf (.meets f))∧(clsT A t=A.ow→∃ f v,t=.leaf (.owner f v)) ∧
  (clsT A t=A.no→∃ t',t=.no t')∧(clsT A t=A.bo→∃ ts,t=.node true ts)∧(clsT A t=A.ei→∃ ts,t=.node false ts):=by
 simp only [List.nodup_cons,Y3,Zz,or_false,not_or,Yc,and_true,not_false_eq_true] at ne;obtain ⟨⟨a1,a2,a3,a4,a5,a6,a7⟩,⟨b1,b2,b3,b4,b5,b6⟩,⟨c1,c2,c3,c4,c5⟩,⟨d1,d2,d3,d4⟩,⟨e1,e2,e3⟩,⟨f1,f2⟩,g1⟩:=ne;rcases t with (_ | _ | _ | _ | _) | _ | ⟨(_ | _),_⟩ <;> simp [clsT,a1,a2,a3,a4,a5,a6,a7,b1,b2,b3,b4,b5,b6,c1,c2,c3,c4,c5,d1,d2,d3,d4,e1,e2,e3,f1,f2,g1,Ne.symm a1,Ne.symm a2,Ne.symm a3,Ne.symm a4,Ne.symm a5,Ne.symm a6,Ne.symm a7,Ne.symm b1,Ne.symm b2,Ne.symm b3,Ne.symm b4,Ne.symm b5,Ne.symm b6,Ne.symm c1,Ne.symm c2,Ne.symm c3,Ne.symm c4,Ne.symm c5,Ne.symm d1,Ne.symm d2,Ne.symm d3,Ne.symm d4,Ne.symm e1,Ne.symm e2,Ne.symm e3,Ne.symm f1,Ne.symm f2,Ne.symm g1]
end L2.W
namespace L2.W
open PySem My
noncomputable def nmA (b:Bool):List Str:=if b then ["a", "of", "kind", "ab"] else ["box", "lid", "a", "boxes"]
noncomputable def told (b:Bool):List Str:=if b then ["meets", "f"] else ["f", "meets"]
noncomputable def vals3:List Str:=["on", "off", "wish"]
noncomputable def nmB (x:Str):Bool:=nameB x && PyData.strOk x && decide (x.length≤8)
theorem zE0 {x:Str} (h:nmB x=true):nameOk x:=by
 unfold nmB at h;simp only [Zr,decide_eq_true_eq] at h;exact ⟨h.1.1,h.1.2,h.2⟩
theorem zDy {l:List Str} (h:l.all nmB=true):∀ x∈l,nameOk x:=fun x hx=>zE0 (List.all_eq_true.mp h x hx)
theorem nmA_ok (b:Bool):(∀ x∈nmA b,nameOk x)∧(nmA b).Nodup:=by cases b <;> exact ⟨zDy (by decide +kernel),by decide +kernel⟩
theorem told_ok (b:Bool):(∀ x∈told b,nameOk x)∧(told b).Nodup:=by cases b <;> exact ⟨zDy (by decide +kernel),by decide +kernel⟩
theorem v3_ok:(∀ x∈vals3,nameOk x)∧vals3.Nodup:=⟨zDy (by decide +kernel),by decide +kernel⟩
theorem name_in {b:Bool}{j:Nat} (hj:j < 4):(nmA b).getD j ""∈nmA b:=by
 match j,hj with
 | 0,_=>cases b <;> simp [nmA]
 | 1,_=>cases b <;> simp [nmA]
 | 2,_=>cases b <;> simp [nmA]
 | 3,_=>cases b <;> simp [nmA]
theorem _root_.My.Src.nw {H:Hp}{p b:Addr}{k:Int} (S:Src H p k) (h:H b=none):b≠p:=by obtain ⟨_,_,_,e,_⟩:=S;exact Ne.symm (zA7 e h)
theorem _root_.My.Src.up {H H':Hp}{p:Addr}{k:Int} (S:Src H p k) (s:Same H H'):Src H' p k:=by obtain ⟨a,c,i,e,r⟩:=S;exact ⟨a,c,i,s _ _ e,r⟩
theorem _root_.My.Src.le {H:Hp}{p:Addr}{k m:Int} (S:Src H p k) (h:k≤m):Src H p m:=by obtain ⟨a,c,i,e,r1,r2⟩:=S;exact ⟨a,c,i,e,r1,Int.le_trans r2 h⟩
noncomputable def ButS (p:Addr) (H H':Hp):Prop:=∀ b o,H b=some o→b≠p→H' b=some o
theorem wishes_len (fs:List (Str×List Str)):(wishes fs).length=manyA (wiA fs) + 1:=by
 unfold wishes;rw [Zj,Z0,zFf]
theorem now_len (r:Row):(nowS r).length=manyOf r.fields + 1:=by
 unfold nowS;rw [Zj,Z0,zFf,many_stA]
theorem ownS_le {rs:List Row} (rp:RowsP rs) {m:Nat} (h1:1≤m) (hm:∀ r∈rs,manyOf r.fields≤m) {r:Row} (hr:r∈rs):(ownS rs r).length≤m:=by
 cases e:r.owner with
 | none=>rw [ownS_none e];exact h1
 | some o =>
  obtain ⟨r',h2,rfl⟩:=rp.ownIn r hr o e;rw [ownS_some rp h2 e,Z0,zFf,many_stA];exact hm r' h2
theorem sits_le {rs:List Row} (rp:RowsP rs) {m a b:Nat} (h1:1≤m) (hm:∀ r∈rs,manyOf r.fields≤m) {r:Row} (hr:r∈rs) (ha:manyA (wiA r.fields)≤a) (hb:manyOf r.fields≤b):(sitsOf rs r).length≤(a + 1) * (m * (b + 1)):=by
 rw [sits_len,wishes_len,now_len];exact Nat.mul_le_mul (by omega) (Nat.mul_le_mul (ownS_le rp h1 hm hr) (by omega))
noncomputable def mkF (b:Bool) (n:Nat):List (Str×List Str):=[((told b).getD 0 "",vals3.take n),((told b).getD 1 "",vals3.take 2)]
theorem vals_ok {n:Nat} (h2:2≤n) (h3:n≤3):ValsOk (vals3.take n):=by
 have l:(vals3.take n).length=n:=by rw [Zl];show min n 3=n;omega
 exact ⟨by omega,by omega,v3_ok.2.sublist (List.take_sublist n _),fun x hx=>v3_ok.1 x (Yj hx)⟩
theorem told_in {b:Bool}{j:Nat} (hj:j < 2):(told b).getD j ""∈told b:=by
 match j,hj with
 | 0,_=>cases b <;> exact Zg
 | 1,_=>cases b <;> exact Zb _ Zg
theorem mkF_ok (b:Bool) {n m:Nat} (h2:2≤n) (h3:n≤3) (hm:m≤2):FieldsOk ((mkF b n).take m)∧(m≤1→manyOf ((mkF b n).take m)≤3∧manyA (wiA ((mkF b n).take m))≤4)∧manyOf ((mkF b n).take m)≤6∧manyA (wiA ((mkF b n).take m))≤12:=by
 obtain ⟨o1,o2⟩:=told_ok b;have l1:(vals3.take n).length=n:=by rw [Zl];show min n 3=n;omega
 have l2:(vals3.take 2).length=2:=rfl;have okf:∀ f∈mkF b n,nameOk f.1∧ValsOk f.2:=fun f hf=>by
  have:f=((told b).getD 0 "",vals3.take n)∨f=((told b).getD 1 "",vals3.take 2):=by simpa [mkF] using hf
  rcases this with rfl | rfl
  ·exact ⟨o1 _ (told_in (by decide)),vals_ok h2 h3⟩
  ·exact ⟨o1 _ (told_in (by decide)),vals_ok (Z7 _) (by decide)⟩
 have nm:(mkF b n).map (·.1)=told b:=by cases b <;> rfl
 have ndm:(((mkF b n).take m).map (·.1)).Nodup:=by rw [List.map_take,nm];exact o2.sublist (List.take_sublist m _)
 have e0:manyOf [((told b).getD 0 "",vals3.take n)]=n:=by show 1 * (vals3.take n).length=n;rw [l1];omega
 have e1:manyA (wiA [((told b).getD 0 "",vals3.take n)])=n + 1:=by show 1 * (none :: (vals3.take n).map some).length=n + 1;rw [Zj,Z0,l1];omega
 have e2:manyOf (mkF b n)=n * 2:=by show 1 * (vals3.take n).length * 2=n * 2;rw [l1];omega
 have e3:manyA (wiA (mkF b n))=(n + 1) * 3:=by show 1 * (none :: (vals3.take n).map some).length * 3=(n + 1) * 3;rw [Zj,Z0,l1];omega
 match m,hm with
 | 0,_=>exact ⟨⟨by show 0≤3;decide,Yc,(fun f hf=>nomatch hf),by show 1≤8;decide⟩,fun _=>⟨by show 1≤3;decide,by show 1≤4;decide⟩,by show 1≤6;decide,by show 1≤12;decide⟩
 | 1,_ =>
  have et:(mkF b n).take 1=[((told b).getD 0 "",vals3.take n)]:=rfl;rw [et] at ndm ⊢;rw [e0,e1];exact ⟨⟨by show 1≤3;decide,ndm,fun f hf=>okf f (by rw [List.mem_singleton.mp hf];exact Zg),by rw [e0];omega⟩,fun _=>⟨by omega,by omega⟩,by omega,by omega⟩
 | 2,_ =>
  have et:(mkF b n).take 2=mkF b n:=rfl;rw [et] at ndm ⊢;rw [e2,e3];exact ⟨⟨by show 2≤3;decide,ndm,okf,by rw [e2];omega⟩,fun c=>absurd c (by decide),by omega,by omega⟩
structure DrawI (bn:Bool) (rs:List Row):Prop where
 row:RowsI rs
 nm:rs.map (·.name)=(nmA bn).take rs.length
 bd:∀ (j:Nat) (r:Row),rs[j]? = some r→manyOf r.fields≤6∧manyA (wiA r.fields)≤12∧∀ f∈r.fields,f.1≠"g"
theorem mkF_g (b:Bool) {n m:Nat}:∀ f∈(mkF b n).take m,f.1≠"g":=fun f hf=>by
 have h:=Yj hf;unfold mkF at h;rcases List.mem_cons.mp h with rfl | h
 ·show (told b).getD 0 ""≠"g";cases b <;> decide +kernel
 ·rw [List.mem_singleton.mp h];show (told b).getD 1 ""≠"g";cases b <;> decide +kernel
structure Drawn (H H':Hp) (l:Addr) (rs:List Row):Prop where
 has:Has (fun a=>H a=none) H' (.ref l) (.list (rs.map rowD))
 ok:RowsOk rs
 le:rs.length≤3
 fit:∀ r∈rs,(sitsOf rs r).length≤1000
 noG:∀ r∈rs,∀ f∈r.fields,f.1≠"g"
 nmI:∃ bn,∀ r∈rs,r.name∈nmA bn
theorem DrawI.done {bn:Bool}{rs:List Row} (d:DrawI bn rs) (h1:1≤rs.length) (h3:rs.length≤3):RowsOk rs∧(∀ r∈rs,(sitsOf rs r).length≤1000)∧(∀ r∈rs,∀ f∈r.fields,f.1≠"g")∧∀ r∈rs,r.name∈nmA bn:=by
 have ok:RowsOk rs:=⟨by omega,by omega,by rw [d.nm];exact (nmA_ok bn).2.sublist (List.take_sublist _ _),d.row.ok,d.row.own⟩;have rp:RowsP rs:=⟨_,ok,List.Perm.refl _⟩;have m6:∀ r∈rs,manyOf r.fields≤6:=fun r hr=>by
  obtain ⟨i,e⟩:=List.mem_iff_getElem?.mp hr;exact (d.bd i r e).1
 refine ⟨ok,fun r hr=>?_,fun r hr=>?_,fun r hr=>Yj (d.nm ▸ List.mem_map_of_mem (f:=fun r:Row=>r.name) hr)⟩
 ·obtain ⟨i,e⟩:=List.mem_iff_getElem?.mp hr;exact Zo (sits_le rp (m:=6) (a:=12) (b:=6) (by decide) m6 hr (d.bd i r e).2.1 (d.bd i r e).1) (by decide)
 ·obtain ⟨i,e⟩:=List.mem_iff_getElem?.mp hr;exact (d.bd i r e).2.2
noncomputable def spKinds:Sp:=fun vs H Q _=>∃ (p:Addr) (k:Int),vs=[.ref p]∧Src H p k∧k≤800000 ∧
 ∀ (l:Addr) (rs:List Row) (H':Hp),Drawn H H' l rs→Src H' p (k + 60)→ButS p H H'→Q (.ref l) H'
theorem cut_takeN {xs:List V}{j:Nat} (h:j≤xs.length):cutV xs none (some (j:Int))=xs.take j:=by
 have n:¬ ((j:Int) < 0):=by omega
 unfold cutV HT.sIx;simp [n,Nat.min_eq_left h]
theorem told_at {b:Bool}{j:Nat} (hj:j < 2):((told b).map V.str)[j]? = some (.str ((told b).getD j "")):=by
 match j,hj with
 | 0,_=>cases b <;> rfl
 | 1,_=>cases b <;> rfl
theorem mkF_step {b:Bool}{n nn j:Nat} (hj:j < 2) (h:j≠0→nn=2):(mkF b (if j=0 then nn else n)).take (j + 1)=(mkF b n).take j++[((told b).getD j "",vals3.take nn)]:=by
 match j,hj,h with
 | 0,_,_=>rfl
 | 1,_,h=>rw [h (by decide)];rfl
theorem names_at {b:Bool}{i:Nat} (h:i < 4):(nmA b)[i]? = some ((nmA b).getD i ""):=by
 match i,h with
 | 0,_=>cases b <;> rfl
 | 1,_=>cases b <;> rfl
 | 2,_=>cases b <;> rfl
 | 3,_=>cases b <;> rfl
theorem DrawI.snoc {bn:Bool}{rs:List Row} (d:DrawI bn rs) (hl:rs.length < 4) {fs:List (Str×List Str)}{o:Option Str} (fo:FieldsOk fs) (b1:manyOf fs≤6) (b2:manyA (wiA fs)≤12) (bg:∀ f∈fs,f.1≠"g")
  (ho:∀ x,o=some x→∃ (j:Nat) (r':Row),rs[j]? = some r'∧r'.name=x):DrawI bn (rs++[⟨(nmA bn).getD rs.length "",fs,o⟩]):=by
 refine ⟨d.row.snoc ⟨(nmA_ok bn).1 _ (name_in hl),fo⟩ ho,?_,fun j r e=>?_⟩
 ·rw [Z2,d.nm,Zc,List.length_singleton,Z4,names_at hl];rfl
 ·by_cases c:j < rs.length
  ·rw [Zn c] at e;exact d.bd j r e
  ·have ej:j=rs.length:=by
    have:=(List.getElem?_eq_some_iff.mp e).1;rw [Zc,List.length_singleton] at this;omega
   subst ej;rw [Zt (Z7 _),Nat.sub_self] at e;cases e;exact ⟨b1,b2,bg⟩
end L2.W
namespace L2.W
open PySem My
section
variable {P:Program}{w:World}{K:PySem.W.Frag}{mg:Str→Option Value}{base:Heap}{CX:CXT}
theorem scKi:FnScope ["_law_source", "_law_names", "_law_wide", "_law_fields_named", "_law_found", "_law_k", "_law_fields_here", "_law_j", "_law_values", "_law_owner_here"] ["_law_source"] (defScope sKinds):=⟨rfl,rfl,rfl,by decide +kernel,rfl,by decide +kernel,by decide +kernel⟩
set_option maxHeartbeats 2000000 in
theorem ok_kinds31 {f fn:Addr}{fd fdn:FuncData} (hC:Calm CX) (T:Tops K mg) (F:Fun K "_law_kinds" "_law_kinds" sKinds f fd) (Dn:Def K mg "_law_next" sNext ["_law_source", "_law_many"] fn fdn) (Gn:FnOk P w K mg base CX 2 fn fdn ["_law_source", "_law_many"] spNext):FnOk P w K mg base CX 3 f fd ["_law_source"] spKinds:=by
 refine Fun.okC F scKi (fun vs H Q E h=>?_) (fun cdv A outer s H vs Q E hr h=>?_)
 ·obtain ⟨p,k,rfl,_⟩:=h;rfl
 ·obtain ⟨p,k,rfl,S0,k9,q⟩:=h;have nd:=scKi.nd
  refine ⟨_,zA3 (zAk (i:=1) nd rfl (Or.inl rfl) (zAh zAr (zAm (zA0 (zAm (zA0 zAf (zA0 zAf (zA0 zAf (zA0 zAf zA2))))) (zA0 (zAm (zA0 zAf (zA0 zAf (zA0 zAf (zA0 zAf zA2))))) zA2))) (zA6 Gn hr rfl Dn.at_ Dn.fn.kp Dn.bind .nil (passC hC) (zA0 (pv 0) (zA0 zA4 zA2))) (fun _ _=>rfl)))
     (zA3 (zAk (i:=2) nd rfl (Or.inl rfl) (zA6 Gn hr rfl Dn.at_ Dn.fn.kp Dn.bind .nil (passC hC) (zA0 (pv 0) (zA0 zA4 zA2))))
     (zA3 (zAk (i:=3) nd rfl (Or.inl rfl) (zEt (zAm (zA0 zAf (zA0 zAf zA2))) (zAh zAr (zAm (zA0 zA4 (zA0 (pe_un un_neg zA4) zA2))) (zA6 Gn hr rfl Dn.at_ Dn.fn.kp Dn.bind .nil (passC hC) (zA0 (pv 0) (zA0 zA4 zA2))) (fun _ _=>rfl))))
     (zA3 (zAk (i:=4) nd rfl (Or.inl rfl) (zAm zA2))
     (zA3 (zCv PassesOwn.never rfl (zBq rfl T.range (zA0 (zAx zBs zA4 (zA6 Gn hr rfl Dn.at_ Dn.fn.kp Dn.bind .nil (passC hC) (zA0 (pv 0) (zA0 zA4 zA2)))) zA2)) (zAd (i:=5) nd rfl (Or.inl rfl))
     (zA3 (zAk (i:=6) nd rfl (Or.inl rfl) (zAm zA2))
     (zA3 (zCv PassesOwn.never rfl (zBq rfl T.range (zA0 (zAa (call_min2 rfl) rfl T.min PyProof.Rows.boot_min (zA0 (zAh zAr (zAm (zA0 zA4 (zA0 zA4 (zA0 zA4 (zA0 zA4 zA2))))) (zA6 Gn hr rfl Dn.at_ Dn.fn.kp Dn.bind .nil (passC hC) (zA0 (pv 0) (zA0 zA4 zA2))) (fun _ _=>rfl)) (zA0 (zAx zBs zA4 (zAn zC8 rfl T.int PyProof.Rows.boot_int (zA0 (zB0 zBc (pv 5) (pv 2) (nomark _)) zA2))) zA2))) zA2)) (zAd (i:=7) nd rfl (Or.inl rfl))
     (zA3 (zAk (i:=8) nd rfl (Or.inl rfl) (zBp zDr (zAm (zA0 zAf (zA0 zAf (zA0 zAf zA2)))) zCx (zCa (zAx zBs zA4 (zAx zDj (zA6 Gn hr rfl Dn.at_ Dn.fn.kp Dn.bind .nil (passC hC) (zA0 (pv 0) (zA0 zA4 zA2))) (zAn zC8 rfl T.int PyProof.Rows.boot_int (zA0 (zB0 zBc (pv 7) zA4 (nomark _)) zA2)))))))
     (zA5 (zBn (pe_bm PySem.F.plainAttrs_list PySem.F.slot_list_append PySem.F.type_list_append zCl (pv 6) (zA0 (zB8 (zA0 (zAh zAr (pv 3) (pv 7) (fun _ _=>rfl)) (zA0 (pv 8) zA2))) zA2))))))
     (zA3 (zAk (i:=9) nd rfl (Or.inl rfl) (zAh zAr (zAx zDx (zAm (zA0 zBo zA2)) (zAt (T:=["_law_one"]) rfl ScOk.auto (zAj (pv 4)) (fun _ _ _ _=>zAd (i:=10) (by decide +kernel:(["_law_source", "_law_names", "_law_wide", "_law_fields_named", "_law_found", "_law_k", "_law_fields_here", "_law_j", "_law_values", "_law_owner_here", "_law_one"]:List Str).Nodup) rfl (Or.inl rfl)) (fun _ _ _ _=>zAy) (fun _ _ _ _=>(zAh (r:=rIxT K) zAi (pv 10) zA4 (fun _ _=>rfl))))) (zA6 Gn hr rfl Dn.at_ Dn.fn.kp Dn.bind .nil (passC hC) (zA0 (pv 0) (zA0 (zAx zBs (pv 5) zA4) zA2))) (fun _ _=>rfl)))
     (zA5 (zBn (pe_bm PySem.F.plainAttrs_list PySem.F.slot_list_append PySem.F.type_list_append zCl (pv 4) (zA0 (zB8 (zA0 (zAh zAr (pv 1) (pv 5) (fun _ _=>rfl)) (zA0 (pv 6) (zA0 (pv 9) zA2)))) zA2))))))))
     (zA5 (zAc (pv 4))))))),?_⟩
  have small:∀ n:Nat,n≤1000→n≤sizeLine:=fun n h=>Zi (small1000 h);have hp:H p≠none:=by obtain ⟨_,_,_,e,_⟩:=S0;rw [e];exact fun z=>nomatch z
  have fresh:∀ {H':Hp}{j:Int},ButS p H H'→Src H' p j→∀ {b:Addr},H' b=none→H b=none:=fun {H' j} bs S b hb=>by
   by_cases c:b=p
   ·subst c;exact absurd hb (by obtain ⟨_,_,_,e,_⟩:=S;rw [e];exact fun z=>nomatch z)
   ·cases e:H b with
    | none=>rfl
    | some o=>rw [bs b o e c] at hb;cases hb
  have sH:∀ {x:Str}{G:Addr→Prop}{H':Hp},nameOk x→Has G H' (.str x) (.str x):=fun h=>.str _ (Zo h.2.2 (by decide)) h.2.1;refine ⟨small 4 (by decide),fun la hla=>⟨small 4 (by decide),fun lb hlb=>⟨small 2 (by decide),fun lo hlo=>?_⟩⟩⟩;have u2:=Same.new (o:=HO.lst [.str "box",.str "lid",.str "a",.str "boxes"]) hla;have u3:=Same.new (o:=HO.lst [.str "a",.str "of",.str "kind",.str "ab"]) hlb;have u4:=Same.new (o:=HO.lst [.ref la,.ref lb]) hlo;have w2:=(u3.trans u4) _ _ (zA1 (H:=H) (a:=la) (o:=.lst [.str "box",.str "lid",.str "a",.str "boxes"]));have w3:=u4 _ _ (zA1 (a:=lb) (o:=.lst [.str "a",.str "of",.str "kind",.str "ab"]));have w4:(upd (upd (upd H la (.lst [.str "box",.str "lid",.str "a",.str "boxes"])) lb (.lst [.str "a",.str "of",.str "kind",.str "ab"])) lo (.lst [.ref la,.ref lb])) lo=some (.lst [.ref la,.ref lb]):=zA1;have U:=u2.trans (u3.trans u4);have nab:la≠p∧lb≠p∧lo≠p:=⟨S0.nw hla,(S0.up u2).nw hlb,(S0.up (u2.trans u3)).nw hlo⟩;have S1:=S0.up U;clear u2 u3 u4;generalize upd (upd (upd H la (.lst [.str "box",.str "lid",.str "a",.str "boxes"])) lb (.lst [.str "a",.str "of",.str "kind",.str "ab"])) lo (.lst [.ref la,.ref lb])=H1 at w2 w3 w4 U S1 ⊢;refine ⟨_,rfl,p,2,_,rfl,S1,by omega,by decide,by decide,fun r0 H2 a0 a1 S2 k2=>?_⟩;obtain ⟨bn,ln,hln0,hat,nln⟩:∃ (b:Bool) (lt:Addr),H2 lt=some (.lst ((nmA b).map V.str))∧atI [V.ref la,V.ref lb] r0=some (.ref lt)∧lt≠p:=by
   have:r0=0∨r0=1:=by omega
   rcases this with rfl | rfl
   ·exact ⟨false,la,by rw [k2 la nab.1];exact w2,rfl,nab.1⟩
   ·exact ⟨true,lb,by rw [k2 lb nab.2.1];exact w3,rfl,nab.2.1⟩
  refine ⟨lo,_,r0,_,rfl,rfl,SqL.of (by rw [k2 lo nab.2.2];exact w4),hat,?_⟩;have B2:ButS p H H2:=fun b o e n=>by rw [k2 b n];exact U _ _ e
  clear w2 w3 w4 U nab k2 hla hlb hlo S1 hat;refine ⟨_,rfl,p,3,_,rfl,S2,by omega,by decide,by decide,fun r3 H3 e0 e1 S3 k3=>?_⟩;obtain ⟨wide,rfl⟩:∃ j:Nat,r3=(j:Int):=⟨r3.toNat,by omega⟩;have B3:ButS p H H3:=fun b o e n=>by rw [k3 b n];exact B2 _ _ e n
  have x3n:H3 ln=some (.lst ((nmA bn).map V.str)):=by rw [k3 ln nln];exact hln0
  refine ⟨small 2 (by decide),fun l4 hl4=>⟨1,rfl,small 2 (by decide),fun l5 hl5=>?_⟩⟩;have u4:=Same.new (o:=HO.lst [.str "f",.str "meets"]) hl4;have u5:=Same.new (o:=HO.lst [.int 1,.int (-1)]) hl5;have w4:=u5 _ _ (zA1 (H:=H3) (a:=l4) (o:=.lst [.str "f",.str "meets"]));have w5:(upd (upd H3 l4 (.lst [.str "f",.str "meets"])) l5 (.lst [.int 1,.int (-1)])) l5=some (.lst [.int 1,.int (-1)]):=zA1;have nl4:=S3.nw hl4;have nl5:=(S3.up u4).nw hl5;have U:=u4.trans u5;have S4:=S3.up U;generalize upd (upd H3 l4 (.lst [.str "f",.str "meets"])) l5 (.lst [.int 1,.int (-1)])=H4 at w4 w5 U S4 ⊢;clear u4 u5;refine ⟨_,rfl,p,2,_,rfl,S4,by omega,by decide,by decide,fun r5 H5 a5 b5 S5 k5=>?_⟩;have B5:ButS p H H5:=fun b o e n=>by rw [k5 b n];exact U _ _ (B3 _ _ e n)
  have x5n:H5 ln=some (.lst ((nmA bn).map V.str)):=by rw [k5 ln nln];exact U _ _ x3n
  obtain ⟨b,st,hst,hs1,hsl⟩:∃ (b:Bool) (st:Int),atI [V.int 1,V.int (-1)] r5=some (.int st)∧(st=1∨st = -1)∧stepL st [V.str "f",V.str "meets"]=(told b).map V.str:=by
   have:r5=0∨r5=1:=by omega
   rcases this with rfl | rfl
   ·exact ⟨false,1,rfl,.inl rfl,rfl⟩
   ·exact ⟨true,-1,rfl,.inr rfl,rfl⟩
  refine ⟨l5,_,r5,_,rfl,rfl,SqL.of (by rw [k5 l5 nl5];exact w5),hst,l4,_,st,rfl,rfl,hs1,SqL.of (by rw [k5 l4 nl4];exact w4),fun lt hlt=>?_⟩;rw [hsl];have s6:=Same.new (o:=HO.lst ((told b).map V.str)) hlt;have x6:(upd H5 lt (.lst ((told b).map V.str))) lt=some (.lst ((told b).map V.str)):=zA1;have nlt0:lt≠p:=S5.nw hlt;have S7:=S5.up s6;have x7:=s6 _ _ x5n;have B7:ButS p H (upd H5 lt (.lst ((told b).map V.str))):=fun b o e n=>s6 _ _ (B5 _ _ e n);generalize upd H5 lt (.lst ((told b).map V.str))=H7 at s6 x6 S7 x7 B7 ⊢;clear w4 w5 U S4 k5 S5 B5 x5n hst hs1 hsl hl4 hl5 nl4 nl5 S3 B3 x3n k3 S2 B2 hln0 s6;refine ⟨Zm _,fun lg hlg=>?_⟩;have s8:=Same.new (o:=.lst []) hlg;have x8:(upd H7 lg (.lst [])) lg=some (.lst []):=zA1;have nlg:lg≠p:=S7.nw hlg;have flg:H lg=none:=fresh B7 S7 hlg;have ngn:ln≠lg:=zA7 x7 hlg;have S8:=S7.up s8;have B8:ButS p H (upd H7 lg (.lst [])):=fun b o e n=>s8 _ _ (B7 _ _ e n);have x8n:=s8 _ _ x7;have x8t:=s8 _ _ x6;generalize upd H7 lg (.lst [])=H8 at s8 x8 S8 B8 x8n x8t ⊢;refine ⟨_,rfl,p,3,_,rfl,S8,by omega,by decide,by decide,fun r4 H9 f0 f1 S9 k9'=>⟨_,_,rfl,rfl,?_⟩⟩;obtain ⟨n4,rfl⟩:∃ j:Nat,r4=(j:Int):=⟨r4.toNat,by omega⟩;have B9:ButS p H H9:=fun b o e n=>by rw [k9' b n];exact B8 _ _ e n
  have x9n:H9 ln=some (.lst ((nmA bn).map V.str)):=by rw [k9' ln nln];exact x8n
  have x9g:H9 lg=some (.lst []):=by rw [k9' lg nlg];exact x8
  have ntg:lt≠lg:=zA7 x6 hlg;have x9t:H9 lt=some (.lst ((told b).map V.str)):=by rw [k9' lt nlt0];exact x8t
  refine ⟨((n4 + 1:Nat):Int),congrArg (fun z:Int=>[V.int z]) (show (1:Int) + (n4:Int)=((n4 + 1:Nat):Int) by omega),by omega,by omega,zE6 (n:=n4 + 1) (fun i σ H'=>∃ (x5 x6 x7 x8 x9:Option V) (rs:List Row) (zs:List V),σ = [some (.ref p),some (.ref ln),some (.int (wide:Nat)),some (.ref lt),some (.ref lg),x5,x6,x7,x8,x9]∧rs.length=i∧DrawI bn rs∧(∀ b o,H9 b=some o→b≠p→b≠lg→H' b=some o)∧Src H' p (k + 5 + 10 * i)∧H' lg=some (.lst zs)∧HasAll (fun a=>H a=none∧a≠lg) H' zs (rs.map rowD))
   ⟨_,_,_,_,_,[],[],rfl,rfl,⟨⟨(fun r h=>nomatch h),fun i r o e=>by simp at e⟩,rfl,fun j r e=>by simp at e⟩,fun _ _ e _ _=>e,S9.le (by omega),x9g,.nil⟩ ?_ ?_⟩
  ·rintro i σ H10 hi ⟨y5,y6,y7,y8,y9,rs,zs,rfl,rl,dI,g10,S10,h10,hz10⟩;rw [Int.zero_add];have i3:i < 3:=by omega
   refine ⟨Zm _,fun lfl hlfl=>?_⟩;have u1:=Same.new (o:=HO.lst []) hlfl;have z12:(upd H10 lfl (.lst [])) lfl=some (.lst []):=zA1;have Bt:∀ {Hy:Hp},Same H10 Hy→ButS p H Hy:=fun s b o e n=>s _ _ (g10 _ _ (B9 _ _ e n) n (zA7 e flg));have F1:H lfl=none:=fresh (Bt (Same.refl _)) S10 hlfl;have nfl:lfl≠p∧lfl≠lg∧True:=⟨S10.nw hlfl,(zA7 h10 hlfl).symm,trivial⟩;have t10:H10 lt=some (.lst ((told b).map V.str)):=g10 _ _ x9t nlt0 ntg;have nlt:lt≠p∧lt≠lfl:=⟨nlt0,zA7 t10 hlfl⟩;have hlt:=u1 _ _ t10;have S12:=S10.up u1;have g12:∀ b o,H10 b=some o→b≠p→(upd H10 lfl (.lst [])) b=some o:=fun b o e n=>u1 _ _ e;generalize upd H10 lfl (.lst [])=H12 at u1 z12 hlt S12 g12 ⊢;refine ⟨small 4 (by decide),fun lm hlm=>?_⟩;have u5:=Same.new (o:=HO.lst [.int 1,.int 2,.int 1,.int 0]) hlm;have w5:(upd H12 lm (.lst [.int 1,.int 2,.int 1,.int 0])) lm=some (.lst [.int 1,.int 2,.int 1,.int 0]):=zA1;have nlm:lm≠p:=S12.nw hlm;have S13:=S12.up u5;generalize upd H12 lm (.lst [.int 1,.int 2,.int 1,.int 0])=H13 at u5 w5 S13 ⊢;refine ⟨_,rfl,p,4,_,rfl,S13,by omega,by decide,by decide,fun r6 H14 a6 b6 S14 k14=>?_⟩;obtain ⟨m0,hm0,hm2⟩:∃ m0:Nat,atI [V.int 1,V.int 2,V.int 1,V.int 0] r6=some (.int (m0:Nat))∧m0≤2:=by
    have:r6=0∨r6=1∨r6=2∨r6=3:=by omega
    rcases this with rfl | rfl | rfl | rfl
    ·exact ⟨1,rfl,by decide⟩
    ·exact ⟨2,rfl,by decide⟩
    ·exact ⟨1,rfl,by decide⟩
    ·exact ⟨0,rfl,by decide⟩
   obtain ⟨m,hm,mle,mw⟩:∃ m:Nat,(if (1:Int) + (if decide (V.int (i:Int)=V.int (wide:Int))=true then 1 else 0) < (m0:Int) then (1:Int) + (if decide (V.int (i:Int)=V.int (wide:Int))=true then 1 else 0) else (m0:Int))=(m:Int)∧m≤2∧(i≠wide→m≤1):=by
    by_cases c:i=wide
    ·rw [decide_eq_true (by rw [c])];refine ⟨m0,?_,hm2,fun z=>absurd c z⟩;rw [if_pos rfl,if_neg (by omega)]
    ·rw [decide_eq_false (fun z=>c (by have:=V.int.inj z;omega))];by_cases c2:(1:Int) < (m0:Int)
     ·exact ⟨1,by rw [if_neg Ze,if_pos (by omega)];rfl,by decide,fun _=>by decide⟩
     ·exact ⟨m0,by rw [if_neg Ze,if_neg (by omega)],hm2,fun _=>by omega⟩
   have g14:∀ b o,H10 b=some o→b≠p→H14 b=some o:=fun b o e n=>by rw [k14 b n];exact u5 _ _ (g12 _ _ e n)
   have z14:H14 lfl=some (.lst []):=by rw [k14 lfl nfl.1];exact u5 _ _ z12
   have t14:H14 lt=some (.lst ((told b).map V.str)):=by rw [k14 lt nlt.1];exact u5 _ _ hlt
   refine ⟨lm,_,r6,_,rfl,rfl,SqL.of (by rw [k14 lm nlm];exact w5),hm0,_,rfl,_,rfl,rfl,.inr ⟨_,rfl,_,_,rfl,rfl,_,_,rfl,(m:Int),congrArg (fun z:Int=>[V.int z]) hm,by omega,by omega,zE6 (n:=m) (fun j σ H'=>∃ (x8 x9:Option V) (n:Nat) (fz:List V),σ = [some (.ref p),some (.ref ln),some (.int (wide:Nat)),some (.ref lt),some (.ref lg),some (.int (i:Nat)),some (.ref lfl),x8,x9,y9]∧2≤n∧n≤3∧(∀ b o,H14 b=some o→b≠p→b≠lfl→H' b=some o)∧Src H' p (k + 5 + 10 * i + 2 + j)∧H' lfl=some (.lst fz)∧HasAll (fun a=>H a=none∧a≠lg∧a≠lfl) H' fz (((mkF b n).take j).map fieldD))
    ⟨_,_,2,[],rfl,by decide,by decide,fun _ _ e _ _=>e,S14.le (by omega),z14,.nil⟩ ?_ ?_⟩⟩
   ·rintro j σ H15 hj ⟨z8,z9,n,fz,rfl,n2,n3,g15,S15,h15,hf15⟩;rw [Int.zero_add];refine ⟨small 3 (by decide),fun lv hlv=>?_⟩;have u6:=Same.new (o:=HO.lst [.str "on",.str "off",.str "wish"]) hlv;have w6:(upd H15 lv (.lst [.str "on",.str "off",.str "wish"])) lv=some (.lst [.str "on",.str "off",.str "wish"]):=zA1;have nlv:lv≠p:=S15.nw hlv;have S16:=S15.up u6;generalize upd H15 lv (.lst [.str "on",.str "off",.str "wish"])=H16 at u6 w6 S16 ⊢;refine ⟨_,rfl,p,2,_,rfl,S16,by omega,by decide,by decide,fun r7 H17 a7 b7 S17 k17=>?_⟩;refine ⟨_,rfl,rfl,.inr ⟨_,rfl,_,_,rfl,rfl,?_,_,_,rfl,rfl,_,rfl,lv,_,rfl,SqL.of (by rw [k17 lv nlv];exact w6),fun l9 hl9=>?_⟩⟩
    ·have:r7 < 2:=by omega
     exact .inl ⟨by omega,by omega⟩
    obtain ⟨nn,hnn,nn2,nn3,nnj⟩:∃ nn:Nat,(2:Int) + r7 * (if decide (V.int (j:Int)=V.int 0)=true then 1 else 0)=(nn:Int)∧2≤nn∧nn≤3∧(j≠0→nn=2):=by
     by_cases c:j=0
     ·rw [decide_eq_true (by rw [c];rfl),if_pos rfl];exact ⟨(2 + r7).toNat,by omega,by omega,by omega,fun z=>absurd c z⟩
     ·rw [decide_eq_false (fun z=>c (by have:=V.int.inj z;omega)),if_neg Ze];exact ⟨2,by omega,by decide,by decide,fun _=>rfl⟩
    have hcut:cutV [V.str "on",V.str "off",V.str "wish"] none (some ((2:Int) + r7 * (if decide (V.int (j:Int)=V.int 0)=true then 1 else 0)))=(vals3.take nn).map V.str:=by
     rw [hnn,cut_takeN (by show nn≤3;exact nn3),List.map_take];rfl
    rw [hcut];have j2:j < 2:=by omega
    have B17:∀ b o,H15 b=some o→b≠p→H17 b=some o:=fun b o e n=>by rw [k17 b n];exact u6 _ _ e
    have u7:=Same.new (o:=HO.lst ((vals3.take nn).map V.str)) hl9;have w7:(upd H17 l9 (.lst ((vals3.take nn).map V.str))) l9=some (.lst ((vals3.take nn).map V.str)):=zA1;have S18:=S17.up u7;have nl9:l9≠p∧l9≠lfl∧l9≠lg:=⟨S17.nw hl9,(zA7 (B17 _ _ h15 nfl.1) hl9).symm,(zA7 (B17 _ _ (g15 _ _ (g14 _ _ h10 nlg) nlg nfl.2.1.symm) nlg) hl9).symm⟩;have Bn:∀ {Hy:Hp},(∀ b o,H17 b=some o→Hy b=some o)→ButS p H Hy:=fun s b o e n=>s _ _ (B17 _ _ (g15 _ _ (g14 _ _ (g10 _ _ (B9 _ _ e n) n (zA7 e flg)) n) n (zA7 e F1)) n);have F9:H l9=none:=fresh (Bn fun _ _ e=>e) S17 hl9;generalize upd H17 l9 (.lst ((vals3.take nn).map V.str))=H18 at u7 w7 S18 ⊢;have h18:=u7 _ _ (B17 _ _ h15 nfl.1);have t18:=u7 _ _ (B17 _ _ (g15 _ _ t14 nlt.1 nlt.2) nlt.1);have hnm:=told_at (b:=b) j2;generalize hnmD:(told b).getD j "" = nm at hnm;have fzl:fz.length≤2:=by rw [hf15.length,Z0];have:=Zu j (mkF b n);have:(mkF b n).length=2:=rfl;omega
    refine ⟨_,rfl,.inl ⟨rfl,fz,SqL.of h18⟩,_,rfl,_,rfl,lt,_,((j:Nat):Int),_,rfl,rfl,SqL.of t18,zBw hnm,_,rfl,small 2 (by decide),fun tr htr=>⟨lfl,fz,.ref tr,rfl,rfl,(Same.new htr) _ _ h18,small1000 (by omega),?_⟩⟩;have ntr:tr≠p∧tr≠lfl∧tr≠lg:=⟨S18.nw htr,(zA7 h18 htr).symm,(zA7 (u7 _ _ (B17 _ _ (g15 _ _ (g14 _ _ h10 nlg) nlg nfl.2.1.symm) nlg)) htr).symm⟩;have Ftr:H tr=none:=fresh (Bn u7) S18 htr;have gE:∀ c o,H15 c=some o→c≠p→c≠lfl→(upd (upd H18 tr (.tup [.str nm,.ref l9])) lfl (.lst (fz++[.ref tr]))) c=some o:=fun c o e n1 n2=>by
     rw [zA9 n2];exact (Same.new htr) _ _ (u7 _ _ (B17 _ _ e n1))
    refine ⟨_,_,if j=0 then nn else n,fz++[.ref tr],rfl,by split <;> omega,by split <;> omega,fun c o e n1 n2=>gE _ _ (g15 _ _ e n1 n2) n1 n2,?_,zA1,?_⟩
    ·obtain ⟨a',c',j',e',r'⟩:=S18.up (Same.new (o:=HO.tup [.str nm,.ref l9]) htr);exact ⟨a',c',j',by rw [zA9 nfl.1.symm];exact e',r'.1,by have:=r'.2;push_cast;omega⟩
    ·have et:=mkF_step (b:=b) (n:=n) (nn:=nn) j2 nnj;rw [hnmD] at et;rw [et,Z2];refine HasAll.snoc (hf15.frame fun c o g e=>⟨g,gE _ _ e (fun z=>hp (z ▸ g.1)) g.2.2⟩) ?_;exact .tup ⟨Ftr,ntr.2.2,ntr.2.1⟩ (by rw [zA9 ntr.2.1];exact zA1) (by show 2≤1000;decide) (.cons (sH (by rw [← hnmD];exact (told_ok b).1 _ (told_in j2))) (.cons (.lst ⟨F9,nl9.2.2,nl9.2.1⟩ (by rw [zA9 nl9.2.1];exact (Same.new htr) _ _ w7) (by rw [Z0,Zl];omega) (zBu (vals_ok nn2 nn3).ok)) .nil))
   ·rintro σ H15 ⟨z8,z9,n,fz,rfl,n2,n3,g15,S15,h15,hf15⟩;obtain ⟨fok,fm1,fm2,fm3⟩:=mkF_ok b n2 n3 mle;have fmg:=mkF_g b (n:=n) (m:=m);generalize (mkF b n).take m=fs at hf15 fok fm1 fm2 fm3 fmg;have hg15:H15 lg=some (.lst zs):=g15 _ _ (g14 _ _ h10 nlg) nlg nfl.2.1.symm;have zl:zs.length=i:=by rw [hz10.length,Z0,rl]
    have hz15:HasAll (fun a=>H a=none∧a≠lg) H15 zs (rs.map rowD):=hz10.frame fun c o g e=>⟨g,g15 _ _ (g14 _ _ e fun z=>hp (z ▸ g.1)) (fun z=>hp (z ▸ g.1)) fun z=>by
     rw [z,hlfl] at e
     cases e⟩
    refine ⟨small 1 (by decide),fun l0 hl0=>?_⟩;have u6:=Same.new (o:=HO.lst [.non]) hl0;have w6:(upd H15 l0 (.lst [.non])) l0=some (.lst [.non]):=zA1;generalize upd H15 l0 (.lst [.non])=H16 at u6 w6 ⊢;refine ⟨_,rfl,lg,rfl,⟨_,SqL.of (u6 _ _ hg15)⟩,zAe (xs:=zs) (fun j ys H'=>H'=H16∧ys=(rs.take j).map fun r=>V.str r.name) ⟨rfl,rfl⟩ (fun j ys H' z=>by rw [z.1];exact SqL.of (u6 _ _ hg15)) (fun j ys H' hj z=>?_) ?_ ?_⟩
    ·rw [z.2,Z0];have:=Zu j rs;exact small _ (by omega)
    ·rintro j x ys H' hj ⟨rfl,rfl⟩ N hN;obtain ⟨d,hd,hv⟩:=hz15.get hj;rw [Z6] at hd;cases er:rs[j]? with
     | none=>rw [er] at hd;cases hd
     | some r =>
      rw [er] at hd;cases hd;obtain ⟨tt,lq,rfl,ht',_⟩:=zCw hv;refine pick ⟨_,rfl,tt,_,((0:Nat):Int),_,rfl,rfl,SqT.of (u6 _ _ ht'),zBw rfl,hN _ _ ⟨rfl,?_⟩⟩;rw [Z4,er,Z2];rfl
    ·rintro ys H' ⟨rfl,rfl⟩ lc hlc;have tke:rs.take zs.length=rs:=List.take_of_length_le (by omega);rw [tke];refine ⟨l0,lc,_,_,rfl,rfl,(Same.new hlc) _ _ w6,zA1,small _ (by rw [Z0];show 1 + rs.length≤1000;omega),fun l3 hl3=>?_⟩;have u7:=u6.trans ((Same.new (o:=HO.lst (rs.map fun r=>V.str r.name)) hlc).trans (Same.new (o:=HO.lst ([V.non]++rs.map fun r=>V.str r.name)) hl3));have w7:(upd (upd H' lc (.lst (rs.map fun r=>V.str r.name))) l3 (.lst ([V.non]++rs.map fun r=>V.str r.name))) l3=some (.lst ([V.non]++rs.map fun r=>V.str r.name)):=zA1;have S17:=S15.up u7;have nl3:l3≠p:=(S15.up (u6.trans (Same.new (o:=HO.lst (rs.map fun r=>V.str r.name)) hlc))).nw hl3;generalize upd (upd H' lc (.lst (rs.map fun r=>V.str r.name))) l3 (.lst ([V.non]++rs.map fun r=>V.str r.name))=H17 at u7 w7 S17 ⊢;refine ⟨_,rfl,_,rfl,_,_,rfl,rfl,p,(i:Int) + 1,_,rfl,S17,by omega,by omega,by omega,fun r8 H18 a8 b8 S18 k18=>?_⟩;obtain ⟨o,hov,hown⟩:∃ o:Option Str,atI ([V.non]++rs.map fun r=>V.str r.name) r8=some (ownV o)∧∀ x,o=some x→∃ (j:Nat) (r':Row),rs[j]? = some r'∧r'.name=x:=by
      obtain ⟨n8,rfl⟩:∃ j:Nat,r8=(j:Int):=⟨r8.toNat,by omega⟩;cases n8 with
      | zero=>exact ⟨none,zBw (j:=0) rfl,fun x e=>by cases e⟩
      | succ n8 =>
       have lt:n8 < rs.length:=by omega
       refine ⟨some rs[n8].name,zBw ?_,fun x e=>⟨n8,rs[n8],Z5 lt,Zk e⟩⟩;show ((rs.map fun r=>V.str r.name))[n8]? = _;rw [Z6,Z5 lt];rfl
     refine ⟨l3,_,r8,_,rfl,rfl,SqL.of (by rw [k18 l3 nl3];exact w7),hov,?_⟩;have g18:∀ b o,H15 b=some o→b≠p→H18 b=some o:=fun b o e n=>by rw [k18 b n];exact u7 _ _ e
     have hln18:H18 ln=some (.lst ((nmA bn).map V.str)):=g18 _ _ (g15 _ _ (g14 _ _ (g10 _ _ x9n nln ngn) nln) nln fun z=>by
      have:=g10 _ _ x9n nln ngn;rw [z,hlfl] at this
      cases this) nln
     have hg18:=g18 _ _ hg15 nlg;have h18:=g18 _ _ h15 nfl.1;have hnm:((nmA bn).map V.str)[i]? = some (.str ((nmA bn).getD i "")):=by rw [Z6,names_at (by omega)];rfl
     refine ⟨_,rfl,.inl ⟨rfl,zs,SqL.of hg18⟩,_,rfl,_,rfl,ln,_,((i:Nat):Int),_,rfl,rfl,SqL.of hln18,zBw hnm,_,rfl,_,rfl,small 3 (by decide),fun tr htr=>⟨lg,zs,.ref tr,rfl,rfl,(Same.new htr) _ _ hg18,small1000 (by omega),?_⟩⟩;have ntr:tr≠p∧tr≠lg:=⟨S18.nw htr,(zA7 hg18 htr).symm⟩;have B18:ButS p H H18:=fun b o e n=>g18 _ _ (g15 _ _ (g14 _ _ (g10 _ _ (B9 _ _ e n) n (zA7 e flg)) n) n (zA7 e F1)) n;have Ftr:H tr=none:=fresh B18 S18 htr;have gE:∀ c o',H15 c=some o'→c≠p→c≠lg→(upd (upd H18 tr (.tup [.str ((nmA bn).getD i ""),.ref lfl,ownV o])) lg (.lst (zs++[.ref tr]))) c=some o':=fun c o' e n1 n2=>by
      rw [zA9 n2];exact (Same.new htr) _ _ (g18 _ _ e n1)
     have dI2:=dI.snoc (by omega) (fs:=fs) (o:=o) fok fm2 fm3 fmg hown;rw [rl] at dI2;refine ⟨_,_,_,_,_,rs++[⟨(nmA bn).getD i "",fs,o⟩],zs++[.ref tr],rfl,by rw [Zc,rl];rfl,dI2,fun c o' e n1 n2=>?_,?_,zA1,?_⟩
     ·by_cases c2:c=lfl
      ·have:=g10 _ _ e n1 n2;rw [c2,hlfl] at this;cases this
      ·exact gE _ _ (g15 _ _ (g14 _ _ (g10 _ _ e n1 n2) n1) n1 c2) n1 n2
     ·obtain ⟨a',c',j',e',r'⟩:=S18.up (Same.new (o:=HO.tup [.str ((nmA bn).getD i ""),.ref lfl,ownV o]) htr);exact ⟨a',c',j',by rw [zA9 nlg.symm];exact e',r'.1,by have:=r'.2;push_cast;omega⟩
     ·rw [Z2];refine HasAll.snoc (hz15.frame fun c o' g e=>⟨g,gE _ _ e (fun z=>hp (z ▸ g.1)) g.2⟩) ?_;refine .tup ⟨Ftr,ntr.2⟩ (by rw [zA9 ntr.2];exact zA1) (by show 3≤1000;decide) (.cons (sH ((nmA_ok bn).1 _ (name_in (by omega)))) (.cons (.lst ⟨F1,nfl.2.1⟩ (by rw [zA9 nfl.2.1];exact (Same.new htr) _ _ h18) (by rw [hf15.length,Z0];have:=fok.le;omega) ?_) (.cons (zF1 fun x e=>?_) .nil)))
      ·exact hf15.frame fun c o' g e=>⟨⟨g.1,g.2.1⟩,gE _ _ e (fun z=>hp (z ▸ g.1)) g.2.1⟩
      ·obtain ⟨j',r',e1,e2⟩:=hown x e;rw [← e2];exact (dI.row.ok r' (Z3 e1)).1
  ·rintro σ H10 ⟨y5,y6,y7,y8,y9,rs,zs,rfl,rl,dI,g10,S10,h10,hz10⟩;obtain ⟨o1,o2,o3,o4⟩:=dI.done (by omega) (by omega);exact ⟨_,rfl,q lg rs H10 ⟨.lst flg h10 (by rw [hz10.length,Z0];omega) (hz10.frame fun b o g e=>⟨g.1,e⟩),o1,by omega,o2,o3,⟨_,o4⟩⟩ (S10.le (by omega)) fun b o e n=>g10 _ _ (B9 _ _ e n) n (zA7 e flg)⟩
end
end L2.W
namespace L2.W
open PySem My
noncomputable def fieldsO (rs:List Row):Option Str→List (Str×List Str)
 | none=>[]
 | some n=>fieldsOf rs n
noncomputable def spLFl:Sp:=fun vs H Q _=>∃ (G:Addr→Prop) (l:Addr) (rs:List Row) (o:Option Str),vs=[.ref l,ownV o]∧Has G H (.ref l) (.list (rs.map rowD))∧RowsP rs ∧
 ∀ lf H',Same H H'→Has (fun a=>G a∨H a=none) H' (.ref lf) (.list ((fieldsO rs o).map fieldD))→Q (.ref lf) H'
noncomputable def spLOw:Sp:=fun vs H Q _=>∃ (l:Addr) (rs:List Row) (r:Row),vs=[.ref l,.str r.name]∧Has Any H (.ref l) (.list (rs.map rowD))∧RowsP rs∧r∈rs∧∀ H',Same H H'→Q (ownV r.owner) H'
theorem name_opt {n:Str}{o:Option Str}:decide (V.str n=ownV o)=decide (o=some n):=by
 cases o with
 | none=>rfl
 | some x =>
  show decide (V.str n=V.str x)=decide (some x=some n);rw [Ye,decide_eq_true_eq,decide_eq_true_eq];simp [eq_comm]
section
variable {P:Program}{w:World}{K:PySem.W.Frag}{mg:Str→Option Value}{base:Heap}{CX:CXT}
theorem scLF:FnScope ["_law_spec", "_law_kind"] ["_law_spec", "_law_kind"] (defScope sLFields):=⟨rfl,rfl,rfl,by decide +kernel,rfl,by decide +kernel,by decide +kernel⟩
theorem ok_lFl {f:Addr}{fd:FuncData} (F:Fun K "_law_fields" "_law_fields" sLFields f fd):FnOk P w K mg base CX 1 f fd ["_law_spec", "_law_kind"] spLFl:=by
 refine Fun.okC F scLF (fun vs H Q E h=>?_) (fun cdv A outer s H vs Q E hr h=>?_)
 ·obtain ⟨G,l,rs,o,rfl,_⟩:=h;rfl
 ·obtain ⟨G,l,rs,o,rfl,hd,rp,q⟩:=h;have nd:=scLF.nd;refine ⟨_,zA5 (zAc (zAh zAr (zAx zDx (zAt (T:=["_law_name", "_law_fields_here", "_law_owner_here"]) rfl ScOk.auto (zAj (pv 0)) (fun _ _ _ _=>zDe (K:=K) (n:=3) rfl rfl (zAw (zAd (i:=2) (by decide +kernel:(["_law_spec", "_law_kind", "_law_name", "_law_fields_here", "_law_owner_here"]:List Str).Nodup) rfl (Or.inl rfl)) (zAw (zAd (i:=3) (by decide +kernel:(["_law_spec", "_law_kind", "_law_name", "_law_fields_here", "_law_owner_here"]:List Str).Nodup) rfl (Or.inl rfl)) (zAw (zAd (i:=4) (by decide +kernel:(["_law_spec", "_law_kind", "_law_name", "_law_fields_here", "_law_owner_here"]:List Str).Nodup) rfl (Or.inl rfl)) zC1)))) (fun _ _ _ _=>zD4 (zAg zBc (pv 2) (pv 1) (nomark _))) (fun _ _ _ _=>(pv 3))) (zAm (zA0 (zAm zA2) zA2))) zA4 (fun _ _=>rfl))),?_⟩;have small:∀ n:Nat,n≤1000→n≤sizeLine:=fun n h=>Zi (small1000 h);obtain ⟨l',xs,e,_,hl,hz,hx⟩:=hd.list_inv;cases e;have xl:xs.length=rs.length:=by rw [hx.length,Z0]
  have l5:=rp.le.2;refine ⟨_,rfl,l,rfl,⟨_,SqL.of hl⟩,zAe (xs:=xs) (fun i ys H'=>H'=H∧ys.length≤i∧((ys=[]∧∀ r∈rs.take i,o≠some r.name)∨∃ lf rest r,ys=.ref lf :: rest∧r∈rs∧o=some r.name∧Has G H (.ref lf) (.list (r.fields.map fieldD)))) ⟨rfl,Z7 _,.inl ⟨rfl,fun r h=>by simp at h⟩⟩ (fun i ys H' z=>by rw [z.1];exact SqL.of hl) (fun i ys H' hi z=>?_) ?_ ?_⟩
  ·have:=z.2.1;exact small _ (by omega)
  ·rintro i x ys H' hi ⟨rfl,yl,hy⟩ N hN;obtain ⟨d,hd',hv⟩:=hx.get hi;rw [Z6] at hd';cases er:rs[i]? with
   | none=>rw [er] at hd';cases hd'
   | some r =>
    rw [er] at hd';cases hd';obtain ⟨t,lf,rfl,ht,hf⟩:=zCw hv;refine ⟨t,_,rfl,SqT.of ht,rfl,_,_,rfl,_,_,rfl,_,_,rfl,rfl,?_⟩;refine ⟨_,rfl,_,rfl,by cases o <;> rfl,_,rfl,?_⟩;rw [name_opt];refine ite2 (fun c=>?_) (fun c=>?_)
    ·refine ⟨_,rfl,hN _ _ ⟨rfl,by rw [Zc,List.length_singleton];omega,.inr ?_⟩⟩;rcases hy with ⟨rfl,_⟩ | ⟨lf2,rest,r2,rfl,a,b,c2⟩
     ·exact ⟨lf,[],r,rfl,Z3 er,of_decide_eq_true c,hf⟩
     ·exact ⟨lf2,rest++[.ref lf],r2,rfl,a,b,c2⟩
    ·refine hN _ _ ⟨rfl,by omega,?_⟩;rcases hy with ⟨rfl,h⟩ | h
     ·refine .inl ⟨rfl,fun r2 h2=>?_⟩;rw [Z4,er] at h2;rcases List.mem_append.mp h2 with h2 | h2
      ·exact h r2 h2
      ·have:r2=r:=by simpa using h2
       subst this;exact fun z=>c (decide_eq_true z)
     ·exact .inr h
  ·rintro ys H' ⟨rfl,yl,hy⟩ lc hlc;have s1:Same H' (upd H' lc (.lst ys)):=Same.new hlc;have e1:(upd H' lc (.lst ys)) lc=some (.lst ys):=zA1;generalize upd H' lc (.lst ys)=H1 at s1 e1 ⊢;refine ⟨Zm _,fun l2 hl2=>⟨small 1 (by decide),fun l3 hl3=>?_⟩⟩;have s2:Same H1 (upd H1 l2 (.lst [])):=Same.new hl2;have s3:Same (upd H1 l2 (.lst [])) (upd (upd H1 l2 (.lst [])) l3 (.lst [.ref l2])):=Same.new hl3;have e2:=s3 _ _ (zA1 (H:=H1) (a:=l2) (o:=.lst []));have e3:(upd (upd H1 l2 (.lst [])) l3 (.lst [.ref l2])) l3=some (.lst [.ref l2]):=zA1;have s23:=s2.trans s3;generalize upd (upd H1 l2 (.lst [])) l3 (.lst [.ref l2])=H3 at e2 e3 s23 ⊢;refine ⟨lc,l3,_,_,rfl,rfl,s23 _ _ e1,e3,small _ (by simp;omega),fun l4 hl4=>?_⟩;have s4:Same H3 (upd H3 l4 (.lst (ys++[.ref l2]))):=Same.new hl4;have e4:(upd H3 l4 (.lst (ys++[.ref l2]))) l4=some (.lst (ys++[.ref l2])):=zA1;generalize upd H3 l4 (.lst (ys++[.ref l2]))=H4 at s4 e4 ⊢;have S:=(s1.trans s23).trans s4;rw [xl,Za] at hy;rcases hy with ⟨rfl,h⟩ | ⟨lf,rest,r,rfl,hr,ho,hf⟩
   ·refine ⟨l4,_,0,.ref l2,rfl,rfl,SqL.of e4,rfl,q l2 H4 S ?_⟩;have ef:fieldsO rs o=[]:=by
     cases o with
     | none=>rfl
     | some n =>
      show fieldsOf rs n=[];unfold fieldsOf;rw [List.find?_eq_none.mpr fun r hr z=>h r hr (by rw [of_decide_eq_true z])];rfl
    rw [ef];exact .lst (.inr (s1.free hl2)) (s4 _ _ e2) (by show 0≤1000;decide) .nil
   ·refine ⟨l4,_,_,.ref lf,rfl,rfl,SqL.of e4,zBw (j:=0) rfl,q lf H4 S ?_⟩;subst ho;rw [show fieldsO rs (some r.name)=r.fields from zBm rp hr];exact hf.frame fun a o g e=>⟨.inl g,S _ _ e⟩
theorem scLO:FnScope ["_law_spec", "_law_kind"] ["_law_spec", "_law_kind"] (defScope sOwner):=⟨rfl,rfl,rfl,by decide +kernel,rfl,by decide +kernel,by decide +kernel⟩
theorem ok_lOw {f:Addr}{fd:FuncData} (F:Fun K "_law_owner" "_law_owner" sOwner f fd):FnOk P w K mg base CX 1 f fd ["_law_spec", "_law_kind"] spLOw:=by
 refine Fun.okC F scLO (fun vs H Q E h=>?_) (fun cdv A outer s H vs Q E hr h=>?_)
 ·obtain ⟨l,rs,r,rfl,_⟩:=h;rfl
 ·obtain ⟨l,rs,r0,rfl,hd,rp,hr0,q⟩:=h;have nd:=scLO.nd;refine ⟨_,zA5 (zAc (zAh zAr (zAt (T:=["_law_name", "_law_fields_here", "_law_owner_here"]) rfl ScOk.auto (zAj (pv 0)) (fun _ _ _ _=>zDe (K:=K) (n:=3) rfl rfl (zAw (zAd (i:=2) (by decide +kernel:(["_law_spec", "_law_kind", "_law_name", "_law_fields_here", "_law_owner_here"]:List Str).Nodup) rfl (Or.inl rfl)) (zAw (zAd (i:=3) (by decide +kernel:(["_law_spec", "_law_kind", "_law_name", "_law_fields_here", "_law_owner_here"]:List Str).Nodup) rfl (Or.inl rfl)) (zAw (zAd (i:=4) (by decide +kernel:(["_law_spec", "_law_kind", "_law_name", "_law_fields_here", "_law_owner_here"]:List Str).Nodup) rfl (Or.inl rfl)) zC1)))) (fun _ _ _ _=>zD4 (zAg zBc (pv 2) (pv 1) (nomark _))) (fun _ _ _ _=>(pv 4))) zA4 (fun _ _=>rfl))),?_⟩;have small:∀ n:Nat,n≤1000→n≤sizeLine:=fun n h=>Zi (small1000 h);obtain ⟨l',xs,e,_,hl,hz,hx⟩:=hd.list_inv;cases e;have xl:xs.length=rs.length:=by rw [hx.length,Z0]
  have l5:=rp.le.2;refine ⟨_,rfl,l,rfl,⟨_,SqL.of hl⟩,zAe (xs:=xs) (fun i ys H'=>H'=H∧ys=((rs.take i).filter fun r=>decide (r.name=r0.name)).map fun r=>ownV r.owner) ⟨rfl,rfl⟩ (fun i ys H' z=>by rw [z.1];exact SqL.of hl) (fun i ys H' hi z=>?_) ?_ ?_⟩
  ·rw [z.2,Z0];have:=Y5 (fun r=>decide (r.name=r0.name)) (rs.take i);have:=Zu i rs;exact small _ (by omega)
  ·rintro i x ys H' hi ⟨rfl,rfl⟩ N hN;obtain ⟨d,hd',hv⟩:=hx.get hi;rw [Z6] at hd';cases er:rs[i]? with
   | none=>rw [er] at hd';cases hd'
   | some r =>
    rw [er] at hd';cases hd';obtain ⟨t,lf,rfl,ht,hf⟩:=zCw hv;refine ⟨t,_,rfl,SqT.of ht,rfl,_,_,rfl,_,_,rfl,_,_,rfl,rfl,?_⟩;refine ⟨_,rfl,_,rfl,rfl,_,rfl,?_⟩;rw [show decide (V.str r.name=V.str r0.name)=decide (r.name=r0.name) by simp];refine ite2 (fun c=>⟨_,rfl,hN _ _ ⟨rfl,?_⟩⟩) (fun c=>hN _ _ ⟨rfl,?_⟩)
    ·rw [Z4,er,Y2];simp [of_decide_eq_true c]
    ·rw [Z4,er,Y2];simp at c;simp [c]
  ·rintro ys H' ⟨rfl,rfl⟩ lc hlc;rw [xl,Za];cases ef:rs.filter fun r=>decide (r.name=r0.name) with
   | nil=>exact absurd (List.mem_filter.mpr ⟨hr0,decide_eq_true rfl⟩) (by rw [ef];simp)
   | cons a r2 =>
    have ha:=List.mem_filter.mp (show a∈rs.filter fun r=>decide (r.name=r0.name) by rw [ef];exact Zg);have:=rp.one ha.1 hr0 (of_decide_eq_true ha.2);subst this;exact ⟨lc,_,_,_,rfl,rfl,SqL.of zA1,zBw (j:=0) rfl,q _ (Same.new hlc)⟩
end
end L2.W
namespace L2.W
open PySem My
theorem k_ownA {R F:Addr→Hp→Prop}{B:Prop} (t:∀ l Hx,F l Hx→R l Hx) (h:(∀ l Hx,F l Hx→R l Hx)→B):B:=h t
end L2.W
namespace L2.W
open PySem My
theorem _root_.L2.Has.but {p:Addr}{H H':Hp}{v:V}{d:PyData} (h:Has (fun a=>a≠p) H v d) (b:ButS p H H'):Has (fun a=>a≠p) H' v d:=h.frame fun a o g e=>⟨g,b a o e g⟩
theorem _root_.L2.HasAll.but {p:Addr}{H H':Hp}{v:List V}{d:List PyData} (h:HasAll (fun a=>a≠p) H v d) (b:ButS p H H'):HasAll (fun a=>a≠p) H' v d:=h.frame fun a o g e=>⟨g,b a o e g⟩
theorem ButS.trans {p:Addr}{H H1 H2:Hp} (a:ButS p H H1) (b:ButS p H1 H2):ButS p H H2:=fun c o e n=>b c o (a c o e n) n
theorem ButS.same {p:Addr}{H H1:Hp} (s:Same H H1):ButS p H H1:=fun c o e _=>s c o e
theorem ButS.eq {p:Addr}{H H1:Hp} (k:∀ b,b≠p→H1 b=H b):ButS p H H1:=fun c o e n=>by rw [k c n];exact e
theorem zDi:∀ (st:List Str),PyData.depthAll (st.map PyData.str)=0
 | []=>rfl
 | x :: r=>by
  show max 0 (PyData.depthAll (r.map PyData.str))=0;rw [zDi r];rfl
theorem zDk:∀ (fs:List (Str×List Str)),PyData.depthAll (fs.map fieldD)≤2
 | []=>by decide
 | f :: r=>by
  show max (fieldD f).depth (PyData.depthAll (r.map fieldD))≤2;have:=zDk r;have e:(fieldD f).depth=2:=by
   show max 0 (max (PyData.depthAll (f.2.map PyData.str) + 1) 0) + 1=2;rw [zDi];rfl
  omega
theorem depth_fl (fs:List (Str×List Str)):(PyData.list (fs.map fieldD)).depth≤64:=by
 show PyData.depthAll (fs.map fieldD) + 1≤64;have:=zDk fs;omega
theorem fl_eqv (fs:List (Str×List Str)):PyData.eqv (.list (fs.map fieldD)) (.list [])=fs.isEmpty:=by cases fs <;> rfl
structure Fl (H:Hp) (p lf:Addr) (fs:List (Str×List Str)):Prop where
 has:Has (fun a=>a≠p) H (.ref lf) (.list (fs.map fieldD))
 ok:FieldsOk fs
theorem Fl.but {H H':Hp}{p lf:Addr}{fs:List (Str×List Str)} (h:Fl H p lf fs) (b:ButS p H H'):Fl H' p lf fs:=⟨h.has.but b,h.ok⟩
noncomputable def spPairL:Sp:=fun vs H Q _=>∃ (p lf:Addr) (b:Bool) (fs:List (Str×List Str)) (k:Int),vs=[.ref p,.ref lf,.bl b]∧Src H p k∧k≤900000∧Fl H p lf fs ∧
 ∀ t f v H',nameOk f→nameOk v→H' t=some (.tup [.str f,.str v])→t≠p→Src H' p (k + 3)→ButS p H H'→Q (.ref t) H'
theorem fgs:∀ x∈(["f", "meets", "g"]:List Str),nameOk x:=zDy (by decide +kernel)
theorem ons:∀ x∈(["on", "off", "wish", "no"]:List Str),nameOk x:=zDy (by decide +kernel)
section
variable {P:Program}{w:World}{K:PySem.W.Frag}{mg:Str→Option Value}{base:Heap}{CX:CXT}
theorem scPr:FnScope ["_law_source", "_law_fields_here", "_law_strange", "_law_field", "_law_values"] ["_law_source", "_law_fields_here", "_law_strange"] (defScope sLPair):=⟨rfl,rfl,rfl,by decide +kernel,rfl,by decide +kernel,by decide +kernel⟩
theorem ok_pairL {f fn:Addr}{fd fdn:FuncData} (hC:Calm CX) (T:Tops K mg) (F:Fun K "_law_pair" "_law_pair" sLPair f fd) (Dn:Def K mg "_law_next" sNext ["_law_source", "_law_many"] fn fdn) (Gn:FnOk P w K mg base CX 2 fn fdn ["_law_source", "_law_many"] spNext):FnOk P w K mg base CX 3 f fd ["_law_source", "_law_fields_here", "_law_strange"] spPairL:=by
 refine Fun.okC F scPr (fun vs H Q E h=>?_) (fun cdv A outer s H vs Q E hr h=>?_)
 ·obtain ⟨p,lf,b,fs,k,rfl,_⟩:=h;rfl
 ·obtain ⟨p,lf,b,fs,k,rfl,S0,hk,fl,q⟩:=h;have nd:=scPr.nd
  refine ⟨_,zA3 (zAq (PW.pt (zC0 (zAg (op_eqD hr.units) (pv 1) (zAm zA2) (nomark _)) (zBd (PW.pt (zC3 (zAl (pv 2)) (zBj (zAg zBc (zA6 Gn hr rfl Dn.at_ Dn.fn.kp Dn.bind .nil (passC hC) (zA0 (pv 0) (zA0 zA4 zA2))) zA4 (nomark _))))))))
     (zA5 (zAc (zB8 (zA0 (zAh zAr (zAm (zA0 zAf (zA0 zAf (zA0 zAf zA2)))) (zA6 Gn hr rfl Dn.at_ Dn.fn.kp Dn.bind .nil (passC hC) (zA0 (pv 0) (zA0 zA4 zA2))) (fun _ _=>rfl)) (zA0 (zAh zAr (zAm (zA0 zAf (zA0 zAf (zA0 zAf (zA0 zAf zA2))))) (zA6 Gn hr rfl Dn.at_ Dn.fn.kp Dn.bind .nil (passC hC) (zA0 (pv 0) (zA0 zA4 zA2))) (fun _ _=>rfl)) zA2))))) zAb)
     (zA3 (zDs (zAh zAr (pv 1) (zA6 Gn hr rfl Dn.at_ Dn.fn.kp Dn.bind .nil (passC hC) (zA0 (pv 0) (zA0 (zAa zAp rfl T.len PySem.boot_len (zA0 (pv 1) zA2)) zA2))) (fun _ _=>rfl)) (zDt rfl (zAw (zAd (i:=3) nd rfl (Or.inl rfl)) (zAw (zAd (i:=4) nd rfl (Or.inl rfl)) zC1))))
     (zA5 (zAc (zB8 (zA0 (pv 3) (zA0 (zAh zAr (pv 4) (zA6 Gn hr rfl Dn.at_ Dn.fn.kp Dn.bind .nil (passC hC) (zA0 (pv 0) (zA0 (zAa zAp rfl T.len PySem.boot_len (zA0 (pv 4) zA2)) zA2))) (fun _ _=>rfl)) zA2)))))),?_⟩
  have small:∀ n:Nat,n≤1000→n≤sizeLine:=fun n h=>Zi (small1000 h);refine' k_ownA (F:=fun _ Hx=>ButS p H Hx∧Src Hx p (k + 1)) _ (fun two=>_);rotate_left 2
  ·refine' k_ownA (F:=fun _ Hx=>ButS p H Hx∧Src Hx p (k + 1)∧0 < fs.length) _ (fun one=>_);rotate_left 2
   ·refine ⟨_,rfl,Zm _,fun l0 f0=>?_⟩;have s0:Same H (upd H l0 (.lst [])):=Same.new f0;have e0:(upd H l0 (.lst [])) l0=some (.lst []):=zA1;generalize upd H l0 (.lst [])=H1 at s0 e0 ⊢;have S1:=S0.up s0;have fl1:=fl.but (ButS.same s0);have he:fs.isEmpty=true∨(fs.isEmpty=false∧0 < fs.length):=by cases fs <;> simp
    refine ⟨.list (fs.map fieldD),.list [],fl1.has.any,.lst trivial e0 (Zm _) .nil,depth_fl fs,by decide,?_⟩;rw [fl_eqv];rcases he with he | ⟨he,hp⟩
    ·rw [he];exact ⟨_,rfl,iteT (iteT (two l0 H1 ⟨ButS.same s0,S1.mono (by omega)⟩))⟩
    ·rw [he];refine ⟨_,rfl,iteF ⟨_,rfl,_,rfl,ite2 (fun _=>⟨_,rfl,p,4,k,rfl,S1,by omega,by decide,by decide,fun r2 H2 _ _ S2 k2=>⟨rfl,_,rfl,?_⟩⟩) (fun _=>one l0 H1 ⟨ButS.same s0,S1.mono (by omega),hp⟩)⟩⟩;have b2:ButS p H H2:=(ButS.same s0).trans (ButS.eq k2);exact ite2 (fun _=>two l0 H2 ⟨b2,S2⟩) (fun _=>one l0 H2 ⟨b2,S2,hp⟩)
   ·rintro _ H2 ⟨b2,S2,hp⟩;have fl2:=fl.but b2;obtain ⟨lf',xs,e,nlf,hl,hz,hx⟩:=fl2.has.list_inv;cases e;have xl:xs.length=fs.length:=by rw [hx.length,Z0]
    refine ⟨_,rfl,_,rfl,_,rfl,lf,xs,rfl,.inl (SqL.of hl),p,_,k + 1,rfl,S2,by omega,by omega,by have:=fl.ok.le;omega,fun r3 H3 r30 r31 S3 k3=>?_⟩;obtain ⟨x,hxa,hxm⟩:=zD9 xs r30 r31;obtain ⟨j,hj⟩:=List.getElem?_of_mem hxm;obtain ⟨d,hd,hv⟩:=hx.get hj;obtain ⟨fv,hf,rfl⟩:=List.mem_map.mp (Z3 hd);have hv3:=hv.but (ButS.eq k3);obtain ⟨t,lv,rfl,ht,hlv⟩:=zC5 hv3;have nlv:lv≠p:=by
     obtain ⟨a',ys,e',_,h1',_,h2'⟩:=hv3.tup_inv;cases e';rw [ht] at h1';cases h1';cases h2' with
     | cons _ r2=>cases r2 with | cons r3 _=>cases r3 with | lst g _ _ _=>exact g
    obtain ⟨okn,okv⟩:=fl.ok.ok fv hf;refine ⟨lf,xs,r3,_,rfl,rfl,SqL.of (by rw [k3 lf nlf];exact hl),hxa,t,_,rfl,SqT.of ht,rfl,_,_,rfl,_,_,rfl,rfl,?_⟩;have vl:=okv.le;have vn:=okv.ne;refine ⟨_,rfl,_,rfl,_,rfl,_,rfl,lv,_,rfl,.inl (SqL.of hlv),p,_,k + 2,rfl,S3.mono (by omega),by omega,by rw [Z0];omega,by rw [Z0];omega,fun r4 H4 r40 r41 S4 k4=>?_⟩;obtain ⟨y,hya,hym⟩:=zD9 (fv.2.map V.str) r40 r41;obtain ⟨v,hv',rfl⟩:=List.mem_map.mp hym;refine ⟨lv,_,r4,_,rfl,rfl,SqL.of (by rw [k4 lv nlv];exact hlv),hya,small 2 (by decide),fun t5 f5=>?_⟩;exact q t5 fv.1 v _ okn (okv.ok v hv') zA1 (S4.nw f5) ((S4.up (Same.new f5)).mono (by omega)) (((b2.trans (ButS.eq k3)).trans (ButS.eq k4)).trans (ButS.same (Same.new f5)))
  ·rintro _ H2 ⟨b2,S2⟩;refine ⟨small 3 (by decide),fun l3 f3=>?_⟩;have s3:Same H2 (upd H2 l3 (.lst ((["f", "meets", "g"]:List Str).map V.str))):=Same.new f3;have e3:(upd H2 l3 (.lst ((["f", "meets", "g"]:List Str).map V.str))) l3=some (.lst ((["f", "meets", "g"]:List Str).map V.str)):=zA1;have n3:=S2.nw f3;rw [show ([.str "f",.str "meets",.str "g"]:List V)=(["f", "meets", "g"]:List Str).map V.str from rfl];generalize upd H2 l3 (.lst ((["f", "meets", "g"]:List Str).map V.str))=H3 at s3 e3 ⊢;refine ⟨_,rfl,p,3,k + 1,rfl,S2.up s3,by omega,by decide,by decide,fun r4 H4 r40 r41 S4 k4=>?_⟩;obtain ⟨x,hxa,hxm⟩:=zD9 ((["f", "meets", "g"]:List Str).map V.str) r40 r41;obtain ⟨f,hf,rfl⟩:=List.mem_map.mp hxm;refine ⟨l3,_,r4,_,rfl,rfl,SqL.of (by rw [k4 l3 n3];exact e3),hxa,small 4 (by decide),fun l5 f5=>?_⟩;have s5:Same H4 (upd H4 l5 (.lst ((["on", "off", "wish", "no"]:List Str).map V.str))):=Same.new f5;have e5:(upd H4 l5 (.lst ((["on", "off", "wish", "no"]:List Str).map V.str))) l5=some (.lst ((["on", "off", "wish", "no"]:List Str).map V.str)):=zA1;have n5:=S4.nw f5;rw [show ([.str "on",.str "off",.str "wish",.str "no"]:List V)=(["on", "off", "wish", "no"]:List Str).map V.str from rfl];generalize upd H4 l5 (.lst ((["on", "off", "wish", "no"]:List Str).map V.str))=H5 at s5 e5 ⊢;refine ⟨_,rfl,p,4,k + 2,rfl,(S4.up s5).mono (by omega),by omega,by decide,by decide,fun r6 H6 r60 r61 S6 k6=>?_⟩;obtain ⟨y,hya,hym⟩:=zD9 ((["on", "off", "wish", "no"]:List Str).map V.str) r60 r61;obtain ⟨v,hv,rfl⟩:=List.mem_map.mp hym;refine ⟨l5,_,r6,_,rfl,rfl,SqL.of (by rw [k6 l5 n5];exact e5),hya,small 2 (by decide),fun t7 f7=>?_⟩;exact q t7 f v _ (fgs f hf) (ons v hv) zA1 (S6.nw f7) ((S6.up (Same.new f7)).mono (by omega)) (((((b2.trans (ButS.same s3)).trans (ButS.eq k4)).trans (ButS.same s5)).trans (ButS.eq k6)).trans (ButS.same (Same.new f7)))
end
end L2.W
namespace L2.W
open PySem My
noncomputable def spLeaf:Sp:=fun vs H Q _=>∃ (p lf lo:Addr) (b:Bool) (fs fo:List (Str×List Str)) (k:Int),vs=[.ref p,.ref lf,.ref lo,.bl b]∧Src H p k∧k≤800000∧Fl H p lf fs∧Fl H p lo fo ∧
 ∀ v l H',LeafOk l→Has (fun a=>a≠p) H' v (leafD l)→Src H' p (k + 5)→ButS p H H'→Q v H'
theorem strN {G:Addr→Prop}{H:Hp}{x:Str} (h:nameOk x):Has G H (.str x) (.str x):=.str _ (Zo h.2.2 (by decide)) h.2.1
section
variable {P:Program}{w:World}{K:PySem.W.Frag}{mg:Str→Option Value}{base:Heap}{CX:CXT}
theorem scLe:FnScope ["_law_source", "_law_fields_here", "_law_owners", "_law_strange", "_law_way"] ["_law_source", "_law_fields_here", "_law_owners", "_law_strange"] (defScope sLeaf):=⟨rfl,rfl,rfl,by decide +kernel,rfl,by decide +kernel,by decide +kernel⟩
noncomputable def Tst (c:TT) (σ : St) (H:Hp):Prop:=∀ H1,Same H H1→∀ Q:Bool→Hp→Prop,(∀ b H2,Same H1 H2→Q b H2)→c σ H1 Q
theorem Tst.and {c d:TT}{σ : St}{H:Hp} (a:Tst c σ H) (b:Tst d σ H):Tst (tAnd c d) σ H:=fun H1 s1 Q k=>a H1 s1 _ fun x H2 s2=>ite2 (fun _=>b H2 (s1.trans s2) Q fun y H3 s3=>k y H3 (s2.trans s3)) (fun _=>k false H2 s2)
theorem Tst.or {c d:TT}{σ : St}{H:Hp} (a:Tst c σ H) (b:Tst d σ H):Tst (tOr c d) σ H:=fun H1 s1 Q k=>a H1 s1 _ fun x H2 s2=>ite2 (fun _=>k true H2 s2) (fun _=>b H2 (s1.trans s2) Q fun y H3 s3=>k y H3 (s2.trans s3))
theorem Tst.lt {σ : St}{H:Hp}{i:Nat}{r n:Int} (h : σ[i]? = some (some (.int r))):Tst (tTest (tOp (rI0 fun i j=>V.bl (decide (i < j))) (tVar i) (tC (V.int n)))) σ H:=fun H1 _ Q k=>⟨_,h,_,_,rfl,rfl,_,rfl,k _ H1 (Same.refl _)⟩
theorem Tst.eq {σ : St}{H:Hp}{i:Nat}{r n:Int} (h : σ[i]? = some (some (.int r))):Tst (tTest (tOp rEq (tVar i) (tC (V.int n)))) σ H:=fun H1 _ Q k=>⟨_,h,rfl,_,rfl,k _ H1 (Same.refl _)⟩
theorem Tst.tv {σ : St}{H:Hp}{i:Nat}{b:Bool} (h : σ[i]? = some (some (.bl b))):Tst (tB (tVar i)) σ H:=fun H1 _ Q k=>⟨_,h,_,rfl,k _ H1 (Same.refl _)⟩
theorem Tst.ne {H:Hp}{p lf:Addr}{fs:List (Str×List Str)}{σ : St}{i:Nat} (fl:Fl H p lf fs) (h : σ[i]? = some (some (.ref lf))):Tst (tTest (tOp rNeD (tVar i) (tLst tNil))) σ H:=fun H1 s1 Q k =>
 ⟨_,h,Zm _,fun l0 f0=>⟨.list (fs.map fieldD),.list [],(fl.has.any.mono s1).mono (Same.new f0),.lst trivial zA1 (Zm _) .nil,depth_fl fs,by decide,_,rfl,k _ _ (Same.new f0)⟩⟩
theorem if_any {c:TT}{t u:TS}{D:Ends}{σ : St}{H:Hp} (hc:Tst c σ H) (ht:∀ H',Same H H'→t D σ H') (hu:∀ H',Same H H'→u D σ H'):tIfS c t u D σ H:=hc H (Same.refl _) _ fun _ H' s=>ite2 (fun _=>ht H' s) (fun _=>hu H' s)
theorem ok_leaf {f fn fp:Addr}{fd fdn fdp:FuncData} (hC:Calm CX) (T:Tops K mg) (F:Fun K "_law_leaf" "_law_leaf" sLeaf f fd) (Dn:Def K mg "_law_next" sNext ["_law_source", "_law_many"] fn fdn) (Gn:FnOk P w K mg base CX 2 fn fdn ["_law_source", "_law_many"] spNext)
  (Dp:Def K mg "_law_pair" sLPair ["_law_source", "_law_fields_here", "_law_strange"] fp fdp) (Gp:FnOk P w K mg base CX 3 fp fdp ["_law_source", "_law_fields_here", "_law_strange"] spPairL):FnOk P w K mg base CX 4 f fd ["_law_source", "_law_fields_here", "_law_owners", "_law_strange"] spLeaf:=by
 refine Fun.okC F scLe (fun vs H Q E h=>?_) (fun cdv A outer s H vs Q E hr h=>?_)
 ·obtain ⟨p,lf,lo,b,fs,fo,k,rfl,_⟩:=h;rfl
 ·obtain ⟨p,lf,lo,b,fs,fo,k,rfl,S0,hk,fl,flo,q⟩:=h;have nd:=scLe.nd;have hr2:=hr.mono (show 2≤3 by decide)
  refine ⟨_,zA3 (zAk (i:=4) nd rfl (Or.inl rfl) (zA6 Gn hr2 rfl Dn.at_ Dn.fn.kp Dn.bind .nil (passC hC) (zA0 (pv 0) (zA0 zA4 zA2))))
     (zA3 (zAq (PW.pt (zC3 (zAg op_lt (pv 4) zA4 (nomark _)) (zBj (PW.pt (zC0 (zAg (op_neD hr.units) (pv 1) (zAm zA2) (nomark _)) (zBd (zAl (pv 3))))))))
     (zA5 (zAc (zAx (zF2 (K:=K) rfl) (zB8 (zA0 zAf zA2)) (zA6 Gp hr rfl Dp.at_ Dp.fn.kp Dp.bind .nil (passC hC) (zA0 (pv 0) (zA0 (pv 1) (zA0 (pv 3) zA2))))))) zAb)
     (zA3 (zAq (PW.pt (zC3 (zAg op_lt (pv 4) zA4 (nomark _)) (zBj (PW.pt (zC0 (zAg (op_neD hr.units) (pv 1) (zAm zA2) (nomark _)) (zBd (zAl (pv 3))))))))
     (zA5 (zAc (zB8 (zA0 zAf (zA0 (zAh zAi (zA6 Gp hr rfl Dp.at_ Dp.fn.kp Dp.bind .nil (passC hC) (zA0 (pv 0) (zA0 (pv 1) (zA0 (pv 3) zA2)))) zA4 (fun _ _=>rfl)) zA2))))) zAb)
     (zA3 (zAq (PW.pt (zC3 (zAg zBc (pv 4) zA4 (nomark _)) (zBj (PW.pt (zC0 (zAg (op_neD hr.units) (pv 2) (zAm zA2) (nomark _)) (zBd (zAl (pv 3))))))))
     (zA5 (zAc (zAx (zF2 (K:=K) rfl) (zB8 (zA0 zAf zA2)) (zA6 Gp hr rfl Dp.at_ Dp.fn.kp Dp.bind .nil (passC hC) (zA0 (pv 0) (zA0 (pv 2) (zA0 (pv 3) zA2))))))) zAb)
     (zA5 (zAc (zAh zAr (zAm (zA0 (zB8 (zA0 zAf zA2)) (zA0 (zB8 (zA0 zAf zA2)) zA2))) (zAx zCj (pv 4) zA4) (fun _ _=>rfl))))))),?_⟩
  have small:∀ n:Nat,n≤1000→n≤sizeLine:=fun n h=>Zi (small1000 h);refine ⟨_,rfl,p,8,k,rfl,S0,by omega,by decide,by decide,fun r H1 r0 r1 S1 k1=>?_⟩;have b1:ButS p H H1:=ButS.eq k1;have fl1:=fl.but b1;have flo1:=flo.but b1;clear k1;have cat:∀ {H2 H3:Hp}{t0 t1:Addr}{x f v:Str}{l:Leaf}{Q2:VK},ButS p H H2→H3 t0=some (.tup [.str x])→t0≠p→H3 t1=some (.tup [.str f,.str v])→nameOk f→nameOk v→nameOk x→leafD l=.tuple [.str x,.str f,.str v]→LeafOk l→Src H3 p (k + 5)→ButS p H2 H3→(∀ v' H',LeafOk l→Has (fun a=>a≠p) H' v' (leafD l)→Src H' p (k + 5)→ButS p H H'→Q2 v' H')→rCat2 K (.ref t0) (.ref t1) H3 Q2:=fun {H2 H3 t0 t1 x f v l Q2} b2 h0 n0 h1 of ov ox el lo S3 b3 q2 =>
   ⟨t0,t1,_,_,rfl,rfl,SqT.of h0,SqT.of h1,small 3 (by decide),(fun z=>nomatch z),(fun _ z=>nomatch z),fun _ _ t9 f9=>q2 _ _ lo (by rw [el];exact .tup (S3.nw f9) zA1 (by show 3≤1000;decide) (.cons (strN ox) (.cons (strN of) (.cons (strN ov) .nil)))) (S3.up (Same.new f9)) ((b2.trans b3).trans (ButS.same (Same.new f9)))⟩
  have nis:nameOk "is":=zE0 (by decide +kernel);have now_:nameOk "owner":=zE0 (by decide +kernel);have nme:nameOk "meets":=zE0 (by decide +kernel);refine if_any (Tst.and (.lt rfl) (.or (.ne fl1 rfl) (.tv rfl))) (fun H2 s2=>?_) (fun H2 s2=>?_)
  ·refine ⟨small 1 (by decide),fun t0 f0=>⟨_,rfl,_,rfl,_,rfl,p,lf,b,fs,k + 1,rfl,(S1.up s2).up (Same.new f0),by omega,(fl1.but (ButS.same s2)).but (ButS.same (Same.new f0)),fun t1 f v H3 of ov h1 n1 S3 b3=>?_⟩⟩;have n0:=(S1.up s2).nw f0;exact cat (l:=.is f v) (b1.trans (ButS.same s2)) (b3 _ _ zA1 n0) n0 h1 of ov nis rfl ⟨of,ov⟩ (S3.mono (by omega)) ((ButS.same (Same.new f0)).trans b3) fun v' H' lo hh SS bb=>q v' _ H' lo hh SS bb
  ·refine if_any (Tst.and (.lt rfl) (.or (.ne (fl1.but (ButS.same s2)) rfl) (.tv rfl))) (fun H3 s3=>?_) (fun H3 s3=>?_)
   ·have s23:=s2.trans s3;refine ⟨_,rfl,_,rfl,_,rfl,p,lf,b,fs,k + 1,rfl,S1.up s23,by omega,fl1.but (ButS.same s23),fun t1 f v H4 of ov h1 n1 S4 b4=>?_⟩;refine ⟨t1,_,0,_,rfl,rfl,SqT.of h1,rfl,small 2 (by decide),fun t9 f9=>?_⟩;exact q _ (.meets f) _ of (.tup (S4.nw f9) zA1 (by show 2≤1000;decide) (.cons (strN nme) (.cons (strN of) .nil))) ((S4.up (Same.new f9)).mono (by omega)) (((b1.trans (ButS.same s23)).trans b4).trans (ButS.same (Same.new f9)))
   ·have s23:=s2.trans s3;refine if_any (Tst.and (.eq rfl) (.or (.ne (flo1.but (ButS.same s23)) rfl) (.tv rfl))) (fun H4 s4=>?_) (fun H4 s4=>?_)
    ·have s24:=s23.trans s4;refine ⟨small 1 (by decide),fun t0 f0=>⟨_,rfl,_,rfl,_,rfl,p,lo,b,fo,k + 1,rfl,(S1.up s24).up (Same.new f0),by omega,(flo1.but (ButS.same s24)).but (ButS.same (Same.new f0)),fun t1 f v H5 of ov h1 n1 S5 b5=>?_⟩⟩;have n0:=(S1.up s24).nw f0;exact cat (l:=.owner f v) (b1.trans (ButS.same s24)) (b5 _ _ zA1 n0) n0 h1 of ov now_ rfl ⟨of,ov⟩ (S5.mono (by omega)) ((ButS.same (Same.new f0)).trans b5) fun v' H' lo hh SS bb=>q v' _ H' lo hh SS bb
    ·have s24:=s23.trans s4;have S4:=S1.up s24;refine ⟨small 1 (by decide),fun t0 f0=>⟨small 1 (by decide),fun t1 f1=>⟨small 2 (by decide),fun l9 f9=>?_⟩⟩⟩;have u1:=Same.new (o:=HO.tup [.str "wanted"]) f1;have u2:=Same.new (o:=HO.lst [.ref t0,.ref t1]) f9;have w0:=(u1.trans u2) _ _ (zA1 (H:=H4) (a:=t0) (o:=.tup [.str "always"]));have w1:=u2 _ _ (zA1 (a:=t1) (o:=.tup [.str "wanted"]));have n0:=S4.nw f0;have n1:=(S4.up (Same.new f0)).nw f1;have U:=(Same.new f0).trans (u1.trans u2);refine ⟨_,rfl,_,_,rfl,rfl,(by show (0:Int) < 2;decide),?_⟩;have m0:0≤r % 2:=Int.emod_nonneg _ (by decide);have m1:r % 2 < 2:=Y4 _ (by decide);obtain ⟨x,hxa,hxm⟩:=zD9 ([.ref t0,.ref t1]:List V) m0 m1;refine ⟨l9,_,_,x,rfl,rfl,SqL.of zA1,hxa,?_⟩;have S9:=(S4.up U).mono (show k + 1≤k + 5 by omega);have b9:=(b1.trans (ButS.same s24)).trans (ButS.same U);have:x=.ref t0∨x=.ref t1:=by simpa using hxm
     rcases this with rfl | rfl
     ·exact q _ .always _ trivial (.tup n0 w0 (by show 1≤1000;decide) (.cons (.str _ (by decide) (by decide +kernel)) .nil)) S9 b9
     ·exact q _ .wanted _ trivial (.tup n1 w1 (by show 1≤1000;decide) (.cons (.str _ (by decide) (by decide +kernel)) .nil)) S9 b9
end
end L2.W
namespace L2.W
open PySem My
noncomputable def cT:Nat→Int
 | 0=>6
 | d + 1=>8 + 3 * cT d
theorem cT_pos:∀ d,6≤cT d
 | 0=>by decide
 | d + 1=>by
  have:=cT_pos d;show 6≤8 + 3 * cT d;omega
noncomputable def spTree:Nat→Sp
 | 0=>fun _ _ _ _=>False
 | d + 1=>fun vs H Q _=>∃ (p lf lo:Addr) (b:Bool) (fs fo:List (Str×List Str)) (k:Int),vs=[.ref p,.ref lf,.ref lo,.bl b,.int (d:Nat)]∧Src H p k∧k + cT d≤700000∧Fl H p lf fs∧Fl H p lo fo ∧
  ∀ v t H',TrOk t→trH t≤d→Has (fun a=>a≠p) H' v (trD t)→Src H' p (k + cT d)→ButS p H H'→Q v H'
section
variable {P:Program}{w:World}{K:PySem.W.Frag}{mg:Str→Option Value}{base:Heap}{CX:CXT}
theorem scTr:FnScope ["_law_source", "_law_fields_here", "_law_owners", "_law_strange", "_law_deep", "_law_way", "_law_some"] ["_law_source", "_law_fields_here", "_law_owners", "_law_strange", "_law_deep"] (defScope sTree):=⟨rfl,rfl,rfl,by decide +kernel,rfl,by decide +kernel,by decide +kernel⟩
theorem ok_tree {f fn fl:Addr}{fd fdn fdl:FuncData} (hC:Calm CX) (T:Tops K mg) (DT:Def K mg "_law_tree" sTree ["_law_source", "_law_fields_here", "_law_owners", "_law_strange", "_law_deep"] f fd) (Dn:Def K mg "_law_next" sNext ["_law_source", "_law_many"] fn fdn) (Gn:FnOk P w K mg base CX 2 fn fdn ["_law_source", "_law_many"] spNext)
  (DL:Def K mg "_law_leaf" sLeaf ["_law_source", "_law_fields_here", "_law_owners", "_law_strange"] fl fdl) (GL:FnOk P w K mg base CX 4 fl fdl ["_law_source", "_law_fields_here", "_law_owners", "_law_strange"] spLeaf):∀ d,FnOk P w K mg base CX (d + 4) f fd ["_law_source", "_law_fields_here", "_law_owners", "_law_strange", "_law_deep"] (spTree d)
 | 0=>FnOk.never fun _ _ _ _ z=>z
 | d + 1=>by
  have IH:=ok_tree hC T DT Dn Gn DL GL d;refine Fun.okC DT.fn scTr (fun vs H Q E h=>?_) (fun cdv A outer s H vs Q E hr h=>?_)
  ·obtain ⟨p,lf,lo,b,fs,fo,k,rfl,_⟩:=h;rfl
  ·obtain ⟨p,lf,lo,b,fs,fo,k,rfl,S0,hk,fl,flo,q⟩:=h;have nd:=scTr.nd;have hr2:=hr.mono (show 2≤d + 4 by omega);have hr4:=hr.mono (show 4≤d + 4 by omega)
   refine ⟨_,zA3 (zAk (i:=5) nd rfl (Or.inl rfl) (zA6 Gn hr2 rfl Dn.at_ Dn.fn.kp Dn.bind .nil (passC hC) (zA0 (pv 0) (zA0 zA4 zA2))))
      (zA3 (zAq (PW.pt (zC0 (zAg zBc (pv 4) zA4 (nomark _)) (zBd (zAg op_lt (pv 5) zA4 (nomark _)))))
      (zA5 (zAc (zA6 GL hr4 rfl DL.at_ DL.fn.kp DL.bind .nil (passC hC) (zA0 (pv 0) (zA0 (pv 1) (zA0 (pv 2) (zA0 (pv 3) zA2))))))) zAb)
      (zA3 (zAq (zAg zBc (pv 5) zA4 (nomark _))
      (zA5 (zAc (zB8 (zA0 zAf (zA0 (zA6 IH hr rfl DT.at_ DT.fn.kp DT.bind .nil (passC hC) (zA0 (pv 0) (zA0 (pv 1) (zA0 (pv 2) (zA0 (pv 3) (zA0 (zAx op_sub (pv 4) zA4) zA2)))))) zA2))))) zAb)
      (zA3 (zB4 (T:=["_law_k"]) (i:=6) rfl (ScOk.auto (h5:=by exact ⟨rfl,rfl,rfl,rfl,rfl,trivial⟩)) (zBq rfl T.range (zA0 (zAx zBs zA4 (zA6 Gn hr2 rfl Dn.at_ Dn.fn.kp Dn.bind .nil (passC hC) (zA0 (pv 0) (zA0 zA4 zA2)))) zA2)) (fun _ _ _ _=>zAd (i:=7) (by decide +kernel:(["_law_source", "_law_fields_here", "_law_owners", "_law_strange", "_law_deep", "_law_way", "_law_some", "_law_k"]:List Str).Nodup) rfl (Or.inl rfl)) (fun _ _ _ _=>zAy) (fun _ _ _ _=>(zA6 IH hr rfl DT.at_ DT.fn.kp DT.bind .nil (passC hC) (zA0 (pv 0) (zA0 (pv 1) (zA0 (pv 2) (zA0 (pv 3) (zA0 (zAx op_sub (pv 4) zA4) zA2))))))) nd rfl rfl rfl)
      (zA5 (zAc (zB8 (zA0 (zAh zAr (zAm (zA0 zAf (zA0 zAf zA2))) (zAx zCj (pv 5) zA4) (fun _ _=>rfl)) (zA0 (pv 6) zA2)))))))),?_⟩
   have small:∀ n:Nat,n≤1000→n≤sizeLine:=fun n h=>Zi (small1000 h);have cp:=cT_pos d;refine ⟨_,rfl,p,7,k,rfl,S0,by omega,by decide,by decide,fun r H1 r0 r1 S1 k1=>?_⟩;have b1:ButS p H H1:=ButS.eq k1;have fl1:=fl.but b1;have flo1:=flo.but b1;have leafR:∀ {Q2:VK},(∀ v l H',LeafOk l→Has (fun a=>a≠p) H' v (leafD l)→Src H' p (k + 1 + 5)→ButS p H1 H'→Q2 v H')→spLeaf ([.ref p,.ref lf,.ref lo,.bl b]++[]) H1 Q2 (E0 []):=fun {Q2} q2=>⟨p,lf,lo,b,fs,fo,k + 1,rfl,S1,by omega,fl1,flo1,q2⟩;have leafQ:∀ v l H',LeafOk l→Has (fun a=>a≠p) H' v (leafD l)→Src H' p (k + 1 + 5)→ButS p H1 H'→Q v H':=fun v l H' ok hh SS bb=>q v (.leaf l) H' ok (Zm _) hh (SS.mono (by omega)) (b1.trans bb);refine ⟨_,rfl,rfl,_,rfl,ite2 (fun _=>iteT ⟨_,rfl,_,rfl,_,rfl,_,rfl,leafR leafQ⟩) (fun c=>⟨_,rfl,_,_,rfl,rfl,_,rfl,ite2 (fun _=>⟨_,rfl,_,rfl,_,rfl,_,rfl,leafR leafQ⟩) (fun _=>?_)⟩)⟩;obtain ⟨d,rfl⟩:∃ d',d=d' + 1:=by
    cases d with
    | zero=>exact absurd (by decide:decide (V.int ((0:Nat):Int)=V.int 0)=true) c
    | succ d=>exact ⟨d,rfl⟩
   have ed:((d + 1:Nat):Int) - 1=(d:Nat):=by omega
   have e3:cT (d + 1)=8 + 3 * cT d:=rfl;have cd:=cT_pos d;have sub:∀ {H2:Hp}{j:Int}{Q2:VK},ButS p H1 H2→Src H2 p j→j + cT d≤700000→(∀ v t H',TrOk t→trH t≤d→Has (fun a=>a≠p) H' v (trD t)→Src H' p (j + cT d)→ButS p H2 H'→Q2 v H')→∀ {xs:List V},xs=[.ref p,.ref lf,.ref lo,.bl b,.int (((d + 1:Nat):Int) - 1)]→spTree (d + 1) xs H2 Q2 (fun _ _ _=>False):=fun {H2 j Q2} b2 S2 hj q2 {xs} ex=>by
    rw [ed] at ex;exact ⟨p,lf,lo,b,fs,fo,j,ex,S2,hj,fl1.but b2,flo1.but b2,q2⟩
   refine ⟨_,rfl,rfl,_,rfl,ite2 (fun _=>?_) (fun _=>?_)⟩
   ·refine ⟨_,rfl,_,rfl,_,rfl,_,rfl,_,rfl,_,_,rfl,rfl,sub (fun _ _ e _=>e) S1 (by omega) (fun v t H2 ok th hh S2 b2=>?_) rfl⟩;refine ⟨small 2 (by decide),fun t9 f9=>?_⟩;exact q _ (.no t) _ (by rw [TrOk];exact ok) (by rw [trH];omega) (by rw [trD];exact .tup (S2.nw f9) zA1 (by show 2≤1000;decide) (.cons (.str _ (by decide) (by decide +kernel)) (.cons (hh.mono (Same.new f9)) .nil))) ((S2.up (Same.new f9)).mono (by omega)) ((b1.trans b2).trans (ButS.same (Same.new f9)))
   ·refine ⟨_,rfl,p,2,k + 1,rfl,S1,by omega,by decide,by decide,fun r2 H2 r20 r21 S2 k2=>⟨_,_,rfl,rfl,?_⟩⟩;obtain ⟨m,rfl⟩:∃ m:Nat,r2=m:=⟨r2.toNat,by omega⟩;have b2:ButS p H1 H2:=ButS.eq k2;refine ⟨((2 + m:Nat):Int),congrArg (fun z:Int=>[V.int z]) (show (2:Int) + (m:Int)=((2 + m:Nat):Int) by omega),by omega,by omega,?_⟩;rw [show ((2 + m:Nat):Int).toNat=2 + m by omega];refine zEk (lo:=0) (n:=2 + m) (fun i ys H'=>ButS p H2 H'∧Src H' p (k + 2 + i * cT d)∧∃ ts:List Tr,ts.length=i∧(∀ t∈ts,TrOk t∧trH t≤d)∧HasAll (fun a=>a≠p) H' ys (ts.map trD)) ⟨(fun _ _ e _=>e),S2.mono (by omega),[],rfl,(fun t h=>nomatch h),.nil⟩ (fun i ys H' hi z=>?_) ?_ ?_
    ·obtain ⟨_,_,ts,tl,_,hy⟩:=z;rw [hy.length,Z0,tl];exact small _ (by omega)
    ·rintro i ys H' hi ⟨b3,S3,ts,tl,tok,hy⟩ N hN;have ib:(i:Int) * cT d≤2 * cT d:=Int.mul_le_mul_of_nonneg_right (by omega) (by omega);refine pick ⟨_,rfl,_,rfl,_,rfl,_,rfl,_,rfl,_,_,rfl,rfl,sub (b2.trans b3) S3 (by omega) (fun v t H4 ok th hh S4 b4=>hN _ _ ⟨b3.trans b4,S4.mono ?_,ts++[t],by rw [Zc,tl];rfl,fun t' h'=>?_,?_⟩) rfl⟩
     ·have:((i + 1:Nat):Int) * cT d=(i:Int) * cT d + cT d:=by push_cast;rw [Int.add_mul,Int.one_mul]
      omega
     ·rcases List.mem_append.mp h' with h' | h'
      ·exact tok t' h'
      ·rw [List.mem_singleton.mp h'];exact ⟨ok,th⟩
     ·rw [Z2];exact (hy.but b4).snoc hh
    ·rintro ys H' ⟨b3,S3,ts,tl,tok,hy⟩ l9 f9;have s9:Same H' (upd H' l9 (.lst ys)):=Same.new f9;have e9:(upd H' l9 (.lst ys)) l9=some (.lst ys):=zA1;have n9:=S3.nw f9;generalize upd H' l9 (.lst ys)=H9 at s9 e9 ⊢;refine ⟨small 2 (by decide),fun l10 f10=>⟨_,rfl,_,_,rfl,rfl,(by show (0:Int) < 2;decide),?_⟩⟩;obtain ⟨bb,hb⟩:∃ bb:Bool,atI ([.str "&",.str "|"]:List V) (r % 2)=some (.str (sgn bb)):=by
      have m0:0≤r % 2:=Int.emod_nonneg _ (by decide);have m1:r % 2 < 2:=Y4 _ (by decide);have:r % 2=0∨r % 2=1:=by omega
      rcases this with e | e <;> rw [e]
      ·exact ⟨true,rfl⟩
      ·exact ⟨false,rfl⟩
     refine ⟨l10,_,_,_,rfl,rfl,SqL.of zA1,hb,_,rfl,small 2 (by decide),fun t11 f11=>?_⟩;have s11:=(Same.new (o:=HO.lst [.str "&",.str "|"]) f10).trans (Same.new (o:=HO.tup [.str (sgn bb),.ref l9]) f11);have S11:=(S3.up s9).up s11;have mb:((2 + m:Nat):Int) * cT d≤3 * cT d:=Int.mul_le_mul_of_nonneg_right (by omega) (by omega);refine q _ (.node bb ts) _ ?_ ?_ ?_ (S11.mono (by omega)) ((((b1.trans b2).trans b3).trans (ButS.same s9)).trans (ButS.same s11))
     ·rw [TrOk];exact ⟨by omega,by omega,zC2.mpr fun t h=>(tok t h).1⟩
     ·rw [trH];have:=trsH_of fun t h=>(tok t h).2;omega
     ·rw [trD,trsD_eq];refine .tup ((S3.up s9).up (Same.new f10) |>.nw f11) zA1 (by show 2≤1000;decide) (.cons (by cases bb <;> exact .str _ (by decide) (by decide +kernel)) (.cons (.lst n9 (s11 _ _ e9) (by rw [hy.length,Z0];omega) ((hy.but (ButS.same s9)).but (ButS.same s11))) .nil))
end
end L2.W
namespace L2.W
open PySem My
noncomputable def TrV (H:Hp):Tr→List V→Prop
 | .leaf .always,xs=>xs=[.str "always"]
 | .leaf .wanted,xs=>xs=[.str "wanted"]
 | .leaf (.is f v),xs=>xs=[.str "is",.str f,.str v]
 | .leaf (.meets f),xs=>xs=[.str "meets",.str f]
 | .leaf (.owner f v),xs=>xs=[.str "owner",.str f,.str v]
 | .no t,xs=>∃ x,xs=[.str "not",x]∧Has Any H x (trD t)
 | .node b ts,xs=>∃ l ys,xs=[.str (sgn b),.ref l]∧H l=some (.lst ys)∧HasAll Any H ys (ts.map trD)
theorem str1 {G:Addr→Prop}{H:Hp}{xs:List V}{x:Str} (h:HasAll G H xs [.str x]):xs=[.str x]:=by
 cases h with
 | cons h1 h2=>cases h2;rw [h1.str_inv.1]
theorem strC {G:Addr→Prop}{H:Hp}{xs:List V}{x:Str}{ds:List PyData} (h:HasAll G H xs (.str x :: ds)):∃ ys,xs=.str x :: ys∧HasAll G H ys ds:=by
 cases h with
 | cons h1 h2=>rw [h1.str_inv.1];exact ⟨_,rfl,h2⟩
theorem tr_inv {H:Hp}{v:V}{t:Tr} (h:Has Any H v (trD t)):∃ a xs,v=.ref a∧H a=some (.tup xs)∧TrV H t xs:=by
 rcases t with (_ | _ | ⟨f,v⟩ | f | ⟨f,v⟩) | t | ⟨b,ts⟩ <;> rw [trD] at h
 ·obtain ⟨a,xs,rfl,_,ha,_,hx⟩:=h.tup_inv;exact ⟨a,xs,rfl,ha,str1 hx⟩
 ·obtain ⟨a,xs,rfl,_,ha,_,hx⟩:=h.tup_inv;exact ⟨a,xs,rfl,ha,str1 hx⟩
 ·obtain ⟨a,xs,rfl,_,ha,_,hx⟩:=h.tup_inv;obtain ⟨ys,rfl,hy⟩:=strC hx;obtain ⟨zs,rfl,hz⟩:=strC hy;cases str1 hz;exact ⟨a,_,rfl,ha,rfl⟩
 ·obtain ⟨a,xs,rfl,_,ha,_,hx⟩:=h.tup_inv;obtain ⟨ys,rfl,hy⟩:=strC hx;cases str1 hy;exact ⟨a,_,rfl,ha,rfl⟩
 ·obtain ⟨a,xs,rfl,_,ha,_,hx⟩:=h.tup_inv;obtain ⟨ys,rfl,hy⟩:=strC hx;obtain ⟨zs,rfl,hz⟩:=strC hy;cases str1 hz;exact ⟨a,_,rfl,ha,rfl⟩
 ·obtain ⟨a,xs,rfl,_,ha,_,hx⟩:=h.tup_inv;obtain ⟨ys,rfl,hy⟩:=strC hx;cases hy with
  | cons h1 h2=>cases h2;exact ⟨a,_,rfl,ha,_,rfl,h1⟩
 ·obtain ⟨a,xs,rfl,_,ha,_,hx⟩:=h.tup_inv;obtain ⟨ys,rfl,hy⟩:=strC hx;cases hy with
  | cons h1 h2 =>
   cases h2;rw [trsD_eq] at h1;obtain ⟨l,ys,rfl,_,hl,_,hy⟩:=h1.list_inv;exact ⟨a,_,rfl,ha,_,_,rfl,hl,hy⟩
theorem sF {x y:Str}{A B:Prop} (n:x≠y) (h:B):if decide (V.str x=V.str y)=true then A else B:=by
 rw [if_neg (by simpa using n)];exact h
theorem sT {x:Str}{A B:Prop} (h:A):if decide (V.str x=V.str x)=true then A else B:=by
 rw [if_pos (by simp)];exact h
theorem tagF {K:PySem.W.Frag}{k g:Str}{t u:TS}{D:Ends}{σ : St}{H:Hp}{a:Addr}{xs:List V} (h0 : σ[0]? = some (some (.ref a))) (ha:H a=some (.tup (.str g :: xs))) (n:g≠k) (h:u D σ H):tIfS (tTest (tOp rEq (tOp (rIxT K) (tVar 0) (tC (.int 0))) (tC (.str k)))) t u D σ H :=
 ⟨_,h0,a,_,((0:Nat):Int),_,rfl,rfl,SqT.of ha,zBw rfl,rfl,_,rfl,sF n h⟩
theorem tagT {K:PySem.W.Frag}{k:Str}{t u:TS}{D:Ends}{σ : St}{H:Hp}{a:Addr}{xs:List V} (h0 : σ[0]? = some (some (.ref a))) (ha:H a=some (.tup (.str k :: xs))) (h:t D σ H):tIfS (tTest (tOp rEq (tOp (rIxT K) (tVar 0) (tC (.int 0))) (tC (.str k)))) t u D σ H :=
 ⟨_,h0,a,_,((0:Nat):Int),_,rfl,rfl,SqT.of ha,zBw rfl,rfl,_,rfl,sT h⟩
theorem zB6 {x dx C:Addr}{H:Hp} (hx:H x=none) (hdx:H dx=none) (_:dx≠x):Same H (upd (upd H dx (.own x)) x (.ins C dx [])):=fun a o e=>by
 rw [zA9 (zA7 e hx),zA9 (zA7 e hdx)];exact e
theorem zBi {x dx C:Addr}{H H':Hp} (hx:H x=none) (hdx:H dx=none) (ne:dx≠x) (b:But x (upd (upd H dx (.own x)) x (.ins C dx [])) H'):Same H H':=fun a o e=>b a o (zB6 hx hdx ne a o e) (zA7 e hx)
noncomputable def spObj (A:CA):Nat→Sp
 | 0=>fun _ _ _ _=>False
 | d + 1=>fun vs H Q _=>∃ (v:V) (t:Tr),vs=[v]∧Has Any H v (trD t)∧TrOk t∧trH t≤d∧∀ p H',CondAt A H' p t→Same H H'→Q (.ref p) H'
structure Ini (P:Program) (w:World) (K:PySem.W.Frag) (mg:Str→Option Value) (base:Heap) (CX:CXT) (A:CA) (gIs gMe gOw gNo gBo gEi:FuncData):Prop where
 is:FnOk P w K mg base CX 3 A.fIs gIs ["self", "field", "value"] (spIV A.is_)
 bIs:Binds K gIs ["self", "field", "value"] []
 me:FnOk P w K mg base CX 3 A.fMe gMe ["self", "field"] (spIF A.me)
 bMe:Binds K gMe ["self", "field"] []
 ow:FnOk P w K mg base CX 3 A.fOw gOw ["self", "field", "value"] (spIV A.ow)
 bOw:Binds K gOw ["self", "field", "value"] []
 no:FnOk P w K mg base CX 1 A.fNo gNo ["self", "condition"] (spIC A)
 bNo:Binds K gNo ["self", "condition"] []
 bo:FnOk P w K mg base CX 2 A.fBo gBo ["self", "conditions"] (spIL A A.bo)
 bBo:Binds K gBo ["self", "conditions"] []
 ei:FnOk P w K mg base CX 2 A.fEi gEi ["self", "conditions"] (spIL A A.ei)
 bEi:Binds K gEi ["self", "conditions"] []
theorem CondAll.isC {A:CA}{H:Hp}:∀ {ps:List Addr}{ts:List Tr},CondAll A H ps ts→∀ p∈ps,IsC A H p
 | _,_,.nil,_,h=>nomatch h
 | _,_,.cons a b,p,h=>by
  rcases List.mem_cons.mp h with rfl | h
  ·exact a.isC
  ·exact b.isC p h
section
variable {P:Program}{w:World}{K:PySem.W.Frag}{mg:Str→Option Value}{base:Heap}{CX:CXT}
theorem scOb:FnScope ["_law_tree_here", "_law_some"] ["_law_tree_here"] (defScope sObject):=⟨rfl,rfl,rfl,by decide +kernel,rfl,by decide +kernel,by decide +kernel⟩
theorem ok_obj {f:Addr}{fd gIs gMe gOw gNo gBo gEi:FuncData}{A:CA} (hC:Calm CX) (N:Cnd K mg A) (J:Ini P w K mg base CX A gIs gMe gOw gNo gBo gEi) (DO:Def K mg "_law_object" sObject ["_law_tree_here"] f fd):∀ d,FnOk P w K mg base CX (d + 4) f fd ["_law_tree_here"] (spObj A d)
 | 0=>FnOk.never fun _ _ _ _ z=>z
 | d + 1=>by
  have IH:=ok_obj hC N J DO d;refine Fun.okC DO.fn scOb (fun vs H Q E h=>?_) (fun cdv Ar outer s H vs Q E hr h=>?_)
  ·obtain ⟨v,t,rfl,_⟩:=h;rfl
  ·obtain ⟨v,t,rfl,ht,ok,hh,q⟩:=h;have nd:=scOb.nd;have hr2:=hr.mono (show 2≤d + 4 by omega);have hr3:=hr.mono (show 3≤d + 4 by omega);have hr4:=hr.mono (show 4≤d + 4 by omega)
   refine ⟨_,zA3 (zAq (zAg zBc (zAh zAi (pv 0) zA4 (fun _ _=>rfl)) zAf (nomark _))
      (zA5 (zAc (zBy N.kAl rfl N.gAl))) zAb)
      (zA3 (zAq (zAg zBc (zAh zAi (pv 0) zA4 (fun _ _=>rfl)) zAf (nomark _))
      (zA5 (zAc (zBy N.kWa rfl N.gWa))) zAb)
      (zA3 (zAq (zAg zBc (zAh zAi (pv 0) zA4 (fun _ _=>rfl)) zAf (nomark _))
      (zA5 (zAc (zBg N.kIs J.is hr4 rfl N.gIs J.bIs .nil (passC hC) (zA0 (zAh zAi (pv 0) zA4 (fun _ _=>rfl)) (zA0 (zAh zAi (pv 0) zA4 (fun _ _=>rfl)) zA2))))) zAb)
      (zA3 (zAq (zAg zBc (zAh zAi (pv 0) zA4 (fun _ _=>rfl)) zAf (nomark _))
      (zA5 (zAc (zBg N.kMe J.me hr4 rfl N.gMe J.bMe .nil (passC hC) (zA0 (zAh zAi (pv 0) zA4 (fun _ _=>rfl)) zA2)))) zAb)
      (zA3 (zAq (zAg zBc (zAh zAi (pv 0) zA4 (fun _ _=>rfl)) zAf (nomark _))
      (zA5 (zAc (zBg N.kOw J.ow hr4 rfl N.gOw J.bOw .nil (passC hC) (zA0 (zAh zAi (pv 0) zA4 (fun _ _=>rfl)) (zA0 (zAh zAi (pv 0) zA4 (fun _ _=>rfl)) zA2))))) zAb)
      (zA3 (zAq (zAg zBc (zAh zAi (pv 0) zA4 (fun _ _=>rfl)) zAf (nomark _))
      (zA5 (zAc (zBg N.kNo J.no hr2 rfl N.gNo J.bNo .nil (passC hC) (zA0 (zA6 IH hr rfl DO.at_ DO.fn.kp DO.bind .nil (passC hC) (zA0 (zAh zAi (pv 0) zA4 (fun _ _=>rfl)) zA2)) zA2)))) zAb)
      (zA3 (zB4 (T:=["_law_one"]) (i:=1) rfl ScOk.auto (zAj (zAh zAi (pv 0) zA4 (fun _ _=>rfl))) (fun _ _ _ _=>zAd (i:=2) (by decide +kernel:(["_law_tree_here", "_law_some", "_law_one"]:List Str).Nodup) rfl (Or.inl rfl)) (fun _ _ _ _=>zAy) (fun _ _ _ _=>(zA6 IH hr rfl DO.at_ DO.fn.kp DO.bind .nil (passC hC) (zA0 (pv 2) zA2))) nd rfl rfl rfl)
      (zA5 (zAc (zD5 (zAg zBc (zAh zAi (pv 0) zA4 (fun _ _=>rfl)) zAf (nomark _)) (zBg N.kBo J.bo hr3 rfl N.gBo J.bBo .nil (passC hC) (zA0 (pv 1) zA2)) (zBg N.kEi J.ei hr3 rfl N.gEi J.bEi .nil (passC hC) (zA0 (pv 1) zA2))))))))))),?_⟩
   have small:∀ n:Nat,n≤1000→n≤sizeLine:=fun n h=>Zi (small1000 h);obtain ⟨a,xs,rfl,ha,tv⟩:=tr_inv ht;rcases t with (_ | _ | ⟨f,v⟩ | f | ⟨f,v⟩) | t | ⟨b,ts⟩
   ·cases tv;exact tagT rfl ha fun x dx hx hdx ne=>q x _ (.al zA1) (zB6 hx hdx ne)
   ·cases tv;exact tagF rfl ha (by decide +kernel) (tagT rfl ha fun x dx hx hdx ne=>q x _ (.wa zA1) (zB6 hx hdx ne))
   ·cases tv;have ok:nameOk f∧nameOk v:=by rw [TrOk] at ok;exact ok
    exact tagF rfl ha (by decide +kernel) (tagF rfl ha (by decide +kernel) (tagT rfl ha ⟨_,rfl,a,_,1,_,rfl,rfl,SqT.of ha,rfl,_,rfl,a,_,2,_,rfl,rfl,SqT.of ha,rfl,fun x dx hx hdx ne=>⟨x,dx,f,v,rfl,zA1,ok.1,ok.2,fun H' e b=>⟨rfl,q x H' (.is e) (zBi hx hdx ne b)⟩⟩⟩))
   ·cases tv;have ok:nameOk f:=by rw [TrOk] at ok;exact ok
    exact tagF rfl ha (by decide +kernel) (tagF rfl ha (by decide +kernel) (tagF rfl ha (by decide +kernel) (tagT rfl ha ⟨_,rfl,a,_,1,_,rfl,rfl,SqT.of ha,rfl,fun x dx hx hdx ne=>⟨x,dx,f,rfl,zA1,ok,fun H' e b=>⟨rfl,q x H' (.me e) (zBi hx hdx ne b)⟩⟩⟩)))
   ·cases tv;have ok:nameOk f∧nameOk v:=by rw [TrOk] at ok;exact ok
    exact tagF rfl ha (by decide +kernel) (tagF rfl ha (by decide +kernel) (tagF rfl ha (by decide +kernel) (tagF rfl ha (by decide +kernel) (tagT rfl ha ⟨_,rfl,a,_,1,_,rfl,rfl,SqT.of ha,rfl,_,rfl,a,_,2,_,rfl,rfl,SqT.of ha,rfl,fun x dx hx hdx ne=>⟨x,dx,f,v,rfl,zA1,ok.1,ok.2,fun H' e b=>⟨rfl,q x H' (.ow e) (zBi hx hdx ne b)⟩⟩⟩))))
   ·obtain ⟨x,rfl,hx⟩:=tv;rw [trH] at hh;rw [TrOk] at ok;obtain ⟨d,rfl⟩:∃ d',d=d' + 1:=⟨d - 1,by omega⟩;exact tagF rfl ha (by decide +kernel) (tagF rfl ha (by decide +kernel) (tagF rfl ha (by decide +kernel) (tagF rfl ha (by decide +kernel) (tagF rfl ha (by decide +kernel) (tagT rfl ha ⟨_,rfl,a,_,1,_,rfl,rfl,SqT.of ha,rfl,x,t,rfl,hx,ok,by omega,fun p H1 c1 s1=>fun x dx hx hdx ne=>⟨x,dx,p,rfl,zA1,c1.isC.same (zB6 hx hdx ne),fun H' e b=>⟨rfl,q x H' (.no e (c1.same (zBi hx hdx ne b))) (s1.trans (zBi hx hdx ne b))⟩⟩⟩)))))
   ·obtain ⟨l,ys,rfl,hl,hy⟩:=tv;rw [trH] at hh;obtain ⟨t2,t50,tok⟩:2≤ts.length∧ts.length≤50∧TrsOk ts:=by rwa [TrOk] at ok
    obtain ⟨d,rfl⟩:∃ d',d=d' + 1:=⟨d - 1,by omega⟩;have sg:∀ k:Str,("&" : Str)≠k→("|" : Str)≠k→sgn b≠k:=fun k h1 h2=>by cases b <;> assumption
    refine tagF rfl ha (sg _ (by decide +kernel) (by decide +kernel)) (tagF rfl ha (sg _ (by decide +kernel) (by decide +kernel)) (tagF rfl ha (sg _ (by decide +kernel) (by decide +kernel)) (tagF rfl ha (sg _ (by decide +kernel) (by decide +kernel)) (tagF rfl ha (sg _ (by decide +kernel) (by decide +kernel)) (tagF rfl ha (sg _ (by decide +kernel) (by decide +kernel)) ?_)))));have yl:ys.length=ts.length:=by rw [hy.length,Z0]
    refine ⟨_,rfl,a,_,1,_,rfl,rfl,SqT.of ha,rfl,l,rfl,⟨_,SqL.of hl⟩,zAe (xs:=ys) (fun i zs H'=>Same H H'∧∃ ps:List Addr,zs=ps.map V.ref∧CondAll A H' ps (ts.take i)) ⟨Same.refl _,[],rfl,.nil⟩ (fun i zs H' z=>SqL.of (z.1 _ _ hl)) (fun i zs H' hi z=>?_) ?_ ?_⟩
    ·obtain ⟨_,ps,rfl,c⟩:=z;rw [Z0,c.len];have:=Zu i ts;exact small _ (by omega)
    ·rintro i x zs H' hi ⟨s1,ps,rfl,c⟩ Nn hN;obtain ⟨dd,hd,hv⟩:=hy.get hi;rw [Z6] at hd;cases et:ts[i]? with
     | none=>rw [et] at hd;cases hd
     | some t =>
      rw [et] at hd;cases hd;have mt:=Z3 et;have:=zDq mt;refine pick ⟨_,rfl,x,t,rfl,hv.mono s1,zC2.mp tok t mt,by omega,fun p H2 c2 s2=>hN _ _ ⟨s1.trans s2,ps++[p],by rw [Z2];rfl,?_⟩⟩;rw [Z4,et];exact (c.same s2).snoc c2
    ·rintro zs H' ⟨s1,ps,rfl,c⟩ l9 f9;rw [yl,Za] at c;have s9:Same H' (upd H' l9 (.lst (ps.map V.ref))):=Same.new f9;have e9:(upd H' l9 (.lst (ps.map V.ref))) l9=some (.lst (ps.map V.ref)):=zA1;generalize upd H' l9 (.lst (ps.map V.ref))=H9 at s9 e9 ⊢;have c9:=c.same s9;have sa:=s1.trans s9;have cl:=c.len;refine ⟨_,rfl,a,_,0,_,rfl,rfl,SqT.of (sa _ _ ha),rfl,rfl,_,rfl,?_⟩;cases b with
     | true=>exact sT ⟨_,rfl,fun x dx hx hdx ne=>⟨x,dx,l9,ps,rfl,zA1,zB6 hx hdx ne _ _ e9,by omega,by omega,fun p hp=>(c9.isC p hp).same (zB6 hx hdx ne),fun H' l' e el fr b=>⟨rfl,q x H' (.bo e el (c9.same (zBi hx hdx ne b))) (sa.trans (zBi hx hdx ne b))⟩⟩⟩
     | false=>exact sF (by decide +kernel) ⟨_,rfl,fun x dx hx hdx ne=>⟨x,dx,l9,ps,rfl,zA1,zB6 hx hdx ne _ _ e9,by omega,by omega,fun p hp=>(c9.isC p hp).same (zB6 hx hdx ne),fun H' l' e el fr b=>⟨rfl,q x H' (.ei e el (c9.same (zBi hx hdx ne b))) (sa.trans (zBi hx hdx ne b))⟩⟩⟩
end
end L2.W
namespace L2.W
open PySem My
theorem zEl {k:Key}{v:V}:∀ {kvs:List (Key×V)},(kvs.map (·.1)).Nodup→(k,v)∈kvs→valV kvs k=some v
 | [],_,h=>nomatch h
 | (a,b) :: t,nd,h=>by
  rw [Zq,List.nodup_cons] at nd;rcases List.mem_cons.mp h with e | h
  ·cases e;exact zCr rfl
  ·have ne:a≠k:=fun z=>nd.1 (by rw [show (a,b).1=k from z];exact List.mem_map.mpr ⟨_,h,rfl⟩);rw [zCs ne];exact zEl nd.2 h
theorem kdOf {CK C:Addr}{H:Hp}{q d:Addr}{kvs:List (Key×V)}{zs:List (Addr×Row)}{ord:List Str}{G:Addr→Prop} (ka:KindsAt CK H q d kvs) (nd:(zs.map fun z=>z.2.name).Nodup) (kf:∀ z∈zs,KF C G H z.1 z.2) (pl:Placed zs ord kvs) (op:ord.Perm (zs.map fun z=>z.2.name)):Kd CK C H q (zs.map (·.2)):=by
 have keys:kvs.map (·.1)=ord.map Sum.inr:=by
  clear op ka
  induction pl with
  | nil=>rfl
  | cons r _ ih =>
   obtain ⟨q,_,e,_⟩:=r;rw [Zq,Zq,ih,e]
 have ndk:(kvs.map (·.1)).Nodup:=by
  rw [keys];exact List.pairwise_map.mpr ((op.nodup_iff.mpr nd).imp fun h e=>h (Sum.inr.inj e))
 refine ⟨d,kvs,zs,ka,rfl,fun z hz=>⟨(kf z hz).frame (fun _ _ e _=>e) fun _ _ _ _ e=>⟨trivial,e⟩,?_⟩,fun n hn=>?_⟩
 ·have hm:z.2.name∈ord:=op.mem_iff.mpr (List.mem_map_of_mem hz);obtain ⟨i,hi,ei⟩:=Zx hm;obtain ⟨kv,ek,w,hw,e1,e2⟩:=paired_at pl (i:=i) (by rw [Z5 hi,ei]);have:w=z:=by
   have:∀ (l:List (Addr×Row)),(l.map fun z=>z.2.name).Nodup→∀ a∈l,∀ b∈l,a.2.name=b.2.name→a=b:=by
    intro l
    induction l with
    | nil=>intro _ a ha;cases ha
    | cons x t ih =>
     intro nd a ha b hb e;rw [Zq,List.nodup_cons] at nd;rcases List.mem_cons.mp ha with rfl | ha' <;> rcases List.mem_cons.mp hb with rfl | hb'
     ·rfl
     ·exact absurd (by rw [e];exact List.mem_map_of_mem (f:=fun z:Addr×Row=>z.2.name) hb') nd.1
     ·exact absurd (by rw [← e];exact List.mem_map_of_mem (f:=fun z:Addr×Row=>z.2.name) ha') nd.1
     ·exact ih nd.2 a ha' b hb' e
   exact this zs nd w hw z hz e2
  rw [this] at e1;refine zEl ndk ?_;rw [← e1];exact Z3 ek
 ·cases e:valV kvs (Sum.inr n) with
  | none=>rfl
  | some v =>
   exfalso;unfold valV at e;cases ef:kvs.find? fun kv=>decide (kv.1=Sum.inr n) with
   | none=>rw [ef] at e;cases e
   | some kv =>
    have h1:kv.1=Sum.inr n:=by simpa using List.find?_some ef
    have h2:(Sum.inr n:Key)∈kvs.map (·.1):=by rw [← h1];exact List.mem_map_of_mem (List.mem_of_find?_eq_some ef)
    rw [keys] at h2;obtain ⟨m,hm,em⟩:=List.mem_map.mp h2;cases em;have:=op.mem_iff.mp hm;rw [Y0] at hn;exact hn this
theorem has_grown {G:Addr→Prop}{H H':Hp}{v:V}{d:PyData}{Pt:Addr}{pos:Pos}{q:Str} (h:Has G H v d) (T:TabOk H Pt pos q) (g:GrownBut Pt H H'):Has G H' v d :=
 h.frameS fun a o ga hs e=>⟨ga,g a o e (T.ne e (by rintro ps rfl;exact hs))⟩
theorem _root_.L2.TabOk.gen {H H':Hp}{P:Addr}{pos:Pos}{q:Str} (T:TabOk H P pos q) (k:∀ b o,H b=some o→b=P∨(∃ f,o=.ext f)→H' b=some o):TabOk H' P pos q:=by
 rcases T with z | ⟨c,z,y⟩
 ·exact .inl (k _ _ z (.inl rfl))
 ·exact .inr ⟨c,k _ _ z (.inl rfl),k _ _ y (.inr ⟨_,rfl⟩)⟩
theorem TabOk.tb {H:Hp}{P:Addr}{pos:Pos}{q:Str} (T:TabOk H P pos q):∃ ps,H P=some (.tbl ps):=by
 rcases T with z | ⟨c,z,_⟩
 ·exact ⟨_,z⟩
 ·exact ⟨_,z⟩
theorem ord_perm {rt:List Row}{ord:List Str} (g:Greedy (·∈rt) ord) (h:ord.length=rt.length) (nd:(rt.map (·.name)).Nodup):ord.Perm (rt.map (·.name)):=by
 refine (List.perm_ext_iff_of_nodup g.nodup nd).mpr fun n=>⟨fun hn=>?_,fun hn=>?_⟩
 ·obtain ⟨r,m,e⟩:=g.mem hn;exact List.mem_map.mpr ⟨r,m,e⟩
 ·refine Classical.byContradiction fun hno=>?_;have:=zEo (a:=n :: ord) (b:=rt.map (·.name)) (List.nodup_cons.mpr ⟨hno,g.nodup⟩) fun x hx=>by
   rcases List.mem_cons.mp hx with e | hx
   ·rw [e];exact hn
   ·obtain ⟨r',m',e⟩:=g.mem hx;exact List.mem_map.mpr ⟨r',m',e⟩
  rw [Zj,Z0] at this;omega
noncomputable def spCellAt (K:PySem.W.Frag):Sp:=fun vs H Q _=>∃ (a:Addr) (ns:List Int),vs=[.ref a,.int 0]∧SqL K H a (ns.map V.int)∧∀ z:Int,Q (.int z) H
section
variable {P:Program}{w:World}{K:PySem.W.Frag}{mg:Str→Option Value}{base:Heap}{CX:CXT}
theorem scCa:FnScope ["_law_script", "_law_k"] ["_law_script", "_law_k"] (defScope sCellAt):=⟨rfl,rfl,rfl,by decide +kernel,rfl,by decide +kernel,by decide +kernel⟩
theorem ok_cellAt {f:Addr}{fd:FuncData} (T:Tops K mg) (F:Fun K "_law_cell_at" "_law_cell_at" sCellAt f fd):FnOk P w K mg base CX 1 f fd ["_law_script", "_law_k"] (spCellAt K):=by
 refine Fun.okC F scCa (fun vs H Q E h=>?_) (fun cdv A outer s H vs Q E hr h=>?_)
 ·obtain ⟨a,ns,rfl,_⟩:=h;rfl
 ·obtain ⟨a,ns,rfl,ha,k⟩:=h
  refine ⟨_,zA3 (zAq (zAg op_lt (pv 1) (zAa zAp rfl T.len PySem.boot_len (zA0 (pv 0) zA2)) (nomark _))
     (zA5 (zAc (zAh zAr (pv 0) (pv 1) (fun _ _=>rfl)))) zAb)
     (zA5 (zAc zA4)),?_⟩
  refine ⟨_,rfl,_,rfl,a,_,rfl,.inl ha,_,_,rfl,rfl,_,rfl,?_⟩;refine ite2 (fun c=>?_) (fun c=>k 0);have c':=of_decide_eq_true c;cases ns with
  | nil=>exact absurd c' (by decide)
  | cons z t=>exact ⟨_,rfl,_,rfl,a,_,((0:Nat):Int),_,rfl,rfl,ha,zBw rfl,k z⟩
end
theorem zEi {rs:List Row} (rp:RowsP rs) {r:Row} (hr:r∈rs):FieldsOk (fieldsO rs r.owner):=by
 cases e:r.owner with
 | none=>exact ⟨Zm _,Yc,(fun f h=>nomatch h),(by show 1≤8;decide)⟩
 | some n =>
  obtain ⟨r',h',rfl⟩:=rp.ownIn r hr n e;show FieldsOk (fieldsOf rs r'.name);rw [zBm rp h'];exact (rp.ok r' h').2
end L2.W
namespace L2.W
open PySem My
theorem place_lt {fs:List (Str×List Str)}{f:Str}{i:Nat} (h:placeOf fs f=some i):i < fs.length:=by
 have:=(List.getElem?_eq_some_iff.mp (zDd h).1).1
 rwa [Z0] at this
noncomputable def hasVal (fs:List (Str×List Str)) (f:Str) (v:Option Str):Bool:=match placeOf fs f,v with
 | some i,some x=>decide (x∈(fs.getD i ("",[])).2)
 | _,_=>false
noncomputable def spHasV (C:Addr):Sp:=fun vs H Q _=>∃ (p:Addr) (r:Row) (f:Str) (v:Option Str),vs=[.ref p,.str f,ownV v]∧KF C Any H p r∧FieldsOk r.fields∧∀ H',Same H H'→Q (.bl (hasVal r.fields f v)) H'
theorem in_opt {ks:List Str}{v:Option Str}:inV (ownV v) (ks.map V.str)=(match v with | none=>false | some x=>decide (x∈ks)):=by
 cases v with
 | some x=>exact zCz ks
 | none =>
  show inV .non (ks.map V.str)=false
  induction ks with
  | nil=>rfl
  | cons k r ih =>
   unfold inV at ih ⊢;rw [Zq,Y8,ih];rfl
section
variable {P:Program}{w:World}{K:PySem.W.Frag}{mg:Str→Option Value}{base:Heap}{CX:CXT}
theorem scHv:FnScope ["kind", "field", "value", "place"] ["kind", "field", "value"] (defScope sHasVal):=⟨rfl,rfl,rfl,by decide +kernel,rfl,by decide +kernel,by decide +kernel⟩
theorem ok_hasV {f fp C fI:Addr}{fd fdp:FuncData} (hC:Calm CX) (KC:KCls K mg C fI) (F:Fun K "has_value" "has_value" sHasVal f fd) (DP:Def K mg "place_of" sPlaceOf ["kind", "field"] fp fdp):FnOk P w K mg base CX 2 f fd ["kind", "field", "value"] (spHasV C):=by
 have GP:FnOk P w K mg base CX 1 fp fdp ["kind", "field"] (spPlace C):=ok_place KC DP.fn;refine Fun.okC F scHv (fun vs H Q E h=>?_) (fun cdv A outer s H vs Q E hr h=>?_)
 ·obtain ⟨p,r,f,v,rfl,_⟩:=h;rfl
 ·obtain ⟨p,r,f,v,rfl,kf,ok,q⟩:=h;have nd:=scHv.nd
  refine ⟨_,zA3 (zAk (i:=3) nd rfl (Or.inl rfl) (zA6 GP hr rfl DP.at_ DP.fn.kp DP.bind .nil (passC hC) (zA0 (pv 0) (zA0 (pv 1) zA2))))
     (zA5 (zAc (zBr (zB0 zDf (pv 3) zBo (nomark _)) (zBx (zB0 zCk (pv 2) (zAh zAi (zAh zAr (zB2 (pv 0) rfl) (pv 3) (fun _ _=>rfl)) zA4 (fun _ _=>rfl)) rfl))))),?_⟩
  refine ⟨_,rfl,_,rfl,p,r,f,rfl,kf,ok,fun H1 s1=>?_⟩;have q1:=q _ s1;unfold hasVal at q1;cases e:placeOf r.fields f with
  | none =>
   rw [e] at q1;exact ⟨_,rfl,rfl,_,rfl,iteF q1⟩
  | some i =>
   rw [e] at q1;obtain ⟨dx,l,hp,hd⟩:=kf.same s1;obtain ⟨l',xs,e',_,hl,_,hx⟩:=hd.list_inv;cases e';have lt:=place_lt e;have xl:xs.length=r.fields.length:=by rw [hx.length,Z0]
   have ex:xs[i]? = some xs[i]:=Z5 (by omega);obtain ⟨d,hd',hv⟩:=hx.get ex;rw [Z6,Z5 lt] at hd';cases hd';obtain ⟨b,lv,eb,hb,hlv⟩:=zC5 hv;rw [eb] at ex;refine ⟨_,rfl,rfl,_,rfl,iteT ⟨_,rfl,_,rfl,p,C,dx,_,_,rfl,hp,KC.cl,KC.nF,kf_fields _ _ _,_,rfl,l,_,((i:Nat):Int),_,rfl,rfl,SqL.of hl,zBw ex,b,_,1,_,rfl,rfl,SqT.of hb,rfl,lv,_,rfl,.inl (SqL.of hlv),by cases v <;> rfl,flats _,?_⟩⟩;show Q (.bl (inV (ownV v) (r.fields[i].2.map V.str))) H1;rw [in_opt];have eg:r.fields.getD i ("",[])=r.fields[i]:=by rw [List.getD_eq_getElem?_getD,Z5 lt];rfl
   cases v with
   | none=>exact q1
   | some x =>
    have q2:Q (.bl (decide (x∈(r.fields.getD i ("",[])).2))) H1:=q1;rw [eg] at q2;exact q2
end
end L2.W
namespace L2.W
open PySem My
inductive Chg where
 | make (ns:List Str) | set (f:Str) (v:Option Str) | take
noncomputable def chgD:Chg→PyData
 | .make ns=>.tuple [.str "make",.list (ns.map .str)]
 | .set f v=>.tuple [.str "set",.str f,ownD v]
 | .take=>.tuple [.str "take"]
noncomputable def ChgOk:Chg→Prop
 | .make ns=>(∀ x∈ns,nameOk x)∧ns.Nodup∧ns.length≤10
 | .set f v=>nameOk f∧∀ x,v=some x→nameOk x
 | .take=>True
structure CB where
 (ch tm ts tt ru ha fTm fTs fRu fHa sTm sTs sTt:Addr)
noncomputable def IsChg (B:CB) (C:Addr):Prop:=C=B.tm∨C=B.ts∨C=B.tt
noncomputable def fFl (l:V):List (Str×V):=putF "fields" l []
theorem fFl_f (l:V):(fFl l).lookup ("fields" : Str)=some l:=by unfold fFl;rw [zA8,if_pos rfl]
theorem fFl_n {m:Str} (l:V) (h:¬ m = "fields"):(fFl l).lookup m=none:=by unfold fFl;rw [zA8,if_neg h];rfl
theorem fV_n {m:Str} (f v:V) (h:¬ m = "field") (h':¬ m = "value"):(fV f v).lookup m=none:=by unfold fV;rw [zA8,if_neg h',zA8,if_neg h];rfl
inductive ChgAt (B:CB) (H:Hp):Addr→Chg→Prop where
 | make {p dx l:Addr}{ns:List Str} (e:H p=some (.ins B.tm dx (fFl (.ref l)))) (hl:H l=some (.lst (ns.map V.str))):ChgAt B H p (.make ns)
 | set {p dx:Addr}{f:Str}{v:Option Str} (e:H p=some (.ins B.ts dx (fV (.str f) (ownV v)))):ChgAt B H p (.set f v)
 | take {p dx:Addr} (e:H p=some (.ins B.tt dx [])):ChgAt B H p .take
theorem ChgAt.keep {B:CB}{H H':Hp}{p:Addr}{c:Chg} (h:ChgAt B H p c) (s:∀ b o,H b=some o→(∃ C dx fs,o=.ins C dx fs)∨(∃ ps,o=.lst ps)→H' b=some o):ChgAt B H' p c:=by
 cases h with
 | make e hl=>exact .make (s _ _ e (.inl ⟨_,_,_,rfl⟩)) (s _ _ hl (.inr ⟨_,rfl⟩))
 | set e=>exact .set (s _ _ e (.inl ⟨_,_,_,rfl⟩))
 | take e=>exact .take (s _ _ e (.inl ⟨_,_,_,rfl⟩))
theorem ChgAt.same {B:CB}{H H':Hp}{p:Addr}{c:Chg} (h:ChgAt B H p c) (s:Same H H'):ChgAt B H' p c:=h.keep fun b o e _=>s b o e
noncomputable def clsC (B:CB):Chg→Addr
 | .make _=>B.tm
 | .set _ _=>B.ts
 | .take=>B.tt
theorem ChgAt.ins {B:CB}{H:Hp}{p:Addr}{c:Chg} (h:ChgAt B H p c):∃ dx fs,H p=some (.ins (clsC B c) dx fs)∧IsChg B (clsC B c)∧fs.lookup ("suits" : Str)=none:=by
 cases h with
 | make e hl=>exact ⟨_,_,e,.inl rfl,fFl_n _ (by decide +kernel)⟩
 | set e=>exact ⟨_,_,e,.inr (.inl rfl),fV_n _ _ (by decide +kernel) (by decide +kernel)⟩
 | take e=>exact ⟨_,_,e,.inr (.inr rfl),rfl⟩
structure Cng (K:PySem.W.Frag) (mg:Str→Option Value) (B:CB):Prop where
 all:∀ C,IsChg B C→CC1 K B.ch C
 ch:mg "Change" = some (.ref B.ch)
 gTm:mg "ToMake" = some (.ref B.tm)
 kTm:Mk K B.tm B.fTm
 gTs:mg "ToSet" = some (.ref B.ts)
 kTs:Mk K B.ts B.fTs
 gTt:mg "ToTake" = some (.ref B.tt)
 kTt:MkN K B.tt
 ne:[B.tm,B.ts,B.tt].Nodup
 nTm:NoAttr K B.tm "fields"
 nTsf:NoAttr K B.ts "field"
 nTsv:NoAttr K B.ts "value"
 rcl:Cls K B.ru
 gRu:mg "Rule" = some (.ref B.ru)
 kRu:Mk K B.ru B.fRu
 nRk:NoAttr K B.ru "kind"
 nRc:NoAttr K B.ru "change"
 nRd:NoAttr K B.ru "condition"
 nRb:NoAttr K B.ru "behind"
 sTm:Meth K B.tm "suits" B.sTm
 sTs:Meth K B.ts "suits" B.sTs
 sTt:Meth K B.tt "suits" B.sTt
 rI:KIsi K B.ru
 hcl:Cls K B.ha
 hI:KIsi K B.ha
 gHa:mg "Hand" = some (.ref B.ha)
 kHa:Mk K B.ha B.fHa
 nHn:NoAttr K B.ha "name"
 nHr:NoAttr K B.ha "rules"
theorem zFc {B:CB} (ne:[B.tm,B.ts,B.tt].Nodup) {c:Chg}:(clsC B c=B.tm→∃ ns,c=.make ns)∧(clsC B c=B.ts→∃ f v,c=.set f v)∧(clsC B c=B.tt→c=.take):=by
 simp only [List.nodup_cons,Y3,Zz,or_false,not_or,Yc,and_true,not_false_eq_true] at ne;obtain ⟨⟨a1,a2⟩,b1⟩:=ne;rcases c with _ | _ | _ <;> simp [clsC,a1,a2,b1,Ne.symm a1,Ne.symm a2,Ne.symm b1]
theorem own_non (x:Option Str):decide (ownV x=V.non)=x.isNone:=by cases x <;> rfl
end L2.W
namespace L2.W
open PySem My
noncomputable def rF (k c d b:V):List (Str×V):=putF "behind" b (putF "condition" d (putF "change" c (putF "kind" k [])))
theorem rF_k (k c d b:V):(rF k c d b).lookup ("kind" : Str)=some k:=by unfold rF;rw [zA8,if_neg (by decide +kernel),zA8,if_neg (by decide +kernel),zA8,if_neg (by decide +kernel),zA8,if_pos rfl]
theorem rF_c (k c d b:V):(rF k c d b).lookup ("change" : Str)=some c:=by unfold rF;rw [zA8,if_neg (by decide +kernel),zA8,if_neg (by decide +kernel),zA8,if_pos rfl]
theorem rF_d (k c d b:V):(rF k c d b).lookup ("condition" : Str)=some d:=by unfold rF;rw [zA8,if_neg (by decide +kernel),zA8,if_pos rfl]
theorem rF_b (k c d b:V):(rF k c d b).lookup ("behind" : Str)=some b:=by unfold rF;rw [zA8,if_pos rfl]
noncomputable def NmsOk (ns:List Str):Prop:=(∀ x∈ns,nameOk x)∧ns.Nodup∧ns.length≤10
noncomputable def spTM (B:CB):Sp:=fun vs H Q _=>∃ (p dx l:Addr) (ns:List Str),vs=[.ref p,.ref l]∧H p=some (.ins B.tm dx [])∧H l=some (.lst (ns.map V.str))∧NmsOk ns∧∀ H' l',H' p=some (.ins B.tm dx (fFl (.ref l')))→H' l'=some (.lst (ns.map V.str))→H l'=none→But p H H'→Q .non H'
noncomputable def spTS (B:CB):Sp:=fun vs H Q _=>∃ (p dx:Addr) (f:Str) (v:Option Str),vs=[.ref p,.str f,ownV v]∧H p=some (.ins B.ts dx [])∧nameOk f∧(∀ x,v=some x→nameOk x)∧∀ H',H' p=some (.ins B.ts dx (fV (.str f) (ownV v)))→But p H H'→Q .non H'
noncomputable def spOtherK:Sp:=fun vs H Q _=>∃ (l:Addr) (n:Str) (bs:List Str),vs=[.str n,.ref l]∧H l=some (.lst (bs.map V.str))∧NmsOk bs∧n∉bs∧∀ H',Same H H'→Q (.bl true) H'
noncomputable def spRu (A:CA) (B:CB):Sp:=fun vs H Q _=>∃ (p dx c t l:Addr) (n:Str) (bs:List Str),vs=[.ref p,.str n,.ref c,.ref t,.ref l]∧H p=some (.ins B.ru dx [])∧nameOk n∧(∃ C dx fs,H c=some (.ins C dx fs)∧IsChg B C)∧IsC A H t∧H l=some (.lst (bs.map V.str))∧NmsOk bs∧n∉bs ∧
 ∀ H' l',H' p=some (.ins B.ru dx (rF (.str n) (.ref c) (.ref t) (.ref l')))→H' l'=some (.lst (bs.map V.str))→H l'=none→But p H H'→Q .non H'
section
variable {P:Program}{w:World}{K:PySem.W.Frag}{mg:Str→Option Value}{base:Heap}{CX:CXT}
theorem zDz {G:Addr→Prop}{H:Hp}{l:Addr}{ns:List Str} (g:G l) (h:H l=some (.lst (ns.map V.str))) (ok:NmsOk ns):Has G H (.ref l) (.list (ns.map .str)):=.lst g h (by rw [Z0];have:=ok.2.2;omega) (zBu ok.1)
theorem scTM:FnScope ["self", "fields"] ["self", "fields"] (defScope sInitTM):=⟨rfl,rfl,rfl,by decide +kernel,rfl,by decide +kernel,by decide +kernel⟩
theorem ok_initTM {f fu fn:Addr}{fd fdu fdn:FuncData}{B:CB} (hC:Calm CX) (T:Tops K mg) (N:Cng K mg B) (F:Fun K "__init__" "ToMake.__init__" sInitTM f fd) (DN:Def K mg "is_name" sIsName ["thing"] fn fdn) (DU:Def K mg "are_unlike_names" sUnlike ["things"] fu fdu):FnOk P w K mg base CX 3 f fd ["self", "fields"] (spTM B):=by
 have GU:FnOk P w K mg base CX 2 fu fdu ["things"] spUnlike:=zBt hC T DU.fn DN;refine Fun.okC F scTM (fun vs H Q E h=>?_) (fun cdv Ar outer s H vs Q E hr h=>?_)
 ·obtain ⟨p,dx,l,ns,rfl,_⟩:=h;rfl
 ·obtain ⟨p,dx,l,ns,rfl,hp,hl,ok,q⟩:=h;have nd:=scTM.nd;have cl:=(N.all B.tm (.inl rfl)).cl
  refine ⟨_,zA3 (zAq (PW.pt (zC0 (zAu (zAl (zAa zAs rfl T.isinst PyProof.Rows.boot_isinstance (zA0 (pv 1) (zA0 (zBk (v:=.ty "list") rfl T.list PyProof.Rows.boot_list rfl) zA2))))) (zBd (zAu (zAl (zA6 GU hr rfl DU.at_ DU.fn.kp DU.bind .nil (passC hC) (zA0 (pv 1) zA2)))))))
     zAo zAb)
     (zA5 (zB9 (pv 0) (zAn zAz rfl T.list PyProof.Rows.boot_list (zA0 (pv 1) zA2)) rfl)),?_⟩
  refine ⟨_,rfl,_,_,_,_,_,rfl,.lst hl,rfl,rfl,_,rfl,iteF ?_⟩;refine ⟨_,rfl,_,ns.map .str,rfl,zDz trivial hl ok,fun H1 s1=>⟨_,rfl,?_⟩⟩;rw [zCg (fun y hy=>(ok.1 y hy).1) ok.2.1];refine iteF ⟨_,rfl,l,_,rfl,.inl (SqL.of (s1 _ _ hl)),fun l2 h2=>?_⟩;have n2:l2≠p:=(zA7 (s1 _ _ hp) h2).symm;have s2:=s1.trans (Same.new (o:=.lst (ns.map V.str)) h2);refine ⟨_,rfl,p,B.tm,dx,[],rfl,s2 _ _ hp,cl,N.nTm,(by show 0 < 1000;decide),?_⟩;exact q _ l2 zA1 (by rw [zA9 n2];exact zA1) (s1.free h2) fun b o e n=>by rw [zA9 n];exact s2 _ _ e
theorem scTS:FnScope ["self", "field", "value"] ["self", "field", "value"] (defScope sInitTS):=⟨rfl,rfl,rfl,by decide +kernel,rfl,by decide +kernel,by decide +kernel⟩
theorem ok_initTS {f fn:Addr}{fd fdn:FuncData}{B:CB} (hC:Calm CX) (T:Tops K mg) (N:Cng K mg B) (F:Fun K "__init__" "ToSet.__init__" sInitTS f fd) (DN:Def K mg "is_name" sIsName ["thing"] fn fdn):FnOk P w K mg base CX 2 f fd ["self", "field", "value"] (spTS B):=by
 have GN:FnOk P w K mg base CX 1 fn fdn ["thing"] spNameD:=zCe DN.fn T;refine Fun.okC F scTS (fun vs H Q E h=>?_) (fun cdv Ar outer s H vs Q E hr h=>?_)
 ·obtain ⟨p,dx,f,v,rfl,_⟩:=h;rfl
 ·obtain ⟨p,dx,f,v,rfl,hp,of,ov,q⟩:=h;have nd:=scTS.nd;have cl:=(N.all B.ts (.inr (.inl rfl))).cl
  refine ⟨_,zA3 (zAq (zAu (zAl (zA6 GN hr rfl DN.at_ DN.fn.kp DN.bind .nil (passC hC) (zA0 (pv 1) zA2))))
     zAo zAb)
     (zA3 (zAq (PW.pt (zC3 (zCh (zEz (pv 2))) (zBj (zAu (zAl (zA6 GN hr rfl DN.at_ DN.fn.kp DN.bind .nil (passC hC) (zA0 (pv 2) zA2)))))))
     zAo zAb)
     (zA3 (zB9 (pv 0) (pv 1) rfl)
     (zA5 (zB9 (pv 0) (pv 2) rfl)))),?_⟩
  refine ⟨_,rfl,_,.str f,rfl,.str _ (Zo of.2.2 (by decide)) of.2.1,fun H1 s1=>⟨_,rfl,?_⟩⟩;rw [show nameD (.str f)=true from of.1];refine iteF ⟨_,rfl,_,rfl,?_⟩;have fin:∀ {H2:Hp},Same H H2→Q .non (upd (upd H2 p (.ins B.ts dx (putF "field" (.str f) []))) p (.ins B.ts dx (fV (.str f) (ownV v)))):=fun {H2} s2=>q _ zA1 fun b o e n=>by rw [zA9 n,zA9 n];exact s2 _ _ e
  cases v with
  | none=>exact iteF (iteF ⟨_,rfl,_,rfl,p,B.ts,dx,[],rfl,s1 _ _ hp,cl,N.nTsf,(by show 0 < 1000;decide),_,rfl,_,rfl,p,B.ts,dx,_,rfl,zA1,cl,N.nTsv,(by show 1 < 1000;decide),fin s1⟩)
  | some x =>
   have ox:=ov x rfl;refine iteT ⟨_,rfl,_,.str x,rfl,.str _ (Zo ox.2.2 (by decide)) ox.2.1,fun H2 s2=>⟨_,rfl,?_⟩⟩;rw [show nameD (.str x)=true from ox.1];refine iteF ?_;exact ⟨_,rfl,_,rfl,p,B.ts,dx,[],rfl,(s1.trans s2) _ _ hp,cl,N.nTsf,(by show 0 < 1000;decide),_,rfl,_,rfl,p,B.ts,dx,_,rfl,zA1,cl,N.nTsv,(by show 1 < 1000;decide),fin (s1.trans s2)⟩
theorem scOt:FnScope ["kind", "things"] ["kind", "things"] (defScope sOtherKinds):=⟨rfl,rfl,rfl,by decide +kernel,rfl,by decide +kernel,by decide +kernel⟩
theorem ok_otherK {f fu fn:Addr}{fd fdu fdn:FuncData} (hC:Calm CX) (T:Tops K mg) (F:Fun K "are_other_kinds" "are_other_kinds" sOtherKinds f fd) (DN:Def K mg "is_name" sIsName ["thing"] fn fdn) (DU:Def K mg "are_unlike_names" sUnlike ["things"] fu fdu):FnOk P w K mg base CX 3 f fd ["kind", "things"] spOtherK:=by
 have GU:FnOk P w K mg base CX 2 fu fdu ["things"] spUnlike:=zBt hC T DU.fn DN;refine Fun.okC F scOt (fun vs H Q E h=>?_) (fun cdv A outer s H vs Q E hr h=>?_)
 ·obtain ⟨l,n,bs,rfl,_⟩:=h;rfl
 ·obtain ⟨l,n,bs,rfl,hl,ok,no,k⟩:=h;refine ⟨_,zA5 (zAc (zBr (zAa zAs rfl T.isinst PyProof.Rows.boot_isinstance (zA0 (pv 1) (zA0 (zBk (v:=.ty "list") rfl T.list PyProof.Rows.boot_list rfl) zA2))) (zBr (zA6 GU hr rfl DU.at_ DU.fn.kp DU.bind .nil (passC hC) (zA0 (pv 1) zA2)) (zBx (zB0 zCi (pv 0) (pv 1) rfl))))),?_⟩;refine ⟨_,rfl,_,_,_,_,_,rfl,.lst hl,rfl,rfl,_,rfl,iteT ?_⟩;refine ⟨_,rfl,_,bs.map .str,rfl,zDz trivial hl ok,fun H1 s1=>⟨_,rfl,?_⟩⟩;rw [zCg (fun y hy=>(ok.1 y hy).1) ok.2.1];refine iteT ⟨_,rfl,_,rfl,l,_,rfl,.inl (SqL.of (s1 _ _ hl)),rfl,flats _,?_⟩;rw [zCz,decide_eq_false no];exact k H1 s1
theorem scRu:FnScope ["self", "kind", "change", "condition", "behind"] ["self", "kind", "change", "condition", "behind"] (defScope sInitR):=⟨rfl,rfl,rfl,by decide +kernel,rfl,by decide +kernel,by decide +kernel⟩
theorem ok_ru {f fo fn:Addr}{fd fdo fdn:FuncData}{A:CA}{B:CB} (hC:Calm CX) (T:Tops K mg) (M:Cnd K mg A) (N:Cng K mg B) (F:Fun K "__init__" "Rule.__init__" sInitR f fd) (DN:Def K mg "is_name" sIsName ["thing"] fn fdn) (DO:Def K mg "are_other_kinds" sOtherKinds ["kind", "things"] fo fdo) (GO:FnOk P w K mg base CX 3 fo fdo ["kind", "things"] spOtherK):FnOk P w K mg base CX 4 f fd ["self", "kind", "change", "condition", "behind"] (spRu A B):=by
 have GN:FnOk P w K mg base CX 1 fn fdn ["thing"] spNameD:=zCe DN.fn T;refine Fun.okC F scRu (fun vs H Q E h=>?_) (fun cdv Ar outer s H vs Q E hr h=>?_)
 ·obtain ⟨p,dx,c,t,l,n,bs,rfl,_⟩:=h;rfl
 ·obtain ⟨p,dx,c,t,l,n,bs,rfl,hp,on,⟨C,dc,fc,hc,ic⟩,ht,hl,ok,no,q⟩:=h;have hr1:=hr.mono (show 1≤3 by decide);have nd:=scRu.nd
  refine ⟨_,zA3 (zAq (zAu (zAl (zA6 GN hr1 rfl DN.at_ DN.fn.kp DN.bind .nil (passC hC) (zA0 (pv 1) zA2))))
     zAo zAb)
     (zA3 (zAq (zAu (zAl (zAa zAs rfl T.isinst PyProof.Rows.boot_isinstance (zA0 (pv 2) (zA0 (zAv (v:=.ref B.ch) rfl N.ch rfl) zA2)))))
     zAo zAb)
     (zA3 (zAq (zAu (zAl (zAa zAs rfl T.isinst PyProof.Rows.boot_isinstance (zA0 (pv 3) (zA0 (zAv (v:=.ref A.cc) rfl M.cc rfl) zA2)))))
     zAo zAb)
     (zA3 (zAq (zAu (zAl (zA6 GO hr rfl DO.at_ DO.fn.kp DO.bind .nil (passC hC) (zA0 (pv 1) (zA0 (pv 4) zA2)))))
     zAo zAb)
     (zA3 (zB9 (pv 0) (pv 1) rfl)
     (zA3 (zB9 (pv 0) (pv 2) rfl)
     (zA3 (zB9 (pv 0) (pv 3) rfl)
     (zA5 (zB9 (pv 0) (zAn zAz rfl T.list PyProof.Rows.boot_list (zA0 (pv 4) zA2)) rfl)))))))),?_⟩
  refine ⟨_,rfl,_,.str n,rfl,.str _ (Zo on.2.2 (by decide)) on.2.1,fun H1 s1=>⟨_,rfl,?_⟩⟩;rw [show nameD (.str n)=true from on.1];refine iteF ⟨_,rfl,_,_,_,_,_,rfl,(N.all C ic).ty (s1 _ _ hc),rfl,(N.all C ic).sub,_,rfl,iteF ?_⟩;obtain ⟨C2,ty2,kt2⟩:=isi_all M (ht.same s1);refine ⟨_,rfl,_,_,_,_,_,rfl,ty2,rfl,kt2,_,rfl,iteF ?_⟩;refine ⟨_,rfl,_,rfl,l,n,bs,rfl,s1 _ _ hl,ok,no,fun H2 s2=>⟨_,rfl,iteF ?_⟩⟩;have s12:=s1.trans s2;refine ⟨_,rfl,_,rfl,p,B.ru,dx,[],rfl,s12 _ _ hp,N.rcl,N.nRk,(by show 0 < 1000;decide),?_⟩;refine ⟨_,rfl,_,rfl,p,B.ru,dx,_,rfl,zA1,N.rcl,N.nRc,(by show 1 < 1000;decide),?_⟩;refine ⟨_,rfl,_,rfl,p,B.ru,dx,_,rfl,zA1,N.rcl,N.nRd,(by show 2 < 1000;decide),?_⟩;have fr:∀ b o,H b=some o→b≠p→(upd (upd (upd H2 p (.ins B.ru dx (putF "kind" (.str n) []))) p (.ins B.ru dx (putF "change" (.ref c) (putF "kind" (.str n) [])))) p (.ins B.ru dx (putF "condition" (.ref t) (putF "change" (.ref c) (putF "kind" (.str n) []))))) b=some o:=fun b o e nb=>by rw [zA9 nb,zA9 nb,zA9 nb];exact s12 _ _ e
  have hp5:(upd (upd (upd H2 p (.ins B.ru dx (putF "kind" (.str n) []))) p (.ins B.ru dx (putF "change" (.ref c) (putF "kind" (.str n) [])))) p (.ins B.ru dx (putF "condition" (.ref t) (putF "change" (.ref c) (putF "kind" (.str n) []))))) p=some (.ins B.ru dx (putF "condition" (.ref t) (putF "change" (.ref c) (putF "kind" (.str n) [])))):=zA1;generalize upd (upd (upd H2 p (.ins B.ru dx (putF "kind" (.str n) []))) p (.ins B.ru dx (putF "change" (.ref c) (putF "kind" (.str n) [])))) p (.ins B.ru dx (putF "condition" (.ref t) (putF "change" (.ref c) (putF "kind" (.str n) []))))=H5 at fr hp5 ⊢;have npl:l≠p:=by rintro rfl;rw [hl] at hp;cases hp
  refine ⟨_,rfl,l,_,rfl,.inl (SqL.of (fr _ _ hl npl)),fun l2 h2=>?_⟩;have n2:l2≠p:=Ne.symm (zA7 hp5 h2);have f2:H l2=none:=by
   cases z:H l2 with
   | none=>rfl
   | some o=>rw [fr _ _ z n2] at h2;cases h2
  refine ⟨_,rfl,p,B.ru,dx,_,rfl,(Same.new h2) _ _ hp5,N.rcl,N.nRb,(by show 3 < 1000;decide),?_⟩;exact q _ l2 zA1 (by rw [zA9 n2];exact zA1) f2 fun b o e nb=>by rw [zA9 nb];exact (Same.new h2) _ _ (fr b o e nb)
end
structure RuIn (A:CA) (B:CB) (H:Hp) (p:Addr) (n:Str) (c:Chg) (t:Tr) (bs:List Str) (pc pt l:Addr):Prop where
 e:∃ dx,H p=some (.ins B.ru dx (rF (.str n) (.ref pc) (.ref pt) (.ref l)))
 c:ChgAt B H pc c
 t:CondAt A H pt t
 l:H l=some (.lst (bs.map V.str))
theorem RuIn.same {A:CA}{B:CB}{H H':Hp}{p:Addr}{n:Str}{c:Chg}{t:Tr}{bs:List Str}{pc pt l:Addr} (h:RuIn A B H p n c t bs pc pt l) (s:Same H H'):RuIn A B H' p n c t bs pc pt l:=⟨let ⟨dx,e⟩:=h.e;⟨dx,s _ _ e⟩,h.c.same s,h.t.same s,s _ _ h.l⟩
end L2.W
namespace L2.W
open PySem My
theorem cut_strs (xs:List Str) (lo hi:Option Int):∃ ms:List Str,cutV (xs.map V.str) lo hi=ms.map V.str∧ms.Sublist xs:=by
 unfold cutV;rw [← List.map_drop,← List.map_take];exact ⟨_,rfl,(List.take_sublist _ _).trans (List.drop_sublist _ _)⟩
theorem step_strs (st:Int) (xs:List Str):∃ ms:List Str,stepL st (xs.map V.str)=ms.map V.str∧(∀ x∈ms,x∈xs)∧(xs.Nodup→ms.Nodup)∧ms.length=xs.length:=by
 unfold stepL;by_cases c:st=1
 ·rw [if_pos c];exact ⟨xs,rfl,fun _ h=>h,id,rfl⟩
 ·rw [if_neg c,← List.map_reverse];exact ⟨xs.reverse,rfl,fun _ h=>List.mem_reverse.mp h,fun h=>List.pairwise_reverse.mpr (h.imp Ne.symm),List.length_reverse⟩
noncomputable def spChg:Sp:=fun vs H Q _=>∃ (p lf:Addr) (b:Bool) (fs:List (Str×List Str)) (k:Int),vs=[.ref p,.ref lf,.bl b]∧Src H p k∧k≤700000∧Fl H p lf fs∧(∀ f∈fs,f.1≠"g") ∧
 ∀ v c H',ChgOk c→Has (fun a=>a≠p) H' v (chgD c)→Src H' p (k + 20)→ButS p H H'→Q v H'
noncomputable def spCObj (B:CB):Sp:=fun vs H Q _=>∃ (v:V) (c:Chg),vs=[v]∧Has Any H v (chgD c)∧ChgOk c∧∀ p H',ChgAt B H' p c→Same H H'→Q (.ref p) H'
noncomputable def ruleD (n:Str) (c:Chg) (t:Tr) (bs:List Str):PyData:=.tuple [.str n,chgD c,trD t,.list (bs.map .str)]
structure RlOk (n:Str) (c:Chg) (t:Tr) (bs:List Str):Prop where
 nm:nameOk n
 cg:ChgOk c
 tr:TrOk t
 h:trH t≤2
 b:NmsOk bs
 no:n∉bs
noncomputable def spRul:Sp:=fun vs H Q _=>∃ (p l:Addr) (b:Bool) (rs:List Row) (k:Int),vs=[.ref p,.ref l,.bl b]∧Src H p k∧k≤600000∧Has (fun a=>a≠p) H (.ref l) (.list (rs.map rowD))∧RowsP rs∧rs.length≤3∧(∀ r∈rs,∀ f∈r.fields,f.1≠"g") ∧
 ∀ v n c t bs H',RlOk n c t bs→(n∈rs.map (·.name)∧∀ x∈bs,x∈rs.map (·.name))→Has (fun a=>a≠p) H' v (ruleD n c t bs)→Src H' p (k + 200)→ButS p H H'→Q v H'
noncomputable def spRObj (A:CA) (B:CB):Sp:=fun vs H Q _=>∃ (v:V) (n:Str) (c:Chg) (t:Tr) (bs:List Str),vs=[v]∧Has Any H v (ruleD n c t bs)∧RlOk n c t bs∧∀ p pc pt l H',RuIn A B H' p n c t bs pc pt l→Same H H'→Q (.ref p) H'
theorem zDn {G:Addr→Prop}{H:Hp}:∀ {ys:List V}{ks:List Str},HasAll G H ys (ks.map .str)→ys=ks.map V.str
 | [],[],_=>rfl
 | _ :: _,_ :: _,.cons h t=>by rw [h.str_inv.1,zDn t];rfl
section
variable {P:Program}{w:World}{K:PySem.W.Frag}{mg:Str→Option Value}{base:Heap}{CX:CXT}
noncomputable abbrev nCg:List Str:=["_law_source", "_law_fields_here", "_law_strange", "_law_way", "_law_names", "?", "_law_value"]
theorem scCg:FnScope ["_law_source", "_law_fields_here", "_law_strange", "_law_way", "_law_names", "_law_field", "_law_value"] ["_law_source", "_law_fields_here", "_law_strange"] (defScope sChange):=⟨rfl,rfl,rfl,by decide +kernel,rfl,by decide +kernel,by decide +kernel⟩
theorem sameCg:sameN ["_law_source", "_law_fields_here", "_law_strange", "_law_way", "_law_names", "_law_field", "_law_value"] nCg [5]:=by unfold sameN;decide +kernel
theorem ndCg:(nCg:List Str).Nodup:=by decide +kernel
theorem ok_chg {f fn fp:Addr}{fd fdn fdp:FuncData} (hC:Calm CX) (F:Fun K "_law_change" "_law_change" sChange f fd) (Dn:Def K mg "_law_next" sNext ["_law_source", "_law_many"] fn fdn) (Gn:FnOk P w K mg base CX 2 fn fdn ["_law_source", "_law_many"] spNext)
  (Dp:Def K mg "_law_pair" sLPair ["_law_source", "_law_fields_here", "_law_strange"] fp fdp) (Gp:FnOk P w K mg base CX 3 fp fdp ["_law_source", "_law_fields_here", "_law_strange"] spPairL):FnOk P w K mg base CX 4 f fd ["_law_source", "_law_fields_here", "_law_strange"] spChg:=by
 refine Fun.okC F scCg (fun vs H Q E h=>?_) (fun cdv A outer s H vs Q E hr h=>?_)
 ·obtain ⟨p,lf,b,fs,k,rfl,_⟩:=h;rfl
 ·obtain ⟨p,lf,b,fs,k,rfl,S0,hk,fl,ng,q⟩:=h;have nd:=scCg.nd;have hr2:=hr.mono (show 2≤3 by decide)
  refine ⟨_,zA3 (zAk (i:=3) nd rfl (Or.inl rfl) (zA6 Gn hr2 rfl Dn.at_ Dn.fn.kp Dn.bind .nil (passC hC) (zA0 (pv 0) (zA0 zA4 zA2))))
     (zA3 (zAq (zAg op_lt (pv 3) zA4 (nomark _))
     (zA3 (ps_re nCg [5] sameCg (zB4 (T:=["_law_field", "_law_values"]) (i:=4) rfl ScOk.auto (zAj (pv 1)) (fun _ _ _ _=>zDe (K:=K) (n:=2) rfl rfl (zAw (zAd (i:=7) (by decide +kernel:(["_law_source", "_law_fields_here", "_law_strange", "_law_way", "_law_names", "?", "_law_value", "_law_field", "_law_values"]:List Str).Nodup) rfl (Or.inl rfl)) (zAw (zAd (i:=8) (by decide +kernel:(["_law_source", "_law_fields_here", "_law_strange", "_law_way", "_law_names", "?", "_law_value", "_law_field", "_law_values"]:List Str).Nodup) rfl (Or.inl rfl)) zC1))) (fun _ _ _ _=>zAy) (fun _ _ _ _=>(pv 7)) ndCg rfl rfl rfl))
     (zA3 (zB4 (T:=["_law_name"]) (i:=4) rfl ScOk.auto (zAj (zEt (pv 4) (zAh zAr (zAm (zA0 zA4 (zA0 (pe_un un_neg zA4) zA2))) (zA6 Gn hr2 rfl Dn.at_ Dn.fn.kp Dn.bind .nil (passC hC) (zA0 (pv 0) (zA0 zA4 zA2))) (fun _ _=>rfl)))) (fun _ _ _ _=>zAd (i:=7) (by decide +kernel:(["_law_source", "_law_fields_here", "_law_strange", "_law_way", "_law_names", "_law_field", "_law_value", "_law_name"]:List Str).Nodup) rfl (Or.inl rfl)) (fun _ _ _ _=>zD4 (zAg op_gt (zA6 Gn hr2 rfl Dn.at_ Dn.fn.kp Dn.bind .nil (passC hC) (zA0 (pv 0) (zA0 zA4 zA2))) zA4 (nomark _))) (fun _ _ _ _=>(pv 7)) nd rfl rfl rfl)
     (zA3 (zAq (PW.pt (zC3 (zAl (pv 2)) (zBj (zAg zBc (zA6 Gn hr2 rfl Dn.at_ Dn.fn.kp Dn.bind .nil (passC hC) (zA0 (pv 0) (zA0 zA4 zA2))) zA4 (nomark _)))))
     (zA5 (zAk (i:=4) nd rfl (Or.inl rfl) (zAx zDx (pv 4) (zAm (zA0 zAf zA2))))) zAb)
     (zA5 (zAc (zB8 (zA0 zAf (zA0 (pv 4) zA2)))))))) zAb)
     (zA3 (zAq (PW.pt (zC3 (zAg op_lt (pv 3) zA4 (nomark _)) (zBj (PW.pt (zC0 (zAg (op_neD hr.units) (pv 1) (zAm zA2) (nomark _)) (zBd (zAl (pv 2))))))))
     (zA3 (zDs (zA6 Gp hr rfl Dp.at_ Dp.fn.kp Dp.bind .nil (passC hC) (zA0 (pv 0) (zA0 (pv 1) (zA0 (pv 2) zA2)))) (zDt rfl (zAw (zAd (i:=5) nd rfl (Or.inl rfl)) (zAw (zAd (i:=6) nd rfl (Or.inl rfl)) zC1))))
     (zA5 (zAc (zB8 (zA0 zAf (zA0 (pv 5) (zA0 (zAh zAr (zAm (zA0 (pv 6) (zA0 zBo zA2))) (zA6 Gn hr2 rfl Dn.at_ Dn.fn.kp Dn.bind .nil (passC hC) (zA0 (pv 0) (zA0 zA4 zA2))) (fun _ _=>rfl)) zA2))))))) zAb)
     (zA5 (zAc (zB8 (zA0 zAf zA2)))))),?_⟩
  have small:∀ n:Nat,n≤1000→n≤sizeLine:=fun n h=>Zi (small1000 h);refine ⟨_,rfl,p,6,k,rfl,S0,by omega,by decide,by decide,fun r H1 r0 r1 S1 k1=>?_⟩;have b1:ButS p H H1:=ButS.eq k1;have fl1:=fl.but b1;clear k1;refine if_any (.lt rfl) (fun H2 s2=>?_) (fun H2 s2=>?_)
  ·have S2:=S1.up s2;have b2:=b1.trans (ButS.same s2);have fl2:=fl.but b2;obtain ⟨lf',xs,e,nlf,hl,hz,hx⟩:=fl2.has.list_inv;cases e;have xl:xs.length=fs.length:=by rw [hx.length,Z0]
   have f3:=fl.ok.le;refine ⟨_,rfl,lf,rfl,⟨_,SqL.of hl⟩,?_⟩;refine
    zAe (xs:=xs) (fun i ys H'=>H2=H'∧ys=((fs.take i).map (·.1)).map V.str) ⟨rfl,rfl⟩ (fun i ys H' p=>by rw [← p.1];exact SqL.of hl) (fun i ys H' hi p=>by rw [p.2,Z0,Z0,Zl];exact small _ (by omega)) (fun i x ys H' hi z N hN=>(by
     obtain ⟨rfl,rfl⟩:=z;obtain ⟨d,hd,hv⟩:=hx.get hi;rw [Z6] at hd;cases ef:fs[i]? with
     | none=>rw [ef] at hd;cases hd
     | some f =>
      rw [ef] at hd;cases hd;obtain ⟨b,lv,rfl,hb,_⟩:=zC5 hv;refine pickT (SqT.of hb) ⟨_,rfl,hN _ _ ⟨rfl,?_⟩⟩;rw [Z4,ef,Z2,Z2]
      rfl)) ?_
   rintro ys H' ⟨rfl,rfl⟩ ln hln;rw [xl,Za];have s3:Same H2 (upd H2 ln (.lst ((fs.map (·.1)).map V.str))):=Same.new hln;have e3:(upd H2 ln (.lst ((fs.map (·.1)).map V.str))) ln=some (.lst ((fs.map (·.1)).map V.str)):=zA1;have n3:=S2.nw hln;generalize upd H2 ln (.lst ((fs.map (·.1)).map V.str))=H3 at s3 e3 ⊢;have S3:=S2.up s3;dsimp only [gName,Ends.hid,hide,List.set];refine ⟨_,rfl,_,rfl,small 2 (by decide),fun l2 f2=>⟨_,rfl,p,2,_,rfl,S3.up (Same.new f2),by omega,by decide,by decide,fun r2 H4 r20 r21 S4 k4=>?_⟩⟩;have n2:=S3.nw f2;obtain ⟨st,hst,hst2⟩:∃ st:Int,atI ([.int 1,.int (-1)]:List V) r2=some (.int st)∧(st=1∨st = -1):=by
    have:r2=0∨r2=1:=by omega
    rcases this with e | e <;> rw [e]
    ·exact ⟨1,rfl,.inl rfl⟩
    ·exact ⟨-1,rfl,.inr rfl⟩
   refine ⟨l2,_,r2,_,rfl,rfl,SqL.of (by rw [k4 l2 n2];exact zA1),hst,ln,_,st,rfl,rfl,hst2,SqL.of (by rw [k4 ln n3];exact (Same.new f2) _ _ e3),fun p3 f3'=>?_⟩;obtain ⟨ms,ems,msub,mnd,mlen⟩:=step_strs st (fs.map (·.1));rw [ems];have b4:ButS p H H4:=((b2.trans (ButS.same s3)).trans (ButS.same (Same.new f2))).trans (ButS.eq k4);have s5:=Same.new (o:=HO.lst (ms.map V.str)) f3';have e5:(upd H4 p3 (.lst (ms.map V.str))) p3=some (.lst (ms.map V.str)):=zA1;have n5:=S4.nw f3';generalize upd H4 p3 (.lst (ms.map V.str))=H5 at s5 e5 ⊢;have S5:=S4.up s5;rw [Z0] at mlen;refine ⟨p3,rfl,⟨_,SqL.of e5⟩,zAe (xs:=ms.map V.str) (fun i zs H'=>ButS p H5 H'∧Src H' p (k + 2 + i)∧∃ ks:List Str,zs=ks.map V.str∧ks.Sublist (ms.take i)) ⟨(fun _ _ e _=>e),S5.mono (by omega),[],rfl,List.nil_sublist _⟩ (fun i zs H' z=>SqL.of (z.1 _ _ e5 n5)) (fun i zs H' hi z=>?_) ?_ ?_⟩
   ·obtain ⟨_,_,ks,rfl,sb⟩:=z;have h1:=sb.length_le;rw [Zl] at h1;rw [Z0];exact small _ (by omega)
   ·rintro i x zs H' hi ⟨b6,S6,ks,rfl,sb⟩ N hN;rw [Z6] at hi;cases em:ms[i]? with
    | none=>rw [em] at hi;cases hi
    | some m =>
     rw [em] at hi;cases hi;have il:=(List.getElem?_eq_some_iff.mp em).1;have sb1:ks.Sublist (ms.take (i + 1)):=by
      rw [Z4];exact sb.trans (List.sublist_append_left _ _)
     refine ⟨_,rfl,p,3,_,rfl,S6,by omega,by decide,by decide,fun r3 H7 r30 r31 S7 k7=>⟨_,_,rfl,rfl,_,rfl,ite2 (fun _=>⟨_,rfl,hN _ _ ⟨b6.trans (ButS.eq k7),S7.mono (by push_cast;omega),ks++[m],by rw [Z2];rfl,?_⟩⟩) (fun _=>hN _ _ ⟨b6.trans (ButS.eq k7),S7.mono (by push_cast;omega),ks,rfl,sb1⟩)⟩⟩;rw [Z4,em];exact List.Sublist.append sb (List.Sublist.refl _)
   ·rintro zs H' ⟨b6,S6,ks,rfl,sb⟩ l9 f9;rw [Z0,Za] at sb;rw [Z0] at S6;have sub:∀ x∈ks,x∈fs.map (·.1):=fun x hx=>msub x (sb.subset hx);have nok:∀ x∈ks,nameOk x:=fun x hx=>by
     obtain ⟨f,hf,rfl⟩:=List.mem_map.mp (sub x hx);exact (fl.ok.ok f hf).1
    have knd:ks.Nodup:=(mnd fl.ok.nd).sublist sb;have kle:ks.length≤3:=Zo sb.length_le (by omega);have kg:("g" : Str)∉ks:=fun hg=>by
     obtain ⟨f,hf,e⟩:=List.mem_map.mp (sub _ hg);exact ng f hf e
    have s9:=Same.new (o:=HO.lst (ks.map V.str)) f9;have e9:(upd H' l9 (.lst (ks.map V.str))) l9=some (.lst (ks.map V.str)):=zA1;have n9:=S6.nw f9;generalize upd H' l9 (.lst (ks.map V.str))=H9 at s9 e9 ⊢;have S9:=S6.up s9;have b9:ButS p H H9:=((b4.trans (ButS.same s5)).trans b6).trans (ButS.same s9);have fin:∀ {Hx:Hp}{lx t9:Addr}{ns:List Str}{j:Int},ButS p H Hx→Src Hx p j→j≤k + 20→Hx lx=some (.lst (ns.map V.str))→lx≠p→NmsOk ns→Hx t9=none→Q (.ref t9) (upd Hx t9 (.tup [.str "make",.ref lx])):=fun {Hx lx t9 ns j} bx Sx jx hx nx okx ft =>
     q _ (.make ns) _ okx (.tup (Sx.nw ft) zA1 (by show 2≤1000;decide) (.cons (.str _ (by decide) (by decide +kernel)) (.cons (zDz nx ((Same.new ft) _ _ hx) okx) .nil))) ((Sx.up (Same.new ft)).mono jx) (bx.trans (ButS.same (Same.new ft)))
    dsimp only [gName,Ends.hid,hide,List.set];refine ⟨_,rfl,_,rfl,ite2 (fun _=>⟨_,rfl,p,4,_,rfl,S9,by omega,by decide,by decide,fun r5 H10 r50 r51 S10 k10=>⟨rfl,_,rfl,ite2 (fun _=>?_) (fun _=>?_)⟩⟩) (fun _=>iteF ?_)⟩
    ·have b10:=b9.trans (ButS.eq k10);have e10:H10 l9=some (.lst (ks.map V.str)):=by rw [k10 l9 n9];exact e9
     refine ⟨_,rfl,small 1 (by decide),fun lg fg=>⟨l9,lg,_,_,rfl,rfl,(Same.new fg) _ _ e10,zA1,small _ (by simp;omega),fun l11 f11=>⟨_,rfl,small 2 (by decide),fun t9 f9=>?_⟩⟩⟩;have s11:=(Same.new (o:=HO.lst [.str "g"]) fg).trans (Same.new (o:=HO.lst (ks.map V.str++[.str "g"])) f11);refine fin (ns:=ks++[("g" : Str)]) (b10.trans (ButS.same s11)) (S10.up s11) (by omega) (by rw [zA1,Z2];rfl) ((S10.up (Same.new fg)).nw f11) ⟨fun x hx=>?_,?_,by simp;omega⟩ f9
     ·rcases List.mem_append.mp hx with hx | hx
      ·exact nok x hx
      ·rw [List.mem_singleton.mp hx];exact zE0 (by decide +kernel)
     ·refine List.nodup_append.mpr ⟨knd,List.pairwise_singleton _ _,fun x hx y hy e=>?_⟩;rw [List.mem_singleton.mp hy] at e;exact kg (e ▸ hx)
    ·exact ⟨_,rfl,small 2 (by decide),fun t9 f9=>fin (b9.trans (ButS.eq k10)) S10 (by omega) (by rw [k10 l9 n9];exact e9) n9 ⟨nok,knd,by omega⟩ f9⟩
    ·exact ⟨_,rfl,small 2 (by decide),fun t9 f9=>fin b9 S9 (by omega) e9 n9 ⟨nok,knd,by omega⟩ f9⟩
  ·refine if_any (Tst.and (.lt rfl) (.or (.ne (fl1.but (ButS.same s2)) rfl) (.tv rfl))) (fun H3 s3=>?_) (fun H3 s3=>?_)
   ·have s23:=s2.trans s3;refine ⟨_,rfl,_,rfl,_,rfl,p,lf,b,fs,k + 1,rfl,S1.up s23,by omega,fl1.but (ButS.same s23),fun t1 f v H4 of ov h1 n1 S4 b4=>?_⟩;refine ⟨t1,_,rfl,SqT.of h1,rfl,_,_,rfl,_,_,rfl,rfl,_,rfl,_,rfl,small 2 (by decide),fun l2 f2=>⟨_,rfl,p,2,_,rfl,S4.up (Same.new f2),by omega,by decide,by decide,fun r2 H5 r20 r21 S5 k5=>?_⟩⟩;have n2:=S4.nw f2;obtain ⟨vv,hvv,hv2⟩:∃ vv:Option Str,atI ([.str v,.non]:List V) r2=some (ownV vv)∧∀ x,vv=some x→x=v:=by
     have:r2=0∨r2=1:=by omega
     rcases this with e | e <;> rw [e]
     ·exact ⟨some v,rfl,fun x e=>(Zk e).symm⟩
     ·exact ⟨none,rfl,fun x e=>nomatch e⟩
    refine ⟨l2,_,r2,_,rfl,rfl,SqL.of (by rw [k5 l2 n2];exact zA1),hvv,small 3 (by decide),fun t9 f9=>?_⟩;have okv:∀ x,vv=some x→nameOk x:=fun x e=>by rw [hv2 x e];exact ov
    exact q _ (.set f vv) _ ⟨of,okv⟩ (.tup (S5.nw f9) zA1 (by show 3≤1000;decide) (.cons (.str _ (by decide) (by decide +kernel)) (.cons (strN of) (.cons (zF1 okv) .nil)))) ((S5.up (Same.new f9)).mono (by omega)) (((((b1.trans (ButS.same s23)).trans b4).trans (ButS.same (Same.new f2))).trans (ButS.eq k5)).trans (ButS.same (Same.new f9)))
   ·have s23:=s2.trans s3;refine ⟨small 1 (by decide),fun t9 f9=>?_⟩;exact q _ .take _ trivial (.tup ((S1.up s23).nw f9) zA1 (by show 1≤1000;decide) (.cons (.str _ (by decide) (by decide +kernel)) .nil)) (((S1.up s23).up (Same.new f9)).mono (by omega)) ((b1.trans (ButS.same s23)).trans (ButS.same (Same.new f9)))
end
end L2.W
namespace L2.W
open PySem My
section
variable {P:Program}{w:World}{K:PySem.W.Frag}{mg:Str→Option Value}{base:Heap}{CX:CXT}
theorem scCo:FnScope ["_law_change_here"] ["_law_change_here"] (defScope sChangeObject):=⟨rfl,rfl,rfl,by decide +kernel,rfl,by decide +kernel,by decide +kernel⟩
theorem ok_cobj {f:Addr}{fd gTm gTs:FuncData}{B:CB} (hC:Calm CX) (T:Tops K mg) (N:Cng K mg B) (F:Fun K "_law_change_object" "_law_change_object" sChangeObject f fd) (GTm:FnOk P w K mg base CX 3 B.fTm gTm ["self", "fields"] (spTM B)) (bTm:Binds K gTm ["self", "fields"] []) (GTs:FnOk P w K mg base CX 2 B.fTs gTs ["self", "field", "value"] (spTS B)) (bTs:Binds K gTs ["self", "field", "value"] []):FnOk P w K mg base CX 5 f fd ["_law_change_here"] (spCObj B):=by
 refine Fun.okC F scCo (fun vs H Q E h=>?_) (fun cdv Ar outer s H vs Q E hr h=>?_)
 ·obtain ⟨v,c,rfl,_⟩:=h;rfl
 ·obtain ⟨v,c,rfl,hv,ok,q⟩:=h;have nd:=scCo.nd;have hr3:=hr.mono (show 3≤4 by decide)
  refine ⟨_,zA3 (zAq (zAg zBc (zAh zAi (pv 0) zA4 (fun _ _=>rfl)) zAf (nomark _))
     (zA5 (zAc (zBg N.kTm GTm hr rfl N.gTm bTm .nil (passC hC) (zA0 (zAn zAz rfl T.list PyProof.Rows.boot_list (zA0 (zAh zAi (pv 0) zA4 (fun _ _=>rfl)) zA2)) zA2)))) zAb)
     (zA3 (zAq (zAg zBc (zAh zAi (pv 0) zA4 (fun _ _=>rfl)) zAf (nomark _))
     (zA5 (zAc (zBg N.kTs GTs hr3 rfl N.gTs bTs .nil (passC hC) (zA0 (zAh zAi (pv 0) zA4 (fun _ _=>rfl)) (zA0 (zAh zAi (pv 0) zA4 (fun _ _=>rfl)) zA2))))) zAb)
     (zA5 (zAc (zBy N.kTt rfl N.gTt)))),?_⟩
  cases c with
  | make ns =>
   obtain ⟨a,xs,rfl,_,ha,_,hx⟩:=hv.tup_inv;obtain ⟨ys,rfl,hy⟩:=strC hx;cases hy with
   | cons h1 h2 =>
    cases h2;obtain ⟨l,zs,rfl,_,hl,_,hz⟩:=h1.list_inv;cases zDn hz;refine tagT rfl ha ⟨_,rfl,a,_,1,_,rfl,rfl,SqT.of ha,rfl,l,_,rfl,.inl (SqL.of hl),fun l2 f2=>?_⟩;have s2:=Same.new (o:=HO.lst (ns.map V.str)) f2;exact fun x dx hx hdx ne=>⟨x,dx,l2,ns,rfl,zA1,zB6 hx hdx ne _ _ zA1,ok,fun H' l' e el fr b=>⟨rfl,q x H' (.make e el) (s2.trans (zBi hx hdx ne b))⟩⟩
  | set f v =>
   obtain ⟨a,xs,rfl,_,ha,_,hx⟩:=hv.tup_inv;obtain ⟨ys,rfl,hy⟩:=strC hx;obtain ⟨zs,rfl,hz⟩:=strC hy;cases hz with
   | cons h1 h2 =>
    cases h2;cases at_inv h1;exact tagF rfl ha (by decide +kernel) (tagT rfl ha ⟨_,rfl,a,_,1,_,rfl,rfl,SqT.of ha,rfl,_,rfl,a,_,2,_,rfl,rfl,SqT.of ha,rfl,fun x dx hx hdx ne=>⟨x,dx,f,v,rfl,zA1,ok.1,ok.2,fun H' e b=>⟨rfl,q x H' (.set e) (zBi hx hdx ne b)⟩⟩⟩)
  | take =>
   obtain ⟨a,xs,rfl,_,ha,_,hx⟩:=hv.tup_inv;cases str1 hx;exact tagF rfl ha (by decide +kernel) (tagF rfl ha (by decide +kernel) fun x dx hx hdx ne=>q x _ (.take zA1) (zB6 hx hdx ne))
theorem scRo:FnScope ["_law_rule_here"] ["_law_rule_here"] (defScope sRuleObject):=⟨rfl,rfl,rfl,by decide +kernel,rfl,by decide +kernel,by decide +kernel⟩
theorem zEq {G:Addr→Prop}{H:Hp}{v:V}{n:Str}{c:Chg}{t:Tr}{bs:List Str} (h:Has G H v (ruleD n c t bs)):∃ a vc vt l,v=.ref a∧H a=some (.tup [.str n,vc,vt,.ref l])∧Has G H vc (chgD c)∧Has G H vt (trD t)∧H l=some (.lst (bs.map V.str)):=by
 obtain ⟨a,xs,rfl,_,ha,_,hx⟩:=h.tup_inv;obtain ⟨ys,rfl,hy⟩:=strC hx;cases hy with
 | cons h1 hy =>
  cases hy with
  | cons h2 hy =>
   cases hy with
   | cons h3 hy =>
    cases hy;obtain ⟨l,zs,rfl,_,hl,_,hz⟩:=h3.list_inv;cases zDn hz;exact ⟨a,_,_,l,rfl,ha,h1,h2,hl⟩
theorem ok_robj {f fc fo:Addr}{fd fdc fdo gRu:FuncData}{A:CA}{B:CB} (hC:Calm CX) (T:Tops K mg) (N:Cng K mg B) (F:Fun K "_law_rule_object" "_law_rule_object" sRuleObject f fd) (GRu:FnOk P w K mg base CX 4 B.fRu gRu ["self", "kind", "change", "condition", "behind"] (spRu A B)) (bRu:Binds K gRu ["self", "kind", "change", "condition", "behind"] [])
  (DC:Def K mg "_law_change_object" sChangeObject ["_law_change_here"] fc fdc) (GC:FnOk P w K mg base CX 5 fc fdc ["_law_change_here"] (spCObj B)) (DO:Def K mg "_law_object" sObject ["_law_tree_here"] fo fdo) (GO:FnOk P w K mg base CX 7 fo fdo ["_law_tree_here"] (spObj A 3)):FnOk P w K mg base CX 8 f fd ["_law_rule_here"] (spRObj A B):=by
 refine Fun.okC F scRo (fun vs H Q E h=>?_) (fun cdv Ar outer s H vs Q E hr h=>?_)
 ·obtain ⟨v,n,c,t,bs,rfl,_⟩:=h;rfl
 ·obtain ⟨v,n,c,t,bs,rfl,hv,ok,q⟩:=h;have nd:=scRo.nd;have hr5:=hr.mono (show 5≤7 by decide);refine ⟨_,zA5 (zAc (zBg N.kRu GRu hr5 rfl N.gRu bRu .nil (passC hC) (zA0 (zAh zAi (pv 0) zA4 (fun _ _=>rfl)) (zA0 (zA6 GC hr5 rfl DC.at_ DC.fn.kp DC.bind .nil (passC hC) (zA0 (zAh zAi (pv 0) zA4 (fun _ _=>rfl)) zA2)) (zA0 (zA6 GO hr rfl DO.at_ DO.fn.kp DO.bind .nil (passC hC) (zA0 (zAh zAi (pv 0) zA4 (fun _ _=>rfl)) zA2)) (zA0 (zAn zAz rfl T.list PyProof.Rows.boot_list (zA0 (zAh zAi (pv 0) zA4 (fun _ _=>rfl)) zA2)) zA2)))))),?_⟩;obtain ⟨a,vc,vt,l,rfl,ha,hc,ht,hl⟩:=zEq hv;refine ⟨_,rfl,a,_,0,_,rfl,rfl,SqT.of ha,rfl,_,rfl,a,_,1,_,rfl,rfl,SqT.of ha,rfl,vc,c,rfl,hc.any,ok.cg,fun pc H1 c1 s1=>?_⟩;refine ⟨_,rfl,a,_,2,_,rfl,rfl,SqT.of (s1 _ _ ha),rfl,vt,t,rfl,ht.any.mono s1,ok.tr,ok.h,fun pt H2 t2 s2=>?_⟩;have s12:=s1.trans s2;refine ⟨_,rfl,a,_,3,_,rfl,rfl,SqT.of (s12 _ _ ha),rfl,l,_,rfl,.inl (SqL.of (s12 _ _ hl)),fun l3 f3=>?_⟩;have s3:Same H2 (upd H2 l3 (.lst (bs.map V.str))):=Same.new f3;have e3:(upd H2 l3 (.lst (bs.map V.str))) l3=some (.lst (bs.map V.str)):=zA1;generalize upd H2 l3 (.lst (bs.map V.str))=H3 at s3 e3 ⊢;have c3:=c1.same (s2.trans s3);have t3:=t2.same s3;intro x dx hx hdx ne;have sm:=zB6 (C:=B.ru) hx hdx ne;obtain ⟨dy,fy,ey,iy,_⟩:=c3.ins;refine ⟨x,dx,pc,pt,l3,n,bs,rfl,zA1,ok.nm,⟨_,dy,fy,sm _ _ ey,iy⟩,t3.isC.same sm,sm _ _ e3,ok.b,ok.no,fun H' l' e el fr b=>⟨rfl,?_⟩⟩;have s':=zBi hx hdx ne b;exact q x pc pt l' H' ⟨⟨dx,e⟩,c3.same s',t3.same s',el⟩ (s12.trans (s3.trans s'))
theorem scRl:FnScope ["_law_source", "_law_spec", "_law_strange", "_law_kind", "_law_fields_here", "_law_owner_here", "_law_tree_here", "_law_others", "_law_behind"] ["_law_source", "_law_spec", "_law_strange"] (defScope sRule):=⟨rfl,rfl,rfl,by decide +kernel,rfl,by decide +kernel,by decide +kernel⟩
theorem ok_rul {f fn ff ft fc:Addr}{fd fdn fdf fdt fdc:FuncData} (hC:Calm CX) (T:Tops K mg) (F:Fun K "_law_rule" "_law_rule" sRule f fd) (Dn:Def K mg "_law_next" sNext ["_law_source", "_law_many"] fn fdn) (Gn:FnOk P w K mg base CX 2 fn fdn ["_law_source", "_law_many"] spNext)
  (Df:Def K mg "_law_fields" sLFields ["_law_spec", "_law_kind"] ff fdf) (Gf:FnOk P w K mg base CX 1 ff fdf ["_law_spec", "_law_kind"] spLFl) (Dt:Def K mg "_law_tree" sTree ["_law_source", "_law_fields_here", "_law_owners", "_law_strange", "_law_deep"] ft fdt) (Gt:FnOk P w K mg base CX 7 ft fdt ["_law_source", "_law_fields_here", "_law_owners", "_law_strange", "_law_deep"] (spTree 3))
  (Dc:Def K mg "_law_change" sChange ["_law_source", "_law_fields_here", "_law_strange"] fc fdc) (Gc:FnOk P w K mg base CX 4 fc fdc ["_law_source", "_law_fields_here", "_law_strange"] spChg):FnOk P w K mg base CX 8 f fd ["_law_source", "_law_spec", "_law_strange"] spRul:=by
 refine Fun.okC F scRl (fun vs H Q E h=>?_) (fun cdv Ar outer s H vs Q E hr h=>?_)
 ·obtain ⟨p,l,b,rs,k,rfl,_⟩:=h;rfl
 ·obtain ⟨q,l,b,rs,k,rfl,S9,hk,hl9,rp,le3,ng,qq⟩:=h;have nd:=scRl.nd;have hr1:=hr.mono (show 1≤7 by decide);have hr2:=hr.mono (show 2≤7 by decide);have hr4:=hr.mono (show 4≤7 by decide)
  refine ⟨_,zA3 (zDs (zAh zAr (pv 1) (zA6 Gn hr2 rfl Dn.at_ Dn.fn.kp Dn.bind .nil (passC hC) (zA0 (pv 0) (zA0 (zAa zAp rfl T.len PySem.boot_len (zA0 (pv 1) zA2)) zA2))) (fun _ _=>rfl)) (zDt rfl (zAw (zAd (i:=3) nd rfl (Or.inr rfl)) (zAw (zAd (i:=4) nd rfl (Or.inl rfl)) (zAw (zAd (i:=5) nd rfl (Or.inl rfl)) zC1)))))
     (zA3 (zAk (i:=6) nd rfl (Or.inl rfl) (zA6 Gt hr rfl Dt.at_ Dt.fn.kp Dt.bind .nil (passC hC) (zA0 (pv 0) (zA0 (pv 4) (zA0 (zA6 Gf hr1 rfl Df.at_ Df.fn.kp Df.bind .nil (passC hC) (zA0 (pv 1) (zA0 (pv 5) zA2))) (zA0 (pv 2) (zA0 zA4 zA2)))))))
     (zA3 (zB4 (T:=["_law_one"]) (i:=7) rfl ScOk.auto (zAj (pv 1)) (fun _ _ _ _=>zAd (i:=9) (by decide +kernel:(["_law_source", "_law_spec", "_law_strange", "_law_kind", "_law_fields_here", "_law_owner_here", "_law_tree_here", "_law_others", "_law_behind", "_law_one"]:List Str).Nodup) rfl (Or.inl rfl)) (fun _ _ _ _=>zD4 (zAg op_ne (zAh (r:=rIxT K) zAi (pv 9) zA4 (fun _ _=>rfl)) (pv 3) (nomark _))) (fun _ _ _ _=>(zAh (r:=rIxT K) zAi (pv 9) zA4 (fun _ _=>rfl))) nd rfl rfl rfl)
     (zA3 (zAk (i:=8) nd rfl (Or.inl rfl) (zBp zDr (zBp zDr (pv 7) (zCa (zA6 Gn hr2 rfl Dn.at_ Dn.fn.kp Dn.bind .nil (passC hC) (zA0 (pv 0) (zA0 (zAx zBs (zAa zAp rfl T.len PySem.boot_len (zA0 (pv 7) zA2)) zA4) zA2)))) zCx) zCx (zCa (zA6 Gn hr2 rfl Dn.at_ Dn.fn.kp Dn.bind .nil (passC hC) (zA0 (pv 0) (zA0 zA4 zA2))))))
     (zA5 (zAc (zB8 (zA0 (pv 3) (zA0 (zA6 Gc hr4 rfl Dc.at_ Dc.fn.kp Dc.bind .nil (passC hC) (zA0 (pv 0) (zA0 (pv 4) (zA0 (pv 2) zA2)))) (zA0 (pv 6) (zA0 (pv 8) zA2)))))))))),?_⟩
  have small:∀ n:Nat,n≤1000→n≤sizeLine:=fun n h=>Zi (small1000 h);have ge1:=rp.le.1;obtain ⟨l',xs,e,nlq,hlx,_,hx⟩:=id hl9.list_inv;cases e;have xl:xs.length=rs.length:=by rw [hx.length,Z0]
  refine ⟨_,rfl,_,rfl,_,rfl,l,xs,rfl,.inl (SqL.of hlx),q,_,_,rfl,S9,by omega,by omega,by omega,fun r3 H10 r30 r31 S10 k10=>?_⟩;have b10:ButS q H H10:=ButS.eq k10;obtain ⟨x,hxa,hxm⟩:=zD9 xs r30 r31;obtain ⟨j,hj⟩:=List.getElem?_of_mem hxm;obtain ⟨dd',hd',hv⟩:=hx.get hj;obtain ⟨r0,hr0,rfl⟩:=List.mem_map.mp (Z3 hd');obtain ⟨t0,lf,rfl,ht0,hf0⟩:=zCw (hv.but b10);refine ⟨l,xs,r3,_,rfl,rfl,SqL.of (by rw [k10 l nlq];exact hlx),hxa,t0,_,rfl,SqT.of ht0,rfl,_,_,rfl,_,_,rfl,_,_,rfl,rfl,?_⟩;have fo0:=(rp.ok r0 hr0).2;have fow:=zEi rp hr0;have fl10:Fl H10 q lf r0.fields:=⟨hf0,fo0⟩;have hl10:=hl9.but b10;refine ⟨_,rfl,_,rfl,_,rfl,_,rfl,_,l,rs,r0.owner,rfl,hl10,rp,fun lo H11 s11 hfo=>⟨_,rfl,?_⟩⟩;have S11:=S10.up s11;refine ⟨q,lf,lo,_,_,_,_,rfl,S11,by show k + 1 + 86≤700000;omega,fl10.but (ButS.same s11),⟨hfo.frame fun b o g e=>⟨g.elim id fun g=>S10.nw g,e⟩,fow⟩,fun v t H12 ok12 h12 ht12 S12 b12=>?_⟩;have b112:=(ButS.same s11).trans b12;have b012:=b10.trans b112;have S12:Src H12 q (k + 87):=S12.mono (by show k + 1 + 86≤_;omega);have hl12:=hl9.but b012;obtain ⟨l',xs2,e,nlq2,hlx2,_,hx2⟩:=id hl12.list_inv;cases e;have xl2:xs2.length=rs.length:=by rw [hx2.length,Z0]
  refine ⟨_,rfl,l,rfl,⟨_,SqL.of hlx2⟩,zAe (xs:=xs2) (fun i ys H'=>H12=H'∧∃ ks:List Str,ys=ks.map V.str∧r0.name∉ks∧ks.Sublist ((rs.take i).map (·.name))) ⟨rfl,[],rfl,(fun z=>nomatch z),List.nil_sublist _⟩ (fun i ys H' z=>by rw [← z.1];exact SqL.of hlx2) (fun i ys H' hi z=>?_) ?_ ?_⟩
  ·obtain ⟨_,ks,rfl,_,sb⟩:=z;have h1:=sb.length_le;rw [Z0,Zl] at h1;rw [Z0];exact small _ (by omega)
  ·rintro i x ys H' hi ⟨rfl,ks,rfl,no,sb⟩ N hN;obtain ⟨d,hd,hv⟩:=hx2.get hi;rw [Z6] at hd;cases er:rs[i]? with
   | none=>rw [er] at hd;cases hd
   | some r =>
    rw [er] at hd;cases hd;obtain ⟨t1,l1,rfl,ht1,_⟩:=zCw hv;have sb1:ks.Sublist ((rs.take (i + 1)).map (·.name)):=by
     rw [Z4,Z2];exact sb.trans (List.sublist_append_left _ _)
    refine ⟨_,rfl,t1,_,0,_,rfl,rfl,SqT.of ht1,rfl,_,rfl,rfl,_,rfl,?_⟩;rw [show decide (V.str r.name=V.str r0.name)=decide (r.name=r0.name) by simp];cases cn:decide (r.name=r0.name) with
    | true=>exact iteF (hN _ _ ⟨rfl,ks,rfl,no,sb1⟩)
    | false =>
     refine iteT ⟨_,rfl,t1,_,0,_,rfl,rfl,SqT.of ht1,rfl,hN _ _ ⟨rfl,ks++[r.name],by rw [Z2];rfl,fun z=>?_,?_⟩⟩
     ·rcases List.mem_append.mp z with z | z
      ·exact no z
      ·exact of_decide_eq_false cn (List.mem_singleton.mp z).symm
     ·rw [Z4,er,Z2];exact List.Sublist.append sb (List.Sublist.refl _)
  ·rintro ys H' ⟨rfl,ks,rfl,no,sb⟩ lk flk;rw [xl2,Za] at sb;have kl:ks.length≤3:=by have:=sb.length_le;rw [Z0] at this;omega
   have s13:=Same.new (o:=HO.lst (ks.map V.str)) flk;have e13:(upd H12 lk (.lst (ks.map V.str))) lk=some (.lst (ks.map V.str)):=zA1;have n13:=S12.nw flk;generalize upd H12 lk (.lst (ks.map V.str))=H13 at s13 e13 ⊢;have S13:=S12.up s13;refine ⟨_,rfl,_,rfl,_,rfl,lk,_,rfl,.inl (SqL.of e13),_,_,rfl,rfl,q,_,_,rfl,S13,by omega,by rw [Z0];omega,by rw [Z0];omega,fun r4 H14 _ _ S14 k14=>?_⟩;refine ⟨_,rfl,lk,_,rfl,SqL.of (by rw [k14 lk n13];exact e13),fun l5 f5=>?_⟩;obtain ⟨m1,em1,sb1⟩:=cut_strs ks (some r4) none;rw [em1];have s15:=Same.new (o:=HO.lst (m1.map V.str)) f5;have e15:(upd H14 l5 (.lst (m1.map V.str))) l5=some (.lst (m1.map V.str)):=zA1;have n15:=S14.nw f5;generalize upd H14 l5 (.lst (m1.map V.str))=H15 at s15 e15 ⊢;refine ⟨_,rfl,q,3,_,rfl,S14.up s15,by omega,by decide,by decide,fun r6 H16 _ _ S16 k16=>?_⟩;refine ⟨_,rfl,l5,_,rfl,SqL.of (by rw [k16 l5 n15];exact e15),fun l7 f7=>?_⟩;obtain ⟨m2,em2,sb2⟩:=cut_strs m1 none (some r6);rw [em2];have s17:=Same.new (o:=HO.lst (m2.map V.str)) f7;have e17:(upd H16 l7 (.lst (m2.map V.str))) l7=some (.lst (m2.map V.str)):=zA1;have n17:=S16.nw f7;generalize upd H16 l7 (.lst (m2.map V.str))=H17 at s17 e17 ⊢;have S17:=S16.up s17;have sb3:=sb2.trans sb1
   have bok:NmsOk m2:=⟨fun x hx=>by
    obtain ⟨r,hr,e⟩:=List.mem_map.mp (sb.subset (sb3.subset hx));rw [← e]
    exact (rp.ok r hr).1,(rp.nd.sublist sb).sublist sb3,by have:=sb3.length_le;omega⟩
   have b1217:ButS q H12 H17:=((((ButS.same s13).trans (ButS.eq k14)).trans (ButS.same s15)).trans (ButS.eq k16)).trans (ButS.same s17);refine ⟨_,rfl,_,rfl,_,rfl,_,rfl,q,lf,b,r0.fields,_,rfl,S17,by omega,(fl10.but b112).but b1217,ng r0 hr0,fun vc c H18 okc hc S18 b18=>?_⟩;refine ⟨_,rfl,_,rfl,small 4 (by decide),fun t9 f9=>?_⟩;have s19:=Same.new (o:=HO.tup [.str r0.name,vc,v,.ref l7]) f9;have ht18:Has (fun a=>a≠q) H18 v (trD t):=(ht12.but b1217).but b18;exact qq _ r0.name c t m2 _ ⟨(rp.ok r0 hr0).1,okc,ok12,h12,bok,fun z=>no (sb3.subset z)⟩ ⟨List.mem_map_of_mem (f:=fun r:Row=>r.name) hr0,fun x hx=>sb.subset (sb3.subset hx)⟩ (.tup (S18.nw f9) zA1 (by show 4≤1000;decide) (.cons (strN (rp.ok r0 hr0).1) (.cons (hc.mono s19) (.cons (ht18.mono s19) (.cons (zDz n17 (s19 _ _ (b18 _ _ e17 n17)) bok) .nil))))) ((S18.up s19).mono (by omega)) (((b012.trans b1217).trans b18).trans (ButS.same s19))
end
end L2.W
namespace L2.W
open PySem My
noncomputable def spOrder (CK:Addr):Sp:=fun vs H Q _=>∃ (p d:Addr) (kvs:List (Key×V)),vs=[.ref p]∧KindsAt CK H p d kvs∧∀ q,H q=none→Q (.ref q) (upd H q (.lst (kvs.map fun kv=>kV kv.1)))
section
variable {P:Program}{w:World}{K:PySem.W.Frag}{mg:Str→Option Value}{base:Heap}{CX:CXT}
theorem scOr:FnScope ["self"] ["self"] (defScope sOrder):=⟨rfl,rfl,rfl,by decide +kernel,rfl,by decide +kernel,by decide +kernel⟩
theorem ok_order {f CK fIk fOr fOf fOw:Addr}{fd:FuncData} (T:Tops K mg) (KS:KsCls K mg CK fIk fOr fOf fOw) (F:Fun K "order" "Kinds.order" sOrder f fd):FnOk P w K mg base CX 1 f fd ["self"] (spOrder CK):=by
 refine Fun.okC F scOr (fun vs H Q E h=>?_) (fun cdv A outer s H vs Q E hr h=>?_)
 ·obtain ⟨p,d,kvs,rfl,_⟩:=h;rfl
 ·obtain ⟨p,d,kvs,rfl,⟨⟨dx,hp⟩,rd⟩,k⟩:=h;refine ⟨_,zA5 (zAc (zAn zEb rfl T.list PyProof.Rows.boot_list (zA0 (zB2 (pv 0) rfl) zA2))),?_⟩;exact ⟨_,rfl,p,CK,dx,_,_,rfl,hp,KS.cl,KS.nB,ks_by _,d,kvs,rfl,rd,rfl,fun q hq=>k q hq⟩
end
end L2.W
namespace L2.W
open PySem My
noncomputable def sutL (rs:List Row) (r:Row):Leaf→Bool
 | .always=>true
 | .wanted=>true
 | .is f v=>hasVal r.fields f (some v)
 | .meets f=>(placeOf r.fields f).isSome
 | .owner f v=>match r.owner with
  | none=>false
  | some n=>hasVal (fieldsOf rs n) f (some v)
mutual
noncomputable def sut (g:Leaf→Bool):Tr→Bool
 | .leaf l=>g l
 | .no t=>sut g t
 | .node _ ts=>(suts g ts).all id
noncomputable def suts (g:Leaf→Bool):List Tr→List Bool
 | []=>[]
 | t :: ts=>sut g t :: suts g ts
end
theorem zEn (g:Leaf→Bool):∀ ts:List Tr,suts g ts=ts.map (sut g)
 | []=>rfl
 | t :: ts=>by rw [suts,zEn g ts];rfl
structure Sui (A:CA) (CK C:Addr) (H:Hp) (X p q pk:Addr) (t:Tr) (d:Nat) (rs:List Row) (r:Row):Prop where
 x:∃ dx fs,H p=some (.ins X dx fs)
 c:CondAt A H p t
 ok:TrOk t
 h:trH t≤d
 kd:Kd CK C H q rs
 rp:RowsP rs
 mem:r∈rs
 kf:KF C Any H pk r
noncomputable def spSuits (A:CA) (CK C:Addr):Nat→Addr→Sp
 | 0,_=>fun _ _ _ _=>False
 | d + 1,X=>fun vs H Q _=>∃ (p q pk:Addr) (t:Tr) (rs:List Row) (r:Row),vs=[.ref p,.ref q,.ref pk]∧Sui A CK C H X p q pk t d rs r∧∀ H',Same H H'→Q (.bl (sut (sutL rs r) t)) H'
theorem Sui.eq {A:CA}{CK C:Addr}{H:Hp}{X p q pk:Addr}{t:Tr}{d:Nat}{rs:List Row}{r:Row} (h:Sui A CK C H X p q pk t d rs r):clsT A t=X:=by
 obtain ⟨dx,fs,e1⟩:=h.x;obtain ⟨dx',fs',e2⟩:=h.c.cls;rw [e1] at e2;injection e2 with e2;injection e2 with e2;exact e2.symm
theorem CondAt.insS {A:CA}{H:Hp}{p:Addr}{t:Tr} (c:CondAt A H p t):∃ C dx fs,H p=some (.ins C dx fs)∧IsCond A C∧fs.lookup ("suits" : Str)=none:=by
 have n1:∀ f:V,(fF f).lookup ("suits" : Str)=none:=fun f=>by unfold fF;rw [zA8,if_neg (by decide +kernel)];rfl
 have n2:∀ f v:V,(fV f v).lookup ("suits" : Str)=none:=fun f v=>by unfold fV;rw [zA8,if_neg (by decide +kernel),zA8,if_neg (by decide +kernel)];rfl
 have n3:∀ f:V,(fC f).lookup ("suits" : Str)=none:=fun f=>by unfold fC;rw [zA8,if_neg (by decide +kernel)];rfl
 have n4:∀ f:V,(fCs f).lookup ("suits" : Str)=none:=fun f=>by unfold fCs;rw [zA8,if_neg (by decide +kernel)];rfl
 cases c with
 | al e=>exact ⟨_,_,_,e,.inl rfl,rfl⟩
 | wa e=>exact ⟨_,_,_,e,.inr (.inl rfl),rfl⟩
 | is e=>exact ⟨_,_,_,e,.inr (.inr (.inl rfl)),n2 _ _⟩
 | me e=>exact ⟨_,_,_,e,.inr (.inr (.inr (.inl rfl))),n1 _⟩
 | ow e=>exact ⟨_,_,_,e,.inr (.inr (.inr (.inr (.inl rfl)))),n2 _ _⟩
 | no e _=>exact ⟨_,_,_,e,.inr (.inr (.inr (.inr (.inr (.inl rfl))))),n3 _⟩
 | bo e _ _=>exact ⟨_,_,_,e,.inr (.inr (.inr (.inr (.inr (.inr (.inl rfl)))))),n4 _⟩
 | ei e _ _=>exact ⟨_,_,_,e,.inr (.inr (.inr (.inr (.inr (.inr (.inr rfl)))))),n4 _⟩
theorem Sui.sub {A:CA}{CK C:Addr}{H H':Hp}{X p q pk:Addr}{t:Tr}{d:Nat}{rs:List Row}{r:Row} (h:Sui A CK C H X p q pk t d rs r) (k:Same H H') {p':Addr}{t':Tr}{d':Nat} (c:CondAt A H p' t') (ok:TrOk t') (hh:trH t'≤d') :
  ∃ X' dx fs,H' p'=some (.ins X' dx fs)∧IsCond A X'∧fs.lookup ("suits" : Str)=none∧Sui A CK C H' X' p' q pk t' d' rs r:=by
 obtain ⟨X',dx,fs,e,i,n⟩:=c.insS;exact ⟨X',dx,fs,k _ _ e,i,n,⟨dx,fs,k _ _ e⟩,c.same k,ok,hh,h.kd.same k,h.rp,h.mem,h.kf.same k⟩
section
variable {P:Program}{w:World}{K:PySem.W.Frag}{mg:Str→Option Value}{base:Heap}{CX:CXT}
theorem scSAl:FnScope ["self", "kinds", "kind"] ["self", "kinds", "kind"] (defScope sAlSuits):=⟨rfl,rfl,rfl,by decide +kernel,rfl,by decide +kernel,by decide +kernel⟩
theorem ok_sAl {f CK C:Addr}{fd:FuncData}{A:CA}{d:Nat} (N:Cnd K mg A) (F:Fun K "suits" "Always.suits" sAlSuits f fd):FnOk P w K mg base CX 1 f fd ["self", "kinds", "kind"] (spSuits A CK C d A.al):=by
 cases d with
 | zero=>exact FnOk.never fun _ _ _ _ z=>z
 | succ d =>
  refine Fun.okC F scSAl (fun vs H Q E h=>?_) (fun cdv Ar outer sh H vs Q E hr h=>?_)
  ·obtain ⟨p,q,pk,t,rs,r,rfl,_⟩:=h;rfl
  obtain ⟨p,q,pk,t,rs,r,rfl,K0,k⟩:=h;cases (zCq N.ne).1 K0.eq;exact ⟨_,zA5 (zAc zCd),k _ (Same.refl _)⟩
theorem scSWa:FnScope ["self", "kinds", "kind"] ["self", "kinds", "kind"] (defScope sWaS):=⟨rfl,rfl,rfl,by decide +kernel,rfl,by decide +kernel,by decide +kernel⟩
theorem ok_sWa {f CK C:Addr}{fd:FuncData}{A:CA}{d:Nat} (N:Cnd K mg A) (F:Fun K "suits" "Wanted.suits" sWaS f fd):FnOk P w K mg base CX 1 f fd ["self", "kinds", "kind"] (spSuits A CK C d A.wa):=by
 cases d with
 | zero=>exact FnOk.never fun _ _ _ _ z=>z
 | succ d =>
  refine Fun.okC F scSWa (fun vs H Q E h=>?_) (fun cdv Ar outer sh H vs Q E hr h=>?_)
  ·obtain ⟨p,q,pk,t,rs,r,rfl,_⟩:=h;rfl
  obtain ⟨p,q,pk,t,rs,r,rfl,K0,k⟩:=h;cases (zCq N.ne).2.1 K0.eq;exact ⟨_,zA5 (zAc zCd),k _ (Same.refl _)⟩
theorem scSIs:FnScope ["self", "kinds", "kind"] ["self", "kinds", "kind"] (defScope sIsS):=⟨rfl,rfl,rfl,by decide +kernel,rfl,by decide +kernel,by decide +kernel⟩
theorem ok_sIs {f fh CK C:Addr}{fd fdh:FuncData}{A:CA}{d:Nat} (hC:Calm CX) (N:Cnd K mg A) (F:Fun K "suits" "Is.suits" sIsS f fd) (DH:Def K mg "has_value" sHasVal ["kind", "field", "value"] fh fdh) (GH:FnOk P w K mg base CX 2 fh fdh ["kind", "field", "value"] (spHasV C)):FnOk P w K mg base CX 3 f fd ["self", "kinds", "kind"] (spSuits A CK C d A.is_):=by
 cases d with
 | zero=>exact FnOk.never fun _ _ _ _ z=>z
 | succ d =>
  refine Fun.okC F scSIs (fun vs H Q E h=>?_) (fun cdv Ar outer sh H vs Q E hr h=>?_)
  ·obtain ⟨p,q,pk,t,rs,r,rfl,_⟩:=h;rfl
  obtain ⟨p,q,pk,t,rs,r,rfl,K0,k⟩:=h;obtain ⟨f,v,rfl⟩:=(zCq N.ne).2.2.1 K0.eq;have nd:=scSIs.nd;have cl:=(N.all A.is_ (by unfold IsCond;simp)).cl;refine ⟨_,zA5 (zAc (zA6 GH hr rfl DH.at_ DH.fn.kp DH.bind .nil (passC hC) (zA0 (pv 2) (zA0 (zB2 (pv 0) rfl) (zA0 (zB2 (pv 0) rfl) zA2))))),?_⟩;have hp:=K0.c;cases hp with
  | is e=>exact ⟨_,rfl,_,rfl,p,A.is_,_,_,_,rfl,e,cl,N.nIsf,fV_f _ _,_,rfl,p,A.is_,_,_,_,rfl,e,cl,N.nIsv,fV_v _ _,pk,r,f,some v,rfl,K0.kf,(K0.rp.ok r K0.mem).2,k⟩
theorem scSMe:FnScope ["self", "kinds", "kind"] ["self", "kinds", "kind"] (defScope sMeS):=⟨rfl,rfl,rfl,by decide +kernel,rfl,by decide +kernel,by decide +kernel⟩
theorem ok_sMe {f fp CK C:Addr}{fd fdp:FuncData}{A:CA}{d:Nat} (hC:Calm CX) (N:Cnd K mg A) (F:Fun K "suits" "Meets.suits" sMeS f fd) (DP:Def K mg "place_of" sPlaceOf ["kind", "field"] fp fdp) (GP:FnOk P w K mg base CX 1 fp fdp ["kind", "field"] (spPlace C)):FnOk P w K mg base CX 2 f fd ["self", "kinds", "kind"] (spSuits A CK C d A.me):=by
 cases d with
 | zero=>exact FnOk.never fun _ _ _ _ z=>z
 | succ d =>
  refine Fun.okC F scSMe (fun vs H Q E h=>?_) (fun cdv Ar outer sh H vs Q E hr h=>?_)
  ·obtain ⟨p,q,pk,t,rs,r,rfl,_⟩:=h;rfl
  obtain ⟨p,q,pk,t,rs,r,rfl,K0,k⟩:=h;obtain ⟨f,rfl⟩:=(zCq N.ne).2.2.2.1 K0.eq;have nd:=scSMe.nd;have cl:=(N.all A.me (by unfold IsCond;simp)).cl;refine ⟨_,zA5 (zAc (zB0 zDf (zA6 GP hr rfl DP.at_ DP.fn.kp DP.bind .nil (passC hC) (zA0 (pv 2) (zA0 (zB2 (pv 0) rfl) zA2))) zBo (nomark _))),?_⟩;have hp:=K0.c;cases hp with
  | me e =>
   refine ⟨_,rfl,_,rfl,p,A.me,_,_,_,rfl,e,cl,N.nMef,fF_f _,pk,r,f,rfl,K0.kf,(K0.rp.ok r K0.mem).2,fun H1 s1=>⟨rfl,?_⟩⟩;have q1:Q (.bl (placeOf r.fields f).isSome) H1:=k _ s1;cases ep:placeOf r.fields f with
   | none=>rw [ep] at q1;exact q1
   | some i=>rw [ep] at q1;exact q1
theorem scSOw:FnScope ["self", "kinds", "kind"] ["self", "kinds", "kind"] (defScope sOwS):=⟨rfl,rfl,rfl,by decide +kernel,rfl,by decide +kernel,by decide +kernel⟩
theorem ok_sOw {f fh CK C fI fIk fOr fOf fOw:Addr}{fd fdh fdO:FuncData}{A:CA}{d:Nat} (hC:Calm CX) (N:Cnd K mg A) (KC:KCls K mg C fI) (KS:KsCls K mg CK fIk fOr fOf fOw) (F:Fun K "suits" "Owner.suits" sOwS f fd) (DH:Def K mg "has_value" sHasVal ["kind", "field", "value"] fh fdh) (GH:FnOk P w K mg base CX 2 fh fdh ["kind", "field", "value"] (spHasV C)) (GO:FnOk P w K mg base CX 2 fOf fdO ["self", "name"] (spOf CK)) (bO:Binds K fdO ["self", "name"] []):FnOk P w K mg base CX 3 f fd ["self", "kinds", "kind"] (spSuits A CK C d A.ow):=by
 cases d with
 | zero=>exact FnOk.never fun _ _ _ _ z=>z
 | succ d =>
  refine Fun.okC F scSOw (fun vs H Q E h=>?_) (fun cdv Ar outer sh H vs Q E hr h=>?_)
  ·obtain ⟨p,q,pk,t,rs,r,rfl,_⟩:=h;rfl
  obtain ⟨p,q,pk,t,rs,r,rfl,K0,k⟩:=h;obtain ⟨f,v,rfl⟩:=(zCq N.ne).2.2.2.2.1 K0.eq;have nd:=scSOw.nd;have cl:=(N.all A.ow (by unfold IsCond;simp)).cl;refine ⟨_,zA5 (zAc (zBr (zB0 zDf (zB2 (pv 2) rfl) zBo (nomark _)) (zBx (zA6 GH hr rfl DH.at_ DH.fn.kp DH.bind .nil (passC hC) (zA0 (zEv (pv 1) KS.cl KS.mOf GO hr bO .nil (passC hC) (zA0 (zB2 (pv 2) rfl) zA2)) (zA0 (zB2 (pv 0) rfl) (zA0 (zB2 (pv 0) rfl) zA2))))))),?_⟩;obtain ⟨dxr,lr,hpk,_⟩:=id K0.kf;have hp:=K0.c;cases hp with
  | ow e =>
   refine ⟨_,rfl,pk,C,dxr,_,_,rfl,hpk,KC.cl,KC.nO,zD7 _ _ _,rfl,_,rfl,?_⟩;cases eo:r.owner with
   | none =>
    have q1:=k _ (Same.refl _);rw [show sut (sutL rs r) (.leaf (.owner f v))=false by show (match r.owner with | none=>false | some n=>hasVal (fieldsOf rs n) f (some v))=false;rw [eo]] at q1;exact iteF q1
   | some n =>
    obtain ⟨r2,h2,rfl⟩:=K0.rp.ownIn r K0.mem n eo;have q1:∀ H',Same H H'→Q (.bl (hasVal r2.fields f (some v))) H':=fun H' s'=>by
     have z:=k H' s';rw [show sut (sutL rs r) (.leaf (.owner f v))=hasVal r2.fields f (some v) by show (match r.owner with | none=>false | some n=>hasVal (fieldsOf rs n) f (some v))=_;rw [eo];show hasVal (fieldsOf rs r2.name) f (some v)=_;rw [zBm K0.rp h2]] at z;exact z
    obtain ⟨dd2,kvs2,pk2,dxk2,ka2,hq2,vv2,kf2,nn2,fo2⟩:=kd_of K0.kd K0.rp h2;refine iteT ⟨_,rfl,q,dxk2,_,rfl,hq2,ks_no _ (by decide),_,rfl,pk,C,dxr,_,_,rfl,hpk,KC.cl,KC.nO,zD7 _ _ _,q,dd2,kvs2,r2.name,.ref pk2,by rw [eo];rfl,nn2,ka2,vv2,fun H2 s2=>?_⟩;exact ⟨_,rfl,p,A.ow,_,_,_,rfl,s2 _ _ e,cl,N.nOwf,fV_f _ _,_,rfl,p,A.ow,_,_,_,rfl,s2 _ _ e,cl,N.nOwv,fV_v _ _,pk2,r2,f,some v,rfl,kf2.same s2,fo2,fun H3 s3=>q1 _ (s2.trans s3)⟩
theorem scSNo:FnScope ["self", "kinds", "kind"] ["self", "kinds", "kind"] (defScope sNoS):=⟨rfl,rfl,rfl,by decide +kernel,rfl,by decide +kernel,by decide +kernel⟩
theorem ok_sNo {f CK C:Addr}{fd:FuncData}{A:CA}{d:Nat} (hC:Calm CX) (N:Cnd K mg A) (F:Fun K "suits" "Not.suits" sNoS f fd) (IH:∀ X,IsCond A X→Disp P w K mg base CX (d + 4) "suits" ["self", "kinds", "kind"] (spSuits A CK C d X) X):FnOk P w K mg base CX (d + 5) f fd ["self", "kinds", "kind"] (spSuits A CK C (d + 1) A.no):=by
 refine Fun.okC F scSNo (fun vs H Q E h=>?_) (fun cdv Ar outer sh H vs Q E hr h=>?_)
 ·obtain ⟨p,q,pk,t,rs,r,rfl,_⟩:=h;rfl
 ·obtain ⟨p,q,pk,t,rs,r,rfl,K0,k⟩:=h;obtain ⟨t',rfl⟩:=(zCq N.ne).2.2.2.2.2.1 K0.eq;have nd:=scSNo.nd;have cl:=(N.all A.no (by unfold IsCond;simp)).cl;refine ⟨_,zA5 (zAc (zCb (D:=(IsCond A)) (zB2 (pv 0) rfl) IH hr (passC hC) (zA0 (pv 1) (zA0 (pv 2) zA2)))),?_⟩;have hp:=K0.c;have hh:=K0.h;rw [trH] at hh;cases hp with
  | no e c =>
   cases d with
   | zero=>omega
   | succ d =>
    obtain ⟨X',dx,fs,e',i,n,K1⟩:=K0.sub (d':=d) (Same.refl _) c K0.ok (by omega);refine ⟨_,rfl,p,A.no,_,_,_,rfl,e,cl,N.nNoc,fC_c _,_,X',dx,fs,rfl,e',i,n,_,rfl,_,rfl,_,q,pk,t',rs,r,rfl,K1,fun H1 s1=>?_⟩;have z:=k _ s1;rw [sut] at z;exact z
theorem scSBo:FnScope ["self", "kinds", "kind"] ["self", "kinds", "kind"] (defScope sBoS):=⟨rfl,rfl,rfl,by decide +kernel,rfl,by decide +kernel,by decide +kernel⟩
theorem ok_sBo {f CK C:Addr}{fd:FuncData}{A:CA}{d:Nat} (hC:Calm CX) (T:Tops K mg) (N:Cnd K mg A) (F:Fun K "suits" "Both.suits" sBoS f fd) (IH:∀ X,IsCond A X→Disp P w K mg base CX (d + 4) "suits" ["self", "kinds", "kind"] (spSuits A CK C d X) X):FnOk P w K mg base CX (d + 5) f fd ["self", "kinds", "kind"] (spSuits A CK C (d + 1) A.bo):=by
 refine Fun.okC F scSBo (fun vs H Q E h=>?_) (fun cdv Ar outer sh H vs Q E hr h=>?_)
 ·obtain ⟨p,q,pk,t,rs,r,rfl,_⟩:=h;rfl
 ·obtain ⟨p,q,pk,t,rs,r,rfl,K0,k⟩:=h;obtain ⟨ts,rfl⟩:=(zCq N.ne).2.2.2.2.2.2.1 K0.eq;have nd:=scSBo.nd;have cl:=(N.all A.bo (by unfold IsCond;simp)).cl;refine ⟨_,zA5 (zAc (zAa (zB3 rfl) rfl T.all PyProof.Rows.boot_all (zA0 (zAt (T:=["condition"]) rfl ScOk.auto (zAj (zB2 (pv 0) rfl)) (fun _ _ _ _=>zAd (i:=3) (by decide +kernel:(["self", "kinds", "kind", "condition"]:List Str).Nodup) rfl (Or.inl rfl)) (fun _ _ _ _=>zAy) (fun _ _ _ _=>(zCb (D:=(IsCond A)) (pv 3) IH hr (passC hC) (zA0 (pv 1) (zA0 (pv 2) zA2))))) zA2))),?_⟩;have small:∀ n:Nat,n≤1000→n≤sizeLine:=fun n h=>Zi (small1000 h);have hp:=K0.c;have hh:=K0.h;rw [trH] at hh;obtain ⟨t2,t50,tok⟩:2≤ts.length∧ts.length≤50∧TrsOk ts:=by have:=K0.ok;rwa [TrOk] at this
  cases hp with
  | bo e hl c =>
   rename_i l ps
   have cl2:=c.len;refine ⟨_,rfl,p,A.bo,_,_,_,rfl,e,cl,N.nBoc,fCs_c _,l,rfl,⟨_,SqL.of hl⟩,zAe (xs:=ps.map V.ref) (fun i ys H'=>Same H H'∧ys=((ts.take i).map (sut (sutL rs r))).map V.bl) ⟨Same.refl _,rfl⟩ (fun i ys H' z=>SqL.of (z.1 _ _ hl)) (fun i ys H' hi z=>?_) ?_ ?_⟩
   ·rw [z.2,Z0,Z0];have:=Zu i ts;exact small _ (by omega)
   ·rintro i x ys H' hi ⟨s1,rfl⟩ Nn hN;rw [Z6] at hi;cases ep:ps[i]? with
    | none=>rw [ep] at hi;cases hi
    | some p' =>
     rw [ep] at hi;cases hi;obtain ⟨t',et,c'⟩:=c.get ep;have mt:=Z3 et;have:=zDq mt;cases d with
     | zero=>omega
     | succ d =>
      obtain ⟨X',dx,fs,e',ic,n,K1⟩:=K0.sub (d':=d) s1 c' (zC2.mp tok t' mt) (by omega);refine pick ⟨_,rfl,p',X',dx,fs,rfl,e',ic,n,_,rfl,_,rfl,p',q,pk,t',rs,r,rfl,K1,fun H2 s2=>hN _ _ ⟨s1.trans s2,?_⟩⟩;rw [Z4,et,Z2,Z2];rfl
   ·rintro ys H' ⟨s1,rfl⟩ la hla;refine ⟨la,ts.map (sut (sutL rs r)),rfl,SqL.of (by rw [zA1,Z0,cl2,Za]),?_⟩;have z:=k _ (s1.trans (Same.new (o:=.lst (((ts.take (ps.map V.ref).length).map (sut (sutL rs r))).map V.bl)) hla));rw [sut,zEn] at z;exact z
theorem scSEi:FnScope ["self", "kinds", "kind"] ["self", "kinds", "kind"] (defScope sEiS):=⟨rfl,rfl,rfl,by decide +kernel,rfl,by decide +kernel,by decide +kernel⟩
theorem ok_sEi {f CK C:Addr}{fd:FuncData}{A:CA}{d:Nat} (hC:Calm CX) (T:Tops K mg) (N:Cnd K mg A) (F:Fun K "suits" "Either.suits" sEiS f fd) (IH:∀ X,IsCond A X→Disp P w K mg base CX (d + 4) "suits" ["self", "kinds", "kind"] (spSuits A CK C d X) X):FnOk P w K mg base CX (d + 5) f fd ["self", "kinds", "kind"] (spSuits A CK C (d + 1) A.ei):=by
 refine Fun.okC F scSEi (fun vs H Q E h=>?_) (fun cdv Ar outer sh H vs Q E hr h=>?_)
 ·obtain ⟨p,q,pk,t,rs,r,rfl,_⟩:=h;rfl
 ·obtain ⟨p,q,pk,t,rs,r,rfl,K0,k⟩:=h;obtain ⟨ts,rfl⟩:=(zCq N.ne).2.2.2.2.2.2.2 K0.eq;have nd:=scSEi.nd;have cl:=(N.all A.ei (by unfold IsCond;simp)).cl;refine ⟨_,zA5 (zAc (zAa (zB3 rfl) rfl T.all PyProof.Rows.boot_all (zA0 (zAt (T:=["condition"]) rfl ScOk.auto (zAj (zB2 (pv 0) rfl)) (fun _ _ _ _=>zAd (i:=3) (by decide +kernel:(["self", "kinds", "kind", "condition"]:List Str).Nodup) rfl (Or.inl rfl)) (fun _ _ _ _=>zAy) (fun _ _ _ _=>(zCb (D:=(IsCond A)) (pv 3) IH hr (passC hC) (zA0 (pv 1) (zA0 (pv 2) zA2))))) zA2))),?_⟩;have small:∀ n:Nat,n≤1000→n≤sizeLine:=fun n h=>Zi (small1000 h);have hp:=K0.c;have hh:=K0.h;rw [trH] at hh;obtain ⟨t2,t50,tok⟩:2≤ts.length∧ts.length≤50∧TrsOk ts:=by have:=K0.ok;rwa [TrOk] at this
  cases hp with
  | ei e hl c =>
   rename_i l ps
   have cl2:=c.len;refine ⟨_,rfl,p,A.ei,_,_,_,rfl,e,cl,N.nEic,fCs_c _,l,rfl,⟨_,SqL.of hl⟩,zAe (xs:=ps.map V.ref) (fun i ys H'=>Same H H'∧ys=((ts.take i).map (sut (sutL rs r))).map V.bl) ⟨Same.refl _,rfl⟩ (fun i ys H' z=>SqL.of (z.1 _ _ hl)) (fun i ys H' hi z=>?_) ?_ ?_⟩
   ·rw [z.2,Z0,Z0];have:=Zu i ts;exact small _ (by omega)
   ·rintro i x ys H' hi ⟨s1,rfl⟩ Nn hN;rw [Z6] at hi;cases ep:ps[i]? with
    | none=>rw [ep] at hi;cases hi
    | some p' =>
     rw [ep] at hi;cases hi;obtain ⟨t',et,c'⟩:=c.get ep;have mt:=Z3 et;have:=zDq mt;cases d with
     | zero=>omega
     | succ d =>
      obtain ⟨X',dx,fs,e',ic,n,K1⟩:=K0.sub (d':=d) s1 c' (zC2.mp tok t' mt) (by omega);refine pick ⟨_,rfl,p',X',dx,fs,rfl,e',ic,n,_,rfl,_,rfl,p',q,pk,t',rs,r,rfl,K1,fun H2 s2=>hN _ _ ⟨s1.trans s2,?_⟩⟩;rw [Z4,et,Z2,Z2];rfl
   ·rintro ys H' ⟨s1,rfl⟩ la hla;refine ⟨la,ts.map (sut (sutL rs r)),rfl,SqL.of (by rw [zA1,Z0,cl2,Za]),?_⟩;have z:=k _ (s1.trans (Same.new (o:=.lst (((ts.take (ps.map V.ref).length).map (sut (sutL rs r))).map V.bl)) hla));rw [sut,zEn] at z;exact z
end
end L2.W
namespace L2.W
open PySem My
noncomputable def sucC (r:Row):Chg→Bool
 | .make ns=>ns.all fun f=>(placeOf r.fields f).isSome
 | .set f v=>match v with
  | none=>(placeOf r.fields f).isSome
  | some x=>hasVal r.fields f (some x)
 | .take=>true
structure ChS (B:CB) (C:Addr) (H:Hp) (X p pk:Addr) (cg:Chg) (r:Row):Prop where
 x:∃ dx fs,H p=some (.ins X dx fs)
 c:ChgAt B H p cg
 ok:ChgOk cg
 kf:KF C Any H pk r
 fo:FieldsOk r.fields
noncomputable def spCS (B:CB) (C X:Addr):Sp:=fun vs H Q _=>∃ (p pk:Addr) (c:Chg) (r:Row),vs=[.ref p,.ref pk]∧ChS B C H X p pk c r∧∀ H',Same H H'→Q (.bl (sucC r c)) H'
theorem ChS.eq {B:CB}{C:Addr}{H:Hp}{X p pk:Addr}{c:Chg}{r:Row} (h:ChS B C H X p pk c r):clsC B c=X:=by
 obtain ⟨dx,fs,e1⟩:=h.x;obtain ⟨dx',fs',e2,_⟩:=h.c.ins;rw [e1] at e2;injection e2 with e2;injection e2 with e2;exact e2.symm
theorem opt_some (x:Option Nat):(!decide (optV x=V.non))=x.isSome:=by cases x <;> rfl
noncomputable def rsB (rs:List Row) (n:Str) (c:Chg) (t:Tr) (bs:List Str):Bool:=(n :: bs).all (fun y=>decide (y∈rs.map (·.name))) && (match rs.find? fun r=>decide (r.name=n) with
 | some r=>sucC r c && sut (sutL rs r) t
 | none=>false)
noncomputable def spRSu (A:CA) (B:CB) (CK C:Addr):Sp:=fun vs H Q _=>∃ (q p:Addr) (rs:List Row) (n:Str) (c:Chg) (t:Tr) (bs:List Str) (pc pt l:Addr),vs=[.ref q,.ref p]∧RuIn A B H p n c t bs pc pt l∧RlOk n c t bs∧Kd CK C H q rs∧RowsP rs∧∀ H',Same H H'→Q (.bl (rsB rs n c t bs)) H'
theorem in_keys {k:Str}:∀ kvs:List (Key×V),inV (.str k) (kvs.map fun kv=>kV kv.1)=(valV kvs (Sum.inr k)).isSome
 | []=>rfl
 | p :: r=>by
  have ih:=in_keys (k:=k) r;obtain ⟨key,v⟩:=p;unfold inV at ih ⊢;rw [Zq,Y8,ih];by_cases c:key=Sum.inr k
  ·rw [zCr (show (key,v).1=Sum.inr k from c)];subst c;simp [kV,eqV]
  ·rw [zCs (show ¬ (key,v).1=Sum.inr k from c)];have h1:eqV (kV key) (.str k)=false:=by
    cases key with
    | inl i=>rfl
    | inr n =>
     unfold eqV;simp [kV];exact fun e=>c (by rw [e])
   rw [h1,Bool.false_or]
theorem keys_flat:∀ kvs:List (Key×V),(kvs.map fun kv=>kV kv.1).all flatV=true
 | []=>rfl
 | p :: r=>by
  rw [Zq,Zy,keys_flat r];obtain ⟨key,v⟩:=p;cases key <;> rfl
theorem Kd.keys {CK C:Addr}{H:Hp}{q:Addr}{rs:List Row} (h:Kd CK C H q rs):∃ d kvs dxk,KindsAt CK H q d kvs∧H q=some (.ins CK dxk (ksF (.ref d)))∧∀ k,inV (.str k) (kvs.map fun kv=>kV kv.1)=decide (k∈rs.map (·.name)):=by
 obtain ⟨d,kvs,zs,ka,ez,hz,hno⟩:=h;obtain ⟨⟨dxk,hq⟩,_⟩:=id ka;refine ⟨d,kvs,dxk,ka,hq,fun k=>?_⟩;rw [in_keys];by_cases c:k∈rs.map (·.name)
 ·rw [decide_eq_true c];obtain ⟨r,hr,rfl⟩:=List.mem_map.mp c;rw [← ez] at hr;obtain ⟨z,mz,rfl⟩:=List.mem_map.mp hr;rw [(hz z mz).2];rfl
 ·rw [decide_eq_false c,hno k c];rfl
structure Stl (P:Program) (w:World) (K:PySem.W.Frag) (mg:Str→Option Value) (base:Heap) (CX:CXT) (A:CA) (CK C:Addr):Prop where
 leaf:∀ d X,(X=A.al∨X=A.wa∨X=A.is_∨X=A.me∨X=A.ow)→Disp P w K mg base CX 3 "suits" ["self", "kinds", "kind"] (spSuits A CK C d X) X
 tree:∀ d,(∀ X,IsCond A X→Disp P w K mg base CX (d + 4) "suits" ["self", "kinds", "kind"] (spSuits A CK C d X) X)→∀ X,(X=A.no∨X=A.bo∨X=A.ei)→Disp P w K mg base CX (d + 5) "suits" ["self", "kinds", "kind"] (spSuits A CK C (d + 1) X) X
 any:∀ X,(X=A.no∨X=A.bo∨X=A.ei)→∃ f fd,Cls K X∧Meth K X "suits" f∧Binds K fd ["self", "kinds", "kind"] []
section
variable {P:Program}{w:World}{K:PySem.W.Frag}{mg:Str→Option Value}{base:Heap}{CX:CXT}
theorem _root_.L2.Disp.mono {j k:Nat}{m:Str}{ps:List Str}{sp:Sp}{X:Addr} (d:Disp P w K mg base CX j m ps sp X) (h:j≤k):Disp P w K mg base CX k m ps sp X:=let ⟨f,fd,a,b,c,e⟩:=d.ex;⟨⟨f,fd,a,b,c.mono h,e⟩⟩
theorem suit_all {A:CA}{CK C:Addr} (h:Stl P w K mg base CX A CK C):∀ d X,IsCond A X→Disp P w K mg base CX (d + 4) "suits" ["self", "kinds", "kind"] (spSuits A CK C d X) X
 | 0,X,i=>by
  have lf:∀ X,(X=A.al∨X=A.wa∨X=A.is_∨X=A.me∨X=A.ow)→Disp P w K mg base CX (0 + 4) "suits" ["self", "kinds", "kind"] (spSuits A CK C 0 X) X:=fun X z=>(h.leaf 0 X z).mono (by decide);have tr:∀ X,(X=A.no∨X=A.bo∨X=A.ei)→Disp P w K mg base CX (0 + 4) "suits" ["self", "kinds", "kind"] (spSuits A CK C 0 X) X:=fun X z=>let ⟨f,fd,a,b,c⟩:=h.any X z;⟨⟨f,fd,a,b,FnOk.never fun _ _ _ _ y=>y,c⟩⟩;rcases i with i | i | i | i | i | i | i | i
  ·exact lf X (.inl i)
  ·exact lf X (.inr (.inl i))
  ·exact lf X (.inr (.inr (.inl i)))
  ·exact lf X (.inr (.inr (.inr (.inl i))))
  ·exact lf X (.inr (.inr (.inr (.inr i))))
  ·exact tr X (.inl i)
  ·exact tr X (.inr (.inl i))
  ·exact tr X (.inr (.inr i))
 | d + 1,X,i=>by
  have lf:∀ X,(X=A.al∨X=A.wa∨X=A.is_∨X=A.me∨X=A.ow)→Disp P w K mg base CX (d + 1 + 4) "suits" ["self", "kinds", "kind"] (spSuits A CK C (d + 1) X) X:=fun X z=>(h.leaf (d + 1) X z).mono (by omega);have tr:∀ X,(X=A.no∨X=A.bo∨X=A.ei)→Disp P w K mg base CX (d + 1 + 4) "suits" ["self", "kinds", "kind"] (spSuits A CK C (d + 1) X) X:=fun X z=>(h.tree d (suit_all h d) X z).mono (by omega);rcases i with i | i | i | i | i | i | i | i
  ·exact lf X (.inl i)
  ·exact lf X (.inr (.inl i))
  ·exact lf X (.inr (.inr (.inl i)))
  ·exact lf X (.inr (.inr (.inr (.inl i))))
  ·exact lf X (.inr (.inr (.inr (.inr i))))
  ·exact tr X (.inl i)
  ·exact tr X (.inr (.inl i))
  ·exact tr X (.inr (.inr i))
theorem scTmS:FnScope ["self", "kind"] ["self", "kind"] (defScope sTmS):=⟨rfl,rfl,rfl,by decide +kernel,rfl,by decide +kernel,by decide +kernel⟩
theorem ok_cTm {f fp C:Addr}{fd fdp:FuncData}{B:CB} (hC:Calm CX) (T:Tops K mg) (N:Cng K mg B) (F:Fun K "suits" "ToMake.suits" sTmS f fd) (DP:Def K mg "place_of" sPlaceOf ["kind", "field"] fp fdp) (GP:FnOk P w K mg base CX 1 fp fdp ["kind", "field"] (spPlace C)):FnOk P w K mg base CX 2 f fd ["self", "kind"] (spCS B C B.tm):=by
 refine Fun.okC F scTmS (fun vs H Q E h=>?_) (fun cdv Ar outer sh H vs Q E hr h=>?_)
 ·obtain ⟨p,pk,c,r,rfl,_⟩:=h;rfl
 ·obtain ⟨p,pk,c,r,rfl,I,k⟩:=h;obtain ⟨ns,rfl⟩:=(zFc N.ne).1 I.eq;have nd:=scTmS.nd;have cl:=(N.all B.tm (.inl rfl)).cl;refine ⟨_,zA5 (zAc (zAa (zB3 rfl) rfl T.all PyProof.Rows.boot_all (zA0 (zAt (T:=["field"]) rfl ScOk.auto (zAj (zB2 (pv 0) rfl)) (fun _ _ _ _=>zAd (i:=2) (by decide +kernel:(["self", "kind", "field"]:List Str).Nodup) rfl (Or.inl rfl)) (fun _ _ _ _=>zAy) (fun _ _ _ _=>(zB0 zDf (zA6 GP hr rfl DP.at_ DP.fn.kp DP.bind .nil (passC hC) (zA0 (pv 1) (zA0 (pv 2) zA2))) zBo (nomark _)))) zA2))),?_⟩;have small:∀ n:Nat,n≤1000→n≤sizeLine:=fun n h=>Zi (small1000 h);obtain ⟨_,_,n10⟩:(∀ x∈ns,nameOk x)∧ns.Nodup∧ns.length≤10:=I.ok;have hp:=I.c;cases hp with
  | make e hl =>
   rename_i dx l
   refine ⟨_,rfl,p,B.tm,_,_,_,rfl,e,cl,N.nTm,fFl_f _,l,rfl,⟨_,SqL.of hl⟩,zAe (xs:=ns.map V.str) (fun i ys H'=>Same H H'∧ys=((ns.take i).map fun f=>(placeOf r.fields f).isSome).map V.bl) ⟨Same.refl _,rfl⟩ (fun i ys H' z=>SqL.of (z.1 _ _ hl)) (fun i ys H' hi z=>?_) ?_ ?_⟩
   ·rw [z.2,Z0,Z0,Zl];exact small _ (by omega)
   ·rintro i x ys H' hi ⟨s1,rfl⟩ Nn hN;rw [Z6] at hi;cases en:ns[i]? with
    | none=>rw [en] at hi;cases hi
    | some f =>
     rw [en] at hi;cases hi;refine pick ⟨_,rfl,_,rfl,pk,r,f,rfl,I.kf.same s1,I.fo,fun H2 s2=>⟨rfl,?_⟩⟩;rw [opt_some];refine hN _ _ ⟨s1.trans s2,?_⟩;rw [Z4,en,Z2,Z2];rfl
   ·rintro ys H' ⟨s1,rfl⟩ la hla;refine ⟨la,ns.map fun f=>(placeOf r.fields f).isSome,rfl,SqL.of (by rw [zA1,Z0,Za]),?_⟩;have z:=k _ (s1.trans (Same.new (o:=.lst (((ns.take (ns.map V.str).length).map fun f=>(placeOf r.fields f).isSome).map V.bl)) hla));rw [Y7];exact z
theorem scTsS:FnScope ["self", "kind"] ["self", "kind"] (defScope sTsS):=⟨rfl,rfl,rfl,by decide +kernel,rfl,by decide +kernel,by decide +kernel⟩
theorem ok_cTs {f fp fh C:Addr}{fd fdp fdh:FuncData}{B:CB} (hC:Calm CX) (N:Cng K mg B) (F:Fun K "suits" "ToSet.suits" sTsS f fd) (DP:Def K mg "place_of" sPlaceOf ["kind", "field"] fp fdp) (GP:FnOk P w K mg base CX 1 fp fdp ["kind", "field"] (spPlace C)) (DH:Def K mg "has_value" sHasVal ["kind", "field", "value"] fh fdh) (GH:FnOk P w K mg base CX 2 fh fdh ["kind", "field", "value"] (spHasV C)):FnOk P w K mg base CX 3 f fd ["self", "kind"] (spCS B C B.ts):=by
 refine Fun.okC F scTsS (fun vs H Q E h=>?_) (fun cdv Ar outer sh H vs Q E hr h=>?_)
 ·obtain ⟨p,pk,c,r,rfl,_⟩:=h;rfl
 ·obtain ⟨p,pk,c,r,rfl,I,k⟩:=h;obtain ⟨f,v,rfl⟩:=(zFc N.ne).2.1 I.eq;have nd:=scTsS.nd;have cl:=(N.all B.ts (.inr (.inl rfl))).cl;have hr1:=hr.mono (show 1≤2 by decide)
  refine ⟨_,zA3 (zAq (zCh (zEf (zB2 (pv 0) rfl)))
     (zA5 (zAc (zB0 zDf (zA6 GP hr1 rfl DP.at_ DP.fn.kp DP.bind .nil (passC hC) (zA0 (pv 1) (zA0 (zB2 (pv 0) rfl) zA2))) zBo (nomark _)))) zAb)
     (zA5 (zAc (zA6 GH hr rfl DH.at_ DH.fn.kp DH.bind .nil (passC hC) (zA0 (pv 1) (zA0 (zB2 (pv 0) rfl) (zA0 (zB2 (pv 0) rfl) zA2)))))),?_⟩
  have hp:=I.c;cases hp with
  | set e =>
   refine ⟨_,rfl,p,B.ts,_,_,_,rfl,e,cl,N.nTsv,fV_v _ _,_,rfl,?_⟩;cases v with
   | none =>
    refine iteT ⟨_,rfl,_,rfl,p,B.ts,_,_,_,rfl,e,cl,N.nTsf,fV_f _ _,pk,r,f,rfl,I.kf,I.fo,fun H1 s1=>⟨rfl,?_⟩⟩;rw [opt_some];exact k _ s1
   | some x=>exact iteF ⟨_,rfl,_,rfl,p,B.ts,_,_,_,rfl,e,cl,N.nTsf,fV_f _ _,_,rfl,p,B.ts,_,_,_,rfl,e,cl,N.nTsv,fV_v _ _,pk,r,f,some x,rfl,I.kf,I.fo,k⟩
theorem scTtS:FnScope ["self", "kind"] ["self", "kind"] (defScope sTtSuits):=⟨rfl,rfl,rfl,by decide +kernel,rfl,by decide +kernel,by decide +kernel⟩
theorem ok_cTt {f C:Addr}{fd:FuncData}{B:CB} (N:Cng K mg B) (F:Fun K "suits" "ToTake.suits" sTtSuits f fd):FnOk P w K mg base CX 1 f fd ["self", "kind"] (spCS B C B.tt):=by
 refine Fun.okC F scTtS (fun vs H Q E h=>?_) (fun cdv Ar outer sh H vs Q E hr h=>?_)
 ·obtain ⟨p,pk,c,r,rfl,_⟩:=h;rfl
 ·obtain ⟨p,pk,c,r,rfl,I,k⟩:=h;cases (zFc N.ne).2.2 I.eq;exact ⟨_,zA5 (zAc zCd),k _ (Same.refl _)⟩
end
end L2.W
namespace L2.W
open PySem My
section
variable {P:Program}{w:World}{K:PySem.W.Frag}{mg:Str→Option Value}{base:Heap}{CX:CXT}
theorem scRs:FnScope ["kinds", "rule", "kind"] ["kinds", "rule"] (defScope sRuleSuits):=⟨rfl,rfl,rfl,by decide +kernel,rfl,by decide +kernel,by decide +kernel⟩
noncomputable abbrev nRs:List Str:=["kinds", "rule", "?"]
theorem sameRs:sameN ["kinds", "rule", "kind"] nRs [2]:=by unfold sameN;decide +kernel
theorem find_row {rs:List Row} (rp:RowsP rs) {n:Str} (h:n∈rs.map (·.name)):∃ r∈rs,r.name=n∧(rs.find? fun r=>decide (r.name=n))=some r:=by
 cases e:rs.find? fun r=>decide (r.name=n) with
 | none =>
  obtain ⟨r,hr,e2⟩:=List.mem_map.mp h;exact absurd (decide_eq_true e2) (List.find?_eq_none.mp e r hr)
 | some r=>exact ⟨r,List.mem_of_find?_eq_some e,by simpa using List.find?_some e,rfl⟩
theorem ok_rsu {f CK C fIk fOr fOf fOw fO2:Addr}{fd fdr fdo:FuncData}{A:CA}{B:CB} (hC:Calm CX) (T:Tops K mg) (N:Cng K mg B) (KS:KsCls K mg CK fIk fOr fOf fOw) (F:Fun K "rule_suits" "rule_suits" sRuleSuits f fd)
  (mOr:Meth K CK "order" fO2) (GR:FnOk P w K mg base CX 1 fO2 fdr ["self"] (spOrder CK)) (bOr:Binds K fdr ["self"] []) (GO:FnOk P w K mg base CX 2 fOf fdo ["self", "name"] (spOf CK)) (bOf:Binds K fdo ["self", "name"] []) (Hs:∀ X,IsCond A X→Disp P w K mg base CX 7 "suits" ["self", "kinds", "kind"] (spSuits A CK C 3 X) X) (Hc:∀ X,IsChg B X→Disp P w K mg base CX 3 "suits" ["self", "kind"] (spCS B C X) X) :
  FnOk P w K mg base CX 8 f fd ["kinds", "rule"] (spRSu A B CK C):=by
 refine Fun.okC F scRs (fun vs H Q E h=>?_) (fun cdv Ar outer s H vs Q E hr h=>?_)
 ·obtain ⟨q,p,rs,n,c,t,bs,pc,pt,l,rfl,_⟩:=h;rfl
 ·obtain ⟨q,p,rs,n,c,t,bs,pc,pt,l,rfl,ru,ok,kd,rp,k⟩:=h;have nd:=scRs.nd;have hr1:=hr.mono (show 1≤7 by decide);have hr2:=hr.mono (show 2≤7 by decide);have hr3:=hr.mono (show 3≤7 by decide)
  refine ⟨_,zA3 (ps_re nRs [2] sameRs (zAq (zAu (zAl (zAa (zB3 rfl) rfl T.all PyProof.Rows.boot_all (zA0 (zAt (T:=["kind"]) rfl ScOk.auto (zAj (zAx zDx (zAm (zA0 (zB2 (pv 1) rfl) zA2)) (zB2 (pv 1) rfl))) (fun _ _ _ _=>zAd (i:=3) (by decide +kernel:(["kinds", "rule", "?", "kind"]:List Str).Nodup) rfl (Or.inl rfl)) (fun _ _ _ _=>zAy) (fun _ _ _ _=>(zB0 (r:=rIn K false) zCk (pv 3) (zEu (pv 0) KS.cl mOr GR hr1 bOr .nil (passC hC)) rfl))) zA2))))
     (zA5 (zAc zCd)) zAb))
     (zA3 (zAk (i:=2) nd rfl (Or.inl rfl) (zEv (pv 0) KS.cl KS.mOf GO hr2 bOf .nil (passC hC) (zA0 (zB2 (pv 1) rfl) zA2)))
     (zA5 (zAc (zBr (zCb (D:=(IsChg B)) (zB2 (pv 1) rfl) Hc hr3 (passC hC) (zA0 (pv 2) zA2)) (zBx (zCb (D:=(IsCond A)) (zB2 (pv 1) rfl) Hs hr (passC hC) (zA0 (pv 0) (zA0 (pv 2) zA2)))))))),?_⟩
  have small:∀ n:Nat,n≤1000→n≤sizeLine:=fun n h=>Zi (small1000 h);obtain ⟨dx,h1⟩:=ru.e;have h4:=ru.l;have le:=ok.b.2.2;refine ⟨_,rfl,p,B.ru,dx,_,_,rfl,h1,N.rcl,N.nRk,rF_k _ _ _ _,small 1 (by decide),fun l1 hl1=>?_⟩;have w1:Same H (upd H l1 (.lst [.str n])):=Same.new hl1;have x1:(upd H l1 (.lst [.str n])) l1=some (.lst [.str n]):=zA1;generalize upd H l1 (.lst [.str n])=H1 at w1 x1 ⊢;refine ⟨_,rfl,p,B.ru,dx,_,_,rfl,w1 _ _ h1,N.rcl,N.nRb,rF_b _ _ _ _,l1,l,_,_,rfl,rfl,x1,w1 _ _ h4,by rw [Z0];show 1 + _≤_;exact small _ (by omega),fun l2 hl2=>?_⟩;rw [show ([.str n]++bs.map V.str:List V)=(n :: bs).map V.str from rfl];have w2:Same H1 (upd H1 l2 (.lst ((n :: bs).map V.str))):=Same.new hl2;have x2:(upd H1 l2 (.lst ((n :: bs).map V.str))) l2=some (.lst ((n :: bs).map V.str)):=zA1;generalize upd H1 l2 (.lst ((n :: bs).map V.str))=H2 at w2 x2 ⊢;have w12:=w1.trans w2;refine ⟨l2,rfl,⟨_,SqL.of x2⟩,zAe (xs:=(n :: bs).map V.str) (fun i ys H'=>Same H2 H'∧ys=(((n :: bs).take i).map fun y=>decide (y∈rs.map (·.name))).map V.bl) ⟨Same.refl _,rfl⟩ (fun i ys H' p=>SqL.of (p.1 _ _ x2)) (fun i ys H' hi p=>?_) ?_ ?_⟩
  ·rw [p.2,Z0,Z0,Zl,Zj];exact small _ (by omega)
  ·rintro i v ys H' hi ⟨s',rfl⟩ Nn hN;rw [Z6] at hi;obtain ⟨y,ey,rfl⟩:=Option.map_eq_some_iff.mp hi;obtain ⟨d,kvs,dxk,ka,hq,hin⟩:=((kd.same w12).same s').keys;refine pick ⟨_,rfl,_,rfl,q,dxk,_,rfl,hq,ks_no _ (by decide +kernel),q,d,kvs,rfl,ka,fun l3 hl3=>?_⟩;refine ⟨l3,_,rfl,.inl (SqL.of zA1),rfl,keys_flat _,hN _ _ ⟨s'.trans (Same.new hl3),?_⟩⟩;rw [Z4,ey,Z2,Z2]
   congr 1
   show [V.bl (inV (.str y) (kvs.map fun kv=>kV kv.1))]=_;rw [hin];rfl
  ·rintro ys H3 ⟨s3,rfl⟩ cc hcc;rw [show ((n :: bs).map V.str).length=(n :: bs).length from Z0 ..,Za];have s4:Same H (upd H3 cc (.lst (((n :: bs).map fun y=>decide (y∈rs.map (·.name))).map V.bl))):=w12.trans (s3.trans (Same.new hcc));refine ⟨cc,_,rfl,SqL.of zA1,_,rfl,?_⟩;generalize upd H3 cc (.lst (((n :: bs).map fun y=>decide (y∈rs.map (·.name))).map V.bl))=H4 at s4 ⊢;rw [show ((n :: bs).map fun y=>decide (y∈rs.map (·.name))).all id=(n :: bs).all (fun y=>decide (y∈rs.map (·.name))) by rw [Y7];rfl];cases eb:(n :: bs).all (fun y=>decide (y∈rs.map (·.name))) with
   | false =>
    refine iteT ?_;have z:=k _ s4;unfold rsB at z;rw [eb] at z;exact z
   | true =>
    refine iteF ?_;dsimp only [Ends.hid,hide,List.set,start];have hn:n∈rs.map (·.name):=of_decide_eq_true (List.all_eq_true.mp eb n Zg);obtain ⟨r,mr,rfl,ef⟩:=find_row rp hn;have k2:∀ H',Same H H'→Q (.bl (sucC r c && sut (sutL rs r) t)) H':=fun H' s'=>by
     have z:=k H' s';unfold rsB at z;rw [eb,ef] at z;exact z
    obtain ⟨dd,kvs,pk,dxk,ka,hq,vv,kf,nn,fo⟩:=kd_of (kd.same s4) rp mr;refine ⟨_,rfl,q,dxk,_,rfl,hq,ks_no _ (by decide +kernel),_,rfl,p,B.ru,dx,_,_,rfl,s4 _ _ h1,N.rcl,N.nRk,rF_k _ _ _ _,q,dd,kvs,r.name,.ref pk,rfl,nn,ka,vv,fun H5 s5=>?_⟩;have s45:=s4.trans s5;dsimp only [gName,List.set];obtain ⟨dc,fc,ec,ic,nc⟩:=(ru.c.same s45).ins;refine ⟨_,rfl,p,B.ru,dx,_,_,rfl,s45 _ _ h1,N.rcl,N.nRc,rF_c _ _ _ _,pc,_,dc,fc,rfl,ec,ic,nc,_,rfl,pc,pk,c,r,rfl,⟨⟨dc,fc,ec⟩,ru.c.same s45,ok.cg,kf.same s5,fo⟩,fun H6 s6=>⟨_,rfl,?_⟩⟩;have s46:=s45.trans s6;cases cs:sucC r c with
    | false =>
     rw [cs] at k2;exact iteF (k2 _ s46)
    | true =>
     rw [cs] at k2;obtain ⟨X,dX,fX,eX,iX,nX⟩:=(ru.t.same s46).insS;exact iteT ⟨_,rfl,p,B.ru,dx,_,_,rfl,s46 _ _ h1,N.rcl,N.nRd,rF_d _ _ _ _,pt,X,dX,fX,rfl,eX,iX,nX,_,rfl,_,rfl,pt,q,pk,t,rs,r,rfl,⟨⟨dX,fX,eX⟩,ru.t.same s46,ok.tr,ok.h,kd.same s46,rp,mr,kf.same (s5.trans s6)⟩,fun H7 s7=>k2 _ (s46.trans s7)⟩
end
end L2.W
namespace L2.W
open PySem My
noncomputable def hF (n r:V):List (Str×V):=putF "rules" r (putF "name" n [])
theorem hF_n (n r:V):(hF n r).lookup ("name" : Str)=some n:=by unfold hF;rw [zA8,if_neg (by decide +kernel),zA8,if_pos rfl]
theorem hF_r (n r:V):(hF n r).lookup ("rules" : Str)=some r:=by unfold hF;rw [zA8,if_pos rfl]
noncomputable def IsRu (B:CB) (H:Hp) (p:Addr):Prop:=∃ dx fs,H p=some (.ins B.ru dx fs)
noncomputable def spHI (B:CB):Sp:=fun vs H Q _=>∃ (p dx l:Addr) (n:Str) (ps:List Addr),vs=[.ref p,.str n,.ref l]∧H p=some (.ins B.ha dx [])∧nameOk n∧H l=some (.lst (ps.map V.ref))∧ps.length≤100∧(∀ q∈ps,IsRu B H q) ∧
 ∀ H' l',H' p=some (.ins B.ha dx (hF (.str n) (.ref l')))→H' l'=some (.lst (ps.map V.ref))→H l'=none→But p H H'→Q .non H'
theorem all_true (n:Nat):(List.replicate n true).all id=true:=by
 induction n with
 | zero=>rfl
 | succ n ih=>rw [List.replicate_succ,Zy,ih];rfl
section
variable {P:Program}{w:World}{K:PySem.W.Frag}{mg:Str→Option Value}{base:Heap}{CX:CXT}
theorem scHd:FnScope ["self", "name", "rules"] ["self", "name", "rules"] (defScope sInitH):=⟨rfl,rfl,rfl,by decide +kernel,rfl,by decide +kernel,by decide +kernel⟩
theorem ok_hand {f fn:Addr}{fd fdn:FuncData}{B:CB} (hC:Calm CX) (T:Tops K mg) (N:Cng K mg B) (F:Fun K "__init__" "Hand.__init__" sInitH f fd) (DN:Def K mg "is_name" sIsName ["thing"] fn fdn):FnOk P w K mg base CX 2 f fd ["self", "name", "rules"] (spHI B):=by
 have GN:FnOk P w K mg base CX 1 fn fdn ["thing"] spNameD:=zCe DN.fn T;refine Fun.okC F scHd (fun vs H Q E h=>?_) (fun cdv A outer s H vs Q E hr h=>?_)
 ·obtain ⟨p,dx,l,n,ps,rfl,_⟩:=h;rfl
 ·obtain ⟨p,dx,l,n,ps,rfl,hp,nn,hl,ple,hps,k⟩:=h;have nd:=scHd.nd
  refine ⟨_,zA3 (zAq (zAu (zAl (zA6 GN hr rfl DN.at_ DN.fn.kp DN.bind .nil (passC hC) (zA0 (pv 1) zA2))))
     zAo zAb)
     (zA3 (zAq (PW.pt (zC0 (zAu (zAl (zAa zAs rfl T.isinst PyProof.Rows.boot_isinstance (zA0 (pv 2) (zA0 (zBk (v:=.ty "list") rfl T.list PyProof.Rows.boot_list rfl) zA2))))) (zBd (zAu (zAl (zAa (zB3 rfl) rfl T.all PyProof.Rows.boot_all (zA0 (zAt (T:=["rule"]) rfl ScOk.auto (zAj (pv 2)) (fun _ _ _ _=>zAd (i:=3) (by decide +kernel:(["self", "name", "rules", "rule"]:List Str).Nodup) rfl (Or.inl rfl)) (fun _ _ _ _=>zAy) (fun _ _ _ _=>(zAa (zBz (K:=K) rfl) rfl T.isinst PyProof.Rows.boot_isinstance (zA0 (pv 3) (zA0 (zAv (v:=.ref B.ru) rfl N.gRu rfl) zA2))))) zA2)))))))
     zAo zAb)
     (zA3 (zB9 (pv 0) (pv 1) rfl)
     (zA5 (zB9 (pv 0) (zAn zAz rfl T.list PyProof.Rows.boot_list (zA0 (pv 2) zA2)) rfl)))),?_⟩
  refine ⟨_,rfl,_,.str n,rfl,.str _ (Zo nn.2.2 (by decide)) nn.2.1,fun H1 s1=>⟨_,rfl,?_⟩⟩;rw [show nameD (.str n)=true from nn.1];refine iteF ⟨_,rfl,_,_,_,_,_,rfl,.lst (s1 _ _ hl),rfl,rfl,_,rfl,iteF ?_⟩;have small:∀ n:Nat,n≤1000→n≤sizeLine:=fun n h=>Zi (small1000 h);refine ⟨_,rfl,l,rfl,⟨_,SqL.of (s1 _ _ hl)⟩,zAe (xs:=ps.map V.ref) (fun i ys H'=>H1=H'∧ys=List.replicate i (V.bl true)) ⟨rfl,rfl⟩ (fun i ys H' p=>by rw [← p.1];exact SqL.of (s1 _ _ hl)) (fun i ys H' hi p=>?_) ?_ ?_⟩
  ·rw [p.2,Zp];rw [Z0] at hi;exact small _ (by omega)
  ·rintro i v ys H' hi ⟨rfl,rfl⟩ Nn hN;rw [Z6] at hi;cases ep:ps[i]? with
   | none=>rw [ep] at hi;cases hi
   | some q =>
    rw [ep] at hi;cases hi;obtain ⟨dq,fq,hq⟩:=hps q (Z3 ep);exact pick ⟨_,rfl,_,_,_,_,_,rfl,.ins (s1 _ _ hq) N.rcl N.rI.ha N.rI.hn N.rI.htk N.rI.hm,rfl,N.rI.one,hN _ _ ⟨rfl,by rw [List.replicate_succ']⟩⟩
  ·rintro ys H' ⟨rfl,rfl⟩ c hc;refine ⟨c,List.replicate (ps.map V.ref).length true,rfl,SqL.of (by rw [zA1,List.map_replicate]),_,rfl,?_⟩;rw [all_true];refine iteF ?_;have s2:Same H (upd H1 c (.lst (List.replicate (ps.map V.ref).length (V.bl true)))):=s1.trans (Same.new hc);generalize upd H1 c (.lst (List.replicate (ps.map V.ref).length (V.bl true)))=H2 at s2 ⊢;refine ⟨_,rfl,_,rfl,p,B.ha,dx,[],rfl,s2 _ _ hp,N.hcl,N.nHn,(by show 0 < 1000;decide),?_⟩;have npl:l≠p:=by rintro rfl;rw [hp] at hl;cases hl
   refine ⟨_,rfl,l,_,rfl,.inl (SqL.of (by rw [zA9 npl];exact s2 _ _ hl)),fun l2 h2=>?_⟩;have n2:l2≠p:=Ne.symm (zA7 (zA1 (H:=H2)) h2);have f2:H l2=none:=by
    rw [zA9 n2] at h2;exact s2.free h2
   refine ⟨_,rfl,p,B.ha,dx,_,rfl,(Same.new h2) _ _ zA1,N.hcl,N.nHr,(by show 1 < 1000;decide),?_⟩;exact k _ l2 zA1 (by rw [zA9 n2];exact zA1) f2 fun b o e nb=>by rw [zA9 nb];exact (Same.new h2) _ _ (by rw [zA9 nb];exact s2 _ _ e)
end
end L2.W
namespace L2.W
open PySem My
theorem zBh {α β : Type}{R R' : α→β→Prop}{l:List α}{m:List β} (h:Paired R l m) (i:∀ a b,R a b→R' a b):Paired R' l m:=by
 induction h with
 | nil=>exact .nil
 | cons r t ih=>exact .cons (i _ _ r) ih
structure XTop (K:PySem.W.Frag) (mg:Str→Option Value) (x:Str) (CN:Addr):Prop where
 at_:mg x=some (.ref CN)
 cl:PySem.W.excIn K CN [.type "ValueError",.type "Exception",.type "BaseException",.type "object"] "ValueError.__new__" = true
noncomputable def Refused (C1:Addr) (H:Hp) (E:XK):Prop:=∀ (e:Addr) (H':Hp),H e=none→H' e=some (XO C1 e)→Same H H'→E (.ref C1) (some e) H'
structure Rl where
 (n:Str) (c:Chg) (t:Tr) (bs:List Str)
noncomputable def RlAt (A:CA) (B:CB) (H:Hp) (v:V) (x:Rl):Prop:=∃ p pc pt l,v=.ref p∧RuIn A B H p x.n x.c x.t x.bs pc pt l
theorem RlAt.same {A:CA}{B:CB}{H H':Hp}{v:V}{x:Rl} (h:RlAt A B H v x) (s:Same H H'):RlAt A B H' v x:=let ⟨p,pc,pt,l,e,r⟩:=h;⟨p,pc,pt,l,e,r.same s⟩
noncomputable def HaIn (A:CA) (B:CB) (H:Hp) (v:V) (h:Str×List Rl):Prop:=∃ p dx l vs,v=.ref p∧H p=some (.ins B.ha dx (hF (.str h.1) (.ref l)))∧H l=some (.lst vs)∧Paired (RlAt A B H) vs h.2
theorem HaIn.same {A:CA}{B:CB}{H H':Hp}{v:V}{h:Str×List Rl} (x:HaIn A B H v h) (s:Same H H'):HaIn A B H' v h:=let ⟨p,dx,l,vs,e,h1,h2,h3⟩:=x;⟨p,dx,l,vs,e,s _ _ h1,s _ _ h2,zBh h3 fun _ _ r=>r.same s⟩
noncomputable def Rl.su (rs:List Row) (x:Rl):Bool:=rsB rs x.n x.c x.t x.bs
noncomputable def handS (rs:List Row) (h:Str×List Rl):Bool:=h.2.all (Rl.su rs)
structure HsOk (hs:List (Str×List Rl)):Prop where
 le:hs.length≤10
 ok:∀ h∈hs,nameOk h.1∧h.2.length≤100∧∀ x∈h.2,RlOk x.n x.c x.t x.bs
noncomputable def spCk (A:CA) (B:CB) (CK C CN:Addr):Sp:=fun vs H Q E=>∃ (q lh:Addr) (rs:List Row) (hv:List V) (hs:List (Str×List Rl)),vs=[.ref q,.ref lh]∧Kd CK C H q rs∧RowsP rs∧H lh=some (.lst hv)∧Paired (HaIn A B H) hv hs∧HsOk hs ∧
 ((hs.map (·.1)).Nodup→hs.all (handS rs)=true→∀ H',Same H H'→Q .non H')∧(¬ ((hs.map (·.1)).Nodup∧hs.all (handS rs)=true)→Refused CN H E)
theorem scCk:FnScope ["kinds", "hands", "hand"] ["kinds", "hands"] (defScope sCheck):=⟨rfl,rfl,rfl,by decide +kernel,rfl,by decide +kernel,by decide +kernel⟩
noncomputable abbrev nCk:List Str:=["kinds", "hands", "?"]
theorem sameCk:sameN ["kinds", "hands", "hand"] nCk [2]:=by unfold sameN;decide +kernel
theorem unl_eq {ks:List Str} (h:∀ x∈ks,nameOk x):unlikeB (ks.map .str)=decide ks.Nodup:=by
 unfold unlikeB
 rw [zDb,show (ks.map PyData.str).all nameD=true by
  rw [Yd];intro d hd;obtain ⟨x,hx,rfl⟩:=List.mem_map.mp hd
  exact (h x hx).1,Bool.true_and]
section
variable {P:Program}{w:World}{K:PySem.W.Frag}{mg:Str→Option Value}{base:Heap}
theorem ok_ck {f fu fn fs CK C CN:Addr}{fd fdu fdn fds:FuncData}{A:CA}{B:CB} (T:Tops K mg) (XN:XTop K mg "NoRule" CN) (N:Cng K mg B) (F:Fun K "check" "check" sCheck f fd) (DN:Def K mg "is_name" sIsName ["thing"] fn fdn) (DU:Def K mg "are_unlike_names" sUnlike ["things"] fu fdu) (DS:Def K mg "rule_suits" sRuleSuits ["kinds", "rule"] fs fds)
  (GS:FnOk P w K mg base (CXM P w) 8 fs fds ["kinds", "rule"] (spRSu A B CK C)):FnOk P w K mg base (CXM P w) 9 f fd ["kinds", "hands"] (spCk A B CK C CN):=by
 have GU:FnOk P w K mg base (CXM P w) 2 fu fdu ["things"] spUnlike:=zBt calmM T DU.fn DN;have hC:Calm (CXM P w):=calmM;refine Fun.okX F scCk (fun vs H Q E h=>?_) (fun cdv Ar outer s H vs Q E hr h=>?_)
 ·obtain ⟨q,lh,rs,hv,hs,rfl,_⟩:=h;rfl
 ·obtain ⟨q,lh,rs,hv,hs,rfl,kd,rp,hlh,hhs,hok,ky,kn⟩:=h;have nd:=scCk.nd;have hr2:=hr.mono (show 2≤8 by decide)
  refine ⟨_,zA3 (ps_re nCk [2] sameCk (zAq (PW.pt (zC0 (zAu (zAl (zAa zAs rfl T.isinst PyProof.Rows.boot_isinstance (zA0 (pv 1) (zA0 (zBk (v:=.ty "list") rfl T.list PyProof.Rows.boot_list rfl) zA2))))) (zBd (zAu (zAl (zAa (zB3 rfl) rfl T.all PyProof.Rows.boot_all (zA0 (zAt (T:=["hand"]) rfl ScOk.auto (zAj (pv 1)) (fun _ _ _ _=>zAd (i:=3) (by decide +kernel:(["kinds", "hands", "?", "hand"]:List Str).Nodup) rfl (Or.inl rfl)) (fun _ _ _ _=>zAy) (fun _ _ _ _=>(zAa (zBz (K:=K) rfl) rfl T.isinst PyProof.Rows.boot_isinstance (zA0 (pv 3) (zA0 (zAv (v:=.ref B.ha) rfl N.gHa rfl) zA2))))) zA2)))))))
     zAo zAb))
     (zA3 (ps_re nCk [2] sameCk (zAq (zAu (zAl (zA6 GU hr2 rfl DU.at_ DU.fn.kp DU.bind .nil (passC hC) (zA0 (zAt (T:=["hand"]) rfl ScOk.auto (zAj (pv 1)) (fun _ _ _ _=>zAd (i:=3) (by decide +kernel:(["kinds", "hands", "?", "hand"]:List Str).Nodup) rfl (Or.inl rfl)) (fun _ _ _ _=>zAy) (fun _ _ _ _=>(zCc (K:=K) rfl (pv 3) rfl))) zA2))))
     (zA5 (zC9 (C:=CN) (W:=fun _ e H'=>E (.ref CN) (some e) H') XN.cl rfl XN.at_ rfl (zA0 zAf zA2) (fun pins σ H s e I he fr w=>xe_new I he (.inl fr) w))) zAb))
     (zA5 (zCv PassesOwn.leaving rfl (zAj (pv 1)) (zAd (i:=2) nd rfl (Or.inl rfl))
     (zA5 (zAq (zAu (zAl (zAa (zB3 rfl) rfl T.all PyProof.Rows.boot_all (zA0 (zAt (T:=["rule"]) rfl ScOk.auto (zAj (zB2 (pv 2) rfl)) (fun _ _ _ _=>zAd (i:=3) (by decide +kernel:(["kinds", "hands", "hand", "rule"]:List Str).Nodup) rfl (Or.inl rfl)) (fun _ _ _ _=>zAy) (fun _ _ _ _=>(zA6 GS hr rfl DS.at_ DS.fn.kp DS.bind .nil (passC hC) (zA0 (pv 0) (zA0 (pv 3) zA2))))) zA2))))
     (zA5 (zC9 (C:=CN) (W:=fun _ e H'=>E (.ref CN) (some e) H') XN.cl rfl XN.at_ rfl (zA0 zAf zA2) (fun pins σ H s e I he fr w=>xe_new I he (.inl fr) w))) zAb))))),?_⟩
  have small:∀ n:Nat,n≤1000→n≤sizeLine:=fun n h=>Zi (small1000 h);have hl:=Paired.length hhs;have hle:=hok.le;refine ⟨_,rfl,_,_,_,_,_,rfl,.lst hlh,rfl,rfl,_,rfl,iteF ?_⟩;refine ⟨_,rfl,lh,rfl,⟨_,SqL.of hlh⟩,zAe (xs:=hv) (fun i ys H'=>H=H'∧ys=List.replicate i (V.bl true)) ⟨rfl,rfl⟩ (fun i ys H' p=>by rw [← p.1];exact SqL.of hlh) (fun i ys H' hi p=>?_) ?_ ?_⟩
  ·rw [p.2,Zp];exact small _ (by omega)
  ·rintro i v ys H' hi ⟨rfl,rfl⟩ Nn hN;obtain ⟨x,ex,p,dx,l,vs,rfl,h1,h2,h3⟩:=zBl hhs hi;exact pick ⟨_,rfl,_,_,_,_,_,rfl,.ins h1 N.hcl N.hI.ha N.hI.hn N.hI.htk N.hI.hm,rfl,N.hI.one,hN _ _ ⟨rfl,by rw [List.replicate_succ']⟩⟩
  ·rintro ys H' ⟨rfl,rfl⟩ c hc;refine ⟨c,List.replicate hv.length true,rfl,SqL.of (by rw [zA1,List.map_replicate]),_,rfl,?_⟩;rw [all_true];refine iteF ?_;have s1:Same H (upd H c (.lst (List.replicate hv.length (V.bl true)))):=Same.new hc;generalize upd H c (.lst (List.replicate hv.length (V.bl true)))=H1 at s1 ⊢;dsimp only [Ends.hid,hide,List.set,start];have hh1:=zBh hhs fun _ _ r=>r.same s1;refine ⟨_,rfl,lh,rfl,⟨_,SqL.of (s1 _ _ hlh)⟩,zAe (xs:=hv) (fun i ys H'=>H1=H'∧ys=((hs.take i).map (·.1)).map V.str) ⟨rfl,rfl⟩ (fun i ys H' p=>by rw [← p.1];exact SqL.of (s1 _ _ hlh)) (fun i ys H' hi p=>?_) ?_ ?_⟩
   ·rw [p.2,Z0,Z0,Zl];exact small _ (by omega)
   ·rintro i v ys H' hi ⟨rfl,rfl⟩ Nn hN;obtain ⟨x,ex,p,dx,l,vs,rfl,h1,h2,h3⟩:=zBl hh1 hi;refine pick ⟨_,rfl,p,B.ha,dx,_,_,rfl,h1,N.hcl,N.nHn,hF_n _ _,hN _ _ ⟨rfl,?_⟩⟩;rw [Z4,ex,Z2,Z2];rfl
   ·rintro ys H' ⟨rfl,rfl⟩ c2 hc2;rw [hl,Za];have s2:Same H (upd H1 c2 (.lst ((hs.map (·.1)).map V.str))):=s1.trans (Same.new hc2);have e2:(upd H1 c2 (.lst ((hs.map (·.1)).map V.str))) c2=some (.lst ((hs.map (·.1)).map V.str)):=zA1;generalize upd H1 c2 (.lst ((hs.map (·.1)).map V.str))=H2 at s2 e2 ⊢;have nms:∀ y∈hs.map (·.1),nameOk y:=fun y hy=>by
     obtain ⟨h,hm,rfl⟩:=List.mem_map.mp hy;exact (hok.ok h hm).1
    refine ⟨_,_,rfl,.lst trivial e2 (by rw [Z0,Z0];omega) (zBu nms),fun H3 s3=>⟨_,rfl,?_⟩⟩;rw [unl_eq nms];have s03:=s2.trans s3;by_cases hnd:(hs.map (·.1)).Nodup
    ·rw [decide_eq_true hnd];refine iteF ?_;dsimp only [Ends.hid,hide,List.set,start]
     refine ⟨_,rfl,lh,rfl,⟨_,SqL.of (s03 _ _ hlh)⟩,zDo (K:=K) (a:=lh) (xs:=hv) (fun i σ H'=>∃ x2:Option V,σ = [some (.ref q),some (.ref lh),x2]∧Same H3 H'∧(hs.take i).all (handS rs)=true)
      ⟨_,rfl,Same.refl _,rfl⟩ (fun i σ H' _ hz=>by obtain ⟨_,_,q,_⟩:=hz;exact SqL.of ((s03.trans q) _ _ hlh)) ?_ ?_⟩
     ·rintro i v σ H4 hi ⟨x2,rfl,s4,done⟩;have s04:=s03.trans s4;obtain ⟨h,eh,p,dx,l,vs,rfl,h1,h2,h3⟩:=zBl (zBh hhs fun _ _ r=>r.same s04) hi;obtain ⟨_,le100,rok⟩:=hok.ok h (Z3 eh);have vl:=Paired.length h3;dsimp only [gName,List.set];refine ⟨_,rfl,p,B.ha,dx,_,_,rfl,h1,N.hcl,N.nHr,hF_r _ _,l,rfl,⟨_,SqL.of h2⟩,zAe (xs:=vs) (fun i ys H'=>Same H4 H'∧ys=((h.2.take i).map (Rl.su rs)).map V.bl) ⟨Same.refl _,rfl⟩ (fun i ys H' p=>SqL.of (p.1 _ _ h2)) (fun i ys H' hi p=>?_) ?_ ?_⟩
      ·rw [p.2,Z0,Z0,Zl];exact small _ (by omega)
      ·rintro j v ys H' hj ⟨s',rfl⟩ Nn hN;obtain ⟨x,ex,p',pc,pt,l',rfl,hx⟩:=zBl h3 hj;refine pick ⟨_,rfl,_,rfl,q,p',rs,x.n,x.c,x.t,x.bs,pc,pt,l',rfl,hx.same s',rok x (Z3 ex),kd.same (s04.trans s'),rp,fun H5 s5=>hN _ _ ⟨s'.trans s5,?_⟩⟩;rw [Z4,ex,Z2,Z2];rfl
      ·rintro ys H5 ⟨s5,rfl⟩ c3 hc3;rw [vl,Za];have s6:Same H4 (upd H5 c3 (.lst ((h.2.map (Rl.su rs)).map V.bl))):=s5.trans (Same.new hc3);refine ⟨c3,_,rfl,SqL.of zA1,_,rfl,?_⟩;generalize upd H5 c3 (.lst ((h.2.map (Rl.su rs)).map V.bl))=H6 at s6 ⊢;rw [show (h.2.map (Rl.su rs)).all id=handS rs h by unfold handS;rw [Y7];rfl];cases eb:handS rs h with
       | true =>
        refine iteF ⟨_,rfl,s4.trans s6,?_⟩;rw [Z4,eh,List.all_append,done];show (true && (handS rs h && true))=true;rw [eb];rfl
       | false =>
        have bad:hs.all (handS rs)=false:=List.all_eq_false.mpr ⟨h,Z3 eh,by rw [eb];decide⟩;have s06:=s04.trans s6;exact iteT ⟨Zi (small1000 (by decide)),fun e he=>kn (fun z=>by rw [bad] at z;cases z.2) e _ (s06.free he) zA1 (s06.trans (Same.new he))⟩
     ·rintro σ H4 ⟨x2,rfl,s4,done⟩;rw [hl,Za] at done;exact ky hnd done _ (s03.trans s4)
    ·rw [decide_eq_false hnd];exact iteT ⟨Zi (small1000 (by decide)),fun e he=>kn (fun z=>hnd z.1) e _ (s03.free he) zA1 (s03.trans (Same.new he))⟩
end
end L2.W
namespace L2.W
open PySem My
theorem flds_at {G:Addr→Prop}{H:Hp}:∀ {xs:List V}{fs:List (Str×List Str)},HasAll G H xs (fs.map fieldD)→∃ es:List (Addr×Addr×(Str×List Str)),es.map (·.2.2)=fs∧xs=(es.map (·.1)).map V.ref∧∀ e∈es,H e.1=some (.tup [.str e.2.2.1,.ref e.2.1])∧H e.2.1=some (.lst (e.2.2.2.map V.str))
 | [],[],_=>⟨[],rfl,rfl,fun _ h=>nomatch h⟩
 | x :: xs,f :: fs,.cons h t=>by
  obtain ⟨es,e1,e2,e3⟩:=flds_at t;obtain ⟨b,lv,rfl,hb,hl⟩:=zC5 h;refine ⟨(b,lv,f) :: es,by rw [Zq,e1],by rw [e2];rfl,fun e he=>?_⟩;rcases List.mem_cons.mp he with rfl | he
  ·exact ⟨hb,hl⟩
  ·exact e3 e he
noncomputable def fkv (es:List (Addr×Addr×(Str×List Str))):List (Key×V):=es.map fun e=>(Sum.inr e.2.2.1,V.ref e.2.1)
theorem fkv_nd {es:List (Addr×Addr×(Str×List Str))} (nd:((es.map (·.2.2)).map (·.1)).Nodup):((fkv es).map (·.1)).Nodup:=by
 unfold fkv;rw [Y0] at nd ⊢;exact List.pairwise_map.mpr ((List.pairwise_map.mp nd).imp fun h e=>h (Sum.inr.inj e))
theorem fkv_get {es:List (Addr×Addr×(Str×List Str))} (nd:((es.map (·.2.2)).map (·.1)).Nodup) {f:Str}:(∀ i,placeOf (es.map (·.2.2)) f=some i→∃ e∈es,(es.map (·.2.2)).getD i (("",[]):Str×List Str)=e.2.2∧valV (fkv es) (Sum.inr f)=some (.ref e.2.1))∧(placeOf (es.map (·.2.2)) f=none→valV (fkv es) (Sum.inr f)=none):=by
 refine ⟨fun i hi=>?_,fun hn=>?_⟩
 ·obtain ⟨p1,_⟩:=zDd hi;rw [Y0,Z6] at p1;cases ee:es[i]? with
  | none=>rw [ee] at p1;cases p1
  | some e =>
   rw [ee] at p1;have me:=Z3 ee;refine ⟨e,me,by rw [List.getD_eq_getElem?_getD,Z6,ee];rfl,zEl (fkv_nd nd) ?_⟩;have:e.2.2.1=f:=Zk p1;rw [← this];exact List.mem_map.mpr ⟨e,me,rfl⟩
 ·unfold valV;rw [List.find?_eq_none.mpr fun kv hkv z=>?_]
  ·rfl
  ·obtain ⟨e,me,rfl⟩:=List.mem_map.mp hkv;have:e.2.2.1=f:=Sum.inr.inj (of_decide_eq_true z);exact zEe hn (by rw [← this,Y0];exact List.mem_map_of_mem (f:=fun e:Addr×Addr×(Str×List Str)=>e.2.2.1) me)
theorem hasVal_at {fs:List (Str×List Str)}{f:Str}{i:Nat} (h:placeOf fs f=some i) (v:Option Str):hasVal fs f v=(match v with | none=>false | some x=>decide (x∈(fs.getD i ("",[])).2)):=by
 unfold hasVal;rw [h];cases v <;> rfl
theorem hasVal_no {fs:List (Str×List Str)}{f:Str} (h:placeOf fs f=none) (v:Option Str):hasVal fs f v=false:=by
 unfold hasVal;rw [h]
noncomputable def hasL (fs:List (Str×List Str)) (f:Str):Option Str→Bool
 | none=>(placeOf fs f).isSome
 | some x=>hasVal fs f (some x)
noncomputable def spHas:Sp:=fun vs H Q _=>∃ (lf:Addr) (fs:List (Str×List Str)) (f:Str) (v:Option Str),vs=[.ref lf,.str f,ownV v]∧Has Any H (.ref lf) (.list (fs.map fieldD))∧(fs.map (·.1)).Nodup∧∀ H',Same H H'→Q (.bl (hasL fs f v)) H'
noncomputable def spTSu:Nat→Sp
 | 0=>fun _ _ _ _=>False
 | d + 1=>fun vs H Q _=>∃ (v:V) (l:Addr) (t:Tr) (rs:List Row) (r:Row),vs=[v,.ref l,.str r.name]∧Has Any H v (trD t)∧TrOk t∧trH t≤d∧Has Any H (.ref l) (.list (rs.map rowD))∧RowsP rs∧r∈rs∧∀ H',Same H H'→Q (.bl (sut (sutL rs r) t)) H'
theorem sutL_ow {rs:List Row}{r:Row}{f v:Str}:sutL rs r (.owner f v)=hasL (fieldsO rs r.owner) f (some v):=by
 show (match r.owner with | none=>false | some n=>hasVal (fieldsOf rs n) f (some v))=_;cases r.owner with
 | none=>rfl
 | some n=>rfl
section
variable {P:Program}{w:World}{K:PySem.W.Frag}{mg:Str→Option Value}{base:Heap}{CX:CXT}
theorem scHs:FnScope ["_law_fields_here", "_law_field", "_law_value", "_law_some"] ["_law_fields_here", "_law_field", "_law_value"] (defScope sHas):=⟨rfl,rfl,rfl,by decide +kernel,rfl,by decide +kernel,by decide +kernel⟩
theorem ok_has {f:Addr}{fd:FuncData} (T:Tops K mg) (F:Fun K "_law_has" "_law_has" sHas f fd):FnOk P w K mg base CX 1 f fd ["_law_fields_here", "_law_field", "_law_value"] spHas:=by
 refine Fun.okC F scHs (fun vs H Q E h=>?_) (fun cdv Ar outer sh H vs Q E hr h=>?_)
 ·obtain ⟨lf,fs,f,v,rfl,_⟩:=h;rfl
 ·obtain ⟨lf,fs,f,v,rfl,hf,fnd,k⟩:=h;have nd:=scHs.nd;have hu:=hu_of hr
  refine ⟨_,zA3 (zAk (i:=3) nd rfl (Or.inl rfl) (zEx hu (zAn (zE9 (K:=K) rfl) rfl T.dict PyProof.Rows.boot_dict (zA0 (pv 0) zA2)) (pv 1) ⟨rfl,rfl,rfl,rfl⟩))
     (zA5 (zAc (zBr (zB0 zDf (pv 3) zBo (nomark _)) (zBx (pe_or (zB0 op_isN (pv 2) zBo (nomark _)) (zBx (zB0 zCk (pv 2) (pv 3) rfl))))))),?_⟩
  obtain ⟨l',xs,e',_,hl,_,hx⟩:=hf.list_inv;cases e';obtain ⟨es,e1,e2,e3⟩:=flds_at hx;have nd2:((es.map (·.2.2)).map (·.1)).Nodup:=by rw [e1];exact fnd
  refine ⟨_,rfl,lf,es.map (·.1),fkv es,rfl,SqL.of (by rw [hl,e2]),rfl,fkv_nd nd2,by unfold fkv;rw [Z0,Z0],?_,fun pd fpd=>⟨pd,rfl,.inl ⟨_,.inl zA1⟩,_,rfl,_,.inl ⟨_,Sum.inr f,.inl zA1,rfl,rfl⟩,?_⟩⟩
  ·intro i t k v' ht hk;unfold fkv at hk;rw [Z6] at ht hk;cases ee:es[i]? with
   | none=>rw [ee] at ht;cases ht
   | some e =>
    rw [ee] at ht hk;cases ht;cases hk;exact (e3 e (Z3 ee)).1
  ·have s1:Same H (upd H pd (.dK (fkv es))):=Same.new fpd;generalize upd H pd (.dK (fkv es))=H1 at s1 ⊢;obtain ⟨g1,g2⟩:=fkv_get nd2 (f:=f);rw [e1] at g1 g2;have k1:=k _ s1;cases ep:placeOf fs f with
   | none =>
    rw [g2 ep];refine ⟨_,rfl,rfl,_,rfl,iteF ?_⟩;have:hasL fs f v=false:=by
     cases v with
     | none=>show (placeOf fs f).isSome=false;rw [ep];rfl
     | some x=>exact hasVal_no ep _
    rw [this] at k1;exact k1
   | some i =>
    obtain ⟨e,me,eg,ev⟩:=g1 i ep;rw [ev];refine ⟨_,rfl,rfl,_,rfl,iteT ⟨_,rfl,rfl,_,rfl,?_⟩⟩;rw [own_non];cases v with
    | none =>
     have:hasL fs f none=true:=by show (placeOf fs f).isSome=true;rw [ep];rfl
     rw [this] at k1;exact iteT k1
    | some x =>
     refine iteF ⟨_,rfl,_,rfl,e.2.1,_,rfl,.inl (SqL.of (s1 _ _ (e3 e me).2)),rfl,flats _,?_⟩;have hv1:=hasVal_at ep (some x);rw [eg] at hv1;show Q (.bl (inV (.str x) (e.2.2.2.map V.str))) H1;rw [zCz];have k2:Q (.bl (hasVal fs f (some x))) H1:=k1;rw [hv1] at k2;exact k2
theorem scTsu:FnScope ["_law_tree_here", "_law_spec", "_law_kind", "_law_fields_here"] ["_law_tree_here", "_law_spec", "_law_kind"] (defScope sTreeSuits):=⟨rfl,rfl,rfl,by decide +kernel,rfl,by decide +kernel,by decide +kernel⟩
theorem ok_tsu {f fh ff fo:Addr}{fd fdh fdf fdo:FuncData} (hC:Calm CX) (T:Tops K mg) (DT:Def K mg "_law_tree_suits" sTreeSuits ["_law_tree_here", "_law_spec", "_law_kind"] f fd) (DH:Def K mg "_law_has" sHas ["_law_fields_here", "_law_field", "_law_value"] fh fdh) (GH:FnOk P w K mg base CX 1 fh fdh ["_law_fields_here", "_law_field", "_law_value"] spHas)
  (DF:Def K mg "_law_fields" sLFields ["_law_spec", "_law_kind"] ff fdf) (GF:FnOk P w K mg base CX 1 ff fdf ["_law_spec", "_law_kind"] spLFl) (DO:Def K mg "_law_owner" sOwner ["_law_spec", "_law_kind"] fo fdo) (GO:FnOk P w K mg base CX 1 fo fdo ["_law_spec", "_law_kind"] spLOw):∀ d,FnOk P w K mg base CX (d + 3) f fd ["_law_tree_here", "_law_spec", "_law_kind"] (spTSu d)
 | 0=>FnOk.never fun _ _ _ _ z=>z
 | d + 1=>by
  have IH:=ok_tsu hC T DT DH GH DF GF DO GO d;refine Fun.okC DT.fn scTsu (fun vs H Q E h=>?_) (fun cdv Ar outer sh H vs Q E hr h=>?_)
  ·obtain ⟨v,l,t,rs,r,rfl,_⟩:=h;rfl
  ·obtain ⟨v,l,t,rs,r,rfl,ht,ok,hh,hd,rp,mem,q⟩:=h;have nd:=scTsu.nd;have hr1:=hr.mono (show 1≤d + 3 by omega)
   refine ⟨_,zA3 (zAk (i:=3) nd rfl (Or.inl rfl) (zA6 GF hr1 rfl DF.at_ DF.fn.kp DF.bind .nil (passC hC) (zA0 (pv 1) (zA0 (pv 2) zA2))))
      (zA3 (zAq (zAg zBc (zAh zAi (pv 0) zA4 (fun _ _=>rfl)) zAf (nomark _))
      (zA5 (zAc (zA6 GH hr1 rfl DH.at_ DH.fn.kp DH.bind .nil (passC hC) (zA0 (pv 3) (zA0 (zAh zAi (pv 0) zA4 (fun _ _=>rfl)) (zA0 (zAh zAi (pv 0) zA4 (fun _ _=>rfl)) zA2)))))) zAb)
      (zA3 (zAq (zAg zBc (zAh zAi (pv 0) zA4 (fun _ _=>rfl)) zAf (nomark _))
      (zA5 (zAc (zA6 GH hr1 rfl DH.at_ DH.fn.kp DH.bind .nil (passC hC) (zA0 (pv 3) (zA0 (zAh zAi (pv 0) zA4 (fun _ _=>rfl)) (zA0 zBo zA2)))))) zAb)
      (zA3 (zAq (zAg zBc (zAh zAi (pv 0) zA4 (fun _ _=>rfl)) zAf (nomark _))
      (zA5 (zAc (zA6 GH hr1 rfl DH.at_ DH.fn.kp DH.bind .nil (passC hC) (zA0 (zA6 GF hr1 rfl DF.at_ DF.fn.kp DF.bind .nil (passC hC) (zA0 (pv 1) (zA0 (zA6 GO hr1 rfl DO.at_ DO.fn.kp DO.bind .nil (passC hC) (zA0 (pv 1) (zA0 (pv 2) zA2))) zA2))) (zA0 (zAh zAi (pv 0) zA4 (fun _ _=>rfl)) (zA0 (zAh zAi (pv 0) zA4 (fun _ _=>rfl)) zA2)))))) zAb)
      (zA3 (zAq (zAg zBc (zAh zAi (pv 0) zA4 (fun _ _=>rfl)) zAf (nomark _))
      (zA5 (zAc (zA6 IH hr rfl DT.at_ DT.fn.kp DT.bind .nil (passC hC) (zA0 (zAh zAi (pv 0) zA4 (fun _ _=>rfl)) (zA0 (pv 1) (zA0 (pv 2) zA2)))))) zAb)
      (zA3 (zAq (zAg zCk (zAh zAi (pv 0) zA4 (fun _ _=>rfl)) (zB8 (zA0 zAf (zA0 zAf zA2))) rfl)
      (zA5 (zAc zCd)) zAb)
      (zA5 (zAc (zAa (zB3 rfl) rfl T.all PyProof.Rows.boot_all (zA0 (zAt (T:=["_law_one"]) rfl ScOk.auto (zAj (zAh zAi (pv 0) zA4 (fun _ _=>rfl))) (fun _ _ _ _=>zAd (i:=4) (by decide +kernel:(["_law_tree_here", "_law_spec", "_law_kind", "_law_fields_here", "_law_one"]:List Str).Nodup) rfl (Or.inl rfl)) (fun _ _ _ _=>zAy) (fun _ _ _ _=>(zA6 IH hr rfl DT.at_ DT.fn.kp DT.bind .nil (passC hC) (zA0 (pv 4) (zA0 (pv 1) (zA0 (pv 2) zA2)))))) zA2))))))))),?_⟩
   have small:∀ n:Nat,n≤1000→n≤sizeLine:=fun n h=>Zi (small1000 h);obtain ⟨a0,xs0,rfl,ha0,_⟩:=tr_inv ht;refine ⟨_,rfl,_,rfl,Any,l,rs,some r.name,rfl,hd,rp,fun lf H1 s1 hf=>?_⟩;obtain ⟨a',xs,ea,ha,tv⟩:=tr_inv (ht.mono s1);cases ea;clear ha0;have hf:=hf.any;rw [show fieldsO rs (some r.name)=r.fields from zBm rp mem] at hf;have fnd:=(rp.ok r mem).2.nd;have q:=fun H' (s2:Same H1 H')=>q H' (s1.trans s2);rcases t with (_ | _ | ⟨f,v⟩ | f | ⟨f,v⟩) | t | ⟨b,ts⟩
   ·cases tv;exact tagF rfl ha (by decide +kernel) (tagF rfl ha (by decide +kernel) (tagF rfl ha (by decide +kernel) (tagF rfl ha (by decide +kernel) ⟨_,rfl,a0,_,0,_,rfl,rfl,SqT.of ha,rfl,small 2 (by decide),fun tp ftp=>⟨tp,_,rfl,.inr (SqT.of zA1),rfl,rfl,_,rfl,iteT (q _ (Same.new ftp))⟩⟩)))
   ·cases tv;exact tagF rfl ha (by decide +kernel) (tagF rfl ha (by decide +kernel) (tagF rfl ha (by decide +kernel) (tagF rfl ha (by decide +kernel) ⟨_,rfl,a0,_,0,_,rfl,rfl,SqT.of ha,rfl,small 2 (by decide),fun tp ftp=>⟨tp,_,rfl,.inr (SqT.of zA1),rfl,rfl,_,rfl,iteT (q _ (Same.new ftp))⟩⟩)))
   ·cases tv;exact tagT rfl ha ⟨_,rfl,_,rfl,a0,_,1,_,rfl,rfl,SqT.of ha,rfl,_,rfl,a0,_,2,_,rfl,rfl,SqT.of ha,rfl,lf,r.fields,f,some v,rfl,hf,fnd,q⟩
   ·cases tv;exact tagF rfl ha (by decide +kernel) (tagT rfl ha ⟨_,rfl,_,rfl,a0,_,1,_,rfl,rfl,SqT.of ha,rfl,lf,r.fields,f,none,rfl,hf,fnd,q⟩)
   ·cases tv;refine tagF rfl ha (by decide +kernel) (tagF rfl ha (by decide +kernel) (tagT rfl ha ⟨_,rfl,_,rfl,_,rfl,l,rs,r,rfl,hd.mono s1,rp,mem,fun H2 s2=>⟨Any,l,rs,r.owner,rfl,(hd.mono s1).mono s2,rp,fun lo H3 s3 hfo=>?_⟩⟩));have s23:=s2.trans s3;refine ⟨_,rfl,a0,_,1,_,rfl,rfl,SqT.of (s23 _ _ ha),rfl,_,rfl,a0,_,2,_,rfl,rfl,SqT.of (s23 _ _ ha),rfl,lo,_,f,some v,rfl,hfo.any,(zEi rp mem).nd,fun H4 s4=>?_⟩;have z:=q _ (s23.trans s4);rw [show sut (sutL rs r) (.leaf (.owner f v))=_ from sutL_ow] at z;exact z
   ·obtain ⟨x,rfl,hx⟩:=tv;rw [trH] at hh;rw [TrOk] at ok;obtain ⟨d,rfl⟩:∃ d',d=d' + 1:=⟨d - 1,by omega⟩;refine tagF rfl ha (by decide +kernel) (tagF rfl ha (by decide +kernel) (tagF rfl ha (by decide +kernel) (tagT rfl ha ⟨_,rfl,a0,_,1,_,rfl,rfl,SqT.of ha,rfl,_,rfl,_,rfl,x,l,t,rs,r,rfl,hx,ok,by omega,hd.mono s1,rp,mem,fun H2 s2=>?_⟩)));have z:=q _ s2;rw [sut] at z;exact z
   ·obtain ⟨l1,ys,rfl,hl,hy⟩:=tv;rw [trH] at hh;obtain ⟨t2,t50,tok⟩:2≤ts.length∧ts.length≤50∧TrsOk ts:=by rwa [TrOk] at ok
    obtain ⟨d,rfl⟩:∃ d',d=d' + 1:=⟨d - 1,by omega⟩;have sg:∀ k:Str,("&" : Str)≠k→("|" : Str)≠k→sgn b≠k:=fun k h1 h2=>by cases b <;> assumption
    refine tagF rfl ha (sg _ (by decide +kernel) (by decide +kernel)) (tagF rfl ha (sg _ (by decide +kernel) (by decide +kernel)) (tagF rfl ha (sg _ (by decide +kernel) (by decide +kernel)) (tagF rfl ha (sg _ (by decide +kernel) (by decide +kernel)) ⟨_,rfl,a0,_,0,_,rfl,rfl,SqT.of ha,rfl,small 2 (by decide),fun tp ftp=>⟨tp,_,rfl,.inr (SqT.of zA1),rfl,rfl,_,rfl,?_⟩⟩)));have sp:Same H1 (upd H1 tp (.tup [.str "always",.str "wanted"])):=Same.new ftp;generalize upd H1 tp (.tup [.str "always",.str "wanted"])=H5 at sp ⊢;show if inV (.str (sgn b)) [.str "always",.str "wanted"]=true then _ else _
    rw [show inV (.str (sgn b)) [.str "always",.str "wanted"]=false by cases b <;> decide +kernel];have ha:=sp _ _ ha;have hl:=sp _ _ hl;have yl:ys.length=ts.length:=by rw [hy.length,Z0]
    refine iteF ⟨_,rfl,a0,_,1,_,rfl,rfl,SqT.of ha,rfl,l1,rfl,⟨_,SqL.of hl⟩,zAe (xs:=ys) (fun i zs H'=>Same H5 H'∧zs=((ts.take i).map (sut (sutL rs r))).map V.bl) ⟨Same.refl _,rfl⟩ (fun i zs H' z=>SqL.of (z.1 _ _ hl)) (fun i zs H' hi z=>?_) ?_ ?_⟩
    ·rw [z.2,Z0,Z0];have:=Zu i ts;exact small _ (by omega)
    ·rintro i x zs H' hi ⟨s2,rfl⟩ Nn hN;obtain ⟨dd,hd',hv⟩:=hy.get hi;rw [Z6] at hd';cases et:ts[i]? with
     | none=>rw [et] at hd';cases hd'
     | some t =>
      rw [et] at hd';cases hd';have mt:=Z3 et;have:=zDq mt;have s12:=sp.trans s2;refine pick ⟨_,rfl,_,rfl,_,rfl,x,l,t,rs,r,rfl,hv.mono s12,zC2.mp tok t mt,by omega,hd.mono (s1.trans s12),rp,mem,fun H2 s3=>hN _ _ ⟨s2.trans s3,?_⟩⟩;rw [Z4,et,Z2,Z2];rfl
    ·rintro zs H' ⟨s2,rfl⟩ l9 f9;rw [yl,Za];refine ⟨l9,ts.map (sut (sutL rs r)),rfl,SqL.of zA1,?_⟩;have z:=q _ (sp.trans (s2.trans (Same.new (o:=.lst ((ts.map (sut (sutL rs r))).map V.bl)) f9)));rw [sut,zEn] at z;exact z
end
end L2.W
namespace L2.W
open PySem My
noncomputable def spLSu:Sp:=fun vs H Q _=>∃ (v:V) (l:Addr) (n:Str) (c:Chg) (t:Tr) (bs:List Str) (rs:List Row),vs=[v,.ref l]∧Has Any H v (ruleD n c t bs)∧RlOk n c t bs∧Has Any H (.ref l) (.list (rs.map rowD))∧RowsP rs∧∀ H',Same H H'→Q (.bl (rsB rs n c t bs)) H'
theorem strs_nil (ks:List Str):PyData.eqv (.list (ks.map .str)) (.list [])=ks.isEmpty:=by cases ks <;> rfl
theorem depth_strsX (ks:List Str):PyData.depth (.list (ks.map PyData.str))≤64:=by
 have:=zDi ks;show PyData.depthAll (ks.map PyData.str) + 1≤64;omega
theorem filt_emp {ks:List Str}{p:Str→Bool}:(ks.filter fun y=>!p y).isEmpty=ks.all p:=by
 induction ks with
 | nil=>rfl
 | cons k r ih =>
  rw [Zy];cases e:p k with
  | true=>rw [List.filter_cons_of_neg (by simp [e]),ih];rfl
  | false=>rw [List.filter_cons_of_pos (by simp [e])];rfl
section
variable {P:Program}{w:World}{K:PySem.W.Frag}{mg:Str→Option Value}{base:Heap}{CX:CXT}
theorem scLsu:FnScope ["_law_rule_here", "_law_spec", "_law_known", "_law_fields_here", "_law_named"] ["_law_rule_here", "_law_spec"] (defScope sSuits):=⟨rfl,rfl,rfl,by decide +kernel,rfl,by decide +kernel,by decide +kernel⟩
set_option maxHeartbeats 1000000 in
theorem ok_lsu {f fh ff ft:Addr}{fd fdh fdf fdt:FuncData} (hC:Calm CX) (T:Tops K mg) (F:Fun K "_law_suits" "_law_suits" sSuits f fd) (DH:Def K mg "_law_has" sHas ["_law_fields_here", "_law_field", "_law_value"] fh fdh) (GH:FnOk P w K mg base CX 1 fh fdh ["_law_fields_here", "_law_field", "_law_value"] spHas)
  (DF:Def K mg "_law_fields" sLFields ["_law_spec", "_law_kind"] ff fdf) (GF:FnOk P w K mg base CX 1 ff fdf ["_law_spec", "_law_kind"] spLFl) (DT:Def K mg "_law_tree_suits" sTreeSuits ["_law_tree_here", "_law_spec", "_law_kind"] ft fdt) (GT:FnOk P w K mg base CX 6 ft fdt ["_law_tree_here", "_law_spec", "_law_kind"] (spTSu 3)):FnOk P w K mg base CX 7 f fd ["_law_rule_here", "_law_spec"] spLSu:=by
 refine Fun.okC F scLsu (fun vs H Q E h=>?_) (fun cdv Ar outer sh H vs Q E hr h=>?_)
 ·obtain ⟨v,l,n,c,t,bs,rs,rfl,_⟩:=h;rfl
 ·obtain ⟨v,l,n,c,t,bs,rs,rfl,hv,ok,hd,rp,k⟩:=h;have nd:=scLsu.nd;have hr1:=hr.mono (show 1≤6 by decide)
  refine ⟨_,zA3 (zAk (i:=2) nd rfl (Or.inr rfl) (zAt (T:=["_law_one"]) rfl ScOk.auto (zAj (pv 1)) (fun _ _ _ _=>zAd (i:=5) (by decide +kernel:(["_law_rule_here", "_law_spec", "_law_known", "_law_fields_here", "_law_named", "_law_one"]:List Str).Nodup) rfl (Or.inl rfl)) (fun _ _ _ _=>zAy) (fun _ _ _ _=>(zAh (r:=rIxT K) zAi (pv 5) zA4 (fun _ _=>rfl)))))
     (zA3 (zAq (PW.pt (zC0 (zAg zCi (zAh zAi (pv 0) zA4 (fun _ _=>rfl)) (pv 2) rfl) (zBd (zAg (op_neD hr.units) (zAt (T:=["_law_name"]) rfl ScOk.auto (zAj (zAh zAi (pv 0) zA4 (fun _ _=>rfl))) (fun _ _ _ _=>zAd (i:=5) (by decide +kernel:(["_law_rule_here", "_law_spec", "_law_known", "_law_fields_here", "_law_named", "_law_name"]:List Str).Nodup) rfl (Or.inl rfl)) (fun _ _ _ _=>zD4 (zAg (r:=rIn K true) zCi (pv 5) (pv 2) rfl)) (fun _ _ _ _=>(pv 5))) (zAm zA2) (nomark _)))))
     (zA5 (zAc zCd)) zAb)
     (zA3 (zAk (i:=3) nd rfl (Or.inr rfl) (zA6 GF hr1 rfl DF.at_ DF.fn.kp DF.bind .nil (passC hC) (zA0 (pv 1) (zA0 (zAh zAi (pv 0) zA4 (fun _ _=>rfl)) zA2))))
     (zA3 (zAk (i:=4) nd rfl (Or.inl rfl) (zD5 (zAg op_gt (zAa zAp rfl T.len PySem.boot_len (zA0 (zAh zAi (pv 0) zA4 (fun _ _=>rfl)) zA2)) zA4 (nomark _)) (zAh zAr (zAm (zA0 (zAh zAi (zAh zAi (pv 0) zA4 (fun _ _=>rfl)) zA4 (fun _ _=>rfl)) (zA0 (zAm zA2) zA2))) (zAn zC8 rfl T.int PyProof.Rows.boot_int (zA0 (zB0 op_ne (zAh zAi (zAh zAi (pv 0) zA4 (fun _ _=>rfl)) zA4 (fun _ _=>rfl)) zAf (nomark _)) zA2)) (fun _ _=>rfl)) (zAm zA2)))
     (zA3 (zAq (zAu (zAl (zAa (zB3 rfl) rfl T.all PyProof.Rows.boot_all (zA0 (zAt (T:=["_law_field"]) rfl ScOk.auto (zAj (pv 4)) (fun _ _ _ _=>zAd (i:=5) (by decide +kernel:(["_law_rule_here", "_law_spec", "_law_known", "_law_fields_here", "_law_named", "_law_field"]:List Str).Nodup) rfl (Or.inl rfl)) (fun _ _ _ _=>zAy) (fun _ _ _ _=>(zA6 GH hr1 rfl DH.at_ DH.fn.kp DH.bind .nil (passC hC) (zA0 (pv 3) (zA0 (pv 5) (zA0 zBo zA2)))))) zA2))))
     (zA5 (zAc zCd)) zAb)
     (zA3 (zAq (PW.pt (zC3 (zAg zBc (zAh zAi (zAh zAi (pv 0) zA4 (fun _ _=>rfl)) zA4 (fun _ _=>rfl)) zAf (nomark _)) (zBj (zAu (zAl (zA6 GH hr1 rfl DH.at_ DH.fn.kp DH.bind .nil (passC hC) (zA0 (pv 3) (zA0 (zAh zAi (zAh zAi (pv 0) zA4 (fun _ _=>rfl)) zA4 (fun _ _=>rfl)) (zA0 (zAh zAi (zAh zAi (pv 0) zA4 (fun _ _=>rfl)) zA4 (fun _ _=>rfl)) zA2)))))))))
     (zA5 (zAc zCd)) zAb)
     (zA5 (zAc (zA6 GT hr rfl DT.at_ DT.fn.kp DT.bind .nil (passC hC) (zA0 (zAh zAi (pv 0) zA4 (fun _ _=>rfl)) (zA0 (pv 1) (zA0 (zAh zAi (pv 0) zA4 (fun _ _=>rfl)) zA2))))))))))),?_⟩
  have small:∀ n:Nat,n≤1000→n≤sizeLine:=fun n h=>Zi (small1000 h);obtain ⟨ra,vc,vt,lb,rfl,hra,hc,ht,hlb⟩:=zEq hv;obtain ⟨l',xs,e',_,hl,_,hx⟩:=id hd.list_inv;cases e';have xl:xs.length=rs.length:=by rw [hx.length,Z0]
  have r5:=rp.le.2;have b10:=ok.b.2.2;refine ⟨_,rfl,l,rfl,⟨_,SqL.of hl⟩,zAe (xs:=xs) (fun i ys H'=>H=H'∧ys=((rs.take i).map (·.name)).map V.str) ⟨rfl,rfl⟩ (fun i ys H' p=>by rw [← p.1];exact SqL.of hl) (fun i ys H' hi p=>?_) ?_ ?_⟩
  ·rw [p.2,Z0,Z0,Zl];exact small _ (by omega)
  ·rintro i x ys H' hi ⟨rfl,rfl⟩ Nn hN;obtain ⟨d,hd',hv'⟩:=hx.get hi;rw [Z6] at hd';cases er:rs[i]? with
   | none=>rw [er] at hd';cases hd'
   | some r =>
    rw [er] at hd';cases hd';obtain ⟨t1,l1,rfl,ht1,_⟩:=zCw hv';refine pick ⟨_,rfl,t1,_,0,_,rfl,rfl,SqT.of ht1,rfl,hN _ _ ⟨rfl,?_⟩⟩;rw [Z4,er,Z2,Z2];rfl
  rintro ys H' ⟨rfl,rfl⟩ lk flk;rw [xl,Za];have s1:Same H (upd H lk (.lst ((rs.map (·.name)).map V.str))):=Same.new flk;have e1:(upd H lk (.lst ((rs.map (·.name)).map V.str))) lk=some (.lst ((rs.map (·.name)).map V.str)):=zA1;generalize upd H lk (.lst ((rs.map (·.name)).map V.str))=H1 at s1 e1 ⊢;have no_:∀ {Hx:Hp},Same H Hx→rsB rs n c t bs=false→Q (.bl false) Hx:=fun sx e=>by have:=k _ sx;rwa [e] at this
  refine ⟨_,rfl,ra,_,0,_,rfl,rfl,SqT.of (s1 _ _ hra),rfl,_,rfl,lk,_,rfl,.inl (SqL.of e1),rfl,flats _,_,rfl,?_⟩;show if (!inV (.str n) ((rs.map (·.name)).map V.str))=true then _ else _
  rw [zCz];cases c1:decide (n∈rs.map (·.name)) with
  | false=>exact iteT (iteT (no_ s1 (by unfold rsB;rw [Zy,c1];rfl)))
  | true =>
   refine iteF ⟨_,rfl,ra,_,3,_,rfl,rfl,SqT.of (s1 _ _ hra),rfl,lb,rfl,⟨_,SqL.of (s1 _ _ hlb)⟩,zAe (xs:=bs.map V.str) (fun i ys H'=>H1=H'∧ys=((bs.take i).filter fun y=>!decide (y∈rs.map (·.name))).map V.str) ⟨rfl,rfl⟩ (fun i ys H' p=>by rw [← p.1];exact SqL.of (s1 _ _ hlb)) (fun i ys H' hi p=>?_) ?_ ?_⟩
   ·rw [p.2,Z0];have h1:=Y5 (fun y=>!decide (y∈rs.map (·.name))) (bs.take i);have h2:=Zu i bs;exact small _ (by omega)
   ·rintro i x ys H' hi ⟨rfl,rfl⟩ Nn hN;rw [Z6] at hi;cases eb:bs[i]? with
    | none=>rw [eb] at hi;cases hi
    | some y =>
     rw [eb] at hi;cases hi;refine ⟨_,rfl,_,rfl,lk,_,rfl,.inl (SqL.of e1),rfl,flats _,_,rfl,?_⟩;show if (!inV (.str y) ((rs.map (·.name)).map V.str))=true then _ else _
     rw [zCz];cases cy:decide (y∈rs.map (·.name)) with
     | true =>
      refine iteF (hN _ _ ⟨rfl,?_⟩);rw [Z4,eb,Y2];show _=(_++[y].filter _).map _;rw [List.filter_cons_of_neg (by rw [cy];decide),List.filter_nil,List.append_nil]
     | false =>
      refine iteT ⟨_,rfl,hN _ _ ⟨rfl,?_⟩⟩;rw [Z4,eb,Y2];show _=(_++[y].filter _).map _;rw [List.filter_cons_of_pos (by rw [cy];decide),List.filter_nil,Z2];rfl
   rintro ys H' ⟨rfl,rfl⟩ l2 f2;rw [Z0,Za];have s2:Same H1 (upd H1 l2 (.lst ((bs.filter fun y=>!decide (y∈rs.map (·.name))).map V.str))):=Same.new f2;have e2:(upd H1 l2 (.lst ((bs.filter fun y=>!decide (y∈rs.map (·.name))).map V.str))) l2=some (.lst ((bs.filter fun y=>!decide (y∈rs.map (·.name))).map V.str)):=zA1;generalize upd H1 l2 (.lst ((bs.filter fun y=>!decide (y∈rs.map (·.name))).map V.str))=H2 at s2 e2 ⊢;refine ⟨Zm _,fun l3 f3=>?_⟩;have s3:Same H2 (upd H2 l3 (.lst [])):=Same.new f3;have e3:(upd H2 l3 (.lst [])) l3=some (.lst []):=zA1;generalize upd H2 l3 (.lst [])=H3 at s3 e3 ⊢;have s13:=s1.trans (s2.trans s3);have fl10:(bs.filter fun y=>!decide (y∈rs.map (·.name))).length≤1000:=by
    have:=Y5 (fun y=>!decide (y∈rs.map (·.name))) bs;omega
   refine ⟨.list ((bs.filter fun y=>!decide (y∈rs.map (·.name))).map .str),.list [],.lst trivial (s3 _ _ e2) (by rw [Z0];exact fl10) (zBu fun x hx=>ok.b.1 x (List.mem_filter.mp hx).1),.lst trivial e3 (Zm _) .nil,depth_strsX _,by decide,_,rfl,?_⟩;rw [strs_nil,filt_emp];cases c2:bs.all (fun y=>decide (y∈rs.map (·.name))) with
   | false=>exact iteT (no_ s13 (by unfold rsB;rw [Zy,c1,c2];rfl))
   | true =>
    have hn:n∈rs.map (·.name):=of_decide_eq_true c1;obtain ⟨r,mr,rfl,ef⟩:=find_row rp hn;have k2:∀ H',Same H H'→Q (.bl (sucC r c && sut (sutL rs r) t)) H':=fun H' s'=>by
     have z:=k H' s';unfold rsB at z;rw [Zy,c1,c2,ef] at z;exact z
    clear no_;refine iteF ⟨_,rfl,_,rfl,ra,_,0,_,rfl,rfl,SqT.of (s13 _ _ hra),rfl,Any,l,rs,some r.name,rfl,hd.mono s13,rp,fun lf H4 s4 hf=>?_⟩;have hf:=hf.any;rw [show fieldsO rs (some r.name)=r.fields from zBm rp mr] at hf;have fnd:=(rp.ok r mr).2.nd;have s14:=s13.trans s4;have hra4:=s14 _ _ hra;have hc4:=hc.any.mono s14;cases c with
    | make ns =>
     obtain ⟨ca,zs,rfl,_,hca,_,hz⟩:=hc4.tup_inv;obtain ⟨ws,rfl,hw⟩:=strC hz;cases hw with
     | cons h1 h2 =>
      cases h2;obtain ⟨ln,us,rfl,_,hln,_,hus⟩:=h1.list_inv;cases zDn hus;obtain ⟨_,_,n10⟩:(∀ x∈ns,nameOk x)∧ns.Nodup∧ns.length≤10:=ok.cg;refine ⟨_,rfl,ra,_,1,_,rfl,rfl,SqT.of hra4,rfl,ca,_,rfl,.inr (SqT.of hca),_,_,rfl,rfl,_,rfl,iteT ?_⟩;refine ⟨_,rfl,ra,_,1,_,rfl,rfl,SqT.of hra4,rfl,ca,_,1,_,rfl,rfl,SqT.of hca,rfl,Zm _,fun l5 f5=>⟨small 2 (by decide),fun l6 f6=>?_⟩⟩;have s6:Same H4 (upd (upd H4 l5 (.lst [])) l6 (.lst [.ref ln,.ref l5])):=(Same.new f5).trans (Same.new f6);have e6:(upd (upd H4 l5 (.lst [])) l6 (.lst [.ref ln,.ref l5])) l6=some (.lst [.ref ln,.ref l5]):=zA1;generalize upd (upd H4 l5 (.lst [])) l6 (.lst [.ref ln,.ref l5])=H6 at s6 e6 ⊢;have s16:=s14.trans s6;refine ⟨_,rfl,ra,_,1,_,rfl,rfl,SqT.of (s6 _ _ hra4),rfl,ca,_,0,_,rfl,rfl,SqT.of (s6 _ _ hca),rfl,rfl,.inr ⟨_,rfl,l6,_,_,.ref ln,rfl,rfl,SqL.of e6,(by rw [show decide (V.str "make" = V.str "make")=true from decide_eq_true rfl];rfl),?_⟩⟩;have hln6:=s6 _ _ hln;refine ⟨_,rfl,ln,rfl,⟨_,SqL.of hln6⟩,zAe (xs:=ns.map V.str) (fun i ys H'=>Same H6 H'∧ys=((ns.take i).map fun f=>(placeOf r.fields f).isSome).map V.bl) ⟨Same.refl _,rfl⟩ (fun i ys H' z=>SqL.of (z.1 _ _ hln6)) (fun i ys H' hi z=>?_) ?_ ?_⟩
      ·rw [z.2,Z0,Z0,Zl];exact small _ (by omega)
      ·rintro i x ys H' hi ⟨s7,rfl⟩ Nn hN;rw [Z6] at hi;cases en:ns[i]? with
       | none=>rw [en] at hi;cases hi
       | some f =>
        rw [en] at hi;cases hi;refine pick ⟨_,rfl,_,rfl,lf,r.fields,f,none,rfl,hf.mono (s6.trans s7),fnd,fun H8 s8=>hN _ _ ⟨s7.trans s8,?_⟩⟩;rw [Z4,en,Z2,Z2];rfl
      ·rintro ys H' ⟨s7,rfl⟩ la fla;rw [Z0,Za];have s8:Same H6 (upd H' la (.lst ((ns.map fun f=>(placeOf r.fields f).isSome).map V.bl))):=s7.trans (Same.new fla);refine ⟨la,ns.map fun f=>(placeOf r.fields f).isSome,rfl,SqL.of zA1,_,rfl,?_⟩;generalize upd H' la (.lst ((ns.map fun f=>(placeOf r.fields f).isSome).map V.bl))=H8 at s8 ⊢;have s18:=s16.trans s8;have s48:=s6.trans s8;rw [show (ns.map fun f=>(placeOf r.fields f).isSome).all id=sucC r (.make ns) by rw [Y7];rfl];cases cs:sucC r (.make ns) with
       | false =>
        rw [cs] at k2;exact iteT (k2 _ s18)
       | true =>
        rw [cs] at k2;refine iteF ⟨_,rfl,ra,_,1,_,rfl,rfl,SqT.of (s48 _ _ hra4),rfl,ca,_,0,_,rfl,rfl,SqT.of (s48 _ _ hca),rfl,rfl,_,rfl,sF (by decide +kernel) (iteF ?_)⟩;exact ⟨_,rfl,ra,_,2,_,rfl,rfl,SqT.of (s48 _ _ hra4),rfl,_,rfl,_,rfl,ra,_,0,_,rfl,rfl,SqT.of (s48 _ _ hra4),rfl,vt,l,t,rs,r,rfl,ht.any.mono s18,ok.tr,ok.h,hd.mono s18,rp,mr,fun H9 s9=>k2 _ (s18.trans s9)⟩
    | set f v =>
     obtain ⟨ca,zs,rfl,_,hca,_,hz⟩:=hc4.tup_inv;obtain ⟨ws,rfl,hw⟩:=strC hz;obtain ⟨us,rfl,hu2⟩:=strC hw;cases hu2 with
     | cons h1 h2 =>
      cases h2;cases at_inv h1;refine ⟨_,rfl,ra,_,1,_,rfl,rfl,SqT.of hra4,rfl,ca,_,rfl,.inr (SqT.of hca),_,_,rfl,rfl,_,rfl,iteT ?_⟩;refine ⟨_,rfl,ra,_,1,_,rfl,rfl,SqT.of hra4,rfl,ca,_,1,_,rfl,rfl,SqT.of hca,rfl,Zm _,fun l5 f5=>⟨small 2 (by decide),fun l6 f6=>?_⟩⟩;have s6:Same H4 (upd (upd H4 l5 (.lst [])) l6 (.lst [.str f,.ref l5])):=(Same.new f5).trans (Same.new f6);have e6:(upd (upd H4 l5 (.lst [])) l6 (.lst [.str f,.ref l5])) l6=some (.lst [.str f,.ref l5]):=zA1;have e5:(upd (upd H4 l5 (.lst [])) l6 (.lst [.str f,.ref l5])) l5=some (.lst []):=(Same.new f6) _ _ zA1;generalize upd (upd H4 l5 (.lst [])) l6 (.lst [.str f,.ref l5])=H6 at s6 e6 e5 ⊢;have s16:=s14.trans s6;refine ⟨_,rfl,ra,_,1,_,rfl,rfl,SqT.of (s6 _ _ hra4),rfl,ca,_,0,_,rfl,rfl,SqT.of (s6 _ _ hca),rfl,rfl,.inr ⟨_,rfl,l6,_,_,.ref l5,rfl,rfl,SqL.of e6,(by rw [show decide (V.str "set" = V.str "make")=false by decide +kernel];rfl),?_⟩⟩;refine ⟨_,rfl,l5,rfl,⟨_,SqL.of e5⟩,zAe (xs:=[]) (fun i ys H'=>H6=H'∧ys=[]) ⟨rfl,rfl⟩ (fun i ys H' z=>by rw [← z.1];exact SqL.of e5) (fun i ys H' hi z=>by rw [z.2];exact Zm _) (fun i x ys H' hi=>by simp at hi) ?_⟩;rintro ys H' ⟨rfl,rfl⟩ la fla;have s8:Same H6 (upd H6 la (.lst [])):=Same.new fla;refine ⟨la,[],rfl,SqL.of zA1,_,rfl,iteF ?_⟩;generalize upd H6 la (.lst [])=H8 at s8 ⊢;have s18:=s16.trans s8;have s48:=s6.trans s8;refine ⟨_,rfl,ra,_,1,_,rfl,rfl,SqT.of (s48 _ _ hra4),rfl,ca,_,0,_,rfl,rfl,SqT.of (s48 _ _ hca),rfl,rfl,_,rfl,sT ?_⟩;refine ⟨_,rfl,_,rfl,ra,_,1,_,rfl,rfl,SqT.of (s48 _ _ hra4),rfl,ca,_,1,_,rfl,rfl,SqT.of (s48 _ _ hca),rfl,_,rfl,ra,_,1,_,rfl,rfl,SqT.of (s48 _ _ hra4),rfl,ca,_,2,_,rfl,rfl,SqT.of (s48 _ _ hca),rfl,lf,r.fields,f,v,rfl,hf.mono s48,fnd,fun H9 s9=>⟨_,rfl,?_⟩⟩;have s19:=s18.trans s9;have s49:=s48.trans s9;have es:sucC r (.set f v)=hasL r.fields f v:=by cases v <;> rfl
      rw [es] at k2;cases cs:hasL r.fields f v with
      | false =>
       rw [cs] at k2;exact iteT (k2 _ s19)
      | true =>
       rw [cs] at k2;exact iteF ⟨_,rfl,ra,_,2,_,rfl,rfl,SqT.of (s49 _ _ hra4),rfl,_,rfl,_,rfl,ra,_,0,_,rfl,rfl,SqT.of (s49 _ _ hra4),rfl,vt,l,t,rs,r,rfl,ht.any.mono s19,ok.tr,ok.h,hd.mono s19,rp,mr,fun H10 s10=>k2 _ (s19.trans s10)⟩
    | take =>
     obtain ⟨ca,zs,rfl,_,hca,_,hz⟩:=hc4.tup_inv;cases str1 hz;refine ⟨_,rfl,ra,_,1,_,rfl,rfl,SqT.of hra4,rfl,ca,_,rfl,.inr (SqT.of hca),_,_,rfl,rfl,_,rfl,iteF ⟨Zm _,fun l5 f5=>?_⟩⟩;have s6:Same H4 (upd H4 l5 (.lst [])):=Same.new f5;have e5:(upd H4 l5 (.lst [])) l5=some (.lst []):=zA1;generalize upd H4 l5 (.lst [])=H6 at s6 e5 ⊢;have s16:=s14.trans s6;refine ⟨_,rfl,l5,rfl,⟨_,SqL.of e5⟩,zAe (xs:=[]) (fun i ys H'=>H6=H'∧ys=[]) ⟨rfl,rfl⟩ (fun i ys H' z=>by rw [← z.1];exact SqL.of e5) (fun i ys H' hi z=>by rw [z.2];exact Zm _) (fun i x ys H' hi=>by simp at hi) ?_⟩;rintro ys H' ⟨rfl,rfl⟩ la fla;have s8:Same H6 (upd H6 la (.lst [])):=Same.new fla;refine ⟨la,[],rfl,SqL.of zA1,_,rfl,iteF ?_⟩;generalize upd H6 la (.lst [])=H8 at s8 ⊢;have s18:=s16.trans s8;have s48:=s6.trans s8;refine ⟨_,rfl,ra,_,1,_,rfl,rfl,SqT.of (s48 _ _ hra4),rfl,ca,_,0,_,rfl,rfl,SqT.of (s48 _ _ hca),rfl,rfl,_,rfl,sF (by decide +kernel) (iteF ?_)⟩;exact ⟨_,rfl,ra,_,2,_,rfl,rfl,SqT.of (s48 _ _ hra4),rfl,_,rfl,_,rfl,ra,_,0,_,rfl,rfl,SqT.of (s48 _ _ hra4),rfl,vt,l,t,rs,r,rfl,ht.any.mono s18,ok.tr,ok.h,hd.mono s18,rp,mr,fun H9 s9=>k2 _ (s18.trans s9)⟩
end
end L2.W
namespace L2.W
open PySem My
theorem cat_any {K:PySem.W.Frag}{H:Hp}{a b:Addr}{xs ys:List V}{Q:VK} (ha:H a=some (.tup xs)) (hb:H b=some (.tup ys)) (hz:xs.length + ys.length≤1000) (q:∀ c H',Same H H'→H' c=some (.tup (xs++ys))→Q (.ref c) H'):rCat2 K (.ref a) (.ref b) H Q:=by
 refine ⟨a,b,xs,ys,rfl,rfl,SqT.of ha,SqT.of hb,Zi (small1000 hz),fun e=>?_,fun _ e=>?_,fun _ _ p hp=>q p _ (Same.new hp) zA1⟩
 ·subst e;exact q b H (Same.refl _) hb
 ·subst e;exact q a H (Same.refl _) (by rw [List.append_nil];exact ha)
theorem cutT_take {xs:List V}{j:Nat} (h:j≤xs.length):cutV xs none (some (j:Int))=xs.take j:=cut_takeN h
theorem cutT_drop {xs:List V}{j:Nat} (h:j≤xs.length):cutV xs (some (j:Int)) none=xs.drop j:=by
 have n:¬ ((j:Int) < 0):=by omega
 unfold cutV HT.sIx;simp [n,Nat.min_eq_left h];exact List.take_of_length_le (by rw [Yb];exact Z7 _)
noncomputable def spTur:Sp:=fun vs H Q _=>∃ (p:Addr) (v:V) (k:Int) (rs:List Row) (n:Str) (c:Chg) (t:Tr) (bs:List Str),vs=[.ref p,v]∧Src H p k∧k≤800000∧Has (fun a=>a≠p) H v (ruleD n c t bs)∧RlOk n c t bs∧bs.length≤8∧n∈rs.map (·.name)∧(∀ x∈bs,x∈rs.map (·.name))∧(∃ bn,∀ r∈rs,r.name∈nmA bn) ∧
 ∀ v n' bs' H',RlOk n' c t bs'→Has (fun a=>a≠p) H' v (ruleD n' c t bs')→Src H' p (k + 2)→ButS p H H'→Q v H'
theorem out_names {bn:Bool}{x:Str} (h:x∈nmA bn):x∉(["lids", "g", "bo"]:List Str)∧x≠"boxer":=by
 cases bn
 ·have h:x∈(["box", "lid", "a", "boxes"]:List Str):=h;simp only [Y3,Zz,or_false] at h;rcases h with rfl | rfl | rfl | rfl <;> exact ⟨by decide +kernel,by decide +kernel⟩
 ·have h:x∈(["a", "of", "kind", "ab"]:List Str):=h;simp only [Y3,Zz,or_false] at h;rcases h with rfl | rfl | rfl | rfl <;> exact ⟨by decide +kernel,by decide +kernel⟩
theorem src_ne {H:Hp}{p c:Addr}{k:Int}{xs:List V} (S:Src H p k) (h:H c=some (.tup xs)):c≠p:=by
 rintro rfl;obtain ⟨_,_,_,e,_⟩:=S;rw [e] at h;cases h
theorem lids_ok:∀ x∈(["lids", "g", "bo"]:List Str),nameOk x:=zDy (by decide +kernel)
section
variable {P:Program}{w:World}{K:PySem.W.Frag}{mg:Str→Option Value}{base:Heap}{CX:CXT}
theorem scTur:FnScope ["_law_source", "_law_rule_here", "_law_way"] ["_law_source", "_law_rule_here"] (defScope sTurned):=⟨rfl,rfl,rfl,by decide +kernel,rfl,by decide +kernel,by decide +kernel⟩
theorem ok_tur {f fn:Addr}{fd fdn:FuncData} (hC:Calm CX) (T:Tops K mg) (F:Fun K "_law_turned" "_law_turned" sTurned f fd) (Dn:Def K mg "_law_next" sNext ["_law_source", "_law_many"] fn fdn) (Gn:FnOk P w K mg base CX 2 fn fdn ["_law_source", "_law_many"] spNext):FnOk P w K mg base CX 3 f fd ["_law_source", "_law_rule_here"] spTur:=by
 refine Fun.okC F scTur (fun vs H Q E h=>?_) (fun cdv A outer s H vs Q E hr h=>?_)
 ·obtain ⟨p,v,k,rs,n,c,t,bs,rfl,_⟩:=h;rfl
 ·obtain ⟨p,v,k,rs,n,c,t,bs,rfl,S0,hk,hv,ok,b8,hn,hb,⟨bn,hbn⟩,q⟩:=h;have nd:=scTur.nd
  refine ⟨_,zA3 (zAk (i:=2) nd rfl (Or.inl rfl) (zA6 Gn hr rfl Dn.at_ Dn.fn.kp Dn.bind .nil (passC hC) (zA0 (pv 0) (zA0 zA4 zA2))))
     (zA3 (zAq (zAg zBc (pv 2) zA4 (nomark _))
     (zA5 (zAc (zAx (zF2 (K:=K) rfl) (zB8 (zA0 (zAh zAr (zAm (zA0 zAf (zA0 zAf (zA0 zAf zA2)))) (zA6 Gn hr rfl Dn.at_ Dn.fn.kp Dn.bind .nil (passC hC) (zA0 (pv 0) (zA0 zA4 zA2))) (fun _ _=>rfl)) zA2)) (zBp sl_tup (pv 1) (zCa zA4) zCx)))) zAb)
     (zA3 (zAq (zAg zBc (pv 2) zA4 (nomark _))
     (zA5 (zAc (zAx (zF2 (K:=K) rfl) (zBp sl_tup (pv 1) zCx (zCa zA4)) (zB8 (zA0 (zAx zDx (zAn zAz rfl T.list PyProof.Rows.boot_list (zA0 (zAh zAi (pv 1) zA4 (fun _ _=>rfl)) zA2)) (zAm (zA0 zAf zA2))) zA2))))) zAb)
     (zA5 (zAc (pv 1))))),?_⟩
  have small:∀ n:Nat,n≤1000→n≤sizeLine:=fun n h=>Zi (small1000 h);have inN:∀ {x:Str},x∈rs.map (·.name)→x∉(["lids", "g", "bo"]:List Str)∧x≠"boxer":=fun {x} hx=>by
   obtain ⟨r,hr,rfl⟩:=List.mem_map.mp hx;exact out_names (hbn r hr)
  refine ⟨_,rfl,p,12,k,rfl,S0,by omega,by decide,by decide,fun r0 H1 _ _ S1 k1=>?_⟩;have b1:ButS p H H1:=ButS.eq k1;have hv1:=hv.but b1;obtain ⟨ra,xs,rfl,nra,hra,_,hx⟩:=id hv1.tup_inv;obtain ⟨ys,rfl,hy⟩:=strC hx;refine ⟨_,rfl,rfl,_,rfl,ite2 (fun _=>?_) (fun _=>⟨_,rfl,rfl,_,rfl,ite2 (fun _=>?_) (fun _=>⟨_,rfl,q _ n bs _ ok hv1 (S1.mono (by omega)) b1⟩)⟩)⟩
  ·refine ⟨small 3 (by decide),fun l2 f2=>?_⟩;have n2:=S1.nw f2;rw [show ([.str "lids",.str "g",.str "bo"]:List V)=(["lids", "g", "bo"]:List Str).map V.str from rfl];have s2:Same H1 (upd H1 l2 (.lst ((["lids", "g", "bo"]:List Str).map V.str))):=Same.new f2;have e2:(upd H1 l2 (.lst ((["lids", "g", "bo"]:List Str).map V.str))) l2=some (.lst ((["lids", "g", "bo"]:List Str).map V.str)):=zA1;generalize upd H1 l2 (.lst ((["lids", "g", "bo"]:List Str).map V.str))=H2 at s2 e2 ⊢;refine ⟨_,rfl,p,3,_,rfl,S1.up s2,by omega,by decide,by decide,fun r2 H3 r20 r21 S3 k3=>?_⟩;obtain ⟨x,hxa,hxm⟩:=zD9 ((["lids", "g", "bo"]:List Str).map V.str) r20 r21;obtain ⟨n',hn',rfl⟩:=List.mem_map.mp hxm;have b3:ButS p H1 H3:=(ButS.same s2).trans (ButS.eq k3);refine ⟨l2,_,r2,_,rfl,rfl,SqL.of (by rw [k3 l2 n2];exact e2),hxa,small 1 (by decide),fun t3 f3=>?_⟩;have s4:Same H3 (upd H3 t3 (.tup [.str n'])):=Same.new f3;have e4:(upd H3 t3 (.tup [.str n'])) t3=some (.tup [.str n']):=zA1;generalize upd H3 t3 (.tup [.str n'])=H4 at s4 e4 ⊢;have b4:=b3.trans (ButS.same s4);have yl:=hy.length;refine ⟨_,rfl,_,rfl,ra,_,rfl,SqT.of (b4 _ _ hra nra),?_,fun t5 f5=>?_⟩
   ·rintro ⟨h,_⟩;rw [show ((1:Int))=((1:Nat):Int) from rfl,HT.sIx_nat] at h;simp at h
   rw [show cutV (V.str n :: ys) (some 1) none=ys from cutT_drop (xs:=V.str n :: ys) (j:=1) (by simp)];refine cat_any ((Same.new f5) _ _ e4) zA1 (by rw [yl];show 1 + 3≤1000;decide) fun c6 H6 s6 e6=>?_;have sl:=s4.trans ((Same.new f5).trans s6);have b6:=b3.trans (ButS.same sl);exact q _ n' bs _ ⟨lids_ok n' hn',ok.cg,ok.tr,ok.h,ok.b,fun z=>(inN (hb n' z)).1 hn'⟩ (.tup (src_ne (S3.up sl) e6) e6 (by rw [Zc,yl];show 1 + 3≤1000;decide) (.cons (strN (lids_ok n' hn')) (hy.but b6))) ((S3.up sl).mono (by omega)) (b1.trans b6)
  ·obtain ⟨ra',vc,vt,lb,er,hra',h1,h2,hlb⟩:=zEq hv1;cases er;refine ⟨_,rfl,_,rfl,ra,_,rfl,SqT.of hra',?_,fun t5 f5=>?_⟩
   ·rintro ⟨_,h⟩;rw [show ((3:Int))=((3:Nat):Int) from rfl,HT.sIx_nat] at h;simp at h
   rw [show cutV [V.str n,vc,vt,V.ref lb] none (some 3)=[V.str n,vc,vt] from cutT_take (xs:=[V.str n,vc,vt,V.ref lb]) (j:=3) (by show 3≤4;decide)];have s2:Same H1 (upd H1 t5 (.tup [.str n,vc,vt])):=Same.new f5;have e2:(upd H1 t5 (.tup [.str n,vc,vt])) t5=some (.tup [.str n,vc,vt]):=zA1;generalize upd H1 t5 (.tup [.str n,vc,vt])=H2 at s2 e2 ⊢;refine ⟨_,rfl,ra,_,3,_,rfl,rfl,SqT.of (s2 _ _ hra'),rfl,lb,_,rfl,.inl (SqL.of (s2 _ _ hlb)),fun l6 f6=>⟨small 1 (by decide),fun l7 f7=>⟨l6,l7,_,_,rfl,rfl,(Same.new f7) _ _ zA1,zA1,small _ (by simp;omega),fun l8 f8=>⟨small 1 (by decide),fun t9 f9=>?_⟩⟩⟩⟩;have s8:=(Same.new (o:=HO.lst (bs.map V.str)) f6).trans (Same.new (o:=HO.lst [.str "boxer"]) f7);have n8:=((S1.up s2).up s8).nw f8;have s9:=s8.trans ((Same.new (o:=HO.lst (bs.map V.str++[.str "boxer"])) f8).trans (Same.new (o:=HO.tup [.ref l8]) f9));have e8:(upd (upd (upd (upd H2 l6 (.lst (bs.map V.str))) l7 (.lst [.str "boxer"])) l8 (.lst (bs.map V.str++[.str "boxer"]))) t9 (.tup [.ref l8])) l8=some (.lst (bs.map V.str++[.str "boxer"])):=(Same.new f9) _ _ zA1;refine cat_any (s9 _ _ e2) zA1 (by show 3 + 1≤1000;decide) fun c6 H6 s6 e6=>?_;have sl:=s2.trans (s9.trans s6)
   have ok2:NmsOk (bs++[("boxer" : Str)]):=⟨fun x hx=>by
    rcases List.mem_append.mp hx with hx | hx
    ·exact ok.b.1 x hx
    ·rw [List.mem_singleton.mp hx]
     exact zE0 (by decide +kernel),List.nodup_append.mpr ⟨ok.b.2.1,List.pairwise_singleton _ _,fun x hx y hy e=>by
      rw [List.mem_singleton.mp hy] at e
      exact (inN (hb x hx)).2 e⟩,by rw [Zc,List.length_singleton];omega⟩
   refine q _ n (bs++[("boxer" : Str)]) _ ⟨ok.nm,ok.cg,ok.tr,ok.h,ok2,fun z=>?_⟩ (.tup (src_ne (S1.up sl) e6) e6 (by show 4≤1000;decide) (.cons (strN ok.nm) (.cons (h1.but (ButS.same sl)) (.cons (h2.but (ButS.same sl)) (.cons (zDz n8 (s6 _ _ (by rw [e8,Z2];rfl)) ok2) .nil))))) ((S1.up sl).mono (by omega)) (b1.trans (ButS.same sl));rcases List.mem_append.mp z with z | z
   ·exact ok.no z
   ·exact (inN hn).2 (List.mem_singleton.mp z)
end
end L2.W
namespace L2.W
open PySem My
noncomputable def spCkB (B:CB) (CN:Addr) (K:PySem.W.Frag):Sp:=fun vs H _ E=>∃ (u v:V),vs=[u,v]∧Refused CN H E∧((∃ t,TyOf K H v t∧PySem.W.kitOne K t (.type "list")=some false) ∨
 ∃ (lh:Addr) (hv:List V) (bits:List Bool),v=.ref lh∧H lh=some (.lst hv)∧hv.length≤100∧bits.length=hv.length∧(∀ (i:Nat) (x:V) (b:Bool),hv[i]? = some x→bits[i]? = some b→∃ t,TyOf K H x t∧PySem.W.kitOne K t (.ref B.ha)=some b)∧bits.all id=false)
section
variable {P:Program}{w:World}{K:PySem.W.Frag}{mg:Str→Option Value}{base:Heap}
theorem ok_ckB {f fu fn fs CK C CN:Addr}{fd fdu fdn fds:FuncData}{A:CA}{B:CB} (T:Tops K mg) (XN:XTop K mg "NoRule" CN) (N:Cng K mg B) (F:Fun K "check" "check" sCheck f fd) (DN:Def K mg "is_name" sIsName ["thing"] fn fdn) (DU:Def K mg "are_unlike_names" sUnlike ["things"] fu fdu) (DS:Def K mg "rule_suits" sRuleSuits ["kinds", "rule"] fs fds)
  (GS:FnOk P w K mg base (CXM P w) 8 fs fds ["kinds", "rule"] (spRSu A B CK C)):FnOk P w K mg base (CXM P w) 9 f fd ["kinds", "hands"] (spCkB B CN K):=by
 have GU:FnOk P w K mg base (CXM P w) 2 fu fdu ["things"] spUnlike:=zBt calmM T DU.fn DN;have hC:Calm (CXM P w):=calmM;refine Fun.okX F scCk (fun vs H Q E h=>?_) (fun cdv Ar outer s H vs Q E hr h=>?_)
 ·obtain ⟨u,v,rfl,_⟩:=h;rfl
 ·obtain ⟨u,v,rfl,kn,hb⟩:=h;have nd:=scCk.nd;have hr2:=hr.mono (show 2≤8 by decide)
  refine ⟨_,zA3 (ps_re nCk [2] sameCk (zAq (PW.pt (zC0 (zAu (zAl (zAa zAs rfl T.isinst PyProof.Rows.boot_isinstance (zA0 (pv 1) (zA0 (zBk (v:=.ty "list") rfl T.list PyProof.Rows.boot_list rfl) zA2))))) (zBd (zAu (zAl (zAa (zB3 rfl) rfl T.all PyProof.Rows.boot_all (zA0 (zAt (T:=["hand"]) rfl ScOk.auto (zAj (pv 1)) (fun _ _ _ _=>zAd (i:=3) (by decide +kernel:(["kinds", "hands", "?", "hand"]:List Str).Nodup) rfl (Or.inl rfl)) (fun _ _ _ _=>zAy) (fun _ _ _ _=>(zAa (zBz (K:=K) rfl) rfl T.isinst PyProof.Rows.boot_isinstance (zA0 (pv 3) (zA0 (zAv (v:=.ref B.ha) rfl N.gHa rfl) zA2))))) zA2)))))))
     (zA5 (zC9 (C:=CN) (W:=fun _ e H'=>E (.ref CN) (some e) H') XN.cl rfl XN.at_ rfl (zA0 zAf zA2) (fun pins σ H s e I he fr w=>xe_new I he (.inl fr) w))) zAb))
     (zA3 (ps_re nCk [2] sameCk (zAq (zAu (zAl (zA6 GU hr2 rfl DU.at_ DU.fn.kp DU.bind .nil (passC hC) (zA0 (zAt (T:=["hand"]) rfl ScOk.auto (zAj (pv 1)) (fun _ _ _ _=>zAd (i:=3) (by decide +kernel:(["kinds", "hands", "?", "hand"]:List Str).Nodup) rfl (Or.inl rfl)) (fun _ _ _ _=>zAy) (fun _ _ _ _=>(zCc (K:=K) rfl (pv 3) rfl))) zA2))))
     (zA5 (zC9 (C:=CN) (W:=fun _ e H'=>E (.ref CN) (some e) H') XN.cl rfl XN.at_ rfl (zA0 zAf zA2) (fun pins σ H s e I he fr w=>xe_new I he (.inl fr) w))) zAb))
     (zA5 (zCv PassesOwn.leaving rfl (zAj (pv 1)) (zAd (i:=2) nd rfl (Or.inl rfl))
     (zA5 (zAq (zAu (zAl (zAa (zB3 rfl) rfl T.all PyProof.Rows.boot_all (zA0 (zAt (T:=["rule"]) rfl ScOk.auto (zAj (zB2 (pv 2) rfl)) (fun _ _ _ _=>zAd (i:=3) (by decide +kernel:(["kinds", "hands", "hand", "rule"]:List Str).Nodup) rfl (Or.inl rfl)) (fun _ _ _ _=>zAy) (fun _ _ _ _=>(zA6 GS hr rfl DS.at_ DS.fn.kp DS.bind .nil (passC hC) (zA0 (pv 0) (zA0 (pv 3) zA2))))) zA2))))
     (zA5 (zC9 (C:=CN) (W:=fun _ e H'=>E (.ref CN) (some e) H') XN.cl rfl XN.at_ rfl (zA0 zAf zA2) (fun pins σ H s e I he fr w=>xe_new I he (.inl fr) w))) zAb))))),?_⟩
  have small:∀ n:Nat,n≤1000→n≤sizeLine:=fun n h=>Zi (small1000 h);rcases hb with ⟨t,ty,kt⟩ | ⟨lh,hv,bits,rfl,hlh,h100,bl,hbits,hall⟩
  ·exact ⟨_,rfl,_,_,_,_,_,rfl,ty,rfl,kt,_,rfl,iteT (iteT ⟨Zi (small1000 (by decide)),fun e he=>kn e _ he zA1 (Same.new he)⟩)⟩
  ·refine ⟨_,rfl,_,_,_,_,_,rfl,.lst hlh,rfl,rfl,_,rfl,iteF ?_⟩;refine ⟨_,rfl,lh,rfl,⟨_,SqL.of hlh⟩,zAe (xs:=hv) (fun i ys H'=>H=H'∧ys=(bits.take i).map V.bl) ⟨rfl,rfl⟩ (fun i ys H' p=>by rw [← p.1];exact SqL.of hlh) (fun i ys H' hi p=>?_) ?_ ?_⟩
   ·rw [p.2,Z0,Zl];exact small _ (by omega)
   ·rintro i v ys H' hi ⟨rfl,rfl⟩ Nn hN;have il:=(List.getElem?_eq_some_iff.mp hi).1;have eb:bits[i]? = some bits[i]:=Z5 (by omega);obtain ⟨t,ty,kt⟩:=hbits i v _ hi eb;refine pick ⟨_,rfl,_,_,_,_,_,rfl,ty,rfl,kt,hN _ _ ⟨rfl,?_⟩⟩;rw [Z4,eb,Z2];rfl
   ·rintro ys H' ⟨rfl,rfl⟩ c hc;rw [← bl,Za];have s1:Same H (upd H c (.lst (bits.map V.bl))):=Same.new hc;refine ⟨c,bits,rfl,SqL.of zA1,_,rfl,?_⟩;generalize upd H c (.lst (bits.map V.bl))=H1 at s1 ⊢;rw [hall];exact iteT ⟨Zi (small1000 (by decide)),fun e he=>kn e _ (s1.free he) zA1 (s1.trans (Same.new he))⟩
end
end L2.W
namespace L2.W
open PySem My
structure Oth (K:PySem.W.Frag) (mg:Str→Option Value) (CN:Addr) (c:Nat→Addr):Prop where
 g0:mg "NoDeed" = some (.ref (c 0))
 g1:mg "NoKind" = some (.ref (c 1))
 g2:mg "NoLimit" = some (.ref (c 2))
 g3:mg "NoName" = some (.ref (c 3))
 g4:mg "NoPlace" = some (.ref (c 4))
 g5:mg "NoRound" = some (.ref (c 5))
 g6:mg "NoRow" = some (.ref (c 6))
 g7:mg "NoSituation" = some (.ref (c 7))
 g8:mg "NoState" = some (.ref (c 8))
 g9:mg "NoStep" = some (.ref (c 9))
 g10:mg "NoText" = some (.ref (c 10))
 g11:mg "NoWish" = some (.ref (c 11))
 g12:mg "TooMany" = some (.ref (c 12))
 x:XCls K CN
 k1:PySem.W.kitAny K (.ref CN) (([c 0,c 1,c 2,c 3,c 4,c 5,c 6]:List Addr).map Value.ref)=some false
 k2:PySem.W.kitAny K (.ref CN) (([c 7,c 8,c 9,c 10,c 11,c 12]:List Addr).map Value.ref)=some false
noncomputable def spIO (CN:Addr):Sp:=fun vs H Q _=>∃ e:Addr,vs=[.ref e]∧H e=some (XO CN e)∧∀ H',Same H H'→Q (.bl false) H'
section
variable {P:Program}{w:World}{K:PySem.W.Frag}{mg:Str→Option Value}{base:Heap}{CX:CXT}
theorem scIO:FnScope ["_law_e"] ["_law_e"] (defScope sIsOther):=⟨rfl,rfl,rfl,by decide +kernel,rfl,by decide +kernel,by decide +kernel⟩
theorem ok_io {q:Bool}{f CN:Addr}{c:Nat→Addr}{fd:FuncData} (T:Tops K mg) (R:Oth K mg CN c) (F:Fun K "_law_is_other" "_law_is_other" sIsOther f fd):FnOkQ q P w K mg base CX 1 f fd ["_law_e"] (spIO CN):=by
 refine Fun.okQ F scIO (fun vs H Q E h=>?_) (fun cdv A outer s H vs Q E hr h=>?_)
 ·obtain ⟨e,rfl,_⟩:=h;rfl
 ·obtain ⟨e,rfl,he,k⟩:=h;have nd:=scIO.nd;refine ⟨_,zA3 (zAq (zAl (zAa (zDl (K:=K) rfl) rfl T.isinst PyProof.Rows.boot_isinstance (zA0 (pv 0) (zA0 (zB8 (zA0 (zAv (v:=.ref (c 0)) rfl R.g0 rfl) (zA0 (zAv (v:=.ref (c 1)) rfl R.g1 rfl) (zA0 (zAv (v:=.ref (c 2)) rfl R.g2 rfl) (zA0 (zAv (v:=.ref (c 3)) rfl R.g3 rfl) (zA0 (zAv (v:=.ref (c 4)) rfl R.g4 rfl) (zA0 (zAv (v:=.ref (c 5)) rfl R.g5 rfl) (zA0 (zAv (v:=.ref (c 6)) rfl R.g6 rfl) zA2)))))))) zA2)))) (zA5 (zAc zCd)) zAb) (zA5 (zAc (zAa (zDl (K:=K) rfl) rfl T.isinst PyProof.Rows.boot_isinstance (zA0 (pv 0) (zA0 (zB8 (zA0 (zAv (v:=.ref (c 7)) rfl R.g7 rfl) (zA0 (zAv (v:=.ref (c 8)) rfl R.g8 rfl) (zA0 (zAv (v:=.ref (c 9)) rfl R.g9 rfl) (zA0 (zAv (v:=.ref (c 10)) rfl R.g10 rfl) (zA0 (zAv (v:=.ref (c 11)) rfl R.g11 rfl) (zA0 (zAv (v:=.ref (c 12)) rfl R.g12 rfl) zA2))))))) zA2))))),?_⟩;refine ⟨_,rfl,by show 7≤sizeLine;decide,fun t1 f1=>⟨e,CN,t1,[c 0,c 1,c 2,c 3,c 4,c 5,c 6],false,rfl,(Same.new f1) _ _ he,R.x,zA1,R.k1,_,rfl,iteF ?_⟩⟩;refine ⟨_,rfl,by show 6≤sizeLine;decide,fun t2 f2=>⟨e,CN,t2,[c 7,c 8,c 9,c 10,c 11,c 12],false,rfl,(Same.new f2) _ _ ((Same.new f1) _ _ he),R.x,zA1,R.k2,k _ ((Same.new f1).trans (Same.new f2))⟩⟩
end
end L2.W
namespace L2.W
open PySem My
noncomputable def spAll (A:CA) (B:CB) (CK C CN:Addr) (K:PySem.W.Frag):Sp:=fun vs H Q E=>spCk A B CK C CN vs H Q E∨spCkB B CN K vs H Q E
noncomputable def spWd (A:CA) (B:CB) (CK C CN:Addr) (K:PySem.W.Frag):Sp:=fun vs H Q _=>∃ (u v:V) (b:Bool),vs=[u,v]∧(∀ (Q2:VK) (E2:XK),(b=true→∀ H',Same H H'→Q2 .non H')→(b=false→Refused CN H E2)→spAll A B CK C CN K [u,v] H Q2 E2)∧∀ H',Same H H'→Q (.str (if b then "suit" else "refused")) H'
section
variable {P:Program}{w:World}{K:PySem.W.Frag}{mg:Str→Option Value}{base:Heap}
theorem scWd:FnScope ["_law_kinds_here", "_law_hands", "_law_word_here", "_law_e"] ["_law_kinds_here", "_law_hands"] (defScope sWord):=⟨rfl,rfl,rfl,by decide +kernel,rfl,by decide +kernel,by decide +kernel⟩
theorem ok_wd {f fc fi CK C CN CR:Addr}{cs:Nat→Addr}{fd fdc fdi:FuncData}{A:CA}{B:CB} (T:Tops K mg) (R:Oth K mg CN cs) (XN:XTop K mg "NoRule" CN) (hrest:mg "RestError" = some (.ref CR)) (hexm:PySem.W.exmOne K (.ref CN) (.ref CR)=some true) (hkit:PySem.W.kitOne K (.ref CN) (.ref CN)=some true)
  (F:Fun K "_law_word" "_law_word" sWord f fd) (DC:Def K mg "check" sCheck ["kinds", "hands"] fc fdc) (GC:FnOk P w K mg base (CXM P w) 9 fc fdc ["kinds", "hands"] (spAll A B CK C CN K)) (DI:Def K mg "_law_is_other" sIsOther ["_law_e"] fi fdi):FnOk P w K mg base (CXM P w) 10 f fd ["_law_kinds_here", "_law_hands"] (spWd A B CK C CN K):=by
 have GI:FnOkQ false P w K mg base (CXM P w) 1 fi fdi ["_law_e"] (spIO CN):=ok_io T R DI.fn;have hC:Calm (CXM P w):=calmM;refine Fun.okX F scWd (fun vs H Q E h=>?_) (fun cdv Ar outer s H vs Q E hr h=>?_)
 ·obtain ⟨u,v,b,rfl,_⟩:=h;rfl
 ·obtain ⟨u,v,b,rfl,hW,q⟩:=h;have nd:=scWd.nd;have hrq:∀ e,RoomQ false 1 ((cxOf (CXM P w) P w K mg base ["_law_kinds_here", "_law_hands", "_law_word_here", "_law_e"] "_law_word" (defScope sWord) f cdv Ar outer s H E).hnd e).A:=fun e=>Room.hnd (hr.mono (show 1≤9 by decide))
  refine ⟨_,zA3 (zAk (i:=2) nd rfl (Or.inl rfl) zAf)
     (zA3 (ps_try (i:=3) (B:=CR) rfl rfl rfl nd rfl rfl rfl hrest (fun pins W=>(zA5 (zAq (zCh (zEf (zA6 GC hr rfl DC.at_ DC.fn.kp DC.bind .nil (pass_try rfl) (zA0 (pv 0) (zA0 (pv 1) zA2)))))
     (zA5 (zAk (i:=2) nd rfl (Or.inl rfl) zAf)) zAb)))
     (fun e=>(zA5 (zAq (PW.pt (zC3 (zAl (zAa (call_isinstX (K:=K) rfl) rfl T.isinst PyProof.Rows.boot_isinstance (zA0 (pv 3) (zA0 (zAv (v:=.ref CN) rfl XN.at_ rfl) zA2)))) (zBj (zAu (zAl (zA6 GI (hrq e) rfl DI.at_ DI.fn.kp DI.bind .nil (passC hC) (zA0 (pv 3) zA2)))))))
     (zA5 (zAk (i:=2) nd rfl (Or.inl rfl) zAf)) zAb))))
     (zA5 (zAc (pv 2)))),?_⟩
  refine ⟨fun σ' e C' H'=>C'=CN∧σ'=[some u,some v,some (.str "other"),none]∧Same H H'∧b=false,?_,?_⟩
  ·refine ⟨_,rfl,_,rfl,hW _ _ (fun hb H1 s1=>⟨_,rfl,iteT ⟨_,rfl,?_⟩⟩) (fun hb e H1 hn he s1=>⟨e,CN,rfl,rfl,rfl,rfl,s1,hb⟩)⟩;have z:=q _ s1;rw [hb] at z;exact z
  ·rintro σ' e C' H' he ⟨rfl,rfl,s1,hb⟩;refine ⟨hexm,?_⟩;refine ⟨_,rfl,e,_,_,.ref C',true,rfl,he,R.x,rfl,hkit,(fun z=>absurd rfl (z _)),_,rfl,iteT ?_⟩;refine ⟨_,rfl,e,rfl,he,fun H2 s2=>⟨_,rfl,iteT ⟨_,rfl,?_⟩⟩⟩;have z:=q _ (s1.trans s2);rw [hb] at z;exact z
end
end L2.W
namespace L2.W
open PySem My
noncomputable def ckC (K:PySem.W.Frag) (cc C:Addr) (nos:List Str):Bool:=PySem.W.plainGet K C Str.empty && (PySem.W.hasDictIn K C && (PySem.W.plainOver K C && (decide (PySem.W.findIn K (.ref C) "__setattr__" = some (some (.builtin "object.__setattr__"))) && (decide (PySem.W.findIn K (.ref C) "__class__" = some (some (.builtin "object.__class__"))) && (decide (PySem.W.mroIn K C (.type "object")=some true) && (decide (PySem.W.kitOne K (.ref C) (.ref C)=some true) &&
 (decide (PySem.W.kitOne K (.ref C) (.ref cc)=some true) && (PySem.W.makesIn K C && (PySem.W.keepIn K (.ref C) && nos.all fun n=>decide (PySem.W.findIn K (.ref C) n=some none))))))))))
noncomputable def ckAll (K:PySem.W.Frag) (cc:Addr) (l:List (Addr×List Str)):Bool:=l.all fun x=>ckC K cc x.1 x.2
structure CkO (K:PySem.W.Frag) (cc C:Addr) (nos:List Str):Prop where
 c:CC1 K cc C
 ms:PySem.W.makesIn K C=true
 kp:PySem.W.keepIn K (.ref C)=true
 no:∀ n∈nos,NoAttr K C n
theorem zC6 {K:PySem.W.Frag}{cc C:Addr}{nos:List Str} (hn:PySem.W.specialIn K (.builtin "object.__class__") "__get__" = some (some (.builtin "getset_descriptor.__get__"))) (htk:PySem.W.takesIn K (.builtin "object.__class__")=some true) {l:List (Addr×List Str)} (h:ckAll K cc l=true) (m:(C,nos)∈l):CkO K cc C nos:=by
 have z:ckC K cc C nos=true:=List.all_eq_true.mp h (C,nos) m;unfold ckC at z;simp only [Zr,decide_eq_true_eq,Yd] at z;obtain ⟨h1,h2,h3,h4,h5,h6,h7,h8,h9,h10,h11⟩:=z;exact ⟨⟨⟨h1,h2,h3,h4⟩,⟨h5,hn,htk,h6,h7⟩,h8⟩,h9,h10,h11⟩
section
variable {P:Program}{w:World}{K:PySem.W.Frag}{mg:Str→Option Value}{base:Heap}{CX:CXT}
theorem cnd_mk {A:CA} (hn:PySem.W.specialIn K (.builtin "object.__class__") "__get__" = some (some (.builtin "getset_descriptor.__get__"))) (htk:PySem.W.takesIn K (.builtin "object.__class__")=some true) (g:mg "Condition" = some (.ref A.cc)) (gAl:mg "Always" = some (.ref A.al)) (gWa:mg "Wanted" = some (.ref A.wa)) (gIs:mg "Is" = some (.ref A.is_)) (gMe:mg "Meets" = some (.ref A.me)) (gOw:mg "Owner" = some (.ref A.ow)) (gNo:mg "Not" = some (.ref A.no)) (gBo:mg "Both" = some (.ref A.bo)) (gEi:mg "Either" = some (.ref A.ei)) (ck:ckAll K A.cc [(A.al,[]),(A.wa,[]),(A.is_,["field", "value"]),(A.me,["field"]),(A.ow,["field", "value"]),(A.no,["condition"]),(A.bo,["conditions"]),(A.ei,["conditions"])]=true) (nAl:PySem.W.findIn K (.ref A.al) "__init__" = some (some (.builtin "object.__init__"))) (nWa:PySem.W.findIn K (.ref A.wa) "__init__" = some (some (.builtin "object.__init__"))) (nd:[A.al,A.wa,A.is_,A.me,A.ow,A.no,A.bo,A.ei].Nodup) (iIs:PySem.W.findIn K (.ref A.is_) "__init__" = some (some (.ref A.fIs))) (jIs:PySem.W.isFn K (.ref A.fIs)=true) (iMe:PySem.W.findIn K (.ref A.me) "__init__" = some (some (.ref A.fMe))) (jMe:PySem.W.isFn K (.ref A.fMe)=true) (iOw:PySem.W.findIn K (.ref A.ow) "__init__" = some (some (.ref A.fOw))) (jOw:PySem.W.isFn K (.ref A.fOw)=true) (iNo:PySem.W.findIn K (.ref A.no) "__init__" = some (some (.ref A.fNo))) (jNo:PySem.W.isFn K (.ref A.fNo)=true) (iBo:PySem.W.findIn K (.ref A.bo) "__init__" = some (some (.ref A.fBo))) (jBo:PySem.W.isFn K (.ref A.fBo)=true) (iEi:PySem.W.findIn K (.ref A.ei) "__init__" = some (some (.ref A.fEi))) (jEi:PySem.W.isFn K (.ref A.fEi)=true) (mAl:Meth K A.al "holds" A.hAl) (mWa:Meth K A.wa "holds" A.hWa) (mIs:Meth K A.is_ "holds" A.hIs) (mMe:Meth K A.me "holds" A.hMe) (mOw:Meth K A.ow "holds" A.hOw) (mNo:Meth K A.no "holds" A.hNo) (mBo:Meth K A.bo "holds" A.hBo) (mEi:Meth K A.ei "holds" A.hEi):Cnd K mg A:=by
 have kAl:CkO K A.cc A.al []:=zC6 hn htk ck (.head _);have kWa:CkO K A.cc A.wa []:=zC6 hn htk ck (.tail _ (.head _));have kIs:CkO K A.cc A.is_ ["field", "value"]:=zC6 hn htk ck (.tail _ (.tail _ (.head _)));have kMe:CkO K A.cc A.me ["field"]:=zC6 hn htk ck (.tail _ (.tail _ (.tail _ (.head _))));have kOw:CkO K A.cc A.ow ["field", "value"]:=zC6 hn htk ck (.tail _ (.tail _ (.tail _ (.tail _ (.head _)))));have kNo:CkO K A.cc A.no ["condition"]:=zC6 hn htk ck (.tail _ (.tail _ (.tail _ (.tail _ (.tail _ (.head _))))));have kBo:CkO K A.cc A.bo ["conditions"]:=zC6 hn htk ck (.tail _ (.tail _ (.tail _ (.tail _ (.tail _ (.tail _ (.head _)))))));have kEi:CkO K A.cc A.ei ["conditions"]:=zC6 hn htk ck (.tail _ (.tail _ (.tail _ (.tail _ (.tail _ (.tail _ (.tail _ (.head _))))))))
 exact ⟨(fun C h=>by
  unfold IsCond at h;rcases h with rfl | rfl | rfl | rfl | rfl | rfl | rfl | rfl
  ·exact kAl.c
  ·exact kWa.c
  ·exact kIs.c
  ·exact kMe.c
  ·exact kOw.c
  ·exact kNo.c
  ·exact kBo.c
  ·exact kEi.c),g,gAl,gWa,⟨kAl.ms,nAl,kAl.kp⟩,⟨kWa.ms,nWa,kWa.kp⟩,nd,gIs,⟨kIs.ms,iIs,jIs,kIs.kp⟩,gMe,⟨kMe.ms,iMe,jMe,kMe.kp⟩,gOw,⟨kOw.ms,iOw,jOw,kOw.kp⟩,gNo,⟨kNo.ms,iNo,jNo,kNo.kp⟩,gBo,⟨kBo.ms,iBo,jBo,kBo.kp⟩,gEi,⟨kEi.ms,iEi,jEi,kEi.kp⟩,kIs.no _ (.head _),kIs.no _ (.tail _ (.head _)),kMe.no _ (.head _),kOw.no _ (.head _),kOw.no _ (.tail _ (.head _)),kNo.no _ (.head _),kBo.no _ (.head _),kEi.no _ (.head _),mAl,mWa,mIs,mMe,mOw,mNo,mBo,mEi⟩
theorem ini_mk {A:CA}{fn fc:Addr}{dn dc:FuncData}{gIs gMe gOw gNo gBo gEi:FuncData} (hC:Calm CX) (T:Tops K mg) (N:Cnd K mg A) (DCn:Def K mg "check_names" sChkNames ["things"] fn dn) (GCn:FnOk P w K mg base CX 2 fn dn ["things"] spChkN) (DCc:Def K mg "check_conditions" sChkConds ["things"] fc dc) (GCc:FnOk P w K mg base CX 1 fc dc ["things"] (spChkC A)) (FIs:Fun K "__init__" "Is.__init__" sInitIs A.fIs gIs) (bIs:Binds K gIs ["self", "field", "value"] []) (FMe:Fun K "__init__" "Meets.__init__" sInitMe A.fMe gMe) (bMe:Binds K gMe ["self", "field"] []) (FOw:Fun K "__init__" "Owner.__init__" sInitOw A.fOw gOw) (bOw:Binds K gOw ["self", "field", "value"] []) (FNo:Fun K "__init__" "Not.__init__" sInitNo A.fNo gNo) (bNo:Binds K gNo ["self", "condition"] []) (FBo:Fun K "__init__" "Both.__init__" sInitBo A.fBo gBo) (bBo:Binds K gBo ["self", "conditions"] []) (FEi:Fun K "__init__" "Either.__init__" sInitEi A.fEi gEi) (bEi:Binds K gEi ["self", "conditions"] []):Ini P w K mg base CX A gIs gMe gOw gNo gBo gEi:=⟨ok_initIs hC N FIs DCn GCn,bIs,ok_initMe hC N FMe DCn GCn,bMe,ok_initOw hC N FOw DCn GCn,bOw,ok_initNo T N FNo,bNo,ok_initBo hC T N FBo DCc GCc,bBo,ok_initEi hC T N FEi DCc GCc,bEi⟩
theorem stl_mk {A:CA}{CK C fI fIk fOr fOf fOw fh fp:Addr}{fdO fdh fdp:FuncData}{aAl aWa aIs aMe aOw aNo aBo aEi:Addr}{dAl dWa dIs dMe dOw dNo dBo dEi:FuncData} (hC:Calm CX) (T:Tops K mg) (N:Cnd K mg A) (KC:KCls K mg C fI) (KS:KsCls K mg CK fIk fOr fOf fOw) (GO:FnOk P w K mg base CX 2 fOf fdO ["self", "name"] (spOf CK)) (bO:Binds K fdO ["self", "name"] []) (DH:Def K mg "has_value" sHasVal ["kind", "field", "value"] fh fdh) (GH:FnOk P w K mg base CX 2 fh fdh ["kind", "field", "value"] (spHasV C)) (DP:Def K mg "place_of" sPlaceOf ["kind", "field"] fp fdp) (GP:FnOk P w K mg base CX 1 fp fdp ["kind", "field"] (spPlace C)) (mAl:Meth K A.al "suits" aAl) (FAl:Fun K "suits" "Always.suits" sAlSuits aAl dAl) (bAl:Binds K dAl ["self", "kinds", "kind"] []) (mWa:Meth K A.wa "suits" aWa) (FWa:Fun K "suits" "Wanted.suits" sWaS aWa dWa) (bWa:Binds K dWa ["self", "kinds", "kind"] []) (mIs:Meth K A.is_ "suits" aIs) (FIs:Fun K "suits" "Is.suits" sIsS aIs dIs) (bIs:Binds K dIs ["self", "kinds", "kind"] []) (mMe:Meth K A.me "suits" aMe) (FMe:Fun K "suits" "Meets.suits" sMeS aMe dMe) (bMe:Binds K dMe ["self", "kinds", "kind"] []) (mOw:Meth K A.ow "suits" aOw) (FOw:Fun K "suits" "Owner.suits" sOwS aOw dOw) (bOw:Binds K dOw ["self", "kinds", "kind"] []) (mNo:Meth K A.no "suits" aNo) (FNo:Fun K "suits" "Not.suits" sNoS aNo dNo) (bNo:Binds K dNo ["self", "kinds", "kind"] []) (mBo:Meth K A.bo "suits" aBo) (FBo:Fun K "suits" "Both.suits" sBoS aBo dBo) (bBo:Binds K dBo ["self", "kinds", "kind"] []) (mEi:Meth K A.ei "suits" aEi) (FEi:Fun K "suits" "Either.suits" sEiS aEi dEi) (bEi:Binds K dEi ["self", "kinds", "kind"] []):Stl P w K mg base CX A CK C:=by
 have cAl:=(N.all A.al (by unfold IsCond;simp)).cl;have cWa:=(N.all A.wa (by unfold IsCond;simp)).cl;have cIs:=(N.all A.is_ (by unfold IsCond;simp)).cl;have cMe:=(N.all A.me (by unfold IsCond;simp)).cl;have cOw:=(N.all A.ow (by unfold IsCond;simp)).cl;have cNo:=(N.all A.no (by unfold IsCond;simp)).cl;have cBo:=(N.all A.bo (by unfold IsCond;simp)).cl;have cEi:=(N.all A.ei (by unfold IsCond;simp)).cl;refine ⟨fun d X z=>?_,fun d IH X z=>?_,fun X z=>?_⟩
 ·rcases z with rfl | rfl | rfl | rfl | rfl
  ·exact ⟨⟨_,_,cAl,mAl,(ok_sAl N FAl).mono (by decide),bAl⟩⟩
  ·exact ⟨⟨_,_,cWa,mWa,(ok_sWa N FWa).mono (by decide),bWa⟩⟩
  ·exact ⟨⟨_,_,cIs,mIs,ok_sIs hC N FIs DH GH,bIs⟩⟩
  ·exact ⟨⟨_,_,cMe,mMe,(ok_sMe hC N FMe DP GP).mono (by decide),bMe⟩⟩
  ·exact ⟨⟨_,_,cOw,mOw,ok_sOw hC N KC KS FOw DH GH GO bO,bOw⟩⟩
 ·rcases z with rfl | rfl | rfl
  ·exact ⟨⟨_,_,cNo,mNo,ok_sNo hC N FNo IH,bNo⟩⟩
  ·exact ⟨⟨_,_,cBo,mBo,ok_sBo hC T N FBo IH,bBo⟩⟩
  ·exact ⟨⟨_,_,cEi,mEi,ok_sEi hC T N FEi IH,bEi⟩⟩
 ·rcases z with rfl | rfl | rfl
  ·exact ⟨_,_,cNo,mNo,bNo⟩
  ·exact ⟨_,_,cBo,mBo,bBo⟩
  ·exact ⟨_,_,cEi,mEi,bEi⟩
theorem chs_all {B:CB}{C:Addr}{d1 d2 d3:FuncData} (N:Cng K mg B) (G1:FnOk P w K mg base CX 3 B.sTm d1 ["self", "kind"] (spCS B C B.tm)) (b1:Binds K d1 ["self", "kind"] []) (G2:FnOk P w K mg base CX 3 B.sTs d2 ["self", "kind"] (spCS B C B.ts)) (b2:Binds K d2 ["self", "kind"] []) (G3:FnOk P w K mg base CX 3 B.sTt d3 ["self", "kind"] (spCS B C B.tt)) (b3:Binds K d3 ["self", "kind"] []):∀ X,IsChg B X→Disp P w K mg base CX 3 "suits" ["self", "kind"] (spCS B C X) X:=fun X h=>by
 have c:=(N.all X h).cl;unfold IsChg at h;rcases h with rfl | rfl | rfl
 ·exact ⟨⟨_,_,c,N.sTm,G1,b1⟩⟩
 ·exact ⟨⟨_,_,c,N.sTs,G2,b2⟩⟩
 ·exact ⟨⟨_,_,c,N.sTt,G3,b3⟩⟩
end
end L2.W
namespace L2.W
open PySem My
section
variable {P:Program}{w:World}{K:PySem.W.Frag}{mg:Str→Option Value}{base:Heap}{CX:CXT}
theorem cng_mk {B:CB} (hn:PySem.W.specialIn K (.builtin "object.__class__") "__get__" = some (some (.builtin "getset_descriptor.__get__"))) (htk:PySem.W.takesIn K (.builtin "object.__class__")=some true) (g:mg "Change" = some (.ref B.ch)) (gTm:mg "ToMake" = some (.ref B.tm)) (gTs:mg "ToSet" = some (.ref B.ts)) (gTt:mg "ToTake" = some (.ref B.tt)) (gRu:mg "Rule" = some (.ref B.ru)) (gHa:mg "Hand" = some (.ref B.ha))
  (ck:ckAll K B.ch [(B.tm,["fields"]),(B.ts,["field", "value"]),(B.tt,[])]=true) (ckR:ckAll K B.ru [(B.ru,["kind", "change", "condition", "behind"])]=true) (ckH:ckAll K B.ha [(B.ha,["name", "rules"])]=true) (nTt:PySem.W.findIn K (.ref B.tt) "__init__" = some (some (.builtin "object.__init__"))) (nd:[B.tm,B.ts,B.tt].Nodup) (iTm:PySem.W.findIn K (.ref B.tm) "__init__" = some (some (.ref B.fTm))) (jTm:PySem.W.isFn K (.ref B.fTm)=true) (iTs:PySem.W.findIn K (.ref B.ts) "__init__" = some (some (.ref B.fTs))) (jTs:PySem.W.isFn K (.ref B.fTs)=true)
  (iRu:PySem.W.findIn K (.ref B.ru) "__init__" = some (some (.ref B.fRu))) (jRu:PySem.W.isFn K (.ref B.fRu)=true) (iHa:PySem.W.findIn K (.ref B.ha) "__init__" = some (some (.ref B.fHa))) (jHa:PySem.W.isFn K (.ref B.fHa)=true) (sTm:Meth K B.tm "suits" B.sTm) (sTs:Meth K B.ts "suits" B.sTs) (sTt:Meth K B.tt "suits" B.sTt):Cng K mg B:=by
 have k1:CkO K B.ch B.tm ["fields"]:=zC6 hn htk ck (.head _);have k2:CkO K B.ch B.ts ["field", "value"]:=zC6 hn htk ck (.tail _ (.head _));have k3:CkO K B.ch B.tt []:=zC6 hn htk ck (.tail _ (.tail _ (.head _)));have k4:CkO K B.ru B.ru ["kind", "change", "condition", "behind"]:=zC6 hn htk ckR (.head _);have k5:CkO K B.ha B.ha ["name", "rules"]:=zC6 hn htk ckH (.head _)
 exact ⟨(fun C h=>by
  unfold IsChg at h;rcases h with rfl | rfl | rfl
  ·exact k1.c
  ·exact k2.c
  ·exact k3.c),g,gTm,⟨k1.ms,iTm,jTm,k1.kp⟩,gTs,⟨k2.ms,iTs,jTs,k2.kp⟩,gTt,⟨k3.ms,nTt,k3.kp⟩,nd,k1.no _ (.head _),k2.no _ (.head _),k2.no _ (.tail _ (.head _)),k4.c.cl,gRu,⟨k4.ms,iRu,jRu,k4.kp⟩,k4.no _ (.head _),k4.no _ (.tail _ (.head _)),k4.no _ (.tail _ (.tail _ (.head _))),k4.no _ (.tail _ (.tail _ (.tail _ (.head _)))),sTm,sTs,sTt,k4.c.ki,k5.c.cl,k5.c.ki,gHa,⟨k5.ms,iHa,jHa,k5.kp⟩,k5.no _ (.head _),k5.no _ (.tail _ (.head _))⟩
end
end L2.W
namespace L2.W
open PySem My
theorem nd_le:∀ {xs ys:List Str},xs.Nodup→(∀ x∈xs,x∈ys)→xs.length≤ys.length
 | [],_,_,_=>Zm _
 | x :: xs,ys,nd,h=>by
  have hx:=h x Zg;have:=nd_le (xs:=xs) (ys:=ys.erase x) (List.nodup_cons.mp nd).2 (fun y hy=>(List.mem_erase_of_ne (fun (e:y=x)=>(List.nodup_cons.mp nd).1 (e ▸ hy))).mpr (h y (Zb _ hy)));rw [List.length_erase_of_mem hx] at this;have:=List.length_pos_of_mem hx;rw [Zj];omega
theorem src_cut {S:List Addr}{H:Hp}{q:Addr}{k:Int} (h:Src H q k) (n:q∉S):Src (cutH S H) q k:=by
 obtain ⟨a,c,j,e,r⟩:=h;exact ⟨a,c,j,by rw [zB7 n];exact e,r⟩
theorem src_put {S:List Addr}{H H':Hp}{q:Addr}{k:Int} (h:Src H' q k) (n:q∉S):Src (putH S H H') q k:=by
 obtain ⟨a,c,j,e,r⟩:=h;exact ⟨a,c,j,by rw [zBf n];exact e,r⟩
theorem zFe {S:List Addr}{H H':Hp}{q:Addr} (h:ButS q (cutH S H) H'):ButS q H (putH S H H'):=fun b o e n=>by
 by_cases m:b∈S
 ·rw [putH_in m];exact e
 ·rw [zBf m];exact h b o (by rw [zB7 m];exact e) n
theorem has_put {S:List Addr}{H H':Hp}{G:Addr→Prop}{v:V}{d:PyData} (n:∀ a∈S,H' a=none) (h:Has G H' v d):Has (fun a=>G a∧a∉S) (putH S H H') v d:=h.frame fun a o g e=>by
 have m:a∉S:=fun m=>by rw [n a m] at e;cases e
 exact ⟨⟨g,m⟩,by rw [zBf m];exact e⟩
theorem has_cut {S:List Addr}{H:Hp}{G:Addr→Prop}{v:V}{d:PyData} (h:Has (fun a=>G a∧a∉S) H v d):Has G (cutH S H) v d:=h.frame fun a o g e=>⟨g.1,by rw [zB7 g.2];exact e⟩
noncomputable def Rl.d (x:Rl):PyData:=ruleD x.n x.c x.t x.bs
noncomputable abbrev Rl.ok (x:Rl):Prop:=RlOk x.n x.c x.t x.bs
theorem all_snoc {α : Type} (p : α→Bool) (xs:List α) (x : α):(xs++[x]).all p=(xs.all p && p x):=by rw [List.all_append,Zy,List.all_nil,Bool.and_true]
structure LI (A:CA) (B:CB) (H8 H:Hp) (q lh ln:Addr) (hs:List (Str×List Rl)) (hv:List V) (i:Nat):Prop where
 len:hs.length=i
 ok:∀ h∈hs,nameOk h.1∧h.2.length≤100∧∀ x∈h.2,x.ok
 n1:lh≠q
 n2:ln≠q
 n3:lh≠ln
 el:H lh=some (.lst hv)
 en:H ln=some (.lst ((hs.map (·.1)).map V.str))
 ha:Paired (HaIn A B (cutH [q,lh,ln] H)) hv hs
 f1:H8 lh=none
 f2:H8 ln=none
 b:ButS q H8 H
theorem LI.but {A:CA}{B:CB}{H8 H H':Hp}{q lh ln:Addr}{hs:List (Str×List Rl)}{hv:List V}{i:Nat} (h:LI A B H8 H q lh ln hs hv i) (b:ButS q H H'):LI A B H8 H' q lh ln hs hv i :=
 ⟨h.len,h.ok,h.n1,h.n2,h.n3,b _ _ h.el h.n1,b _ _ h.en h.n2,zBh h.ha fun _ _ r=>r.same (zFb fun c o e m=>b c o e (fun z=>m (by rw [z];exact Zg))),h.f1,h.f2,h.b.trans b⟩
theorem LI.lsts {A:CA}{B:CB}{H8 H:Hp}{q lh ln:Addr}{hs:List (Str×List Rl)}{hv:List V}{i:Nat} (h:LI A B H8 H q lh ln hs hv i):∀ a∈[lh,ln],∃ xs,H a=some (.lst xs):=fun a m=>by
 rcases List.mem_cons.mp m with rfl | m
 ·exact ⟨_,h.el⟩
 ·rw [List.mem_singleton.mp m];exact ⟨_,h.en⟩
theorem LI.nq {A:CA}{B:CB}{H8 H:Hp}{q lh ln:Addr}{hs:List (Str×List Rl)}{hv:List V}{i:Nat} (h:LI A B H8 H q lh ln hs hv i):q∉[lh,ln]:=fun m=>by
 rcases List.mem_cons.mp m with z | m
 ·exact h.n1 z.symm
 ·exact h.n2 (List.mem_singleton.mp m).symm
theorem LI.has {A:CA}{B:CB}{H8 H:Hp}{q lh ln:Addr}{hs:List (Str×List Rl)}{hv:List V}{i:Nat} (h:LI A B H8 H q lh ln hs hv i) {v:V}{d:PyData} (x:Has (fun a=>a≠q) H8 v d):Has (fun a=>a≠q∧a∉[lh,ln]) H v d:=x.frame fun a o g e=>⟨⟨g,fun m=>by
 rcases List.mem_cons.mp m with z | m
 ·rw [z,h.f1] at e;cases e
 ·rw [List.mem_singleton.mp m,h.f2] at e;cases e⟩,h.b a o e g⟩
theorem but_G {q:Addr}{G:Addr→Prop}{H H':Hp}{vs:List V}{ds:List PyData} (h:HasAll (fun a=>a≠q∧G a) H vs ds) (b:ButS q H H'):HasAll (fun a=>a≠q∧G a) H' vs ds:=h.frame fun a o g e=>⟨g,b a o e g.1⟩
theorem rl_refs {A:CA}{B:CB}{H:Hp}:∀ {vs:List V}{xs:List Rl},Paired (RlAt A B H) vs xs→∃ ps:List Addr,vs=ps.map V.ref∧∀ p∈ps,IsRu B H p
 | _,_,.nil=>⟨[],rfl,fun _ h=>nomatch h⟩
 | _,_,.cons r t=>by
  obtain ⟨p,pc,pt,l,rfl,ru⟩:=r;obtain ⟨ps,rfl,h⟩:=rl_refs t;obtain ⟨dx,e⟩:=ru.e
  exact ⟨p :: ps,rfl,fun z m=>by
   rcases List.mem_cons.mp m with rfl | m
   ·exact ⟨_,_,e⟩
   ·exact h z m⟩
theorem ha_refs {A:CA}{B:CB}{H:Hp}:∀ {vs:List V}{xs:List (Str×List Rl)},Paired (HaIn A B H) vs xs→(∀ v∈vs,∃ c,v=.ref c)∧∀ v∈vs,∃ p dx fs,v=.ref p∧H p=some (.ins B.ha dx fs)
 | _,_,.nil=>⟨(fun _ h=>nomatch h),(fun _ h=>nomatch h)⟩
 | _,_,.cons r t=>by
  obtain ⟨p,dx,l,ws,rfl,e,_⟩:=r;obtain ⟨h1,h2⟩:=ha_refs t;refine ⟨fun z m=>?_,fun z m=>?_⟩
  ·rcases List.mem_cons.mp m with rfl | m
   ·exact ⟨_,rfl⟩
   ·exact h1 z m
  ·rcases List.mem_cons.mp m with rfl | m
   ·exact ⟨_,_,_,rfl,e⟩
   ·exact h2 z m
noncomputable def NoHs (B:CB) (K:PySem.W.Frag) (H:Hp) (v:V):Prop:=(∃ t,TyOf K H v t∧PySem.W.kitOne K t (.type "list")=some false) ∨
 ∃ (lh:Addr) (hv:List V) (bits:List Bool),v=.ref lh∧H lh=some (.lst hv)∧hv.length≤100∧bits.length=hv.length∧(∀ (i:Nat) (x:V) (b:Bool),hv[i]? = some x→bits[i]? = some b→∃ t,TyOf K H x t∧PySem.W.kitOne K t (.ref B.ha)=some b)∧bits.all id=false
theorem _root_.L2.TyOf.same {K:PySem.W.Frag}{H H':Hp}{v:V}{t:Value} (h:TyOf K H v t) (s:Same H H'):TyOf K H' v t:=by
 cases h with
 | non=>exact .non
 | bl x=>exact .bl x
 | int i=>exact .int i
 | str x=>exact .str x
 | flt x=>exact .flt x
 | lst e=>exact .lst (s _ _ e)
 | frz e=>exact .frz (s _ _ e)
 | tup e=>exact .tup (s _ _ e)
 | dK e=>exact .dK (s _ _ e)
 | dT e=>exact .dT (s _ _ e)
 | ins e a b c d f=>exact .ins (s _ _ e) a b c d f
theorem NoHs.same {B:CB}{K:PySem.W.Frag}{H H':Hp}{v:V} (h:NoHs B K H v) (s:Same H H'):NoHs B K H' v:=by
 rcases h with ⟨t,ty,k⟩ | ⟨lh,hv,bits,e,hl,h1,h2,h3,h4⟩
 ·exact .inl ⟨t,ty.same s,k⟩
 ·exact .inr ⟨lh,hv,bits,e,s _ _ hl,h1,h2,fun i x b h b'=>let ⟨t,ty,k⟩:=h3 i x b h b';⟨t,ty.same s,k⟩,h4⟩
noncomputable def OddV (B:CB) (K:PySem.W.Frag) (H:Hp) (v:V):Prop:=∃ t,TyOf K H v t∧PySem.W.kitOne K t (.type "list")=some false∧PySem.W.kitOne K t (.ref B.ha)=some false
structure OddK (K:PySem.W.Frag) (A:CA) (B:CB):Prop where
 n:PySem.W.kitOne K (.type "NoneType") (.ref B.ha)=some false
 s:PySem.W.kitOne K (.type "str") (.ref B.ha)=some false
 i:PySem.W.kitOne K (.type "int") (.ref B.ha)=some false
 r:PySem.W.kitOne K (.ref B.ru) (.ref B.ha)=some false
 a:PySem.W.kitOne K (.ref A.al) (.ref B.ha)=some false
 rl:PySem.W.kitOne K (.ref B.ru) (.type "list")=some false
 al:PySem.W.kitOne K (.ref A.al) (.type "list")=some false
theorem noHs_mid {B:CB}{K:PySem.W.Frag}{H:Hp}{hv:List V}{odd:V}{l:Addr}{j:Nat} (hcl:Cls K B.ha) (hI:KIsi K B.ha) (h10:hv.length≤10) (hr:∀ v∈hv,∃ p dx fs,v=.ref p∧H p=some (.ins B.ha dx fs)) (od:OddV B K H odd) (hj:j≤hv.length) (hl:H l=some (.lst (hv.take j++[odd]++hv.drop j))):NoHs B K H (.ref l):=by
 have tl:(hv.take j).length=j:=by rw [Zl];omega
 refine .inr ⟨l,_,List.replicate j true++[false]++List.replicate (hv.length - j) true,rfl,hl,?_,?_,fun i x b hi hb=>?_,?_⟩
 ·simp only [Zc,tl,Yb,List.length_singleton];omega
 ·simp only [Zc,tl,Yb,List.length_singleton,Zp]
 ·obtain ⟨t,ty,_,k2⟩:=od;have hand:∀ x∈hv,∃ t,TyOf K H x t∧PySem.W.kitOne K t (.ref B.ha)=some true:=fun x hx=>by
   obtain ⟨p,dx,fs,rfl,e⟩:=hr x hx;exact ⟨_,.ins e hcl hI.ha hI.hn hI.htk hI.hm,hI.one⟩
  rcases Nat.lt_trichotomy i j with lt | rfl | gt
  ·rw [List.append_assoc,Zn (by rw [tl];exact lt)] at hi;rw [List.append_assoc,Zn (by rw [Zp];exact lt),List.getElem?_replicate,if_pos lt] at hb;cases hb;exact hand x (Yj (Z3 hi))
  ·rw [List.append_assoc,Zt (by rw [tl];exact Z7 _),tl,Nat.sub_self] at hi;rw [List.append_assoc,Zt (by rw [Zp];exact Z7 _),Zp,Nat.sub_self] at hb;cases hi;cases hb;exact ⟨t,ty,k2⟩
  ·rw [Zt (by rw [Zc,tl];exact gt)] at hi;rw [Zt (by rw [Zc,Zp];exact gt),List.getElem?_replicate] at hb;split at hb
   ·cases hb;exact hand x (List.mem_of_mem_drop (Z3 hi))
   ·cases hb
 ·simp
end L2.W
namespace L2.W
open PySem My
structure Asks34 (P:Program) (w:World) (K:PySem.W.Frag) (mg:Str→Option Value) (base:Heap) (A:CA) (B:CB) (C CK CN fc fd fn fk fm fr fo fs ft fw Pt:Addr) (dc dd dn dk dm dr do_ ds dt dw dh dru:FuncData):Prop where
 T:Tops K mg
 N:Cng K mg B
 NC:Cnd K mg A
 O:OddK K A B
 Dc:Def K mg "_law_cell_at" sCellAt ["_law_script", "_law_k"] fc dc
 Gc:FnOk P w K mg base (CXM P w) 1 fc dc ["_law_script", "_law_k"] (spCellAt K)
 Dd:Def K mg "_law_digits" sDigits ["_law_cell"] fd dd
 Gd:FnOk P w K mg base (CXM P w) 1 fd dd ["_law_cell"] spDigits
 Dn:Def K mg "_law_next" sNext ["_law_source", "_law_many"] fn dn
 Gn:FnOk P w K mg base (CXM P w) 2 fn dn ["_law_source", "_law_many"] spNext
 Dk:Def K mg "_law_kinds" sKinds ["_law_source"] fk dk
 Gk:FnOk P w K mg base (CXM P w) 3 fk dk ["_law_source"] spKinds
 Dm:Def K mg "_law_made" sMade ["_law_spec"] fm dm
 Gm:FnOk P w K mg base (CXM P w) 7 fm dm ["_law_spec"] (spMade CK C Pt)
 Dr:Def K mg "_law_rule" sRule ["_law_source", "_law_spec", "_law_strange"] fr dr
 Gr:FnOk P w K mg base (CXM P w) 8 fr dr ["_law_source", "_law_spec", "_law_strange"] spRul
 Do:Def K mg "_law_rule_object" sRuleObject ["_law_rule_here"] fo do_
 Go:FnOk P w K mg base (CXM P w) 8 fo do_ ["_law_rule_here"] (spRObj A B)
 Ds:Def K mg "_law_suits" sSuits ["_law_rule_here", "_law_spec"] fs ds
 Gs:FnOk P w K mg base (CXM P w) 7 fs ds ["_law_rule_here", "_law_spec"] spLSu
 Dt:Def K mg "_law_turned" sTurned ["_law_source", "_law_rule_here"] ft dt
 Gt:FnOk P w K mg base (CXM P w) 3 ft dt ["_law_source", "_law_rule_here"] spTur
 Dw:Def K mg "_law_word" sWord ["_law_kinds_here", "_law_hands"] fw dw
 Gw:FnOk P w K mg base (CXM P w) 10 fw dw ["_law_kinds_here", "_law_hands"] (spWd A B CK C CN K)
 Gh:FnOk P w K mg base (CXM P w) 2 B.fHa dh ["self", "name", "rules"] (spHI B)
 bH:Binds K dh ["self", "name", "rules"] []
 GR:FnOk P w K mg base (CXM P w) 4 B.fRu dru ["self", "kind", "change", "condition", "behind"] (spRu A B)
 bR:Binds K dru ["self", "kind", "change", "condition", "behind"] []
noncomputable abbrev nL34:List Str:=["_law_script", "_law_source", "_law_spec", "_law_kinds_here", "_law_strange", "_law_good", "_law_hands", "_law_names", "_law_many", "_law_k", "_law_lots", "_law_rules", "_law_handed", "_law_odd", "_law_at", "_law_thing"]
noncomputable def spLaw34 (K:PySem.W.Frag) (Pt:Addr):Sp:=fun vs H Q _=>∃ (a:Addr) (ns:List Int),vs=[.ref a]∧SqL K H a (ns.map V.int)∧ns.length≤63∧TabOk H Pt lamPos lamQ∧∀ H',Q (.bl true) H'
theorem and_go {te:TE}{σ : St}{good b2:Bool}{Q:VK}{H:Hp} (h:good=true→∀ Q':VK,(∀ H',Same H H'→Q' (.bl b2) H')→te σ H Q') (q:∀ H',Same H H'→Q (.bl (good && b2)) H'):if good=true then te σ H Q else Q (.bl false) H:=by
 cases good with
 | true=>exact iteT (h rfl _ fun H' s=>q H' s)
 | false=>exact iteF (q H (Same.refl _))
theorem pick2 {x y:V}{b:Bool}:atI [x,y] (if b then 1 else 0)=some (if b then y else x):=by cases b <;> rfl
theorem k_bl {R:Bool→Prop}{B:Prop} (t:∀ b,R b) (h:(∀ b,R b)→B):B:=h t
theorem hn_ok:∀ x∈(["one", "ones", "on", "hand", "hands"]:List Str),nameOk x:=zDy (by decide +kernel)
section
variable {P:Program}{w:World}{K:PySem.W.Frag}{mg:Str→Option Value}{base:Heap}
theorem scL34:FnScope nL34 ["_law_script"] (defScope sLaw):=⟨rfl,rfl,rfl,by decide +kernel,rfl,by decide +kernel,by decide +kernel⟩
set_option maxHeartbeats 8000000 in
theorem ok_law34 {f C CK CN fc fd fn fk fm fr fo fs ft fw Pt:Addr}{fdl dc dd dn dk dm dr do_ ds dt dw dh dru:FuncData}{A0:CA}{B:CB} (F:Fun K "law" "law" sLaw f fdl) (A:Asks34 P w K mg base A0 B C CK CN fc fd fn fk fm fr fo fs ft fw Pt dc dd dn dk dm dr do_ ds dt dw dh dru):FnOk P w K mg base (CXM P w) 11 f fdl ["_law_script"] (spLaw34 K Pt):=by
 have T:=A.T;have N:=A.N;have hC:Calm (CXM P w):=calmM;refine Fun.okC F scL34 (fun vs H Q E h=>?_) (fun cdv Ar outer s H vs Q E hr h=>?_)
 ·obtain ⟨a,ns,rfl,_⟩:=h;rfl
 obtain ⟨a,nums,rfl,hS,hlen,hT,k⟩:=h;have nd:=scL34.nd;have hr1:=hr.mono (show 1≤10 by decide);have hr2:=hr.mono (show 2≤10 by decide);have hr3:=hr.mono (show 3≤10 by decide);have hr5:=hr.mono (show 5≤10 by decide);have hr7:=hr.mono (show 7≤10 by decide);have hr8:=hr.mono (show 8≤10 by decide)
 refine ⟨_,zA3 (zAk (i:=1) nd rfl (Or.inr rfl) (zA6 A.Gd hr1 rfl A.Dd.at_ A.Dd.fn.kp A.Dd.bind .nil (passC hC) (zA0 (zA6 A.Gc hr1 rfl A.Dc.at_ A.Dc.fn.kp A.Dc.bind .nil (passC hC) (zA0 (pv 0) (zA0 zA4 zA2))) zA2)))
    (zA3 (zAk (i:=2) nd rfl (Or.inr rfl) (zA6 A.Gk hr3 rfl A.Dk.at_ A.Dk.fn.kp A.Dk.bind .nil (passC hC) (zA0 (pv 1) zA2)))
    (zA3 (zAk (i:=3) nd rfl (Or.inl rfl) (zA6 A.Gm hr7 rfl A.Dm.at_ A.Dm.fn.kp A.Dm.bind .nil (passC hC) (zA0 (pv 2) zA2)))
    (zA3 (zAk (i:=4) nd rfl (Or.inr rfl) (zB0 op_gt (zA6 A.Gn hr2 rfl A.Dn.at_ A.Dn.fn.kp A.Dn.bind .nil (passC hC) (zA0 (pv 1) (zA0 zA4 zA2))) zA4 (nomark _)))
    (zA3 (zAk (i:=5) nd rfl (Or.inl rfl) zCd)
    (zA3 (zAk (i:=6) nd rfl (Or.inl rfl) (zAm zA2))
    (zA3 (zAk (i:=7) nd rfl (Or.inl rfl) (zAm zA2))
    (zA3 (zAk (i:=8) nd rfl (Or.inl rfl) (zAh zAr (zAm (zA0 (zA6 A.Gn hr2 rfl A.Dn.at_ A.Dn.fn.kp A.Dn.bind .nil (passC hC) (zA0 (pv 1) (zA0 zA4 zA2))) (zA0 zA4 zA2))) (zAn zC8 rfl T.int PyProof.Rows.boot_int (zA0 (zB0 zBc (zA6 A.Gn hr2 rfl A.Dn.at_ A.Dn.fn.kp A.Dn.bind .nil (passC hC) (zA0 (pv 1) (zA0 zA4 zA2))) zA4 (nomark _)) zA2)) (fun _ _=>rfl)))
    (zA3 (zCv PassesOwn.never rfl (zBq rfl T.range (zA0 (pv 8) zA2)) (zAd (i:=9) nd rfl (Or.inl rfl))
    (zA3 (zAk (i:=10) nd rfl (Or.inl rfl) (zAh zAr (zAm (zA0 (zA6 A.Gn hr2 rfl A.Dn.at_ A.Dn.fn.kp A.Dn.bind .nil (passC hC) (zA0 (pv 1) (zA0 zA4 zA2))) (zA0 zA4 zA2))) (zAn zC8 rfl T.int PyProof.Rows.boot_int (zA0 (zBr (zB0 zBc (pv 8) zA4 (nomark _)) (zBx (zB0 zBc (pv 9) zA4 (nomark _)))) zA2)) (fun _ _=>rfl)))
    (zA3 (zB4 (T:=["_law_j"]) (i:=11) rfl ScOk.auto (zBq rfl T.range (zA0 (pv 10) zA2)) (fun _ _ _ _=>zAd (i:=16) (by decide +kernel:(["_law_script", "_law_source", "_law_spec", "_law_kinds_here", "_law_strange", "_law_good", "_law_hands", "_law_names", "_law_many", "_law_k", "_law_lots", "_law_rules", "_law_handed", "_law_odd", "_law_at", "_law_thing", "_law_j"]:List Str).Nodup) rfl (Or.inl rfl)) (fun _ _ _ _=>zAy) (fun _ _ _ _=>(zA6 (A.Gr.frame hC) hr8 rfl A.Dr.at_ A.Dr.fn.kp A.Dr.bind .nil (passC hC) (zA0 (pv 1) (zA0 (pv 2) (zA0 (pv 4) zA2))))) nd rfl rfl rfl)
    (zA3 (zAq (zAl (pv 4))
    (zA5 (zB4 (T:=["_law_rule_here"]) (i:=11) rfl ScOk.auto (zAj (pv 11)) (fun _ _ _ _=>zAd (i:=16) (by decide +kernel:(["_law_script", "_law_source", "_law_spec", "_law_kinds_here", "_law_strange", "_law_good", "_law_hands", "_law_names", "_law_many", "_law_k", "_law_lots", "_law_rules", "_law_handed", "_law_odd", "_law_at", "_law_thing", "_law_rule_here"]:List Str).Nodup) rfl (Or.inl rfl)) (fun _ _ _ _=>zAy) (fun _ _ _ _=>(zA6 (A.Gt.frame hC) hr3 rfl A.Dt.at_ A.Dt.fn.kp A.Dt.bind .nil (passC hC) (zA0 (pv 1) (zA0 (pv 16) zA2)))) nd rfl rfl rfl)) zAb)
    (zA3 (zAk (i:=5) nd rfl (Or.inl rfl) (zBr (pv 5) (zBx (zAa (zB3 rfl) rfl T.all PyProof.Rows.boot_all (zA0 (zAt (T:=["_law_rule_here"]) rfl ScOk.auto (zAj (pv 11)) (fun _ _ _ _=>zAd (i:=16) (by decide +kernel:(["_law_script", "_law_source", "_law_spec", "_law_kinds_here", "_law_strange", "_law_good", "_law_hands", "_law_names", "_law_many", "_law_k", "_law_lots", "_law_rules", "_law_handed", "_law_odd", "_law_at", "_law_thing", "_law_rule_here"]:List Str).Nodup) rfl (Or.inl rfl)) (fun _ _ _ _=>zAy) (fun _ _ _ _=>(zA6 A.Gs hr7 rfl A.Ds.at_ A.Ds.fn.kp A.Ds.bind .nil (passC hC) (zA0 (pv 16) (zA0 (pv 2) zA2))))) zA2)))))
    (zA3 (zBn (pe_bm PySem.F.plainAttrs_list PySem.F.slot_list_append PySem.F.type_list_append zCl (pv 7) (zA0 (zAh zAr (zAm (zA0 zAf (zA0 zAf (zA0 zAf (zA0 zAf (zA0 zAf zA2)))))) (zAx zCj (zAx zBs (pv 9) (zAx zDw (zA6 A.Gn hr2 rfl A.Dn.at_ A.Dn.fn.kp A.Dn.bind .nil (passC hC) (zA0 (pv 1) (zA0 zA4 zA2))) zA4)) zA4) (fun _ _=>rfl)) zA2)))
    (zA5 (zBn (pe_bm PySem.F.plainAttrs_list PySem.F.slot_list_append PySem.F.type_list_append zCl (pv 6) (zA0 (zBg N.kHa A.Gh hr3 rfl N.gHa A.bH .nil (passC hC) (zA0 (zAh zAr (pv 7) (pe_un un_neg zA4) (fun _ _=>rfl)) (zA0 (zAt (T:=["_law_rule_here"]) rfl ScOk.auto (zAj (pv 11)) (fun _ _ _ _=>zAd (i:=16) (by decide +kernel:(["_law_script", "_law_source", "_law_spec", "_law_kinds_here", "_law_strange", "_law_good", "_law_hands", "_law_names", "_law_many", "_law_k", "_law_lots", "_law_rules", "_law_handed", "_law_odd", "_law_at", "_law_thing", "_law_rule_here"]:List Str).Nodup) rfl (Or.inl rfl)) (fun _ _ _ _=>zAy) (fun _ _ _ _=>(zA6 (A.Go.frame hC) hr8 rfl A.Do.at_ A.Do.fn.kp A.Do.bind .nil (passC hC) (zA0 (pv 16) zA2)))) zA2))) zA2))))))))))
    (zA3 (zAk (i:=5) nd rfl (Or.inl rfl) (zBr (pv 5) (zBx (zB0 zBc (zAa zC7 rfl T.len PySem.boot_len (zA0 (zAn (zD8 rfl) rfl T.set PyProof.Rows.boot_set (zA0 (pv 7) zA2)) zA2)) (zAa zAp rfl T.len PySem.boot_len (zA0 (pv 7) zA2)) (nomark _)))))
    (zA3 (zAk (i:=12) nd rfl (Or.inl rfl) (zAn zAz rfl T.list PyProof.Rows.boot_list (zA0 (pv 6) zA2)))
    (zA3 (zAq (PW.pt (zC0 (zAg op_ne (zA6 A.Gw hr rfl A.Dw.at_ A.Dw.fn.kp A.Dw.bind .nil (passC hC) (zA0 (pv 3) (zA0 (pv 12) zA2))) (zAh zAr (zAm (zA0 zAf (zA0 zAf zA2))) (zAn zC8 rfl T.int PyProof.Rows.boot_int (zA0 (pv 5) zA2)) (fun _ _=>rfl)) (nomark _)) (zBd (zAg (op_neL hr.units) (pv 12) (pv 6) (nomark _)))))
    (zA5 (zAc zCd)) zAb)
    (zA3 (zAk (i:=13) nd rfl (Or.inl rfl) (zAh zAr (zAm (zA0 zBo (zA0 zAf (zA0 (zBg N.kRu A.GR hr5 rfl N.gRu A.bR .nil (passC hC) (zA0 zAf (zA0 (zBy N.kTt rfl N.gTt) (zA0 (zBy A.NC.kAl rfl A.NC.gAl) (zA0 (zAm zA2) zA2))))) (zA0 (zBy A.NC.kAl rfl A.NC.gAl) (zA0 zA4 zA2)))))) (zA6 A.Gn hr2 rfl A.Dn.at_ A.Dn.fn.kp A.Dn.bind .nil (passC hC) (zA0 (pv 1) (zA0 zA4 zA2))) (fun _ _=>rfl)))
    (zA3 (zAk (i:=14) nd rfl (Or.inl rfl) (zA6 A.Gn hr2 rfl A.Dn.at_ A.Dn.fn.kp A.Dn.bind .nil (passC hC) (zA0 (pv 1) (zA0 (zAx zBs (zAa zAp rfl T.len PySem.boot_len (zA0 (pv 6) zA2)) zA4) zA2))))
    (zA3 (zCv PassesOwn.never rfl (zAj (zAm (zA0 (zAx zDx (zAx zDx (zBp zDr (pv 6) zCx (zCa (pv 14))) (zAm (zA0 (pv 13) zA2))) (zBp zDr (pv 6) (zCa (pv 14)) zCx)) (zA0 (zAn zFd rfl T.tuple PyProof.Rows.boot_tuple (zA0 (pv 6) zA2)) (zA0 zBo (zA0 (pv 13) zA2)))))) (zAd (i:=15) nd rfl (Or.inl rfl))
    (zA5 (zAq (zAg op_ne (zA6 A.Gw hr rfl A.Dw.at_ A.Dw.fn.kp A.Dw.bind .nil (passC hC) (zA0 (pv 3) (zA0 (pv 15) zA2))) zAf (nomark _))
    (zA5 (zAc zCd)) zAb)))
    (zA5 (zAc (zB0 zBc (zA6 A.Gw hr rfl A.Dw.at_ A.Dw.fn.kp A.Dw.bind .nil (passC hC) (zA0 (pv 3) (zA0 (zAm zA2) zA2))) zAf (nomark _)))))))))))))))))),?_⟩
 have small:∀ n:Nat,n≤1000→n≤sizeLine:=fun n h=>Zi (small1000 h);refine ⟨_,rfl,a,nums,rfl,hS,fun z0=>⟨z0,rfl,fun q H1 hq S1 s1 k1=>?_⟩⟩;refine ⟨_,rfl,q,0,rfl,S1,by decide,fun l rs H2 dr S2 B2=>?_⟩;have rp:RowsP rs:=⟨_,dr.ok,List.Perm.refl _⟩;have le4:=dr.le;have ge1:=rp.le.1;have hT1:=hT.same s1;have noq:∀ {Hx:Hp}{j:Int},Src Hx q j→∀ {b:Addr}{o:HO},Hx b=some o→(∀ xs,o≠.lst xs)→b≠q:=fun S b o e h z=>by
  obtain ⟨_,_,_,e',_⟩:=S;rw [z,e'] at e;exact h _ (Zk e).symm
 have hT2:TabOk H2 Pt lamPos lamQ:=hT1.gen fun b o e h=>B2 b o e (noq S1 e (by
  rcases h with h | ⟨f,h⟩
  ·obtain ⟨ps,ep⟩:=TabOk.tb hT1;rw [h,ep] at e;cases e;exact fun _ z=>nomatch z
  ·rw [h];exact fun _ z=>nomatch z))
 have hq1:H1 q≠none:=by obtain ⟨_,_,_,e,_⟩:=S1;rw [e];exact fun z=>nomatch z
 have hl2:Has (fun a=>a≠q) H2 (.ref l) (.list (rs.map rowD)):=dr.has.frame fun b o g e=>⟨fun z=>hq1 (z ▸ g),e⟩;refine ⟨_,rfl,l,rs,rfl,hl2.any,rp,hT2,fun kq d ord kvs zs H8 ka nq8 nd8 hzs kf zr pl gr ol8 T8 g8=>?_⟩;have op:ord.Perm (zs.map fun z=>z.2.name):=by
  have:=ord_perm gr ol8 rp.nd;rw [← zr,Y0] at this;exact this
 have ndz:(zs.map fun z=>z.2.name).Nodup:=by
  have:=rp.nd;rw [← zr,Y0] at this;exact this
 have hl8:=has_grown hl2 hT2 g8;have S8:Src H8 q 60:=by
  obtain ⟨a1,c1,j1,e1,r1⟩:=S2;exact ⟨a1,c1,j1,g8 _ _ e1 (hT2.ne e1 fun _ z=>nomatch z),r1⟩
 have hq2:H2 q≠none:=by obtain ⟨_,_,_,e,_⟩:=S2;rw [e];exact fun z=>nomatch z
 have kdx:∀ {Hx:Hp},ButS q H8 Hx→Kd CK C Hx kq rs:=fun {Hx} b=>by
  have ka':KindsAt CK Hx kq d kvs:=ka.mono fun b' o e hs=>b _ _ e (noq S8 e (by rcases hs with ⟨_,_,_,rfl⟩ | ⟨_,rfl⟩ | ⟨_,_,rfl⟩ <;> exact fun _ z=>nomatch z));have:=kdOf ka' ndz (G:=Any) (fun z hz=>(kf z hz).frame (fun b' o e ⟨_,_,_,eo⟩=>b _ _ e (noq S8 e (by rw [eo];exact fun _ z=>nomatch z))) fun b' o g _ e=>⟨trivial,b _ _ e fun z=>hq2 (z ▸ g)⟩) pl op;rw [zr] at this;exact this
 clear hT1 hT2 T8 g8 hl2 S2 B2 S1 hT;refine ⟨_,rfl,q,3,_,rfl,S8,by decide,by decide,by decide,fun r9 H9 _ _ S9 k9=>⟨_,_,rfl,rfl,?_⟩⟩;have b9:ButS q H8 H9:=ButS.eq k9;obtain ⟨bs0,eb0⟩:∃ b,b=decide ((0:Int) < r9):=⟨_,rfl⟩;refine ⟨Zm _,fun lh f6=>⟨Zm _,fun ln f7=>?_⟩⟩;have e9l:(upd (upd H9 lh (.lst [])) ln (.lst [])) lh=some (.lst []):=(Same.new f7) _ _ zA1;have e9n:(upd (upd H9 lh (.lst [])) ln (.lst [])) ln=some (.lst []):=zA1;have s9:Same H9 (upd (upd H9 lh (.lst [])) ln (.lst [])):=(Same.new f6).trans (Same.new f7);have nl:lh≠ln:=fun z=>by rw [← z,zA1] at f7;cases f7
 have nlq:lh≠q:=S9.nw f6;have nnq:ln≠q:=(S9.up (Same.new f6)).nw f7;have f1:H8 lh=none:=by rw [← k9 lh nlq];exact f6
 have f2:H8 ln=none:=by rw [← k9 ln nnq];exact (Same.new (o:=.lst []) f6).free f7
 have S9b:=S9.up s9;have b9b:=b9.trans (ButS.same s9);generalize upd (upd H9 lh (.lst [])) ln (.lst [])=H9b at e9l e9n S9b b9b;have L9:LI A0 B H8 H9b q lh ln [] [] 0:=⟨rfl,(fun _ h=>nomatch h),nlq,nnq,nl,e9l,e9n,.nil,f1,f2,b9b⟩;clear e9l e9n b9b s9;refine ⟨_,rfl,q,4,_,rfl,S9b,by decide,by decide,by decide,fun m4 H10 m40 m41 S10 k10=>⟨small 2 (by decide),fun l10 f10=>⟨_,rfl,q,8,_,rfl,S10.up (Same.new f10),by decide,by decide,by decide,fun r8 H11 _ _ S11 k11=>⟨rfl,.inr ⟨_,rfl,?_⟩⟩⟩⟩⟩;have n10:=S10.nw f10;have L11:=(L9.but (ButS.eq k10)).but ((ButS.same (Same.new f10)).trans (ButS.eq k11));refine ⟨l10,_,_,_,rfl,rfl,SqL.of (by rw [k11 l10 n10];exact zA1),pick2,?_⟩;obtain ⟨mn,em,mn5⟩:∃ mn:Nat,(if decide (V.int r8=V.int 0)=true then V.int 5 else V.int m4)=V.int mn∧mn≤5:=by
  split
  ·exact ⟨5,rfl,by decide⟩
  ·exact ⟨m4.toNat,by rw [Int.toNat_of_nonneg m40],by omega⟩
 rw [em];refine ⟨_,rfl,(mn:Int),rfl,by omega,by omega,?_⟩;rw [show (mn:Int).toNat=mn by omega];refine zE6 (n:=mn) (fun i σ H'=>∃ (hs:List (Str×List Rl)) (hv:List V) (x9 x10 x11 x12 x13 x14 x15:Option V),σ = [some (.ref a),some (.ref q),some (.ref l),some (.ref kq),some (.bl bs0),some (.bl (hs.all (handS rs))),some (.ref lh),some (.ref ln),some (.int mn),x9,x10,x11,x12,x13,x14,x15]∧LI A0 B H8 H' q lh ln hs hv i∧Src H' q (70 + 6000 * i)) ⟨[],[],_,_,_,_,_,_,_,(by rw [eb0];rfl),L11,S11.mono (by omega)⟩ ?_ ?_
 ·rintro i σ H12 hi ⟨hs,hv,x9,x10,x11,x12,x13,x14,x15,rfl,L12,S12⟩;obtain ⟨iv,eiv,i0,i5⟩:∃ iv:Int,(0 + (i:Int))=iv∧0≤iv∧iv < 5:=⟨_,rfl,by omega,by omega⟩;rw [eiv];refine ⟨_,rfl,q,5,_,rfl,S12,by omega,by decide,by decide,fun r13 H13 r130 r135 S13 k13=>⟨small 2 (by decide),fun l14 f14=>?_⟩⟩;have n14:=S13.nw f14;have b14:=(ButS.eq k13).trans (ButS.same (Same.new (o:=.lst [.int r13,.int 12]) f14));have e14:(upd H13 l14 (.lst [.int r13,.int 12])) l14=some (.lst [.int r13,.int 12]):=zA1;have S14:=S13.up (Same.new (o:=.lst [.int r13,.int 12]) f14);generalize upd H13 l14 (.lst [.int r13,.int 12])=H14 at b14 e14 S14 ⊢;have L14:=L12.but b14;refine ⟨_,rfl,rfl,_,rfl,?_⟩;refine' k_bl _ (fun go=>_);rotate_left 2
  ·refine ite2 (fun _=>⟨_,rfl,rfl,?_⟩) (fun _=>?_)
   ·generalize decide (V.int iv=V.int 2)=b2;exact go b2
   ·exact go false
  intro b2;refine .inr ⟨b2,rfl,l14,_,_,_,rfl,rfl,SqL.of e14,pick2,?_⟩;obtain ⟨lo,el,lo12⟩:∃ lo:Nat,(if b2=true then V.int 12 else V.int r13)=V.int lo∧lo≤12:=by
   split
   ·exact ⟨12,rfl,by decide⟩
   ·exact ⟨r13.toNat,by rw [Int.toNat_of_nonneg r130],by omega⟩
  rw [el];refine ⟨_,rfl,(lo:Int),rfl,by omega,by omega,?_⟩;rw [show (lo:Int).toNat=lo by omega];refine zEk (lo:=0) (n:=lo) (fun j ys H'=>ButS q H14 H'∧Src H' q (71 + 6000 * i + 200 * j)∧∃ xs:List Rl,xs.length=j∧(∀ x∈xs,x.ok∧x.n∈rs.map (·.name)∧∀ y∈x.bs,y∈rs.map (·.name))∧HasAll (fun a=>a≠q∧a∉[lh,ln]) H' ys (xs.map Rl.d)) ⟨(fun _ _ e _=>e),S14.mono (by omega),[],rfl,(fun _ h=>nomatch h),.nil⟩ (fun j ys H' hj p=>?_) ?_ ?_
  ·obtain ⟨_,_,xs,xl,_,hy⟩:=p;rw [hy.length,Z0,xl];exact small _ (by omega)
  ·rintro j ys H' hj ⟨b15,S15,xs,xl,xok,hy⟩ Nn hN;have L15:=L14.but b15;refine pick ⟨_,rfl,_,rfl,_,rfl,[lh,ln],L15.lsts,q,l,bs0,rs,_,rfl,src_cut S15 L15.nq,by omega,has_cut (L15.has hl8),rp,le4,dr.noG,fun v n c t bs H16 ok inn hv S16 b16 fr16=>?_⟩;refine hN _ _ ⟨b15.trans (zFe b16),(src_put S16 L15.nq).mono (by push_cast;omega),xs++[⟨n,c,t,bs⟩],by rw [Zc,xl];rfl,fun x hx=>?_,?_⟩
   ·rcases List.mem_append.mp hx with hx | hx
    ·exact xok x hx
    ·rw [List.mem_singleton.mp hx];exact ⟨ok,inn⟩
   ·rw [Z2];exact (but_G hy (zFe b16)).snoc (has_put fr16 hv)
  ·rintro ys H15 ⟨b15,S15,xs,xl,xok,hy⟩ p16 f16;have b16:=b15.trans (ButS.same (Same.new (o:=.lst ys) f16));have e16:(upd H15 p16 (.lst ys)) p16=some (.lst ys):=zA1;have S16:=S15.up (Same.new (o:=.lst ys) f16);have n16:=S15.nw f16;have hy16:=but_G hy (ButS.same (Same.new (o:=.lst ys) f16));generalize upd H15 p16 (.lst ys)=H16 at b16 e16 S16 hy16 ⊢;have L16:=L14.but b16;have n16l:p16≠lh:=Ne.symm (zA7 (L14.but b15).el f16);have n16n:p16≠ln:=Ne.symm (zA7 (L14.but b15).en f16);clear b15 S15 hy f16 H15 b14 e14 S14 S13 k13;refine' k_ownA (F:=fun p Hx=>∃ (ys:List V) (xs:List Rl),ButS q H16 Hx∧Src Hx q (2600 + 6000 * i)∧Hx p=some (.lst ys)∧p≠q∧p≠lh∧p≠ln∧xs.length≤12∧(∀ x∈xs,x.ok)∧HasAll (fun a=>a≠q∧a∉[lh,ln]) Hx ys (xs.map Rl.d)) _ (fun go=>_);rotate_left 2
   ·refine ⟨_,rfl,_,rfl,ite2 (fun _=>?_) (fun _=>?_)⟩
    ·refine ⟨_,rfl,p16,rfl,⟨_,SqL.of e16⟩,zAe (xs:=ys) (fun j zs H'=>ButS q H16 H'∧Src H' q (71 + 6000 * i + 200 * lo + 2 * j)∧∃ xs:List Rl,xs.length=j∧(∀ x∈xs,x.ok)∧HasAll (fun a=>a≠q∧a∉[lh,ln]) H' zs (xs.map Rl.d)) ⟨(fun _ _ e _=>e),S16.mono (by omega),[],rfl,(fun _ h=>nomatch h),.nil⟩ (fun j zs H' z=>SqL.of (z.1 _ _ e16 n16)) (fun j zs H' hj z=>?_) ?_ ?_⟩
     ·obtain ⟨_,_,us,ul,_,hu⟩:=z;rw [hu.length,Z0,ul];have:=hy16.length;rw [Z0] at this;exact small _ (by omega)
     ·rintro j v zs H' hj ⟨b17,S17,us,ul,uok,hu⟩ Nn hN;have L17:=L16.but b17;obtain ⟨d,hd,hv⟩:=hy16.get hj;rw [Z6] at hd;obtain ⟨x,ex,rfl⟩:=Option.map_eq_some_iff.mp hd;obtain ⟨xo,xn,xb⟩:=xok x (Z3 ex);have b3:=nd_le xo.b.2.1 xb;rw [Z0] at b3;have jl:=(List.getElem?_eq_some_iff.mp ex).1;refine pick ⟨_,rfl,_,rfl,[lh,ln],L17.lsts,q,v,_,rs,x.n,x.c,x.t,x.bs,rfl,src_cut S17 L17.nq,by omega,has_cut (hv.frame fun a o g e=>⟨g,b17 a o e g.1⟩),xo,by omega,xn,xb,dr.nmI,fun v' n' bs' H18 ok hv' S18 b18 fr18=>?_⟩;refine hN _ _ ⟨b17.trans (zFe b18),(src_put S18 L17.nq).mono (by push_cast;omega),us++[⟨n',x.c,x.t,bs'⟩],by rw [Zc,ul];rfl,fun y hy=>?_,?_⟩
      ·rcases List.mem_append.mp hy with hy | hy
       ·exact uok y hy
       ·rw [List.mem_singleton.mp hy];exact ok
      ·rw [Z2];exact (but_G hu (zFe b18)).snoc (has_put fr18 hv')
     ·rintro zs H17 ⟨b17,S17,us,ul,uok,hu⟩ p18 f18;have L17:=L16.but b17;have yl:ys.length=lo:=by rw [hy16.length,Z0,xl]
      have g18:∃ (ys:List V) (xs:List Rl),ButS q H16 (upd H17 p18 (.lst zs))∧Src (upd H17 p18 (.lst zs)) q (2600 + 6000 * i)∧(upd H17 p18 (.lst zs)) p18=some (.lst ys)∧p18≠q∧p18≠lh∧p18≠ln∧xs.length≤12∧(∀ x∈xs,x.ok)∧HasAll (fun a=>a≠q∧a∉[lh,ln]) (upd H17 p18 (.lst zs)) ys (xs.map Rl.d) :=
       ⟨zs,us,b17.trans (ButS.same (Same.new f18)),(S17.up (Same.new f18)).mono (by omega),zA1,S17.nw f18,Ne.symm (zA7 L17.el f18),Ne.symm (zA7 L17.en f18),by omega,uok,but_G hu (ButS.same (Same.new f18))⟩
      generalize upd H17 p18 (.lst zs)=H18 at g18 ⊢;exact go p18 H18 g18
    ·exact go p16 H16 ⟨ys,xs,(fun _ _ e _=>e),S16.mono (by omega),e16,n16,n16l,n16n,by omega,(fun x hx=>(xok x hx).1),hy16⟩
   clear hy16 xok xl S16 e16 n16 n16l n16n;rintro p16 H17 ⟨ys,xs,b17,S17,e17,n16,n16l,n16n,xl,xok,hy17⟩;have L17:=L16.but b17;clear L16 L14 b16 b17;have hl17:=(L17.has hl8).any;refine ⟨_,rfl,_,rfl,and_go (b2:=xs.all (Rl.su rs)) (fun _ Q' go=>?_) (fun H18 s18=>?_)⟩
   ·refine ⟨_,rfl,p16,rfl,⟨_,SqL.of e17⟩,zAe (xs:=ys) (fun j zs H'=>Same H17 H'∧zs=((xs.take j).map (Rl.su rs)).map V.bl) ⟨Same.refl _,rfl⟩ (fun j zs H' z=>SqL.of (z.1 _ _ e17)) (fun j zs H' hj z=>?_) ?_ ?_⟩
    ·rw [z.2,Z0,Z0,Zl];exact small _ (by omega)
    ·rintro j v zs H' hj ⟨s18,rfl⟩ Nn hN;obtain ⟨d,hd,hv⟩:=hy17.get hj;rw [Z6] at hd;obtain ⟨x,ex,rfl⟩:=Option.map_eq_some_iff.mp hd;refine pick ⟨_,rfl,_,rfl,v,l,x.n,x.c,x.t,x.bs,rs,rfl,hv.any.mono s18,xok x (Z3 ex),hl17.mono s18,rp,fun H19 s19=>hN _ _ ⟨s18.trans s19,?_⟩⟩;rw [Z4,ex,Z2,Z2];rfl
    ·rintro zs H18 ⟨s18,rfl⟩ c f19;rw [show ys.length=xs.length by rw [hy17.length,Z0],Za];refine ⟨c,_,rfl,SqL.of zA1,?_⟩;rw [show (xs.map (Rl.su rs)).all id=xs.all (Rl.su rs) by rw [Y7];rfl];exact go _ (s18.trans (Same.new f19))
   generalize ebz:(hs.all (handS rs) && xs.all (Rl.su rs))=bz;replace ebz:=ebz.symm;have L18:=L17.but (ButS.same s18);have S18:=S17.up s18;have e18:=s18 _ _ e17;have hy18:=but_G hy17 (ButS.same s18);clear L17 S17 e17 hy17 hl17 s18;refine ⟨_,rfl,.inl ⟨rfl,_,SqL.of L18.en⟩,small 5 (by decide),fun l19 f19=>?_⟩;rw [show ([.str "one",.str "ones",.str "on",.str "hand",.str "hands"]:List V)=(["one", "ones", "on", "hand", "hands"]:List Str).map V.str from rfl];have s19:=Same.new (o:=.lst ((["one", "ones", "on", "hand", "hands"]:List Str).map V.str)) f19;have e19:(upd H18 l19 (.lst ((["one", "ones", "on", "hand", "hands"]:List Str).map V.str))) l19=some (.lst ((["one", "ones", "on", "hand", "hands"]:List Str).map V.str)):=zA1;generalize upd H18 l19 (.lst ((["one", "ones", "on", "hand", "hands"]:List Str).map V.str))=H19 at s19 e19 ⊢;refine ⟨_,rfl,_,rfl,q,7,_,rfl,S18.up s19,by omega,by decide,by decide,fun r20 H20 r200 r207 S20 k20=>⟨_,_,rfl,rfl,⟨by show (0:Int) < 6;decide,by show (6:Int) < 1073741824;decide⟩,_,_,rfl,rfl,_,_,rfl,rfl,by show (0:Int) < 5;decide,?_⟩⟩;obtain ⟨c,hca,hcm⟩:=zD9 ((["one", "ones", "on", "hand", "hands"]:List Str).map V.str) (i:=(iv + r20 / 6) % 5) (by omega) (by show _ < (5:Int);omega);obtain ⟨nm,hnm,rfl⟩:=List.mem_map.mp hcm;have nmok:=hn_ok nm hnm;have b20:ButS q H18 H20:=(ButS.same s19).trans (ButS.eq k20);have L20:=L18.but b20;refine ⟨l19,_,_,_,rfl,rfl,SqL.of (by rw [k20 l19 (S18.nw f19)];exact e19),hca,ln,_,_,rfl,rfl,L20.en,?_,?_⟩
   ·have:=L20.len;rw [Z0,Z0];exact small1000 (by omega)
   have hy20:=but_G hy18 b20;have e20:=b20 _ _ e18 n16
   have hy21:HasAll (fun a=>a∉[q,lh,ln]) (upd H20 ln (.lst ((hs.map (·.1)).map V.str++[.str nm]))) ys (xs.map Rl.d):=hy20.frame fun a o g e=>⟨fun m=>by
    rcases List.mem_cons.mp m with z | m
    ·exact g.1 z
    ·exact g.2 m,by rw [zA9 (show a≠ln from fun z=>g.2 (by rw [z];exact Zb _ Zg))];exact e⟩
   have e21:(upd H20 ln (.lst ((hs.map (·.1)).map V.str++[.str nm]))) p16=some (.lst ys):=by rw [zA9 n16n];exact e20
   have en21:(upd H20 ln (.lst ((hs.map (·.1)).map V.str++[.str nm]))) ln=some (.lst ((hs.map (·.1)).map V.str++[.str nm])):=zA1;have el21:(upd H20 ln (.lst ((hs.map (·.1)).map V.str++[.str nm]))) lh=some (.lst hv):=by rw [zA9 nl];exact L20.el
   have S21:Src (upd H20 ln (.lst ((hs.map (·.1)).map V.str++[.str nm]))) q (2601 + 6000 * i):=by
    obtain ⟨a1,c1,j1,e1,r1,r2⟩:=S20;exact ⟨a1,c1,j1,by rw [zA9 (Ne.symm nnq)];exact e1,r1,by omega⟩
   have k21:∀ b o,H20 b=some o→b≠ln→(upd H20 ln (.lst ((hs.map (·.1)).map V.str++[.str nm]))) b=some o:=fun b o e n=>by rw [zA9 n];exact e
   generalize upd H20 ln (.lst ((hs.map (·.1)).map V.str++[.str nm]))=H21 at hy21 e21 en21 el21 S21 k21 ⊢;have ls21:∀ {Hx:Hp},Same H21 Hx→∀ a∈[q,lh,ln],∃ xs,Hx a=some (.lst xs):=fun {Hx} sx a m=>by
    rcases List.mem_cons.mp m with rfl | m
    ·obtain ⟨_,_,_,e,_⟩:=S21;exact ⟨_,sx _ _ e⟩
    rcases List.mem_cons.mp m with rfl | m
    ·exact ⟨_,sx _ _ el21⟩
    ·rw [List.mem_singleton.mp m];exact ⟨_,sx _ _ en21⟩
   refine ⟨_,rfl,.inl ⟨rfl,_,SqL.of el21⟩,_,rfl,_,rfl,ln,_,-1,_,rfl,rfl,SqL.of en21,atI_last _ _,_,rfl,p16,rfl,⟨_,SqL.of e21⟩,zAe (xs:=ys) (fun j zs H'=>Same H21 H'∧Paired (RlAt A0 B (cutH [q,lh,ln] H')) zs (xs.take j)) ⟨Same.refl _,.nil⟩ (fun j zs H' z=>SqL.of (z.1 _ _ e21)) (fun j zs H' hj z=>?_) ?_ ?_⟩
   ·rw [z.2.length,Zl];exact small _ (by omega)
   ·rintro j v zs H' hj ⟨s22,pz⟩ Nn hN;obtain ⟨d,hd,hv'⟩:=hy21.get hj;rw [Z6] at hd;obtain ⟨x,ex,rfl⟩:=Option.map_eq_some_iff.mp hd;refine pick ⟨_,rfl,[q,lh,ln],ls21 s22,v,x.n,x.c,x.t,x.bs,rfl,hv'.frame (fun a o g e=>⟨trivial,by rw [zB7 g];exact s22 _ _ e⟩),xok x (Z3 ex),fun p pc pt l' H23 ru s23 fr23=>hN _ _ ⟨s22.trans (put_same s23),?_⟩⟩;rw [cut_put fr23,Z4,ex];exact (zBh pz fun _ _ r=>r.same s23).snoc ⟨p,pc,pt,l',rfl,ru⟩
   ·rintro zs H22 ⟨s22,pz⟩ c f23;rw [show ys.length=xs.length by rw [hy18.length,Z0],Za] at pz;have s23:=Same.new (o:=.lst zs) f23;have e23:(upd H22 c (.lst zs)) c=some (.lst zs):=zA1;generalize upd H22 c (.lst zs)=H23 at s23 e23 ⊢;intro x dx hx hdx ne;have sm:=zB6 (C:=B.ha) hx hdx ne;obtain ⟨ps,rfl,hps⟩:=rl_refs pz;refine ⟨x,dx,c,nm,ps,rfl,zA1,nmok,sm _ _ e23,?_,fun p hp=>?_,fun H24 l' e el fr b=>⟨rfl,?_⟩⟩
    ·have:=pz.length;rw [Z0] at this;omega
    ·obtain ⟨dp,fp,ep⟩:=hps p hp;exact ⟨dp,fp,sm _ _ (s23 _ _ (zCo ep).2)⟩
    have s24:=zBi hx hdx ne b;have s2124:=(s22.trans s23).trans s24;refine ⟨lh,hv,_,rfl,rfl,s2124 _ _ el21,?_,?_⟩
    ·have:=L18.ha.length;have:=L18.len;exact small1000 (by omega)
    have out:∀ {y:Addr},H23 y=none→y∉[q,lh,ln]:=fun {y} hy m=>by
     obtain ⟨us,z⟩:=ls21 (s22.trans s23) y m;rw [z] at hy;cases hy
    have lhS:∀ {b:Addr},b∉[q,lh,ln]→b≠lh:=fun h z=>h (z ▸ Zb _ Zg);have lnS:∀ {b:Addr},b∉[q,lh,ln]→b≠ln:=fun h z=>h (z ▸ Zb _ (Zb _ Zg));have qS:∀ {b:Addr},b∉[q,lh,ln]→b≠q:=fun h z=>h (z ▸ Zg);refine ⟨hs++[(nm,xs)],hv++[.ref x],some (.int iv),some (.int lo),some (.ref p16),x12,x13,x14,x15,?_,⟨?_,?_,nlq,nnq,nl,zA1,?_,?_,f1,f2,?_⟩,?_⟩
    ·rw [all_snoc,show handS rs (nm,xs)=xs.all (Rl.su rs) from rfl,← ebz];rfl
    ·rw [Zc,L18.len];rfl
    ·intro h hh;rcases List.mem_append.mp hh with hh | hh
     ·exact L18.ok h hh
     ·rw [List.mem_singleton.mp hh];exact ⟨nmok,by show xs.length≤100;omega,xok⟩
    ·rw [zA9 (Ne.symm nl),s2124 _ _ en21,Z2,Z2];rfl
    ·refine (zBh L20.ha fun _ _ r=>r.same (zFb fun b o e m=>?_)).snoc ⟨x,dx,l',_,rfl,?_,?_,zBh pz fun _ _ r=>r.same (zFb fun b o e m=>?_)⟩
     ·rw [zA9 (lhS m)];exact s2124 _ _ (k21 _ _ e (lnS m))
     ·rw [zB7 (out hx),zA9 (lhS (out hx))];exact e
     ·have fl:=out (sm.free fr);rw [zB7 fl,zA9 (lhS fl)];exact el
     ·rw [zA9 (lhS m)];exact s24 _ _ (s23 _ _ e)
    ·intro b o e n;have n1:b≠lh:=fun z=>by rw [z,f1] at e;cases e
     have n2:b≠ln:=fun z=>by rw [z,f2] at e;cases e
     rw [zA9 n1];exact s2124 _ _ (k21 _ _ (L20.b _ _ e n) n2)
    ·obtain ⟨a1,c1,j1,e1,r1,r2⟩:=S21.up s2124;exact ⟨a1,c1,j1,by rw [zA9 (Ne.symm nlq)];exact e1,r1,by push_cast;omega⟩
 ·rintro σ H12 ⟨hs,hv,x9,x10,x11,x12,x13,x14,x15,rfl,L12,S12⟩;have hl5:hs.length≤5:=by rw [L12.len];exact mn5
  have hvl:=L12.ha.length;refine ⟨_,rfl,_,rfl,and_go (b2:=decide (hs.map (·.1)).Nodup) (fun _ Q' go=>?_) (fun H13 s13=>?_)⟩
  ·have n4:(hs.map (·.1)).length≤4000:=by rw [Z0];omega
   refine ⟨_,rfl,ln,_,rfl,SqL.of L12.en,n4,fun d hd=>⟨d,_,rfl,zA1,n4,_,rfl,ln,_,rfl,.inl (SqL.of ((Same.new hd) _ _ L12.en)),rfl,?_⟩⟩;have ez:decide (V.int ((dl (hs.map (·.1))).length:Int)=V.int (((hs.map (·.1)).map V.str).length:Int))=decide (hs.map (·.1)).Nodup:=by
    rw [← zEj,Z0 (as:=hs.map (·.1))];apply decide_eq_decide.mpr;constructor
    ·intro h;exact Int.ofNat.inj (V.int.inj h)
    ·intro h;rw [h]
   have z:=go _ (Same.new (o:=SetS P w d (hs.map (·.1))) hd);rw [← ez] at z;exact z
  generalize ebz:(hs.all (handS rs) && decide (hs.map (·.1)).Nodup)=bz;replace ebz:=ebz.symm;have L13:=L12.but (ButS.same s13);have S13:=S12.up s13;clear L12 S12 s13 L9 L11 S9b S9 S10 S11 k10 k11;refine ⟨_,rfl,lh,_,rfl,.inl (SqL.of L13.el),fun l14 f14=>?_⟩;have s14:=Same.new (o:=.lst hv) f14;have e14:(upd H13 l14 (.lst hv)) l14=some (.lst hv):=zA1;generalize upd H13 l14 (.lst hv)=H14 at s14 e14 ⊢;have L14:=L13.but (ButS.same s14);have hsok:HsOk hs:=⟨by omega,L14.ok⟩;refine ⟨_,rfl,_,rfl,.ref kq,.ref l14,bz,rfl,(fun Q2 E2 h1 h2=>.inl ⟨kq,l14,rs,hv,hs,rfl,kdx L14.b,rp,e14,zBh L14.ha (fun _ _ r=>r.same same_cut),hsok,fun nd al H' s'=>h1 (by rw [ebz,al,decide_eq_true nd];rfl) H' s',fun nn=>h2 ?_⟩),fun H15 s15=>⟨small 2 (by decide),fun l16 f16=>⟨_,rfl,.inr ⟨bz,rfl,l16,_,_,_,rfl,rfl,SqL.of zA1,pick2,?_⟩⟩⟩⟩
  ·rw [ebz];cases e1:hs.all (handS rs) with
   | false=>rfl
   | true=>exact decide_eq_false fun z=>nn ⟨z,e1⟩
  rw [show (if bz=true then V.str "suit" else V.str "refused")=V.str (if bz=true then "suit" else "refused") by cases bz <;> rfl];refine ⟨rfl,_,rfl,?_⟩;rw [decide_eq_true rfl];have s16:=s15.trans (Same.new (o:=.lst [.str "refused",.str "suit"]) f16);generalize upd H15 l16 (.lst [.str "refused",.str "suit"])=H16 at s16 ⊢;have L16:=L14.but (ButS.same s16);have S16:=(S13.up s14).up s16;refine iteF ⟨_,rfl,_,rfl,l14,lh,hv,rfl,rfl,SqL.of (s16 _ _ e14),SqL.of L16.el,(ha_refs L16.ha).1,_,rfl,iteF ?_⟩;clear L14 L13 S13 s16 s15 s14 f14 f16 hsok;intro x1 d1 hx1 hd1 ne1;have m1:=zB6 (C:=B.tt) hx1 hd1 ne1;have y1:(upd (upd H16 d1 (.own x1)) x1 (.ins B.tt d1 [])) x1=some (.ins B.tt d1 []):=zA1;generalize upd (upd H16 d1 (.own x1)) x1 (.ins B.tt d1 [])=H17 at m1 y1 ⊢;intro x2 d2 hx2 hd2 ne2;have m2:=zB6 (C:=A0.al) hx2 hd2 ne2;have y2:(upd (upd H17 d2 (.own x2)) x2 (.ins A0.al d2 [])) x2=some (.ins A0.al d2 []):=zA1;generalize upd (upd H17 d2 (.own x2)) x2 (.ins A0.al d2 [])=H18 at m2 y2 ⊢;refine ⟨Zm _,fun l19 f19=>?_⟩;have s19:=Same.new (o:=.lst []) f19;have e19:(upd H18 l19 (.lst [])) l19=some (.lst []):=zA1;generalize upd H18 l19 (.lst [])=H19 at s19 e19 ⊢;intro x3 d3 hx3 hd3 ne3;have sm3:=zB6 (C:=B.ru) hx3 hd3 ne3;refine ⟨x3,d3,x1,x2,l19,_,[],rfl,zA1,zE0 (by decide +kernel),⟨_,_,_,sm3 _ _ (s19 _ _ (m2 _ _ y1)),.inr (.inr rfl)⟩,⟨_,_,_,sm3 _ _ (s19 _ _ y2),.inl rfl⟩,sm3 _ _ e19,⟨(fun _ h=>nomatch h),Yc,Zm _⟩,(fun h=>nomatch h),fun H20 l20 e20 _ _ b20=>⟨rfl,?_⟩⟩;have s1620:=((m1.trans m2).trans s19).trans (zBi hx3 hd3 ne3 b20);intro x4 d4 hx4 hd4 ne4;have m4:=zB6 (C:=A0.al) hx4 hd4 ne4;have y4:(upd (upd H20 d4 (.own x4)) x4 (.ins A0.al d4 [])) x4=some (.ins A0.al d4 []):=zA1;generalize upd (upd H20 d4 (.own x4)) x4 (.ins A0.al d4 [])=H21 at m4 y4 ⊢;refine ⟨small 5 (by decide),fun l22 f22=>?_⟩;have s22:=Same.new (o:=.lst [.non,.str "one",.ref x3,.ref x4,.int 7]) f22;have s1622:=(s1620.trans m4).trans s22;have e22:(upd H21 l22 (.lst [.non,.str "one",.ref x3,.ref x4,.int 7])) l22=some (.lst [.non,.str "one",.ref x3,.ref x4,.int 7]):=zA1;have y3:=(m4.trans s22) _ _ e20;have y4b:=s22 _ _ y4;generalize upd H21 l22 (.lst [.non,.str "one",.ref x3,.ref x4,.int 7])=H22 at s1622 e22 y3 y4b ⊢;have L22:=L16.but (ButS.same s1622);have S22:=S16.up s1622;have nq22:l22≠q:=(S16.up (s1620.trans m4)).nw f22;clear s22 m4 y4 f22 s1620 e20 b20 sm3 s19 e19 m1 m2 y1 y2 L16 S16 s1622 f19 hx1 hx2 hx3 hx4 hd1 hd2 hd3 hd4;refine ⟨_,rfl,q,5,_,rfl,S22,by omega,by decide,by decide,fun r23 H23 r230 r235 S23 k23=>?_⟩;obtain ⟨v,hva,hvm⟩:=zD9 ([.non,.str "one",.ref x3,.ref x4,.int 7]:List V) r230 r235;have L23:=L22.but (ButS.eq k23);refine ⟨l22,_,r23,v,rfl,rfl,SqL.of (by rw [k23 l22 nq22];exact e22),hva,?_⟩;refine ⟨_,rfl,_,rfl,lh,hv,rfl,.inl (SqL.of L23.el),_,_,rfl,rfl,q,_,_,rfl,S23,by omega,by omega,by omega,fun r24 H24 r240 r241 S24 k24=>?_⟩;have b24:ButS q H22 H24:=(ButS.eq k23).trans (ButS.eq k24);have L24:=L22.but b24;have od:OddV B K H24 v:=by
   have z3:=b24 _ _ y3 (noq S22 y3 fun _ z=>nomatch z);have z4:=b24 _ _ y4b (noq S22 y4b fun _ z=>nomatch z);have ca:=A.NC.all A0.al (.inl rfl);simp only [Y3,Zz,or_false] at hvm;rcases hvm with rfl | rfl | rfl | rfl | rfl
   ·exact ⟨_,.non,rfl,A.O.n⟩
   ·exact ⟨_,.str _,rfl,A.O.s⟩
   ·exact ⟨_,.ins z3 N.rcl N.rI.ha N.rI.hn N.rI.htk N.rI.hm,A.O.rl,A.O.r⟩
   ·exact ⟨_,.ins z4 ca.cl ca.ki.ha ca.ki.hn ca.ki.htk ca.ki.hm,A.O.al,A.O.a⟩
   ·exact ⟨_,.int _,rfl,A.O.i⟩
  obtain ⟨at_,rfl⟩:∃ m:Nat,r24=m:=⟨r24.toNat,by omega⟩;have atl:at_≤hv.length:=by omega
  have hr24:=(ha_refs L24.ha).2;refine ⟨_,rfl,_,rfl,_,rfl,lh,hv,rfl,SqL.of L24.el,fun p25 f25=>?_⟩;rw [cutT_take atl];have s25:=Same.new (o:=.lst (hv.take at_)) f25;have e25:(upd H24 p25 (.lst (hv.take at_))) p25=some (.lst (hv.take at_)):=zA1;generalize upd H24 p25 (.lst (hv.take at_))=H25 at s25 e25 ⊢;refine ⟨_,rfl,small 1 (by decide),fun p26 f26=>?_⟩;have s26:=Same.new (o:=.lst [v]) f26;have e26:(upd H25 p26 (.lst [v])) p26=some (.lst [v]):=zA1;generalize upd H25 p26 (.lst [v])=H26 at s26 e26 ⊢;refine ⟨p25,p26,_,_,rfl,rfl,s26 _ _ e25,e26,small _ (by rw [Zl];show _ + 1≤_;omega),fun p27 f27=>?_⟩;have s27:=Same.new (o:=.lst (hv.take at_++[v])) f27;have e27:(upd H26 p27 (.lst (hv.take at_++[v]))) p27=some (.lst (hv.take at_++[v])):=zA1;generalize upd H26 p27 (.lst (hv.take at_++[v]))=H27 at s27 e27 ⊢;have s2427:=(s25.trans s26).trans s27;refine ⟨_,rfl,_,rfl,_,rfl,lh,hv,rfl,SqL.of (s2427 _ _ L24.el),fun p28 f28=>?_⟩;rw [cutT_drop atl];have s28:=Same.new (o:=.lst (hv.drop at_)) f28;have e28:(upd H27 p28 (.lst (hv.drop at_))) p28=some (.lst (hv.drop at_)):=zA1;generalize upd H27 p28 (.lst (hv.drop at_))=H28 at s28 e28 ⊢;refine ⟨p27,p28,_,_,rfl,rfl,s28 _ _ e27,e28,small _ (by rw [Zc,Zl,Yb];show _ + 1 + _≤_;omega),fun p29 f29=>?_⟩;have s29:=Same.new (o:=.lst (hv.take at_++[v]++hv.drop at_)) f29;have e29:(upd H28 p29 (.lst (hv.take at_++[v]++hv.drop at_))) p29=some (.lst (hv.take at_++[v]++hv.drop at_)):=zA1;generalize upd H28 p29 (.lst (hv.take at_++[v]++hv.drop at_))=H29 at s29 e29 ⊢;have s2429:=(s2427.trans s28).trans s29;refine ⟨_,rfl,lh,hv,rfl,.inl ⟨SqL.of (s2429 _ _ L24.el),fun t30 f30=>?_⟩⟩;have s30:=Same.new (o:=.tup hv) f30;have e30:(upd H29 t30 (.tup hv)) t30=some (.tup hv):=zA1;generalize upd H29 t30 (.tup hv)=H30 at s30 e30 ⊢;refine ⟨_,rfl,small 4 (by decide),fun l31 f31=>?_⟩;have s31:=Same.new (o:=.lst [.ref p29,.ref t30,.non,v]) f31;have e31:(upd H30 l31 (.lst [.ref p29,.ref t30,.non,v])) l31=some (.lst [.ref p29,.ref t30,.non,v]):=zA1;have s2431:=(s2429.trans s30).trans s31;have no31:∀ u∈([.ref p29,.ref t30,.non,v]:List V),NoHs B K (upd H30 l31 (.lst [.ref p29,.ref t30,.non,v])) u:=fun u hu=>by
   obtain ⟨ty,hty,kl,kh⟩:=od;simp only [Y3,Zz,or_false] at hu;rcases hu with rfl | rfl | rfl | rfl
   ·exact noHs_mid (hv:=hv) (odd:=v) (j:=at_) N.hcl N.hI (by omega) (fun w hw=>let ⟨p,dx,fs,e,h⟩:=hr24 w hw;⟨p,dx,fs,e,s2431 _ _ (zCo h).2⟩) ⟨ty,hty.same s2431,kl,kh⟩ atl ((s30.trans s31) _ _ e29)
   ·exact .inl ⟨_,.tup (s31 _ _ e30),rfl⟩
   ·exact .inl ⟨_,.non,rfl⟩
   ·exact .inl ⟨_,hty.same s2431,kl⟩
  generalize upd H30 l31 (.lst [.ref p29,.ref t30,.non,v])=H31 at s31 e31 s2431 no31 ⊢;have kd31:=kdx (L24.b.trans (ButS.same s2431));refine ⟨l31,rfl,⟨_,SqL.of e31⟩,zDo (K:=K) (a:=l31) (xs:=[.ref p29,.ref t30,.non,v]) (fun m σ H'=>∃ x5 x6 x7 x8 x9 x10 x11 x12 x13 x14 x15:Option V,σ = [some (.ref a),some (.ref q),some (.ref l),some (.ref kq),some (.bl bs0),x5,x6,x7,x8,x9,x10,x11,x12,x13,x14,x15]∧Same H31 H') ⟨_,_,_,_,_,_,_,_,_,_,_,rfl,Same.refl _⟩ (fun m σ H' _ ⟨_,_,_,_,_,_,_,_,_,_,_,_,z⟩=>SqL.of (z _ _ e31)) ?_ ?_⟩
  ·rintro m u σ H32 hm ⟨y5,y6,y7,y8,y9,y10,y11,y12,y13,y14,y15,rfl,s32⟩;have nh:=(no31 u (Z3 hm)).same s32;exact ⟨_,rfl,_,rfl,.ref kq,u,false,rfl,(fun Q2 E2 _ h2=>.inr ⟨.ref kq,u,rfl,h2 rfl,nh⟩),fun H33 s33=>⟨rfl,_,rfl,iteF ⟨_,_,_,_,_,_,_,_,_,_,_,rfl,s32.trans s33⟩⟩⟩
  ·rintro σ H32 ⟨y5,y6,y7,y8,y9,y10,y11,y12,y13,y14,y15,rfl,s32⟩;refine ⟨_,rfl,Zm _,fun l33 f33=>?_⟩;refine ⟨.ref kq,.ref l33,true,rfl,(fun Q2 E2 h1 h2=>.inl ⟨kq,l33,rs,[],[],rfl,(kd31.same s32).same (Same.new f33),rp,zA1,.nil,⟨Zm _,fun _ h=>nomatch h⟩,fun _ _ H' s'=>h1 rfl H' s',fun nn=>absurd ⟨Yc,rfl⟩ nn⟩),fun H34 s34=>⟨rfl,k _⟩⟩
end
end L2.W
namespace L2.W
open PySem My
noncomputable def oddB (K:PySem.W.Frag) (al ru ha:Addr):Bool:=decide (PySem.W.kitOne K (.type "NoneType") (.ref ha)=some false) && (decide (PySem.W.kitOne K (.type "str") (.ref ha)=some false) && (decide (PySem.W.kitOne K (.type "int") (.ref ha)=some false) && (decide (PySem.W.kitOne K (.ref ru) (.ref ha)=some false) && (decide (PySem.W.kitOne K (.ref al) (.ref ha)=some false) && (decide (PySem.W.kitOne K (.ref ru) (.type "list")=some false) && decide (PySem.W.kitOne K (.ref al) (.type "list")=some false))))))
theorem odd_mk {K:PySem.W.Frag}{A:CA}{B:CB} (h:oddB K A.al B.ru B.ha=true):OddK K A B:=by
 unfold oddB at h;simp only [Zr,decide_eq_true_eq] at h;obtain ⟨h1,h2,h3,h4,h5,h6,h7⟩:=h;exact ⟨h1,h2,h3,h4,h5,h6,h7⟩
noncomputable def othB (K:PySem.W.Frag) (CN:Addr) (l:List Addr):Bool:=PySem.W.excIn K CN [.type "ValueError",.type "Exception",.type "BaseException",.type "object"] "ValueError.__new__" && (decide (PySem.W.findIn K (.ref CN) "__getattribute__" = some (some (.builtin "BaseException.__getattribute__"))) && (decide (PySem.W.findIn K (.ref CN) "__getattr__" = some none) && (decide (PySem.W.findIn K (.ref CN) "__class__" = some (some (.builtin "object.__class__"))) && (decide (PySem.W.mroIn K CN (.type "object")=some true) && (decide (PySem.W.kitAny K (.ref CN) ((l.take 7).map Value.ref)=some false) && decide (PySem.W.kitAny K (.ref CN) ((l.drop 7).map Value.ref)=some false))))))
theorem oth_mk {K:PySem.W.Frag}{mg:Str→Option Value}{CN X0 X1 X2 X3 X4 X5 X6 X7 X8 X9 X10 X11 X12:Addr} (h:othB K CN [X0,X1,X2,X3,X4,X5,X6,X7,X8,X9,X10,X11,X12]=true) (g0:mg "NoDeed" = some (.ref X0)) (g1:mg "NoKind" = some (.ref X1)) (g2:mg "NoLimit" = some (.ref X2)) (g3:mg "NoName" = some (.ref X3)) (g4:mg "NoPlace" = some (.ref X4)) (g5:mg "NoRound" = some (.ref X5)) (g6:mg "NoRow" = some (.ref X6)) (g7:mg "NoSituation" = some (.ref X7)) (g8:mg "NoState" = some (.ref X8)) (g9:mg "NoStep" = some (.ref X9)) (g10:mg "NoText" = some (.ref X10)) (g11:mg "NoWish" = some (.ref X11)) (g12:mg "TooMany" = some (.ref X12)):Oth K mg CN (fun k=>[X0,X1,X2,X3,X4,X5,X6,X7,X8,X9,X10,X11,X12].getD k 0):=by
 unfold othB at h;simp only [Zr,decide_eq_true_eq] at h;obtain ⟨h1,h2,h3,h4,h5,h6,h7⟩:=h;exact ⟨g0,g1,g2,g3,g4,g5,g6,g7,g8,g9,g10,g11,g12,⟨h1,h2,h3,h4,h5⟩,h6,h7⟩
end L2.W
namespace L2.W
open PySem My
theorem len1 {α : Type}{us:List α} (h:us.length=1):∃ a,us=[a]:=List.length_eq_one_iff.mp h
theorem len2 {α : Type}{us:List α} (h:us.length=2):∃ a0 a1,us=[a0,a1]:=by
 cases us with
 | nil=>cases h
 | cons a0 r=>obtain ⟨a1,rfl⟩:=len1 (show r.length=1 from Nat.succ.inj h);exact ⟨a0,a1,rfl⟩
theorem len3 {α : Type}{us:List α} (h:us.length=3):∃ a0 a1 a2,us=[a0,a1,a2]:=by
 cases us with
 | nil=>cases h
 | cons a0 r=>obtain ⟨a1,a2,rfl⟩:=len2 (show r.length=2 from Nat.succ.inj h);exact ⟨a0,a1,a2,rfl⟩
theorem len4 {α : Type}{us:List α} (h:us.length=4):∃ a0 a1 a2 a3,us=[a0,a1,a2,a3]:=by
 cases us with
 | nil=>cases h
 | cons a0 r=>obtain ⟨a1,a2,a3,rfl⟩:=len3 (show r.length=3 from Nat.succ.inj h);exact ⟨a0,a1,a2,a3,rfl⟩
theorem len5 {α : Type}{us:List α} (h:us.length=5):∃ a0 a1 a2 a3 a4,us=[a0,a1,a2,a3,a4]:=by
 cases us with
 | nil=>cases h
 | cons a0 r=>obtain ⟨a1,a2,a3,a4,rfl⟩:=len4 (show r.length=4 from Nat.succ.inj h);exact ⟨a0,a1,a2,a3,a4,rfl⟩
structure DL (K:PySem.W.Frag) (x:Str) (st:Stmt) (f:Addr) (fd:FuncData):Prop where
 a:PySem.W.nsIn K mainGlobals x=some (some (.ref f))
 F:Fun K x x st f fd
structure ML (K:PySem.W.Frag) (C:Addr) (x q:Str) (st:Stmt) (f:Addr) (fd:FuncData):Prop where
 a:PySem.W.findIn K (.ref C) x=some (some (.ref f))
 i:PySem.W.isFn K (.ref f)=true
 F:Fun K x q st f fd
theorem mkD {K:PySem.W.Frag}{h:Heap}{mg:Str→Option Value}{x:Str}{st:Stmt}{f:Addr}{fd:FuncData}{ps:List Str} (X:K.In h) (G:h.Ns mainGlobals mg) (D:DL K x st f fd) (hb:∀ (kV doc pm:Value) (an:Option Addr) (cdv ct:Value) (us:List Value),us.length=ps.length→bindArgs (PySem.W.fnOf x x (defArgs st) (defBody st) (defScope st) .none kV doc pm an cdv ct) ⟨us,[]⟩=pure (ps.zip us)):Def K mg x st ps f fd:=⟨D.F,PySem.W.mg_of X G D.a,D.F.binds hb⟩
theorem zBa {K:PySem.W.Frag}{x:Str}{st:Stmt}{f:Addr}{oc:Value}{od an:Option Addr}{osl:Array (Option Value)}{kV doc pm cdv ct:Value} (a:PySem.W.nsIn K mainGlobals x=some (some (.ref f))) (l:K.lookup f=some ⟨oc,od,.func (PySem.W.fnOf x x (defArgs st) (defBody st) (defScope st) .none kV doc pm an cdv ct),osl⟩)
  (c:PySem.W.codeIn K cdv x=true) (k:PySem.W.keepIn K (.ref f)=true):DL K x st f (PySem.W.fnOf x x (defArgs st) (defBody st) (defScope st) .none kV doc pm an cdv ct):=⟨a,fun_mk l c k⟩
theorem zBe {K:PySem.W.Frag}{C:Addr}{x q:Str}{st:Stmt}{f:Addr}{oc:Value}{od an:Option Addr}{osl:Array (Option Value)}{kV doc pm cdv ct:Value} (a:PySem.W.findIn K (.ref C) x=some (some (.ref f))) (i:PySem.W.isFn K (.ref f)=true) (l:K.lookup f=some ⟨oc,od,.func (PySem.W.fnOf x q (defArgs st) (defBody st) (defScope st) .none kV doc pm an cdv ct),osl⟩)
  (c:PySem.W.codeIn K cdv q=true) (k:PySem.W.keepIn K (.ref f)=true):ML K C x q st f (PySem.W.fnOf x q (defArgs st) (defBody st) (defScope st) .none kV doc pm an cdv ct):=⟨a,i,fun_mk l c k⟩
set_option maxHeartbeats 0 in
theorem all_mk {l:PySem.W.OpenLaw}{w:World}{K:PySem.W.Frag}{h:Heap}{mg:Str→Option Value}{fx:Addr} (X:K.In h) (G:h.Ns mainGlobals mg) (hfa:mg "law" = some (.ref fx))
  {fN fU fP fF fCt fPl fHv fA fCn fCc fOk fRsu fCk fio fca fm fd fn flk flm flf flo fpr fle flt flb fcg fco frl fro fha ftu flu ftr fwd fIk fOf fOr fjIs fjMe fjOw fjNo fjBo fjEi fhAl fhWa fhIs fhMe fhOw fhNo fhBo fhEi fsAl fsWa fsIs fsMe fsOw fsNo fsBo fsEi fTm fTs fRu fHa fsm fss fst:Addr}{ts:List Addr}{dN dU dP dF dCt dPl dHv dA dCn dCc dOk dRsu dCk dio dca dm dd dn dlk dlm dlf dlo dpr dle dlt dlb dcg dco drl dro dha dtu dlu dtr dwd dIk dOf dOr djIs djMe djOw djNo djBo djEi dhAl dhWa dhIs dhMe dhOw dhNo dhBo dhEi dsAl dsWa dsIs dsMe dsOw dsNo dsBo dsEi dTm dTs dRu dHa dsm dss dst:FuncData}{C CK Qc Qa Qw Qi Qm Qo Qn Qb Qe Ra Rm Rs Rt Rr Rh CR CN X0 X1 X2 X3 X4 X5 X6 X7 X8 X9 X10 X11 X12 fI TD c Pt:Addr}{ocI kVI dcI pmI cdI ctI:Value}{odI anI:Option Addr}{slI:Array (Option Value)}{ocT:Value}{odT:Option Addr}{slT:Array (Option Value)}{nT:Nat}{t0 t1 t2 t3:Tok}
  {fp:Addr}{ocp kVp dcp pmp ctp:Value}{odp anp:Option Addr}{slp:Array (Option Value)}
  {fL:Addr}{ocL kVL dcL pmL ctL cdL:Value}{odL anL:Option Addr}{slL:Array (Option Value)}
  (aC:PySem.W.nsIn K mainGlobals "Kind" = some (some (.ref C)))
  (aCK:PySem.W.nsIn K mainGlobals "Kinds" = some (some (.ref CK)))
  (aQc:PySem.W.nsIn K mainGlobals "Condition" = some (some (.ref Qc)))
  (aQa:PySem.W.nsIn K mainGlobals "Always" = some (some (.ref Qa)))
  (aQw:PySem.W.nsIn K mainGlobals "Wanted" = some (some (.ref Qw)))
  (aQi:PySem.W.nsIn K mainGlobals "Is" = some (some (.ref Qi)))
  (aQm:PySem.W.nsIn K mainGlobals "Meets" = some (some (.ref Qm)))
  (aQo:PySem.W.nsIn K mainGlobals "Owner" = some (some (.ref Qo)))
  (aQn:PySem.W.nsIn K mainGlobals "Not" = some (some (.ref Qn)))
  (aQb:PySem.W.nsIn K mainGlobals "Both" = some (some (.ref Qb)))
  (aQe:PySem.W.nsIn K mainGlobals "Either" = some (some (.ref Qe)))
  (aRa:PySem.W.nsIn K mainGlobals "Change" = some (some (.ref Ra)))
  (aRm:PySem.W.nsIn K mainGlobals "ToMake" = some (some (.ref Rm)))
  (aRs:PySem.W.nsIn K mainGlobals "ToSet" = some (some (.ref Rs)))
  (aRt:PySem.W.nsIn K mainGlobals "ToTake" = some (some (.ref Rt)))
  (aRr:PySem.W.nsIn K mainGlobals "Rule" = some (some (.ref Rr)))
  (aRh:PySem.W.nsIn K mainGlobals "Hand" = some (some (.ref Rh)))
  (aCR:PySem.W.nsIn K mainGlobals "RestError" = some (some (.ref CR)))
  (aCN:PySem.W.nsIn K mainGlobals "NoRule" = some (some (.ref CN)))
  (aX0:PySem.W.nsIn K mainGlobals "NoDeed" = some (some (.ref X0)))
  (aX1:PySem.W.nsIn K mainGlobals "NoKind" = some (some (.ref X1)))
  (aX2:PySem.W.nsIn K mainGlobals "NoLimit" = some (some (.ref X2)))
  (aX3:PySem.W.nsIn K mainGlobals "NoName" = some (some (.ref X3)))
  (aX4:PySem.W.nsIn K mainGlobals "NoPlace" = some (some (.ref X4)))
  (aX5:PySem.W.nsIn K mainGlobals "NoRound" = some (some (.ref X5)))
  (aX6:PySem.W.nsIn K mainGlobals "NoRow" = some (some (.ref X6)))
  (aX7:PySem.W.nsIn K mainGlobals "NoSituation" = some (some (.ref X7)))
  (aX8:PySem.W.nsIn K mainGlobals "NoState" = some (some (.ref X8)))
  (aX9:PySem.W.nsIn K mainGlobals "NoStep" = some (some (.ref X9)))
  (aX10:PySem.W.nsIn K mainGlobals "NoText" = some (some (.ref X10)))
  (aX11:PySem.W.nsIn K mainGlobals "NoWish" = some (some (.ref X11)))
  (aX12:PySem.W.nsIn K mainGlobals "TooMany" = some (some (.ref X12)))
  (xN:DL K "is_name" sIsName fN dN)
  (xU:DL K "are_unlike_names" sUnlike fU dU)
  (xP:DL K "is_pair_with_values" sPair fP dP)
  (xF:DL K "are_fields" sFields fF dF)
  (xCt:DL K "count_states" sCount fCt dCt)
  (xPl:DL K "place_of" sPlaceOf fPl dPl)
  (xHv:DL K "has_value" sHasVal fHv dHv)
  (xA:DL K "are_kinds" sAreKinds fA dA)
  (xCn:DL K "check_names" sChkNames fCn dCn)
  (xCc:DL K "check_conditions" sChkConds fCc dCc)
  (xOk:DL K "are_other_kinds" sOtherKinds fOk dOk)
  (xRsu:DL K "rule_suits" sRuleSuits fRsu dRsu)
  (xCk:DL K "check" sCheck fCk dCk)
  (xio:DL K "_law_is_other" sIsOther fio dio)
  (xca:DL K "_law_cell_at" sCellAt fca dca)
  (xm:DL K "_law_mixed" sMixed fm dm)
  (xd:DL K "_law_digits" sDigits fd dd)
  (xn:DL K "_law_next" sNext fn dn)
  (xlk:DL K "_law_kinds" sKinds flk dlk)
  (xlm:DL K "_law_made" sMade flm dlm)
  (xlf:DL K "_law_fields" sLFields flf dlf)
  (xlo:DL K "_law_owner" sOwner flo dlo)
  (xpr:DL K "_law_pair" sLPair fpr dpr)
  (xle:DL K "_law_leaf" sLeaf fle dle)
  (xlt:DL K "_law_tree" sTree flt dlt)
  (xlb:DL K "_law_object" sObject flb dlb)
  (xcg:DL K "_law_change" sChange fcg dcg)
  (xco:DL K "_law_change_object" sChangeObject fco dco)
  (xrl:DL K "_law_rule" sRule frl drl)
  (xro:DL K "_law_rule_object" sRuleObject fro dro)
  (xha:DL K "_law_has" sHas fha dha)
  (xtu:DL K "_law_tree_suits" sTreeSuits ftu dtu)
  (xlu:DL K "_law_suits" sSuits flu dlu)
  (xtr:DL K "_law_turned" sTurned ftr dtr)
  (xwd:DL K "_law_word" sWord fwd dwd)
  (xIk:ML K CK "__init__" "Kinds.__init__" sInitKs fIk dIk)
  (xOf:ML K CK "of" "Kinds.of" sOf fOf dOf)
  (xOr:ML K CK "order" "Kinds.order" sOrder fOr dOr)
  (xjIs:ML K Qi "__init__" "Is.__init__" sInitIs fjIs djIs)
  (xjMe:ML K Qm "__init__" "Meets.__init__" sInitMe fjMe djMe)
  (xjOw:ML K Qo "__init__" "Owner.__init__" sInitOw fjOw djOw)
  (xjNo:ML K Qn "__init__" "Not.__init__" sInitNo fjNo djNo)
  (xjBo:ML K Qb "__init__" "Both.__init__" sInitBo fjBo djBo)
  (xjEi:ML K Qe "__init__" "Either.__init__" sInitEi fjEi djEi)
  (xhAl:ML K Qa "holds" "Always.holds" sAlH fhAl dhAl)
  (xhWa:ML K Qw "holds" "Wanted.holds" sWaH fhWa dhWa)
  (xhIs:ML K Qi "holds" "Is.holds" sIsH fhIs dhIs)
  (xhMe:ML K Qm "holds" "Meets.holds" sMeH fhMe dhMe)
  (xhOw:ML K Qo "holds" "Owner.holds" sOwH fhOw dhOw)
  (xhNo:ML K Qn "holds" "Not.holds" sNoH fhNo dhNo)
  (xhBo:ML K Qb "holds" "Both.holds" sBoH fhBo dhBo)
  (xhEi:ML K Qe "holds" "Either.holds" sEiH fhEi dhEi)
  (xsAl:ML K Qa "suits" "Always.suits" sAlSuits fsAl dsAl)
  (xsWa:ML K Qw "suits" "Wanted.suits" sWaS fsWa dsWa)
  (xsIs:ML K Qi "suits" "Is.suits" sIsS fsIs dsIs)
  (xsMe:ML K Qm "suits" "Meets.suits" sMeS fsMe dsMe)
  (xsOw:ML K Qo "suits" "Owner.suits" sOwS fsOw dsOw)
  (xsNo:ML K Qn "suits" "Not.suits" sNoS fsNo dsNo)
  (xsBo:ML K Qb "suits" "Both.suits" sBoS fsBo dsBo)
  (xsEi:ML K Qe "suits" "Either.suits" sEiS fsEi dsEi)
  (xTm:ML K Rm "__init__" "ToMake.__init__" sInitTM fTm dTm)
  (xTs:ML K Rs "__init__" "ToSet.__init__" sInitTS fTs dTs)
  (xRu:ML K Rr "__init__" "Rule.__init__" sInitR fRu dRu)
  (xHa:ML K Rh "__init__" "Hand.__init__" sInitH fHa dHa)
  (xsm:ML K Rm "suits" "ToMake.suits" sTmS fsm dsm)
  (xss:ML K Rs "suits" "ToSet.suits" sTsS fss dss)
  (xst:ML K Rt "suits" "ToTake.suits" sTtSuits fst dst)
  (xap:PySem.W.nsIn K mainGlobals "placed_by_owners" = some (some (.ref fp))) (xlp:K.lookup fp=some ⟨ocp,odp,.func (PySem.W.fnOf "placed_by_owners" "placed_by_owners" (defArgs sPlaced) (defBody sPlaced) (defScope sPlaced) .none kVp dcp pmp anp (.ref c) ctp),slp⟩) (xcp:PySem.W.codeIn K (.ref c) "placed_by_owners" = true) (xkp:PySem.W.keepIn K (.ref fp)=true)
  (xaL:PySem.W.nsIn K mainGlobals "law" = some (some (.ref fL))) (xlL:K.lookup fL=some ⟨ocL,odL,.func (PySem.W.fnOf "law" "law" (defArgs sLaw) (defBody sLaw) (defScope sLaw) .none kVL dcL pmL anL cdL ctL),slL⟩) (xcL:PySem.W.codeIn K cdL "law" = true) (xkL:PySem.W.keepIn K (.ref fL)=true)
  (aI:PySem.W.findIn K (.ref C) "__init__" = some (some (.ref fI))) (iI:PySem.W.isFn K (.ref fI)=true)
  (lI:K.lookup fI=some ⟨ocI,odI,.func (PySem.W.fnOf "__init__" "Kind.__init__" (defArgs sInit) (defBody sInit) (defScope sInit) (.ref TD) kVI dcI pmI anI cdI ctI),slI⟩) (cI:PySem.W.codeIn K cdI "Kind.__init__" = true)
  (lT:K.lookup TD=some ⟨ocT,odT,.seq #[.none] nT,slT⟩)
  (kpg:PySem.W.plainGet K C Str.empty=true) (khd:PySem.W.hasDictIn K C=true) (kpo:PySem.W.plainOver K C=true) (ksa:PySem.W.findIn K (.ref C) "__setattr__" = some (some (.builtin "object.__setattr__"))) (kmk:PySem.W.makesIn K C=true) (kkc:PySem.W.keepIn K (.ref C)=true) (kno0:PySem.W.findIn K (.ref C) "name" = some none) (kno1:PySem.W.findIn K (.ref C) "fields" = some none) (kno2:PySem.W.findIn K (.ref C) "owner" = some none)
  (gpg:PySem.W.plainGet K CK Str.empty=true) (ghd:PySem.W.hasDictIn K CK=true) (gpo:PySem.W.plainOver K CK=true) (gsa:PySem.W.findIn K (.ref CK) "__setattr__" = some (some (.builtin "object.__setattr__"))) (gmk:PySem.W.makesIn K CK=true) (gkc:PySem.W.keepIn K (.ref CK)=true) (gno0:PySem.W.findIn K (.ref CK) "by_name" = some none)
  (hn:PySem.W.specialIn K (.builtin "object.__class__") "__get__" = some (some (.builtin "getset_descriptor.__get__"))) (htk:PySem.W.takesIn K (.builtin "object.__class__")=some true)
  (iha:PySem.W.findIn K (.ref C) "__class__" = some (some (.builtin "object.__class__"))) (ihm:PySem.W.mroIn K C (.type "object")=some true) (ihki:PySem.W.kitOne K (.ref C) (.ref C)=some true)
  (hts:ts=[Pt])
  (hcdp:PySem.W.codeHdIn K c Pt=true) (houtp:K.lookup Pt=none)
  (c0:PySem.W.nsIn K mainGlobals "LETTERS" = some (some (.str letters t0)))
  (c1:PySem.W.nsIn K mainGlobals "MOST_LETTERS" = some (some (.int 8 t1)))
  (c2:PySem.W.nsIn K mainGlobals "MOST_STATES" = some (some (.int 8 t2)))
  (c3:PySem.W.nsIn K mainGlobals "LEAST_CONDITIONS" = some (some (.int 2 t3)))
  (qck:ckAll K Qc [(Qa,[]),(Qw,[]),(Qi,["field", "value"]),(Qm,["field"]),(Qo,["field", "value"]),(Qn,["condition"]),(Qb,["conditions"]),(Qe,["conditions"])]=true)
  (qnd:[Qa,Qw,Qi,Qm,Qo,Qn,Qb,Qe].Nodup)
  (qnAl:PySem.W.findIn K (.ref Qa) "__init__" = some (some (.builtin "object.__init__")))
  (qnWa:PySem.W.findIn K (.ref Qw) "__init__" = some (some (.builtin "object.__init__")))
  (rck:ckAll K Ra [(Rm,["fields"]),(Rs,["field", "value"]),(Rt,[])]=true)
  (rckR:ckAll K Rr [(Rr,["kind", "change", "condition", "behind"])]=true)
  (rckH:ckAll K Rh [(Rh,["name", "rules"])]=true)
  (rnd:[Rm,Rs,Rt].Nodup)
  (rnT:PySem.W.findIn K (.ref Rt) "__init__" = some (some (.builtin "object.__init__")))
  (xoK:oddB K Qa Rr Rh=true)
  (xoth:othB K CN [X0,X1,X2,X3,X4,X5,X6,X7,X8,X9,X10,X11,X12]=true)
  (xexm:PySem.W.exmOne K (.ref CN) (.ref CR)=some true)
  (xkit:PySem.W.kitOne K (.ref CN) (.ref CN)=some true)
  (z_isinstance:PySem.W.nsIn K mainGlobals "isinstance" = some none)
  (z_len:PySem.W.nsIn K mainGlobals "len" = some none)
  (z_all:PySem.W.nsIn K mainGlobals "all" = some none)
  (z_set:PySem.W.nsIn K mainGlobals "set" = some none)
  (z_range:PySem.W.nsIn K mainGlobals "range" = some none)
  (z_str:PySem.W.nsIn K mainGlobals "str" = some none)
  (z_list:PySem.W.nsIn K mainGlobals "list" = some none)
  (z_tuple:PySem.W.nsIn K mainGlobals "tuple" = some none)
  (z_dict:PySem.W.nsIn K mainGlobals "dict" = some none)
  (z_min:PySem.W.nsIn K mainGlobals "min" = some none)
  (z_int:PySem.W.nsIn K mainGlobals "int" = some none) :
  ∃ fd:FuncData,(∀ (s:Shared) (v:Value),BindsTo s fd ⟨[v],[]⟩ [("_law_script",v)])∧(∀ T∈ts,(K).lookup T=none∧∃ c,PySem.W.codeHdIn (K) c T=true)∧∃ Pt:Addr,Pt∈ts∧∀ base:Heap,(K).In base→base.Ns mainGlobals mg→BltAt mg base→FnOk l.prog w (K) mg base CX0 11 fx fd ["_law_script"] (spLaw34 K Pt):=by
 have e:=hfa.symm.trans (PySem.W.mg_of X G xaL);cases e;have T:Tops K mg:=⟨PySem.W.mg_none_of X G z_isinstance,PySem.W.mg_none_of X G z_len,PySem.W.mg_none_of X G z_all,PySem.W.mg_none_of X G z_set,PySem.W.mg_none_of X G z_range,PySem.W.mg_none_of X G z_str,PySem.W.mg_none_of X G z_list,PySem.W.mg_none_of X G z_tuple,PySem.W.mg_none_of X G z_dict,PySem.W.mg_none_of X G z_min,PySem.W.mg_none_of X G z_int,⟨_,PySem.W.mg_of X G c0⟩,⟨_,PySem.W.mg_of X G c1⟩,⟨_,PySem.W.mg_of X G c2⟩,⟨_,PySem.W.mg_of X G c3⟩⟩;have DN:=mkD X G xN (ps:=["thing"]) fun _ _ _ _ _ _ us hl=>by obtain ⟨z0,rfl⟩:=len1 hl;rfl
 have DU:=mkD X G xU (ps:=["things"]) fun _ _ _ _ _ _ us hl=>by obtain ⟨z0,rfl⟩:=len1 hl;rfl
 have DP:=mkD X G xP (ps:=["thing"]) fun _ _ _ _ _ _ us hl=>by obtain ⟨z0,rfl⟩:=len1 hl;rfl
 have DF:=mkD X G xF (ps:=["things"]) fun _ _ _ _ _ _ us hl=>by obtain ⟨z0,rfl⟩:=len1 hl;rfl
 have DCt:=mkD X G xCt (ps:=["fields"]) fun _ _ _ _ _ _ us hl=>by obtain ⟨z0,rfl⟩:=len1 hl;rfl
 have DPl:=mkD X G xPl (ps:=["kind", "field"]) fun _ _ _ _ _ _ us hl=>by obtain ⟨z0,z1,rfl⟩:=len2 hl;rfl
 have DHv:=mkD X G xHv (ps:=["kind", "field", "value"]) fun _ _ _ _ _ _ us hl=>by obtain ⟨z0,z1,z2,rfl⟩:=len3 hl;rfl
 have DA:=mkD X G xA (ps:=["things"]) fun _ _ _ _ _ _ us hl=>by obtain ⟨z0,rfl⟩:=len1 hl;rfl
 have DCn:=mkD X G xCn (ps:=["things"]) fun _ _ _ _ _ _ us hl=>by obtain ⟨z0,rfl⟩:=len1 hl;rfl
 have DCc:=mkD X G xCc (ps:=["things"]) fun _ _ _ _ _ _ us hl=>by obtain ⟨z0,rfl⟩:=len1 hl;rfl
 have DOk:=mkD X G xOk (ps:=["kind", "things"]) fun _ _ _ _ _ _ us hl=>by obtain ⟨z0,z1,rfl⟩:=len2 hl;rfl
 have DRsu:=mkD X G xRsu (ps:=["kinds", "rule"]) fun _ _ _ _ _ _ us hl=>by obtain ⟨z0,z1,rfl⟩:=len2 hl;rfl
 have DCk:=mkD X G xCk (ps:=["kinds", "hands"]) fun _ _ _ _ _ _ us hl=>by obtain ⟨z0,z1,rfl⟩:=len2 hl;rfl
 have Dio:=mkD X G xio (ps:=["_law_e"]) fun _ _ _ _ _ _ us hl=>by obtain ⟨z0,rfl⟩:=len1 hl;rfl
 have Dca:=mkD X G xca (ps:=["_law_script", "_law_k"]) fun _ _ _ _ _ _ us hl=>by obtain ⟨z0,z1,rfl⟩:=len2 hl;rfl
 have Dm:=mkD X G xm (ps:=["_law_cell", "_law_k"]) fun _ _ _ _ _ _ us hl=>by obtain ⟨z0,z1,rfl⟩:=len2 hl;rfl
 have Dd:=mkD X G xd (ps:=["_law_cell"]) fun _ _ _ _ _ _ us hl=>by obtain ⟨z0,rfl⟩:=len1 hl;rfl
 have Dn:=mkD X G xn (ps:=["_law_source", "_law_many"]) fun _ _ _ _ _ _ us hl=>by obtain ⟨z0,z1,rfl⟩:=len2 hl;rfl
 have Dlk:=mkD X G xlk (ps:=["_law_source"]) fun _ _ _ _ _ _ us hl=>by obtain ⟨z0,rfl⟩:=len1 hl;rfl
 have Dlm:=mkD X G xlm (ps:=["_law_spec"]) fun _ _ _ _ _ _ us hl=>by obtain ⟨z0,rfl⟩:=len1 hl;rfl
 have Dlf:=mkD X G xlf (ps:=["_law_spec", "_law_kind"]) fun _ _ _ _ _ _ us hl=>by obtain ⟨z0,z1,rfl⟩:=len2 hl;rfl
 have Dlo:=mkD X G xlo (ps:=["_law_spec", "_law_kind"]) fun _ _ _ _ _ _ us hl=>by obtain ⟨z0,z1,rfl⟩:=len2 hl;rfl
 have Dpr:=mkD X G xpr (ps:=["_law_source", "_law_fields_here", "_law_strange"]) fun _ _ _ _ _ _ us hl=>by obtain ⟨z0,z1,z2,rfl⟩:=len3 hl;rfl
 have Dle:=mkD X G xle (ps:=["_law_source", "_law_fields_here", "_law_owners", "_law_strange"]) fun _ _ _ _ _ _ us hl=>by obtain ⟨z0,z1,z2,z3,rfl⟩:=len4 hl;rfl
 have Dlt:=mkD X G xlt (ps:=["_law_source", "_law_fields_here", "_law_owners", "_law_strange", "_law_deep"]) fun _ _ _ _ _ _ us hl=>by obtain ⟨z0,z1,z2,z3,z4,rfl⟩:=len5 hl;rfl
 have Dlb:=mkD X G xlb (ps:=["_law_tree_here"]) fun _ _ _ _ _ _ us hl=>by obtain ⟨z0,rfl⟩:=len1 hl;rfl
 have Dcg:=mkD X G xcg (ps:=["_law_source", "_law_fields_here", "_law_strange"]) fun _ _ _ _ _ _ us hl=>by obtain ⟨z0,z1,z2,rfl⟩:=len3 hl;rfl
 have Dco:=mkD X G xco (ps:=["_law_change_here"]) fun _ _ _ _ _ _ us hl=>by obtain ⟨z0,rfl⟩:=len1 hl;rfl
 have Drl:=mkD X G xrl (ps:=["_law_source", "_law_spec", "_law_strange"]) fun _ _ _ _ _ _ us hl=>by obtain ⟨z0,z1,z2,rfl⟩:=len3 hl;rfl
 have Dro:=mkD X G xro (ps:=["_law_rule_here"]) fun _ _ _ _ _ _ us hl=>by obtain ⟨z0,rfl⟩:=len1 hl;rfl
 have Dha:=mkD X G xha (ps:=["_law_fields_here", "_law_field", "_law_value"]) fun _ _ _ _ _ _ us hl=>by obtain ⟨z0,z1,z2,rfl⟩:=len3 hl;rfl
 have Dtu:=mkD X G xtu (ps:=["_law_tree_here", "_law_spec", "_law_kind"]) fun _ _ _ _ _ _ us hl=>by obtain ⟨z0,z1,z2,rfl⟩:=len3 hl;rfl
 have Dlu:=mkD X G xlu (ps:=["_law_rule_here", "_law_spec"]) fun _ _ _ _ _ _ us hl=>by obtain ⟨z0,z1,rfl⟩:=len2 hl;rfl
 have Dtr:=mkD X G xtr (ps:=["_law_source", "_law_rule_here"]) fun _ _ _ _ _ _ us hl=>by obtain ⟨z0,z1,rfl⟩:=len2 hl;rfl
 have Dwd:=mkD X G xwd (ps:=["_law_kinds_here", "_law_hands"]) fun _ _ _ _ _ _ us hl=>by obtain ⟨z0,z1,rfl⟩:=len2 hl;rfl
 obtain ⟨xaIk,xiIk,FIk⟩:=xIk;have bIk:=FIk.binds (ps:=["self", "kinds"]) fun _ _ _ _ _ _ us hl=>by obtain ⟨z0,z1,rfl⟩:=len2 hl;rfl
 obtain ⟨xaOf,xiOf,FOf⟩:=xOf;have bOf:=FOf.binds (ps:=["self", "name"]) fun _ _ _ _ _ _ us hl=>by obtain ⟨z0,z1,rfl⟩:=len2 hl;rfl
 obtain ⟨xaOr,xiOr,FOr⟩:=xOr;have bOr:=FOr.binds (ps:=["self"]) fun _ _ _ _ _ _ us hl=>by obtain ⟨z0,rfl⟩:=len1 hl;rfl
 obtain ⟨xajIs,xijIs,FjIs⟩:=xjIs;have bjIs:=FjIs.binds (ps:=["self", "field", "value"]) fun _ _ _ _ _ _ us hl=>by obtain ⟨z0,z1,z2,rfl⟩:=len3 hl;rfl
 obtain ⟨xajMe,xijMe,FjMe⟩:=xjMe;have bjMe:=FjMe.binds (ps:=["self", "field"]) fun _ _ _ _ _ _ us hl=>by obtain ⟨z0,z1,rfl⟩:=len2 hl;rfl
 obtain ⟨xajOw,xijOw,FjOw⟩:=xjOw;have bjOw:=FjOw.binds (ps:=["self", "field", "value"]) fun _ _ _ _ _ _ us hl=>by obtain ⟨z0,z1,z2,rfl⟩:=len3 hl;rfl
 obtain ⟨xajNo,xijNo,FjNo⟩:=xjNo;have bjNo:=FjNo.binds (ps:=["self", "condition"]) fun _ _ _ _ _ _ us hl=>by obtain ⟨z0,z1,rfl⟩:=len2 hl;rfl
 obtain ⟨xajBo,xijBo,FjBo⟩:=xjBo;have bjBo:=FjBo.binds (ps:=["self", "conditions"]) fun _ _ _ _ _ _ us hl=>by obtain ⟨z0,z1,rfl⟩:=len2 hl;rfl
 obtain ⟨xajEi,xijEi,FjEi⟩:=xjEi;have bjEi:=FjEi.binds (ps:=["self", "conditions"]) fun _ _ _ _ _ _ us hl=>by obtain ⟨z0,z1,rfl⟩:=len2 hl;rfl
 obtain ⟨xahAl,xihAl,FhAl⟩:=xhAl;obtain ⟨xahWa,xihWa,FhWa⟩:=xhWa;obtain ⟨xahIs,xihIs,FhIs⟩:=xhIs;obtain ⟨xahMe,xihMe,FhMe⟩:=xhMe;obtain ⟨xahOw,xihOw,FhOw⟩:=xhOw;obtain ⟨xahNo,xihNo,FhNo⟩:=xhNo;obtain ⟨xahBo,xihBo,FhBo⟩:=xhBo;obtain ⟨xahEi,xihEi,FhEi⟩:=xhEi;obtain ⟨xasAl,xisAl,FsAl⟩:=xsAl;have bsAl:=FsAl.binds (ps:=["self", "kinds", "kind"]) fun _ _ _ _ _ _ us hl=>by obtain ⟨z0,z1,z2,rfl⟩:=len3 hl;rfl
 obtain ⟨xasWa,xisWa,FsWa⟩:=xsWa;have bsWa:=FsWa.binds (ps:=["self", "kinds", "kind"]) fun _ _ _ _ _ _ us hl=>by obtain ⟨z0,z1,z2,rfl⟩:=len3 hl;rfl
 obtain ⟨xasIs,xisIs,FsIs⟩:=xsIs;have bsIs:=FsIs.binds (ps:=["self", "kinds", "kind"]) fun _ _ _ _ _ _ us hl=>by obtain ⟨z0,z1,z2,rfl⟩:=len3 hl;rfl
 obtain ⟨xasMe,xisMe,FsMe⟩:=xsMe;have bsMe:=FsMe.binds (ps:=["self", "kinds", "kind"]) fun _ _ _ _ _ _ us hl=>by obtain ⟨z0,z1,z2,rfl⟩:=len3 hl;rfl
 obtain ⟨xasOw,xisOw,FsOw⟩:=xsOw;have bsOw:=FsOw.binds (ps:=["self", "kinds", "kind"]) fun _ _ _ _ _ _ us hl=>by obtain ⟨z0,z1,z2,rfl⟩:=len3 hl;rfl
 obtain ⟨xasNo,xisNo,FsNo⟩:=xsNo;have bsNo:=FsNo.binds (ps:=["self", "kinds", "kind"]) fun _ _ _ _ _ _ us hl=>by obtain ⟨z0,z1,z2,rfl⟩:=len3 hl;rfl
 obtain ⟨xasBo,xisBo,FsBo⟩:=xsBo;have bsBo:=FsBo.binds (ps:=["self", "kinds", "kind"]) fun _ _ _ _ _ _ us hl=>by obtain ⟨z0,z1,z2,rfl⟩:=len3 hl;rfl
 obtain ⟨xasEi,xisEi,FsEi⟩:=xsEi;have bsEi:=FsEi.binds (ps:=["self", "kinds", "kind"]) fun _ _ _ _ _ _ us hl=>by obtain ⟨z0,z1,z2,rfl⟩:=len3 hl;rfl
 obtain ⟨xaTm,xiTm,FTm⟩:=xTm;have bTm:=FTm.binds (ps:=["self", "fields"]) fun _ _ _ _ _ _ us hl=>by obtain ⟨z0,z1,rfl⟩:=len2 hl;rfl
 obtain ⟨xaTs,xiTs,FTs⟩:=xTs;have bTs:=FTs.binds (ps:=["self", "field", "value"]) fun _ _ _ _ _ _ us hl=>by obtain ⟨z0,z1,z2,rfl⟩:=len3 hl;rfl
 obtain ⟨xaRu,xiRu,FRu⟩:=xRu;have bRu:=FRu.binds (ps:=["self", "kind", "change", "condition", "behind"]) fun _ _ _ _ _ _ us hl=>by obtain ⟨z0,z1,z2,z3,z4,rfl⟩:=len5 hl;rfl
 obtain ⟨xaHa,xiHa,FHa⟩:=xHa;have bHa:=FHa.binds (ps:=["self", "name", "rules"]) fun _ _ _ _ _ _ us hl=>by obtain ⟨z0,z1,z2,rfl⟩:=len3 hl;rfl
 obtain ⟨xasm,xism,Fsm⟩:=xsm;have bsm:=Fsm.binds (ps:=["self", "kind"]) fun _ _ _ _ _ _ us hl=>by obtain ⟨z0,z1,rfl⟩:=len2 hl;rfl
 obtain ⟨xass,xiss,Fss⟩:=xss;have bss:=Fss.binds (ps:=["self", "kind"]) fun _ _ _ _ _ _ us hl=>by obtain ⟨z0,z1,rfl⟩:=len2 hl;rfl
 obtain ⟨xast,xist,Fst⟩:=xst;have bst:=Fst.binds (ps:=["self", "kind"]) fun _ _ _ _ _ _ us hl=>by obtain ⟨z0,z1,rfl⟩:=len2 hl;rfl
 have Fp:FunL K "placed_by_owners" "placed_by_owners" sPlaced fp _ c:=⟨⟨ocp,odp,kVp,dcp,pmp,anp,ctp,slp,rfl,xlp,xcp⟩,xkp⟩;have bp:=Fp.fn.binds (ps:=["kinds"]) fun _ _ _ _ _ _ us hl=>by obtain ⟨z0,rfl⟩:=len1 hl;rfl
 have FL:=fun_mk (st:=sLaw) xlL xcL xkL;have FI:FunD K "__init__" "Kind.__init__" sInit (.ref TD) fI _:=⟨⟨ocI,odI,kVI,dcI,pmI,anI,cdI,ctI,slI,rfl,lI,cI⟩⟩;have bK:Binds K (PySem.W.fnOf "__init__" "Kind.__init__" (defArgs sInit) (defBody sInit) (defScope sInit) (.ref TD) kVI dcI pmI anI cdI ctI) ["self", "name", "fields", "owner"] []:=by
  intro s us hK hl;rw [List.append_nil] at hl ⊢;obtain ⟨a,n,f,o,rfl⟩:=len4 hl;exact PySem.W.binds_K hK rfl lT rfl (by rfl) (by rfl)
 have KC:KCls K mg C fI:=⟨⟨kpg,khd,kpo,ksa⟩,kno0,kno1,kno2,PySem.W.mg_of X G aC,⟨kmk,aI,iI,kkc⟩⟩;have KS:KsCls K mg CK fIk fOf fOf fOf:=⟨⟨gpg,ghd,gpo,gsa⟩,gno0,PySem.W.mg_of X G aCK,⟨gmk,xaIk,xiIk,gkc⟩,⟨xaOf,xiOf,FOf.kp⟩⟩;have Nc:Cnd K mg (⟨Qc,Qa,Qw,Qi,Qm,Qo,Qn,Qb,Qe,fjIs,fjMe,fjOw,fjNo,fjBo,fjEi,fhAl,fhWa,fhIs,fhMe,fhOw,fhNo,fhBo,fhEi⟩:CA):=cnd_mk hn htk (PySem.W.mg_of X G aQc) (PySem.W.mg_of X G aQa) (PySem.W.mg_of X G aQw) (PySem.W.mg_of X G aQi) (PySem.W.mg_of X G aQm) (PySem.W.mg_of X G aQo) (PySem.W.mg_of X G aQn) (PySem.W.mg_of X G aQb) (PySem.W.mg_of X G aQe) qck qnAl qnWa qnd xajIs xijIs xajMe xijMe xajOw xijOw xajNo xijNo xajBo xijBo xajEi xijEi ⟨xahAl,xihAl,FhAl.kp⟩ ⟨xahWa,xihWa,FhWa.kp⟩ ⟨xahIs,xihIs,FhIs.kp⟩ ⟨xahMe,xihMe,FhMe.kp⟩ ⟨xahOw,xihOw,FhOw.kp⟩ ⟨xahNo,xihNo,FhNo.kp⟩ ⟨xahBo,xihBo,FhBo.kp⟩ ⟨xahEi,xihEi,FhEi.kp⟩;have Ng:Cng K mg (⟨Ra,Rm,Rs,Rt,Rr,Rh,fTm,fTs,fRu,fHa,fsm,fss,fst⟩:CB):=cng_mk hn htk (PySem.W.mg_of X G aRa) (PySem.W.mg_of X G aRm) (PySem.W.mg_of X G aRs) (PySem.W.mg_of X G aRt) (PySem.W.mg_of X G aRr) (PySem.W.mg_of X G aRh) rck rckR rckH rnT rnd xaTm xiTm xaTs xiTs xaRu xiRu xaHa xiHa ⟨xasm,xism,Fsm.kp⟩ ⟨xass,xiss,Fss.kp⟩ ⟨xast,xist,Fst.kp⟩;have R:Oth K mg CN (fun k=>[X0,X1,X2,X3,X4,X5,X6,X7,X8,X9,X10,X11,X12].getD k 0):=oth_mk xoth (PySem.W.mg_of X G aX0) (PySem.W.mg_of X G aX1) (PySem.W.mg_of X G aX2) (PySem.W.mg_of X G aX3) (PySem.W.mg_of X G aX4) (PySem.W.mg_of X G aX5) (PySem.W.mg_of X G aX6) (PySem.W.mg_of X G aX7) (PySem.W.mg_of X G aX8) (PySem.W.mg_of X G aX9) (PySem.W.mg_of X G aX10) (PySem.W.mg_of X G aX11) (PySem.W.mg_of X G aX12);have XN:XTop K mg "NoRule" CN:=⟨PySem.W.mg_of X G aCN,R.x.exc⟩;subst hts;refine ⟨PySem.W.fnOf "law" "law" (defArgs sLaw) (defBody sLaw) (defScope sLaw) .none kVL dcL pmL anL cdL ctL,fun s v=>.of_eq rfl,fun T hT=>?_,Pt,.head _,fun base _ _ bl=>?_⟩
 ·simp only [Y3,Zz,or_false] at hT;rcases hT with rfl
  ·exact ⟨houtp,c,hcdp⟩
 ·have Lp:LamTxt K mg base c Pt:=⟨hcdp,bl⟩;have hC:Calm (CXM l.prog w):=calmM;have GK:=ok_init (P:=l.prog) (w:=w) (base:=base) hC T FI KC DN DU DP DF DCt;have GIk:=ok_initKs (P:=l.prog) (w:=w) (base:=base) hC T KC ⟨iha,hn,htk,ihm,ihki⟩ KS Lp FIk DN DU DA Fp (PySem.W.mg_of X G xap) bp;have Gn:=ok_next (P:=l.prog) (w:=w) (base:=base) hC Dn.fn Dm;have GOf:=ok_of (P:=l.prog) (w:=w) (base:=base) hC T KS FOf DN;have GOr:=ok_order (P:=l.prog) (w:=w) (base:=base) (CX:=CXM l.prog w) T KS FOr;have GPl:=ok_place (P:=l.prog) (w:=w) (base:=base) (CX:=CXM l.prog w) KC DPl.fn;have GCn:=ok_chkN (P:=l.prog) (w:=w) (base:=base) hC T DCn.fn DN;have GCc:=ok_chkC (P:=l.prog) (w:=w) (base:=base) (CX:=CXM l.prog w) T Nc DCc.fn;have J:=ini_mk (P:=l.prog) (w:=w) (base:=base) hC T Nc DCn GCn DCc GCc FjIs bjIs FjMe bjMe FjOw bjOw FjNo bjNo FjBo bjBo FjEi bjEi;have GHv:=ok_hasV (P:=l.prog) (w:=w) (base:=base) hC KC DHv.fn DPl;have St:=stl_mk (P:=l.prog) (w:=w) (base:=base) hC T Nc KC KS GOf bOf DHv GHv DPl GPl ⟨xasAl,xisAl,FsAl.kp⟩ FsAl bsAl ⟨xasWa,xisWa,FsWa.kp⟩ FsWa bsWa ⟨xasIs,xisIs,FsIs.kp⟩ FsIs bsIs ⟨xasMe,xisMe,FsMe.kp⟩ FsMe bsMe ⟨xasOw,xisOw,FsOw.kp⟩ FsOw bsOw ⟨xasNo,xisNo,FsNo.kp⟩ FsNo bsNo ⟨xasBo,xisBo,FsBo.kp⟩ FsBo bsBo ⟨xasEi,xisEi,FsEi.kp⟩ FsEi bsEi;have GTm:=ok_initTM (P:=l.prog) (w:=w) (base:=base) hC T Ng FTm DN DU;have GTs:=ok_initTS (P:=l.prog) (w:=w) (base:=base) hC T Ng FTs DN;have GOk:=ok_otherK (P:=l.prog) (w:=w) (base:=base) hC T DOk.fn DN DU;have GRu:=ok_ru (P:=l.prog) (w:=w) (base:=base) hC T Nc Ng FRu DN DOk GOk;have GHa:=ok_hand (P:=l.prog) (w:=w) (base:=base) hC T Ng FHa DN;have Hc:=chs_all (C:=C) Ng ((ok_cTm (P:=l.prog) (w:=w) (base:=base) hC T Ng Fsm DPl GPl).mono (by decide)) bsm (ok_cTs (P:=l.prog) (w:=w) (base:=base) hC Ng Fss DPl GPl DHv GHv) bss ((ok_cTt (P:=l.prog) (w:=w) (base:=base) (CX:=CXM l.prog w) (C:=C) Ng Fst).mono (by decide)) bst;have GRsu:=ok_rsu (P:=l.prog) (w:=w) (base:=base) hC T Ng KS DRsu.fn ⟨xaOr,xiOr,FOr.kp⟩ GOr bOr GOf bOf (suit_all St 3) Hc;have GCk:=ok_ck (P:=l.prog) (w:=w) (base:=base) T XN Ng DCk.fn DN DU DRsu GRsu;have GCb:=ok_ckB (P:=l.prog) (w:=w) (base:=base) T XN Ng DCk.fn DN DU DRsu GRsu;have GWd:=ok_wd (P:=l.prog) (w:=w) (base:=base) T R XN (PySem.W.mg_of X G aCR) xexm xkit Dwd.fn DCk (GCk.or GCb) Dio;have Glk:=ok_kinds31 (P:=l.prog) (w:=w) (base:=base) hC T Dlk.fn Dn Gn;have Glm:=ok_made (P:=l.prog) (w:=w) (base:=base) hC T KC KS GK bK GIk bIk Dlm.fn;have Glf:=ok_lFl (P:=l.prog) (w:=w) (base:=base) (mg:=mg) (CX:=CXM l.prog w) Dlf.fn;have Glo:=ok_lOw (P:=l.prog) (w:=w) (base:=base) (mg:=mg) (CX:=CXM l.prog w) Dlo.fn;have Gpr:=ok_pairL (P:=l.prog) (w:=w) (base:=base) hC T Dpr.fn Dn Gn;have Gle:=ok_leaf (P:=l.prog) (w:=w) (base:=base) hC T Dle.fn Dn Gn Dpr Gpr;have Glt:=ok_tree (P:=l.prog) (w:=w) (base:=base) hC T Dlt Dn Gn Dle Gle 3;have Glb:=ok_obj (P:=l.prog) (w:=w) (base:=base) hC Nc J Dlb 3;have Gcg:=ok_chg (P:=l.prog) (w:=w) (base:=base) hC Dcg.fn Dn Gn Dpr Gpr;have Gco:=ok_cobj (P:=l.prog) (w:=w) (base:=base) hC T Ng Dco.fn GTm bTm GTs bTs;have Grl:=ok_rul (P:=l.prog) (w:=w) (base:=base) hC T Drl.fn Dn Gn Dlf Glf Dlt Glt Dcg Gcg;have Gro:=ok_robj (P:=l.prog) (w:=w) (base:=base) hC T Ng Dro.fn GRu bRu Dco Gco Dlb Glb;have Gha:=ok_has (P:=l.prog) (w:=w) (base:=base) (CX:=CXM l.prog w) T Dha.fn;have Gtu:=ok_tsu (P:=l.prog) (w:=w) (base:=base) hC T Dtu Dha Gha Dlf Glf Dlo Glo 3;have Glu:=ok_lsu (P:=l.prog) (w:=w) (base:=base) hC T Dlu.fn Dha Gha Dlf Glf Dtu Gtu;have Gtr:=ok_tur (P:=l.prog) (w:=w) (base:=base) hC T Dtr.fn Dn Gn;exact (ok_law34 FL ⟨T,Ng,Nc,odd_mk xoK,Dca,ok_cellAt T Dca.fn,Dd,ok_digits Dd.fn,Dn,Gn,Dlk,Glk,Dlm,Glm,Drl,Grl,Dro,Gro,Dlu,Glu,Dtr,Gtr,Dwd,GWd,GHa,bHa,GRu,bRu⟩).calm calmM
theorem walk {l:PySem.W.OpenLaw}{q:Program}{loose:List Str}{XP:(Str→Option Value)→Heap→Prop}{YP:World→Heap→Prop}{d:DefRec}{K:Params→PySem.W.Frag}{ts:List Addr} (hn:l.most=some 63) (hdf:d.params.defaults=[])
  (hY:∀ (w:World) (h:Heap),YP w h→(K w.params).In h∧∀ T∈ts,h.get? T=some (PySem.W.tabObj #[]))
  (F:∀ (w:World) (mg:Str→Option Value) (fa:Addr) (h:Heap),(K w.params).In h→h.Ns mainGlobals mg→mg d.name=some (.ref fa) →
   ∃ fd:FuncData,(∀ (s:Shared) (v:Value),BindsTo s fd ⟨[v],[]⟩ [("_law_script",v)])∧(∀ T∈ts,(K w.params).lookup T=none∧∃ c,PySem.W.codeHdIn (K w.params) c T=true)∧∃ Pt:Addr,Pt∈ts∧∀ base:Heap,(K w.params).In base→base.Ns mainGlobals mg→BltAt mg base→FnOk l.prog w (K w.params) mg base CX0 11 fa fd ["_law_script"] (spLaw34 (K w.params) Pt)) :
  PySem.W.WalkO q loose XP YP l.row.toRowW d [] (fun f vs=>PySem.call f vs):=by
 refine Att.attach_call hn hdf fun w s₀ s₁ mg mb fa o pm cd doc a vs ns G Y ho hd hcd hmg hobj hints hlen hg=>?_;obtain ⟨KX,hT⟩:=hY w _ Y;obtain ⟨fd,hb,hall,Pt,m0,hF⟩:=F w mg fa _ KX G.T.g hmg;exact law_callTs KX G.T.g G.T.b G.T.builtins G.T.nolimit hg (blt_of G.T) hT (fun T h=>(hall T h).1) (fun T h=>(hall T h).2) hobj hints (Zo hlen (by decide)) ⟨fun _=>rfl,by decide,by decide⟩ hF hb (fun H hO hS=>⟨a,ns,rfl,hS,hlen,.inl (hO.1 Pt m0),fun _=>rfl⟩) fun _ _ _ z=>z
end L2.W
theorem PySem.W.Fast.tw17725309424607586439:True:=trivial
theorem PySem.W.Fast.tw4284831812513965320:True:=trivial
theorem PySem.W.Fast.tw570177300948956807:True:=trivial
theorem PySem.W.Fast.tw13974047008489784450:True:=trivial
theorem PySem.W.Fast.tw7312948769528520110:True:=trivial
theorem PySem.W.Fast.tw2928728805786235406:True:=trivial
theorem PySem.W.Fast.tw5528118820140851391:True:=trivial
theorem PySem.W.Fast.tw9041795457460038935:True:=trivial
theorem PySem.W.Fast.tw3839633514012042970:True:=trivial
theorem PySem.W.Fast.tw455406035710610290:True:=trivial
theorem PySem.W.Fast.tw6000173944396334724:True:=trivial
theorem PySem.W.Fast.tw14799298110628772233:True:=trivial
theorem PySem.W.Fast.tw13233137397717647036:True:=trivial
theorem PySem.W.Fast.tw8349752847245324348:True:=trivial
theorem PySem.W.Fast.tw232269665322425992:True:=trivial
theorem PySem.W.Fast.tw12827944420191040567:True:=trivial
theorem PySem.W.Fast.tw11877016998486281754:True:=trivial
theorem PySem.W.Fast.tw14879425984196992161:True:=trivial
theorem PySem.W.Fast.tw9047420571123789902:True:=trivial
theorem PySem.W.Fast.tw7455166485953884067:True:=trivial
theorem PySem.W.Fast.tw7734425551727046779:True:=trivial
theorem PySem.W.Fast.tw6400703512353285982:True:=trivial
theorem PySem.W.Fast.tw4829184087727473807:True:=trivial
theorem PySem.W.Fast.tw14455058658914972587:True:=trivial
theorem PySem.W.Fast.tw6639115342258608315:True:=trivial
theorem PySem.W.Fast.tw9363877099692172053:True:=trivial
theorem PySem.W.Fast.tw8035522781144068588:True:=trivial
theorem PySem.W.Fast.tw9175260424560452142:True:=trivial
theorem PySem.W.Fast.tw11272611671435267600:True:=trivial
theorem PySem.W.Fast.tw10104180821309948543:True:=trivial
theorem PySem.W.Fast.tw9416566955103489955:True:=trivial
theorem PySem.W.Fast.tw16093618945421861810:True:=trivial
theorem PySem.W.Fast.tw15130361797529132671:True:=trivial
theorem PySem.W.Fast.tw12916962141510055947:True:=trivial
theorem PySem.W.Fast.tw13460996699295391985:True:=trivial
theorem PySem.W.Fast.tw1956089804084286049:True:=trivial
theorem PySem.W.Fast.tw16592667776243773221:True:=trivial
theorem PySem.W.Fast.tw15964898713037613395:True:=trivial
theorem PySem.W.Fast.tw832520630937632462:True:=trivial
theorem PySem.W.Fast.tw16014372426753888386:True:=trivial
theorem PySem.W.Fast.tw12446047265848016575:True:=trivial
theorem PySem.W.Fast.tw4284762205666209945:True:=trivial
theorem PySem.W.Fast.tw10461478851374448234:True:=trivial
theorem PySem.W.Fast.tw17964804132343983865:True:=trivial
theorem PySem.W.Fast.tw12693533015318974387:True:=trivial
theorem PySem.W.Fast.tw3652844844635677275:True:=trivial
theorem PySem.W.Fast.tw5118899601124482785:True:=trivial
theorem PySem.W.Fast.tw2847988452220918393:True:=trivial
theorem PySem.W.Fast.tw14896621335418032843:True:=trivial
theorem PySem.W.Fast.tw11412070057974498464:True:=trivial
theorem PySem.W.Fast.tw16975708221642684005:True:=trivial
theorem PySem.W.Fast.tw3548146514897989667:True:=trivial
theorem PySem.W.Fast.tw2306656304163356239:True:=trivial
theorem PySem.W.Fast.tw13670445041236739666:True:=trivial
theorem PySem.W.Fast.tw14003213148111624006:True:=trivial
theorem PySem.W.Fast.tw14844642993940996727:True:=trivial
theorem PySem.W.Fast.tw15338892944056506407:True:=trivial
theorem PySem.W.Fast.tw4749739191732201620:True:=trivial
theorem PySem.W.Fast.tw15310835118003409023:True:=trivial
theorem PySem.W.Fast.tw15051485855239710030:True:=trivial
theorem PySem.W.Fast.tw12435988165606949366:True:=trivial
theorem PySem.W.Fast.tw3915690936308239670:True:=trivial
theorem PySem.W.Fast.tw582212376339375136:True:=trivial
theorem PySem.W.Fast.tw7322621685029219081:True:=trivial
theorem PySem.W.Fast.tw2595824729247981576:True:=trivial
theorem PySem.W.Fast.tw2624644519112431131:True:=trivial
theorem PySem.W.Fast.tw17360246448747969388:True:=trivial
theorem PySem.W.Fast.tw811919634695815717:True:=trivial
theorem PySem.W.Fast.tw1737157645907256648:True:=trivial
theorem PySem.W.Fast.tw12087308496840223181:True:=trivial
theorem PySem.W.Fast.tw4007929102617370144:True:=trivial
theorem PySem.W.Fast.tw8688807949798980372:True:=trivial
theorem PySem.W.Fast.tw12981703205528627325:True:=trivial
theorem PySem.W.Fast.tw14205024766129298878:True:=trivial
theorem PySem.W.Fast.tw2826054763077320704:True:=trivial
theorem PySem.W.Fast.tw17010087591256603361:True:=trivial
theorem PySem.W.Fast.tw2546984744876112031:True:=trivial
theorem PySem.W.Fast.tw15806279771744051448:True:=trivial
theorem PySem.W.Fast.tw10058758381463068438:True:=trivial
theorem PySem.W.Fast.tw2372636062812719571:True:=trivial
theorem PySem.W.Fast.tw420867442251124832:True:=trivial
theorem PySem.W.Fast.tw2994422166201279949:True:=trivial
theorem PySem.W.Fast.tw14764742943949088999:True:=trivial
theorem PySem.W.Fast.tw15241078978050495609:True:=trivial
theorem PySem.W.Fast.tw12044863672395757813:True:=trivial
theorem PySem.W.Fast.tw18359779498666844738:True:=trivial
theorem PySem.W.Fast.tw16716378681734093427:True:=trivial
theorem PySem.W.Fast.tw995609729930625377:True:=trivial
theorem PySem.W.Fast.tw2784978915809608989:True:=trivial
theorem PySem.W.Fast.tw2476965518729386514:True:=trivial
theorem PySem.W.Fast.tw2979516009321311787:True:=trivial
theorem PySem.W.Fast.tw15406794399576311230:True:=trivial
theorem PySem.W.Fast.tw7232538515198989086:True:=trivial
theorem PySem.W.Fast.tw15996094222127824533:True:=trivial
theorem PySem.W.Fast.tw3606330842704441087:True:=trivial
theorem PySem.W.Fast.tw16521138749689832937:True:=trivial
theorem PySem.W.Fast.tw14980462638643912914:True:=trivial
theorem PySem.W.Fast.tw15573986752353602396:True:=trivial
theorem PySem.W.Fast.tw12737924758133159564:True:=trivial
theorem PySem.W.Fast.tw17911554585087009086:True:=trivial
theorem PySem.W.Fast.tw5986458922294789498:True:=trivial
theorem PySem.W.Fast.tw16771545894020118313:True:=trivial
theorem PySem.W.Fast.tw9891310645149194457:True:=trivial
theorem PySem.W.Fast.tw1362603740233239691:True:=trivial
theorem PySem.W.Fast.tw9006895790941327109:True:=trivial
theorem PySem.W.Fast.tw9701602860402989378:True:=trivial
theorem PySem.W.Fast.tw4080628293404201343:True:=trivial
theorem PySem.W.Fast.tw87234477015215582:True:=trivial
theorem PySem.W.Fast.tw15478589839306259281:True:=trivial
theorem PySem.W.Fast.tw15815553764669242211:True:=trivial
theorem PySem.W.Fast.tw5030361289528349987:True:=trivial
theorem PySem.W.Fast.tw9564859797158056489:True:=trivial
theorem PySem.W.Fast.tw14748311623191985633:True:=trivial
theorem PySem.W.Fast.tw17058579079837180490:True:=trivial
theorem PySem.W.Fast.tw4291454548466945087:True:=trivial
theorem PySem.W.Fast.tw1971990746650311231:True:=trivial
theorem PySem.W.Fast.tw4546865642664934520:True:=trivial
theorem PySem.W.Fast.tw1746871263463187214:True:=trivial
theorem PySem.W.Fast.tw13305300232108760455:True:=trivial
theorem PySem.W.Fast.tw7423481872284197108:True:=trivial
theorem PySem.W.Fast.tw925019039012670196:True:=trivial
theorem PySem.W.Fast.tw14288076794010904376:True:=trivial
theorem PySem.W.Fast.tw10287008730753305723:True:=trivial
theorem PySem.W.Fast.tw5218183913350562416:True:=trivial
theorem PySem.W.Fast.tw10481060413677210362:True:=trivial
theorem PySem.W.Fast.tw2783391951956081252:True:=trivial
theorem PySem.W.Fast.tw10198037928087327751:True:=trivial
theorem PySem.W.Fast.tw15328045494672036596:True:=trivial
theorem PySem.W.Fast.tw18318735182313321951:True:=trivial
theorem PySem.W.Fast.tw10300083402490746962:True:=trivial
theorem PySem.W.Fast.tw8187155295103792787:True:=trivial
theorem PySem.W.Fast.tw7861782545985180392:True:=trivial
theorem PySem.W.Fast.tw15072812618782649572:True:=trivial
theorem PySem.W.Fast.tw11395880608325212363:True:=trivial
theorem PySem.W.Fast.tw5079779737680117640:True:=trivial
theorem PySem.W.Fast.tw4976406840279272140:True:=trivial
theorem PySem.W.Fast.tw4164489167852364330:True:=trivial
theorem PySem.W.Fast.tw4279881985318014319:True:=trivial
theorem PySem.W.Fast.tw12022932904120012179:True:=trivial
theorem PySem.W.Fast.tw5675515257411281589:True:=trivial
theorem PySem.W.Fast.tw14684211197422188177:True:=trivial
theorem PySem.W.Fast.tw9742890342320405849:True:=trivial
theorem PySem.W.Fast.tw16372286827154792280:True:=trivial
theorem PySem.W.Fast.tw5145811412077661227:True:=trivial
theorem PySem.W.Fast.tw13376957269817060236:True:=trivial
theorem PySem.W.Fast.tw16257816749871174323:True:=trivial
theorem PySem.W.Fast.tw6127987411810009041:True:=trivial
theorem PySem.W.Fast.tw5629022576623108610:True:=trivial
theorem PySem.W.Fast.tw13905709786252950682:True:=trivial
theorem PySem.W.Fast.tw11818556291572338329:True:=trivial
theorem PySem.W.Fast.tw9697201349445531331:True:=trivial
theorem PySem.W.Fast.tw2992492096260360173:True:=trivial
theorem PySem.W.Fast.tw16224861355285533509:True:=trivial
theorem PySem.W.Fast.tw18366823821526970513:True:=trivial
theorem PySem.W.Fast.tw11256726697621090737:True:=trivial
theorem PySem.W.Fast.tw15887432490186201949:True:=trivial
theorem PySem.W.Fast.tw17125772854571513043:True:=trivial
theorem PySem.W.Fast.tw172656974919251235:True:=trivial
theorem PySem.W.Fast.tw5097973805373772832:True:=trivial
theorem PySem.W.Fast.tw1688084205746289536:True:=trivial
theorem PySem.W.Fast.tw5979917002672681697:True:=trivial
theorem PySem.W.Fast.tw8818328530167139239:True:=trivial
theorem PySem.W.Fast.tw1107041239902894122:True:=trivial
theorem PySem.W.Fast.tw7047892447976538584:True:=trivial
theorem PySem.W.Fast.tw13723478447617235373:True:=trivial
theorem PySem.W.Fast.tw8329198335898232799:True:=trivial
theorem PySem.W.Fast.tw425245133259278413:True:=trivial
theorem PySem.W.Fast.tw17751998294176933778:True:=trivial
theorem PySem.W.Fast.tw12563966175966453604:True:=trivial
theorem PySem.W.Fast.tw13207046467445442812:True:=trivial
theorem PySem.W.Fast.tw10661578987066404100:True:=trivial
theorem PySem.W.Fast.tw1777079377823422841:True:=trivial
theorem PySem.W.Fast.tw7663985053785059:True:=trivial
theorem PySem.W.Fast.tw1073620281987354851:True:=trivial
theorem PySem.W.Fast.tw3211464977532376419:True:=trivial
theorem PySem.W.Fast.tw9422080015623469682:True:=trivial
theorem PySem.W.Fast.tw4105194332823680852:True:=trivial
theorem PySem.W.Fast.tw7526900976187502196:True:=trivial
theorem PySem.W.Fast.tw4783368705823902379:True:=trivial
theorem PySem.W.Fast.tw5251786412962311006:True:=trivial
theorem PySem.W.Fast.tw2503337728544160775:True:=trivial
theorem PySem.W.Fast.tw2823130887034265912:True:=trivial
open PySem PySem.W PyProof.Rows
set_option maxRecDepth 100000 in
set_option maxHeartbeats 0 in
theorem PySem.Challenge.cw_cometorest_k34_hands_that_suit_holds : PySem.Challenge.rw_cometorest_k34_hands_that_suit.Holds := by
 w_on;o_law;k_head;(case hw=>w_witness2)
 k_fill
 refine L2.W.walk (l:=PySem.Challenge.rw_cometorest_k34_hands_that_suit) rfl rfl (fun w h Y=>⟨PySem.W.km_in_of Y,PySem.W.km_tabs_of Y⟩) ?F
 case F =>
  intro w mg fa h KX G hmg;refine' L2.W.all_mk KX G hmg ?aC ?aCK ?aQc ?aQa ?aQw ?aQi ?aQm ?aQo ?aQn ?aQb ?aQe ?aRa ?aRm ?aRs ?aRt ?aRr ?aRh ?aCR ?aCN ?aX0 ?aX1 ?aX2 ?aX3 ?aX4 ?aX5 ?aX6 ?aX7 ?aX8 ?aX9 ?aX10 ?aX11 ?aX12 ?xN ?xU ?xP ?xF ?xCt ?xPl ?xHv ?xA ?xCn ?xCc ?xOk ?xRsu ?xCk ?xio ?xca ?xm ?xd ?xn ?xlk ?xlm ?xlf ?xlo ?xpr ?xle ?xlt ?xlb ?xcg ?xco ?xrl ?xro ?xha ?xtu ?xlu ?xtr ?xwd ?xIk ?xOf ?xOr ?xjIs ?xjMe ?xjOw ?xjNo ?xjBo ?xjEi ?xhAl ?xhWa ?xhIs ?xhMe ?xhOw ?xhNo ?xhBo ?xhEi ?xsAl ?xsWa ?xsIs ?xsMe ?xsOw ?xsNo ?xsBo ?xsEi ?xTm ?xTs ?xRu ?xHa ?xsm ?xss ?xst ?xap ?xlp ?xcp ?xkp ?xaL ?xlL ?xcL ?xkL ?aI ?iI ?lI ?cI ?lT ?kpg ?khd ?kpo ?ksa ?kmk ?kkc ?kno0 ?kno1 ?kno2 ?gpg ?ghd ?gpo ?gsa ?gmk ?gkc ?gno0 ?hn ?htk ?iha ?ihm ?ihki ?hts ?hcdp ?houtp ?c0 ?c1 ?c2 ?c3 ?qck ?qnd ?qnAl ?qnWa ?rck ?rckR ?rckH ?rnd ?rnT ?xoK ?xoth ?xexm ?xkit ?z_isinstance ?z_len ?z_all ?z_set ?z_range ?z_str ?z_list ?z_tuple ?z_dict ?z_min ?z_int
  (case aC=>k_is)
  (case aCK=>k_is)
  (case aQc=>k_is)
  (case aQa=>k_is)
  (case aQw=>k_is)
  (case aQi=>k_is)
  (case aQm=>k_is)
  (case aQo=>k_is)
  (case aQn=>k_is)
  (case aQb=>k_is)
  (case aQe=>k_is)
  (case aRa=>k_is)
  (case aRm=>k_is)
  (case aRs=>k_is)
  (case aRt=>k_is)
  (case aRr=>k_is)
  (case aRh=>k_is)
  (case aCR=>k_is)
  (case aCN=>k_is)
  (case aX0=>k_is)
  (case aX1=>k_is)
  (case aX2=>k_is)
  (case aX3=>k_is)
  (case aX4=>k_is)
  (case aX5=>k_is)
  (case aX6=>k_is)
  (case aX7=>k_is)
  (case aX8=>k_is)
  (case aX9=>k_is)
  (case aX10=>k_is)
  (case aX11=>k_is)
  (case aX12=>k_is)
  (case xN=>apply L2.W.zBa;iterate 4 k_is)
  (case xU=>apply L2.W.zBa;iterate 4 k_is)
  (case xP=>apply L2.W.zBa;iterate 4 k_is)
  (case xF=>apply L2.W.zBa;iterate 4 k_is)
  (case xCt=>apply L2.W.zBa;iterate 4 k_is)
  (case xPl=>apply L2.W.zBa;iterate 4 k_is)
  (case xHv=>apply L2.W.zBa;iterate 4 k_is)
  (case xA=>apply L2.W.zBa;iterate 4 k_is)
  (case xCn=>apply L2.W.zBa;iterate 4 k_is)
  (case xCc=>apply L2.W.zBa;iterate 4 k_is)
  (case xOk=>apply L2.W.zBa;iterate 4 k_is)
  (case xRsu=>apply L2.W.zBa;iterate 4 k_is)
  (case xCk=>apply L2.W.zBa;iterate 4 k_is)
  (case xio=>apply L2.W.zBa;iterate 4 k_is)
  (case xca=>apply L2.W.zBa;iterate 4 k_is)
  (case xm=>apply L2.W.zBa;iterate 4 k_is)
  (case xd=>apply L2.W.zBa;iterate 4 k_is)
  (case xn=>apply L2.W.zBa;iterate 4 k_is)
  (case xlk=>apply L2.W.zBa;iterate 4 k_is)
  (case xlm=>apply L2.W.zBa;iterate 4 k_is)
  (case xlf=>apply L2.W.zBa;iterate 4 k_is)
  (case xlo=>apply L2.W.zBa;iterate 4 k_is)
  (case xpr=>apply L2.W.zBa;iterate 4 k_is)
  (case xle=>apply L2.W.zBa;iterate 4 k_is)
  (case xlt=>apply L2.W.zBa;iterate 4 k_is)
  (case xlb=>apply L2.W.zBa;iterate 4 k_is)
  (case xcg=>apply L2.W.zBa;iterate 4 k_is)
  (case xco=>apply L2.W.zBa;iterate 4 k_is)
  (case xrl=>apply L2.W.zBa;iterate 4 k_is)
  (case xro=>apply L2.W.zBa;iterate 4 k_is)
  (case xha=>apply L2.W.zBa;iterate 4 k_is)
  (case xtu=>apply L2.W.zBa;iterate 4 k_is)
  (case xlu=>apply L2.W.zBa;iterate 4 k_is)
  (case xtr=>apply L2.W.zBa;iterate 4 k_is)
  (case xwd=>apply L2.W.zBa;iterate 4 k_is)
  (case xIk=>apply L2.W.zBe;iterate 5 k_is)
  (case xOf=>apply L2.W.zBe;iterate 5 k_is)
  (case xOr=>apply L2.W.zBe;iterate 5 k_is)
  (case xjIs=>apply L2.W.zBe;iterate 5 k_is)
  (case xjMe=>apply L2.W.zBe;iterate 5 k_is)
  (case xjOw=>apply L2.W.zBe;iterate 5 k_is)
  (case xjNo=>apply L2.W.zBe;iterate 5 k_is)
  (case xjBo=>apply L2.W.zBe;iterate 5 k_is)
  (case xjEi=>apply L2.W.zBe;iterate 5 k_is)
  (case xhAl=>apply L2.W.zBe;iterate 5 k_is)
  (case xhWa=>apply L2.W.zBe;iterate 5 k_is)
  (case xhIs=>apply L2.W.zBe;iterate 5 k_is)
  (case xhMe=>apply L2.W.zBe;iterate 5 k_is)
  (case xhOw=>apply L2.W.zBe;iterate 5 k_is)
  (case xhNo=>apply L2.W.zBe;iterate 5 k_is)
  (case xhBo=>apply L2.W.zBe;iterate 5 k_is)
  (case xhEi=>apply L2.W.zBe;iterate 5 k_is)
  (case xsAl=>apply L2.W.zBe;iterate 5 k_is)
  (case xsWa=>apply L2.W.zBe;iterate 5 k_is)
  (case xsIs=>apply L2.W.zBe;iterate 5 k_is)
  (case xsMe=>apply L2.W.zBe;iterate 5 k_is)
  (case xsOw=>apply L2.W.zBe;iterate 5 k_is)
  (case xsNo=>apply L2.W.zBe;iterate 5 k_is)
  (case xsBo=>apply L2.W.zBe;iterate 5 k_is)
  (case xsEi=>apply L2.W.zBe;iterate 5 k_is)
  (case xTm=>apply L2.W.zBe;iterate 5 k_is)
  (case xTs=>apply L2.W.zBe;iterate 5 k_is)
  (case xRu=>apply L2.W.zBe;iterate 5 k_is)
  (case xHa=>apply L2.W.zBe;iterate 5 k_is)
  (case xsm=>apply L2.W.zBe;iterate 5 k_is)
  (case xss=>apply L2.W.zBe;iterate 5 k_is)
  (case xst=>apply L2.W.zBe;iterate 5 k_is)
  (case xap=>k_is)
  (case xlp=>k_is)
  (case xcp=>k_is)
  (case xkp=>k_is)
  (case xaL=>k_is)
  (case xlL=>k_is)
  (case xcL=>k_is)
  (case xkL=>k_is)
  (case aI=>k_is)
  (case iI=>k_is)
  (case lI=>k_is)
  (case cI=>k_is)
  (case lT=>k_is)
  (case kpg=>k_is)
  (case khd=>k_is)
  (case kpo=>k_is)
  (case ksa=>k_is)
  (case kmk=>k_is)
  (case kkc=>k_is)
  (case kno0=>k_is)
  (case kno1=>k_is)
  (case kno2=>k_is)
  (case gpg=>k_is)
  (case ghd=>k_is)
  (case gpo=>k_is)
  (case gsa=>k_is)
  (case gmk=>k_is)
  (case gkc=>k_is)
  (case gno0=>k_is)
  (case hn=>k_is)
  (case htk=>k_is)
  (case iha=>k_is)
  (case ihm=>k_is)
  (case ihki=>first | k_is | rfl | kernel_rfl | decide +kernel)
  (case hts=>rfl)
  (case hcdp=>first | k_is | rfl | kernel_rfl | decide +kernel)
  (case houtp=>first | k_is | rfl | kernel_rfl | decide +kernel)
  (case c0=>k_is)
  (case c1=>k_is)
  (case c2=>k_is)
  (case c3=>k_is)
  (case qck=>first | k_is | rfl | kernel_rfl | decide +kernel)
  (case qnd=>first | k_is | rfl | kernel_rfl | decide +kernel)
  (case qnAl=>first | k_is | rfl | kernel_rfl | decide +kernel)
  (case qnWa=>first | k_is | rfl | kernel_rfl | decide +kernel)
  (case rck=>first | k_is | rfl | kernel_rfl | decide +kernel)
  (case rckR=>first | k_is | rfl | kernel_rfl | decide +kernel)
  (case rckH=>first | k_is | rfl | kernel_rfl | decide +kernel)
  (case rnd=>first | k_is | rfl | kernel_rfl | decide +kernel)
  (case rnT=>first | k_is | rfl | kernel_rfl | decide +kernel)
  (case xoK=>first | k_is | rfl | kernel_rfl | decide +kernel)
  (case xoth=>first | k_is | rfl | kernel_rfl | decide +kernel)
  (case xexm=>first | k_is | rfl | kernel_rfl | decide +kernel)
  (case xkit=>first | k_is | rfl | kernel_rfl | decide +kernel)
  (case z_isinstance=>k_is)
  (case z_len=>k_is)
  (case z_all=>k_is)
  (case z_set=>k_is)
  (case z_range=>k_is)
  (case z_str=>k_is)
  (case z_list=>k_is)
  (case z_tuple=>k_is)
  (case z_dict=>k_is)
  (case z_min=>k_is)
  (case z_int=>k_is)
