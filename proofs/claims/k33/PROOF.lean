import PyProof.Rows.All
import Wide.All
import OpenK.AllK
import Wide.FinOn
import Lean
import PyProof.EqAt
import PyProof.EqKinds
import PyProof.TupleCall
import PySem.Challenge.RW_cometorest_k33_whole_what_comes_of_rules
import KE.KMinKey
import KE.KLam
import KE.KNestM
import KE.KDictList
import PyProof.EnumMake
import PyProof.EnumFor
import PyProof.EnumStmt
import PyProof.AttrMissHeap
import KE.KDictOf
import PyProof.StrLawsChain
import PyProof.StrLawsTight
import PyProof.Rows.StrItems
import PyProof.Rows.StrSplitCount
import PyProof.FString
import KE.KIntText
import KE.KTryMore
import PyProof.NsDelKeeps
import PyProof.ExcClass3
import PyProof.ExcBaseAll.ValueError
import PyProof.ExcAttrAll.ValueError
import PyProof.NeKinds
import PyProof.FactsAll.dict
import KE.KDictSum
import PyProof.DictItems
import KE.KPairComp
import KE.KxWritten
import PyProof.SumAny
import PyProof.Rows.StrLen
import PyProof.CallStr
import PyProof.StrCalls6
import PyProof.Rows.StrCase
import OpenK.KMake
import KE.KSortTup
set_option Elab.async false
set_option linter.all false
set_option maxRecDepth 100000
abbrev Z0:=@List.length_map
abbrev Z1:=@List.mem_of_getElem?
abbrev Z2:=@PySem.Heap.get?_push_of_some
abbrev Z3:=@List.getElem?_eq_getElem
abbrev Z4:=@List.getElem?_map
abbrev Z5:=@List.take_add_one
abbrev Z6:=@List.map_append
abbrev Z7:=@Nat.le_refl
abbrev Z8:=@List.size_toArray
abbrev Z9:=@PySem.Heap.lt_size
abbrev Za:=@PySem.Heap.get?_push_size
abbrev Zb:=@List.take_length
abbrev Zc:=@Bool.false_ne_true
abbrev Zd:=@Nat.lt_of_lt_of_le
abbrev Ze:=@Nat.ne_of_lt
abbrev Zf:=@Option.some.inj
abbrev Zg:=@List.length_append
abbrev Zh:=@List.mem_cons_of_mem
abbrev Zi:=@List.length_cons
abbrev Zj:=@Nat.zero_le
abbrev Zk:=@List.length_take
abbrev Zl:=@List.mem_cons_self
abbrev Zm:=@Nat.le_trans
abbrev Zn:=@Nat.le_of_lt
abbrev Zo:=@List.getElem?_append_left
abbrev Zp:=@List.length_take_le'
abbrev Zq:=@List.map_map
abbrev Zr:=@List.not_mem_nil
abbrev Zt:=@List.map_cons
abbrev Zu:=@Bool.and_eq_true
abbrev Zv:=@List.mem_cons
abbrev Zw:=@List.mem_append_right
abbrev Zx:=@List.length_take_le
abbrev Zy:=@List.getElem?_append_right
abbrev Zz:=@List.getElem_of_mem
abbrev Y0:=@List.foldl_cons
abbrev Y1:=@Nat.lt_irrefl
abbrev Y2:=@List.lookup_cons
abbrev Y3:=@PySem.Heap.size_push
abbrev Y4:=@Bool.eq_iff_iff
abbrev Y5:=@List.any_cons
abbrev Y6:=@Int.emod_lt_of_pos
abbrev Y7:=@List.length_replicate
abbrev Y8:=@PySem.Heap.get?_none_of_le
abbrev Y9:=@List.replicate_succ
abbrev Ya:=@List.filter_append
abbrev Yb:=@List.find?_cons
abbrev Yc:=@List.mem_of_mem_take
abbrev Yd:=@Nat.ne_of_gt
abbrev Ye:=@Nat.lt_succ_self
abbrev Yf:=@List.all_eq_true
abbrev Yg:=@Array.length_toList
abbrev Yh:=@List.all_cons
abbrev Yi:=@List.flatten_cons
abbrev Yj:=@Nat.succ_mul
abbrev Yk:=@List.nodup_nil
abbrev Yl:=@List.flatMap_cons
namespace L2
open PySem PySem.Spec PyProof.Rows
noncomputable abbrev Key:=Sum Int Str
noncomputable def keyIs:Key→Value→Bool
 | .inl k,v=>Value.isInt k v
 | .inr x,v=>Value.isStrOf x v
noncomputable def keyH (w:World):Key→Int
 | .inl k=>hashInt k
 | .inr x=>hashStr w x
theorem zB3:∀ {k:Key}{v:Value},keyIs k v=true→(∃ i t,k=Sum.inl i∧v=Value.int i t)∨(∃ x t,k=Sum.inr x∧v=Value.str x t)
 | .inl i,v,h=>by
  obtain ⟨t,e⟩:=Value.isInt_shape (k:=i) (v:=v) h;exact .inl ⟨i,t,rfl,e⟩
 | .inr x,v,h=>by
  obtain ⟨t,e⟩:=Value.isStrOf_shape (x:=x) (v:=v) h;exact .inr ⟨x,t,rfl,e⟩
theorem keyIs_int (i:Int) (t:Tok):keyIs (.inl i) (.int i t)=true:=by simp [keyIs,Value.isInt]
theorem keyIs_str (x:Str) (t:Tok):keyIs (.inr x) (.str x t)=true:=by simp [keyIs,Value.isStrOf]
theorem key_ll (a b:Int):decide ((Sum.inl a:Key)=Sum.inl b)=(a == b):=by
 by_cases e:a=b
 ·subst e;simp
 ·have h:¬ (Sum.inl a:Key)=Sum.inl b:=fun q=>e (Sum.inl.inj q);rw [decide_eq_false h];exact (beq_eq_false_iff_ne.mpr e).symm
theorem key_rr (a b:Str):decide ((Sum.inr a:Key)=Sum.inr b)=decide (a=b):=by
 by_cases e:a=b
 ·subst e;simp
 ·have h:¬ (Sum.inr a:Key)=Sum.inr b:=fun q=>e (Sum.inr.inj q);rw [decide_eq_false h,decide_eq_false e]
theorem key_lr (a:Int) (b:Str):decide ((Sum.inl a:Key)=Sum.inr b)=false:=decide_eq_false (fun q=>nomatch q)
theorem key_rl (a:Str) (b:Int):decide ((Sum.inr a:Key)=Sum.inl b)=false:=decide_eq_false (fun q=>nomatch q)
noncomputable def mixKind (prog:Program) (w:World):PySem.KeyKind prog w Key where
 is:=keyIs
 hash:=keyH w
 inj:=fun v a b ha hb=>by
  rcases zB3 ha with ⟨i,t,rfl,rfl⟩ | ⟨x,t,rfl,rfl⟩
  ·rcases zB3 hb with ⟨j,u,rfl,e⟩ | ⟨y,u,rfl,e⟩
   ·injection e with e1 _;rw [e1]
   ·exact nomatch e
  ·rcases zB3 hb with ⟨j,u,rfl,e⟩ | ⟨y,u,rfl,e⟩
   ·exact nomatch e
   ·injection e with e1 _;rw [e1]
 byValue:=fun k v h=>by
  rcases zB3 h with ⟨i,t,rfl,rfl⟩ | ⟨x,t,rfl,rfl⟩ <;> rfl
 pyHash:=fun hv h=>by
  rcases zB3 hv with ⟨i,t,rfl,rfl⟩ | ⟨x,t,rfl,rfl⟩
  ·exact wpAny_pyHash_int h
  ·exact wpAny_pyHash_str h
 eqBool:=fun hu hv h=>by
  rcases zB3 hu with ⟨i,t,rfl,rfl⟩ | ⟨x,t,rfl,rfl⟩
  ·rcases zB3 hv with ⟨j,u,rfl,rfl⟩ | ⟨y,u,rfl,rfl⟩
   ·rw [key_ll] at h;exact wpAny_eqBool_int h
   ·rw [key_lr] at h;exact SeqAt.EqAt.int_str i t y u _ _ _ _ h
  ·rcases zB3 hv with ⟨j,u,rfl,rfl⟩ | ⟨y,u,rfl,rfl⟩
   ·rw [key_rl] at h;exact SeqAt.EqAt.str_int x t j u _ _ _ _ h
   ·rw [key_rr] at h;exact wpAny_eqBool_str h
 «strs»:=fun k x t v h=>by
  rcases zB3 h with ⟨i,u,rfl,e⟩ | ⟨y,u,rfl,e⟩
  ·exact nomatch e
  ·injection e with e1 _;subst e1;cases v <;> rfl
theorem mixKind_int (prog:Program) (w:World) (i:Int) (t:Tok):(mixKind prog w).is (.inl i) (.int i t)=true:=keyIs_int i t
theorem mixKind_str (prog:Program) (w:World) (x:Str) (t:Tok):(mixKind prog w).is (.inr x) (.str x t)=true:=keyIs_str x t
end L2
namespace L2
open PySem PySem.Spec PyProof.Rows
inductive V where
 | non | bl (b:Bool) | int (i:Int) | str (x:Str) | byt (b:Array UInt8) | flt (b:UInt64) | ref (a:Addr) | ty (n:String)
 deriving DecidableEq
noncomputable def RelV:V→Value→Prop
 | .non,u=>u=Value.none
 | .bl b,u=>u=Value.bool b
 | .int i,u=>∃ t,u=Value.int i t
 | .str x,u=>∃ t,u=Value.str x t
 | .byt b,u=>∃ t,u=Value.bytes b t
 | .flt b,u=>∃ t,u=Value.float b t
 | .ref a,u=>u=Value.ref a
 | .ty n,u=>u=Value.type n
noncomputable abbrev Vals:List V→List Value→Prop:=Paired RelV
theorem Vals.length {xs:List V}{us:List Value} (r:Vals xs us):xs.length=us.length:=Paired.length r
theorem Vals.get:∀ {xs:List V}{us:List Value}{i:Nat}{x:V},Vals xs us→xs[i]? = some x→∃ u,us[i]? = some u∧RelV x u
 | _,_,_,_,.nil,e=>by simp at e
 | _,_,0,_,.cons r _,e=>by simp at e;subst e;exact ⟨_,rfl,r⟩
 | _,_,i + 1,x,.cons _ t,e=>by
  obtain ⟨u,h1,h2⟩:=Vals.get (i:=i) (x:=x) t (by simpa using e);exact ⟨u,by simpa using h1,h2⟩
theorem Vals.set {x:V}{u:Value} (r:RelV x u):∀ {xs:List V}{us:List Value} (i:Nat),Vals xs us→Vals (xs.set i x) (us.set i u)
 | _,_,_,.nil=>.nil
 | _,_,0,.cons _ t=>.cons r t
 | _,_,i + 1,.cons q t=>.cons q (Vals.set r i t)
theorem Vals.append:∀ {xs ys:List V}{us ws:List Value},Vals xs us→Vals ys ws→Vals (xs++ys) (us++ws)
 | _,_,_,_,.nil,s=>s
 | _,_,_,_,.cons r t,s=>.cons r (Vals.append t s)
theorem Vals.take:∀ {xs:List V}{us:List Value} (n:Nat),Vals xs us→Vals (xs.take n) (us.take n)
 | _,_,0,_=>.nil
 | _,_,_ + 1,.nil=>.nil
 | _,_,n + 1,.cons r t=>.cons r (Vals.take n t)
theorem Vals.drop:∀ {xs:List V}{us:List Value} (n:Nat),Vals xs us→Vals (xs.drop n) (us.drop n)
 | _,_,0,r=>r
 | _,_,_ + 1,.nil=>.nil
 | _,_,n + 1,.cons _ t=>Vals.drop n t
noncomputable def RelO:Option V→Option Value→Prop
 | some v,some u=>RelV v u
 | none,none=>True
 | _,_=>False
noncomputable def KV {κ : Type}:List (κ×V)→List (κ×Value)→Prop:=Paired fun (p : κ×V) (q : κ×Value)=>p.1=q.1∧RelV p.2 q.2
noncomputable def kV:Key→V
 | .inl i=>.int i
 | .inr x=>.str x
inductive HO where
 | lst (xs:List V)
 | tup (xs:List V)
 | dK (kvs:List (Key×V)) | dT (kvs:List (List Key×V))
 | set (S:Int→Bool) (n:Nat)
 | ins (C dx:Addr) (fs:List (Str×V))
 | own (x:Addr)
 | xd (fs:List (Str×V))
 | met (f x:Addr)
 | rng (lo hi:Int)
 | frz (o:Obj) (u:HO)
 | tbl (ps:Array Value)
 | ext (φ : Heap→Prop)
noncomputable abbrev Hp:=Addr→Option HO
noncomputable def upd (H:Hp) (a:Addr) (o:HO):Hp:=fun b=>if b=a then some o else H b
theorem zA1 {H:Hp}{a:Addr}{o:HO}:upd H a o a=some o:=by unfold upd;rw [if_pos rfl]
theorem zAa {H:Hp}{a b:Addr}{o:HO} (h:b≠a):upd H a o b=H b:=by unfold upd;rw [if_neg h]
theorem ne_of {H:Hp}{a b:Addr}{o u:HO} (h:H a=some o) (h':H b=some u) (d:o≠u):a≠b:=by
 intro e;subst e;rw [h] at h';exact d (Zf h')
theorem zA7 {H:Hp}{a b:Addr}{o:HO} (h:H a=some o) (h':H b=none):a≠b:=by
 intro e;subst e;rw [h] at h';cases h'
section
variable (P:Program) (w:World)
noncomputable def ObjOk (H:Hp) (h:Heap) (a:Addr):HO→Prop
 | .lst xs=>xs.length≤sizeLine∧∃ (its:List Value) (n:Nat),Vals xs its∧h.get? a=some { cls:=.type "list",data:=.seq its.toArray n }
 | .tup xs=>xs.length≤sizeLine∧∃ its:List Value,Vals xs its∧IsTup h a its.toArray
 | .dK kvs=>kvs.length≤sizeLine∧(a == sysModules)=false∧∃ vs,KV kvs vs∧h.DictOf (mixKind P w) a vs
 | .dT kvs=>kvs.length≤sizeLine∧(a == sysModules)=false∧∃ xs:List (List Key×Addr×Value),
   Paired (fun (p:List Key×V) (q:List Key×Addr×Value)=>p.1=q.1∧H q.2.1=some (.tup (p.1.map kV))∧RelV p.2 q.2.2) kvs xs ∧
   ∃ o es ep,h.get? a=some o∧o.ExactDict∧o.data=.dict es ep∧es.toList=xs.map (entryOfKey (tupleKind (mixKind P w)))∧(xs.map (·.1)).Nodup
 | .set S n=>h.SetOf (intKind P w) a S n
 | .ins C dx fs=>H dx=some (.own a)∧fs.length≤1000∧dx≠a∧h.get? a=some (PySem.W.instObj C dx) ∧
   ∃ mA,h.Ns1 dx mA∧(∀ f,RelO (fs.lookup f) (mA f))∧PySem.Within mA (fs.map (·.1))
 | .own _=>∃ o,h.get? a=some o
 | .xd fs=>∃ mA,h.Ns1 a mA∧∀ f,RelO (fs.lookup f) (mA f)
 | .rng lo hi=>∃ t u v,h.get? a=some { cls:=.type "range",data:=.fields #[.int lo t,.int hi u,.int 1 v] }
 | .frz o u=>h.get? a=some o∧ObjOk H h a u
 | .tbl ps=>h.get? a=some { cls:=.none,data:=.fields ps }
 | .met f x=>h.get? a=some (PySem.W.methodObj (.ref f) (.ref x))
 | .ext φ=>φ h∧(∃ o,h.get? a=some o)∧∀ h1 h2:Heap,φ h1→(∀ o,h1.get? a=some o→h2.get? a=some o)→φ h2
noncomputable def HOk (H:Hp) (h:Heap):Prop:=∀ a o,H a=some o→ObjOk P w H h a o
end
section
variable {P:Program}{w:World}{H H':Hp}{h h':Heap}{a:Addr}{o:HO}
theorem ObjOk.lt (x:ObjOk P w H h a o):a < h.objs.size:=by
 cases o with
 | lst xs=>obtain ⟨_,_,_,_,e⟩:=x;exact Z9 e
 | tup xs=>obtain ⟨_,_,_,p⟩:=x;exact p.lt
 | dK kvs=>obtain ⟨_,_,_,_,o,_,_,e,_⟩:=x;exact Z9 e
 | dT kvs=>obtain ⟨_,_,_,_,o,_,_,e,_⟩:=x;exact Z9 e
 | set S n=>obtain ⟨o,_,_,_,e,_⟩:=x;exact Z9 e
 | ins C dx fs=>obtain ⟨_,_,_,e,_⟩:=x;exact Z9 e
 | own y=>obtain ⟨_,e⟩:=x;exact Z9 e
 | xd fs=>obtain ⟨_,⟨_,_,_,e,_⟩,_⟩:=x;exact Z9 e
 | rng lo hi=>obtain ⟨_,_,_,e⟩:=x;exact Z9 e
 | frz ob u=>obtain ⟨e,_⟩:=x;exact Z9 e
 | tbl ps=>exact Z9 (show h.get? a=some _ from x)
 | met f y=>exact Z9 (show h.get? a=some _ from x)
 | ext φ=>obtain ⟨_,⟨_,e⟩,_⟩:=x;exact Z9 e
theorem Paired.mapP {α β : Type}{F G : α→β→Prop}:∀ {l₁ : List α}{l₂ : List β},Paired F l₁ l₂→(∀ a b,F a b→G a b)→Paired G l₁ l₂
 | _,_,.nil,_=>.nil
 | _,_,.cons r t,f=>.cons (f _ _ r) (Paired.mapP t f)
theorem Paired.imp' {α β : Type}{F G : α→β→Prop} (f:∀ a b,F a b→G a b) {l₁ : List α}{l₂ : List β} (r:Paired F l₁ l₂):Paired G l₁ l₂:=Paired.mapP r f
theorem ObjOk.stay (x:ObjOk P w H h a o) (k:∀ b u,(b=a∨H b=some (.own a))→h.get? b=some u→h'.get? b=some u)
  (ho:∀ b,H b=some (.own a)→H' b=some (.own a)) (ht:∀ b xs,H b=some (.tup xs)→H' b=some (.tup xs)):ObjOk P w H' h' a o:=by
 induction o with
 | lst xs=>obtain ⟨z,its,n,r,e⟩:=x;exact ⟨z,its,n,r,k _ _ (.inl rfl) e⟩
 | tup xs=>obtain ⟨z,its,r,ob,e,c⟩:=x;exact ⟨z,its,r,ob,k _ _ (.inl rfl) e,c⟩
 | dK kvs=>obtain ⟨z,y,vs,r,ob,es,ep,e,c⟩:=x;exact ⟨z,y,vs,r,ob,es,ep,k _ _ (.inl rfl) e,c⟩
 | dT kvs =>
  obtain ⟨z,y,xs,r,ob,es,ep,e,c⟩:=x;exact ⟨z,y,xs,Paired.mapP r fun p q z=>⟨z.1,ht _ _ z.2.1,z.2.2⟩,ob,es,ep,k _ _ (.inl rfl) e,c⟩
 | set S n=>obtain ⟨ob,es,ep,t,e,c⟩:=x;exact ⟨ob,es,ep,t,k _ _ (.inl rfl) e,c⟩
 | ins C dx fs =>
  obtain ⟨d,z,ne,e,mA,⟨od,es,ep,e2,c⟩,r⟩:=x;exact ⟨ho _ d,z,ne,k _ _ (.inl rfl) e,mA,⟨od,es,ep,k _ _ (.inr d) e2,c⟩,r⟩
 | own y=>obtain ⟨ob,e⟩:=x;exact ⟨ob,k _ _ (.inl rfl) e⟩
 | xd fs=>obtain ⟨mA,⟨od,es,ep,e,c⟩,r⟩:=x;exact ⟨mA,⟨od,es,ep,k _ _ (.inl rfl) e,c⟩,r⟩
 | rng lo hi=>obtain ⟨t,u,v,e⟩:=x;exact ⟨t,u,v,k _ _ (.inl rfl) e⟩
 | frz ob u ih=>obtain ⟨e,q⟩:=x;exact ⟨k _ _ (.inl rfl) e,ih q⟩
 | tbl ps =>
  have e:h.get? a=some { cls:=.none,data:=.fields ps }:=x;show h'.get? a=some { cls:=.none,data:=.fields ps };exact k a _ (.inl rfl) e
 | met f y =>
  have e:h.get? a=some (PySem.W.methodObj (.ref f) (.ref y)):=x;show h'.get? a=some (PySem.W.methodObj (.ref f) (.ref y));exact k a _ (.inl rfl) e
 | ext φ=>obtain ⟨p,⟨o,e⟩,st⟩:=x;exact ⟨st _ _ p fun o q=>k _ _ (.inl rfl) q,⟨o,k _ _ (.inl rfl) e⟩,st⟩
theorem HOk.lt (x:HOk P w H h) (e:H a=some o):a < h.objs.size:=(x a o e).lt
theorem HOk.fresh (x:HOk P w H h) (e:h.objs.size≤a):H a=none:=by
 cases q:H a with
 | none=>rfl
 | some u=>exact absurd (Zd (x.lt q) e) (Y1 _)
theorem HOk.kept (x:HOk P w H h) (k:∀ b u,h.get? b=some u→h'.get? b=some u):HOk P w H h':=fun a o e =>
 (x a o e).stay (fun b u _ q=>k b u q) (fun _ q=>q) fun _ _ q=>q
theorem HOk.laid (x:HOk P w H h) (k:∀ b u,h.get? b=some u→h'.get? b=some u) (hp:h.objs.size≤a) (new:ObjOk P w (upd H a o) h' a o):HOk P w (upd H a o) h':=fun b u e=>by
 have hn:=x.fresh hp;by_cases hb:b=a
 ·subst hb;rw [zA1] at e;cases e;exact new
 ·rw [zAa hb] at e;exact (x b u e).stay (fun c v _ q=>k c v q) (fun c q=>by rw [zAa (zA7 q hn)];exact q) fun c xs q=>by rw [zAa (zA7 q hn)];exact q
end
noncomputable def Rd (H:Hp) (a:Addr) (u:HO):Prop:=H a=some u∨∃ o,H a=some (.frz o u)
theorem Rd.of {H:Hp}{a:Addr}{u:HO} (h:H a=some u):Rd H a u:=.inl h
theorem Rd.ok {P:Program}{w:World}{H:Hp}{h:Heap}{a:Addr}{u:HO} (r:Rd H a u) (x:HOk P w H h):ObjOk P w H h a u:=by
 rcases r with r | ⟨o,r⟩
 ·exact x a u r
 ·obtain ⟨_,q⟩:=x a _ r;exact q
noncomputable def Mut:Option HO→Prop
 | some (.lst _)=>True
 | some (.dK _)=>True
 | some (.dT _)=>True
 | some (.set _ _)=>True
 | some (.ins _ _ _)=>True
 | some (.ext _)=>True
 | _=>False
section
variable {P:Program}{w:World}{H:Hp}{h h':Heap}{x e:Addr}{o':HO}
theorem HOk.write (ok:HOk P w H h) (mu:Mut (H x)) (he:e=x∨H e=some (.own x)) (k:∀ b u,b≠e→h.get? b=some u→h'.get? b=some u) (heo:∃ u,h'.get? e=some u)
  (new:ObjOk P w (upd H x o') h' x o'):HOk P w (upd H x o') h':=fun b u q=>by
 have nown:∀ c y,H c=some (.own y)→c≠x:=fun c y r z=>by subst z;rw [r] at mu;exact mu
 have ntup:∀ c xs,H c=some (.tup xs)→c≠x:=fun c xs r z=>by subst z;rw [r] at mu;exact mu
 by_cases hb:b=x
 ·subst hb;rw [zA1] at q;cases q;exact new
 ·rw [zAa hb] at q;by_cases hbe:b=e
  ·have q':H b=some (.own x):=by
    rcases he with z | z
    ·exact absurd (hbe.trans z) hb
    ·rw [hbe];exact z
   rw [q] at q';cases q';obtain ⟨v,hv⟩:=heo;exact ⟨v,by rw [hbe];exact hv⟩
  ·refine (ok b u q).stay (fun c v hc r=>k c v ?_ r) (fun c r=>by rw [zAa (nown c b r)];exact r) fun c xs r=>by rw [zAa (ntup c xs r)];exact r
   rcases hc with rfl | hc
   ·exact hbe
   ·rintro rfl;rcases he with z | z
    ·exact nown c b hc z
    ·rw [hc] at z;cases z;exact hb rfl
end
structure Un (fs ex:List Addr) (H H':Hp) (h h':Heap):Prop where
 keep:∀ b o,h.get? b=some o→H b=none→b∉fs→b∉ex→h'.get? b=some o
 slot:∀ b o,h.get? b=some o→H b=none→b∈fs→b∉ex→∃ sl,h'.get? b=some { o with slots:=sl }
 free:∀ b o,h.get? b=some o→H b=none→b∉ex→H' b=none
 there:∀ b o,h.get? b=some o→b∉ex→∃ o',h'.get? b=some o'
 tups:∀ b xs,H b=some (.tup xs)→H' b=some (.tup xs)
 frzs:∀ b o u,H b=some (.frz o u)→H' b=some (.frz o u)
 tbls:∀ b ps,H b=some (.tbl ps)→∃ more,H' b=some (.tbl (ps++more))
section
variable {fs fs' ex ex':List Addr}{H H1 H2:Hp}{h h1 h2 h':Heap}{a x e:Addr}{o:HO}
theorem Un.any (u:Un fs ex H H1 h h1) {b:Addr}{ob:Obj} (q:h.get? b=some ob) (n:H b=none) (hx:b∉ex):∃ sl,h1.get? b=some { ob with slots:=sl }:=by
 by_cases hb:b∈fs
 ·exact u.slot b ob q n hb hx
 ·exact ⟨ob.slots,u.keep b ob q n hb hx⟩
theorem Un.trans (a:Un fs ex H H1 h h1) (b:Un fs ex H1 H2 h1 h2):Un fs ex H H2 h h2 where
 keep:=fun c ob q n hc hx=>b.keep c ob (a.keep c ob q n hc hx) (a.free c ob q n hx) hc hx
 slot:=fun c ob q n hc hx=>by
  obtain ⟨sl,e1⟩:=a.slot c ob q n hc hx;obtain ⟨sl',e2⟩:=b.slot c _ e1 (a.free c ob q n hx) hc hx;exact ⟨sl',e2⟩
 free:=fun c ob q n hx=>by
  obtain ⟨o',e1⟩:=a.there c ob q hx;exact b.free c o' e1 (a.free c ob q n hx) hx
 there:=fun c ob q hx=>by
  obtain ⟨o',e1⟩:=a.there c ob q hx;exact b.there c o' e1 hx
 tups:=fun c xs q=>b.tups c xs (a.tups c xs q)
 frzs:=fun c ob xs q=>b.frzs c ob xs (a.frzs c ob xs q)
 tbls:=fun c ps q=>by
  obtain ⟨m1,e1⟩:=a.tbls c ps q;obtain ⟨m2,e2⟩:=b.tbls c _ e1;exact ⟨m1++m2,by rw [e2,Array.append_assoc]⟩
theorem Un.kept (k:∀ b u,h.get? b=some u→h'.get? b=some u):Un fs ex H H h h' :=
 ⟨fun b ob q _ _ _=>k b ob q,fun b ob q _ _ _=>⟨ob.slots,k b ob q⟩,fun _ _ _ n _=>n,fun b ob q _=>⟨ob,k b ob q⟩,fun _ _ q=>q,fun _ _ _ q=>q,fun _ ps q=>⟨#[],by rw [q];simp⟩⟩
theorem Un.refl:Un fs ex H H h h:=Un.kept fun _ _ q=>q
theorem Un.laid (k:∀ b u,h.get? b=some u→h'.get? b=some u) (hp:h.objs.size≤a) (hn:H a=none):Un fs ex H (upd H a o) h h' where
 keep:=fun b u q _ _ _=>k b u q
 slot:=fun b u q _ _ _=>⟨u.slots,k b u q⟩
 free:=fun b u q n _=>by rw [zAa (Ze (Zd (Z9 q) hp))];exact n
 there:=fun b u q _=>⟨u,k b u q⟩
 tups:=fun b xs q=>by rw [zAa (zA7 q hn)];exact q
 frzs:=fun b u xs q=>by rw [zAa (zA7 q hn)];exact q
 tbls:=fun b ps q=>⟨#[],by rw [zAa (zA7 q hn),q];simp⟩
theorem Un.write (mu:Mut (H x)) (he:e=x∨H e=some (.own x)) (k:∀ b u,b≠e→h.get? b=some u→h'.get? b=some u) (heo:∃ u,h'.get? e=some u):Un fs ex H (upd H x o) h h':=by
 have hx:∀ b,H b=none→b≠x:=fun b n z=>by subst z;rw [n] at mu;exact mu
 have hb:∀ b,H b=none→b≠e:=fun b n z=>by
  subst z;rcases he with r | r
  ·exact hx b n r
  ·rw [n] at r;cases r
 have hm:∀ b u,H b=some u→¬ Mut (some u)→b≠x:=fun b u q nm z=>by subst z;rw [q] at mu;exact nm mu
 refine ⟨fun b u q n _ _=>k b u (hb b n) q,fun b u q n _ _=>⟨u.slots,k b u (hb b n) q⟩,fun b u q n _=>by rw [zAa (hx b n)];exact n,fun b u q _=>?_,
  fun b xs q=>by rw [zAa (hm b _ q fun z=>z)];exact q,fun b u xs q=>by rw [zAa (hm b _ q fun z=>z)];exact q,fun b ps q=>⟨#[],by rw [zAa (hm b _ q fun z=>z),q];simp⟩⟩
 by_cases hbe:b=e
 ·subst hbe;exact heo
 ·exact ⟨u,k b u hbe q⟩
end
noncomputable def trk (h:Heap) (H:Hp):List Addr:=(List.range h.objs.size).filter fun a=>(H a).isSome
noncomputable def hidT (h:Heap) (H:Hp):Heap:=PySem.W.hideAll h (trk h H)
theorem hidT_size (h:Heap) (H:Hp):(hidT h H).objs.size=h.objs.size:=PySem.W.hideAll_size _ _
theorem hidT_get {h:Heap}{H:Hp}{b:Addr}{o:Obj} (e:h.get? b=some o) (n:H b=none):(hidT h H).get? b=some o :=
 PySem.W.hideAll_get _ e fun hm=>by
  have q:(H b).isSome=true:=(List.mem_filter.mp hm).2;rw [n] at q;simp at q
theorem of_hidT {h:Heap}{H:Hp}{b:Addr}{o:Obj} (e:(hidT h H).get? b=some o):h.get? b=some o∧H b=none:=by
 have e':h.get? b=some o:=PySem.W.of_hideAll (trk h H) e;refine ⟨e',?_⟩;cases q:H b with
 | none=>rfl
 | some x =>
  have hm:b∈trk h H:=List.mem_filter.mpr ⟨List.mem_range.mpr (Z9 e'),by simp [q]⟩;have z:(hidT h H).get? b=none:=PySem.W.hideAll_none (trk h H) hm;rw [z] at e;cases e
noncomputable def allNews (g h:Heap) (L:Addr):List (Addr×Obj):=(List.range h.objs.size).filterMap fun a=>if a=L∨(g.get? a).isSome=true then none else (h.get? a).map fun o=>(a,o)
noncomputable def rest (g h:Heap) (L d:Addr):List (Addr×Obj):=(allNews g h L).filter fun p=>decide (p.1≠d)
end L2
namespace L2
open PySem PySem.Spec PyProof.Rows
structure Mod (K:PySem.W.Frag) (mg:Str→Option Value) (base:Heap):Prop where
 kin:K.In base
 glob:base.Ns mainGlobals mg
 blt:∃ mb,base.Ns builtinsNs mb∧∀ x:Str,x≠"__name__"→mb x=bootBuiltins x
 nolimit:base.NoLimit
structure Cx where
 prog:Program
 w:World
 K:PySem.W.Frag
 mg:Str→Option Value
 base:Heap
 A:Around
 N:List Str
 s₀ : Shared
 H₀ : Hp
 env:Env
 outer:List Env
 stack:List Env
 ex:List Addr
 fn:Str→Bool
 calm:Bool
 pn:List (Addr×Obj)
 xe:Value→Shared→Prop
noncomputable def frs (l:List Env):List Addr:=l.filterMap (·.frame)
noncomputable abbrev Cx.fs (X:Cx):List Addr:=frs X.outer
noncomputable def Vis (sc:Scope) (x:Str):Prop:=sc.names.lookup x=some .local∨sc.names.lookup x=some .cell∨sc.names.lookup x=some .free
noncomputable def Loc (sc:Scope) (x:Str):Prop:=sc.names.lookup x=some .local∨sc.names.lookup x=some .cell
noncomputable def Look (env:Env) (h:Heap) (m:Str→Option Value) (x:Str) (u:Value):Prop :=
 (env.kindOf x=some .local∧m x=some u)∨((env.kindOf x=some .cell∨env.kindOf x=some .free)∧∃ c,env.cells.lookup x=some c∧h.IsCell c (some u))
structure Cx.Ok (X:Cx):Prop where
 mod:Mod X.K X.mg X.base
 kind:X.env.scope.kind=.function
 glob:X.env.globals=mainGlobals
 blt:X.env.builtins=builtinsNs
 above:X.s₀.heap.objs.size≤X.env.locals
 inj:∀ x y c,X.env.cells.lookup x=some c→X.env.cells.lookup y=some c→x=y
 has:∀ x,(X.env.kindOf x=some .cell∨X.env.kindOf x=some .free)→∃ c,X.env.cells.lookup x=some c
 cab:∀ x c,X.fn x=true→X.env.cells.lookup x=some c→X.s₀.heap.objs.size≤c
 hd:X.calm=true→X.A.handled=none
 frames:X.A.frames=some X.stack
 stk:X.stack=X.outer∨(X.stack=X.env :: X.outer∧X.env.frame=some X.env.locals)
 exf:∀ b∈X.ex,b≠X.env.locals∧∀ x c,X.env.cells.lookup x=some c→c≠b
 bs:∀ b o,X.base.get? b=some o→X.s₀.heap.get? b=some o∧X.H₀ b=none
 bsz:X.base.objs.size≤X.s₀.heap.objs.size
 noex:∀ b o,X.base.get? b=some o→b∉X.ex
 exfs:∀ b∈X.ex,b∉X.fs
 funs:X.s₀.heap.FunFrames X.base X.outer
 frf:∀ b∈X.fs,X.H₀ b=none
structure Inv (X:Cx) (pins:List (Addr×Obj)) (σ : List (Option V)) (H:Hp) (s:Shared):Prop where
 ok:X.Ok
 os:s.os=X.s₀.os
 bare:AllBare s.gens
 base:Un X.fs X.ex X.H₀ H X.s₀.heap s.heap
 loc:∃ m,s.heap.Ns X.env.locals m∧∀ (i:Nat) (x:Str) (v:V),X.N[i]? = some x→σ[i]? = some (some v)→Vis X.env.scope x→∃ u,RelV v u∧Look X.env s.heap m x u
 cell:∀ x c,X.env.cells.lookup x=some c→∃ v,s.heap.IsCell c v
 free:H X.env.locals=none
 freeC:∀ x c,X.env.cells.lookup x=some c→H c=none
 pin:∀ p∈X.pn++pins,s.heap.get? p.1=some p.2∧H p.1=none∧p.1≠X.env.locals∧p.1∉X.fs∧∀ v,p.2.data≠.cell v
 hok:HOk X.prog X.w H s.heap
 len : σ.length=X.N.length
section
variable {X:Cx}{pins:List (Addr×Obj)}{σ : List (Option V)}{H H':Hp}{s:Shared}{h':Heap}
theorem Cx.Ok.nofr (ok:X.Ok) {b:Addr}{o:Obj} (e:X.base.get? b=some o):b∉X.fs:=fun hb=>by
 have:=(ok.funs.mem hb).1;rw [e] at this;cases this
theorem Inv.bs (I:Inv X pins σ H s):∀ b o,X.base.get? b=some o→s.heap.get? b=some o∧H b=none:=fun b o e =>
 ⟨I.base.keep b o (I.ok.bs b o e).1 (I.ok.bs b o e).2 (I.ok.nofr e) (I.ok.noex b o e),I.base.free b o (I.ok.bs b o e).1 (I.ok.bs b o e).2 (I.ok.noex b o e)⟩
theorem Inv.bk (I:Inv X pins σ H s):∀ b o,X.base.get? b=some o→s.heap.get? b=some o:=fun b o e=>(I.bs b o e).1
theorem Inv.mod (I:Inv X pins σ H s):Mod X.K X.mg X.base:=I.ok.mod
theorem Inv.kIn (I:Inv X pins σ H s):X.K.In s.heap:=I.ok.mod.kin.keeps I.bk
theorem Inv.nolimit (I:Inv X pins σ H s):s.heap.NoLimit:=I.ok.mod.nolimit.keeps I.bk
theorem Inv.lt (I:Inv X pins σ H s):X.env.locals < s.heap.objs.size:=let ⟨_,hn,_⟩:=I.loc;hn.lt
theorem Inv.sz (I:Inv X pins σ H s):X.s₀.heap.objs.size≤s.heap.objs.size:=Zm I.ok.above (Zn I.lt)
theorem Inv.nofs (I:Inv X pins σ H s) {a:Addr} (h:s.heap.objs.size≤a):a∉X.fs:=fun hb=>by
 obtain ⟨_,o,ho,_⟩:=I.ok.funs.mem hb;exact absurd (Zd (Z9 ho) (Zm I.sz h)) (Y1 _)
theorem Inv.cne (I:Inv X pins σ H s):∀ x c,X.env.cells.lookup x=some c→c≠X.env.locals:=fun x c e z=>by
 obtain ⟨v,o,ho,hd⟩:=I.cell x c e;obtain ⟨m,⟨o',es,ep,ho',hd',_⟩,_⟩:=I.loc;rw [z,ho'] at ho;cases ho;rw [hd'] at hd;cases hd
theorem Inv.funs (I:Inv X pins σ H s):s.heap.FunFrames X.base X.outer:=by
 have all:∀ (l:List Env),(∀ b∈frs l,b∈X.fs)→X.s₀.heap.FunFrames X.base l→s.heap.FunFrames X.base l:=by
  intro l
  induction l with
  | nil=>intro _ _;trivial
  | cons env r ih =>
   intro hs hl;obtain ⟨hk,⟨L,o,hf,hn,ho,hd⟩,hr⟩:=hl;have hL:L∈X.fs:=hs L (by unfold frs;rw [List.filterMap_cons,hf];exact Zl);obtain ⟨sl,e⟩:=I.base.slot L o ho (I.ok.frf L hL) hL fun z=>I.ok.exfs L z hL;exact ⟨hk,⟨L,_,hf,hn,e,hd⟩,ih (fun b hb=>hs b (by unfold frs;rw [List.filterMap_cons,hf];exact Zh _ hb)) hr⟩
 exact all X.outer (fun _ hb=>hb) I.ok.funs
theorem Inv.stack (I:Inv X pins σ H s):s.heap.FunFrames X.base X.stack:=by
 rcases I.ok.stk with e | ⟨e,hf⟩
 ·rw [e];exact I.funs
 ·rw [e];obtain ⟨m,hn,_⟩:=I.loc;refine .cons (by rw [I.ok.kind];decide) hf hn ?_ I.funs;exact Y8 (Zm I.ok.bsz I.ok.above)
theorem Inv.stkSub (I:Inv X pins σ H s):∀ b∈frs X.stack,b∈X.env.locals :: X.fs:=fun b hb=>by
 rcases I.ok.stk with e | ⟨e,hf⟩
 ·rw [e] at hb;exact Zh _ hb
 ·rw [e] at hb;unfold frs at hb;rw [List.filterMap_cons,hf] at hb;exact hb
theorem Inv.stkFree (I:Inv X pins σ H s):∀ b∈frs X.stack,H b=none:=fun b hb=>by
 rcases List.mem_cons.mp (I.stkSub b hb) with e | hb
 ·rw [e];exact I.free
 ·obtain ⟨_,o,ho,_⟩:=I.ok.funs.mem hb;exact I.base.free b o ho (I.ok.frf b hb) fun z=>I.ok.exfs b z hb
theorem Inv.step {g':Array GenState}{t':Nat}{d':Drawn}{ch:List Addr} (I:Inv X pins σ H s)
  (hch:∀ b∈ch,(b∈X.ex∨X.s₀.heap.get? b=none)∧b≠X.env.locals∧(∀ x c,X.env.cells.lookup x=some c→c≠b)∧∀ p∈X.pn++pins,p.1≠b)
  (keep:∀ b o,b≠X.env.locals→b∉X.fs→b∉ch→s.heap.get? b=some o→H b=none→h'.get? b=some o)
  (slot:∀ b o,b≠X.env.locals→b∈X.fs→b∉ch→s.heap.get? b=some o→H b=none→∃ sl,h'.get? b=some { o with slots:=sl }) (free:∀ b o,b∉ch→s.heap.get? b=some o→H b=none→H' b=none)
  (there:∀ b o,b∉ch→s.heap.get? b=some o→∃ o',h'.get? b=some o')
  (tups:∀ b xs,H b=some (.tup xs)→H' b=some (.tup xs)) (frzs:∀ b o u,H b=some (.frz o u)→H' b=some (.frz o u)) (tbls:∀ b ps,H b=some (.tbl ps)→∃ more,H' b=some (.tbl (ps++more)))
  (ns:∀ m,s.heap.Ns X.env.locals m→h'.Ns X.env.locals m) (hok:HOk X.prog X.w H' h') (hg:AllBare g') :
  Inv X pins σ H' { s with heap:=h',gens:=g',drawn:=d',toks:=t' }:=by
 have neL:∀ b o,X.s₀.heap.get? b=some o→b≠X.env.locals:=fun b o e=>Ze (Zd (Z9 e) I.ok.above);have neC:∀ b o,X.s₀.heap.get? b=some o→b∉X.ex→b∉ch:=fun b o e hx hb=>by
  rcases (hch b hb).1 with z | z
  ·exact hx z
  ·rw [z] at e;cases e
 have cellK:∀ x c,X.env.cells.lookup x=some c→∀ v,s.heap.IsCell c v→h'.IsCell c v:=fun x c e v ⟨o,ho,hd⟩=>by
  have nch:c∉ch:=fun z=>(hch c z).2.2.1 x c e rfl;by_cases hc:c∈X.fs
  ·obtain ⟨sl,q⟩:=slot c o (I.cne x c e) hc nch ho (I.freeC x c e);exact ⟨_,q,hd⟩
  ·exact ⟨o,keep c o (I.cne x c e) hc nch ho (I.freeC x c e),hd⟩
 refine ⟨I.ok,I.os,hg,⟨fun b o e n hb hx=>?_,fun b o e n hb hx=>?_,fun b o e n hx=>?_,fun b o e hx=>?_,fun b xs e=>tups b xs (I.base.tups b xs e),fun b o xs e=>frzs b o xs (I.base.frzs b o xs e),fun b ps e=>?_⟩,?_,fun x c e=>?_,?_,fun x c e=>?_,fun p hp=>?_,hok,I.len⟩
 ·exact keep b o (neL b o e) hb (neC b o e hx) (I.base.keep b o e n hb hx) (I.base.free b o e n hx)
 ·obtain ⟨sl,e1⟩:=I.base.slot b o e n hb hx;obtain ⟨sl',e2⟩:=slot b _ (neL b o e) hb (neC b o e hx) e1 (I.base.free b o e n hx);exact ⟨sl',e2⟩
 ·obtain ⟨o',e1⟩:=I.base.there b o e hx;exact free b o' (neC b o e hx) e1 (I.base.free b o e n hx)
 ·obtain ⟨o',e1⟩:=I.base.there b o e hx;exact there b o' (neC b o e hx) e1
 ·obtain ⟨m1,e1⟩:=I.base.tbls b ps e;obtain ⟨m2,e2⟩:=tbls b _ e1;exact ⟨m1++m2,by rw [e2,Array.append_assoc]⟩
 ·obtain ⟨m,hn,hl⟩:=I.loc;refine ⟨m,ns m hn,fun i x v e1 e2 e3=>?_⟩;obtain ⟨u,r,l⟩:=hl i x v e1 e2 e3;refine ⟨u,r,?_⟩;rcases l with l | ⟨k,c,e,z⟩
  ·exact .inl l
  ·exact .inr ⟨k,c,e,cellK x c e _ z⟩
 ·obtain ⟨v,z⟩:=I.cell x c e;exact ⟨v,cellK x c e v z⟩
 ·obtain ⟨m,⟨o,_,_,ho,_⟩,_⟩:=I.loc;exact free _ o (fun z=>(hch _ z).2.1 rfl) ho I.free
 ·obtain ⟨v,o,ho,hd⟩:=I.cell x c e;exact free c o (fun z=>(hch c z).2.2.1 x c e rfl) ho (I.freeC x c e)
 ·obtain ⟨e,n,ne,nf,d⟩:=I.pin p hp;have nch:p.1∉ch:=fun z=>(hch p.1 z).2.2.2 p hp rfl;exact ⟨keep p.1 p.2 ne nf nch e n,free p.1 p.2 nch e n,ne,nf,d⟩
theorem Inv.un {t':Nat} (I:Inv X pins σ H s) (u:Un X.fs [] H H' s.heap h') (hok:HOk X.prog X.w H' h'):Inv X pins σ H' { s with heap:=h',toks:=t' }:=by
 obtain ⟨m,⟨o,es,ep,ho,r⟩,_⟩:=id I.loc;obtain ⟨sl,hL⟩:=u.any ho I.free (by simp)
 exact I.step (g':=s.gens) (d':=s.drawn) (ch:=[]) (fun _ z=>nomatch z) (fun b o _ hb _ e n=>u.keep b o e n hb (by simp)) (fun b o _ hb _ e n=>u.slot b o e n hb (by simp)) (fun b o _ e n=>u.free b o e n (by simp)) (fun b o _ e=>u.there b o e (by simp)) u.tups u.frzs u.tbls (fun m' hm=>by
  obtain ⟨o',es',ep',ho',r'⟩:=hm;rw [ho] at ho';cases ho'
  exact ⟨_,es',ep',hL,r'⟩) hok I.bare
theorem Inv.call {g':Array GenState}{t':Nat}{d':Drawn}{ch:List Addr} (I:Inv X pins σ H s) (u:Un (frs X.stack) ch H H' s.heap h') (hok:HOk X.prog X.w H' h') (hg:AllBare g')
  (hch:∀ b∈ch,(b∈X.ex∨X.s₀.heap.objs.size≤b)∧b≠X.env.locals∧(∀ x c,X.env.cells.lookup x=some c→c≠b)∧∀ p∈X.pn++pins,p.1≠b) :
  Inv X pins σ H' { s with heap:=h',gens:=g',drawn:=d',toks:=t' }:=by
 obtain ⟨m,⟨o,es,ep,ho,r⟩,_⟩:=id I.loc;obtain ⟨sl,hL⟩:=u.any ho I.free fun z=>(hch _ z).2.1 rfl
 exact I.step (ch:=ch) (fun b hb=>⟨(hch b hb).1.imp_right fun z=>Y8 z,(hch b hb).2⟩) (fun b o hL hb hc e n=>u.keep b o e n (fun z=>(List.mem_cons.mp (I.stkSub b z)).elim hL hb) hc) (fun b o _ _ hc e n=>u.any e n hc) (fun b o hc e n=>u.free b o e n hc) (fun b o hc e=>u.there b o e hc) u.tups u.frzs u.tbls (fun m' hm=>by
  obtain ⟨o',es',ep',ho',r'⟩:=hm;rw [ho] at ho';cases ho'
  exact ⟨_,es',ep',hL,r'⟩) hok hg
theorem Inv.turned {t':Nat}{it:Addr} (I:Inv X pins σ H s) (k:∀ b o,b≠it→s.heap.get? b=some o→h'.get? b=some o) (hn:H it=none) (hL:it≠X.env.locals)
  (h1:it∈X.ex∨X.s₀.heap.objs.size≤it) (h2:∀ x c,X.env.cells.lookup x=some c→c≠it) (h3:∀ p∈X.pn++pins,p.1≠it):Inv X pins σ H { s with heap:=h',toks:=t' }:=by
 have nit:∀ b u,H b=some u→b≠it:=fun b u e z=>by rw [z,hn] at e;cases e
 refine I.step (g':=s.gens) (d':=s.drawn) (ch:=[it]) (fun b hb=>?_) (fun b o _ _ hc e _=>k b o (fun z=>hc (by simp [z])) e) (fun b o _ _ hc e _=>⟨o.slots,k b o (fun z=>hc (by simp [z])) e⟩) (fun _ _ _ _ n=>n)
  (fun b o hc e=>⟨o,k b o (fun z=>hc (by simp [z])) e⟩) (fun _ _ e=>e) (fun _ _ _ e=>e) (fun b ps e=>⟨#[],by rw [e];simp⟩) (fun m hm=>?_) (fun b u e=>?_) I.bare
 ·have e:b=it:=by simpa using hb
  subst e;exact ⟨h1.imp_right fun z=>Y8 z,hL,h2,h3⟩
 ·obtain ⟨o,es,ep,ho,r⟩:=hm;exact ⟨o,es,ep,k _ o (Ne.symm hL) ho,r⟩
 ·refine (I.hok b u e).stay (fun c v hc q=>k c v ?_ q) (fun _ q=>q) fun _ _ q=>q;rcases hc with z | z
  ·rw [z];exact nit b u e
  ·exact nit c _ z
theorem Inv.tok (I:Inv X pins σ H s) (t:Nat):Inv X pins σ H { s with toks:=t }:=I.un (h':=s.heap) (t':=t) Un.refl I.hok
theorem Inv.kept {t':Nat} (I:Inv X pins σ H s) (k:∀ b u,s.heap.get? b=some u→h'.get? b=some u):Inv X pins σ H { s with heap:=h',toks:=t' }:=I.un (Un.kept k) (I.hok.kept k)
theorem Inv.laid {a:Addr}{o:HO}{t':Nat} (I:Inv X pins σ H s) (k:∀ b u,s.heap.get? b=some u→h'.get? b=some u) (hp:s.heap.objs.size≤a) (new:ObjOk X.prog X.w (upd H a o) h' a o) :
  Inv X pins σ (upd H a o) { s with heap:=h',toks:=t' }:=I.un (Un.laid k hp (I.hok.fresh hp)) (I.hok.laid k hp new)
theorem Inv.write {x e:Addr}{o:HO}{t':Nat} (I:Inv X pins σ H s) (mu:Mut (H x)) (he:e=x∨H e=some (.own x)) (k:∀ b u,b≠e→s.heap.get? b=some u→h'.get? b=some u) (heo:∃ u,h'.get? e=some u)
  (new:ObjOk X.prog X.w (upd H x o) h' x o):Inv X pins σ (upd H x o) { s with heap:=h',toks:=t' }:=I.un (Un.write mu he k heo) (I.hok.write mu he k heo new)
theorem Inv.pins_of {pins':List (Addr×Obj)} (I:Inv X pins σ H s) (h:∀ p∈pins',s.heap.get? p.1=some p.2∧H p.1=none∧p.1≠X.env.locals∧p.1∉X.fs∧∀ v,p.2.data≠.cell v):Inv X pins' σ H s :=
 ⟨I.ok,I.os,I.bare,I.base,I.loc,I.cell,I.free,I.freeC,fun p hp=>(List.mem_append.mp hp).elim (fun z=>I.pin p (List.mem_append_left _ z)) (h p),I.hok,I.len⟩
theorem nodup_ix {N:List Str} (hN:N.Nodup) {i j:Nat}{x:Str} (a:N[i]? = some x) (b:N[j]? = some x):i=j:=by
 obtain ⟨h1,e1⟩:=List.getElem?_eq_some_iff.mp a;obtain ⟨h2,e2⟩:=List.getElem?_eq_some_iff.mp b;exact (List.getElem_inj hN).mp (e1.trans e2.symm)
theorem store_ok2 {M:Model}{A:Around}{E:Value→Shared→Prop}{i:Nat}{x:Str}{v:V}{u:Value}{Q:Unit→Shared→Prop} (I:Inv X pins σ H s) (hN:X.N.Nodup) (hi:X.N[i]? = some x) (hx:Loc X.env.scope x) (r:RelV v u)
  (h:∀ s',Inv X pins (σ.set i (some v)) H s'→(∃ a,Heap.SameBut a s.heap s'.heap∧(a=X.env.locals∨X.env.cells.lookup x=some a))→Q () s') (hf:X.fn x=true∨X.env.scope.names.lookup x=some .local:=by first | exact .inl rfl | exact .inr rfl | assumption):wpAny M A (storeName X.env x u) Q E s:=by
 obtain ⟨m,hn,hl⟩:=id I.loc;have hcls:(X.env.scope.kind == .class || (X.env.scope.kind == .module && X.env.locals != X.env.globals))=false:=by rw [I.ok.kind];rfl
 have hiσ : i < σ.length:=by rw [I.len];exact (List.getElem?_eq_some_iff.mp hi).1
 have cne:=I.cne;have tracked:∀ {a:Addr}{h':Heap},(∃ o,s.heap.get? a=some o∧H a=none)→Heap.SameBut a s.heap h'→HOk X.prog X.w H h':=fun {a h'} ha hs b ob e=>by
  obtain ⟨_,_,hfree⟩:=ha;refine (I.hok b ob e).stay (fun c w' hc q=>(hs.2 c ?_).trans q) (fun _ q=>q) fun _ _ q=>q;rintro rfl;rcases hc with rfl | hc
  ·rw [hfree] at e;cases e
  ·rw [hfree] at hc;cases hc
 rcases hx with hk | hk
 ·refine wpAny_storeName_local hk hn (fun h' hn' hs=>?_) hcls;obtain ⟨oL,_,_,hoL,_⟩:=id hn;refine h _ ⟨I.ok,I.os,I.bare,⟨fun b o e n hb hx=>?_,fun b o e n hb hx=>?_,I.base.free,fun b o e hx=>?_,I.base.tups,I.base.frzs,I.base.tbls⟩,⟨_,hn',fun j y v' e1 e2 e3=>?_⟩,fun y c e=>?_,I.free,I.freeC,fun p hp=>?_,tracked ⟨oL,hoL,I.free⟩ hs,by simpa using I.len⟩ ⟨_,hs,.inl rfl⟩
  ·exact (hs.2 b (Ze (Zd (Z9 e) I.ok.above))).trans (I.base.keep b o e n hb hx)
  ·obtain ⟨sl,e1⟩:=I.base.slot b o e n hb hx;exact ⟨sl,(hs.2 b (Ze (Zd (Z9 e) I.ok.above))).trans e1⟩
  ·obtain ⟨o',e1⟩:=I.base.there b o e hx;exact ⟨o',(hs.2 b (Ze (Zd (Z9 e) I.ok.above))).trans e1⟩
  ·by_cases hj:j=i
   ·subst hj;rw [hi] at e1;cases e1;rw [List.getElem?_set_self hiσ] at e2;cases e2;exact ⟨u,r,.inl ⟨hk,by simp⟩⟩
   ·rw [List.getElem?_set_ne (Ne.symm hj)] at e2;obtain ⟨u',r',q⟩:=hl j y v' e1 e2 e3;refine ⟨u',r',?_⟩;rcases q with ⟨k,e⟩ | ⟨k,c,e,z⟩
    ·refine .inl ⟨k,?_⟩;have:y≠x:=fun e=>hj (nodup_ix hN e1 (e ▸ hi));simp [this,e]
    ·exact .inr ⟨k,c,e,z.sameBut hs (cne y c e)⟩
  ·obtain ⟨w',z⟩:=I.cell y c e;exact ⟨w',z.sameBut hs (cne y c e)⟩
  ·obtain ⟨e,n,ne,nf,d⟩:=I.pin p hp;exact ⟨(hs.2 p.1 ne).trans e,n,ne,nf,d⟩
 ·have hfn:X.fn x=true:=by
   rcases hf with z | z
   ·exact z
   ·rw [z] at hk;cases hk
  obtain ⟨c,hc⟩:=I.ok.has x (.inl hk);obtain ⟨w',z⟩:=I.cell x c hc;refine wpAny_storeName_cell I.ok.kind hk hc z (fun h' hc' hs=>?_);obtain ⟨oc,hoc,hocd⟩:=id z;refine h { s with heap:=h' } ⟨I.ok,I.os,I.bare,⟨fun b o e n hb hx=>?_,fun b o e n hb hx=>?_,I.base.free,fun b o e hx=>?_,I.base.tups,I.base.frzs,I.base.tbls⟩,⟨m,hn.sameBut hs (Ne.symm (cne x c hc)),fun j y v' e1 e2 e3=>?_⟩,fun y c' e=>?_,I.free,I.freeC,fun p hp=>?_,tracked ⟨oc,hoc,I.freeC x c hc⟩ hs,by simpa using I.len⟩ ⟨c,hs,.inr hc⟩
  ·exact (hs.2 b (Ze (Zd (Z9 e) (I.ok.cab x c hfn hc)))).trans (I.base.keep b o e n hb hx)
  ·obtain ⟨sl,e1⟩:=I.base.slot b o e n hb hx;exact ⟨sl,(hs.2 b (Ze (Zd (Z9 e) (I.ok.cab x c hfn hc)))).trans e1⟩
  ·obtain ⟨o',e1⟩:=I.base.there b o e hx;exact ⟨o',(hs.2 b (Ze (Zd (Z9 e) (I.ok.cab x c hfn hc)))).trans e1⟩
  ·by_cases hj:j=i
   ·subst hj;rw [hi] at e1;cases e1;rw [List.getElem?_set_self hiσ] at e2;cases e2;exact ⟨u,r,.inr ⟨.inl hk,c,hc,hc'⟩⟩
   ·rw [List.getElem?_set_ne (Ne.symm hj)] at e2;obtain ⟨u',r',q⟩:=hl j y v' e1 e2 e3;refine ⟨u',r',?_⟩;rcases q with q | ⟨k,c',e,z'⟩
    ·exact .inl q
    ·refine .inr ⟨k,c',e,z'.sameBut hs ?_⟩;rintro rfl;exact hj (nodup_ix hN e1 (I.ok.inj _ _ _ e hc ▸ hi))
  ·by_cases hcc:c'=c
   ·subst hcc;exact ⟨_,hc'⟩
   ·obtain ⟨w2,z2⟩:=I.cell y c' e;exact ⟨w2,z2.sameBut hs hcc⟩
  ·obtain ⟨e,n,ne,nf,d⟩:=I.pin p hp;refine ⟨(hs.2 p.1 ?_).trans e,n,ne,nf,d⟩;intro q;rw [q,hoc] at e;have q':oc=p.2:=Zf e;exact d w' (by rw [← q'];exact hocd)
theorem store_ok {M:Model}{A:Around}{E:Value→Shared→Prop}{i:Nat}{x:Str}{v:V}{u:Value}{Q:Unit→Shared→Prop} (I:Inv X pins σ H s) (hN:X.N.Nodup) (hi:X.N[i]? = some x) (hx:Loc X.env.scope x) (r:RelV v u)
  (h:∀ s',Inv X pins (σ.set i (some v)) H s'→Q () s') (hf:X.fn x=true∨X.env.scope.names.lookup x=some .local:=by first | exact .inl rfl | exact .inr rfl | assumption):wpAny M A (storeName X.env x u) Q E s :=
 store_ok2 I hN hi hx r (fun s' I' _=>h s' I') hf
theorem Inv.call' {s':Shared}{ch:List Addr} (I:Inv X pins σ H s) (ho:s'.os=s.os) (u:Un (frs X.stack) ch H H' s.heap s'.heap) (hok:HOk X.prog X.w H' s'.heap) (hg:AllBare s'.gens)
  (hch:∀ b∈ch,(b∈X.ex∨X.s₀.heap.objs.size≤b)∧b≠X.env.locals∧(∀ x c,X.env.cells.lookup x=some c→c≠b)∧∀ p∈X.pn++pins,p.1≠b):Inv X pins σ H' s':=by
 obtain ⟨h',g',d',t',o'⟩:=s';have e:o'=s.os:=ho;subst e;exact I.call (g':=g') (t':=t') (d':=d') u hok hg hch
end
noncomputable abbrev XK:=Value→Option Addr→Hp→Prop
noncomputable abbrev St:=List (Option V)
noncomputable abbrev VK:=V→Hp→Prop
noncomputable abbrev TE:=St→Hp→VK→Prop
noncomputable abbrev TT:=St→Hp→(Bool→Hp→Prop)→Prop
noncomputable abbrev TA:=St→Hp→(List V→Hp→Prop)→Prop
structure Ends where
 nx:St→Hp→Prop
 rt:VK
 bk:St→Hp→Prop:=fun _ _=>False
 ct:St→Hp→Prop:=fun _ _=>False
noncomputable abbrev TS:=Ends→St→Hp→Prop
noncomputable def EP (X:Cx) (pins:List (Addr×Obj)) (σ : St) (Q:VK) (u:Value) (s':Shared):Prop:=∃ v H',Inv X pins σ H' s'∧RelV v u∧Q v H'
noncomputable def TP (X:Cx) (pins:List (Addr×Obj)) (σ : St) (Q:Bool→Hp→Prop) (b:Bool) (s':Shared):Prop:=∃ H',Inv X pins σ H' s'∧Q b H'
noncomputable def AP (X:Cx) (pins:List (Addr×Obj)) (σ : St) (Q:List V→Hp→Prop) (us:List Value) (s':Shared):Prop:=∃ vs H',Inv X pins σ H' s'∧Vals vs us∧Q vs H'
noncomputable def SP (X:Cx) (pins:List (Addr×Obj)) (D:Ends) (f:Flow) (s':Shared):Prop :=
 match f with
 | .next=>∃ σ' H',Inv X pins σ' H' s'∧D.nx σ' H'
 | .brk=>∃ σ' H',Inv X pins σ' H' s'∧D.bk σ' H'
 | .cont=>∃ σ' H',Inv X pins σ' H' s'∧D.ct σ' H'
 | .ret u=>∃ v σ' H',Inv X pins σ' H' s'∧RelV v u∧D.rt v H'
noncomputable def PE (X:Cx) (e:Expr) (t:TE):Prop :=
 ∀ (pins:List (Addr×Obj)) (s:Shared) (σ : St) (H:Hp) (Q:VK),Inv X pins σ H s→t σ H Q→wpAny (model X.prog X.w) X.A (eval e X.env) (EP X pins σ Q) X.xe s
noncomputable def PT (X:Cx) (e:Expr) (t:TT):Prop :=
 ∀ (pins:List (Addr×Obj)) (s:Shared) (σ : St) (H:Hp) (Q:Bool→Hp→Prop),Inv X pins σ H s→t σ H Q→wpAny (model X.prog X.w) X.A (isTrue e X.env (eval e X.env)) (TP X pins σ Q) X.xe s
noncomputable def PW (X:Cx) (e:Expr) (t:TT):Prop :=
 ∀ (whole:Sem Value) (pins:List (Addr×Obj)) (s:Shared) (σ : St) (H:Hp) (Q:Bool→Hp→Prop),Inv X pins σ H s→t σ H Q→wpAny (model X.prog X.w) X.A (isTrue e X.env whole) (TP X pins σ Q) X.xe s
theorem PW.pt {X:Cx}{e:Expr}{t:TT} (h:PW X e t):PT X e t:=h _
noncomputable def PA (X:Cx) (es:List Expr) (t:TA):Prop :=
 ∀ (pos:Pos) (pins:List (Addr×Obj)) (s:Shared) (σ : St) (H:Hp) (Q:List V→Hp→Prop),Inv X pins σ H s→t σ H Q→wpAny (model X.prog X.w) X.A (spliced (backTo pos (starEach es X.env))) (AP X pins σ Q) X.xe s
noncomputable def PS (X:Cx) (st:Stmt) (t:TS):Prop :=
 ∀ (pins:List (Addr×Obj)) (s:Shared) (σ : St) (H:Hp) (D:Ends),Inv X pins σ H s→t D σ H→wpAny (model X.prog X.w) X.A (exec st X.env) (SP X pins D) X.xe s
noncomputable def PSs (X:Cx) (st:List Stmt) (t:TS):Prop :=
 ∀ (pins:List (Addr×Obj)) (s:Shared) (σ : St) (H:Hp) (D:Ends),Inv X pins σ H s→t D σ H→wpAny (model X.prog X.w) X.A (execs st X.env) (SP X pins D) X.xe s
theorem thn {α : Type}{t:Sem α}{Q Q' : α→Shared→Prop}{M:Model}{A:Around}{E:Value→Shared→Prop}{s:Shared} (h:wpAny M A t Q E s) (hQ:∀ a s,Q a s→Q' a s):wpAny M A t Q' E s:=wpAny_mono h hQ fun _ _ x=>x
end L2
namespace L2
open PySem PySem.Spec PyProof.Rows
section
variable {X:Cx}
theorem bin {a b:Expr}{ta tb:TE} (ha:PE X a ta) (hb:PE X b tb) {pins:List (Addr×Obj)}{s:Shared}{σ : St}{H:Hp}{R:V→V→Hp→Prop} (I:Inv X pins σ H s) (h:ta σ H fun x H1=>tb σ H1 fun y H2=>R x y H2)
  {α : Type}{Q : α→Shared→Prop}{f:Value→Value→Sem α}
  (hf:∀ v u s2 x y H2,Inv X pins σ H2 s2→RelV x v→RelV y u→R x y H2→wpAny (model X.prog X.w) X.A (f v u) Q X.xe s2) :
  wpAny (model X.prog X.w) X.A (eval a X.env) (fun v s₁=>wpAny (model X.prog X.w) X.A (eval b X.env) (fun u s₂=>wpAny (model X.prog X.w) X.A (f v u) Q X.xe s₂) X.xe s₁) X.xe s:=by
 refine thn (ha pins s σ H _ I h) fun v s1 ⟨x,H1,I1,r1,q1⟩=>?_;refine thn (hb pins s1 σ H1 _ I1 q1) fun u s2 ⟨y,H2,I2,r2,q2⟩=>?_;exact hf v u s2 x y H2 I2 r1 r2 q2
noncomputable def tVar (i:Nat):TE:=fun σ H Q=>∃ v,σ[i]? = some (some v)∧Q v H
noncomputable def tC (v:V):TE:=fun _ H Q=>Q v H
theorem pe_var {i:Nat}{x:Str}{pos:Pos} (hN:X.N[i]? = some x) (hv:Vis X.env.scope x) (hd:(x == ("__debug__" : Str))=false:=by decide) (hcd:(x == ("__classdict__" : Str))=false:=by decide):PE X (.Name x pos) (tVar i):=by
 intro pins s σ H Q I h;obtain ⟨v,e,h⟩:=h;obtain ⟨m,hn,hl⟩:=I.loc;obtain ⟨u,r,l⟩:=hl i x v hN e hv;have fin:EP X pins σ Q u s:=⟨v,H,I,r,h⟩;rcases l with ⟨hk,hm⟩ | ⟨hk,c,hc,hcell⟩
 ·exact wpAny_Name (wpAny_loadName_local I.ok.kind hk hn hm fin) hd
 ·rcases hk with hk | hk
  ·exact wpAny_Name (wpAny_loadName_cell I.ok.kind hk hc hcell fin) hd
  ·exact wpAny_Name (wpAny_loadName_free I.ok.kind hk hc hcell fin hcd) hd
theorem zA4 {i j pos}:PE X (.Constant (.int i) j pos) (tC (.int i)):=fun _ _ _ H _ I h=>wpAny_Constant_int ⟨.int i,H,I.tok _,⟨_,rfl⟩,h⟩
theorem zC7 {b j pos}:PE X (.Constant (.bool b) j pos) (tC (.bl b)):=fun _ _ _ H _ I h=>Constant_bool ⟨.bl b,H,I,rfl,h⟩
theorem zBd {j pos}:PE X (.Constant .none j pos) (tC .non):=fun _ _ _ H _ I h=>Constant_none ⟨.non,H,I,rfl,h⟩
theorem zAl {x j pos}:PE X (.Constant (.str x) j pos) (tC (.str x)):=fun _ _ _ H _ I h=>Calls.Constant_str ⟨.str x,H,I.tok _,⟨_,rfl⟩,h⟩
noncomputable def Gl (X:Cx) (x:Str):Prop:=X.env.kindOf x=some .globalImplicit
theorem zFa {E:Value→Shared→Prop}{pins:List (Addr×Obj)}{s:Shared}{σ : St}{H:Hp}{x:Str}{u:Value}{pos:Pos}{Q:Value→Shared→Prop} (I:Inv X pins σ H s) (hg:Gl X x) (hm:X.mg x=some u) (h:Q u s)
  (hd:(x == ("__debug__" : Str))=false:=by decide):wpAny (model X.prog X.w) X.A (eval (.Name x pos) X.env) Q E s :=
 Calls.Name_function_global I.ok.kind hg (Calls.loadGlobal_global (by rw [I.ok.glob];exact I.mod.glob.keeps I.bk) hm h) hd
theorem zE4 {E:Value→Shared→Prop}{pins:List (Addr×Obj)}{s:Shared}{σ : St}{H:Hp}{x:Str}{u:Value}{pos:Pos}{Q:Value→Shared→Prop} (I:Inv X pins σ H s) (hg:Gl X x) (hm:X.mg x=none) (hv:bootBuiltins x=some u) (h:Q u s)
  (hn:x≠"__name__":=by decide) (hd:(x == ("__debug__" : Str))=false:=by decide):wpAny (model X.prog X.w) X.A (eval (.Name x pos) X.env) Q E s:=by
 obtain ⟨mb,h1,h2⟩:=I.mod.blt;exact Calls.Name_function_global I.ok.kind hg (Calls.loadGlobal_builtin (by rw [I.ok.glob];exact I.mod.glob.keeps I.bk) hm (by rw [I.ok.blt];exact h1.keeps I.bk) ((h2 x hn).trans hv) h) hd
theorem zBv {x:Str}{v:V}{u:Value}{pos:Pos} (hg:Gl X x) (hm:X.mg x=some u) (r:RelV v u) (hd:(x == ("__debug__" : Str))=false:=by decide):PE X (.Name x pos) (tC v) :=
 fun _ _ _ H _ I h=>zFa I hg hm ⟨v,H,I,r,h⟩ hd
theorem zBp {x:Str}{v:V}{u:Value}{pos:Pos} (hg:Gl X x) (hm:X.mg x=none) (hv:bootBuiltins x=some u) (r:RelV v u) (hn:x≠"__name__":=by decide) (hd:(x == ("__debug__" : Str))=false:=by decide):PE X (.Name x pos) (tC v) :=
 fun _ _ _ H _ I h=>zE4 I hg hm hv ⟨v,H,I,r,h⟩ hn hd
variable {a b:Expr}{ta tb:TE}{pos:Pos}
noncomputable def PC (X:Cx) (op:CmpOp) (a b:Expr) (t:TE):Prop :=
 ∀ (pins:List (Addr×Obj)) (s:Shared) (σ : St) (H:Hp) (Q:VK),Inv X pins σ H s→t σ H Q →
  wpAny (model X.prog X.w) X.A (eval a X.env) (fun v s₁=>wpAny (model X.prog X.w) X.A (eval b X.env) (fun u s₂=>wpAny (model X.prog X.w) X.A (compareOp op v u) (EP X pins σ Q) X.xe s₂) X.xe s₁) X.xe s
theorem nobehind (b:Expr) {op:CmpOp} (h:op≠.In) (h2:op≠.NotIn):behindInMarks op b=false:=by
 have e1:(op == CmpOp.In)=false:=by cases op <;> first | rfl | exact absurd rfl h
 have e2:(op == CmpOp.NotIn)=false:=by cases op <;> first | rfl | exact absurd rfl h2
 cases b <;> simp [behindInMarks,e1,e2]
noncomputable def tIsN (ta:TE):TE:=fun σ H Q=>ta σ H fun x H1=>Q (.bl (decide (x=.non))) H1
noncomputable def tNotN (ta:TE):TE:=fun σ H Q=>ta σ H fun x H1=>Q (.bl (!decide (x=.non))) H1
theorem RelV.none_iff {x:V}{v:Value} (r:RelV x v):(v == Value.none)=decide (x=.non):=by
 cases x with
 | non=>cases r;rfl
 | bl _=>cases r;rfl
 | int _=>obtain ⟨t,rfl⟩:=r;rfl
 | str _=>obtain ⟨t,rfl⟩:=r;rfl
 | byt _=>obtain ⟨t,rfl⟩:=r;rfl
 | flt _=>obtain ⟨t,rfl⟩:=r;rfl
 | ref _=>cases r;rfl
 | ty _=>cases r;rfl
theorem zBn {j pos'} (ha:PE X a ta):PC X .Is a (.Constant .none j pos') (tIsN ta):=by
 intro pins s σ H Q I h;refine thn (ha pins s σ H _ I h) fun v s1 ⟨x,H1,I1,r1,q1⟩=>?_;exact Constant_none (is_none_gen ⟨.bl _,H1,I1,by rw [r1.none_iff];rfl,q1⟩)
theorem zC3 {j pos'} (ha:PE X a ta):PC X .IsNot a (.Constant .none j pos') (tNotN ta):=by
 intro pins s σ H Q I h;refine thn (ha pins s σ H _ I h) fun v s1 ⟨x,H1,I1,r1,q1⟩=>?_;exact Constant_none (isnot_none_gen ⟨.bl _,H1,I1,by rw [r1.none_iff];rfl,q1⟩)
noncomputable def tB (t:TE):TT:=fun σ H Q=>t σ H fun x H1=>∃ c,x=.bl c∧Q c H1
theorem zB6 {op:CmpOp}{t:TE} (h:PC X op a b t) (h1:behindInMarks op b=false:=by first | exact nobehind _ (by decide) (by decide) | rfl):PT X (.Compare a [op] [b] pos) (tB t):=by
 intro pins s σ H Q I hw;refine wpAny_isTrue_Compare1 (thn (h pins s σ H _ I hw) fun v s1 h1=>thn h1 fun u s2 h2=>thn h2 fun c s3 ⟨x,H1,I1,r1,q1⟩=>?_) h1;obtain ⟨d,rfl,q⟩:=q1;cases r1;exact wpAny_truthy_bool ⟨H1,I1,q⟩
theorem zAt {e:Expr}{t:TE} (h:PE X e t) (he:∀ whole,isTrue e X.env whole=(do let v ← whole;standAt e.pos;holding [v] (truthy v)):=by intro _;rfl):PT X e (tB t):=by
 intro pins s σ H Q I hw;refine isTrue_plain (thn (h pins s σ H _ I hw) fun v s1 ⟨x,H1,I1,r1,q1⟩=>?_) (he _);obtain ⟨d,rfl,q⟩:=q1;cases r1;exact wpAny_truthy_bool ⟨H1,I1,q⟩
variable {tA tB':TT}{rest:List Expr}
noncomputable def tAnd (t u:TT):TT:=fun σ H Q=>t σ H fun c H1=>if c=true then u σ H1 Q else Q false H1
noncomputable def tOr (t u:TT):TT:=fun σ H Q=>t σ H fun c H1=>if c=true then Q true H1 else u σ H1 Q
noncomputable def tNot (t:TT):TT:=fun σ H Q=>t σ H fun c H1=>Q (!c) H1
theorem zBg (ha:PT X a tA):PW X (.BoolOp .And [a] pos) tA:=by
 intro wh pins s σ H Q I h;refine isTrue_and (thn (ha pins s σ H Q I h) fun c s1 e=>?_);cases c with
 | true=>exact isTrue_and_nil e
 | false=>exact e
theorem zB9 (ha:PT X a tA):PW X (.BoolOp .Or [a] pos) tA:=by
 intro wh pins s σ H Q I h;refine isTrue_or (thn (ha pins s σ H Q I h) fun c s1 e=>?_);cases c with
 | false=>exact isTrue_or_nil e
 | true=>exact e
theorem zBx (ha:PT X a tA) (hb:PW X (.BoolOp .And (b :: rest) pos) tB'):PW X (.BoolOp .And (a :: b :: rest) pos) (tAnd tA tB'):=by
 intro wh pins s σ H Q I h;refine isTrue_and (thn (ha pins s σ H _ I h) fun c s1 ⟨H1,I1,q1⟩=>?_);cases c with
 | true=>exact hb wh pins s1 σ H1 Q I1 q1
 | false=>exact ⟨H1,I1,q1⟩
theorem zBi (ha:PT X a tA) (hb:PW X (.BoolOp .Or (b :: rest) pos) tB'):PW X (.BoolOp .Or (a :: b :: rest) pos) (tOr tA tB'):=by
 intro wh pins s σ H Q I h;refine isTrue_or (thn (ha pins s σ H _ I h) fun c s1 ⟨H1,I1,q1⟩=>?_);cases c with
 | true=>exact ⟨H1,I1,q1⟩
 | false=>exact hb wh pins s1 σ H1 Q I1 q1
theorem zAz (ha:PT X a tA):PT X (.UnaryOp .Not a pos) (tNot tA):=by
 intro pins s σ H Q I h;exact isTrue_not (ha pins s σ H (fun c H1=>Q (!c) H1) I h)
noncomputable def tAndV (ta tb:TE):TE:=fun σ H Q=>ta σ H fun x H1=>∃ c,x=.bl c∧if c=true then tb σ H1 Q else Q (.bl false) H1
noncomputable def tOrV (ta tb:TE):TE:=fun σ H Q=>ta σ H fun x H1=>∃ c,x=.bl c∧if c=true then Q (.bl true) H1 else tb σ H1 Q
noncomputable def tNotV (ta:TE):TE:=fun σ H Q=>ta σ H fun x H1=>∃ c,x=.bl c∧Q (.bl (!c)) H1
theorem zCe {op}{t:TE} (h:PE X a t):PE X (.BoolOp op [a] pos) t:=fun pins s σ H Q I hw=>BoolOp_one (h pins s σ H Q I hw)
theorem zCf (ha:PE X a ta) (hb:PE X (.BoolOp .And (b :: rest) pos) tb):PE X (.BoolOp .And (a :: b :: rest) pos) (tAndV ta tb):=by
 intro pins s σ H Q I h;refine BoolOp_and (thn (ha pins s σ H _ I h) fun v s1 ⟨x,H1,I1,r1,q1⟩=>?_);obtain ⟨c,rfl,q1⟩:=q1;cases r1;refine wpAny_truthy_bool ?_;cases c with
 | true=>exact hb pins s1 σ H1 Q I1 q1
 | false=>exact ⟨.bl false,H1,I1,rfl,q1⟩
theorem pe_or (ha:PE X a ta) (hb:PE X (.BoolOp .Or (b :: rest) pos) tb):PE X (.BoolOp .Or (a :: b :: rest) pos) (tOrV ta tb):=by
 intro pins s σ H Q I h;refine BoolOp_or (thn (ha pins s σ H _ I h) fun v s1 ⟨x,H1,I1,r1,q1⟩=>?_);obtain ⟨c,rfl,q1⟩:=q1;cases r1;refine wpAny_truthy_bool ?_;cases c with
 | false=>exact hb pins s1 σ H1 Q I1 q1
 | true=>exact ⟨.bl true,H1,I1,rfl,q1⟩
theorem pe_not (ha:PE X a ta):PE X (.UnaryOp .Not a pos) (tNotV ta):=by
 intro pins s σ H Q I h;refine UnaryOp_ (thn (ha pins s σ H _ I h) fun v s1 ⟨x,H1,I1,r1,q1⟩=>?_);obtain ⟨c,rfl,q1⟩:=q1;cases r1;exact not_of (wpAny_truthy_bool ⟨.bl (!c),H1,I1,rfl,q1⟩)
noncomputable def tIf (t:TT) (ta tb:TE):TE:=fun σ H Q=>t σ H fun c H1=>if c=true then ta σ H1 Q else tb σ H1 Q
theorem zCb {c:Expr} (hc:PT X c tA) (ha:PE X a ta) (hb:PE X b tb):PE X (.IfExp c a b pos) (tIf tA ta tb):=by
 intro pins s σ H Q I h;refine wpAny_IfExp (thn (hc pins s σ H _ I h) fun d s1 ⟨H1,I1,q1⟩=>?_);cases d with
 | true=>exact ha pins s1 σ H1 Q I1 q1
 | false=>exact hb pins s1 σ H1 Q I1 q1
end
end L2
namespace L2
open PySem PySem.Spec PyProof.Rows
noncomputable def SqL (K:PySem.W.Frag) (H:Hp) (a:Addr) (xs:List V):Prop :=
 Rd H a (.lst xs) ∨
  ∃ (o:Obj) (its:Array Value) (n:Nat),K.lookup a=some o∧o.cls=.type "list"∧o.dict=none∧o.data=.seq its n∧its.size≤sizeLine∧Vals xs its.toList
noncomputable def SqT (K:PySem.W.Frag) (H:Hp) (a:Addr) (xs:List V):Prop :=
 Rd H a (.tup xs) ∨
  ∃ (o:Obj) (its:Array Value) (n:Nat),K.lookup a=some o∧o.cls=.type "tuple"∧o.data=.seq its n∧its.size≤sizeLine∧Vals xs its.toList
noncomputable def absV:Value→Option V
 | .none=>some .non
 | .bool b=>some (.bl b)
 | .int i _=>some (.int i)
 | .str x _=>some (.str x)
 | .bytes b _=>some (.byt b)
 | .float b _=>some (.flt b)
 | .ref a=>some (.ref a)
 | .type n=>some (.ty n)
 | _=>none
theorem RelV.abs {x:V}{u:Value} (r:RelV x u):absV u=some x:=by
 cases x with
 | non=>cases r;rfl
 | bl _=>cases r;rfl
 | int _=>obtain ⟨t,rfl⟩:=r;rfl
 | str _=>obtain ⟨t,rfl⟩:=r;rfl
 | byt _=>obtain ⟨t,rfl⟩:=r;rfl
 | flt _=>obtain ⟨t,rfl⟩:=r;rfl
 | ref _=>cases r;rfl
 | ty _=>cases r;rfl
theorem RelV.inj {x y:V}{u:Value} (r:RelV x u) (q:RelV y u):x=y:=Zf (r.abs.symm.trans q.abs)
theorem Vals.inj:∀ {xs ys:List V}{us:List Value},Vals xs us→Vals ys us→xs=ys
 | _,_,_,.nil,.nil=>rfl
 | _,_,_,.cons r t,.cons r' t'=>by rw [r.inj r',Vals.inj t t']
section
variable {X:Cx}{pins:List (Addr×Obj)}{σ : St}{H:Hp}{s:Shared}{a:Addr}{xs ys:List V}
theorem SqL.of {K:PySem.W.Frag} (h:H a=some (.lst xs)):SqL K H a xs:=.inl (.inl h)
theorem SqT.of {K:PySem.W.Frag} (h:H a=some (.tup xs)):SqT K H a xs:=.inl (.inl h)
theorem Inv.list (I:Inv X pins σ H s) (h:SqL X.K H a xs):∃ its:List Value,Vals xs its∧PlainL s.heap a its.toArray∧xs.length≤sizeLine:=by
 rcases h with h | ⟨o,its,n,hk,hc,hd,hs,hz,r⟩
 ·obtain ⟨z,its,n,r,e⟩:=h.ok I.hok;exact ⟨its,r,⟨_,n,e,rfl,rfl,rfl⟩,z⟩
 ·refine ⟨its.toList,r,⟨o,n,I.kIn a o hk,hc,hd,by simpa using hs⟩,?_⟩;have e:=r.length;simp only [Yg] at e;omega
theorem Inv.tuple (I:Inv X pins σ H s) (h:SqT X.K H a xs):∃ its:List Value,Vals xs its∧IsTup s.heap a its.toArray∧xs.length≤sizeLine:=by
 rcases h with h | ⟨o,its,n,hk,hc,hs,hz,r⟩
 ·obtain ⟨z,its,r,p⟩:=h.ok I.hok;exact ⟨its,r,p,z⟩
 ·refine ⟨its.toList,r,⟨o,I.kIn a o hk,hc,n,by simpa using hs⟩,?_⟩;have e:=r.length;simp only [Yg] at e;omega
theorem Inv.list_inj (I:Inv X pins σ H s) (h:SqL X.K H a xs) (h':SqL X.K H a ys):xs=ys:=by
 obtain ⟨its,r,⟨o,n,e,_,_,d⟩,_⟩:=I.list h;obtain ⟨its',r',⟨o',n',e',_,_,d'⟩,_⟩:=I.list h';rw [e] at e';cases e';rw [d] at d';injection d' with d1 _;have:its=its':=by simpa using congrArg Array.toList d1
 subst this;exact r.inj r'
theorem Inv.tuple_inj (I:Inv X pins σ H s) (h:SqT X.K H a xs) (h':SqT X.K H a ys):xs=ys:=by
 obtain ⟨its,r,⟨o,e,_,n,d⟩,_⟩:=I.tuple h;obtain ⟨its',r',⟨o',e',_,n',d'⟩,_⟩:=I.tuple h';rw [e] at e';cases e';rw [d] at d';injection d' with d1 _;have:its=its':=by simpa using congrArg Array.toList d1
 subst this;exact r.inj r'
end
noncomputable abbrev Cx.wish (X:Cx) (E:Value→Shared→Prop):Cx:={ X with xe:=E }
noncomputable abbrev Cx.nox (X:Cx):Cx:=X.wish fun _ _=>False
theorem Cx.Ok.wish {X:Cx} (ok:X.Ok) (E:Value→Shared→Prop):(X.wish E).Ok :=
 ⟨ok.mod,ok.kind,ok.glob,ok.blt,ok.above,ok.inj,ok.has,ok.cab,ok.hd,ok.frames,ok.stk,ok.exf,ok.bs,ok.bsz,ok.noex,ok.exfs,ok.funs,ok.frf⟩
theorem Cx.Ok.unwish {X:Cx}{E:Value→Shared→Prop} (ok:(X.wish E).Ok):X.Ok :=
 ⟨ok.mod,ok.kind,ok.glob,ok.blt,ok.above,ok.inj,ok.has,ok.cab,ok.hd,ok.frames,ok.stk,ok.exf,ok.bs,ok.bsz,ok.noex,ok.exfs,ok.funs,ok.frf⟩
section
variable {X:Cx}{pins:List (Addr×Obj)}{σ : St}{H:Hp}{s:Shared}{E:Value→Shared→Prop}
theorem Inv.wish (I:Inv X pins σ H s) (E:Value→Shared→Prop):Inv (X.wish E) pins σ H s:=⟨I.ok.wish E,I.os,I.bare,I.base,I.loc,I.cell,I.free,I.freeC,I.pin,I.hok,I.len⟩
theorem Inv.unwish (I:Inv (X.wish E) pins σ H s):Inv X pins σ H s:=⟨I.ok.unwish,I.os,I.bare,I.base,I.loc,I.cell,I.free,I.freeC,I.pin,I.hok,I.len⟩
theorem SP.unwish {D:Ends}{f:Flow}{s':Shared} (h:SP (X.wish E) pins D f s'):SP X pins D f s':=by
 cases f with
 | next=>obtain ⟨σ',H',I,q⟩:=h;exact ⟨σ',H',I.unwish,q⟩
 | brk=>obtain ⟨σ',H',I,q⟩:=h;exact ⟨σ',H',I.unwish,q⟩
 | cont=>obtain ⟨σ',H',I,q⟩:=h;exact ⟨σ',H',I.unwish,q⟩
 | ret u=>obtain ⟨v,σ',H',I,r,q⟩:=h;exact ⟨v,σ',H',I.unwish,r,q⟩
theorem PE.nox {e:Expr}{t:TE} (h:PE X.nox e t):PE X e t:=fun pins s σ H Q I hw =>
 wpAny_mono (h pins s σ H Q (I.wish _) hw) (fun _ _ ⟨v,H',I',r,q⟩=>⟨v,H',I'.unwish,r,q⟩) fun _ _ z=>False.elim z
theorem PT.nox {e:Expr}{t:TT} (h:PT X.nox e t):PT X e t:=fun pins s σ H Q I hw =>
 wpAny_mono (h pins s σ H Q (I.wish _) hw) (fun _ _ ⟨H',I',q⟩=>⟨H',I'.unwish,q⟩) fun _ _ z=>False.elim z
theorem PSs.nox {st:List Stmt}{t:TS} (h:PSs X.nox st t):PSs X st t:=fun pins s σ H D I hw =>
 wpAny_mono (h pins s σ H D (I.wish _) hw) (fun _ _ q=>q.unwish) fun _ _ z=>False.elim z
end
section
variable {X:Cx}{st:Stmt}{rest:List Stmt}{t u:TS}{e:Expr}{te:TE}{pos:Pos}
noncomputable def tNext:TS:=fun D σ H=>D.nx σ H
noncomputable def tSeq (t u:TS):TS:=fun D σ H=>t { D with nx:=u D } σ H
theorem zAb:PSs X [] tNext:=fun _ _ σ H _ I h=>wpAny_execs_nil ⟨σ,H,I,h⟩
theorem zA3 (h1:PS X st t) (h2:PSs X rest u):PSs X (st :: rest) (tSeq t u):=by
 intro pins s σ H D I h;refine wpAny_execs_cons (thn (h1 pins s σ H { D with nx:=u D } I h) fun f s1 q=>?_);cases f with
 | next =>
  obtain ⟨σ',H',I',q⟩:=q;exact h2 pins s1 σ' H' D I' q
 | ret v=>exact q
 | brk=>exact q
 | cont=>exact q
theorem zA5 (h1:PS X st t):PSs X [st] t:=by
 intro pins s σ H D I h;refine wpAny_execs_cons (thn (h1 pins s σ H D I h) fun f s1 q=>?_);cases f with
 | next=>exact wpAny_execs_nil q
 | ret v=>exact q
 | brk=>exact q
 | cont=>exact q
theorem Inv.quiet {pins:List (Addr×Obj)}{σ : St}{H:Hp}{s:Shared} (I:Inv X pins σ H s):interactive X.env=false:=by simp [interactive,I.ok.kind]
noncomputable def tDrop (te:TE):TS:=fun D σ H=>te σ H fun _ H1=>D.nx σ H1
theorem zBj (he:PE X e te) (hs:swapsWith e none pos.line X.env=pure false:=by rfl):PS X (.Expr e pos) (tDrop te):=by
 intro pins s σ H D I h;exact wpAny_Expr_any (thn (he pins s σ H _ I h) fun v s1 ⟨x,H1,I1,r1,q1⟩=>⟨σ,H1,I1,q1⟩) I.quiet hs
noncomputable def tRet (te:TE):TS:=fun D σ H=>te σ H D.rt
theorem zA9 (he:PE X e te):PS X (.Return (some e) pos) (tRet te):=by
 intro pins s σ H D I h;exact wpAny_Return_some (thn (he pins s σ H _ I h) fun v s1 ⟨x,H1,I1,r1,q1⟩=>⟨x,σ,H1,I1,r1,q1⟩)
noncomputable def tIfS (c:TT) (t u:TS):TS:=fun D σ H=>c σ H fun b H1=>if b=true then t D σ H1 else u D σ H1
theorem zAn {c:Expr}{a b:List Stmt}{tc:TT} (hc:PT X c tc) (ha:PSs X a t) (hb:PSs X b u):PS X (.If c a b pos) (tIfS tc t u):=by
 intro pins s σ H D I h;refine wpAny_If (thn (hc pins s σ H _ I h) fun d s1 ⟨H1,I1,q1⟩=>?_);cases d with
 | true=>exact ha pins s1 σ H1 D I1 q1
 | false=>exact hb pins s1 σ H1 D I1 q1
noncomputable def tNever:TS:=fun _ _ _=>False
theorem zAp {sts:List Stmt}:PSs X sts tNever:=fun _ _ _ _ _ _ h=>h.elim
end
noncomputable abbrev TG:=V→St→Hp→(St→Hp→Prop)→Prop
noncomputable abbrev TGs:=List V→St→Hp→(St→Hp→Prop)→Prop
noncomputable def PG (X:Cx) (target:Expr) (t:TG):Prop :=
 ∀ (pins:List (Addr×Obj)) (s:Shared) (σ : St) (H:Hp) (v:V) (u:Value) (Q:St→Hp→Prop),Inv X pins σ H s→RelV v u→t v σ H Q →
  wpAny (model X.prog X.w) X.A (assign target X.env u) (fun _ s'=>∃ σ' H',Inv X pins σ' H' s'∧Q σ' H') X.xe s
noncomputable def PGs (X:Cx) (ts:List Expr) (t:TGs):Prop :=
 ∀ (pins:List (Addr×Obj)) (s:Shared) (σ : St) (H:Hp) (vs:List V) (us:List Value) (Q:St→Hp→Prop),Inv X pins σ H s→Vals vs us→t vs σ H Q →
  wpAny (model X.prog X.w) X.A (assignInOrder ((assignEach ts X.env).map (·.2)) us) (fun _ s'=>∃ σ' H',Inv X pins σ' H' s'∧Q σ' H') X.xe s
noncomputable abbrev TSet:=V→V→V→Hp→(Hp→Prop)→Prop
noncomputable def PSet (X:Cx) (t:TSet):Prop :=
 ∀ (pins:List (Addr×Obj)) (s:Shared) (σ : St) (H:Hp) (o i v:V) (ov iv u:Value) (Q:Hp→Prop),Inv X pins σ H s→RelV o ov→RelV i iv→RelV v u→t o i v H Q →
  wpAny (model X.prog X.w) X.A (setItem ov iv u) (fun _ s'=>∃ H',Inv X pins σ H' s'∧Q H') X.xe s
section
variable {X:Cx}{pos:Pos}
noncomputable def gName (i:Nat):TG:=fun v σ H Q=>Q (σ.set i (some v)) H
theorem zA8 {i:Nat}{x:Str} (hN:X.N.Nodup) (hi:X.N[i]? = some x) (hx:Loc X.env.scope x) (hf:X.fn x=true∨X.env.scope.names.lookup x=some .local:=by first | exact .inl rfl | exact .inr rfl | assumption):PG X (.Name x pos) (gName i):=by
 intro pins s σ H v u Q I r h;exact wpAny_assign_Name (store_ok I hN hi hx r (fun s' I'=>⟨_,H,I',h⟩) hf)
noncomputable def gNil:TGs:=fun vs σ H Q=>vs=[]∧Q σ H
noncomputable def gCons (t:TG) (u:TGs):TGs:=fun vs σ H Q=>∃ v r,vs=v :: r∧t v σ H fun σ' H'=>u r σ' H' Q
theorem zB2:PGs X [] gNil:=by
 intro pins s σ H vs us Q I r h;obtain ⟨e,h⟩:=h;subst e;cases r;exact assignInOrder_nil ⟨σ,H,I,h⟩
theorem zAe {e:Expr}{es:List Expr}{t:TG}{u:TGs} (h1:PG X e t) (h2:PGs X es u)
  (hs:(assignEach (e :: es) X.env).map (·.2)=assign e X.env :: (assignEach es X.env).map (·.2):=by rfl):PGs X (e :: es) (gCons t u):=by
 intro pins s σ H vs us Q I r h;obtain ⟨v,vr,e1,h⟩:=h;subst e1;cases r with
 | cons r rr =>
  rw [hs];refine assignInOrder_cons (thn (h1 pins s σ H _ _ _ I r h) fun _ s1 ⟨σ1,H1,I1,q1⟩=>?_);exact h2 pins s1 σ1 H1 _ _ Q I1 rr q1
noncomputable def gTup (K:PySem.W.Frag) (n:Nat) (t:TGs):TG:=fun v σ H Q=>∃ a xs,v=.ref a∧SqT K H a xs∧xs.length=n∧t xs σ H Q
theorem zC6 {es:List Expr}{k:Nat}{t:TGs}{n:Nat} (hc:X.calm=true) (h:PGs X es t)
  (hn:(assignEach es X.env).length=n:=by rfl) (hst:(assignEach es X.env).findIdx? (·.1)=none:=by rfl):PG X (.Tuple es k pos) (gTup X.K n t):=by
 intro pins s σ H v u Q I r hw;obtain ⟨a,xs,e1,hq,hl,hw⟩:=hw;subst e1;cases r;obtain ⟨its,rv,ht,hz⟩:=I.tuple hq;refine assign_Tuple_tuple (I.ok.hd hc) ht (by simp [hn,← hl,rv.length]) hst fun h' hx=>?_;have I1:Inv X pins σ H { s with heap:=h' }:=I.kept (t':=s.toks) fun b o e=>hx b o (Ze (Z9 e)) e;exact h pins _ σ H xs _ Q I1 (by simpa using rv) hw
noncomputable def gSub (to ti:TE) (t:TSet):TG:=fun v σ H Q=>to σ H fun o H1=>ti σ H1 fun i H2=>t o i v H2 fun H3=>Q σ H3
theorem pg_sub {o i:Expr}{to ti:TE}{t:TSet} (ho:PE X o to) (hi:PE X i ti) (hs:PSet X t)
  (ha:∀ v,assign (.Subscript o i pos) X.env v=(do
   let ov ← holding [v] (eval o X.env)
   let iv ← holding [v,ov] (eval i X.env)
   standAt pos
   holding [v,ov,iv] (setItem ov iv v)
   release [v,ov,iv] []):=by intro _;rfl):PG X (.Subscript o i pos) (gSub to ti t):=by
 intro pins s σ H v u Q I r h;rw [ha];refine wpAny_bind (wpAny_holding (thn (ho pins s σ H _ I h) fun ov s1 ⟨x,H1,I1,r1,q1⟩=>?_));refine wpAny_bind (wpAny_holding (thn (hi pins s1 σ H1 _ I1 q1) fun iv s2 ⟨y,H2,I2,r2,q2⟩=>?_));refine wpAny_bind (wpAny_standAt (wpAny_bind (wpAny_holding (thn (hs pins s2 σ H2 x y v ov iv u _ I2 r1 r2 r q2) fun _ s3 ⟨H3,I3,q3⟩=>?_))));exact wpAny_release ⟨σ,H3,I3,q3⟩
noncomputable def tAsg (te:TE) (g:TG):TS:=fun D σ H=>te σ H fun x H1=>g x σ H1 D.nx
theorem zD5 {tg e:Expr}{te:TE}{g:TG} (he:PE X e te) (hg:PG X tg g) (hs:swapsWithSole [tg] e pos.line X.env=pure false:=by rfl) (hw:swappedStores [tg] e X.env=pure none:=by rfl)
  (h1:(assignEach [tg] X.env).map (·.2)=[assign tg X.env]:=by rfl):PS X (.Assign [tg] e pos) (tAsg te g):=by
 intro pins s σ H D I h;refine wpAny_Assign_stores (thn (he pins s σ H _ I h) fun v s1 ⟨x,H1,I1,r1,q1⟩=>?_) hs hw;rw [h1];exact thn (hg pins s1 σ H1 x v _ I1 r1 q1) fun _ s2 q=>q
theorem zAi {i:Nat}{x:Str}{e:Expr}{te:TE}{pos':Pos} (hN:X.N.Nodup) (hi:X.N[i]? = some x) (hx:Loc X.env.scope x) (he:PE X e te) (hs:swapsWith e (some (.Name x pos')) pos.line X.env=pure false:=by rfl) (hf:X.fn x=true∨X.env.scope.names.lookup x=some .local:=by first | exact .inl rfl | exact .inr rfl | assumption) :
  PS X (.Assign [.Name x pos'] e pos) (tAsg te (gName i)):=by
 intro pins s σ H D I h;refine wpAny_Assign_Name (thn (he pins s σ H _ I h) fun v s1 ⟨y,H1,I1,r1,q1⟩=>?_) hs;exact store_ok I1 hN hi hx r1 (fun s2 I2=>⟨_,H1,I2,q1⟩) hf
end
section
variable {X:Cx}{pos:Pos}
noncomputable def tWhile (c:TT) (tb:TS):TS:=fun D σ H=>∃ W:Nat→St→Hp→Prop,(∃ m,W m σ H)∧∀ m σ H,W m σ H →
 c σ H fun b H1=>if b=true then ∃ N:St→Hp→Prop,(∀ σ' H',N σ' H'→∃ m',m' < m∧W m' σ' H')∧tb { D with nx:=N,ct:=N,bk:=D.nx } σ H1 else D.nx σ H1
theorem zF1 {c:Expr}{body:List Stmt}{tc:TT}{tb:TS} (hp:PassesOwn (model X.prog X.w) X.A X.env X.xe) (hc:PT X c tc) (hb:PSs X body tb):PS X (.While c body [] pos) (tWhile tc tb):=by
 intro pins s σ H D I h;obtain ⟨W,⟨m0,w0⟩,turn⟩:=h;refine wpAny_While (codeAny_whileLoop (fun n s'=>∃ σ' H',Inv X pins σ' H' s'∧W n σ' H') ?_ m0 ⟨σ,H,I,w0⟩);rintro n s1 ⟨σ1,H1,I1,w1⟩;refine wpAny_passesOwn hp (thn (hc pins s1 σ1 H1 _ I1 (turn n σ1 H1 w1)) fun b s2 ⟨H2,I2,q2⟩=>?_);cases b with
 | true =>
  obtain ⟨N,hN,q2⟩:=q2;rw [if_pos rfl];refine wpAny_passesOwn hp (thn (hb pins s2 σ1 H2 _ I2 q2) fun f s3 q3=>?_);cases f with
  | next =>
   obtain ⟨σ3,H3,I3,n3⟩:=q3;obtain ⟨m',hm,w3⟩:=hN σ3 H3 n3;exact ⟨m',hm,σ3,H3,I3,w3⟩
  | cont =>
   obtain ⟨σ3,H3,I3,n3⟩:=q3;obtain ⟨m',hm,w3⟩:=hN σ3 H3 n3;exact ⟨m',hm,σ3,H3,I3,w3⟩
  | brk=>exact q3
  | ret v=>exact q3
 | false =>
  rw [if_neg Zc];exact wpAny_execs_nil ⟨σ1,H2,I2,q2⟩
end
structure It where
 go:Nat→Hp→Prop
 yld:Nat→Hp→V→Hp→Prop
 stop:Nat→Hp→Prop
noncomputable def FpOk (X:Cx) (pins:List (Addr×Obj)) (H:Hp) (b:Addr):Prop :=
 H b=none∧b≠X.env.locals∧b∉X.fs∧(b∈X.ex∨X.s₀.heap.objs.size≤b)∧(∀ x c,X.env.cells.lookup x=some c→c≠b)∧∀ p∈X.pn++pins,p.1≠b
theorem Inv.fpOk {X:Cx}{pins:List (Addr×Obj)}{σ : St}{H H':Hp}{s:Shared}{b:Addr} (I:Inv X pins σ H s) (hb:s.heap.objs.size≤b) (hn:H' b=none):FpOk X pins H' b:=by
 refine ⟨hn,Yd (Zd I.lt hb),I.nofs hb,.inr (Zm I.sz hb),fun x c e z=>?_,fun p hp z=>?_⟩
 ·obtain ⟨v,q⟩:=I.cell x c e;exact absurd (Zd q.lt (by rw [z];exact hb)) (Y1 _)
 ·exact absurd (Zd (Z9 (I.pin p hp).1) (by rw [z];exact hb)) (Y1 _)
structure TurnP (Φ : Cx→Prop) (P:Program) (w:World) (K:PySem.W.Frag) (tg:Expr) (J:It) (fp:List Addr) (it:Addr) (tn:Nat→Heap→Prop):Prop where
 mem:it∈fp
 obj:∀ i h,tn i h→∀ b∈fp,∃ o,h.get? b=some o∧∀ v,o.data≠.cell v
 keep:∀ i h h',tn i h→(∀ b∈fp,∀ o,h.get? b=some o→h'.get? b=some o)→tn i h'
 item:∀ (X:Cx),X.prog=P→X.w=w→X.K=K→Φ X→∀ (i:Nat) (pins:List (Addr×Obj)) (s:Shared) (σ : St) (H:Hp) (E:Value→Shared→Prop),Inv X pins σ H s→(∀ b∈fp,FpOk X pins H b)→tn i s.heap→J.go i H →
  wpAny (model P w) X.A (pyNext (.ref it)) (fun r s1=>∃ u,r=some u ∧
   wpAny (model P w) X.A (letOwnedTupleGo tg (.ref it) u) (fun _ s2=>∃ x H',Inv X pins σ H' s2∧RelV x u∧J.yld i H x H'∧tn (i + 1) s2.heap∧∀ b∈fp,H' b=none) E s1) E s
 done:∀ (X:Cx),X.prog=P→X.w=w→X.K=K→Φ X→∀ (i:Nat) (pins:List (Addr×Obj)) (s:Shared) (σ : St) (H:Hp) (E:Value→Shared→Prop),Inv X pins σ H s→(∀ b∈fp,FpOk X pins H b)→tn i s.heap→J.stop i H →
  wpAny (model P w) X.A (pyNext (.ref it)) (fun r s1=>r=none∧Inv X pins σ H s1) E s
 self:∀ (A:Around) (i:Nat) (s:Shared) (Q:Value→Shared→Prop) (E:Value→Shared→Prop),tn i s.heap→Q (.ref it) s→wpAny (model P w) A (pyIter (.ref it)) Q E s
noncomputable abbrev Turn:=TurnP fun X=>X.calm=true
noncomputable abbrev TI:=St→Hp→(It→Hp→Prop)→Prop
noncomputable def PIE (X:Cx) (pins:List (Addr×Obj)) (σ : St) (tg:Expr) (R:It→Hp→Prop) (itv:Value) (s2:Shared):Prop :=
 ∃ (it:Addr) (fp:List Addr) (tn:Nat→Heap→Prop) (J:It) (H':Hp),itv=.ref it∧Inv X pins σ H' s2∧Turn X.prog X.w X.K tg J fp it tn∧tn 0 s2.heap∧(∀ b∈fp,FpOk X pins H' b)∧R J H'
noncomputable def PI (X:Cx) (tg iter:Expr) (wi:TI):Prop :=
 ∀ (pins:List (Addr×Obj)) (s:Shared) (σ : St) (H:Hp) (R:It→Hp→Prop),Inv X pins σ H s→wi σ H R →
  wpAny (model X.prog X.w) X.A (eval iter X.env) (fun v s1=>wpAny (model X.prog X.w) X.A (pyIter v) (PIE X pins σ tg R) X.xe s1) X.xe s
theorem go_of {M:Model}{A:Around}{E:Value→Shared→Prop}{s:Shared}{tg:Expr}{it:Addr}{u:Value}{o:Obj}{n:String}{vs:Array Value}{Q:Unit→Shared→Prop} (ho:s.heap.get? it=some o) (hc:o.cls=.type n) (hd:o.data=.fields vs)
  (hn:["enumerate", "zip", "dict_itemiterator", "dict_reverseitemiterator", "odict_iterator", "itertools.zip_longest", "itertools.pairwise"].contains n=false) (hQ:Q () s):wpAny M A (letOwnedTupleGo tg (.ref it) u) Q E s:=by
 unfold letOwnedTupleGo
 cases tg <;> first
  | exact wpAny_pure hQ
  | (cases u <;> first
    | exact wpAny_pure hQ
    | (refine wpAny_bind (wpAny_load ho ?_)
       rw [hc,hd];show wpAny M A (if (["enumerate", "zip", "dict_itemiterator", "dict_reverseitemiterator", "odict_iterator", "itertools.zip_longest", "itertools.pairwise"].contains n && vs[0]? == some (rawInt _))=true then _ else _) Q E s;rw [if_neg (by intro h;rw [hn,Bool.false_and] at h;cases h)]
       exact wpAny_pure hQ))
noncomputable def Itl (K:PySem.W.Frag) (a:Addr):It :=
 ⟨fun i H=>∃ xs x,SqL K H a xs∧xs[i]? = some x,fun i H x H'=>H'=H∧∀ xs,SqL K H a xs→xs[i]? = some x,fun i H=>∃ xs,SqL K H a xs∧xs.length≤i⟩
noncomputable def Itr (lo:Int) (n:Nat):It:=⟨fun i _=>i < n,fun i H x H'=>H'=H∧x=.int (lo + i),fun i _=>n≤i⟩
theorem turn_list {P:Program}{w:World}{K:PySem.W.Frag}{tg:Expr} (a it:Addr):Turn P w K tg (Itl K a) [it] it (fun i h=>h.IsListIter it a i) where
 mem:=by simp
 obj:=fun i h st b hb=>by
  have e:b=it:=by simpa using hb
  subst e;obtain ⟨o,e,c,d⟩:=st;exact ⟨o,e,fun v z=>by rw [d] at z;cases z⟩
 keep:=fun i h h' st k=>st.at fun o e=>k it (by simp) o e
 item:=by
  intro X hP hw hK hc i pins s σ H E I hf st hg;subst hP hw hK;obtain ⟨xs,x,hq,hx⟩:=hg;obtain ⟨its,rv,p,hz⟩:=I.list hq;obtain ⟨u,hu,ru⟩:=rv.get hx;obtain ⟨f0,f1,f2,f3,f4,f5⟩:=hf it (by simp);refine wpAny_pyNext_list_item st p.isList (x:=u) (by simpa using hu) fun h' st' sb=>?_;have I1:Inv X pins σ H { s with heap:=h' }:=I.turned (t':=s.toks) (fun b o hb e=>(sb.2 b hb).trans e) f0 f1 f3 f4 f5;obtain ⟨o,e,c,d⟩:=id st';exact ⟨u,rfl,go_of (s:={ s with heap:=h' }) e c d (by decide) ⟨x,H,I1,ru,⟨rfl,fun ys hy=>by rw [I.list_inj hy hq];exact hx⟩,st',fun b hb=>(hf b hb).1⟩⟩
 done:=by
  intro X hP hw hK hc i pins s σ H E I hf st hg;subst hP hw hK;obtain ⟨xs,hq,hx⟩:=hg;obtain ⟨its,rv,p,hz⟩:=I.list hq;obtain ⟨f0,f1,f2,f3,f4,f5⟩:=hf it (by simp);have hl:=rv.length;exact wpAny_pyNext_list_end (I.ok.hd hc) st p.isList (by simp;omega) fun h' eb=>⟨rfl,I.turned (t':=s.toks) (fun b o hb e=>eb b o hb e) f0 f1 f3 f4 f5⟩
 self:=fun _ _ _ _ _ st h=>wpAny_pyIter_listiter st h
theorem turn_range {P:Program}{w:World}{K:PySem.W.Frag}{tg:Expr} (it:Addr) (lo:Int) (n:Nat):Turn P w K tg (Itr lo n) [it] it (fun i h=>IsRangeIter h it (lo + (i:Nat) * 1) ((n:Int) - (i:Nat)) 1) where
 mem:=by simp
 obj:=fun i h st b hb=>by
  have e:b=it:=by simpa using hb
  subst e
  exact ⟨_,st,fun v z=>by
   have z':Data.fields _=Data.cell v:=z
   cases z'⟩
 keep:=fun i h h' st k=>k it (by simp) _ st
 item:=by
  intro X hP hw hK hc i pins s σ H E I hf st hg;subst hP hw hK;obtain ⟨f0,f1,f2,f3,f4,f5⟩:=hf it (by simp);have W:=Walks.range (prog:=X.prog) (w:=X.w) (I.ok.hd hc) it lo 1 n;refine W.item i s _ _ hg st fun v h' tk hv st' kk=>?_;obtain ⟨t,rfl⟩:=hv;have I1:Inv X pins σ H { s with heap:=h',toks:=tk }:=I.turned (fun b o hb e=>kk b o (by simpa using hb) e) f0 f1 f3 f4 f5;refine ⟨_,rfl,go_of (s:={ s with heap:=h',toks:=tk }) (n:="range_iterator") st' rfl rfl (by decide) ⟨.int (lo + i),H,I1,⟨t,?_⟩,⟨rfl,rfl⟩,st',fun b hb=>(hf b hb).1⟩⟩;rw [Int.mul_one]
 done:=by
  intro X hP hw hK hc i pins s σ H E I hf st hg;subst hP hw hK;obtain ⟨f0,f1,f2,f3,f4,f5⟩:=hf it (by simp);exact wpAny_pyNext_range_end (I.ok.hd hc) st (by have:n≤i:=hg;omega) fun h' eb=>⟨rfl,I.turned (t':=s.toks) (fun b o hb e=>eb b o hb e) f0 f1 f3 f4 f5⟩
 self:=fun _ _ _ _ _ st h=>wpAny_pyIter_rangeiter st h
end L2
namespace L2
open PySem PySem.Spec PyProof.Rows
section
variable {X:Cx}{tg:Expr}
noncomputable def iList (K:PySem.W.Frag) (tl:TE):TI:=fun σ H R=>tl σ H fun x H1=>∃ a,x=.ref a∧(∃ xs,SqL K H1 a xs)∧R (Itl K a) H1
theorem zAk {l:Expr}{tl:TE} (hl:PE X l tl):PI X tg l (iList X.K tl):=by
 intro pins s σ H R I h;refine thn (hl pins s σ H _ I h) fun v s1 ⟨x,H1,I1,r1,q1⟩=>?_;obtain ⟨a,e,⟨xs,hq⟩,q⟩:=q1;subst e;cases r1;obtain ⟨its,rv,p,hz⟩:=I1.list hq;refine wpAny_pyIter_list p.isList ?_;refine ⟨s1.heap.objs.size,[s1.heap.objs.size],_,_,H1,rfl,I1.kept (t':=s1.toks) fun b o e=>Z2 _ e,turn_list a _,⟨_,Za _ rfl,rfl,rfl⟩,fun b hb=>?_,q⟩;have e:b=s1.heap.objs.size:=by simpa using hb
 subst e;exact I1.fpOk (Z7 _) (I1.hok.fresh (Z7 _))
theorem range_it {pins:List (Addr×Obj)}{σ : St}{H:Hp}{s:Shared}{R:It→Hp→Prop}{E:Value→Shared→Prop}{lo hi:Int}{t u v:Tok}{tk:Nat} (I:Inv X pins σ H s) (h1 : -(2 ^ 62)≤lo) (h2:lo < 2 ^ 62) (h3 : -(2 ^ 62)≤hi) (h4:hi < 2 ^ 62)
  (q:R (Itr lo (hi - lo).toNat) H):wpAny (model X.prog X.w) X.A (pyIter (.ref s.heap.objs.size)) (PIE X pins σ tg R) E { s with heap:=s.heap.push { cls:=.type "range",data:=.fields #[.int lo t,.int hi u,.int 1 v] },toks:=tk }:=by
 refine wpAny_pyIter_range (IsRange.new ..) (small_one h1 h2 h3 h4) ?_;have I1:Inv X pins σ H { s with heap:=s.heap.push { cls:=.type "range",data:=.fields #[.int lo t,.int hi u,.int 1 v] },toks:=tk }:=I.kept fun b o e=>Z2 _ e
 refine ⟨(s.heap.push { cls:=.type "range",data:=.fields #[.int lo t,.int hi u,.int 1 v] }).objs.size,[(s.heap.push { cls:=.type "range",data:=.fields #[.int lo t,.int hi u,.int 1 v] }).objs.size],_,_,H,rfl,
  I1.kept (t':=tk) fun b o e=>Z2 _ e,turn_range _ lo (hi - lo).toNat,?_,fun b hb=>?_,q⟩
 ·have e1:lo + ((0:Nat):Int) * 1=lo:=by simp
  have e2:(((hi - lo).toNat:Nat):Int) - ((0:Nat):Int)=Builtin.Range.rangeSize lo hi 1:=by rw [rangeSize_one];split <;> omega
  show IsRangeIter _ _ (lo + ((0:Nat):Int) * 1) ((((hi - lo).toNat:Nat):Int) - ((0:Nat):Int)) 1;rw [e1,e2];exact Za _ rfl
 ·have e:b=(s.heap.push { cls:=.type "range",data:=.fields #[.int lo t,.int hi u,.int 1 v] }).objs.size:=by simpa using hb
  subst e;exact I1.fpOk (Z7 _) (I1.hok.fresh (Z7 _))
noncomputable def iRng1 (ta:TA):TI:=fun σ H R=>ta σ H fun vs H1=>∃ j:Int,vs=[.int j]∧-(2 ^ 62)≤j∧j < 2 ^ 62∧R (Itr 0 j.toNat) H1
theorem zC5 {a:Expr}{ta:TA}{p pos:Pos} (hg:Gl X "range") (hm:X.mg "range" = none) (ha:PA X [a] ta) (hs:starEach [a] X.env=[(false,eval a X.env)]:=by rfl):PI X tg (.Call (.Name "range" p) [a] [] pos) (iRng1 ta):=by
 intro pins s σ H R I h;refine Call_ (zE4 I hg hm boot_range (PyProof.Rows.callWith_type1 (thn (ha pos pins s σ H _ I h) fun us s1 ⟨vs,H1,I1,r1,q1⟩=>?_) hs rfl));obtain ⟨j,e,q1,q2,q⟩:=q1;subst e;cases r1 with
 | cons r rr =>
  cases rr;obtain ⟨t,rfl⟩:=r;exact call_range_1 (range_it I1 (by omega) (by omega) q1 q2 (by simpa using q))
noncomputable def tFor (wi:TI) (g:TG) (tb:TS):TS:=fun D σ H=>wi σ H fun J H1=>∃ W:Nat→Nat→St→Hp→Prop,(∃ m,W 0 m σ H1)∧∀ i m σ H,W i m σ H →
 (J.stop i H∧D.nx σ H)∨(J.go i H∧∃ N:St→Hp→Prop,(∀ σ' H',N σ' H'→∃ m',m' < m∧W (i + 1) m' σ' H')∧∀ x H',J.yld i H x H'→g x σ H' fun σ2 H2=>tb { D with nx:=N,ct:=N,bk:=D.nx } σ2 H2)
noncomputable def pinsAt (fp:List Addr) (h:Heap):List (Addr×Obj):=fp.filterMap fun b=>(h.get? b).map fun o=>(b,o)
theorem zDi {fp:List Addr}{h:Heap}{b:Addr}{o:Obj} (hb:b∈fp) (e:h.get? b=some o):(b,o)∈pinsAt fp h:=List.mem_filterMap.mpr ⟨b,hb,by rw [e];rfl⟩
theorem of_pinsAt {fp:List Addr}{h:Heap}{p:Addr×Obj} (hp:p∈pinsAt fp h):p.1∈fp∧h.get? p.1=some p.2:=by
 obtain ⟨b,hb,e⟩:=List.mem_filterMap.mp hp;cases q:h.get? b with
 | none=>rw [q] at e;cases e
 | some o =>
  rw [q] at e;have e':(b,o)=p:=Zf e;subst e';exact ⟨hb,q⟩
theorem Inv.pinned {pins:List (Addr×Obj)}{σ : St}{H:Hp}{s:Shared}{fp:List Addr} (I:Inv X pins σ H s) (hf:∀ b∈fp,FpOk X pins H b) (ho:∀ b∈fp,∃ o,s.heap.get? b=some o∧∀ v,o.data≠.cell v):Inv X (pins++pinsAt fp s.heap) σ H s :=
 I.pins_of fun p hp=>(List.mem_append.mp hp).elim (fun z=>I.pin p (Zw _ z)) fun z=>by
  obtain ⟨hb,e⟩:=of_pinsAt z;obtain ⟨f0,f1,f2,_⟩:=hf p.1 hb;obtain ⟨o,e',d⟩:=ho p.1 hb;rw [e] at e';cases e';exact ⟨e,f0,f1,f2,d⟩
theorem Inv.unpinned {pins pl:List (Addr×Obj)}{σ : St}{H:Hp}{s:Shared} (I:Inv X (pins++pl) σ H s):Inv X pins σ H s:=I.pins_of fun p hp=>I.pin p (Zw _ (List.mem_append_left _ hp))
theorem zBt {iter:Expr}{body:List Stmt}{wi:TI}{g:TG}{tb:TS}{pos:Pos} (hp:PassesOwn (model X.prog X.w) X.A X.env X.xe) (hc:X.calm=true) (hi:PI X tg iter wi) (hg:PG X tg g) (hb:PSs X body tb)
  (hs:∀ x,foldedSetIterable iter X.env x=pure x:=by intro _;rfl):PS X (.For tg iter body [] pos) (tFor wi g tb):=by
 intro pins s σ H D I h;refine wpAny_For (thn (hi pins s σ H _ I h) fun v s1 h1=>thn h1 fun itv s2 h2=>?_) hs;obtain ⟨it,fp,tn,J,H2,e,I2,T,st2,f2,W,⟨m0,w0⟩,turn⟩:=h2;subst e;have stat:∀ {H':Hp},(∀ b∈fp,H' b=none)→∀ b∈fp,FpOk X pins H' b:=fun hn b hb=>⟨hn b hb,(f2 b hb).2⟩;refine codeAny_forLoop_any (fun n s'=>∃ i σ' H',Inv X pins σ' H' s'∧tn i s'.heap∧(∀ b∈fp,H' b=none)∧W i n σ' H') ?_ m0 ⟨0,σ,H2,I2,st2,fun b hb=>(f2 b hb).1,w0⟩;rintro n s3 ⟨i,σ3,H3,I3,st3,fr3,w3⟩;rcases turn i n σ3 H3 w3 with ⟨stop,qn⟩ | ⟨go,N,hN,step⟩
 ·refine wpAny_passesOwn hp (thn (T.done X rfl rfl rfl hc i pins s3 σ3 H3 X.xe I3 (stat fr3) st3 stop) fun r s4 ⟨hr,I4⟩=>?_);subst hr;exact wpAny_execs_nil ⟨σ3,H3,I4,qn⟩
 ·refine wpAny_passesOwn hp (thn (T.item X rfl rfl rfl hc i pins s3 σ3 H3 X.xe I3 (stat fr3) st3 go) fun r s4 ⟨u,hr,h4⟩=>?_);subst hr;refine wpAny_passesOwn hp (thn h4 fun _ s5 ⟨x,H5,I5,r5,y5,st5,fr5⟩=>?_);have I5':=I5.pinned (stat fr5) (T.obj _ _ st5);refine wpAny_passesOwn hp (thn (hg _ s5 σ3 H5 x u _ I5' r5 (step x H5 y5)) fun _ s6 ⟨σ6,H6,I6,q6⟩=>?_);refine wpAny_passesOwn hp (thn (hb _ s6 σ6 H6 _ I6 q6) fun f s7 q7=>?_);have again:∀ {σ7:St}{H7:Hp},Inv X (pins++pinsAt fp s5.heap) σ7 H7 s7→N σ7 H7→∃ m,m < n∧∃ i σ' H',Inv X pins σ' H' s7∧tn i s7.heap∧(∀ b∈fp,H' b=none)∧W i m σ' H':=fun {σ7 H7} I7 n7=>by
   obtain ⟨m',hm,w7⟩:=hN σ7 H7 n7;refine ⟨m',hm,i + 1,σ7,H7,I7.unpinned,T.keep _ _ _ st5 fun b hb o e=>(I7.pin (b,o) (Zw _ (Zw _ (zDi hb e)))).1,fun b hb=>?_,w7⟩;obtain ⟨o,e,d⟩:=T.obj _ _ st5 b hb;exact (I7.pin (b,o) (Zw _ (Zw _ (zDi hb e)))).2.1
  cases f with
  | next=>obtain ⟨σ7,H7,I7,n7⟩:=q7;exact again I7 n7
  | cont=>obtain ⟨σ7,H7,I7,n7⟩:=q7;exact again I7 n7
  | brk=>obtain ⟨σ7,H7,I7,q7⟩:=q7;exact ⟨σ7,H7,I7.unpinned,q7⟩
  | ret v=>obtain ⟨x7,σ7,H7,I7,r7,q7⟩:=q7;exact ⟨x7,σ7,H7,I7.unpinned,r7,q7⟩
end
theorem zBs {K:PySem.W.Frag}{a:Addr}{xs:List V}{g:TG}{tb:TS}{D:Ends}{σ : St}{H:Hp} (Pv:Nat→St→Hp→Prop) (h0:Pv 0 σ H) (hl:∀ i σ H,i≤xs.length→Pv i σ H→SqL K H a xs)
  (hs:∀ i x σ H,xs[i]? = some x→Pv i σ H→g x σ H fun σ2 H2=>tb { D with nx:=Pv (i + 1),ct:=Pv (i + 1),bk:=D.nx } σ2 H2) (hd:∀ σ H,Pv xs.length σ H→D.nx σ H) :
  ∃ W:Nat→Nat→St→Hp→Prop,(∃ m,W 0 m σ H)∧∀ i m σ H,W i m σ H →
   ((Itl K a).stop i H∧D.nx σ H)∨((Itl K a).go i H∧∃ N:St→Hp→Prop,(∀ σ' H',N σ' H'→∃ m',m' < m∧W (i + 1) m' σ' H')∧∀ x H',(Itl K a).yld i H x H'→g x σ H' fun σ2 H2=>tb { D with nx:=N,ct:=N,bk:=D.nx } σ2 H2):=by
 refine ⟨fun i m σ H=>m=xs.length - i∧i≤xs.length∧Pv i σ H,⟨xs.length,by simp,Zj _,h0⟩,?_⟩;rintro i m σ H ⟨rfl,hi,p⟩;have q:=hl i σ H hi p;by_cases hlt:i < xs.length
 ·refine .inr ⟨⟨xs,xs[i],q,by simp [hlt]⟩,Pv (i + 1),fun σ' H' p'=>⟨xs.length - (i + 1),by omega,rfl,hlt,p'⟩,fun x H' y=>?_⟩;obtain ⟨e,y⟩:=y;subst e;exact hs i x σ _ (y xs q) p
 ·have e:i=xs.length:=by omega
  subst e;exact .inl ⟨⟨xs,q,Z7 _⟩,hd σ H p⟩
theorem zE8 {lo:Int}{n:Nat}{g:TG}{tb:TS}{D:Ends}{σ : St}{H:Hp} (Pv:Nat→St→Hp→Prop) (h0:Pv 0 σ H)
  (hs:∀ i σ H,i < n→Pv i σ H→g (.int (lo + i)) σ H fun σ2 H2=>tb { D with nx:=Pv (i + 1),ct:=Pv (i + 1),bk:=D.nx } σ2 H2) (hd:∀ σ H,Pv n σ H→D.nx σ H) :
  ∃ W:Nat→Nat→St→Hp→Prop,(∃ m,W 0 m σ H)∧∀ i m σ H,W i m σ H →
   ((Itr lo n).stop i H∧D.nx σ H)∨((Itr lo n).go i H∧∃ N:St→Hp→Prop,(∀ σ' H',N σ' H'→∃ m',m' < m∧W (i + 1) m' σ' H')∧∀ x H',(Itr lo n).yld i H x H'→g x σ H' fun σ2 H2=>tb { D with nx:=N,ct:=N,bk:=D.nx } σ2 H2):=by
 refine ⟨fun i m σ H=>m=n - i∧i≤n∧Pv i σ H,⟨n,by simp,Zj _,h0⟩,?_⟩;rintro i m σ H ⟨rfl,hi,p⟩;by_cases hlt:i < n
 ·refine .inr ⟨hlt,Pv (i + 1),fun σ' H' p'=>⟨n - (i + 1),by omega,rfl,hlt,p'⟩,fun x H' y=>?_⟩;obtain ⟨e,y⟩:=y;subst e y;exact hs i σ _ hlt p
 ·have e:i=n:=by omega
  subst e;exact .inl ⟨Z7 _,hd σ H p⟩
end L2
namespace L2
open PySem PySem.Spec PyProof.Rows
noncomputable abbrev R2:=V→V→Hp→VK→Prop
noncomputable def OpR (X:Cx) (f:Value→Value→Sem Value) (r:R2):Prop :=
 ∀ (pins:List (Addr×Obj)) (s:Shared) (σ : St) (H:Hp) (x y:V) (v u:Value) (Q:VK),Inv X pins σ H s→RelV x v→RelV y u→r x y H Q →
  wpAny (model X.prog X.w) X.A (f v u) (EP X pins σ Q) X.xe s
noncomputable def UnR (X:Cx) (f:Value→Sem Value) (r:V→Hp→VK→Prop):Prop :=
 ∀ (pins:List (Addr×Obj)) (s:Shared) (σ : St) (H:Hp) (x:V) (v:Value) (Q:VK),Inv X pins σ H s→RelV x v→r x H Q →
  wpAny (model X.prog X.w) X.A (f v) (EP X pins σ Q) X.xe s
noncomputable def CallR (X:Cx) (f:Value) (r:List V→Hp→VK→Prop):Prop :=
 ∀ (pins:List (Addr×Obj)) (s:Shared) (σ : St) (H:Hp) (xs:List V) (us:List Value) (Q:VK),Inv X pins σ H s→Vals xs us→r xs H Q →
  wpAny (model X.prog X.w) X.A (call f us) (EP X pins σ Q) X.xe s
noncomputable def TruR (X:Cx) (r:V→Hp→(Bool→Hp→Prop)→Prop):Prop :=
 ∀ (pins:List (Addr×Obj)) (s:Shared) (σ : St) (H:Hp) (x:V) (v:Value) (Q:Bool→Hp→Prop),Inv X pins σ H s→RelV x v→r x H Q →
  wpAny (model X.prog X.w) X.A (truthy v) (TP X pins σ Q) X.xe s
noncomputable def tOp (r:R2) (ta tb:TE):TE:=fun σ H Q=>ta σ H fun x H1=>tb σ H1 fun y H2=>r x y H2 Q
noncomputable def tUn (r:V→Hp→VK→Prop) (ta:TE):TE:=fun σ H Q=>ta σ H fun x H1=>r x H1 Q
noncomputable def rI (C:Int→Int→Prop) (g:Int→Int→V):R2:=fun x y H Q=>∃ i j,x=.int i∧y=.int j∧C i j∧Q (g i j) H
noncomputable def rI0 (g:Int→Int→V):R2:=fun x y H Q=>∃ i j,x=.int i∧y=.int j∧Q (g i j) H
noncomputable def rU (g:Int→V):V→Hp→VK→Prop:=fun x H Q=>∃ i,x=.int i∧Q (g i) H
section
variable {X:Cx}{a b c:Expr}{ta tb tc:TE}{pos:Pos}
theorem binT (ha:PE X a ta) (hb:PE X b tb) {pins:List (Addr×Obj)}{s:Shared}{σ : St}{H:Hp}{R:V→V→Hp→Prop} (I:Inv X pins σ H s)
  (h:ta σ H fun x H1=>tb σ H1 fun y H2=>R x y H2) {Q:Value→Shared→Prop}{f:Value→Value→Sem Value}
  (hf:∀ v u s2 x y H2,Inv X pins σ H2 s2→RelV x v→RelV y u→R x y H2→wpAny (model X.prog X.w) X.A (f v u) Q X.xe s2) :
  wpAny (model X.prog X.w) X.A (eval a X.env) (fun v s₁=>wpAny (model X.prog X.w) X.A (eval b X.env) (fun u s₂=>wpAny (model X.prog X.w) X.A (f v u) Q X.xe s₂) X.xe s₁) X.xe s:=by
 refine thn (ha pins s σ H _ I h) fun v s1 ⟨x,H1,I1,r1,q1⟩=>?_;refine thn (hb pins s1 σ H1 _ I1 q1) fun u s2 ⟨y,H2,I2,r2,q2⟩=>?_;exact hf v u s2 x y H2 I2 r1 r2 q2
theorem zAv {op:Operator}{r:R2} (ho:OpR X (binaryOp op) r) (ha:PE X a ta) (hb:PE X b tb):PE X (.BinOp a op b pos) (tOp r ta tb):=by
 intro pins s σ H Q I h;exact wpAny_BinOp (binT ha hb I h fun v u s2 x y H2 I2 rx ry q=>ho pins s2 σ H2 x y v u Q I2 rx ry q)
theorem pe_un {op:UnaryOp}{r:V→Hp→VK→Prop} (ho:UnR X (unaryOp op) r) (ha:PE X a ta):PE X (.UnaryOp op a pos) (tUn r ta):=by
 intro pins s σ H Q I h;exact UnaryOp_ (thn (ha pins s σ H _ I h) fun v s1 ⟨x,H1,I1,r1,q1⟩=>ho pins s1 σ H1 x v Q I1 r1 q1)
theorem opI {f:Value→Value→Sem Value}{C:Int→Int→Prop}{g:Int→Int→Int}
  (rule:∀ (i j:Int) (t u:Tok) (s:Shared) (Q:Value→Shared→Prop) (E:Value→Shared→Prop),C i j→Q (.int (g i j) s.toks) { s with toks:=s.toks + 1 }→wpAny (model X.prog X.w) X.A (f (.int i t) (.int j u)) Q E s) :
  OpR X f (rI C fun i j=>.int (g i j)):=by
 intro pins s σ H x y v u Q I rx ry h;obtain ⟨i,j,rfl,rfl,hc,q⟩:=h;obtain ⟨t,rfl⟩:=rx;obtain ⟨t',rfl⟩:=ry;exact rule i j t t' s _ _ hc ⟨.int (g i j),H,I.tok _,⟨_,rfl⟩,q⟩
theorem opI0 {f:Value→Value→Sem Value}{g:Int→Int→Int}
  (rule:∀ (i j:Int) (t u:Tok) (s:Shared) (Q:Value→Shared→Prop) (E:Value→Shared→Prop),Q (.int (g i j) s.toks) { s with toks:=s.toks + 1 }→wpAny (model X.prog X.w) X.A (f (.int i t) (.int j u)) Q E s) :
  OpR X f (rI0 fun i j=>.int (g i j)):=by
 intro pins s σ H x y v u Q I rx ry h;obtain ⟨i,j,rfl,rfl,q⟩:=h;obtain ⟨t,rfl⟩:=rx;obtain ⟨t',rfl⟩:=ry;exact rule i j t t' s _ _ ⟨.int (g i j),H,I.tok _,⟨_,rfl⟩,q⟩
theorem opB0 {f:Value→Value→Sem Value}{g:Int→Int→Bool}
  (rule:∀ (i j:Int) (t u:Tok) (s:Shared) (Q:Value→Shared→Prop) (E:Value→Shared→Prop),Q (.bool (g i j)) s→wpAny (model X.prog X.w) X.A (f (.int i t) (.int j u)) Q E s) :
  OpR X f (rI0 fun i j=>.bl (g i j)):=by
 intro pins s σ H x y v u Q I rx ry h;obtain ⟨i,j,rfl,rfl,q⟩:=h;obtain ⟨t,rfl⟩:=rx;obtain ⟨t',rfl⟩:=ry;exact rule i j t t' s _ _ ⟨.bl (g i j),H,I,rfl,q⟩
noncomputable def CDiv (i j:Int):Prop:=0 < j∧j < 1073741824
noncomputable def CMul (i j:Int):Prop:=(-(2 ^ 64) < i∧i < 2 ^ 64)∨(-(2 ^ 64) < j∧j < 2 ^ 64)
theorem CMul.ok {i j:Int} (h:CMul i j):IntMulOk i j:=by
 rcases h with ⟨h1,h2⟩ | ⟨h1,h2⟩
 ·exact .of_left (intBits_le_64 h1 h2)
 ·exact .of_right (intBits_le_64 h1 h2)
theorem zC0:OpR X (binaryOp .Add) (rI0 fun i j=>.int (i + j)):=opI0 fun _ _ _ _ _ _ _ q=>add_int q
theorem op_sub:OpR X (binaryOp .Sub) (rI0 fun i j=>.int (i - j)):=opI0 fun _ _ _ _ _ _ _ q=>sub_int q
theorem zDm:OpR X (binaryOp .Mult) (rI CMul fun i j=>.int (i * j)):=opI fun _ _ _ _ _ _ _ hc q=>mul_int q hc.ok
theorem zDz:OpR X (binaryOp .FloorDiv) (rI CDiv fun i j=>.int (i / j)):=opI fun i j _ _ _ _ _ hc q=>by
 have h1:(0:Int) < j:=hc.1;have h2:j < 1073741824:=hc.2;exact floordiv_int (by omega) (by rw [Int.fdiv_eq_ediv_of_nonneg i (by omega)];exact q) (.inl (PyProof.noPylong_small (by omega)))
theorem zCk:OpR X (binaryOp .Mod) (rI (fun _ j=>0 < j) fun i j=>.int (i % j)):=opI fun i j _ _ _ _ _ hc q=>by
 have h1:(0:Int) < j:=hc;exact mod_int' (by omega) (by rw [Int.fmod_eq_emod_of_nonneg i (by omega)];exact q)
theorem unI {f:Value→Sem Value}{g:Int→Int}
  (rule:∀ (i:Int) (t:Tok) (s:Shared) (Q:Value→Shared→Prop) (E:Value→Shared→Prop),Q (.int (g i) s.toks) { s with toks:=s.toks + 1 }→wpAny (model X.prog X.w) X.A (f (.int i t)) Q E s) :
  UnR X f (rU fun i=>.int (g i)):=by
 intro pins s σ H x v Q I rx h;obtain ⟨i,rfl,q⟩:=h;obtain ⟨t,rfl⟩:=rx;exact rule i t s _ _ ⟨.int (g i),H,I.tok _,⟨_,rfl⟩,q⟩
theorem un_neg:UnR X (unaryOp .USub) (rU fun i=>.int (-i)):=unI fun _ _ _ _ _ q=>neg_int q
end
noncomputable def scal:V→V→Bool
 | .non,.non=>true | .non,.int _=>true | .int _,.non=>true | .non,.bl _=>true | .bl _,.non=>true | .non,.str _=>true | .str _,.non=>true
 | .int _,.int _=>true | .bl _,.bl _=>true | .str _,.str _=>true | .byt _,.byt _=>true
 | .int _,.str _=>true | .str _,.int _=>true | .bl _,.str _=>true | .str _,.bl _=>true
 | _,_=>false
noncomputable def rEq:R2:=fun x y H Q=>scal x y=true∧Q (.bl (decide (x=y))) H
noncomputable def rNe:R2:=fun x y H Q=>scal x y=true∧Q (.bl (!decide (x=y))) H
theorem dec_int {i j:Int}:decide (V.int i=V.int j)=(i == j):=by
 rw [Y4];simp
theorem dec_bl {i j:Bool}:decide (V.bl i=V.bl j)=(i == j):=by
 rw [Y4];simp
theorem dec_str {i j:Str}:decide (V.str i=V.str j)=(i == j):=by
 rw [Y4];simp
theorem dec_byt {i j:Array UInt8}:decide (V.byt i=V.byt j)=(i.toList == j.toList):=by
 rw [Y4];cases i;cases j;simp
section
variable {X:Cx}{a b c:Expr}{ta tb tc:TE}{pos:Pos}
theorem zAx {pins:List (Addr×Obj)}{σ : St}{H:Hp}{s:Shared}{Q:VK}{k k':Bool} (I:Inv X pins σ H s) (q:Q (.bl k) H) (e:k=k'):EP X pins σ Q (.bool k') s:=by
 subst e;exact ⟨.bl k,H,I,rfl,q⟩
theorem zBa:OpR X (compareOp .Eq) rEq:=by
 intro pins s σ H x y v u Q I rx ry h;obtain ⟨hs,q⟩:=h;cases x with
 | non =>
  cases rx;cases y with
  | non=>cases ry;exact PySem.EqNone.eq_none_none (zAx I q (by simp))
  | bl j=>cases ry;exact PySem.EqNone.eq_none_bool (zAx I q (by simp))
  | int j=>obtain ⟨t',rfl⟩:=ry;exact PySem.EqNone.eq_none_int (zAx I q (by simp))
  | str j=>obtain ⟨t',rfl⟩:=ry;exact PySem.EqNone.eq_none_str (zAx I q (by simp))
  | _=>exact absurd (show false=true from hs) Zc
 | bl i =>
  cases rx;cases y with
  | non=>cases ry;exact PySem.EqNone.eq_bool_none (zAx I q (by simp))
  | bl j=>cases ry;exact eq_bool (zAx I q dec_bl)
  | str j=>obtain ⟨t',rfl⟩:=ry;exact PySem.EqMixed.eq_bool_str (zAx I q (by simp))
  | _=>exact absurd (show false=true from hs) Zc
 | int i =>
  obtain ⟨t,rfl⟩:=rx;cases y with
  | non=>cases ry;exact PySem.EqNone.eq_int_none (zAx I q (by simp))
  | int j=>obtain ⟨t',rfl⟩:=ry;exact eq_int (zAx I q dec_int)
  | str j=>obtain ⟨t',rfl⟩:=ry;exact PySem.EqMixed.eq_int_str (zAx I q (by simp))
  | _=>exact absurd (show false=true from hs) Zc
 | str i =>
  obtain ⟨t,rfl⟩:=rx;cases y with
  | non=>cases ry;exact PySem.EqNone.eq_str_none (zAx I q (by simp))
  | bl j=>cases ry;exact PySem.EqMixed.eq_str_bool (zAx I q (by simp))
  | int j=>obtain ⟨t',rfl⟩:=ry;exact PySem.EqMixed.eq_str_int (zAx I q (by simp))
  | str j=>obtain ⟨t',rfl⟩:=ry;exact eq_str (zAx I q dec_str)
  | _=>exact absurd (show false=true from hs) Zc
 | byt i =>
  obtain ⟨t,rfl⟩:=rx;cases y with
  | byt j=>obtain ⟨t',rfl⟩:=ry;exact PySem.W.eq_bytes (zAx I q dec_byt)
  | _=>exact absurd (show false=true from hs) Zc
 | _=>cases y <;> exact absurd (show false=true from hs) Zc
theorem op_ne:OpR X (compareOp .NotEq) rNe:=by
 intro pins s σ H x y v u Q I rx ry h;obtain ⟨hs,q⟩:=h;cases x with
 | non =>
  cases rx;cases y with
  | non=>cases ry;exact PySem.EqNone.ne_none_none (zAx I q (by simp))
  | bl j=>cases ry;exact PySem.EqNone.ne_none_bool (zAx I q (by simp))
  | int j=>obtain ⟨t',rfl⟩:=ry;exact PySem.EqNone.ne_none_int (zAx I q (by simp))
  | str j=>obtain ⟨t',rfl⟩:=ry;exact PySem.EqNone.ne_none_str (zAx I q (by simp))
  | _=>exact absurd (show false=true from hs) Zc
 | bl i =>
  cases rx;cases y with
  | non=>cases ry;exact PySem.EqNone.ne_bool_none (zAx I q (by simp))
  | bl j=>cases ry;exact ne_bool (zAx I q (congrArg not dec_bl))
  | str j=>obtain ⟨t',rfl⟩:=ry;exact PySem.EqMixed.ne_bool_str (zAx I q (by simp))
  | _=>exact absurd (show false=true from hs) Zc
 | int i =>
  obtain ⟨t,rfl⟩:=rx;cases y with
  | non=>cases ry;exact PySem.EqNone.ne_int_none (zAx I q (by simp))
  | int j=>obtain ⟨t',rfl⟩:=ry;exact ne_int (zAx I q (congrArg not dec_int))
  | str j=>obtain ⟨t',rfl⟩:=ry;exact PySem.EqMixed.ne_int_str (zAx I q (by simp))
  | _=>exact absurd (show false=true from hs) Zc
 | str i =>
  obtain ⟨t,rfl⟩:=rx;cases y with
  | non=>cases ry;exact PySem.EqNone.ne_str_none (zAx I q (by simp))
  | bl j=>cases ry;exact PySem.EqMixed.ne_str_bool (zAx I q (by simp))
  | int j=>obtain ⟨t',rfl⟩:=ry;exact PySem.EqMixed.ne_str_int (zAx I q (by simp))
  | str j=>obtain ⟨t',rfl⟩:=ry;exact ne_str (zAx I q (congrArg not dec_str))
  | _=>exact absurd (show false=true from hs) Zc
 | byt i =>
  obtain ⟨t,rfl⟩:=rx;cases y with
  | byt j=>obtain ⟨t',rfl⟩:=ry;exact PySem.W.ne_bytes (zAx I q (congrArg not dec_byt))
  | _=>exact absurd (show false=true from hs) Zc
 | _=>cases y <;> exact absurd (show false=true from hs) Zc
theorem op_lt:OpR X (compareOp .Lt) (rI0 fun i j=>.bl (decide (i < j))):=opB0 fun _ _ _ _ _ _ _ q=>lt_int q
theorem op_le:OpR X (compareOp .LtE) (rI0 fun i j=>.bl (decide (i≤j))):=opB0 fun _ _ _ _ _ _ _ q=>le_int q
theorem op_gt:OpR X (compareOp .Gt) (rI0 fun i j=>.bl (decide (j < i))):=opB0 fun _ _ _ _ _ _ _ q=>gt_int q
theorem op_in_str:OpR X (compareOp .In) (fun x y H Q=>∃ i j,x=.str i∧y=.str j∧Q (.bl (!(Builtin.Str.occurrences j i 0 j.length 1).isEmpty)) H):=by
 intro pins s σ H x y v u Q I rx ry h;obtain ⟨i,j,rfl,rfl,q⟩:=h;obtain ⟨t,rfl⟩:=rx;obtain ⟨t',rfl⟩:=ry;exact in_str (zAx I q rfl)
theorem op_isN:OpR X (compareOp .Is) (fun x y H Q=>y=.non∧Q (.bl (decide (x=.non))) H):=by
 intro pins s σ H x y v u Q I rx ry h;obtain ⟨rfl,q⟩:=h;cases ry;refine is_none_gen (zAx I q ?_)
 cases x <;> first
  | (cases rx;rfl)
  | (obtain ⟨t,rfl⟩:=rx;rfl)
theorem zCj:OpR X (compareOp .IsNot) (fun x y H Q=>y=.non∧Q (.bl (!decide (x=.non))) H):=by
 intro pins s σ H x y v u Q I rx ry h;obtain ⟨rfl,q⟩:=h;cases ry;refine isnot_none_gen (zAx I q ?_)
 cases x <;> first
  | (cases rx;rfl)
  | (obtain ⟨t,rfl⟩:=rx;rfl)
theorem nomark (b:Expr) {op:CmpOp} (h:op≠.In:=by decide) (h2:op≠.NotIn:=by decide):behindInMarks op b=false:=by
 have e1:(op == CmpOp.In)=false:=by cases op <;> first | rfl | exact absurd rfl h
 have e2:(op == CmpOp.NotIn)=false:=by cases op <;> first | rfl | exact absurd rfl h2
 cases b <;> simp [behindInMarks,e1,e2]
theorem zAq {op:CmpOp}{r:R2} (ho:OpR X (compareOp op) r) (ha:PE X a ta) (hb:PE X b tb) (hm:behindInMarks op b=false):PE X (.Compare a [op] [b] pos) (tOp r ta tb):=by
 intro pins s σ H Q I h;exact wpAny_Compare1 (binT ha hb I h fun v u s2 x y H2 I2 rx ry q=>ho pins s2 σ H2 x y v u Q I2 rx ry q) hm
noncomputable def tTest (t:TE):TT:=fun σ H Q=>t σ H fun x H'=>∃ k,x=.bl k∧Q k H'
theorem zAg {op:CmpOp}{r:R2} (ho:OpR X (compareOp op) r) (ha:PE X a ta) (hb:PE X b tb) (hm:behindInMarks op b=false):PT X (.Compare a [op] [b] pos) (tTest (tOp r ta tb)):=by
 intro pins s σ H Q I h
 refine wpAny_isTrue_Compare1 (thn (ha pins s σ H _ I h) fun v s1 ⟨x,H1,I1,r1,q1⟩=>thn (hb pins s1 σ H1 _ I1 q1) fun u s2 ⟨y,H2,I2,r2,q2⟩ =>
  thn (ho pins s2 σ H2 x y v u _ I2 r1 r2 q2) fun c s3 ⟨z,H3,I3,r3,k,e,q3⟩=>?_) hm
 subst e;cases r3;exact wpAny_truthy_bool ⟨H3,I3,q3⟩
noncomputable def tChain (r r':R2) (ta tb tc:TE):TE:=fun σ H Q=>ta σ H fun x H1=>tb σ H1 fun y H2=>r x y H2 fun z H3=>∃ k,z=.bl k ∧
 (if k=true then tc σ H3 fun w' H4=>r' y w' H4 Q else Q (.bl false) H3)
theorem zF4 {op op':CmpOp}{r r':R2} (ho:OpR X (compareOp op) r) (ho':OpR X (compareOp op') r') (ha:PE X a ta) (hb:PE X b tb) (hc:PE X c tc)
  (hm:lastMarks [op,op'] [b,c]=false:=by with_unfolding_all rfl):PE X (.Compare a [op,op'] [b,c] pos) (tChain r r' ta tb tc):=by
 intro pins s σ H Q I h
 refine Compare_chain (thn (ha pins s σ H _ I h) fun v s1 ⟨x,H1,I1,r1,q1⟩=>chain_link (thn (hb pins s1 σ H1 _ I1 q1) fun u s2 ⟨y,H2,I2,r2,q2⟩ =>
  thn (ho pins s2 σ H2 x y v u _ I2 r1 r2 q2) fun d s3 ⟨z,H3,I3,r3,k,e,q3⟩=>?_)) hm
 subst e;cases r3;refine wpAny_truthy_bool ?_;cases k with
 | false=>exact ite_ff ⟨.bl false,H3,I3,rfl,q3⟩
 | true=>exact ite_tt (chain_last (thn (hc pins s3 σ H3 _ I3 q3) fun w' s4 ⟨z',H4,I4,r4,q4⟩=>ho' pins s4 σ H4 y z' u w' Q I4 r2 r4 q4))
noncomputable def TruV (K:PySem.W.Frag) (x:V) (H:Hp) (k:Bool):Prop :=
 match x with
 | .non=>k=false
 | .bl b=>k=b
 | .int i=>k=(i != 0)
 | .str y=>y.length≤sizeLine∧k=((y.length:Int) != 0)
 | .byt y=>y.size≤sizeLine∧k=((y.size:Int) != 0)
 | .ref p=>(∃ xs,SqL K H p xs∧k = !xs.isEmpty)∨(∃ xs,SqT K H p xs∧k = !xs.isEmpty)∨∃ kvs,H p=some (.dK kvs)∧k = !kvs.isEmpty
 | _=>False
theorem isEmpty_kv {κ : Type}{kvs:List (κ×V)}{vs:List (κ×Value)} (r:KV kvs vs):(!vs.isEmpty) = !kvs.isEmpty:=by
 cases r <;> rfl
theorem zEr {xs:List V}{its:List Value} (r:Vals xs its):(!its.toArray.isEmpty) = !xs.isEmpty:=by
 cases r <;> simp
theorem line63:(sizeLine:Nat) < 2 ^ 63:=by rw [sizeLine_eq];decide
theorem tru_ok:TruR X (fun x H Q=>∃ k,TruV X.K x H k∧Q k H):=by
 intro pins s σ H x v Q I rx h;obtain ⟨k,e,q⟩:=h;have hl:=line63;have hs:sizeLine=16777216:=sizeLine_eq;cases x with
 | non =>
  cases rx;have e':k=false:=e;subst e';exact truthy_none ⟨H,I,q⟩
 | bl b =>
  cases rx;have e':k=b:=e;subst e';exact wpAny_truthy_bool ⟨H,I,q⟩
 | int i =>
  obtain ⟨t,rfl⟩:=rx;have e':k=(i != 0):=e;subst e';exact PySem.P.truthy_int ⟨H,I,q⟩
 | str y =>
  obtain ⟨t,rfl⟩:=rx;obtain ⟨hy,e'⟩:y.length≤sizeLine∧k=((y.length:Int) != 0):=e;subst e';exact PySem.P.truthy_str (by omega) ⟨H,I.tok _,q⟩
 | byt y =>
  obtain ⟨t,rfl⟩:=rx;obtain ⟨hy,e'⟩:y.size≤sizeLine∧k=((y.size:Int) != 0):=e;subst e';exact PySem.W.truthy_bytes (by omega) ⟨H,I.tok _,q⟩
 | ref p =>
  cases rx;have e':(∃ xs,SqL X.K H p xs∧k = !xs.isEmpty)∨(∃ xs,SqT X.K H p xs∧k = !xs.isEmpty)∨∃ kvs,H p=some (.dK kvs)∧k = !kvs.isEmpty:=e;rcases e' with ⟨xs,hx,e'⟩ | ⟨xs,hx,e'⟩ | ⟨kvs,hx,e'⟩
  ·subst e';obtain ⟨its,r,pl,hz⟩:=I.list hx;have hlen:=r.length;exact wpAny_truthy_list pl.isList (by simp only [Z8];omega) ⟨H,I.tok _,by rw [zEr r];exact q⟩
  ·subst e';obtain ⟨its,r,pl,hz⟩:=I.tuple hx;have hlen:=r.length;exact truthy_tuple pl (by simp only [Z8];omega) ⟨H,I.tok _,by rw [zEr r];exact q⟩
  ·subst e';obtain ⟨hz,hS,vs,r,m⟩:kvs.length≤sizeLine∧(p == sysModules)=false∧∃ vs,KV kvs vs∧s.heap.DictOf (mixKind X.prog X.w) p vs:=I.hok p _ hx;have hlen:kvs.length=vs.length:=Paired.length r;exact wpAny_truthy_dict hS m (by omega) ⟨H,I.tok _,by rw [isEmpty_kv r];exact q⟩
 | _=>exact (show False from e).elim
theorem zF0 (ha:PE X a ta) (he:∀ whole,isTrue a X.env whole=(do let v ← whole;standAt a.pos;holding [v] (truthy v))) :
  PT X a (fun σ H Q=>ta σ H fun x H'=>∃ k,TruV X.K x H' k∧Q k H'):=by
 intro pins s σ H Q I h;exact isTrue_plain (thn (ha pins s σ H _ I h) fun v s1 ⟨x,H1,I1,r1,q1⟩=>tru_ok pins s1 σ H1 x v Q I1 r1 q1) (he _)
theorem vals1 {x:V}{us:List Value} (r:Vals [x] us):∃ u,us=[u]∧RelV x u:=by
 cases r with
 | cons r1 r2=>cases r2;exact ⟨_,rfl,r1⟩
theorem vals2 {x y:V}{us:List Value} (r:Vals [x,y] us):∃ u w',us=[u,w']∧RelV x u∧RelV y w':=by
 cases r with
 | cons r1 r2 =>
  cases r2 with
  | cons r3 r4=>cases r4;exact ⟨_,_,rfl,r1,r3⟩
theorem call_min2 (hc:X.calm=true):CallR X (.builtin "min") (fun xs H Q=>∃ i j,xs=[.int i,.int j]∧Q (.int (if j < i then j else i)) H):=by
 intro pins s σ H xs us Q I r h;obtain ⟨i,j,rfl,q⟩:=h;obtain ⟨u,w',rfl,⟨t,rfl⟩,⟨t',rfl⟩⟩:=vals2 r;refine min_two_ints (I.ok.hd hc) fun h' tk k=>⟨_,H,I.kept k,?_,q⟩;by_cases hj:j < i
 ·rw [if_pos hj,if_pos hj];exact ⟨_,rfl⟩
 ·rw [if_neg hj,if_neg hj];exact ⟨_,rfl⟩
theorem zEc:CallR X (.type "int") (fun xs H Q=>(∃ i,xs=[.int i]∧Q (.int i) H)∨∃ k,xs=[.bl k]∧Q (.int (if k then 1 else 0)) H):=by
 intro pins s σ H xs us Q I r h;rcases h with ⟨i,rfl,q⟩ | ⟨k,rfl,q⟩
 ·obtain ⟨u,rfl,t,rfl⟩:=vals1 r;exact call_int_int ⟨.int i,H,I,⟨_,rfl⟩,q⟩
 ·obtain ⟨u,rfl,r1⟩:=vals1 r;cases r1;exact call_int_bool ⟨.int (if k then 1 else 0),H,I.tok _,⟨_,rfl⟩,q⟩
end
end L2
namespace L2
open PySem PySem.Spec PyProof.Rows
structure ObjM (h:Heap) (x dx C:Addr) (mA:Str→Option Value):Prop where
 obj:h.get? x=some (PySem.W.instObj C dx)
 ns:h.Ns1 dx mA
 ne:dx≠x
theorem lookIn_ns {h:Heap}{dx:Addr}{mA:Str→Option Value} (n:h.Ns1 dx mA):∃ od,h.get? dx=some od∧∀ name,PySem.W.lookIn name od=some (mA name):=by
 obtain ⟨o,es,ep,ho,hd,hk,_,hm⟩:=n;refine ⟨o,ho,fun name=>?_⟩;have e:=hm name;unfold nsFind findBy at e;rw [← Array.find?_toList] at e;unfold PySem.W.lookIn;rw [hd];dsimp only;split
 ·rename_i y q
  rw [q] at e;exact congrArg some e
 ·rename_i q
  rw [q] at e;have a:es.toList.any (·.refKey)=false:=by
   rw [List.any_eq_false];intro y hy;obtain ⟨z,t,hkey⟩:=hk y (Array.mem_toList_iff.mp hy);simp [DictEntry.refKey,hkey]
  have a':¬ es.toList.any (·.refKey)=true:=by rw [a];exact Zc
  rw [if_neg a'];exact congrArg some e
theorem ObjM.look {h:Heap}{x dx C:Addr}{mA:Str→Option Value} (I:ObjM h x dx C mA):∃ od,PySem.W.InstAt h x (PySem.W.instObj C dx) C (some od)∧∀ name,PySem.W.lookIn name od=some (mA name) :=
 let ⟨od,ho,hl⟩:=lookIn_ns I.ns
 ⟨od,⟨I.obj,rfl,rfl,ho⟩,hl⟩
section
variable {prog:Program}{w:World}{A:Around}{E:Value→Shared→Prop}{s:Shared}{K:PySem.W.Frag}{x dx C f:Addr}{mA:Str→Option Value}{name:Str}{v:Value}
theorem get_map {expr:Bool}{Q:Value→Shared→Prop} (X:K.In s.heap) (I:ObjM s.heap x dx C mA) (hg:PySem.W.plainGet K C name=true) (hh:PySem.W.hasDictIn K C=true)
  (ha:PySem.W.findIn K (.ref C) name=some none) (hv:mA name=some v) (hv':PySem.W.handedIn v=true) (h:Q v { s with toks:=s.toks + 1 }) :
  wpAny (model prog w) A (getAttr (.ref x) name expr) Q E s:=by
 obtain ⟨od,J,hl⟩:=I.look;exact PySem.W.get_value X J (PySem.W.plainGet_of hg).1 (PySem.W.findObj_own hh ha rfl (by rw [hl,hv])) hv' h
theorem get_meth {pl:Sem Bool}{Q:Value×List Value→Shared→Prop} (X:K.In s.heap) (I:ObjM s.heap x dx C mA) (hg:PySem.W.plainGet K C name=true)
  (hf:PySem.W.findIn K (.ref C) name=some (some (.ref f))) (ht:PySem.W.isFn K (.ref f)=true) (hv:mA name=none) (h:Q (.ref f,[.ref x]) s) :
  wpAny (model prog w) A (getMethod (.ref x) name pl) Q E s:=by
 obtain ⟨od,J,hl⟩:=I.look;exact PySem.W.method_fn X J (PySem.W.plainGet_of hg).1 (PySem.W.plainGet_of hg).2 hf (beq_iff_eq.mp ht) (by show (PySem.W.lookIn name od).map (·.isSome)=some false;rw [hl,hv];rfl) h
theorem set_map {ns:List Str}{Q:Unit→Shared→Prop} (X:K.In s.heap) (I:ObjM s.heap x dx C mA)
  (hs:PySem.W.findIn K (.ref C) "__setattr__" = some (some (.builtin "object.__setattr__"))) (hp:PySem.W.plainOver K C=true) (ht:PySem.W.takerIn K C name=some none) (hh:PySem.W.hasDictIn K C=true)
  (hw:PySem.Within mA ns) (hsz:ns.length≤sizeLine)
  (h:∀ h',ObjM h' x dx C (fun y=>if y=name then some v else mA y)→Heap.SameBut dx s.heap h'→Q () { s with heap:=h',toks:=s.toks + 2 }) :
  wpAny (model prog w) A (setAttr (.ref x) name v) Q E s:=by
 obtain ⟨od,J,hl⟩:=I.look;refine PySem.W.set_plain X J hs (PySem.W.osa_open (s:={ s with toks:=s.toks + 1 }) (r:=none) X J hp ht fun b=>?_);obtain ⟨cd,hc,hd'⟩:=PySem.W.any_some hh;have hx:s.heap.get? x=some ⟨.ref C,some dx,.plain,#[]⟩:=I.obj;refine wpAny_bind (wpAny_pure (wpAny_bind (wpAny_bind (wpAny_loadPart hx (wpAny_bind (PySem.W.Looks.here (s:={ s with toks:=s.toks + 1 }) (PySem.W.looks_clsIn X hc) ?_))))));rw [hd'];refine wpAny_pure (a:=some dx) (wpAny_bind (wpAny_pure (wpAny_bind ?_)));refine wpAny_nsSet1 (s:={ s with toks:=s.toks + 1 }) I.ns fun h' hn2 hs2=>?_;obtain ⟨oD,esD,epD,hoD,hdD,hcD⟩:=hn2.count (PySem.Within.cons name v hw);refine wpAny_bind (wpAny_lookBehind hoD (by rw [hdD];exact pastItsLine_dict (Zm hcD (by rw [Zi];omega))) ?_);exact wpAny_pure (h _ ⟨(hs2.2 _ (Ne.symm I.ne)).trans I.obj,hn2,I.ne⟩ hs2)
theorem make_map {R:Result→Shared→Prop}{vs:List Value}{kw:List (Str×Value)} (X:K.In s.heap) (hm:PySem.W.makesIn K C=true)
  (hi:PySem.W.findIn K (.ref C) "__init__" = some (some (.ref f))) (hf:PySem.W.typeIn K (.ref f)=some (.type "function"))
  (h:codeAny (model prog w) (A.under (.builtin "type.__call__" ⟨.ref C :: vs,kw⟩)) (.call (.ref f) ⟨.ref (s.heap.objs.size + 1) :: vs,kw⟩) (PySem.W.InitBack (s.heap.objs.size + 1) R)
   { s with heap:=(s.heap.push PySem.W.emptyDict).push (PySem.W.instObj C s.heap.objs.size) }) :
  codeAny (model prog w) A (.call (.ref C) ⟨vs,kw⟩) R s:=by
 obtain ⟨hh,g,d,t,os⟩:=s;exact PySem.W.make_core (PySem.W.makes_of X hm) (PySem.W.looks_findIn X hi) (fun self=>PySem.W.bind_fn X self hf) (.inl rfl) h
theorem make_map0 {R:Result→Shared→Prop} (X:K.In s.heap) (hm:PySem.W.makesIn K C=true)
  (hi:PySem.W.findIn K (.ref C) "__init__" = some (some (.builtin "object.__init__")))
  (hb:∀ self,PySem.W.Looks (model prog w) s.heap (bindSpecial (.builtin "object.__init__") self) (.builtin "object.__init__",[self]))
  (h:codeAny (model prog w) (A.under (.builtin "type.__call__" ⟨[.ref C],[]⟩)) (.call (.builtin "object.__init__") ⟨[.ref (s.heap.objs.size + 1)],[]⟩) (PySem.W.InitBack (s.heap.objs.size + 1) R)
   { s with heap:=(s.heap.push PySem.W.emptyDict).push (PySem.W.instObj C s.heap.objs.size) }) :
  codeAny (model prog w) A (.call (.ref C) ⟨[],[]⟩) R s:=by
 obtain ⟨hh,g,d,t,os⟩:=s;exact PySem.W.make_core (PySem.W.makes_of X hm) (PySem.W.looks_findIn X hi) hb (.inr ⟨rfl,rfl⟩) h
end
noncomputable def putF (f:Str) (v:V):List (Str×V)→List (Str×V)
 | []=>[(f,v)]
 | (g,x) :: r=>if g=f then (g,v) :: r else (g,x) :: putF f v r
theorem zAc (f g:Str) (v:V):∀ fs:List (Str×V),(putF f v fs).lookup g=if g=f then some v else fs.lookup g
 | []=>by
  show List.lookup g [(f,v)]=_;by_cases h:g=f
  ·have hb:(g == f)=true:=beq_iff_eq.mpr h;simp only [List.lookup,hb,if_pos h]
  ·have hb:(g == f)=false:=beq_eq_false_iff_ne.mpr h;simp only [List.lookup,hb,if_neg h]
 | (k,x) :: r=>by
  have ih:=zAc f g v r;rw [show putF f v ((k,x) :: r)=(if k=f then (k,v) :: r else (k,x) :: putF f v r) from rfl];by_cases hk:k=f
  ·rw [if_pos hk];by_cases h:g=k
   ·have hb:(g == k)=true:=beq_iff_eq.mpr h;simp only [List.lookup,hb,if_pos (h.trans hk)]
   ·have hb:(g == k)=false:=beq_eq_false_iff_ne.mpr h;simp only [List.lookup,hb,if_neg (fun e:g=f=>h (e.trans hk.symm))]
  ·rw [if_neg hk];by_cases h:g=k
   ·have hb:(g == k)=true:=beq_iff_eq.mpr h;simp only [List.lookup,hb,if_neg (fun e:g=f=>hk (h.symm.trans e))]
   ·have hb:(g == k)=false:=beq_eq_false_iff_ne.mpr h;simp only [List.lookup,hb];exact ih
theorem zE5 (f:Str) (v:V):∀ fs:List (Str×V),f∈(putF f v fs).map (·.1)∧∀ g,g∈fs.map (·.1)→g∈(putF f v fs).map (·.1)
 | []=>⟨by simp [putF],fun g h=>by simp at h⟩
 | (k,x) :: r=>by
  obtain ⟨i1,i2⟩:=zE5 f v r;rw [show putF f v ((k,x) :: r)=(if k=f then (k,v) :: r else (k,x) :: putF f v r) from rfl];by_cases hk:k=f
  ·rw [if_pos hk];subst hk;exact ⟨by simp,fun g h=>by simpa using h⟩
  ·rw [if_neg hk];refine ⟨?_,fun g h=>?_⟩
   ·rw [Zt];exact Zh _ i1
   ·rw [Zt] at h ⊢;rcases List.mem_cons.mp h with e | e
    ·exact List.mem_cons.mpr (.inl e)
    ·exact Zh _ (i2 g e)
theorem zD0 (f:Str) (v:V):∀ fs:List (Str×V),(putF f v fs).length≤fs.length + 1
 | []=>by simp [putF]
 | (k,x) :: r=>by
  have ih:=zD0 f v r;rw [show putF f v ((k,x) :: r)=(if k=f then (k,v) :: r else (k,x) :: putF f v r) from rfl];by_cases hk:k=f
  ·rw [if_pos hk,Zi,Zi];omega
  ·rw [if_neg hk,Zi,Zi];omega
theorem RelO.some_of {v:V}{o:Option Value} (r:RelO (some v) o):∃ u,o=some u∧RelV v u:=by
 cases o with
 | none=>exact (show False from r).elim
 | some u=>exact ⟨u,rfl,r⟩
theorem RelO.none_of {o:Option Value} (r:RelO none o):o=none:=by
 cases o with
 | none=>rfl
 | some u=>exact (show False from r).elim
theorem handed_of {v:V}{u:Value} (r:RelV v u):PySem.W.handedIn u=true:=by
 cases v with
 | non=>cases (show u=Value.none from r);rfl
 | bl b=>cases (show u=Value.bool b from r);rfl
 | int i=>obtain ⟨t,e⟩:=(show ∃ t,u=Value.int i t from r);cases e;rfl
 | str x=>obtain ⟨t,e⟩:=(show ∃ t,u=Value.str x t from r);cases e;rfl
 | byt b=>obtain ⟨t,e⟩:=(show ∃ t,u=Value.bytes b t from r);cases e;rfl
 | flt b=>obtain ⟨t,e⟩:=(show ∃ t,u=Value.float b t from r);cases e;rfl
 | ref a=>cases (show u=Value.ref a from r);rfl
 | ty n=>cases (show u=Value.type n from r);rfl
section
variable {P:Program}{w:World}{H H':Hp}{h h':Heap}{a C dx:Addr}{fs fs':List (Str×V)}
theorem zE7 (hok:HOk P w H h) (e:H a=some (.ins C dx fs)):∃ mA,ObjM h a dx C mA∧(∀ f,RelO (fs.lookup f) (mA f))∧PySem.Within mA (fs.map (·.1))∧fs.length≤1000∧H dx=some (.own a):=by
 obtain ⟨d,z,ne,ob,mA,n,r,q⟩:=(show ObjOk P w H h a (.ins C dx fs) from hok a _ e);exact ⟨mA,⟨ob,n,ne⟩,r,q,z,d⟩
end
structure Cls (K:PySem.W.Frag) (C:Addr):Prop where
 pg:PySem.W.plainGet K C Str.empty=true
 hd:PySem.W.hasDictIn K C=true
 po:PySem.W.plainOver K C=true
 sa:PySem.W.findIn K (.ref C) "__setattr__" = some (some (.builtin "object.__setattr__"))
theorem Cls.get {K:PySem.W.Frag}{C:Addr} (c:Cls K C) (f:Str):PySem.W.plainGet K C f=true:=c.pg
noncomputable def NoAttr (K:PySem.W.Frag) (C:Addr) (f:Str):Prop:=PySem.W.findIn K (.ref C) f=some none
theorem NoAttr.taker {K:PySem.W.Frag}{C:Addr}{f:Str} (n:NoAttr K C f):PySem.W.takerIn K C f=some none:=by
 unfold PySem.W.takerIn;rw [show PySem.W.findIn K (.ref C) f=some none from n];rfl
structure Meth (K:PySem.W.Frag) (C:Addr) (m:Str) (f:Addr):Prop where
 at_:PySem.W.findIn K (.ref C) m=some (some (.ref f))
 fn:PySem.W.isFn K (.ref f)=true
 kp:PySem.W.keepIn K (.ref f)=true
section
variable {X:Cx}{pins:List (Addr×Obj)}{σ : St}{H:Hp}{s:Shared}{a C dx:Addr}{fs:List (Str×V)}{f:Str}{v:V}{A:Around}{E:Value→Shared→Prop}
theorem getattr_ok {b:Bool}{Q:Value→Shared→Prop} (I:Inv X pins σ H s) (e:H a=some (.ins C dx fs)) (c:Cls X.K C) (n:NoAttr X.K C f) (l:fs.lookup f=some v)
  (h:∀ u s',Inv X pins σ H s'→RelV v u→Q u s'):wpAny (model X.prog X.w) A (getAttr (.ref a) f b) Q E s:=by
 obtain ⟨mA,O,r,_,_,_⟩:=zE7 I.hok e;obtain ⟨u,hu,ru⟩:=RelO.some_of (v:=v) (o:=mA f) (by rw [← l];exact r f);exact get_map I.kIn O (c.get f) c.hd n hu (handed_of ru) (h u _ (I.tok _) ru)
theorem zDj {m:Str}{g:Addr}{pl:Sem Bool}{Q:Value×List Value→Shared→Prop} (I:Inv X pins σ H s) (e:H a=some (.ins C dx fs)) (c:Cls X.K C) (k:Meth X.K C m g) (l:fs.lookup m=none)
  (h:Q (.ref g,[.ref a]) s):wpAny (model X.prog X.w) A (getMethod (.ref a) m pl) Q E s:=by
 obtain ⟨mA,O,r,_,_,_⟩:=zE7 I.hok e;have hn:mA m=none:=RelO.none_of (by rw [← l];exact r m);exact get_meth I.kIn O (c.get m) k.at_ k.fn hn h
theorem setattr_ok {y:V}{u:Value}{Q:Unit→Shared→Prop} (I:Inv X pins σ H s) (e:H a=some (.ins C dx fs)) (c:Cls X.K C) (n:NoAttr X.K C f) (hl:fs.length < 1000) (ry:RelV y u)
  (h:∀ s',Inv X pins σ (upd H a (.ins C dx (putF f y fs))) s'→Q () s'):wpAny (model X.prog X.w) A (setAttr (.ref a) f u) Q E s:=by
 obtain ⟨mA,O,r,wi,_,ho⟩:=zE7 I.hok e;have hz:(fs.map (·.1)).length≤sizeLine:=by rw [Z0,sizeLine_eq];omega
 refine set_map I.kIn O c.sa c.po n.taker c.hd wi hz fun h' O' sb=>h _ ?_;have hd:∃ o,h'.get? dx=some o:=let ⟨o,_,_,e',_⟩:=O'.ns;⟨o,e'⟩;refine I.write (x:=a) (e:=dx) (by rw [e];exact True.intro) (.inr ho) (fun b q hb z=>(sb.2 b hb).trans z) hd ?_;refine ⟨by rw [zAa O.ne];exact ho,?_,O.ne,O'.obj,_,O'.ns,fun g=>?_,fun g hg=>?_⟩
 ·have:=zD0 f y fs;omega
 ·show RelO ((putF f y fs).lookup g) (if g=f then some u else mA g);rw [zAc];by_cases q:g=f
  ·rw [if_pos q,if_pos q];exact ry
  ·rw [if_neg q,if_neg q];exact r g
 ·by_cases q:g=f
  ·rw [q];exact (zE5 f y fs).1
  ·refine (zE5 f y fs).2 g (wi g fun z=>hg ?_);show (if g=f then some u else mA g)=none;rw [if_neg q];exact z
theorem Inv.made (I:Inv X pins σ H s):Inv X pins σ (upd (upd H s.heap.objs.size (.own (s.heap.objs.size + 1))) (s.heap.objs.size + 1) (.ins C s.heap.objs.size []))
  { s with heap:=(s.heap.push PySem.W.emptyDict).push (PySem.W.instObj C s.heap.objs.size) }:=by
 have e1:(s.heap.push PySem.W.emptyDict).get? s.heap.objs.size=some PySem.W.emptyDict:=Za s.heap rfl;have e2:((s.heap.push PySem.W.emptyDict).push (PySem.W.instObj C s.heap.objs.size)).get? (s.heap.objs.size + 1)=some (PySem.W.instObj C s.heap.objs.size):=by
  have:=Za (s.heap.push PySem.W.emptyDict) (o:=PySem.W.instObj C s.heap.objs.size) rfl
  rwa [Y3] at this
 have e3:(s.heap.push PySem.W.emptyDict).Ns s.heap.objs.size (fun _=>none):=⟨PySem.W.emptyDict,#[],_,e1,rfl,(fun e he=>absurd he (by simp)),fun _=>rfl⟩;have I1:=I.laid (a:=s.heap.objs.size) (o:=.own (s.heap.objs.size + 1)) (h':=s.heap.push PySem.W.emptyDict) (t':=s.toks) (fun b u q=>Z2 _ q) (Z7 _) ⟨_,e1⟩;refine I1.laid (a:=s.heap.objs.size + 1) (o:=.ins C s.heap.objs.size []) (t':=s.toks) (fun b u q=>Z2 _ q) (Nat.le_of_eq (Y3 _ _)) ?_;have ne:s.heap.objs.size≠s.heap.objs.size + 1:=Ze (Ye _);refine ⟨by rw [zAa ne,zA1],Zj _,ne,e2,fun _=>none,(Heap.Ns1.of_empty e3).at fun o q=>Z2 _ q,fun _=>True.intro,fun y hy=>absurd rfl hy⟩
theorem attr_of {prog:Program}{w:World}{env:Env}{e:Expr}{f:Str}{pos:Pos}{s:Shared}{Q:Value→Shared→Prop} (hb:attributeBase e f env (eval e env)=eval e env)
  (h:wpAny (model prog w) A (eval e env) (fun o s₁=>wpAny (model prog w) A (getAttr o f true) Q E s₁) E s):wpAny (model prog w) A (eval (.Attribute e f pos) env) Q E s :=
 Attribute_any_ h (by rw [arm_eval_Attribute,hb])
end
noncomputable def tFld (K:PySem.W.Frag) (ta:TE) (f:Str):TE:=fun σ H Q=>ta σ H fun x H1=>∃ a C dx fs v,x=.ref a∧H1 a=some (.ins C dx fs)∧Cls K C∧NoAttr K C f∧fs.lookup f=some v∧Q v H1
noncomputable def sFld (K:PySem.W.Frag) (ta tv:TE) (f:Str):TS:=fun D σ H=>tv σ H fun y H1=>ta σ H1 fun x H2=>∃ a C dx fs,x=.ref a∧H2 a=some (.ins C dx fs)∧Cls K C∧NoAttr K C f∧fs.length < 1000 ∧
 D.nx σ (upd H2 a (.ins C dx (putF f y fs)))
section
variable {X:Cx}{o e value:Expr}{f:Str}{pos pos' tpos:Pos}{ta tv:TE}
theorem zAw (he:PE X e ta) (hb:attributeBase e f X.env (eval e X.env)=eval e X.env):PE X (.Attribute e f pos) (tFld X.K ta f):=by
 intro pins s σ H Q I h;refine attr_of hb (thn (he pins s σ H _ I h) fun u s1 ⟨x,H1,I1,rx,a,C,dx,fs,v,ex,ea,c,n,l,q⟩=>?_);subst ex;obtain rfl:u=Value.ref a:=rx;exact getattr_ok I1 ea c n l fun u' s2 I2 ru=>⟨v,H1,I2,ru,q⟩
theorem zBf (ha:PE X o ta) (hv:PE X value tv) (hs:swapsWith value (some (.Attribute o f pos')) pos.line X.env=pure false):PS X (.Assign [.Attribute o f pos'] value pos) (sFld X.K ta tv f):=by
 intro pins s σ H D I h;refine plainObj_wpAny_Assign_Attribute (thn (hv pins s σ H _ I h) fun u s1 ⟨y,H1,I1,ry,q⟩=>thn (ha pins s1 σ H1 _ I1 q) fun ov s2 ⟨x,H2,I2,rx,a,C,dx,fs,ex,ea,c,n,l,q2⟩=>?_) hs;subst ex;obtain rfl:ov=Value.ref a:=rx;exact setattr_ok I2 ea c n l ry fun s3 I3=>⟨σ,_,I3,q2⟩
theorem zE2 {pl:Sem Bool}{m:Str}{apos:Pos}{args:List Expr}{pins:List (Addr×Obj)}{s:Shared}{σ : St}{H:Hp}{Q:Value→Shared→Prop}{te:TE} (he:PE X e te) (I:Inv X pins σ H s)
  (h:te σ H fun x H1=>∃ a C dx fs g,x=.ref a∧H1 a=some (.ins C dx fs)∧Cls X.K C∧Meth X.K C m g∧fs.lookup m=none ∧
   ∀ s1,Inv X pins σ H1 s1→wpAny (model X.prog X.w) X.A (callWith pos (.ref g) [.ref a] (backTo pos (starEach args X.env)) (backToKw pos (keywordEach [] X.env))) Q X.xe s1)
  (ht:eval (.Call (.Attribute e m apos) args [] pos) X.env=(do
   let ov ← eval e X.env
   standAt apos.atName
   let (f,first) ← holding [ov] (getMethod ov m pl)
   callWith pos f first (backTo pos (starEach args X.env)) (backToKw pos (keywordEach [] X.env)))) :
  wpAny (model X.prog X.w) X.A (eval (.Call (.Attribute e m apos) args [] pos) X.env) Q X.xe s:=by
 refine PySem.W.methodCall_KW (pl:=pl) (thn (he pins s σ H _ I h) fun u s1 ⟨x,H1,I1,rx,a,C,dx,fs,g,ex,ea,c,k,l,q⟩=>?_) ht;subst ex;obtain rfl:u=Value.ref a:=rx;exact zDj I1 ea c k l (q s1 I1)
end
section
variable {X:Cx}{pins:List (Addr×Obj)}{σ : St}{H:Hp}{s:Shared}{A:Around}{E:Value→Shared→Prop}{Q:Value→Shared→Prop}{c:Value}{b:Bool}
inductive TyOf (K:PySem.W.Frag) (H:Hp):V→Value→Prop where
 | non:TyOf K H .non (.type "NoneType")
 | bl (x:Bool):TyOf K H (.bl x) (.type "bool")
 | int (i:Int):TyOf K H (.int i) (.type "int")
 | str (x:Str):TyOf K H (.str x) (.type "str")
 | flt (x:UInt64):TyOf K H (.flt x) (.type "float")
 | lst {a:Addr}{xs:List V} (e:H a=some (.lst xs)):TyOf K H (.ref a) (.type "list")
 | frz {a:Addr}{o:Obj}{xs:List V} (e:H a=some (.frz o (.lst xs))):TyOf K H (.ref a) (.type "list")
 | tup {a:Addr}{xs:List V} (e:H a=some (.tup xs)):TyOf K H (.ref a) (.type "tuple")
 | dK {a:Addr}{kvs:List (Key×V)} (e:H a=some (.dK kvs)):TyOf K H (.ref a) (.type "dict")
 | dT {a:Addr}{kvs:List (List Key×V)} (e:H a=some (.dT kvs)):TyOf K H (.ref a) (.type "dict")
 | ins {a C dx:Addr}{fs:List (Str×V)} (e:H a=some (.ins C dx fs)) (cl:Cls K C) (ha:PySem.W.findIn K (.ref C) "__class__" = some (some (.builtin "object.__class__")))
   (hn:PySem.W.specialIn K (.builtin "object.__class__") "__get__" = some (some (.builtin "getset_descriptor.__get__"))) (htk:PySem.W.takesIn K (.builtin "object.__class__")=some true)
   (hm:PySem.W.mroIn K C (.type "object")=some true):TyOf K H (.ref a) (.ref C)
theorem isinst_ok {x:V}{u t:Value} (I:Inv X pins σ H s) (rx:RelV x u) (ty:TyOf X.K H x t) (e:PySem.W.kitOne X.K t c=some b) (h:∀ tk,Q (.bool b) { s with toks:=tk }) :
  wpAny (model X.prog X.w) A (call (.builtin "isinstance") [u,c]) Q E s:=by
 cases ty with
 | non=>cases (show u=Value.none from rx);exact PySem.W.kia_one PySem.W.kitx_none I.kIn True.intro e (fun z=>nomatch z) h
 | bl y=>cases (show u=Value.bool y from rx);exact PySem.W.kia_one PySem.W.kitx_bool I.kIn True.intro e (fun z=>nomatch z) h
 | int i=>obtain ⟨t,q⟩:=(show ∃ t,u=Value.int i t from rx);cases q;exact PySem.W.kia_one PySem.W.kitx_int I.kIn True.intro e (fun z=>nomatch z) h
 | str y=>obtain ⟨t,q⟩:=(show ∃ t,u=Value.str y t from rx);cases q;exact PySem.W.kia_one PySem.W.kitx_str I.kIn True.intro e (fun z=>nomatch z) h
 | flt y=>obtain ⟨t,q⟩:=(show ∃ t,u=Value.float y t from rx);cases q;exact PySem.W.kia_one PySem.W.kitx_float I.kIn True.intro e (fun z=>nomatch z) h
 | @lst a xs ea =>
  cases (show u=Value.ref a from rx);obtain ⟨_,_,n,_,h1⟩:=(show ObjOk X.prog X.w H s.heap a (.lst xs) from I.hok a _ ea);exact PySem.W.kia_one PySem.W.kitx_list I.kIn ⟨_,h1,rfl⟩ e (fun z=>nomatch z) h
 | @frz a ob xs ea =>
  cases (show u=Value.ref a from rx);obtain ⟨_,_,_,n,_,h1⟩:=(show ObjOk X.prog X.w H s.heap a (.frz ob (.lst xs)) from I.hok a _ ea);exact PySem.W.kia_one PySem.W.kitx_list I.kIn ⟨_,h1,rfl⟩ e (fun z=>nomatch z) h
 | @tup a xs ea =>
  cases (show u=Value.ref a from rx);obtain ⟨_,_,_,p⟩:=(show ObjOk X.prog X.w H s.heap a (.tup xs) from I.hok a _ ea);obtain ⟨o,h1,h2,_⟩:=p;exact PySem.W.kia_one PySem.W.kitx_tuple I.kIn ⟨o,h1,h2⟩ e (fun z=>nomatch z) h
 | @dK a kvs ea =>
  cases (show u=Value.ref a from rx);obtain ⟨_,_,vs,_,p⟩:=(show ObjOk X.prog X.w H s.heap a (.dK kvs) from I.hok a _ ea);obtain ⟨o,es,ep,h1,h2,_⟩:=p;exact PySem.W.kia_one PySem.W.kitx_dict I.kIn ⟨o,h1,h2.1⟩ e (fun z=>nomatch z) h
 | @dT a kvs ea =>
  cases (show u=Value.ref a from rx);obtain ⟨_,_,xs,_,o,es,ep,h1,h2,_⟩:=(show ObjOk X.prog X.w H s.heap a (.dT kvs) from I.hok a _ ea);exact PySem.W.kia_one PySem.W.kitx_dict I.kIn ⟨o,h1,h2.1⟩ e (fun z=>nomatch z) h
 | @ins a C dx fs ea cl ha hn htk hm =>
  cases (show u=Value.ref a from rx);obtain ⟨mA,O,_⟩:=zE7 I.hok ea;obtain ⟨od,J,_⟩:=O.look;exact PySem.W.kia_one (PySem.W.kitx_own (cl.get _) cl.hd ha hn htk hm) I.kIn J e (fun z=>nomatch z) h
end
end L2
namespace L2
open PySem PySem.Spec PyProof.Rows
structure RoomQ (q:Bool) (k:Nat) (A:Around):Prop where
 hd:q=true→A.handled=none
 dp:A.depth + 3 * k + 5 < recursionLimit
 un:A.units + 16 * k + 200 < cLine
noncomputable abbrev Room:=RoomQ true
theorem RoomQ.mono {q:Bool}{j k:Nat}{A:Around} (r:RoomQ q k A) (h:j≤k):RoomQ q j A:=⟨r.hd,by have:=r.dp;omega,by have:=r.un;omega⟩
theorem RoomQ.deeper {q:Bool}{k:Nat}{A:Around} (r:RoomQ q (k + 1) A) (env:Env):RoomQ q k (A.deeper env) :=
 ⟨r.hd,by have:=r.dp;show A.depth + 1 + 3 * k + 5 < _;omega,by have:=r.un;show A.units + 3 + 16 * k + 200 < _;omega⟩
theorem RoomQ.in1 {q:Bool}{k:Nat}{A:Around} (r:RoomQ q (k + 1) A):RoomQ q k A.in1 :=
 ⟨r.hd,by have:=r.dp;show A.depth + 3 * k + 5 < _;omega,by have:=r.un;show A.units + 1 + 16 * k + 200 < _;omega⟩
theorem make_depth {A:Around}{C:Addr}{us:List Value}{kw:List (Str×Value)}:(A.under (.builtin "type.__call__" ⟨.ref C :: us,kw⟩)).depth=A.depth + 1:=by
 first | rfl | simp [Around.under,Code.weight,Code.isCreation,Code.isGuard,Code.isCaller,Code.frames,Code.isFrame,guardIds]
theorem make_units {A:Around}{C:Addr}{us:List Value}{kw:List (Str×Value)}:(A.under (.builtin "type.__call__" ⟨.ref C :: us,kw⟩)).units=A.units + 1:=by
 first | rfl | simp [Around.under,Code.cUnits,Code.frames,Code.isFrame]
theorem RoomQ.make {q:Bool}{k:Nat}{A:Around} (r:RoomQ q (k + 1) A) (C:Addr) (us:List Value) (kw:List (Str×Value)):RoomQ q k (A.under (.builtin "type.__call__" ⟨.ref C :: us,kw⟩)) :=
 ⟨r.hd,by have:=r.dp;rw [make_depth];omega,by have:=r.un;rw [make_units];omega⟩
theorem RoomQ.depth {q:Bool}{k:Nat}{A:Around} (r:RoomQ q k A):A.depth < recursionLimit:=by have:=r.dp;omega
theorem RoomQ.units {q:Bool}{k:Nat}{A:Around} (r:RoomQ q k A):A.units + 64 < cLine:=by have:=r.un;omega
noncomputable def tNil:TA:=fun _ H Q=>Q [] H
noncomputable def tCons (ta:TE) (tr:TA):TA:=fun σ H Q=>ta σ H fun x H1=>tr σ H1 fun xs H2=>Q (x :: xs) H2
section
variable {X:Cx}{e:Expr}{es:List Expr}{te:TE}{t:TA}{pos:Pos}
theorem zA2:PA X [] tNil:=fun _ _ _ _ H Q I h=>Calls.spliced_nil ⟨[],H,I,.nil,h⟩
theorem zA0 (ha:PE X e te) (hr:PA X es t) (hs:starEach (e :: es) X.env=(false,eval e X.env) :: starEach es X.env:=by rfl):PA X (e :: es) (tCons te t):=by
 intro pos pins s σ H Q I h;rw [hs];show wpAny _ _ (spliced ((false,eval e X.env) :: backTo pos (starEach es X.env))) _ _ s;refine Calls.spliced_cons (thn (ha pins s σ H _ I h) fun u s1 ⟨x,H1,I1,r1,q1⟩=>?_);exact thn (hr pos pins s1 σ H1 _ I1 q1) fun us s2 ⟨xs,H2,I2,r2,q2⟩=>⟨x :: xs,H2,I2,.cons r1 r2,q2⟩
noncomputable def tTup (t:TA):TE:=fun σ H Q=>t σ H fun xs H1=>xs.length≤sizeLine∧∀ p,H1 p=none→Q (.ref p) (upd H1 p (.tup xs))
noncomputable def tLst (t:TA):TE:=fun σ H Q=>t σ H fun xs H1=>xs.length≤sizeLine∧∀ p,H1 p=none→Q (.ref p) (upd H1 p (.lst xs))
theorem zBc {x1} (h:PA X es t):PE X (.Tuple es x1 pos) (tTup t):=by
 intro pins s σ H Q I hq;refine wpAny_Tuple_spliced (thn (h pos pins s σ H _ I hq) fun us s1 ⟨xs,H1,I1,r,z,q⟩=>⟨by rw [← r.length];exact z,?_⟩);have hf:H1 s1.heap.objs.size=none:=I1.hok.fresh (Z7 _);refine ⟨.ref s1.heap.objs.size,upd H1 s1.heap.objs.size (.tup xs),I1.laid (t':=s1.toks) (fun b u e=>Z2 _ e) (Z7 _) ?_,rfl,q _ hf⟩;exact ⟨z,us,r,⟨_,Za _ rfl,rfl,_,rfl⟩⟩
theorem zAm (h:PA X es t):PE X (.List es pos) (tLst t):=by
 intro pins s σ H Q I hq;refine wpAny_List_spliced (thn (h pos pins s σ H _ I hq) fun us s1 ⟨xs,H1,I1,r,z,q⟩=>⟨by rw [← r.length];exact z,?_⟩);have hf:H1 s1.heap.objs.size=none:=I1.hok.fresh (Z7 _);refine ⟨.ref s1.heap.objs.size,upd H1 s1.heap.objs.size (.lst xs),I1.laid (t':=s1.toks) (fun b u e=>Z2 _ e) (Z7 _) ?_,rfl,q _ hf⟩;exact ⟨z,us,0,r,Za _ rfl⟩
end
noncomputable abbrev Sp:=List V→Hp→VK→XK→Prop
noncomputable abbrev CXT:=List Env→Hp→Shared→XK→Value→Shared→Prop
structure Env0 (P:Program) (w:World) (K:PySem.W.Frag) (mg:Str→Option Value) (base:Heap) (A:Around) (outer:List Env) (s:Shared) (H:Hp):Prop where
 frames:A.frames=some outer
 mod:Mod K mg base
 bs:∀ b o,base.get? b=some o→s.heap.get? b=some o∧H b=none
 bsz:base.objs.size≤s.heap.objs.size
 funs:s.heap.FunFrames base outer
 frf:∀ b∈frs outer,H b=none
 hok:HOk P w H s.heap
 bare:AllBare s.gens
noncomputable def CE (outer:List Env) (P:Program) (w:World) (H:Hp) (s:Shared) (Q:VK) (u:Value) (s':Shared):Prop :=
 ∃ v H',s'.os=s.os∧AllBare s'.gens∧Un (frs outer) [] H H' s.heap s'.heap∧HOk P w H' s'.heap∧RelV v u∧Q v H'
noncomputable def CR (CX:CXT) (outer:List Env) (P:Program) (w:World) (H:Hp) (s:Shared) (Q:VK) (E:XK) (r:Result) (s':Shared):Prop :=
 match r with
 | .ok (.ret u)=>CE outer P w H s Q u s'
 | .ok _=>False
 | .error e=>CX outer H s E e s'
structure FnOkQ (q:Bool) (P:Program) (w:World) (K:PySem.W.Frag) (mg:Str→Option Value) (base:Heap) (CX:CXT) (k:Nat) (f:Addr) (fd:FuncData) (ps:List Str) (sp:Sp):Prop where
 len:∀ vs H Q E,sp vs H Q E→vs.length=ps.length
 run:∀ (A:Around) (outer:List Env) (s:Shared) (H:Hp) (args:Args) (us:List Value) (vs:List V) (Q:VK) (E:XK),RoomQ q k A→Env0 P w K mg base A outer s H→BindsTo s fd args (ps.zip us)→Vals vs us→sp vs H Q E →
  codeAny (model P w) A (.call (.ref f) args) (CR CX outer P w H s Q E) s
noncomputable abbrev FnOk:=FnOkQ true
theorem FnOk.mono {P:Program}{w:World}{K:PySem.W.Frag}{mg:Str→Option Value}{base:Heap}{CX:CXT}{j k:Nat}{f:Addr}{fd:FuncData}{ps:List Str}{sp:Sp} (F:FnOk P w K mg base CX j f fd ps sp) (h:j≤k) :
  FnOk P w K mg base CX k f fd ps sp:=⟨F.len,fun A outer s H args us vs Q E hr=>F.run A outer s H args us vs Q E (hr.mono h)⟩
theorem FnOk.imp {P:Program}{w:World}{K:PySem.W.Frag}{mg:Str→Option Value}{base:Heap}{CX:CXT}{k:Nat}{f:Addr}{fd:FuncData}{ps:List Str}{sp sp':Sp} (F:FnOk P w K mg base CX k f fd ps sp)
  (h:∀ vs H Q E,sp' vs H Q E→sp vs H Q E):FnOk P w K mg base CX k f fd ps sp' :=
 ⟨fun vs H Q E q=>F.len vs H Q E (h _ _ _ _ q),fun A outer s H args us vs Q E hr he hb hv hs=>F.run A outer s H args us vs Q E hr he hb hv (h _ _ _ _ hs)⟩
theorem Env0.make {P:Program}{w:World}{K:PySem.W.Frag}{mg:Str→Option Value}{base:Heap}{A:Around}{outer:List Env}{s:Shared}{H:Hp} (e:Env0 P w K mg base A outer s H) (C:Addr) (us:List Value) (kw:List (Str×Value)) :
  Env0 P w K mg base (A.under (.builtin "type.__call__" ⟨.ref C :: us,kw⟩)) outer s H:=⟨by first | exact e.frames | (simpa [Around.under,Code.envs,Code.isFrame,pushEnvs] using e.frames),e.mod,e.bs,e.bsz,e.funs,e.frf,e.hok,e.bare⟩
section
variable {X:Cx}{pins:List (Addr×Obj)}{σ : St}{H:Hp}{s s':Shared}
theorem Inv.env0 (I:Inv X pins σ H s):Env0 X.prog X.w X.K X.mg X.base X.A X.stack s H :=
 ⟨I.ok.frames,I.ok.mod,I.bs,Zm I.ok.bsz I.sz,I.stack,I.stkFree,I.hok,I.bare⟩
theorem Inv.after {Q:VK}{u:Value} (I:Inv X pins σ H s) (h:CE X.stack X.prog X.w H s Q u s'):EP X pins σ Q u s':=by
 obtain ⟨v,H',os,bare,un,hok,r,q⟩:=h;obtain ⟨hh,g,d,t,os'⟩:=s';obtain rfl:os'=s.os:=os;exact ⟨v,H',I.call (h':=hh) (g':=g) (d':=d) (t':=t) (ch:=[]) un hok bare (fun b z=>absurd z (by simp)),r,q⟩
end
noncomputable def tCall (sp:Sp) (dvs:List V) (E:St→XK) (t:TA):TE:=fun σ H Q=>t σ H fun vs H1=>sp (vs++dvs) H1 Q (E σ)
noncomputable def tMeth (C:Addr) (m:Str) (sp:Sp) (dvs:List V) (E:St→XK) (ta:TE) (t:TA):TE:=fun σ H Q=>ta σ H fun x H1=>∃ a dx fs,x=.ref a∧H1 a=some (.ins C dx fs)∧fs.lookup m=none ∧
 t σ H1 fun vs H2=>sp (x :: (vs++dvs)) H2 Q (E σ)
noncomputable def tMake (C:Addr) (sp:Sp) (dvs:List V) (E:St→XK) (t:TA):TE:=fun σ H Q=>t σ H fun vs H1=>∀ x dx,H1 x=none→H1 dx=none→dx≠x →
 sp (.ref x :: (vs++dvs)) (upd (upd H1 dx (.own x)) x (.ins C dx [])) (fun v H2=>v=.non∧Q (.ref x) H2) (E σ)
noncomputable def Binds (K:PySem.W.Frag) (fd:FuncData) (ps:List Str) (ds:List Value):Prop :=
 ∀ (s:Shared) (us:List Value),K.In s.heap→(us++ds).length=ps.length→BindsTo s fd ⟨us,[]⟩ (ps.zip (us++ds))
theorem Binds.all {K:PySem.W.Frag}{fd:FuncData}{ps:List Str} (h:∀ us:List Value,us.length=ps.length→bindArgs fd ⟨us,[]⟩=pure (ps.zip us)):Binds K fd ps []:=fun s us _ hl=>by
 rw [List.append_nil] at hl ⊢;exact .of_eq (h us hl)
noncomputable def Passes (CX:CXT) (X:Cx) (E:St→XK):Prop:=∀ (pins:List (Addr×Obj)) (σ : St) (H:Hp) (s:Shared) (e:Value) (s':Shared),Inv X pins σ H s→CX X.stack H s (E σ) e s'→X.xe e s'
section
variable {X:Cx}{CX:CXT}{k:Nat}{f C:Addr}{fd:FuncData}{ps:List Str}{sp:Sp}{dvs:List V}{ds:List Value}{E:St→XK}{x m:Str}{p pos apos:Pos}{e o:Expr}{es:List Expr}{ta:TE}{t:TA}
theorem run_fn {pins:List (Addr×Obj)}{σ : St}{H:Hp}{s:Shared}{Q:VK}{us:List Value}{vs:List V}{q:Bool} (F:FnOkQ q X.prog X.w X.K X.mg X.base CX k f fd ps sp) (hr:RoomQ q k X.A) (hb:Binds X.K fd ps ds) (hd:Vals dvs ds) (hx:Passes CX X E)
  (I:Inv X pins σ H s) (r:Vals vs us) (h:sp (vs++dvs) H Q (E σ)):wpAny (model X.prog X.w) X.A (call (.ref f) us) (EP X pins σ Q) X.xe s:=by
 have r2:Vals (vs++dvs) (us++ds):=r.append hd;have hl:(us++ds).length=ps.length:=by rw [← r2.length];exact F.len _ _ _ _ h
 refine wpAny_call (codeAny_mono (F.run X.A X.stack s H ⟨us,[]⟩ (us++ds) (vs++dvs) Q (E σ) hr I.env0 (hb s us I.kIn hl) r2 h) fun r s' hq=>?_);cases r with
 | error e=>exact hx pins σ H s e s' I hq
 | ok fl =>
  cases fl with
  | ret u=>exact I.after hq
  | next=>exact False.elim hq
  | brk=>exact False.elim hq
  | cont=>exact False.elim hq
theorem zA6 {q:Bool} (F:FnOkQ q X.prog X.w X.K X.mg X.base CX k f fd ps sp) (hr:RoomQ q k X.A) (hg:Gl X x) (hm:X.mg x=some (.ref f)) (hk:PySem.W.keepIn X.K (.ref f)=true) (hb:Binds X.K fd ps ds) (hd:Vals dvs ds) (hx:Passes CX X E)
  (ha:PA X (e :: es) t) (hdb:(x == ("__debug__" : Str))=false:=by decide) (he:starEach (e :: es) X.env=(false,eval e X.env) :: starEach es X.env:=by rfl) (hpl:(backTo pos (starEach es X.env)).any (·.1)=false:=by rfl) :
  PE X (.Call (.Name x p) (e :: es) [] pos) (tCall sp dvs E t):=by
 intro pins s σ H Q I h;refine wpAny_Call_Name_kw (zFa I hg hm ?_ hdb);refine PySem.W.callWith_K (h₀:=X.base) I.ok.mod.kin hk (thn (ha pos pins s σ H _ I h) fun us s1 ⟨vs,H1,I1,r,q⟩=>⟨I1.kIn,?_⟩) he hpl;exact run_fn F hr hb hd hx I1 r q
theorem zC2 {pl:Sem Bool} (he:PE X o ta) (c:Cls X.K C) (hm:Meth X.K C m f) (F:FnOk X.prog X.w X.K X.mg X.base CX k f fd ps sp) (hr:Room k X.A) (hb:Binds X.K fd ps ds) (hd:Vals dvs ds) (hx:Passes CX X E) (ha:PA X (e :: es) t)
  (hst:starEach (e :: es) X.env=(false,eval e X.env) :: starEach es X.env:=by rfl) (hpl:(backTo pos (starEach es X.env)).any (·.1)=false:=by rfl)
  (ht:eval (.Call (.Attribute o m apos) (e :: es) [] pos) X.env=(do
   let ov ← eval o X.env
   standAt apos.atName
   let (f,first) ← holding [ov] (getMethod ov m pl)
   callWith pos f first (backTo pos (starEach (e :: es) X.env)) (backToKw pos (keywordEach [] X.env))):=by rfl) :
  PE X (.Call (.Attribute o m apos) (e :: es) [] pos) (tMeth C m sp dvs E ta t):=by
 intro pins s σ H Q I h;refine PySem.W.methodCall_KW (pl:=pl) (thn (he pins s σ H _ I h) fun u s1 ⟨x,H1,I1,rx,a,dx,fs,ex,ea,l,q⟩=>?_) ht;subst ex;obtain rfl:u=Value.ref a:=rx;refine zDj I1 ea c hm l ?_;refine PySem.W.callWith_K (first:=[.ref a]) (h₀:=X.base) I.ok.mod.kin hm.kp (thn (ha pos pins s1 σ H1 _ I1 q) fun us s2 ⟨vs,H2,I2,r,q2⟩=>⟨I2.kIn,?_⟩) hst hpl;exact run_fn (us:=.ref a :: us) (vs:=.ref a :: vs) F hr hb hd hx I2 (.cons rfl r) q2
structure Mk (K:PySem.W.Frag) (C f:Addr):Prop where
 makes:PySem.W.makesIn K C=true
 init:PySem.W.findIn K (.ref C) "__init__" = some (some (.ref f))
 fn:PySem.W.isFn K (.ref f)=true
 kp:PySem.W.keepIn K (.ref C)=true
theorem run_make {pins:List (Addr×Obj)}{σ : St}{H:Hp}{s:Shared}{Q:VK}{us:List Value}{vs:List V} (M:Mk X.K C f) (F:FnOk X.prog X.w X.K X.mg X.base CX k f fd ps sp) (hr:Room (k + 1) X.A) (hb:Binds X.K fd ps ds) (hd:Vals dvs ds)
  (hx:Passes CX X E) (I:Inv X pins σ H s) (r:Vals vs us)
  (h:∀ x dx,H x=none→H dx=none→dx≠x→sp (.ref x :: (vs++dvs)) (upd (upd H dx (.own x)) x (.ins C dx [])) (fun v H2=>v=.non∧Q (.ref x) H2) (E σ)) :
  wpAny (model X.prog X.w) X.A (call (.ref C) us) (EP X pins σ Q) X.xe s:=by
 have hq:=h (s.heap.objs.size + 1) s.heap.objs.size (I.hok.fresh (Nat.le_succ _)) (I.hok.fresh (Z7 _)) (Ze (Ye _));have I2:=Inv.made (C:=C) I;have r2:Vals (V.ref (s.heap.objs.size + 1) :: (vs++dvs)) (Value.ref (s.heap.objs.size + 1) :: (us++ds)):=.cons rfl (r.append hd);have hl:(Value.ref (s.heap.objs.size + 1) :: us++ds).length=ps.length:=by
  have e:=r2.length;rw [F.len _ _ _ _ hq] at e;exact e.symm
 refine wpAny_call (make_map (f:=f) I.kIn M.makes M.init (beq_iff_eq.mp M.fn) (codeAny_mono (F.run _ X.stack _ _ ⟨Value.ref (s.heap.objs.size + 1) :: us,[]⟩ (Value.ref (s.heap.objs.size + 1) :: (us++ds)) _ _ (E σ) (hr.make C us [])
  (I2.env0.make C us []) (hb _ (Value.ref (s.heap.objs.size + 1) :: us) I2.kIn hl) r2 hq) fun r s' hq'=>?_))
 cases r with
 | error e=>exact hx pins σ _ _ e s' I2 hq'
 | ok fl =>
  cases fl with
  | ret u =>
   obtain ⟨v,H',I3,rv,ev,q3⟩:=I2.after hq';subst ev;exact ⟨rv,⟨V.ref (s.heap.objs.size + 1),H',I3,rfl,q3⟩⟩
  | next=>exact False.elim hq'
  | brk=>exact False.elim hq'
  | cont=>exact False.elim hq'
theorem zBl (M:Mk X.K C f) (F:FnOk X.prog X.w X.K X.mg X.base CX k f fd ps sp) (hr:Room (k + 1) X.A) (hg:Gl X x) (hm:X.mg x=some (.ref C)) (hb:Binds X.K fd ps ds) (hd:Vals dvs ds) (hx:Passes CX X E)
  (ha:PA X (e :: es) t) (hdb:(x == ("__debug__" : Str))=false:=by decide) (he:starEach (e :: es) X.env=(false,eval e X.env) :: starEach es X.env:=by rfl) (hpl:(backTo pos (starEach es X.env)).any (·.1)=false:=by rfl) :
  PE X (.Call (.Name x p) (e :: es) [] pos) (tMake C sp dvs E t):=by
 intro pins s σ H Q I h;refine wpAny_Call_Name_kw (zFa I hg hm ?_ hdb);refine PySem.W.callWith_K (h₀:=X.base) I.ok.mod.kin M.kp (thn (ha pos pins s σ H _ I h) fun us s1 ⟨vs,H1,I1,r,q⟩=>⟨I1.kIn,?_⟩) he hpl;exact run_make M F hr hb hd hx I1 r q
end
section
variable {X:Cx}{CX:CXT}{k:Nat}{f C:Addr}{fd:FuncData}{ps ks:List Str}{sp:Sp}{E:St→XK}{x m:Str}{p pos apos kpos:Pos}{e o:Expr}{es:List Expr}{kws:List Keyword}{te ta:TE}{t tk:TA}{nm:Option Str}
variable {g:List Value→List Value→List Value}{gV:List V→List V→List V}
end
structure FnScope (N P:List Str) (sc:Scope):Prop where
 kind:sc.kind=.function
 co:sc.isCoroutine=false
 gen:sc.isGenerator=false
 nd:N.Nodup
 pre:N.take P.length=P
 par:∀ x∈P,sc.names.lookup x=some .local∨sc.names.lookup x=some .cell
 nofree:∀ y∈sc.names,y.2≠.free
theorem bindL_out {kindOf:Str→Option NameKind}{x:Str}:∀ {binds:List (Str×Value)}{m:Str→Option Value},(∀ v,(x,v)∉binds)→bindL kindOf binds m x=m x
 | [],_,_=>rfl
 | (n,v) :: r,m,h=>by
  unfold bindL;rw [bindL_out fun w hw=>h w (Zh _ hw)];split
  ·have:x≠n:=by rintro rfl;exact h v Zl
   simp [this]
  ·rfl
theorem bindC_out {kindOf:Str→Option NameKind}{x:Str}:∀ {binds:List (Str×Value)}{m:Str→Option Value},(∀ v,(x,v)∉binds)→bindC kindOf binds m x=m x
 | [],_,_=>rfl
 | (n,v) :: r,m,h=>by
  unfold bindC;rw [bindC_out fun w hw=>h w (Zh _ hw)];split
  ·rfl
  ·have:x≠n:=by rintro rfl;exact h v Zl
   simp [this]
theorem bindL_get {kindOf:Str→Option NameKind}{x:Str}{v:Value}:∀ {P:List Str}{vs:List Value}{i:Nat}{m:Str→Option Value},P.Nodup→P[i]? = some x→vs[i]? = some v→kindOf x=some .local →
  bindL kindOf (P.zip vs) m x=some v
 | [],_,_,_,_,h,_,_=>by simp at h
 | _ :: _,[],_,_,_,_,h,_=>by simp at h
 | p :: P,w :: vs,0,m,nd,h1,h2,hk=>by
  simp at h1 h2;subst h1;subst h2;show bindL kindOf ((p,w) :: P.zip vs) m p=_;unfold bindL;rw [bindL_out fun v hv=>(List.nodup_cons.mp nd).1 (List.of_mem_zip hv).1,if_pos hk];simp
 | p :: P,w :: vs,i + 1,m,nd,h1,h2,hk=>by
  show bindL kindOf ((p,w) :: P.zip vs) m x=_;unfold bindL;exact bindL_get (i:=i) (List.nodup_cons.mp nd).2 (by simpa using h1) (by simpa using h2) hk
theorem bindC_get {kindOf:Str→Option NameKind}{x:Str}{v:Value}:∀ {P:List Str}{vs:List Value}{i:Nat}{m:Str→Option Value},P.Nodup→P[i]? = some x→vs[i]? = some v→kindOf x≠some .local →
  bindC kindOf (P.zip vs) m x=some v
 | [],_,_,_,_,h,_,_=>by simp at h
 | _ :: _,[],_,_,_,_,h,_=>by simp at h
 | p :: P,w :: vs,0,m,nd,h1,h2,hk=>by
  simp at h1 h2;subst h1;subst h2;show bindC kindOf ((p,w) :: P.zip vs) m p=_;unfold bindC;rw [bindC_out fun v hv=>(List.nodup_cons.mp nd).1 (List.of_mem_zip hv).1,if_neg hk];simp
 | p :: P,w :: vs,i + 1,m,nd,h1,h2,hk=>by
  show bindC kindOf ((p,w) :: P.zip vs) m x=_;unfold bindC;exact bindC_get (i:=i) (List.nodup_cons.mp nd).2 (by simpa using h1) (by simpa using h2) hk
noncomputable def start (N:List Str) (vs:List V):St:=vs.map some++List.replicate (N.length - vs.length) none
noncomputable def cxOfC (q:Bool) (CX:CXT) (P:Program) (w:World) (K:PySem.W.Frag) (mg:Str→Option Value) (base:Heap) (N:List Str) (qual:Str) (scope:Scope) (f:Addr) (cd:Value) (A:Around) (outer:List Env) (s:Shared) (H:Hp) (E:XK):Cx where
 prog:=P
 w:=w
 K:=K
 mg:=mg
 base:=base
 A:=A.deeper (envOfC qual scope s.heap.objs.size f cd)
 N:=N
 s₀:=s
 H₀:=H
 env:=envOfC qual scope s.heap.objs.size f cd
 outer:=outer
 stack:=envOfC qual scope s.heap.objs.size f cd :: outer
 ex:=[]
 calm:=q
 fn:=fun _=>true
 pn:=[]
 xe:=fun e s'=>wpAny (model P w) (A.deeper (envOfC qual scope s.heap.objs.size f cd)) (leaving (envOfC qual scope s.heap.objs.size f cd) e) (fun _ s''=>CX outer H s E e s'') (fun e' s''=>CX outer H s E e' s'') s'
noncomputable abbrev cxOf:=cxOfC true
theorem cell_has {sc:Scope}{n:Nat}{x:Str} (h:sc.names.lookup x=some .cell):∃ c,(cellsFrom n sc.names []).lookup x=some c:=by
 have q:=PySem.W.cellsFrom_some sc.names n [] (.inl h);exact Option.isSome_iff_exists.mp q
theorem inv_start {q:Bool}{CX:CXT}{P:Program}{w:World}{K:PySem.W.Frag}{mg:Str→Option Value}{base:Heap}{N ps:List Str}{qual:Str}{scope:Scope}{f:Addr}{cd:Value}{A:Around}{outer:List Env}{s s1:Shared}{H:Hp}{E:XK}{us:List Value}{vs:List V}
  (S:FnScope N ps scope) (hd:q=true→A.handled=none) (e0:Env0 P w K mg base A outer s H) (hl:vs.length=ps.length) (r:Vals vs us)
  (x:InCallC s s.heap.objs.size (bindL (envOfC qual scope s.heap.objs.size f cd).kindOf (ps.zip us) fun _=>none) (cellsFrom (s.heap.objs.size + 1) scope.names []) (bindC (envOfC qual scope s.heap.objs.size f cd).kindOf (ps.zip us) fun _=>none) s1) :
  Inv (cxOfC q CX P w K mg base N qual scope f cd A outer s H E) [] (start N vs) H s1:=by
 have hpl:ps.length≤N.length:=by have:=congrArg List.length S.pre;rw [Zk] at this;omega
 obtain ⟨h1,tk,rfl,hk⟩:=x.done;have noA:∀ b:Addr,b∉(cxOfC q CX P w K mg base N qual scope f cd A outer s H E).ex:=fun b z=>absurd (show b∈([]:List Addr) from z) (by simp)
 refine ⟨⟨e0.mod,S.kind,rfl,rfl,Z7 _,fun y z c h1 h2=>?_,fun y hy=>?_,fun y c _ h=>?_,hd,Around.frames_deeper e0.frames,.inr ⟨rfl,rfl⟩,fun b z=>absurd z (noA b),e0.bs,e0.bsz,fun b _ _=>noA b,fun b z=>absurd z (noA b),e0.funs,e0.frf⟩,
  rfl,e0.bare,Un.kept hk,⟨_,x.toInCall.ns,fun i y v h1 h2 h3=>?_⟩,fun y c h=>⟨_,x.cell y c h⟩,e0.hok.fresh (Z7 _),fun y c h=>?_,fun p hp=>absurd (show p∈([]:List (Addr×Obj)) from hp) (by simp),e0.hok.kept hk,?_⟩
 ·exact name_of_addr x.apart (PySem.mem_of_lookup h1) (PySem.mem_of_lookup h2)
 ·have hy:scope.names.lookup y=some .cell∨scope.names.lookup y=some .free:=hy;rcases hy with hy | hy
  ·exact cell_has hy
  ·exact absurd rfl (S.nofree _ (PySem.mem_of_lookup hy))
 ·exact Zn (x.above y c (PySem.mem_of_lookup h))
 ·have hi:i < vs.length:=by
   unfold start at h2;by_cases hi:i < vs.length
   ·exact hi
   ·rw [Zy (by simpa using hi)] at h2;rw [List.getElem?_replicate] at h2;split at h2 <;> cases h2
  have ha:vs[i]? = some v:=by
   unfold start at h2;rw [Zo (by simpa using hi),Z4] at h2;cases e:vs[i]? with
   | none=>rw [e] at h2;cases h2
   | some a=>rw [e] at h2;cases h2;rfl
  obtain ⟨u,hu,rv⟩:=r.get ha;have hp:ps[i]? = some y:=by
   rw [← S.pre,List.getElem?_take_of_lt (by omega)];exact h1
  have ndP:ps.Nodup:=by rw [← S.pre];exact S.nd.sublist (List.take_sublist _ _)
  refine ⟨u,rv,?_⟩;rcases S.par y (Z1 hp) with k | k
  ·exact .inl ⟨k,bindL_get ndP hp hu k⟩
  ·obtain ⟨c,e⟩:=cell_has (n:=s.heap.objs.size + 1) k;refine .inr ⟨.inl k,c,e,?_⟩;have q:=x.cell y c e;rw [bindC_get ndP hp hu (by show scope.names.lookup y≠_;rw [k];decide)] at q;exact q
 ·exact e0.hok.fresh (Zn (x.above y c (PySem.mem_of_lookup h)))
 ·unfold start;show _=N.length;rw [Zg,Z0,Y7];omega
theorem fn_of {q:Bool}{CX:CXT}{P:Program}{w:World}{K:PySem.W.Frag}{mg:Str→Option Value}{base:Heap}{k:Nat}{f:Addr}{name qual:Str}{params:Arguments}{body:List Stmt}{scope:Scope}{dV kV doc pm cdv ct oc:Value}{an od:Option Addr}
  {osl:Array (Option Value)}{N ps:List Str}{sp:Sp} (lk:K.lookup f=some ⟨oc,od,.func (PySem.W.fnOf name qual params body scope dV kV doc pm an cdv ct),osl⟩) (hcd:PySem.W.codeIn K cdv qual=true) (S:FnScope N ps scope)
  (len:∀ vs H Q E,sp vs H Q E→vs.length=ps.length)
  (hbody:∀ (A:Around) (outer:List Env) (s:Shared) (H:Hp) (vs:List V) (Q:VK) (E:XK),RoomQ q k (A.deeper (envOfC qual scope s.heap.objs.size f cdv))→sp vs H Q E →
   ∃ t,PSs (cxOfC q CX P w K mg base N qual scope f cdv A outer s H E) body t∧t { nx:=fun _ H'=>Q .non H',rt:=Q } (start N vs) H) :
  FnOkQ q P w K mg base CX (k + 1) f (PySem.W.fnOf name qual params body scope dV kV doc pm an cdv ct) ps sp:=by
 refine ⟨len,fun A outer s H args us vs Q E hr e0 hb r hsp=>?_⟩;have hl:=len _ _ _ _ hsp;have KX:K.In s.heap:=e0.mod.kin.keeps fun b o e=>(e0.bs b o e).1;have lim:s.heap.NoLimit:=e0.mod.nolimit.keeps fun b o e=>(e0.bs b o e).1;have hkind:∀ y∈ps.zip us,scope.names.lookup y.1=some .local∨(scope.names.lookup y.1=some .cell∧((cellsFrom (s.heap.objs.size + 1) scope.names []).lookup y.1).isSome=true):=fun ⟨n,v⟩ hy=>by
  rcases S.par n (List.of_mem_zip hy).1 with q | q
  ·exact .inl q
  ·exact .inr ⟨q,PySem.W.cellsFrom_some _ _ _ (.inl q)⟩
 refine codeAny_call_function hr.depth (KX _ _ lk) rfl S.co S.gen rfl (PySem.W.codeRec_of KX hcd) (hb _ _ _ _ ?_);refine wpAny_newFunctionEnv_cells S.kind hkind fun env he s1 x=>?_;subst he;refine ⟨lim.keeps x.toInCall.keep,codeAny_func ?_⟩;obtain ⟨t,ht,hq⟩:=hbody A outer s H vs Q E (hr.deeper _) hsp;have I:Inv (cxOfC q CX P w K mg base N qual scope f cdv A outer s H E) [] (start N vs) H s1:=inv_start S hr.hd e0 hl r x;refine wpAny_mono (ht [] s1 (start N vs) H _ I hq) (fun fl s' hs=>?_) fun e s' hs=>hs;have fin:∀ {σ':St}{H':Hp}{v:V}{u:Value},Inv (cxOfC q CX P w K mg base N qual scope f cdv A outer s H E) [] σ' H' s'→RelV v u→Q v H'→CE outer P w H s Q u s' :=
  fun {σ' H' v u} J rv z=>⟨v,H',J.os,J.bare,J.base,J.hok,rv,z⟩
 cases fl with
 | ret u =>
  obtain ⟨v,σ',H',J,rv,q⟩:=hs;exact fin J rv q
 | next =>
  obtain ⟨σ',H',J,q⟩:=hs;exact fin (v:=V.non) (u:=Value.none) J rfl q
 | brk =>
  obtain ⟨_,_,_,q⟩:=hs;exact False.elim q
 | cont =>
  obtain ⟨_,_,_,q⟩:=hs;exact False.elim q
end L2
namespace L2
open PySem PySem.Spec PyProof.Rows
section
variable {X:Cx}{x:Str}{p pos:Pos}{e:Expr}{es:List Expr}{t:TA}{id T:String}{r:List V→Hp→VK→Prop}
noncomputable def tCB (r:List V→Hp→VK→Prop) (t:TA):TE:=fun σ H Q=>t σ H fun vs H1=>r vs H1 Q
theorem zAh (hc:CallR X (.builtin id) r) (hg:Gl X x) (hm:X.mg x=none) (hv:bootBuiltins x=some (.builtin id)) (ha:PA X (e :: es) t) (hn:x≠"__name__":=by decide) (hdb:(x == ("__debug__" : Str))=false:=by decide)
  (he:starEach (e :: es) X.env=(false,eval e X.env) :: starEach es X.env:=by rfl) (hpl:(backTo pos (starEach es X.env)).any (·.1)=false:=by rfl):PE X (.Call (.Name x p) (e :: es) [] pos) (tCB r t):=by
 intro pins s σ H Q I h;refine wpAny_Call_Name_kw (zE4 I hg hm hv ?_ hn hdb);exact PyProof.Rows.callWith_builtin1 (thn (ha pos pins s σ H _ I h) fun us s1 ⟨vs,H1,I1,r1,q1⟩=>hc pins s1 σ H1 vs us Q I1 r1 q1) he hpl
theorem zAs (hc:CallR X (.type T) r) (hg:Gl X x) (hm:X.mg x=none) (hv:bootBuiltins x=some (.type T)) (ha:PA X (e :: es) t) (hn:x≠"__name__":=by decide) (hdb:(x == ("__debug__" : Str))=false:=by decide)
  (he:starEach (e :: es) X.env=(false,eval e X.env) :: starEach es X.env:=by rfl) (hpl:(backTo pos (starEach es X.env)).any (·.1)=false:=by rfl):PE X (.Call (.Name x p) (e :: es) [] pos) (tCB r t):=by
 intro pins s σ H Q I h;refine wpAny_Call_Name_kw (zE4 I hg hm hv ?_ hn hdb);exact PyProof.Rows.callWith_type1 (thn (ha pos pins s σ H _ I h) fun us s1 ⟨vs,H1,I1,r1,q1⟩=>hc pins s1 σ H1 vs us Q I1 r1 q1) he hpl
end
end L2
namespace HT
open PySem PyProof.Rows
section
open PySem.SeqAt
open PySem.AutoSeq1 (wpAny_loadPart')
open PySem.MeetsSeq PySem.MeetsSeq2 PySem.MeetsSeq3
end
section
variable {prog:Program}{w:World}{A:Around}{E:Value→Shared→Prop}{s:Shared}
theorem cat_tup {t b:Addr}{vs ws:List Value}{Q:Value→Shared→Prop} (ht:IsTup s.heap t vs.toArray) (hb:IsTup s.heap b ws.toArray) (hv:vs≠[])
  (h1:ws=[]→Q (.ref t) s) (h2:ws≠[]→Q (.ref s.heap.objs.size) { s with heap:=s.heap.push { cls:=.type "tuple",data:=.seq (vs++ws).toArray } })
  (hsz:vs.length + ws.length≤sizeLine):wpAny (model prog w) A (binaryOp .Add (.ref t) (.ref b)) Q E s:=by
 obtain ⟨⟨cls,dd,data,sl⟩,ho,hc,n,hd⟩:=id ht;obtain ⟨⟨cls2,dd2,data2,sl2⟩,ho2,hc2,n2,hd2⟩:=id hb;simp only at hc hd hc2 hd2;subst hc hd hc2 hd2;have e:vs.toArray++ws.toArray=(vs++ws).toArray:=by simp
 by_cases hw:ws=[]
 ·exact concat_meets ⟨_,ho,rfl⟩ ⟨_,ho2,rfl⟩ noFill_tuple_add seq_tuple_add PySem.F.slot_tuple_add PySem.F.entry_tuple_add (PySem.F.args_tuple_add_2 _ _)
   (tuple_addW1 t b vs.toArray ws.toArray n n2 dd dd2 sl sl2 (by simpa using hv) (by simp [hw])) ⟨ho,ho2,h1 hw⟩
 ·refine concat_meets ⟨_,ho,rfl⟩ ⟨_,ho2,rfl⟩ noFill_tuple_add seq_tuple_add PySem.F.slot_tuple_add PySem.F.entry_tuple_add (PySem.F.args_tuple_add_2 _ _)
   (tuple_addW2 t b vs.toArray ws.toArray n n2 dd dd2 sl sl2 (by simpa using hv) (by simpa using hw) (by rw [Z8,Z8];exact hsz)) ⟨ho,ho2,?_⟩
  rw [e];exact h2 hw
noncomputable def sIx (n d:Nat):Option Int→Nat
 | none=>d
 | some v=>if v < 0 then (v + (n:Int)).toNat else min v.toNat n
theorem sIx_nat (n d k:Nat):sIx n d (some (k:Int))=min k n:=by
 show (if (k:Int) < 0 then ((k:Int) + (n:Int)).toNat else min (k:Int).toNat n)=min k n;rw [if_neg (by omega),Int.toNat_natCast]
theorem sIx_le (n d:Nat) (hd:d≤n) (o:Option Int):sIx n d o≤n:=by
 cases o with
 | none=>exact hd
 | some v =>
  show (if v < 0 then (v + (n:Int)).toNat else min v.toNat n)≤n;by_cases hv:v < 0
  ·rw [if_pos hv];omega
  ·rw [if_neg hv];exact Nat.min_le_right _ _
theorem clip_eq (v:Int) (n d:Nat):(if v < 0 then max (v + (n:Int)) 0 else min v (n:Int))=((sIx n d (some v):Nat):Int):=by
 show (if v < 0 then max (v + (n:Int)) 0 else min v (n:Int))=(((if v < 0 then (v + (n:Int)).toNat else min v.toNat n):Nat):Int);by_cases hv:v < 0
 ·simp only [if_pos hv];omega
 ·simp only [if_neg hv];omega
theorem adjust_gen (lo hi:Option Int) (n:Nat):Builtin.Slice.sliceAdjust lo hi 1 (n:Int)=(((sIx n 0 lo:Nat):Int),((sIx n n hi:Nat):Int)):=by
 have h1:¬ ((1:Int) < 0):=by omega
 unfold Builtin.Slice.sliceAdjust;simp only [h1,if_false];refine Prod.ext ?_ ?_
 ·cases lo with
  | none=>rfl
  | some v=>exact clip_eq v n 0
 ·cases hi with
  | none=>rfl
  | some v=>exact clip_eq v n n
theorem places_gen (i j:Nat):Builtin.Slice.slicePlaces (i:Int) (j:Int) 1=j - i:=by
 unfold Builtin.Slice.slicePlaces;have h1:(1:Int) > 0:=by omega
 simp only [h1,if_true,Int.ediv_one];split <;> omega
theorem zEl {v:Value}{o:Option Int}{Q:Option Int→Shared→Prop} (p:IsPart v o) (h:Q o s):wpAny (model prog w) A (Builtin.Slice.slicePartIndex v) Q E s:=by
 cases p with
 | none=>exact slicePart_none h
 | int i t=>exact slicePart_int h
theorem zDo {sl:Addr}{vl vu:Value}{lo hi:Option Int}{n:Nat}{Q:Int×Int×Nat→Shared→Prop} (hs:s.heap.IsSliceOf sl vl vu .none) (pl:IsPart vl lo) (pu:IsPart vu hi)
  (h:Q (((sIx n 0 lo:Nat):Int),1,sIx n n hi - sIx n 0 lo) s):wpAny (model prog w) A (Builtin.Slice.sliceApplied (.ref sl) (pure (n:Int))) Q E s:=by
 obtain ⟨os,hos,hcs,hds⟩:=id hs;unfold Builtin.Slice.sliceApplied Builtin.Slice.sliceFields;refine wpAny_bind (wpAny_bind (wpAny_field hos hds (x:=vl) rfl (wpAny_bind (wpAny_field hos hds (x:=vu) rfl (wpAny_bind (wpAny_field hos hds (x:=.none) rfl (wpAny_pure ?_)))))));refine wpAny_bind (slicePart_none ?_);show wpAny _ _ (if ((1:Int) == 0)=true then _ else _) _ _ s;rw [if_neg (by decide)];refine wpAny_bind (zEl pl (wpAny_bind (zEl pu (wpAny_bind (wpAny_pure ?_)))));show wpAny _ _ (match Builtin.Slice.sliceAdjust lo hi 1 (n:Int) with | (lo,hi)=>pure (lo,(1:Int),Builtin.Slice.slicePlaces lo hi 1)) _ _ s;rw [adjust_gen lo hi n];show wpAny _ _ (pure (((sIx n 0 lo:Nat):Int),(1:Int),Builtin.Slice.slicePlaces ((sIx n 0 lo:Nat):Int) ((sIx n n hi:Nat):Int) 1)) _ _ s;rw [places_gen];exact wpAny_pure h
theorem pick_gen (xs:Array Value) (i k:Nat):((List.range k).filterMap fun (m:Nat)=>xs[((i:Int) + (m:Int) * 1).toNat]?).toArray=((xs.toList.drop i).take k).toArray:=by
 have e:(fun (m:Nat)=>xs[((i:Int) + (m:Int) * 1).toNat]?)=fun m=>xs[i + m]?:=by
  funext m;have:((i:Int) + (m:Int) * 1).toNat=i + m:=by omega
  rw [this]
 rw [e];have:=pick_run xs i k;rw [List.filterMap_map] at this;have e2:((fun x=>xs[x]?) ∘ fun x=>i + x)=fun m=>xs[i + m]?:=rfl;rw [e2] at this;rw [this]
theorem getItem_tuple_cut {t sl:Addr}{items:Array Value}{vl vu:Value}{lo hi:Option Int}{Q:Value→Shared→Prop} (ht:IsTup s.heap t items) (hs:s.heap.IsSliceOf sl vl vu .none) (pl:IsPart vl lo) (pu:IsPart vu hi)
  (hw:¬ (sIx items.size 0 lo=0∧sIx items.size items.size hi=items.size))
  (h:Q (.ref s.heap.objs.size) { s with heap:=s.heap.push { cls:=.type "tuple",data:=.seq ((items.toList.drop (sIx items.size 0 lo)).take (sIx items.size items.size hi - sIx items.size 0 lo)).toArray } })
  (hsz:items.size≤sizeLine):wpAny (model prog w) A (getItem (.ref t) (.ref sl)) Q E s:=by
 have htake:sizeOk (.seq ((items.toList.drop (sIx items.size 0 lo)).take (sIx items.size items.size hi - sIx items.size 0 lo)).toArray):=by
  show ((items.toList.drop (sIx items.size 0 lo)).take (sIx items.size items.size hi - sIx items.size 0 lo)).toArray.size≤sizeLine;rw [Z8,Zk,List.length_drop,Yg];omega
 have hj:sIx items.size items.size hi≤items.size:=sIx_le _ _ (Z7 _) hi;obtain ⟨os,hos,hcs,hds⟩:=id hs;have hTs:s.TypeIs (.ref sl) "slice":=⟨os,hos,hcs⟩;unfold getItem
 try with_reducible refine wpAny_holding ?_
 first | refine wpAny_bind (wpAny_pure ?_) | skip
 refine wpAny_bind (wpAny_sequenceKey ht.typeIs (by decide) ?_)
 refine wpAny_bind (wpAny_callSpecial?_slot (name:=Str.ofString "__getitem__") ht.typeIs PyProof.Rows.slot_tuple_getitem
  (wpAny_call_entry PyProof.Rows.slot_tuple_getitem ht.typeIs entry_tuple_getitem ?_ (args_tuple_getitem _ _)))
 show wpAny _ _ (Builtin.Tuple.tupleItemsOf (.ref t) >>= _) _ _ s;refine wpAny_bind (tupleItemsOf_ ht ?_);refine wpAny_bind (wpAny_typeOf hTs ?_);rw [if_pos (by decide)];refine wpAny_bind (zDo hs pl pu ?_);have hno:¬ ((((sIx items.size 0 lo:Nat):Int) == 0 && (1:Int) == 1 && (sIx items.size items.size hi - sIx items.size 0 lo) == items.size)=true):=by
  intro q;rw [Zu,Zu] at q;have q1:((sIx items.size 0 lo:Nat):Int)=0:=eq_of_beq q.1.1;have q2:sIx items.size items.size hi - sIx items.size 0 lo=items.size:=eq_of_beq q.2;exact hw ⟨by omega,by omega⟩
 show wpAny _ _ (if (((sIx items.size 0 lo:Nat):Int) == 0 && (1:Int) == 1 && (sIx items.size items.size hi - sIx items.size 0 lo) == items.size)=true then _ else _) _ _ s;rw [if_neg hno,pick_gen]
 first
  | exact wpAny_bind (m:=Builtin.Tuple.tupleExact _) (wpAny_newObj_type (wpAny_pure ⟨_,rfl,wpAny_pure h⟩) htake)
  | exact wpAny_bind (m:=Builtin.Tuple.tupleExact _) (wpAny_newObj_type (wpAny_bind (wpAny_pure (wpAny_pure ⟨_,rfl,wpAny_pure h⟩))) htake)
  | exact wpAny_bind (wpAny_bind (m:=Builtin.Tuple.tupleExact _) (wpAny_newObj_type (wpAny_pure (wpAny_pure ⟨_,rfl,wpAny_pure h⟩)) htake))
  | exact wpAny_bind (wpAny_bind (m:=Builtin.Tuple.tupleExact _) (wpAny_newObj_type (wpAny_pure ⟨_,rfl,wpAny_pure h⟩) htake))
end
end HT
namespace L2
open PySem PySem.Spec PyProof.Rows
noncomputable abbrev TO:=St→Hp→(Option Int→Hp→Prop)→Prop
noncomputable def PO (X:Cx) (e:Option Expr) (t:TO):Prop :=
 ∀ (pins:List (Addr×Obj)) (s:Shared) (σ : St) (H:Hp) (Q:Option Int→Hp→Prop),Inv X pins σ H s→t σ H Q →
  wpAny (model X.prog X.w) X.A (evalPart e X.env) (fun u s'=>∃ o H',Inv X pins σ H' s'∧IsPart u o∧Q o H') X.xe s
noncomputable def tNoPart:TO:=fun _ H Q=>Q none H
noncomputable def tPart (t:TE):TO:=fun σ H Q=>t σ H fun x H1=>∃ i,x=.int i∧Q (some i) H1
section
variable {X:Cx}{e:Expr}{te:TE}{lo hi:Option Expr}{tl th:TO}{pos p2:Pos}
theorem zDv:PO X none tNoPart:=by
 intro pins s σ H Q I h;rw [evalPart_none];exact wpAny_pure ⟨none,H,I,.none,h⟩
theorem zCy (h:PE X e te):PO X (some e) (tPart te):=by
 intro pins s σ H Q I hw;rw [evalPart_some];refine thn (h pins s σ H _ I hw) fun u s1 ⟨x,H1,I1,r1,q1⟩=>?_;obtain ⟨i,rfl,q⟩:=q1;obtain ⟨t,rfl⟩:=r1;exact ⟨some i,H1,I1,.int i t,q⟩
noncomputable def SlR (X:Cx) (r:V→Option Int→Option Int→Hp→VK→Prop):Prop :=
 ∀ (pins:List (Addr×Obj)) (s:Shared) (σ : St) (H:Hp) (x:V) (v vl vu:Value) (lo hi:Option Int) (sl:Addr) (Q:VK),Inv X pins σ H s→RelV x v→s.heap.IsSliceOf sl vl vu .none→IsPart vl lo→IsPart vu hi→r x lo hi H Q →
  ∃ T id,typeLookup (.type T) "__getitem__" = pure (some (.builtin id))∧s.TypeIs v T∧wpAny (model X.prog X.w) X.A (getItem v (.ref sl)) (EP X pins σ Q) X.xe s
noncomputable def tSl (r:V→Option Int→Option Int→Hp→VK→Prop) (te:TE) (tl th:TO):TE:=fun σ H Q=>te σ H fun x H1=>tl σ H1 fun l H2=>th σ H2 fun u H3=>r x l u H3 Q
theorem zCa {r:V→Option Int→Option Int→Hp→VK→Prop} (hr:SlR X r) (he:PE X e te) (hl:PO X lo tl) (hu:PO X hi th):PE X (.Subscript e (.Slice lo hi none p2) pos) (tSl r te tl th):=by
 intro pins s σ H Q I h;refine Subscript_ (thn (he pins s σ H _ I h) fun v s1 ⟨x,H1,I1,r1,q1⟩=>?_);refine wpAny_Slice (thn (hl pins s1 σ H1 _ I1 q1) fun vl s2 ⟨l,H2,I2,pl,q2⟩=>thn (hu pins s2 σ H2 _ I2 q2) fun vu s3 ⟨u,H3,I3,pu,q3⟩=>?_);rw [evalPart_none];refine wpAny_pure ?_;have I4:Inv X pins σ H3 { s3 with heap:=s3.heap.push { cls:=.type "slice",data:=.fields #[vl,vu,.none] } }:=I3.kept (t':=s3.toks) fun b ob q=>Z2 _ q;obtain ⟨T,id,hT,ht,hg⟩:=hr pins { s3 with heap:=s3.heap.push { cls:=.type "slice",data:=.fields #[vl,vu,.none] } } σ H3 x v vl vu l u s3.heap.objs.size Q I4 r1 (Heap.IsSliceOf.new ..) pl pu q3;show wpAny (model X.prog X.w) X.A (subscriptTail e (.Slice lo hi none p2) v (.ref s3.heap.objs.size)) (EP X pins σ Q) X.xe { s3 with heap:=s3.heap.push { cls:=.type "slice",data:=.fields #[vl,vu,.none] } };exact tail_any (ops:=[.ref s3.heap.objs.size,v]) ht hT hg (by with_unfolding_all rfl)
noncomputable def cutV (xs:List V) (lo hi:Option Int):List V:=(xs.drop (HT.sIx xs.length 0 lo)).take (HT.sIx xs.length xs.length hi - HT.sIx xs.length 0 lo)
theorem zEb (xs:List V) (lo hi:Option Int):(cutV xs lo hi).length≤xs.length:=by
 unfold cutV;rw [Zk,List.length_drop];omega
noncomputable def rSlT (K:PySem.W.Frag):V→Option Int→Option Int→Hp→VK→Prop:=fun x lo hi H Q=>∃ a xs,x=.ref a∧SqT K H a xs ∧
 ¬ (HT.sIx xs.length 0 lo=0∧HT.sIx xs.length xs.length hi=xs.length)∧∀ p,H p=none→Q (.ref p) (upd H p (.tup (cutV xs lo hi)))
theorem sl_tup:SlR X (rSlT X.K):=by
 intro pins s σ H x v vl vu lo hi sl Q I rx hs pl pu h;obtain ⟨a,xs,rfl,hx,hw,q⟩:=h;cases rx;obtain ⟨its,r,ht,hz⟩:=I.tuple hx;have hlen:its.toArray.size=xs.length:=by rw [Z8];exact r.length.symm
 refine ⟨"tuple",_,PyProof.Rows.slot_tuple_getitem.lookup,ht.typeIs,?_⟩;refine HT.getItem_tuple_cut ht hs pl pu (by rw [hlen];exact hw) ?_ (by rw [hlen];exact hz);rw [hlen];refine ⟨.ref s.heap.objs.size,_,I.laid (t':=s.toks) (o:=.tup (cutV xs lo hi)) (fun b ob q=>Z2 _ q) (Z7 _) ?_,rfl,q _ (I.hok.fresh (Z7 _))⟩;exact ⟨Zm (zEb xs lo hi) hz,_,(r.drop (HT.sIx xs.length 0 lo)).take (HT.sIx xs.length xs.length hi - HT.sIx xs.length 0 lo),IsTup.new _ _⟩
theorem Vals.nil_iff {xs:List V}{us:List Value} (r:Vals xs us):us=[] ↔ xs=[]:=by
 cases r with
 | nil=>simp
 | cons _ _=>simp
end
end L2
namespace L2
open PySem PySem.Spec PyProof.Rows
noncomputable def ixN (n:Nat) (i:Int):Option Nat:=if 0≤i then (if i < n then some i.toNat else none) else if -(n:Int)≤i then some (i + n).toNat else none
noncomputable def atI {α : Type} (xs:List α) (i:Int):Option α:=(ixN xs.length i).bind fun j=>xs[j]?
theorem ixN_seq {n:Nat}{i:Int}{j:Nat} (h:ixN n i=some j):seqIndex? i n=some j∧j < n∧-(n:Int)≤i∧i < n:=by
 unfold ixN at h;by_cases h0:0≤i
 ·rw [if_pos h0] at h;by_cases h1:i < n
  ·rw [if_pos h1] at h;have e:i.toNat=j:=Zf h;exact ⟨by rw [seqIndex_of h0 h1,e],by omega,by omega,h1⟩
  ·rw [if_neg h1] at h;cases h
 ·rw [if_neg h0] at h;by_cases h1 : -(n:Int)≤i
  ·rw [if_pos h1] at h;have e:(i + n).toNat=j:=Zf h;exact ⟨by rw [seqIndex_neg (by omega) h1,e],by omega,h1,by omega⟩
  ·rw [if_neg h1] at h;cases h
theorem atI_get {α : Type}{xs:List α}{i:Int}{v : α} (h:atI xs i=some v):∃ j,seqIndex? i xs.length=some j∧xs[j]? = some v∧j < xs.length∧-(xs.length:Int)≤i∧i < xs.length:=by
 unfold atI at h;cases e:ixN xs.length i with
 | none=>rw [e] at h;cases h
 | some j =>
  rw [e] at h;obtain ⟨h1,h2,h3,h4⟩:=ixN_seq e;exact ⟨j,h1,h,h2,h3,h4⟩
theorem zB5 {α : Type}{xs:List α}{j:Nat}{v : α} (h:xs[j]? = some v):atI xs (j:Int)=some v:=by
 have hj:j < xs.length:=(List.getElem?_eq_some_iff.mp h).1;have e:ixN xs.length (j:Int)=some j:=by
  unfold ixN;rw [if_pos (by omega),if_pos (by omega)];simp
 unfold atI;rw [e];exact h
noncomputable def PlainIx (b:Expr):Prop:=∀ o i,subscripted b false o i=operate [o,i] (getItem o i)
noncomputable def IxR (X:Cx) (r:R2):Prop :=
 ∀ (value slice:Expr) (pins:List (Addr×Obj)) (s:Shared) (σ : St) (H:Hp) (x y:V) (v u:Value) (Q:VK),Inv X pins σ H s→RelV x v→RelV y u→r x y H Q →
  subscripted slice false v u=operate [v,u] (getItem v u)→wpAny (model X.prog X.w) X.A (subscriptTail value slice v u) (EP X pins σ Q) X.xe s
noncomputable def MtR (X:Cx) (id:String) (r:V→List V→Hp→VK→Prop):Prop :=
 ∀ (pins:List (Addr×Obj)) (s:Shared) (σ : St) (H:Hp) (x:V) (xs:List V) (v:Value) (us:List Value) (Q:VK),Inv X pins σ H s→RelV x v→Vals xs us→r x xs H Q →
  wpAny (model X.prog X.w) X.A (call (.builtin id) (v :: us)) (EP X pins σ Q) X.xe s
section
variable {X:Cx}{a b:Expr}{ta tb:TE}{pos:Pos}
theorem zAf {r:R2} (hr:IxR X r) (ha:PE X a ta) (hb:PE X b tb) (hs:PlainIx b):PE X (.Subscript a b pos) (tOp r ta tb):=by
 intro pins s σ H Q I h;exact Subscript_ (binT ha hb I h fun v u s2 x y H2 I2 rx ry q=>hr a b pins s2 σ H2 x y v u Q I2 rx ry q (hs _ _))
noncomputable def rIxL (K:PySem.W.Frag):R2:=fun x y H Q=>∃ p xs i v,x=.ref p∧y=.int i∧SqL K H p xs∧atI xs i=some v∧Q v H
noncomputable def rIxT (K:PySem.W.Frag):R2:=fun x y H Q=>∃ p xs i v,x=.ref p∧y=.int i∧SqT K H p xs∧atI xs i=some v∧Q v H
theorem zAr:IxR X (rIxL X.K):=by
 intro value slice pins s σ H x y v u Q I rx ry h hs;obtain ⟨p,xs,i,z,rfl,rfl,hq,he,q⟩:=h;cases rx;obtain ⟨t,rfl⟩:=ry;obtain ⟨its,r,pl,hz⟩:=I.list hq;obtain ⟨j,h1,h2,h3,h4,h5⟩:=atI_get he;obtain ⟨w,ew,rw'⟩:=r.get h2;have hl:=r.length;have hn:=line63;have fin:EP X pins σ Q w s:=⟨z,H,I,rw',q⟩;by_cases h0:0≤i
 ·have hj:i.toNat=j:=by
   rw [seqIndex_of h0 h5] at h1;exact Zf h1
  exact item_listR pl.isList h0 (by omega) (by rw [hj];simpa using ew) fin hs
 ·have hj:(i + (its.toArray.size:Int)).toNat=j:=by
   rw [seqIndex_neg (by omega) h4] at h1;rw [Z8,← hl];exact Zf h1
  exact subscriptTail_builtinR (x:=w) pl.isList.typeIs slot_list_getitem.lookup
   (wpAny_getItem_list_neg (Q:=fun r s'=>r=w∧EP X pins σ Q r s') pl.isList (by omega) (by rw [Z8] <;> omega) (by omega) (by rw [hj];simpa using ew) ⟨rfl,fin⟩) hs
theorem zAd:IxR X (rIxT X.K):=by
 intro value slice pins s σ H x y v u Q I rx ry h hs;obtain ⟨p,xs,i,z,rfl,rfl,hq,he,q⟩:=h;cases rx;obtain ⟨t,rfl⟩:=ry;obtain ⟨its,r,pl,hz⟩:=I.tuple hq;obtain ⟨j,h1,h2,h3,h4,h5⟩:=atI_get he;obtain ⟨w,ew,rw'⟩:=r.get h2;have hl:=r.length;have hn:=line63;have fin:EP X pins σ Q w s:=⟨z,H,I,rw',q⟩;exact subscriptTail_builtinR (x:=w) pl.typeIs slot_tuple_getitem.lookup
  (getItem_tuple (j:=j) (Q:=fun r s'=>r=w∧EP X pins σ Q r s') pl (by omega) (by omega) (by rw [Z8,← hl];exact h1) (by simpa using ew) ⟨rfl,fin⟩) hs
theorem mapSeq_set (its:List Value) (n j:Nat) (u:Value):Obj.mapSeq (·.setIfInBounds j u) { cls:=.type "list",data:=.seq its.toArray n }={ cls:=.type "list",data:=.seq (its.set j u).toArray n }:=by
 simp [Obj.mapSeq]
theorem Inv.lst {pins:List (Addr×Obj)}{σ : St}{H:Hp}{s:Shared}{p:Addr}{xs:List V} (I:Inv X pins σ H s) (h:H p=some (.lst xs)) :
  ∃ (its:List Value) (n:Nat),Vals xs its∧s.heap.get? p=some { cls:=.type "list",data:=.seq its.toArray n }∧xs.length≤sizeLine:=by
 obtain ⟨z,its,n,r,e⟩:=I.hok p _ h;exact ⟨its,n,r,e,z⟩
theorem Inv.lstUpd {pins:List (Addr×Obj)}{σ : St}{H:Hp}{s:Shared}{p:Addr}{xs ys:List V}{its its':List Value}{n n':Nat}{f:Obj→Obj} (I:Inv X pins σ H s) (h:H p=some (.lst xs))
  (ho:s.heap.get? p=some { cls:=.type "list",data:=.seq its.toArray n }) (hf:f { cls:=.type "list",data:=.seq its.toArray n }={ cls:=.type "list",data:=.seq its'.toArray n' }) (r:Vals ys its') (hz:ys.length≤sizeLine) (t:Nat) :
  Inv X pins σ (upd H p (.lst ys)) { s with heap:=s.heap.update p f,toks:=t }:=by
 have e:(s.heap.update p f).get? p=some { cls:=.type "list",data:=.seq its'.toArray n' }:=by
  rw [Heap.get?_update_self f ho (by rw [hf] <;> rfl),hf]
 refine I.write (x:=p) (e:=p) (by rw [h];trivial) (.inl rfl) (fun b u hb q=>(Heap.get?_update_other _ _ (Ne.symm hb)).trans q) ⟨_,e⟩ ?_;exact ⟨hz,its',n',r,e⟩
noncomputable def rSetL:V→V→V→Hp→(Hp→Prop)→Prop:=fun o i v H Q=>∃ p xs k j,o=.ref p∧i=.int k∧H p=some (.lst xs)∧ixN xs.length k=some j∧Q (upd H p (.lst (xs.set j v)))
theorem set_list:PSet X rSetL:=by
 intro pins s σ H o i v ov iv u Q I ro ri rv h;obtain ⟨p,xs,k,j,rfl,rfl,hp,hj,q⟩:=h;cases ro;obtain ⟨t,rfl⟩:=ri;obtain ⟨its,n,r,ho,hz⟩:=I.lst hp;obtain ⟨h1,h2,h3,h4⟩:=ixN_seq hj;have hl:=r.length;have hn:=line63;have I':Inv X pins σ (upd H p (.lst (xs.set j v))) { s with heap:=s.heap.update p (Obj.mapSeq (·.setIfInBounds j u)) } :=
  I.lstUpd hp ho (mapSeq_set its n j u) (r.set rv j) (by rw [List.length_set];exact hz) s.toks
 by_cases h0:0≤k
 ·have hk:k.toNat=j:=by
   rw [seqIndex_of h0 h4] at h1;exact Zf h1
  exact PySem.W.ki_setAt ho h0 (by omega) (by rw [Z8,← hl];exact h4) (by rw [hk];exact ⟨_,I',q⟩)
 ·have hk:(k + (its.toArray.size:Int)).toNat=j:=by
   rw [seqIndex_neg (by omega) h3] at h1;rw [Z8,← hl];exact Zf h1
  exact PySem.W.ki_setBack ho (by omega) (by rw [Z8,← hl];exact h3) (by omega) (by rw [hk];exact ⟨_,I',q⟩)
theorem slice_bounds (lo hi:Option Int) (n:Nat):(sliceBounds lo hi none n).1=((HT.sIx n 0 lo:Nat):Int)∧(sliceBounds lo hi none n).2.1=((HT.sIx n n hi:Nat):Int)∧(sliceBounds lo hi none n).2.2=1:=by
 refine ⟨?_,?_,rfl⟩
 ·cases lo with
  | none=>simp [sliceBounds,HT.sIx]
  | some i =>
   simp only [sliceBounds,HT.sIx,Option.getD_none,show (1:Int) > 0 by decide,if_true];by_cases h:i < 0
   ·simp only [h,if_true] <;> omega
   ·simp only [h,if_false] <;> omega
 ·cases hi with
  | none=>simp [sliceBounds,HT.sIx]
  | some i =>
   simp only [sliceBounds,HT.sIx,Option.getD_none,show (1:Int) > 0 by decide,if_true];by_cases h:i < 0
   ·simp only [h,if_true] <;> omega
   ·simp only [h,if_false] <;> omega
theorem zD3 (its:List Value) (lo hi:Option Int):slicePick its.toArray lo hi none=((its.drop (HT.sIx its.length 0 lo)).take (HT.sIx its.length its.length hi - HT.sIx its.length 0 lo)).toArray:=by
 obtain ⟨h1,h2,h3⟩:=slice_bounds lo hi its.toArray.size;unfold slicePick;rw [h1,h2,h3];simp only [sliceRange_one,pick_run,Z8] <;> rfl
noncomputable def rSlL (K:PySem.W.Frag):V→Option Int→Option Int→Hp→VK→Prop:=fun x lo hi H Q=>∃ a xs,x=.ref a∧SqL K H a xs∧∀ p,H p=none→Q (.ref p) (upd H p (.lst (cutV xs lo hi)))
theorem sl_list:SlR X (rSlL X.K):=by
 intro pins s σ H x v vl vu lo hi sl Q I rx hs pl pu h;obtain ⟨a,xs,rfl,hx,q⟩:=h;cases rx;obtain ⟨its,r,ht,hz⟩:=I.list hx;have hlen:=r.length;refine ⟨"list",_,slot_list_getitem.lookup,ht.isList.typeIs,?_⟩;refine wpAny_getItem_list_slice ht.isList hs pl pu .none (by simp) ?_ (by rw [Z8] <;> omega);rw [zD3,← hlen];refine ⟨.ref s.heap.objs.size,_,I.laid (t':=s.toks) (o:=.lst (cutV xs lo hi)) (fun b ob q=>Z2 _ q) (Z7 _) ?_,rfl,q _ (I.hok.fresh (Z7 _))⟩;exact ⟨Zm (zEb xs lo hi) hz,_,0,(r.drop (HT.sIx xs.length 0 lo)).take (HT.sIx xs.length xs.length hi - HT.sIx xs.length 0 lo),Za _ rfl⟩
noncomputable def flatV:V→Bool
 | .non=>true
 | .bl _=>true
 | .int _=>true
 | .str _=>true
 | _=>false
noncomputable def eqV:V→V→Bool
 | .non,.non=>true
 | .bl a,.bl b=>a == b
 | .bl a,.int b=>(if a then 1 else 0) == b
 | .int a,.bl b=>a == (if b then 1 else 0)
 | .int a,.int b=>a == b
 | .str a,.str b=>a == b
 | _,_=>false
theorem eqAt_V {A:Around}{s:Shared}{y x:V}{u v:Value} (ry:RelV y u) (rx:RelV x v) (fy:flatV y=true) (fx:flatV x=true):SeqAt.EqAt A s u v (eqV y x):=by
 cases y with
 | non =>
  cases ry;cases x with
  | non=>cases rx;exact SeqAt.EqAt.same _
  | bl b=>cases rx;exact SeqAt.EqAt.none_bool b
  | int b=>obtain ⟨t,rfl⟩:=rx;exact SeqAt.EqAt.none_int b t
  | str b=>obtain ⟨t,rfl⟩:=rx;exact SeqAt.EqAt.none_str b t
  | _=>exact absurd (show false=true from fx) Zc
 | bl a =>
  cases ry;cases x with
  | non=>cases rx;exact SeqAt.EqAt.bool_none a
  | bl b=>cases rx;exact SeqAt.EqAt.bool_bool a b
  | int b=>obtain ⟨t,rfl⟩:=rx;exact SeqAt.EqAt.bool_int a b t
  | str b=>obtain ⟨t,rfl⟩:=rx;exact SeqAt.EqAt.bool_str a b t
  | _=>exact absurd (show false=true from fx) Zc
 | int a =>
  obtain ⟨t',rfl⟩:=ry;cases x with
  | non=>cases rx;exact SeqAt.EqAt.int_none a t'
  | bl b=>cases rx;exact SeqAt.EqAt.int_bool a t' b
  | int b=>obtain ⟨t,rfl⟩:=rx;exact SeqAt.EqAt.int_int a t' b t
  | str b=>obtain ⟨t,rfl⟩:=rx;exact SeqAt.EqAt.int_str a t' b t
  | _=>exact absurd (show false=true from fx) Zc
 | str a =>
  obtain ⟨t',rfl⟩:=ry;cases x with
  | non=>cases rx;exact SeqAt.EqAt.str_none a t'
  | bl b=>cases rx;exact SeqAt.EqAt.str_bool a t' b
  | int b=>obtain ⟨t,rfl⟩:=rx;exact SeqAt.EqAt.str_int a t' b t
  | str b=>obtain ⟨t,rfl⟩:=rx;exact SeqAt.EqAt.str_str a t' b t
  | _=>exact absurd (show false=true from fx) Zc
 | _=>exact absurd (show false=true from fy) Zc
noncomputable def eqU (x:V) (u:Value):Bool:=match u with
 | .none=>eqV .non x
 | .bool b=>eqV (.bl b) x
 | .int i _=>eqV (.int i) x
 | .str z _=>eqV (.str z) x
 | _=>false
theorem eqU_of {x y:V}{u:Value} (r:RelV y u) (f:flatV y=true):eqU x u=eqV y x:=by
 cases y with
 | non=>cases r;rfl
 | bl b=>cases r;rfl
 | int i=>obtain ⟨t,rfl⟩:=r;rfl
 | str z=>obtain ⟨t,rfl⟩:=r;rfl
 | _=>exact absurd (show false=true from f) Zc
theorem zEg {x:V}:∀ {xs:List V}{us:List Value},Vals xs us→xs.all flatV=true→us.any (eqU x)=xs.any fun y=>eqV y x
 | _,_,.nil,_=>rfl
 | y :: xs,u :: us,.cons r t,f=>by
  rw [Yh,Zu] at f;rw [Y5,Y5,eqU_of r f.1,zEg t f.2]
theorem zCu {A:Around}{s:Shared}{x:V}{v:Value} (rx:RelV x v) (fx:flatV x=true):∀ {xs:List V}{us:List Value},Vals xs us→xs.all flatV=true→∀ u∈us,SeqAt.EqAt A s u v (eqU x u)
 | _,_,.nil,_=>fun u hu=>by cases hu
 | y :: xs,u :: us,.cons r t,f=>fun u' hu=>by
  rw [Yh,Zu] at f;rcases List.mem_cons.mp hu with rfl | hu
  ·rw [eqU_of r f.1];exact eqAt_V r rx f.1 fx
  ·exact zCu rx fx t f.2 u' hu
noncomputable def inV (x:V) (xs:List V):Bool:=xs.any fun y=>eqV y x
noncomputable def rIn (K:PySem.W.Frag) (neg:Bool):R2:=fun x y H Q=>∃ p xs,y=.ref p∧(SqL K H p xs∨SqT K H p xs)∧flatV x=true∧xs.all flatV=true∧Q (.bl (if neg then !inV x xs else inV x xs)) H
theorem zD9:OpR X (compareOp .In) (rIn X.K false):=by
 intro pins s σ H x y v u Q I rx ry h;obtain ⟨p,xs,rfl,hq,fx,fs,q⟩:=h;cases ry;rcases hq with hq | hq
 ·obtain ⟨its,r,pl,hz⟩:=I.list hq;refine SeqAt.in_listAt (eqU x) pl.isList (fun w hw=>zCu rx fx r fs w (by simpa using hw)) ⟨.bl _,H,I,rfl,?_⟩;rw [show its.toArray.any (eqU x)=its.any (eqU x) by simp,zEg r fs];exact q
 ·obtain ⟨its,r,pl,hz⟩:=I.tuple hq;refine SeqAt.in_tupleAt (eqU x) pl (fun w hw=>zCu rx fx r fs w (by simpa using hw)) ⟨.bl _,H,I,rfl,?_⟩;rw [show its.toArray.any (eqU x)=its.any (eqU x) by simp,zEg r fs];exact q
theorem zBz:OpR X (compareOp .NotIn) (rIn X.K true):=by
 intro pins s σ H x y v u Q I rx ry h;obtain ⟨p,xs,rfl,hq,fx,fs,q⟩:=h;cases ry;rcases hq with hq | hq
 ·obtain ⟨its,r,pl,hz⟩:=I.list hq;refine SeqAt.notIn_listAt (eqU x) pl.isList (fun w hw=>zCu rx fx r fs w (by simpa using hw)) ⟨.bl _,H,I,rfl,?_⟩;rw [show its.toArray.any (eqU x)=its.any (eqU x) by simp,zEg r fs];exact q
 ·obtain ⟨its,r,pl,hz⟩:=I.tuple hq;refine SeqAt.notIn_tupleAt (eqU x) pl (fun w hw=>zCu rx fx r fs w (by simpa using hw)) ⟨.bl _,H,I,rfl,?_⟩;rw [show its.toArray.any (eqU x)=its.any (eqU x) by simp,zEg r fs];exact q
theorem zAu:CallR X (.builtin "len") (fun xs H Q=>∃ p ys,xs=[.ref p]∧(SqL X.K H p ys∨SqT X.K H p ys)∧Q (.int ys.length) H):=by
 intro pins s σ H xs us Q I r h;obtain ⟨p,ys,rfl,hq,q⟩:=h;obtain ⟨u,rfl,rx⟩:=vals1 r;cases rx;have hn:=line63;rcases hq with hq | hq
 ·obtain ⟨its,r',pl,hz⟩:=I.list hq;have hlen:=r'.length;exact Calls.call_len_list pl.isList (by simp only [Z8] <;> omega) ⟨.int ys.length,H,I.tok _,⟨s.toks + 1,by rw [Z8,hlen]⟩,q⟩
 ·obtain ⟨its,r',pl,hz⟩:=I.tuple hq;have hlen:=r'.length;exact len_tuple pl (by simp only [Z8] <;> omega) ⟨.int ys.length,H,I.tok _,⟨s.toks + 1,by rw [Z8,hlen]⟩,q⟩
theorem call_len_str:CallR X (.builtin "len") (fun xs H Q=>∃ z,xs=[.str z]∧z.length≤sizeLine∧Q (.int z.length) H):=by
 intro pins s σ H xs us Q I r h;obtain ⟨z,rfl,hz,q⟩:=h;obtain ⟨u,rfl,t,rfl⟩:=vals1 r;have hn:=line63;exact len_str (by omega) ⟨.int z.length,H,I.tok _,⟨_,rfl⟩,q⟩
theorem zB1:CallR X (.type "list") (fun xs H Q=>∃ p ys,xs=[.ref p]∧(SqL X.K H p ys∨SqT X.K H p ys)∧∀ l,H l=none→Q (.ref l) (upd H l (.lst ys))):=by
 intro pins s σ H xs us Q I r h;obtain ⟨p,ys,rfl,hq,q⟩:=h;obtain ⟨u,rfl,rx⟩:=vals1 r;cases rx
 have fin:∀ (its:List Value),Vals ys its→ys.length≤sizeLine→∀ (h':Heap) (c':Nat),(∀ b o',s.heap.get? b=some o'→h'.get? b=some o') →
   h'.get? s.heap.objs.size=some { cls:=.type "list",dict:=none,data:=.seq its.toArray c',slots:=#[] }→EP X pins σ Q (.ref s.heap.objs.size) { s with heap:=h' }:=fun its r' hz h' c' kp e =>
  ⟨.ref s.heap.objs.size,_,I.laid (t':=s.toks) kp (Z7 _) (show ObjOk X.prog X.w _ h' _ (.lst ys) from ⟨hz,its,c',r',e⟩),rfl,q _ (I.hok.fresh (Z7 _))⟩
 rcases hq with hq | hq
 ·obtain ⟨its,r',pl,hz⟩:=I.list hq;have hlen:=r'.length;obtain ⟨o,ho,hc,n,hd⟩:=pl.isList;exact call_list_seq p (.inl rfl) ho hc hd (fun h' c' kp e=>fin its r' hz h' c' kp e) (by simp only [Z8] <;> omega)
 ·obtain ⟨its,r',pl,hz⟩:=I.tuple hq;have hlen:=r'.length;obtain ⟨o,ho,hc,n,hd⟩:=pl;exact call_list_seq p (.inr rfl) ho hc hd (fun h' c' kp e=>fin its r' hz h' c' kp e) (by simp only [Z8] <;> omega)
theorem zCd:CallR X (.type "tuple") (fun xs H Q=>∃ p ys,xs=[.ref p]∧((SqL X.K H p ys∧∀ l,H l=none→Q (.ref l) (upd H l (.tup ys)))∨(SqT X.K H p ys∧Q (.ref p) H))):=by
 intro pins s σ H xs us Q I r h;obtain ⟨p,ys,rfl,h⟩:=h;obtain ⟨u,rfl,rx⟩:=vals1 r;cases rx;rcases h with ⟨hq,q⟩ | ⟨hq,q⟩
 ·obtain ⟨its,r',pl,hz⟩:=I.list hq;have hlen:=r'.length;refine call_tuple_list pl.isList (fun h' kp=>?_) (by simp only [Z8] <;> omega);have I1:Inv X pins σ H { s with heap:=h' }:=I.kept (t':=s.toks) kp;have I2:Inv X pins σ (upd H h'.objs.size (.tup ys)) { s with heap:=h'.push { cls:=.type "tuple",data:=.seq its.toArray } } :=
   I1.laid (t':=s.toks) (fun b o e=>Z2 _ e) (Z7 _) (show ObjOk X.prog X.w _ _ _ (.tup ys) from ⟨hz,its,r',IsTup.new _ _⟩)
  exact ⟨.ref h'.objs.size,_,I2,rfl,q _ (I1.hok.fresh (Z7 _))⟩
 ·obtain ⟨its,r',pl,hz⟩:=I.tuple hq;exact call_tuple_same pl ⟨.ref p,H,I,rfl,q⟩
noncomputable def tyV (K:PySem.W.Frag) (T:String) (x:V) (H:Hp):Prop:=match x with
 | .str _=>T = "str"
 | .int _=>T = "int"
 | .ref p=>(T = "list"∧∃ xs,SqL K H p xs)∨(T = "tuple"∧∃ o,K.lookup p=some o∧o.cls=.type "tuple"∧o.dict=none) ∨
   (T = "dict"∧((∃ kvs,H p=some (.dK kvs))∨∃ kvs,H p=some (.dT kvs)))∨(T = "set"∧∃ S n,H p=some (.set S n))
 | _=>False
theorem tyV_is {pins:List (Addr×Obj)}{σ : St}{H:Hp}{s:Shared}{T:String}{x:V}{v:Value} (I:Inv X pins σ H s) (r:RelV x v) (ty:tyV X.K T x H) :
  s.TypeIs v T∧∀ a,v=.ref a→∃ ob,s.heap.get? a=some ob∧ob.dict=none:=by
 cases x with
 | str z =>
  obtain ⟨t,rfl⟩:=r;cases (show T = "str" from ty);exact ⟨typeIs_str s z t,fun _ e=>nomatch e⟩
 | int i =>
  obtain ⟨t,rfl⟩:=r;cases (show T = "int" from ty);exact ⟨typeIs_int s i t,fun _ e=>nomatch e⟩
 | ref p =>
  cases r;rcases ty with ⟨rfl,xs,hq⟩ | ⟨rfl,o,hk,hc,hd⟩ | ⟨rfl,hk⟩ | ⟨rfl,S,n,hk⟩
  ·obtain ⟨its,_,pl,_⟩:=I.list hq;refine ⟨pl.isList.typeIs,fun a e=>?_⟩;cases e;obtain ⟨o,n,e,c,hd,_⟩:=pl;exact ⟨o,e,hd⟩
  ·refine ⟨⟨o,I.kIn p o hk,hc⟩,fun a e=>?_⟩;cases e;exact ⟨o,I.kIn _ o hk,hd⟩
  ·have z:∃ o,s.heap.get? p=some o∧o.ExactDict:=by
    rcases hk with ⟨kvs,hk⟩ | ⟨kvs,hk⟩
    ·obtain ⟨_,_,_,_,o,_,_,e,ex,_⟩:=I.hok p _ hk;exact ⟨o,e,ex⟩
    ·obtain ⟨_,_,_,_,o,_,_,e,ex,_⟩:=I.hok p _ hk;exact ⟨o,e,ex⟩
   obtain ⟨o,e,ex⟩:=z;refine ⟨⟨o,e,ex.1⟩,fun a e2=>?_⟩;cases e2;exact ⟨o,e,ex.2.1⟩
  ·obtain ⟨o,_,_,_,e,ex,_⟩:=I.hok p _ hk;refine ⟨⟨o,e,ex.1⟩,fun a e2=>?_⟩;cases e2;exact ⟨o,e,ex.2.1⟩
 | _=>exact False.elim ty
noncomputable def tBM (K:PySem.W.Frag) (T:String) (r:V→List V→Hp→VK→Prop) (to:TE) (t:TA):TE:=fun σ H Q=>to σ H fun x H1=>tyV K T x H1∧t σ H1 fun xs H2=>r x xs H2 Q
variable {o e:Expr}{es:List Expr}{to:TE}{t:TA}{name:Str}{apos cpos:Pos}{T id:String}{r:V→List V→Hp→VK→Prop}
theorem zEi (pa:PlainAttrs T) (slot:Slot T name id) (hty:typeOf (.builtin id)=pure (.type "method_descriptor")) (hm:MtR X id r) (ho:PE X o to) (ha:PA X (e :: es) t)
  (hbase:attributeBase o name X.env (eval o X.env)=eval o X.env:=by rfl)
  (hfew:((backTo cpos (starEach (e :: es) X.env)).all (fun x=>!x.1) && (backToKw cpos (keywordEach [] X.env)).all (fun x=>x.1.isSome)
   && decide ((e :: es).length + ([]:List Keyword).length + (if ([]:List Keyword).isEmpty then 0 else 1) < 30))=true:=by rfl)
  (hline:(apos.endLine == cpos.line)=true:=by rfl) (hs:starEach (e :: es) X.env=(false,eval e X.env) :: starEach es X.env:=by rfl) (hplain:(backTo cpos (starEach es X.env)).any (·.1)=false:=by rfl) :
  PE X (.Call (.Attribute o name apos) (e :: es) [] cpos) (tBM X.K T r to t):=by
 intro pins s σ H Q I h;refine wpAny_Call_method_late hbase hfew hline rfl (thn (ho pins s σ H _ I h) fun v s1 ⟨x,H1,I1,r1,ty,q1⟩=>?_);obtain ⟨h1,h2⟩:=tyV_is I1 r1 ty;refine ⟨T,id,pa,slot,hty,h1,h2,?_⟩;have hA:=ha cpos pins s1 σ H1 _ I1 q1;rw [hs] at hA ⊢;refine Calls.callWith_builtin (by show (false || (backTo cpos (starEach es X.env)).any (·.1))=false;rw [hplain] <;> rfl) (Calls.evalArgs_plain ?_);exact thn hA fun us s2 ⟨vs,H2,I2,r2,q2⟩=>hm pins s2 σ H2 x vs v us Q I2 r1 r2 q2
end
end L2
namespace L2
open PySem PySem.Spec PyProof.Rows
noncomputable def MtM (X:Cx) (id:String) (r:V→List V→Hp→VK→Prop):Prop :=
 ∀ (pins:List (Addr×Obj)) (s:Shared) (σ : St) (H:Hp) (x:V) (xs:List V) (v:Value) (us:List Value) (Q:VK),Inv X pins σ H s→RelV x v→Vals xs us→r x xs H Q →
  wpAny (model X.prog X.w) X.A (call (.builtin id) (v :: us)) (EP X pins σ Q) X.xe s
theorem Vals.one:∀ {x:V}{us:List Value},Vals [x] us→∃ u,us=[u]∧RelV x u
 | _,_,.cons r .nil=>⟨_,rfl,r⟩
theorem Vals.dropLast {xs:List V}{us:List Value} (h:Vals xs us):Vals xs.dropLast us.dropLast:=by
 induction h with
 | nil=>exact .nil
 | cons r t ih =>
  cases t with
  | nil=>exact .nil
  | cons q t'=>exact .cons r ih
theorem Vals.eraseIdx:∀ {xs:List V}{us:List Value} (i:Nat),Vals xs us→Vals (xs.eraseIdx i) (us.eraseIdx i)
 | _,_,_,.nil=>.nil
 | _,_,0,.cons _ t=>t
 | _,_,i + 1,.cons r t=>.cons r (Vals.eraseIdx i t)
theorem Vals.reverse {xs:List V}{us:List Value} (h:Vals xs us):Vals xs.reverse us.reverse:=by
 induction h with
 | nil=>exact .nil
 | cons r t ih=>rw [List.reverse_cons,List.reverse_cons];exact Vals.append ih (.cons r .nil)
theorem Vals.rep {xs:List V}{us:List Value} (h:Vals xs us):∀ k:Nat,Vals (List.replicate k xs).flatten (List.replicate k us).flatten
 | 0=>.nil
 | k + 1=>by
  rw [Y9,Y9,Yi,Yi];exact Vals.append h (Vals.rep h k)
theorem erase_last {α : Type} (l:List α):l.eraseIdx (l.length - 1)=l.dropLast:=by
 induction l with
 | nil=>rfl
 | cons a r ih =>
  cases r with
  | nil=>rfl
  | cons b r =>
   have e:(a :: b :: r).length - 1=((b :: r).length - 1) + 1:=by
    have h1:(a :: b :: r).length=r.length + 2:=rfl;have h2:(b :: r).length=r.length + 1:=rfl;omega
   rw [e,List.eraseIdx_cons_succ,ih]
   all_goals rfl
theorem foldl_rep (its:List Value):∀ (k:Nat) (acc:List Value),
  List.foldl (fun x1 x2=>x1++x2) acc.toArray (List.replicate k its.toArray)=(acc++(List.replicate k its).flatten).toArray
 | 0,acc=>by simp
 | k + 1,acc=>by
  have e:acc.toArray++its.toArray=(acc++its).toArray:=by simp
  have e2:(acc++its)++(List.replicate k its).flatten=acc++(List.replicate (k + 1) its).flatten:=by
   rw [Y9,Yi,List.append_assoc]
  rw [← e2,← foldl_rep its k (acc++its),← e,Y9,Y0]
section
variable {X:Cx}{pins:List (Addr×Obj)}{σ : St}{H:Hp}{s:Shared}{l b:Addr}{xs ys zs:List V}
theorem Inv.lset {its its':List Value}{n:Nat}{f:Array Value→Array Value}{t':Nat} (I:Inv X pins σ H s) (hH:H l=some (.lst xs))
  (e:s.heap.get? l=some { cls:=.type "list",data:=.seq its.toArray n }) (hf:f its.toArray=its'.toArray) (hv:Vals ys its') (hz:ys.length≤sizeLine) :
  Inv X pins σ (upd H l (.lst ys)) { s with heap:=s.heap.update l (Obj.mapSeq f),toks:=t' }:=by
 have q:=PySem.IsL.update e f;rw [hf] at q;refine I.write (x:=l) (e:=l) (by rw [hH];exact trivial) (.inl rfl) (fun b' u hb hu=>(Heap.get?_update_other s.heap (Obj.mapSeq f) (Ne.symm hb)).trans hu) ⟨_,q⟩ ?_;exact ⟨hz,its',_,hv,q⟩
theorem Inv.lnew {its:List Value}{t':Nat} (I:Inv X pins σ H s) (hv:Vals ys its) (hz:ys.length≤sizeLine) :
  Inv X pins σ (upd H s.heap.objs.size (.lst ys)) { s with heap:=s.heap.push { cls:=.type "list",data:=.seq its.toArray },toks:=t' } :=
 I.laid (fun _ _ q=>Z2 _ q) (Z7 _) ⟨hz,its,0,hv,Za _ rfl⟩
theorem Inv.fresh (I:Inv X pins σ H s):H s.heap.objs.size=none:=I.hok.fresh (Z7 _)
theorem Inv.lstM (I:Inv X pins σ H s) (hH:H l=some (.lst xs)):xs.length≤sizeLine∧∃ (its:List Value) (n:Nat),Vals xs its∧xs.length=its.length∧s.heap.get? l=some { cls:=.type "list",data:=.seq its.toArray n }:=by
 obtain ⟨z,its,n,r,e⟩:=I.hok l _ hH;exact ⟨z,its,n,r,r.length,e⟩
theorem notLongL {n:Nat} (h:n≤sizeLine):Builtin.List.listTooLong n=false:=by
 unfold Builtin.List.listTooLong;exact decide_eq_false (by omega)
end
section
variable {X:Cx}
noncomputable def rAppend:V→List V→Hp→VK→Prop:=fun x vs H Q=>∃ l xs y,x=.ref l∧vs=[y]∧H l=some (.lst xs)∧xs.length < sizeLine∧Q .non (upd H l (.lst (xs++[y])))
theorem zDa:MtM X "list.append" rAppend:=by
 intro pins s σ H x vs v us Q I rx rv h;obtain ⟨l,xs,y,rfl,rfl,hH,hz,q⟩:=h;cases rx;obtain ⟨u,rfl,ru⟩:=rv.one;obtain ⟨z,its,n,r,hl,e⟩:=I.lstM hH;refine call_meets F.slot_list_append ⟨_,e,rfl⟩ F.entry_list_append (F.args_list_append_2 _ _) (PySem.list_append l its.toArray n u (by rw [Z8];omega)) ⟨e,?_⟩;refine ⟨.non,_,I.lset (its':=its++[u]) hH e (by simp) (r.append (.cons ru .nil)) ?_,rfl,q⟩;rw [Zg,List.length_singleton];omega
noncomputable def rExtend:V→List V→Hp→VK→Prop:=fun x vs H Q=>∃ l b xs zs,x=.ref l∧vs=[.ref b]∧H l=some (.lst xs)∧H b=some (.lst zs)∧xs.length + zs.length≤sizeLine∧Q .non (upd H l (.lst (xs++zs)))
theorem mt_extend:MtM X "list.extend" rExtend:=by
 intro pins s σ H x vs v us Q I rx rv h;obtain ⟨l,b,xs,zs,rfl,rfl,hH,hB,hz,q⟩:=h;cases rx;obtain ⟨u,rfl,ru⟩:=rv.one;cases ru;obtain ⟨z,its,n,r,hl,e⟩:=I.lstM hH;obtain ⟨z2,its2,n2,r2,hl2,e2⟩:=I.lstM hB;have hsz:its.toArray.size + its2.toArray.size≤sizeLine:=by rw [Z8,Z8];omega
 have hlong:¬ (!its.toArray.isEmpty && Builtin.List.listTooLong (its.toArray.size + its2.toArray.size))=true:=by
  rw [notLongL hsz,Bool.and_false];exact Zc
 refine call_meets F.slot_list_extend ⟨_,e,rfl⟩ F.entry_list_extend (F.args_list_extend_2 _ _)
  (AutoSeq1.list_extend_list_list_0 l its.toArray n b its2.toArray n2 hlong (by rw [Z8];omega) (by omega)) ⟨e,e2,?_⟩
 refine ⟨.non,_,I.lset (its':=its++its2) hH e (by simp) (r.append r2) ?_,rfl,q⟩;rw [Zg];omega
noncomputable def rCat:R2:=fun x y H Q=>∃ l b xs zs,x=.ref l∧y=.ref b∧H l=some (.lst xs)∧H b=some (.lst zs)∧xs.length + zs.length≤sizeLine∧∀ p,H p=none→Q (.ref p) (upd H p (.lst (xs++zs)))
theorem zEo:OpR X (binaryOp .Add) rCat:=by
 intro pins s σ H x y v u Q I rx ry h;obtain ⟨l,b,xs,zs,rfl,rfl,hH,hB,hz,q⟩:=h;cases rx;cases ry;obtain ⟨z,its,n,r,hl,e⟩:=I.lstM hH;obtain ⟨z2,its2,n2,r2,hl2,e2⟩:=I.lstM hB;refine PySem.P.add_list e e2 ?_ (by rw [Z8,Z8];omega);have ea:its.toArray++its2.toArray=(its++its2).toArray:=by simp
 rw [ea];exact ⟨.ref _,_,I.lnew (t':=s.toks) (r.append r2) (by rw [Zg];omega),rfl,q _ I.fresh⟩
noncomputable def rRep:R2:=fun x y H Q=>∃ l k xs,x=.ref l∧y=.int k∧H l=some (.lst xs)∧-(2 ^ 63)≤k∧k < 2 ^ 63∧xs.length * k.toNat≤sizeLine ∧
 ∀ p,H p=none→Q (.ref p) (upd H p (.lst (List.replicate k.toNat xs).flatten))
theorem len_rep {α : Type} (xs:List α) (k:Nat):(List.replicate k xs).flatten.length=k * xs.length:=by
 induction k with
 | zero=>simp
 | succ k ih=>rw [Y9,Yi,Zg,ih,Yj,Nat.add_comm]
theorem op_rep:OpR X (binaryOp .Mult) rRep:=by
 intro pins s σ H x y v u Q I rx ry h;obtain ⟨l,k,xs,rfl,rfl,hH,h1,h2,hz,q⟩:=h;cases rx;obtain ⟨t,rfl⟩:=ry;obtain ⟨z,its,n,r,hl,e⟩:=I.lstM hH;have hlen:its.toArray.size * k.toNat≤sizeLine:=by rw [Z8,← hl];exact hz
 have hcap:¬ its.toArray.size * k.toNat > (2 ^ 63 - 1) / 8:=by
  have:(sizeLine:Nat)≤(2 ^ 63 - 1) / 8:=by decide
  omega
 have hfit:¬ (!Builtin.List.listFitsIndex k)=true:=by
  rw [fitsIndex_both h1 h2];exact Zc
 have hlong:¬ Builtin.List.listTooLong (its.toArray.size * k.toNat)=true:=by
  rw [notLongL hlen];exact Zc
 have hnew:List.foldl (fun x1 x2=>x1++x2) #[] (List.replicate (if its.toArray.isEmpty=true then 0 else k.toNat) its.toArray)=(List.replicate k.toNat its).flatten.toArray:=by
  have f0:∀ m:Nat,List.foldl (fun x1 x2=>x1++x2) #[] (List.replicate m its.toArray)=(List.replicate m its).flatten.toArray:=fun m=>by
   have:=foldl_rep its m [];rw [List.nil_append] at this;exact this
  rw [f0];cases its with
  | nil=>simp
  | cons a r'=>rw [if_neg (by simp)]
 refine wpAny_binaryOp_repeat_ref (T:="list") (U:="int") (by decide) ⟨_,e,rfl⟩ (fun s'=>typeIs_int s' k t) noFill_list_mul F.fills_int_mul F.slot_int_rmul repeat_list F.slot_int_index.lookup
  (call_meets F.slot_int_rmul (typeIs_int s k t) F.entry_int_rmul (F.args_int_rmul_2 _ _) (int___rmul___int_list k t l its.toArray n)
   ⟨e,rfl,⟨_,e,rfl⟩,call_meets F.slot_list_mul ⟨_,e,rfl⟩ F.entry_list_mul (F.args_list_mul_2 _ _) (AutoListH.list___mul___list_int_3 l its.toArray n k t hfit hcap hlong) ⟨e,?_⟩⟩)
 rw [hnew];exact ⟨.ref _,_,I.lnew (t':=s.toks) (r.rep k.toNat) (by rw [len_rep,Nat.mul_comm];exact hz),rfl,q _ I.fresh⟩
end
section
variable {prog:Program}{w:World}{A:Around}{E:Value→Shared→Prop}{s:Shared}
set_option maxRecDepth 100000 in
end
section
variable {X:Cx}
end
end L2
namespace Att
open PySem PySem.W PySem.Calls PyProof.Rows
theorem zE6 {P:Params}{h:Heap}:∀ (ns:List Int) (vs:List Value),WellAll P h vs (ns.map WData.int)→IntsAre vs ns:=by
 intro ns
 induction ns with
 | nil =>
  intro vs w;rw [List.map_nil] at w;cases w;exact .nil
 | cons n ns ih =>
  intro vs w;rw [Zt] at w;cases w with
  | cons a b =>
   cases a;exact .cons _ _ (ih _ b)
theorem script_of {l:OpenLaw}{n:Nat} (hn:l.most=some n) {P:Params}{h:Heap}{args:List WData}{vals:List Value}
  (hpre:l.row.toRowW.claim.pre args=true) (hwl:WellAll P h vals args) :
  ∃ a vs ns,vals=[Value.ref a]∧args=[WData.list (ns.map WData.int)]∧h.get? a=some { cls:=.type "list",data:=.seq vs.toArray }∧IntsAre vs ns∧ns.length≤n:=by
 have hsh:WShape.hasAll [] args [.list .int]=true:=(pre_splitW hpre).1;have hc:l.pre.holds [] { args:=args }=true:=(pre_splitW hpre).2;obtain ⟨d,r,rfl,h1,h2⟩:=hasAllW_cons hsh;obtain rfl:=hasAllW_nil h2;obtain ⟨xs,rfl,h3⟩:=hasW_list h1;obtain ⟨ns,rfl⟩:=items_int h3;have hlen:ns.length≤n:=by
  unfold OpenLaw.pre at hc;have h4:(WTm.not (.lt (.lit (.int (n:Int))) (.len (.arg 0)))).holds [] { args:=[.list (ns.map .int)] }=true:=by
   have h4:=(holds_andW hc).1;rw [hn] at h4;exact h4
  have h5:=condW_of h4 (w_not (w_lt w_lit (w_len_list (w_arg rfl))));rw [Z0] at h5;refine Nat.le_of_not_lt fun q=>?_;have q':(n:Int) < ((ns.length:Nat):Int):=by omega
  first
   | (rw [decide_eq_true q'] at h5;exact absurd h5 (by decide))
   | (simp at h5;omega)
 cases hwl with
 | cons w1 w2 =>
  cases w2;cases w1 with
  | list ho hall=>exact ⟨_,_,ns,rfl,rfl,ho,zE6 ns _ hall,hlen⟩
theorem post_true (l:OpenLaw) (args:List WData):l.row.toRowW.claim.post args (.bool true) args=true :=
 postW_of (r:=l.row.toRowW) (X:=(true == true))
  (show WShape.has [] (.bool true) .bool=true by first | rfl | decide | simp [WShape.has,WShape.arms,WShape.armsAll])
  (show (WTm.eq .res (.lit (.bool true))).value [] { args:=args,res:=some (.bool true),after:=args }=some (.bool (true == true)) from w_eq_bool (w_res rfl) w_lit) rfl
theorem attach_call {l:OpenLaw}{n:Nat}{q:Program}{loose:List Str}{XP:(Str→Option Value)→Heap→Prop}{YP:World→Heap→Prop}{d:DefRec}
  (hn:l.most=some n) (hdf:d.params.defaults=[])
  (call:∀ (w:World) (s₀ s₁ : Shared) (mg mb:Str→Option Value) (fa:Addr) (o:Obj) (pm cd doc:Value) (a:Addr) (vs:List Value) (ns:List Int),
   Ground q loose [] XP w s₀ mg mb s₁.heap→YP w s₁.heap →
   s₁.heap.get? fa=some o→o.data=.func (docDef d.name d.params d.body d.scope pm cd doc)→s₁.heap.CodeRec cd d.name→mg d.name=some (.ref fa) →
   s₁.heap.get? a=some { cls:=.type "list",data:=.seq vs.toArray }→IntsAre vs ns→ns.length≤n→s₁.gens = #[] →
   codeAny (model l.prog w) callerA (.call (.ref fa) ⟨[.ref a],[]⟩) (fun r s'=>r=.ok (.ret (.bool true))∧OldK s₁.heap s'.heap∧s'.os=s₁.os∧AllBare s'.gens) s₁) :
  WalkO q loose XP YP l.row.toRowW d [] (fun f vs=>PySem.call f vs):=by
 intro w s₀ s₁ mg mb G Y fa o pm cd doc dV kV ho hd hcd hD hmg hg args vals as hpre hlay hrd hwl hlo;obtain rfl:dV=.none:=Dflts.none hD hdf;obtain rfl:kV=.none:=Dflts.noKw hD;obtain ⟨a,vs,ns,rfl,rfl,hobj,hints,hlen⟩:=script_of hn hpre hwl;refine enter_call (codeAny_mono (call w s₀ s₁ mg mb fa o pm cd doc a vs ns G Y ho (fd_plain hd) hcd hmg hobj hints hlen hg) fun r s' hq=>?_);obtain ⟨rfl,h2,h3,h4⟩:=hq;exact ⟨.inl ⟨.bool true,.bool true,[],rfl,fun _=>rfl,.bool true,post_true l _,fun _=>⟨List.Pairwise.nil,fun _ hm=>(nomatch hm)⟩⟩,h2,h3,h4⟩
section
variable {prog:Program}{w:World}{A:Around}{E:Value→Shared→Prop}{s:Shared}{K:Frag}
noncomputable def ledger (h:Heap) (L d:Addr):List (Addr×Obj):=(List.range h.objs.size).filterMap fun a=>if a=L∨a=d then none else (h.get? a).map fun o=>(a,o)
end
end Att
namespace L2
open PySem PySem.Spec PyProof.Rows
theorem vals_ints:∀ {vs:List Value}{ns:List Int},IntsAre vs ns→Vals (ns.map V.int) vs
 | _,_,.nil=>.nil
 | _,_,.cons n t h=>.cons ⟨t,rfl⟩ (vals_ints h)
end L2
namespace L2
open PySem PySem.Spec PyProof.Rows
noncomputable abbrev KOf {K:PySem.W.Frag}{h:Heap} (_:K.In h):PySem.W.Frag:=K
end L2
namespace L2
open PySem PySem.Spec PyProof.Rows
noncomputable def inClass (s:Stmt) (j:Nat):Stmt:=match s with
 | .ClassDef _ _ _ body _ _ _ _ _ _ _=>body.getD j (.Pass ⟨0,0,0,0⟩)
 | _=>.Pass ⟨0,0,0,0⟩
noncomputable def defArgs (s:Stmt):Arguments:=match s with
 | .FunctionDef _ a _ _ _ _ _ _ _ _=>a
 | _=>{ posonlyargs:=[],args:=[],vararg:=none,kwonlyargs:=[],kw_defaults:=[],kwarg:=none,defaults:=[] }
noncomputable def defBody (s:Stmt):List Stmt:=match s with
 | .FunctionDef _ _ b _ _ _ _ _ _ _=>b
 | _=>[]
noncomputable def defScope (s:Stmt):Scope:=match s with
 | .FunctionDef _ _ _ _ _ _ sc _ _ _=>sc
 | _=>{ kind:=.function,names:=[],isGenerator:=false,isCoroutine:=false }
noncomputable abbrev CX0:CXT:=fun _ _ _ _ _ _=>False
noncomputable abbrev E0:St→XK:=fun _ _ _ _=>False
structure Fun (K:PySem.W.Frag) (x qual:Str) (st:Stmt) (f:Addr) (fd:FuncData):Prop where
 ex:∃ (oc:Value) (od:Option Addr) (kV doc pm:Value) (an:Option Addr) (cdv ct:Value) (osl:Array (Option Value)),
  fd=PySem.W.fnOf x qual (defArgs st) (defBody st) (defScope st) .none kV doc pm an cdv ct∧K.lookup f=some ⟨oc,od,.func fd,osl⟩∧PySem.W.codeIn K cdv qual=true
 kp:PySem.W.keepIn K (.ref f)=true
section
variable {P:Program}{w:World}{K:PySem.W.Frag}{mg:Str→Option Value}{base:Heap}
theorem Fun.ok {x qual:Str}{st:Stmt}{f:Addr}{fd:FuncData}{N ps:List Str}{k:Nat}{sp:Sp} (F:Fun K x qual st f fd) (S:FnScope N ps (defScope st)) (len:∀ vs H Q E,sp vs H Q E→vs.length=ps.length)
  (hbody:∀ (cdv:Value) (A:Around) (outer:List Env) (s:Shared) (H:Hp) (vs:List V) (Q:VK) (E:XK),Room k (A.deeper (envOfC qual (defScope st) s.heap.objs.size f cdv))→sp vs H Q E →
   ∃ t,PSs (cxOf CX0 P w K mg base N qual (defScope st) f cdv A outer s H E).nox (defBody st) t∧t { nx:=fun _ H'=>Q .non H',rt:=Q } (start N vs) H):FnOk P w K mg base CX0 (k + 1) f fd ps sp:=by
 obtain ⟨oc,od,kV,doc,pm,an,cdv,ct,osl,rfl,lk,hcd⟩:=F.ex;refine fn_of lk hcd S len fun A outer s H vs Q E hr hsp=>?_;obtain ⟨t,h,q⟩:=hbody cdv A outer s H vs Q E hr hsp;exact ⟨t,h.nox,q⟩
theorem Fun.binds {x qual:Str}{st:Stmt}{f:Addr}{fd:FuncData}{ps:List Str} (F:Fun K x qual st f fd)
  (h:∀ (kV doc pm:Value) (an:Option Addr) (cdv ct:Value) (us:List Value),us.length=ps.length→bindArgs (PySem.W.fnOf x qual (defArgs st) (defBody st) (defScope st) .none kV doc pm an cdv ct) ⟨us,[]⟩=pure (ps.zip us)):Binds K fd ps []:=by
 obtain ⟨oc,od,kV,doc,pm,an,cdv,ct,osl,rfl,lk,hcd⟩:=F.ex;exact .all (h kV doc pm an cdv ct)
theorem fun_mk {x qual:Str}{st:Stmt}{f:Addr}{oc:Value}{od an:Option Addr}{osl:Array (Option Value)}{kV doc pm cdv ct:Value} (l:K.lookup f=some ⟨oc,od,.func (PySem.W.fnOf x qual (defArgs st) (defBody st) (defScope st) .none kV doc pm an cdv ct),osl⟩)
  (c:PySem.W.codeIn K cdv qual=true) (k:PySem.W.keepIn K (.ref f)=true):Fun K x qual st f (PySem.W.fnOf x qual (defArgs st) (defBody st) (defScope st) .none kV doc pm an cdv ct):=⟨⟨oc,od,kV,doc,pm,an,cdv,ct,osl,rfl,l,c⟩,k⟩
end
theorem hu_of {A:Around}{k:Nat} (hr:Room k A):A.units + 1 < cLine:=Nat.lt_of_le_of_lt (Nat.add_le_add_left (by decide:1≤64) _) hr.units
theorem small1000 {n:Nat} (h:n≤1000):n < sizeLine:=Nat.lt_of_le_of_lt h (by decide)
section
variable {X:Cx}
theorem pv (i:Nat) {x:Str}{pos:Pos} (hN:X.N[i]? = some x:=by rfl) (hv:Vis X.env.scope x:=by first | exact Or.inl rfl | exact Or.inr (Or.inl rfl) | exact Or.inr (Or.inr rfl)) (hd:(x == ("__debug__" : Str))=false:=by decide)
  (hcd:(x == ("__classdict__" : Str))=false:=by decide):PE X (.Name x pos) (tVar i):=pe_var hN hv hd hcd
end
theorem iteF {A B:Prop} (h:B):if false=true then A else B:=by
 rw [if_neg Zc];exact h
theorem iteT {A B:Prop} (h:A):if true=true then A else B:=by
 rw [if_pos rfl];exact h
theorem ite2 {c A B:Prop} [Decidable c] (h1:c→A) (h2:¬ c→B):if c then A else B:=by
 by_cases h:c
 ·rw [if_pos h];exact h1 h
 ·rw [if_neg h];exact h2 h
noncomputable def Same (H H':Hp):Prop:=∀ b o,H b=some o→H' b=some o
theorem Same.refl (H:Hp):Same H H:=fun _ _ h=>h
theorem Same.trans {H H1 H2:Hp} (a:Same H H1) (b:Same H1 H2):Same H H2:=fun c o h=>b c o (a c o h)
theorem Same.free {H H':Hp} (e:Same H H') {l:Addr} (h:H' l=Option.none):H l=Option.none:=by
 cases q:H l with
 | none=>rfl
 | some o =>
  rw [e l o q] at h;cases h
end L2
namespace L2
open PySem PySem.Spec PyProof.Rows
section
variable {κ : Type} [DecidableEq κ]
noncomputable def valV (kvs:List (κ×V)) (k : κ):Option V:=(kvs.find? fun kv=>decide (kv.1=k)).map (·.2)
noncomputable def putK (kvs:List (κ×V)) (k : κ) (v:V):List (κ×V) :=
 if (kvs.any fun kv=>decide (kv.1=k))=true then kvs.map (fun kv=>if kv.1=k then (kv.1,v) else kv) else kvs++[(k,v)]
theorem zD1 {p : κ×V}{r:List (κ×V)}{k : κ} (e:p.1=k):valV (p :: r) k=some p.2:=by simp [valV,Yb,e]
theorem zD2 {p : κ×V}{r:List (κ×V)}{k : κ} (e:¬ p.1=k):valV (p :: r) k=valV r k:=by simp [valV,Yb,e]
theorem zEw (k : κ):∀ kvs:List (κ×V),(kvs.any fun kv=>decide (kv.1=k))=(valV kvs k).isSome
 | []=>rfl
 | p :: r=>by
  rw [Y5];by_cases e:p.1=k
  ·simp only [zD1 e,decide_eq_true e,Bool.true_or,Option.isSome_some]
  ·rw [zD2 e,decide_eq_false e,Bool.false_or];exact zEw k r
theorem zE3 (kvs:List (κ×V)) (k : κ) (v:V):(putK kvs k v).length≤kvs.length + 1:=by
 unfold putK;split
 ·rw [Z0];omega
 ·rw [Zg,Zi,List.length_nil];omega
theorem RelO.isSome_eq {o:Option V}{u:Option Value} (r:RelO o u):o.isSome=u.isSome:=by
 cases o with
 | none=>cases u with
  | none=>rfl
  | some _=>exact (show False from r).elim
 | some _=>cases u with
  | none=>exact (show False from r).elim
  | some _=>rfl
theorem RelO.getD {o:Option V}{u:Option Value}{d:V}{d':Value} (r:RelO o u) (rd:RelV d d'):RelV (o.getD d) (u.getD d'):=by
 cases o with
 | none=>cases u with
  | none=>exact rd
  | some _=>exact (show False from r).elim
 | some _=>cases u with
  | none=>exact (show False from r).elim
  | some _=>exact r
theorem KV.val {kvs:List (κ×V)}{vs:List (κ×Value)} (r:KV kvs vs) (k : κ):RelO (valV kvs k) (valueAt vs k):=by
 unfold KV at r
 induction r with
 | nil=>exact True.intro
 | @cons p q ps qs h t ih =>
  obtain ⟨h1,h2⟩:=h;by_cases e:p.1=k
  ·have e':q.1=k:=h1.symm.trans e;have b:valueAt (q :: qs) k=some q.2:=by simp [valueAt,Yb,e']
   rw [zD1 e,b];exact h2
  ·have e':¬ q.1=k:=fun z=>e (h1.trans z);have b:valueAt (q :: qs) k=valueAt qs k:=by simp [valueAt,Yb,e']
   rw [zD2 e,b];exact ih
theorem KV.any {kvs:List (κ×V)}{vs:List (κ×Value)} (r:KV kvs vs) (k : κ):(kvs.any fun kv=>decide (kv.1=k))=vs.any fun kv=>decide (kv.1=k):=by
 unfold KV at r
 induction r with
 | nil=>rfl
 | cons h t ih=>rw [Y5,Y5,ih,h.1]
theorem KV.repl {kvs:List (κ×V)}{vs:List (κ×Value)} (r:KV kvs vs) (k : κ) {y:V}{u:Value} (ry:RelV y u) :
  KV (kvs.map fun kv=>if kv.1=k then (kv.1,y) else kv) (vs.map fun kv=>if kv.1=k then (kv.1,u) else kv):=by
 unfold KV at r ⊢
 induction r with
 | nil=>exact .nil
 | @cons p q ps qs h t ih =>
  rw [Zt,Zt];refine .cons ?_ ih;obtain ⟨h1,h2⟩:=h;by_cases e:p.1=k
  ·rw [if_pos e,if_pos (h1.symm.trans e)];exact ⟨h1,ry⟩
  ·rw [if_neg e,if_neg (fun z=>e (h1.trans z))];exact ⟨h1,h2⟩
theorem KV.put {kvs:List (κ×V)}{vs:List (κ×Value)} (r:KV kvs vs) (k : κ) {y:V}{u:Value} (ry:RelV y u):KV (putK kvs k y) (stored vs k u):=by
 unfold putK stored;rw [r.any k];by_cases e:(vs.any fun kv=>decide (kv.1=k))=true
 ·rw [if_pos e,if_pos e];exact r.repl k ry
 ·rw [if_neg e,if_neg e];exact Paired.snoc r ⟨rfl,ry⟩
theorem KV.length {kvs:List (κ×V)}{vs:List (κ×Value)} (r:KV kvs vs):kvs.length=vs.length:=Paired.length r
end
theorem kV_is {P:Program}{w:World}{k:Key}{u:Value} (r:RelV (kV k) u):(mixKind P w).is k u=true:=by
 cases k with
 | inl i=>obtain ⟨t,e⟩:=(show ∃ t,u=Value.int i t from r);subst e;exact mixKind_int P w i t
 | inr x=>obtain ⟨t,e⟩:=(show ∃ t,u=Value.str x t from r);subst e;exact mixKind_str P w x t
theorem items_are {P:Program}{w:World}:∀ {ks:List Key}{us:List Value},Vals (ks.map kV) us→ItemsAre (mixKind P w) ks us
 | [],_,r=>by rw [List.map_nil] at r;cases r;exact .nil
 | k :: ks,_,r=>by
  rw [Zt] at r;cases r with
  | cons h t=>exact .cons (kV_is h) (items_are t)
noncomputable abbrev KT (H:Hp):List (List Key×V)→List (List Key×Addr×Value)→Prop:=Paired fun p q=>p.1=q.1∧H q.2.1=some (.tup (p.1.map kV))∧RelV p.2 q.2.2
theorem KT.val {H:Hp}{kvs:List (List Key×V)}{xs:List (List Key×Addr×Value)} (r:KT H kvs xs) (k:List Key):RelO (valV kvs k) ((atKey xs k).map (·.2)):=by
 induction r with
 | nil=>exact True.intro
 | @cons p q ps qs h t ih =>
  obtain ⟨h1,_,h2⟩:=h;by_cases e:p.1=k
  ·have e':q.1=k:=h1.symm.trans e;have b:atKey (q :: qs) k=some q.2:=by simp [atKey,Yb,e']
   rw [zD1 e,b];exact h2
  ·have e':¬ q.1=k:=fun z=>e (h1.trans z);have b:atKey (q :: qs) k=atKey qs k:=by simp [atKey,Yb,e']
   rw [zD2 e,b];exact ih
theorem KT.repl {H:Hp}{kvs:List (List Key×V)}{xs:List (List Key×Addr×Value)} (r:KT H kvs xs) (k:List Key) {y:V}{u:Value} (ry:RelV y u) :
  KT H (kvs.map fun kv=>if kv.1=k then (kv.1,y) else kv) (xs.map (putAt k u)):=by
 induction r with
 | nil=>exact .nil
 | @cons p q ps qs h t ih =>
  rw [Zt,Zt];refine .cons ?_ ih;obtain ⟨h1,h2,h3⟩:=h;unfold putAt;by_cases e:p.1=k
  ·rw [if_pos e,if_pos (h1.symm.trans e)];exact ⟨h1,h2,ry⟩
  ·rw [if_neg e,if_neg (fun z=>e (h1.trans z))];exact ⟨h1,h2,h3⟩
theorem KT.put {H:Hp}{kvs:List (List Key×V)}{xs:List (List Key×Addr×Value)} (r:KT H kvs xs) (k:List Key) {b:Addr}{y:V}{u:Value} (hb:H b=some (.tup (k.map kV))) (ry:RelV y u) :
  KT H (putK kvs k y) (storedH xs k b u):=by
 have e:(kvs.any fun kv=>decide (kv.1=k))=(atKey xs k).isSome:=by
  rw [zEw,(r.val k).isSome_eq,Option.isSome_map]
 unfold putK storedH;rw [e];by_cases q:(atKey xs k).isSome=true
 ·rw [if_pos q,if_pos q];exact r.repl k ry
 ·rw [if_neg q,if_neg q];exact Paired.snoc r ⟨rfl,hb,ry⟩
theorem KT.keeps {H H':Hp}{kvs:List (List Key×V)}{xs:List (List Key×Addr×Value)} (r:KT H kvs xs) (ht:∀ b ys,H b=some (.tup ys)→H' b=some (.tup ys)):KT H' kvs xs :=
 Paired.mapP r fun _ _ z=>⟨z.1,ht _ _ z.2.1,z.2.2⟩
section
variable {P:Program}{w:World}{H:Hp}{h:Heap}{a:Addr}
theorem rd_of {u:HO} (ok:HOk P w H h) (e:Rd H a u):ObjOk P w H h a u:=e.ok ok
theorem dk_rd {kvs:List (Key×V)} (ok:HOk P w H h) (e:Rd H a (.dK kvs)):kvs.length≤sizeLine∧(a == sysModules)=false∧∃ vs,KV kvs vs∧h.DictOf (mixKind P w) a vs :=
 show ObjOk P w H h a (.dK kvs) from rd_of ok e
theorem dk_of {kvs:List (Key×V)} (ok:HOk P w H h) (e:H a=some (.dK kvs)):kvs.length≤sizeLine∧(a == sysModules)=false∧∃ vs,KV kvs vs∧h.DictOf (mixKind P w) a vs:=dk_rd ok (.inl e)
theorem zEq {ks:List Key} (ok:HOk P w H h) (e:H a=some (.tup (ks.map kV))):(tupleKind (mixKind P w)).is h ks a:=by
 obtain ⟨_,its,r,o,h1,h2,n,h3⟩:=(show ObjOk P w H h a (.tup (ks.map kV)) from ok a _ e);exact ⟨o,its.toArray,n,h1,h2,h3,by simpa using items_are r⟩
theorem dt_rd {kvs:List (List Key×V)} (ok:HOk P w H h) (e:Rd H a (.dT kvs)):kvs.length≤sizeLine∧(a == sysModules)=false ∧
  ∃ xs,KT H kvs xs∧h.DictOfH (tupleKind (mixKind P w)) a xs:=by
 obtain ⟨z,y,xs,r,o,es,ep,h1,h2,h3,h4,h5⟩:=(show ObjOk P w H h a (.dT kvs) from rd_of ok e);refine ⟨z,y,xs,r,o,es,ep,h1,h2,h3,h4,fun x hx=>?_,h5⟩;have all:∀ {l:List (List Key×V)}{m:List (List Key×Addr×Value)},KT H l m→∀ x∈m,(tupleKind (mixKind P w)).is h x.1 x.2.1:=by
  intro l m q
  induction q with
  | nil=>intro x hx;exact nomatch hx
  | @cons p q ps qs hq t ih =>
   intro x hx;rcases List.mem_cons.mp hx with e | hx
   ·subst e;exact zEq ok (by rw [← hq.1];exact hq.2.1)
   ·exact ih x hx
 exact all r x hx
theorem dt_of {kvs:List (List Key×V)} (ok:HOk P w H h) (e:H a=some (.dT kvs)):kvs.length≤sizeLine∧(a == sysModules)=false ∧
  ∃ xs,KT H kvs xs∧h.DictOfH (tupleKind (mixKind P w)) a xs:=dt_rd ok (.inl e)
end
noncomputable def DGet (H:Hp) (a:Addr) (y:V) (r:Option V):Prop :=
 (∃ kvs k,Rd H a (.dK kvs)∧y=kV k∧r=valV kvs k)∨∃ kvs k b,Rd H a (.dT kvs)∧y=.ref b∧H b=some (.tup (k.map kV))∧r=valV kvs k
noncomputable def DPut (H:Hp) (a:Addr) (y v:V) (H':Hp):Prop :=
 (∃ kvs k,H a=some (.dK kvs)∧y=kV k∧kvs.length < sizeLine∧H'=upd H a (.dK (putK kvs k v))) ∨
 ∃ kvs k b,H a=some (.dT kvs)∧y=.ref b∧H b=some (.tup (k.map kV))∧kvs.length < sizeLine∧H'=upd H a (.dT (putK kvs k v))
theorem DGet.k {H:Hp}{a:Addr}{kvs:List (Key×V)}{k:Key} (e:H a=some (.dK kvs)):DGet H a (kV k) (valV kvs k):=.inl ⟨kvs,k,.inl e,rfl,rfl⟩
theorem DGet.t {H:Hp}{a b:Addr}{kvs:List (List Key×V)}{k:List Key} (e:H a=some (.dT kvs)) (eb:H b=some (.tup (k.map kV))):DGet H a (.ref b) (valV kvs k):=.inr ⟨kvs,k,b,.inl e,rfl,eb,rfl⟩
theorem DPut.k {H:Hp}{a:Addr}{kvs:List (Key×V)}{k:Key}{v:V} (e:H a=some (.dK kvs)) (hl:kvs.length < sizeLine):DPut H a (kV k) v (upd H a (.dK (putK kvs k v))):=.inl ⟨kvs,k,e,rfl,hl,rfl⟩
theorem DPut.t {H:Hp}{a b:Addr}{kvs:List (List Key×V)}{k:List Key}{v:V} (e:H a=some (.dT kvs)) (eb:H b=some (.tup (k.map kV))) (hl:kvs.length < sizeLine) :
  DPut H a (.ref b) v (upd H a (.dT (putK kvs k v))):=.inr ⟨kvs,k,b,e,rfl,eb,hl,rfl⟩
section
variable {X:Cx}{pins:List (Addr×Obj)}{σ : St}{H:Hp}{s:Shared}{a:Addr}{y v:V}{u r:Value}{o:Option V}{A:Around}{E:Value→Shared→Prop}
theorem Inv.big (I:Inv X pins σ H s):sysModules < s.heap.objs.size:=by
 have h:mainGlobals < s.heap.objs.size:=(I.mod.glob.keeps I.bk).lt;exact Nat.lt_trans (by decide) h
theorem d_getItem {Q:Value→Shared→Prop} (hu:A.units + 1 < cLine) (I:Inv X pins σ H s) (g:DGet H a y (some v)) (ry:RelV y u) (h:∀ w' s',Inv X pins σ H s'→RelV v w'→Q w' s') :
  wpAny (model X.prog X.w) A (getItem (.ref a) u) Q E s:=by
 rcases g with ⟨kvs,k,e,ey,l⟩ | ⟨kvs,k,b,e,ey,eb,l⟩
 ·subst ey;obtain ⟨z,hd,vs,rel,dd⟩:=dk_rd I.hok e;obtain ⟨w',hw,rw'⟩:=RelO.some_of (v:=v) (o:=valueAt vs k) (by rw [l];exact rel.val k);exact wpAny_getItem_of (kV_is ry) dd.mapOf hw (h w' _ (I.tok _) rw')
 ·subst ey;cases (show u=Value.ref b from ry);obtain ⟨z,hd,xs,rel,dd⟩:=dt_rd I.hok e;obtain ⟨w',hw,rw'⟩:=RelO.some_of (v:=v) (o:=(atKey xs k).map (·.2)) (by rw [l];exact rel.val k);obtain ⟨p,hp,hp2⟩:=Option.map_eq_some_iff.mp hw;refine wpAny_getItem_heap (tupleKind_room_in1 hu) (zEq I.hok eb) dd hp ?_;rw [hp2];exact h w' _ (I.tok _) rw'
theorem d_in {Q:Value→Shared→Prop} (hu:A.units + 1 < cLine) (I:Inv X pins σ H s) (g:DGet H a y o) (ry:RelV y u) (h:∀ s',Inv X pins σ H s'→Q (.bool o.isSome) s') :
  wpAny (model X.prog X.w) A (compareOp .In u (.ref a)) Q E s:=by
 rcases g with ⟨kvs,k,e,ey,l⟩ | ⟨kvs,k,b,e,ey,eb,l⟩
 ·subst ey;obtain ⟨z,hd,vs,rel,dd⟩:=dk_rd I.hok e;refine wpAny_in_of (kV_is ry) hd dd.mapOf ?_;rw [← (rel.val k).isSome_eq,← l];exact h _ (I.tok _)
 ·subst ey;cases (show u=Value.ref b from ry);obtain ⟨z,hd,xs,rel,dd⟩:=dt_rd I.hok e;refine wpAny_in_heap (tupleKind_room_in1 hu) (zEq I.hok eb) hd dd ?_;have q:=(rel.val k).isSome_eq;rw [Option.isSome_map] at q;rw [← q,← l];exact h _ (I.tok _)
theorem d_notIn {Q:Value→Shared→Prop} (hu:A.units + 1 < cLine) (I:Inv X pins σ H s) (g:DGet H a y o) (ry:RelV y u) (h:∀ s',Inv X pins σ H s'→Q (.bool (!o.isSome)) s') :
  wpAny (model X.prog X.w) A (compareOp .NotIn u (.ref a)) Q E s:=by
 rcases g with ⟨kvs,k,e,ey,l⟩ | ⟨kvs,k,b,e,ey,eb,l⟩
 ·subst ey;obtain ⟨z,hd,vs,rel,dd⟩:=dk_rd I.hok e;refine wpAny_notIn_of (kV_is ry) hd dd.mapOf ?_;rw [← (rel.val k).isSome_eq,← l];exact h _ (I.tok _)
 ·subst ey;cases (show u=Value.ref b from ry);obtain ⟨z,hd,xs,rel,dd⟩:=dt_rd I.hok e;refine wpAny_notIn_heap (tupleKind_room_in1 hu) (zEq I.hok eb) hd dd ?_;have q:=(rel.val k).isSome_eq;rw [Option.isSome_map] at q;rw [← q,← l];exact h _ (I.tok _)
theorem d_write {h':Heap}{t':Nat}{ob:HO} (I:Inv X pins σ H s) (mu:Mut (H a)) (hs:Heap.SameBut a s.heap h') (he:∃ q,h'.get? a=some q) (new:ObjOk X.prog X.w (upd H a ob) h' a ob) :
  Inv X pins σ (upd H a ob) { s with heap:=h',toks:=t' } :=
 I.write (x:=a) (e:=a) mu (.inl rfl) (fun b q hb z=>(hs.2 b hb).trans z) he new
theorem dk_new {P:Program}{w:World}{H':Hp}{h':Heap}{kvs:List (Key×V)}{vs:List (Key×Value)} (z:kvs.length≤sizeLine) (hd:(a == sysModules)=false) (rel:KV kvs vs) (dd:h'.DictOf (mixKind P w) a vs) :
  ObjOk P w H' h' a (.dK kvs):=⟨z,hd,vs,rel,dd⟩
theorem d_setItem {H':Hp}{Q:Unit→Shared→Prop} (hu:A.units + 1 < cLine) (I:Inv X pins σ H s) (g:DPut H a y v H') (ry:RelV y u) (rv:RelV v r) (h:∀ s',Inv X pins σ H' s'→Q () s') :
  wpAny (model X.prog X.w) A (setItem (.ref a) u r) Q E s:=by
 rcases g with ⟨kvs,k,e,ey,l,eH⟩ | ⟨kvs,k,b,e,ey,eb,l,eH⟩
 ·subst ey eH;obtain ⟨z,hd,vs,rel,dd⟩:=dk_of I.hok e;have hz:vs.length≤sizeLine:=by rw [← rel.length];exact z
  have hl:(putK kvs k v).length≤sizeLine:=by have:=zE3 kvs k v;omega
  refine wpAny_setItem_pairs (hsz:=hz) (kV_is ry) dd fun h' dd' hs=>h _ ?_;have he:∃ q,h'.get? a=some q:=let ⟨q,_,_,hq,_⟩:=dd';⟨q,hq⟩;exact d_write I (by rw [e];exact True.intro) hs he (dk_new hl hd (rel.put k rv) dd')
 ·subst ey eH;cases (show u=Value.ref b from ry);obtain ⟨z,hd,xs,rel,dd⟩:=dt_of I.hok e;have hz:xs.length≤sizeLine:=by rw [← Paired.length rel];exact z
  have hl:(putK kvs k v).length≤sizeLine:=by have:=zE3 kvs k v;omega
  refine wpAny_setItem_heap (hsz:=hz) (tupleKind_room_in1 hu) (zEq I.hok eb) dd fun h' dd' hs=>h _ ?_;obtain ⟨q,es,ep,hq,h2,h3,h4,_,h5⟩:=dd';refine d_write I (by rw [e];exact True.intro) hs ⟨q,hq⟩ ⟨hl,hd,_,(rel.put k eb rv).keeps fun c ys ec=>?_,q,es,ep,hq,h2,h3,h4,h5⟩;rw [zAa (ne_of ec e (fun z=>nomatch z))];exact ec
end
section
variable {X:Cx}{pins:List (Addr×Obj)}{σ : St}{H:Hp}{s:Shared}{a:Addr}{kvs:List (Key×V)}{k:Key}{u:Value}{A:Around}{E:Value→Shared→Prop}
theorem d_len {Q:Value→Shared→Prop} (I:Inv X pins σ H s) (e:Rd H a (.dK kvs)) (h:∀ t s',Inv X pins σ H s'→Q (.int kvs.length t) s'):wpAny (model X.prog X.w) A (call (.builtin "len") [.ref a]) Q E s:=by
 obtain ⟨z,hd,vs,rel,dd⟩:=dk_rd I.hok e;refine call_len_dict hd dd (by rw [← rel.length];rw [sizeLine_eq] at z;omega) ?_;rw [← rel.length];exact h _ _ (I.tok _)
end
noncomputable def NoSl (i:Expr):Prop:=∀ ov iv,subscripted i false ov iv=operate [ov,iv] (getItem ov iv)
theorem subD_of {prog:Program}{w:World}{A:Around}{E:Value→Shared→Prop}{s:Shared}{env:Env}{value slice:Expr}{pos:Pos}{T id:String}{Q:Value→Shared→Prop}
  (hl:typeLookup (.type T) "__getitem__" = pure (some (.builtin id))) (hs:NoSl slice)
  (h:wpAny (model prog w) A (eval value env) (fun o s₁=>wpAny (model prog w) A (eval slice env) (fun i s₂=>s₂.TypeIs o T∧wpAny (model prog w) A (getItem o i) Q E s₂) E s₁) E s) :
  wpAny (model prog w) A (eval (.Subscript value slice pos) env) Q E s:=by
 refine Subscript_ (wpAny_mono h (fun o s₁ h₁=>wpAny_mono h₁ (fun i s₂ h₂=>?_) fun _ _ x=>x) fun _ _ x=>x);obtain ⟨hT,h₂⟩:=h₂;unfold subscriptTail;refine wpAny_bind ?_;rw [getitemInPython_of_ne hT.not_modules];refine wpAny_bind (wpAny_specialOf hT hl ?_);have fin:wpAny (model prog w) A (subscripted slice false o i) (fun r s₃=>wpAny (model prog w) A (letTemporaryGo value o r >>= fun _=>pure r) Q E s₃) E s₂:=by
  rw [hs o i];exact wpAny_operating (wpAny_mono h₂ (fun r s₃ h₃=>wpAny_bind (wpAny_letTemporaryGo (wpAny_pure h₃))) fun _ _ x=>x)
 first
  | exact wpAny_pure (wpAny_bind fin)
  | exact wpAny_bind (wpAny_pure (wpAny_bind fin))
  | exact wpAny_bind fin
theorem dict_typeIs {X:Cx}{pins:List (Addr×Obj)}{σ : St}{H:Hp}{s:Shared}{a:Addr}{y:V}{o:Option V} (I:Inv X pins σ H s) (g:DGet H a y o):s.TypeIs (.ref a) "dict":=by
 rcases g with ⟨kvs,k,e,_,_⟩ | ⟨kvs,k,b,e,_,_,_⟩
 ·obtain ⟨_,_,vs,_,dd⟩:=dk_rd I.hok e;exact dd.typeIs
 ·obtain ⟨_,_,xs,_,dd⟩:=dt_rd I.hok e;exact dd.typeIs
noncomputable def tDGet (td ty:TE):TE:=fun σ H Q=>td σ H fun x H1=>ty σ H1 fun y H2=>∃ a v,x=.ref a∧DGet H2 a y (some v)∧Q v H2
noncomputable def tDIn (ty td:TE):TE:=fun σ H Q=>ty σ H fun y H1=>td σ H1 fun x H2=>∃ a o,x=.ref a∧DGet H2 a y o∧Q (.bl o.isSome) H2
noncomputable def tDNotIn (ty td:TE):TE:=fun σ H Q=>ty σ H fun y H1=>td σ H1 fun x H2=>∃ a o,x=.ref a∧DGet H2 a y o∧Q (.bl (!o.isSome)) H2
noncomputable def sDPut (td ty tv:TE):TS:=fun D σ H=>tv σ H fun v H1=>td σ H1 fun x H2=>ty σ H2 fun y H3=>∃ a H4,x=.ref a∧DPut H3 a y v H4∧D.nx σ H4
section
variable {X:Cx}{o i e value:Expr}{pos pos' tpos:Pos}{td ty tv:TE}
theorem pe_dget (hu:X.A.units + 1 < cLine) (ho:PE X o td) (hi:PE X i ty) (hs:NoSl i):PE X (.Subscript o i pos) (tDGet td ty):=by
 intro pins s σ H Q I h;refine subD_of PySem.F.slot_dict_getitem.lookup hs (thn (ho pins s σ H _ I h) fun u s1 ⟨x,H1,I1,rx,q1⟩=>thn (hi pins s1 σ H1 _ I1 q1) fun iv s2 ⟨y,H2,I2,ry,a,v,ex,g,q2⟩=>?_);subst ex;obtain rfl:u=Value.ref a:=rx;exact ⟨dict_typeIs I2 g,d_getItem hu I2 g ry fun w' s3 I3 rw'=>⟨v,H2,I3,rw',q2⟩⟩
theorem pc_din (hu:X.A.units + 1 < cLine) (hi:PE X i ty) (ho:PE X o td):PC X .In i o (tDIn ty td):=by
 intro pins s σ H Q I h;refine thn (hi pins s σ H _ I h) fun iv s1 ⟨y,H1,I1,ry,q1⟩=>thn (ho pins s1 σ H1 _ I1 q1) fun u s2 ⟨x,H2,I2,rx,a,ov,ex,g,q2⟩=>?_;subst ex;obtain rfl:u=Value.ref a:=rx;exact d_in hu I2 g ry fun s3 I3=>⟨.bl ov.isSome,H2,I3,rfl,q2⟩
theorem zD8 (hu:X.A.units + 1 < cLine) (hi:PE X i ty) (ho:PE X o td):PC X .NotIn i o (tDNotIn ty td):=by
 intro pins s σ H Q I h;refine thn (hi pins s σ H _ I h) fun iv s1 ⟨y,H1,I1,ry,q1⟩=>thn (ho pins s1 σ H1 _ I1 q1) fun u s2 ⟨x,H2,I2,rx,a,ov,ex,g,q2⟩=>?_;subst ex;obtain rfl:u=Value.ref a:=rx;exact d_notIn hu I2 g ry fun s3 I3=>⟨.bl (!ov.isSome),H2,I3,rfl,q2⟩
theorem ps_dput (hu:X.A.units + 1 < cLine) (ho:PE X o td) (hi:PE X i ty) (hv:PE X value tv) (hs:swapsWith value (some (.Subscript o i pos')) pos.line X.env=pure false) :
  PS X (.Assign [.Subscript o i pos'] value pos) (sDPut td ty tv):=by
 intro pins s σ H D I h;refine wpAny_Assign_Subscript (thn (hv pins s σ H _ I h) fun r s1 ⟨v,H1,I1,rv,q1⟩=>thn (ho pins s1 σ H1 _ I1 q1) fun u s2 ⟨x,H2,I2,rx,q2⟩=>thn (hi pins s2 σ H2 _ I2 q2) fun iv s3 ⟨y,H3,I3,ry,a,H4,ex,g,q3⟩=>?_) hs;subst ex;obtain rfl:u=Value.ref a:=rx;exact d_setItem hu I3 g ry rv fun s4 I4=>⟨σ,H4,I4,q3⟩
end
theorem dk_empty {P:Program}{w:World}{H:Hp} (h:Heap) (hb:sysModules < h.objs.size):ObjOk P w H (h.push { cls:=.type "dict",data:=.dict #[] }) h.objs.size (.dK []) :=
 ⟨Zj _,beq_eq_false_iff_ne.mpr (Ne.symm (Ze hb)),[],.nil,Heap.DictOf.new h⟩
noncomputable def tDNewK:TE:=fun _ H Q=>∀ p,H p=none→Q (.ref p) (upd H p (.dK []))
section
variable {X:Cx}{pos:Pos}
theorem zF2:PE X (.Dict [] [] pos) tDNewK:=fun pins s σ H Q I h =>
 wpAny_Dict_empty ⟨.ref s.heap.objs.size,_,I.laid (a:=s.heap.objs.size) (o:=.dK []) (t':=s.toks) (fun _ _ q=>Z2 _ q) (Z7 _) (dk_empty s.heap I.big),rfl,h _ (I.hok.fresh (Z7 _))⟩
end
structure M2 (X:Cx) (o:Expr) (m:Str) (apos:Pos) (e f:Expr) (cpos:Pos):Prop where
 base:attributeBase o m X.env (eval o X.env)=eval o X.env
 few:((backTo cpos (starEach [e,f] X.env)).all (fun x=>!x.1) && (backToKw cpos (keywordEach [] X.env)).all (fun x=>x.1.isSome)
  && decide (([e,f]:List Expr).length + ([]:List Keyword).length + (if ([]:List Keyword).isEmpty then 0 else 1) < 30))=true
 line:(apos.endLine == cpos.line)=true
 trees:backTo cpos (starEach [e,f] X.env)=[(false,eval e X.env),(false,eval f X.env)]
noncomputable def IsD (H:Hp) (a:Addr):Prop:=(∃ kvs,Rd H a (.dK kvs))∨∃ kvs,Rd H a (.dT kvs)
theorem isD_at {X:Cx}{pins:List (Addr×Obj)}{σ : St}{H:Hp}{s:Shared}{a:Addr} (I:Inv X pins σ H s) (d:IsD H a) :
  s.TypeIs (.ref a) "dict"∧(∀ b,Value.ref a=.ref b→∃ ob,s.heap.get? b=some ob∧ob.dict=none)∧(a == sysModules)=false:=by
 rcases d with ⟨kvs,e⟩ | ⟨kvs,e⟩
 ·obtain ⟨_,hd,vs,_,dd⟩:=dk_rd I.hok e;refine ⟨dd.typeIs,fun b q=>?_,hd⟩;cases q;obtain ⟨ob,_,_,h1,h2,_⟩:=dd;exact ⟨ob,h1,h2.2.1⟩
 ·obtain ⟨_,hd,xs,_,dd⟩:=dt_rd I.hok e;refine ⟨dd.typeIs,fun b q=>?_,hd⟩;cases q;obtain ⟨ob,_,_,h1,h2,_⟩:=dd;exact ⟨ob,h1,h2.2.1⟩
section
variable {X:Cx}{pins:List (Addr×Obj)}{σ : St}{H:Hp}{s:Shared}{a:Addr}{y d:V}{u r:Value}{o:Option V}{A:Around}{E:Value→Shared→Prop}
theorem d_get2 {Q:Value→Shared→Prop} (hu:A.units + 1 < cLine) (I:Inv X pins σ H s) (g:DGet H a y o) (ry:RelV y u) (rd:RelV d r) (h:∀ w' s',Inv X pins σ H s'→RelV (o.getD d) w'→Q w' s') :
  wpAny (model X.prog X.w) A (call (.builtin "dict.get") [.ref a,u,r]) Q E s:=by
 rcases g with ⟨kvs,k,e,ey,l⟩ | ⟨kvs,k,b,e,ey,eb,l⟩
 ·subst ey;obtain ⟨z,hd,vs,rel,dd⟩:=dk_rd I.hok e;refine call_meetsIn PySem.F.slot_dict_get dd.typeIs PySem.F.entry_dict_get (PySem.F.args_dict_get_3 _ _ _) (meets_dict_get_default (mixKind X.prog X.w) a (kV_is ry) hd r) ⟨_,dd.mapOf,h _ _ (I.tok _) ?_⟩;rw [l];exact (rel.val k).getD rd
 ·subst ey;cases (show u=Value.ref b from ry);obtain ⟨z,hd,xs,rel,dd⟩:=dt_rd I.hok e;refine call_meetsIn PySem.F.slot_dict_get dd.typeIs PySem.F.entry_dict_get (PySem.F.args_dict_get_3 _ _ _) (meetsH_dict_get_default (tupleKind (mixKind X.prog X.w)) a b hd r) ⟨tupleKind_room_in1 hu,k,xs,zEq I.hok eb,dd,h _ _ (I.tok _) ?_⟩;rw [l];exact (rel.val k).getD rd
end
noncomputable def tDGet2 (td ty tx:TE):TE:=fun σ H Q=>td σ H fun x H1=>∃ a,x=.ref a∧IsD H1 a∧ty σ H1 fun y H2=>tx σ H2 fun z H3=>∃ o,DGet H3 a y o∧Q (o.getD z) H3
section
variable {X:Cx}{o e f:Expr}{apos cpos:Pos}{td ty tx:TE}
theorem zF3 (hu:X.A.units + 1 < cLine) (ho:PE X o td) (he:PE X e ty) (hf:PE X f tx) (m:M2 X o "get" apos e f cpos):PE X (.Call (.Attribute o "get" apos) [e,f] [] cpos) (tDGet2 td ty tx):=by
 intro pins s σ H Q I h;refine wpAny_Call_method m.base m.few m.line PySem.F.plainAttrs_dict PySem.F.slot_dict_get PySem.F.type_dict_get (thn (ho pins s σ H _ I h) fun u s1 ⟨x,H1,I1,rx,a,ex,d,q1⟩=>?_);subst ex;obtain rfl:u=Value.ref a:=rx;obtain ⟨t1,t2,_⟩:=isD_at I1 d;refine ⟨t1,t2,?_⟩;rw [m.trees]
 refine Calls.callWith_builtin rfl (Calls.evalArgs_plain (Calls.spliced_cons (thn (he pins s1 σ H1 _ I1 q1) fun iv s2 ⟨y,H2,I2,ry,q2⟩ =>
  Calls.spliced_cons (thn (hf pins s2 σ H2 _ I2 q2) fun fv s3 ⟨z,H3,I3,rz,ov,g,q3⟩=>Calls.spliced_nil ?_))))
 exact d_get2 hu I3 g ry rz fun w' s4 I4 rw'=>⟨_,H3,I4,rw',q3⟩
end
section
variable {X:Cx}{pins:List (Addr×Obj)}{σ : St}{H:Hp}{s:Shared}{a:Addr}{kvs:List (Key×V)}{A:Around}{E:Value→Shared→Prop}
end
section
variable {X:Cx}{pins:List (Addr×Obj)}{σ : St}{H:Hp}{s:Shared}{a:Addr}{y:V}{u:Value}{A:Around}{E:Value→Shared→Prop}
end
end L2
namespace L2
open PySem PySem.Spec PyProof.Rows
noncomputable def PFs (X:Cx) (ifs:List Expr) (t:TT):Prop :=
 ∀ (pins:List (Addr×Obj)) (s:Shared) (σ : St) (H:Hp) (Q:Bool→Hp→Prop),Inv X pins σ H s→t σ H Q →
  wpAny (model X.prog X.w) X.A (forIn ifs true fun c r=>if r=true then do let ok ← isTrue c X.env (eval c X.env);pure (ForInStep.yield ok) else pure (ForInStep.yield r)) (TP X pins σ Q) X.xe s
noncomputable def tYes:TT:=fun _ H Q=>Q true H
theorem zB7 {X:Cx}:PFs X [] tYes:=fun _ _ _ H _ I h=>wpAny_tests_nil ⟨H,I,h⟩
theorem zDl {X:Cx}{c:Expr}{t:TT} (h:PT X c t):PFs X [c] t:=fun pins s σ H Q I q=>wpAny_tests_one (h pins s σ H Q I q)
section
variable {prog:Program}{w:World}{A:Around}{R:Result→Shared→Prop}
theorem comp_loop {elt tg iter:Expr}{ifs:List Expr}{sc:Scope}{pos:Pos}{it acc:Value}{env:Env} (J:Nat→Shared→Prop) (N:Value→Shared→Prop)
  (hN:N=notedBy (model prog w) A env fun e z=>R (.error e) z)
  (turn:∀ k z,J k z→wpAny (model prog w) A (pyNext it) (fun r z1=>match r with
   | none=>R (.ok .next) z1
   | some v=>wpAny (model prog w) A (letOwnedTupleGo tg it v) (fun _ z2=>wpAny (model prog w) A (assign tg env v) (fun _ z3 =>
     wpAny (model prog w) A (forIn ifs true fun c r=>if r=true then do let ok ← isTrue c env (eval c env);pure (ForInStep.yield ok) else pure (ForInStep.yield r)) (fun ok z4 =>
      if ok=true then wpAny (model prog w) A (eval elt env) (fun y z5=>wpAny (model prog w) A (call (.builtin "list.append") [acc,y]) (fun _ z6=>∃ j,j < k∧J j z6) N z5) N z4
      else ∃ j,j < k∧J j z4) N z3) N z2) N z1) N z)
  {z:Shared} (k:Nat) (h:J k z):codeAny (model prog w) A (.compLoop (.ListComp elt [⟨tg,iter,ifs,0⟩] sc pos) 0 it acc env) R z:=by
 subst hN;refine codeAny_loop rfl J (fun k z hJ=>?_) k h;show wpAny _ A ((compTurn (.ListComp elt [⟨tg,iter,ifs,0⟩] sc pos) 0 it acc env).onRaise (fun x=>do noteFrame x env;theTreesLotGoes x)) _ _ z;refine wpAny_noted ?_;rw [compTurn_list];refine wpAny_bind (wpAny_standAt (wpAny_bind (thn (turn k z hJ) fun r z1 h1=>?_)));cases r with
 | none=>exact wpAny_pure h1
 | some v =>
  refine wpAny_bind (thn h1 fun _ z2 h2=>?_);refine wpAny_bind (thn h2 fun _ z3 h3=>?_);refine wpAny_bind (thn h3 fun ok z4 h4=>?_);cases ok with
  | false=>exact wpAny_pure ⟨rfl,h4⟩
  | true=>exact wpAny_bind (wpAny_bind (thn h4 fun y z5 h5=>wpAny_bind (thn h5 fun _ z6 h6=>wpAny_pure (wpAny_pure ⟨rfl,h6⟩))))
end
noncomputable def cxComp (X:Cx) (sc:Scope) (cl:List (Str×Addr)) (T:List Str) (C:Addr) (s2:Shared) (H2:Hp) (fp:List Addr):Cx where
 prog:=X.prog
 w:=X.w
 K:=X.K
 mg:=X.mg
 base:=X.base
 A:=X.A
 N:=X.N++T
 s₀:=s2
 H₀:=H2
 env:=compEnvC sc cl C X.env
 outer:=X.stack
 stack:=X.stack
 ex:=fp
 fn:=fun _=>false
 calm:=X.calm
 pn:=[]
 xe:=fun _ _=>False
noncomputable def ClOk (X:Cx):List (Str×Addr)→Prop
 | []=>True
 | p :: r=>X.env.cells.lookup p.1=some p.2∧ClOk X r
theorem ClOk.look {X:Cx}:∀ {cl:List (Str×Addr)},ClOk X cl→∀ x c,cl.lookup x=some c→X.env.cells.lookup x=some c
 | [],_,_,_,h=>by cases h
 | p :: r,k,x,c,h=>by
  cases e:x == p.1 with
  | true =>
   rw [Y2,e] at h;have ex:x=p.1:=by simpa using e
   rw [ex,k.1];exact h
  | false =>
   rw [Y2,e] at h;exact ClOk.look k.2 x c h
structure ScOk (X:Cx) (sc:Scope) (cl:List (Str×Addr)) (T:List Str):Prop where
 clos:closureFor sc X.env=pure cl
 cell:∀ y∈sc.names,y.2≠.cell
 kind:sc.kind=.function
 names:∀ x∈sc.names,x.2=.local→sc.names.lookup x.1=some .local
 cls:ClOk X cl
 has:∀ x∈sc.names,x.2=.free→(cl.lookup x.1).isSome=true∧(X.env.scope.names.lookup x.1=some .cell∨X.env.scope.names.lookup x.1=some .free)
 out:∀ x∈X.N,sc.names.lookup x≠some .local
theorem zDe {sc:Scope}{env:Env}{x:Str}{k:NameKind}:∀ {names:List (Str×NameKind)},
  (names.map fun (n,k)=>if (k == NameKind.free && env.scope.kind == .function && env.kindOf n == some .cell) then (n,NameKind.cell) else (n,k)).lookup x=some k →
  ∃ j,(x,j)∈names∧names.lookup x=some j∧(j=k∨(j=.free∧k=.cell))
 | [],h=>by cases h
 | (n,j) :: r,h=>by
  cases e:x == n with
  | true =>
   have ex:x=n:=by simpa using e
   subst ex;refine ⟨j,Zl,by rw [Y2,e],?_⟩;have h':List.lookup x ((if (j == NameKind.free && env.scope.kind == .function && env.kindOf x == some .cell)=true then (x,NameKind.cell) else (x,j)) :: _)=some k:=h;by_cases c:(j == NameKind.free && env.scope.kind == .function && env.kindOf x == some .cell)=true
   ·rw [if_pos c,Y2,e] at h';have c1:(j == NameKind.free)=true:=by
     cases q:(j == NameKind.free) with
     | true=>rfl
     | false=>rw [q] at c;simp at c
    exact .inr ⟨by simpa using c1,(Zf h').symm⟩
   ·rw [if_neg c,Y2,e] at h';exact .inl (Zf h')
  | false =>
   have h':List.lookup x ((if (j == NameKind.free && env.scope.kind == .function && env.kindOf n == some .cell)=true then (n,NameKind.cell) else (n,j)) :: _)=some k:=h;have h2:(List.map (fun (n,k)=>if (k == NameKind.free && env.scope.kind == .function && env.kindOf n == some .cell) then (n,NameKind.cell) else (n,k)) r).lookup x=some k:=by
    by_cases c:(j == NameKind.free && env.scope.kind == .function && env.kindOf n == some .cell)=true
    ·rw [if_pos c,Y2,e] at h';exact h'
    ·rw [if_neg c,Y2,e] at h';exact h'
   obtain ⟨i,m,l,q⟩:=zDe (sc:=sc) (env:=env) h2;exact ⟨i,Zh _ m,by rw [Y2,e];exact l,q⟩
section
variable {X:Cx}{sc:Scope}{cl:List (Str×Addr)}{T:List Str}
theorem ScOk.seen (S:ScOk X sc cl T) {C:Addr}{x:Str} (h:(compEnvC sc cl C X.env).scope.names.lookup x=some .cell∨(compEnvC sc cl C X.env).scope.names.lookup x=some .free) :
  (∃ c,cl.lookup x=some c)∧(X.env.scope.names.lookup x=some .cell∨X.env.scope.names.lookup x=some .free):=by
 have key:∀ k,(k=.cell∨k=.free)→(relabel sc X.env).names.lookup x=some k→(∃ c,cl.lookup x=some c)∧(X.env.scope.names.lookup x=some .cell∨X.env.scope.names.lookup x=some .free):=by
  intro k hk h;obtain ⟨j,m,l,q⟩:=zDe (sc:=sc) (env:=X.env) h;have jf:j=.free:=by
   rcases q with rfl | ⟨q,_⟩
   ·rcases hk with rfl | rfl
    ·exact absurd rfl (S.cell _ m)
    ·rfl
   ·exact q
  subst jf;obtain ⟨a,b⟩:=S.has _ m rfl;exact ⟨Option.isSome_iff_exists.mp a,b⟩
 rcases h with h | h
 ·exact key _ (.inl rfl) h
 ·exact key _ (.inr rfl) h
theorem ScOk.local_out (S:ScOk X sc cl T) {C:Addr}{x:Str} (hx:x∈X.N):(compEnvC sc cl C X.env).scope.names.lookup x≠some .local:=by
 intro h;obtain ⟨j,m,l,q⟩:=zDe (sc:=sc) (env:=X.env) h;rcases q with rfl | ⟨_,q⟩
 ·exact S.out x hx l
 ·cases q
variable {pins:List (Addr×Obj)}{σ : St}{H:Hp}{s:Shared}{fp:List Addr}{C:Addr}
theorem comp_ok (S:ScOk X sc cl T) (I:Inv X pins σ H s) (hf:∀ b∈fp,FpOk X pins H b) (hl:∀ b∈fp,b < s.heap.objs.size) (hC:s.heap.objs.size≤C):(cxComp X sc cl T C s H fp).Ok where
 mod:=I.ok.mod
 kind:=S.kind
 glob:=I.ok.glob
 blt:=I.ok.blt
 above:=hC
 inj:=fun x y c h1 h2=>I.ok.inj x y c (S.cls.look x c h1) (S.cls.look y c h2)
 has:=fun x hx=>(S.seen hx).1
 cab:=fun x c h=>by cases h
 hd:=I.ok.hd
 frames:=I.ok.frames
 stk:=.inl rfl
 exf:=fun b hb=>⟨Ze (Zd (hl b hb) hC),fun x c h=>(hf b hb).2.2.2.2.1 x c (S.cls.look x c h)⟩
 bs:=I.bs
 bsz:=Zm I.ok.bsz I.sz
 noex:=fun b o e hb=>by
  rcases (hf b hb).2.2.2.1 with z | z
  ·exact I.ok.noex b o e z
  ·exact absurd (Zd (Z9 e) (Zm I.ok.bsz z)) (Y1 _)
 exfs:=fun b hb z=>by
  rcases List.mem_cons.mp (I.stkSub b z) with e | e
  ·exact (hf b hb).2.1 e
  ·exact (hf b hb).2.2.1 e
 funs:=I.stack
 frf:=I.stkFree
theorem comp_inv (S:ScOk X sc cl T) (I:Inv X pins σ H s) (hf:∀ b∈fp,FpOk X pins H b) (hl:∀ b∈fp,b < s.heap.objs.size) (hC:s.heap.objs.size≤C) {h1:Heap}{m:Str→Option Value}{t1:Nat}
  (k:∀ b o,s.heap.get? b=some o→h1.get? b=some o) (hn:h1.Ns C m):Inv (cxComp X sc cl T C s H fp) [] (σ++List.replicate T.length none) H { s with heap:=h1,toks:=t1 } where
 ok:=comp_ok S I hf hl hC
 os:=rfl
 bare:=I.bare
 base:=Un.kept k
 loc:=by
  refine ⟨m,hn,fun i x v e1 e2 e3=>?_⟩;have hi:i < σ.length:=by
   by_cases hi:i < σ.length
   ·exact hi
   ·rw [Zy (Nat.not_lt.mp hi),List.getElem?_replicate] at e2;split at e2 <;> cases e2
  rw [Zo hi] at e2;have e1':X.N[i]? = some x:=by
   have e:(X.N++T)[i]? = some x:=e1
   rwa [Zo (by rw [← I.len];exact hi)] at e
  have hx:x∈X.N:=Z1 e1';have e3':(compEnvC sc cl C X.env).scope.names.lookup x=some .cell∨(compEnvC sc cl C X.env).scope.names.lookup x=some .free:=by
   rcases e3 with z | z | z
   ·exact absurd z (S.local_out hx)
   ·exact .inl z
   ·exact .inr z
  obtain ⟨⟨c,hc⟩,ko⟩:=S.seen e3';obtain ⟨m0,hn0,hl0⟩:=I.loc;obtain ⟨u,r,l⟩:=hl0 i x v e1' e2 (.inr ko);refine ⟨u,r,.inr ⟨e3',c,hc,?_⟩⟩;have hc':=S.cls.look x c hc;rcases l with ⟨kl,_⟩ | ⟨_,c',hc2,z⟩
  ·have kl':X.env.scope.names.lookup x=some .local:=kl;rcases ko with q | q
   ·rw [q] at kl';cases kl'
   ·rw [q] at kl';cases kl'
  ·rw [hc'] at hc2;cases hc2;obtain ⟨o,ho,hd⟩:=z;exact ⟨o,k _ _ ho,hd⟩
 cell:=fun x c hc=>by
  obtain ⟨v,o,ho,hd⟩:=I.cell x c (S.cls.look x c hc);exact ⟨v,o,k _ _ ho,hd⟩
 free:=I.hok.fresh hC
 freeC:=fun x c hc=>I.freeC x c (S.cls.look x c hc)
 pin:=fun p hp=>absurd (show p∈([]:List (Addr×Obj)) from hp) (by simp)
 hok:=I.hok.kept k
 len:=by
  show (σ++List.replicate T.length none).length=(X.N++T).length;rw [Zg,Zg,Y7,I.len]
theorem comp_out (S:ScOk X sc cl T) (I:Inv X pins σ H s) (hf:∀ b∈fp,FpOk X pins H b) {D:Addr} (hD:s.heap.objs.size≤D) (hC:s.heap.objs.size≤C) (hDC:D≠C) {s1:Shared}{H1:Hp}{σ1:St}{p1:List (Addr×Obj)}{ys:List V}{its:List Value}
  (J:Inv (cxComp X sc cl T C s H fp) p1 σ1 H1 s1) (hH:H1 D=none) (rv:Vals ys its) (hz:ys.length≤sizeLine) (hget:s1.heap.get? D=some (LCg.lst its)) :
  Inv X pins σ (upd H1 D (.lst ys)) s1:=by
 have fD:H D=none:=I.hok.fresh hD;have nD:∀ b o,s.heap.get? b=some o→b≠D:=fun b o e=>Ze (Zd (Z9 e) hD);refine I.call' (ch:=fp) J.os ⟨fun b o e n hb hx=>J.base.keep b o e n hb hx,fun b o e n hb hx=>J.base.slot b o e n hb hx,fun b o e n hx=>?_,fun b o e hx=>J.base.there b o e hx,fun b xs e=>?_,fun b o u e=>?_,fun b ps e=>?_⟩ (fun b u e=>?_) J.bare fun b hb=>⟨(hf b hb).2.2.2.1,(hf b hb).2.1,(hf b hb).2.2.2.2.1,(hf b hb).2.2.2.2.2⟩
 ·rw [zAa (nD b o e)];exact J.base.free b o e n hx
 ·rw [zAa (zA7 e fD)];exact J.base.tups b xs e
 ·rw [zAa (zA7 e fD)];exact J.base.frzs b o u e
 ·rw [zAa (zA7 e fD)];exact J.base.tbls b ps e
 ·by_cases hb:b=D
  ·subst hb;rw [zA1] at e;cases e;exact ⟨hz,its,its.length,rv,hget⟩
  ·rw [zAa hb] at e;exact (J.hok b u e).stay (fun c v _ q=>q) (fun c q=>by rw [zAa (zA7 q hH)];exact q) fun c xs q=>by rw [zAa (zA7 q hH)];exact q
end
noncomputable def CompGoal (J:It) (k:Nat) (σ : St) (H1:Hp) (g:TG) (tt:TT) (te:TE) (Q:VK):Prop:=∃ W:Nat→Nat→List V→Hp→Prop,(∃ m,W 0 m [] H1)∧∀ i m ys H,W i m ys H →
 (J.stop i H∧ys.length≤sizeLine∧∀ p,H p=none→Q (.ref p) (upd H p (.lst ys))) ∨
 (J.go i H∧ys.length≤sizeLine∧∀ x H',J.yld i H x H'→g x (σ++List.replicate k none) H' fun σ2 H2=>tt σ2 H2 fun b H3 =>
  if b=true then te σ2 H3 fun y H4=>∃ m',m' < m∧W (i + 1) m' (ys++[y]) H4 else ∃ m',m' < m∧W (i + 1) m' ys H3)
noncomputable def tComp (k:Nat) (wi:TI) (g:TG) (tt:TT) (te:TE):TE:=fun σ H Q=>wi σ H fun J H1=>CompGoal J k σ H1 g tt te Q
section
variable {X:Cx}{elt tg iter:Expr}{ifs:List Expr}{sc:Scope}{pos:Pos}{cl:List (Str×Addr)}{T:List Str}{wi:TI}{g:TG}{tt:TT}{te:TE}
theorem zDt {pins:List (Addr×Obj)}{σ : St}{s2:Shared}{H2:Hp}{Q:VK}{E:Value→Shared→Prop}{R:Value→Addr→Result→Shared→Prop}{it:Addr}{fp:List Addr}{tn:Nat→Heap→Prop}{J:It}
  {Φ : Cx→Prop} (hc:∀ C s H fp,Φ (cxComp X sc cl T C s H fp)) (S:ScOk X sc cl T)
  (hg:∀ C s H fp,PG (cxComp X sc cl T C s H fp) tg g) (hf:∀ C s H fp,PFs (cxComp X sc cl T C s H fp) ifs tt) (he:∀ C s H fp,PE (cxComp X sc cl T C s H fp) elt te)
  (I:Inv X pins σ H2 s2) (TT':TurnP Φ X.prog X.w X.K tg J fp it tn) (st:tn 0 s2.heap) (f2:∀ b∈fp,FpOk X pins H2 b)
  (W:Nat→Nat→List V→Hp→Prop) (m0:Nat) (w0:W 0 m0 [] H2)
  (turn:∀ i m ys H,W i m ys H→(J.stop i H∧ys.length≤sizeLine∧∀ p,H p=none→Q (.ref p) (upd H p (.lst ys))) ∨
   (J.go i H∧ys.length≤sizeLine∧∀ x H',J.yld i H x H'→g x (σ++List.replicate T.length none) H' fun σ2 H2=>tt σ2 H2 fun b H3 =>
    if b=true then te σ2 H3 fun y H4=>∃ m',m' < m∧W (i + 1) m' (ys++[y]) H4 else ∃ m',m' < m∧W (i + 1) m' ys H3))
  (hR:∀ (D C:Addr) (s1:Shared) (H1:Hp) (m:Str→Option Value),Inv X pins σ H1 s1→H1 C=none→C≠X.env.locals→X.s₀.heap.objs.size≤C→(∀ x c,X.env.cells.lookup x=some c→c≠C)→(∀ p∈X.pn++pins,p.1≠C) →
   s1.heap.Ns C m→Q (.ref D) H1→R (.ref D) C (.ok .next) s1) :
  wpAny (model X.prog X.w) X.A (newList []) (fun acc s₃=>wpAny (model X.prog X.w) X.A (newFunctionEnv sc X.env.globals cl [] X.env.qual none .none (some X.env)) (fun cenv s₄ =>
   codeAny (model X.prog X.w) X.A (.compStart (.ListComp elt [⟨tg,iter,ifs,0⟩] sc pos) 0 (.ref it) acc { cenv with scope:=relabel sc X.env }) (R acc cenv.locals) s₄) E s₃) E s2:=by
 refine wpAny_newObj_type (wpAny_newFunctionEnv S.cell (by intro y hy;simp at hy) (fun h1 hn1 sb1=>?_) S.kind);dsimp only at hn1 sb1 ⊢;generalize hH:s2.heap.push { cls:=.type "list",dict:=none,data:=.seq ([]:List Value).toArray }=G at hn1 sb1 ⊢;have hC:G.objs.size=s2.heap.objs.size + 1:=by rw [← hH,Y3]
 have hDC:s2.heap.objs.size≠G.objs.size:=by rw [hC];exact Ze (Ye _)
 have hCle:s2.heap.objs.size≤G.objs.size:=by rw [hC];exact Nat.le_succ _
 have old:∀ b o,s2.heap.get? b=some o→h1.get? b=some o:=fun b o e=>by
  exact sb1.extBut b o (Ze (Zd (Z9 e) hCle)) (Z2 _ (hH ▸ Z2 _ e))
 have hacc:h1.get? s2.heap.objs.size=some (LCg.lst []):=sb1.extBut _ _ hDC (Z2 _ (hH ▸ Za _ rfl));have fl:∀ b∈fp,b < s2.heap.objs.size:=fun b hb=>by
  obtain ⟨o,e,_⟩:=TT'.obj _ _ st b hb;exact Z9 e
 have DS:s2.heap.objs.size∉frs X.stack:=fun z=>by
  rcases List.mem_cons.mp (I.stkSub _ z) with e | e
  ·exact Ze I.lt e.symm
  ·exact I.nofs (Z7 _) e
 have keepT:∀ (i:Nat) (h h':Heap),tn i h→(∀ b o,b < s2.heap.objs.size→h.get? b=some o→h'.get? b=some o)→tn i h':=fun i h h' z k=>TT'.keep i h h' z fun b hb o e=>k b o (fl b hb) e;have fpo:∀ {H':Hp}{pl:List (Addr×Obj)},(∀ b∈fp,H' b=none)→(∀ p∈pl,s2.heap.objs.size≤p.1)→∀ b∈fp,FpOk (cxComp X sc cl T G.objs.size s2 H2 fp) pl H' b:=fun {H' pl} hn hp b hb=>by
  refine ⟨hn b hb,fun z=>?_,fun z=>?_,.inl hb,fun x c h=>(f2 b hb).2.2.2.2.1 x c (S.cls.look x c h),fun p hp' z=>?_⟩
  ·exact Ze (Zd (fl b hb) hCle) z
  ·rcases List.mem_cons.mp (I.stkSub b z) with e | e
   ·exact (f2 b hb).2.1 e
   ·exact (f2 b hb).2.2.1 e
  ·exact Ze (Zd (fl b hb) (hp p (show p∈pl from hp'))) z.symm
 let Y:=cxComp X sc cl T G.objs.size s2 H2 fp
 have loop:∀ z:Shared,z={ s2 with heap:=h1,toks:=s2.toks + ([]:List (Str×Value)).length } →
   codeAny (model X.prog X.w) X.A (.compLoop (.ListComp elt [⟨tg,iter,ifs,0⟩] sc pos) 0 (.ref it) (.ref s2.heap.objs.size) (compEnvC sc cl G.objs.size X.env)) (R (.ref s2.heap.objs.size) G.objs.size) z:=by
  rintro z rfl;refine comp_loop (fun n z=>∃ i ys its H',Inv Y [] (σ++List.replicate T.length none) H' z∧tn i z.heap∧(∀ b∈fp,H' b=none)∧H' s2.heap.objs.size=none∧Vals ys its∧z.heap.get? s2.heap.objs.size=some (LCg.lst its)∧W i n ys H') _ rfl ?_ m0
   ⟨0,[],[],H2,comp_inv S I f2 fl hCle old hn1,TT'.keep _ _ _ st fun b hb o e=>old b o e,fun b hb=>(f2 b hb).1,I.hok.fresh (Z7 _),.nil,hacc,w0⟩
  rintro n z ⟨i,ys,its,H',IY,stz,frz,fD,rv,hget,wz⟩;have IP:Inv Y [(s2.heap.objs.size,LCg.lst its)] (σ++List.replicate T.length none) H' z:=IY.pins_of fun p hp=>by
   have e:p=(s2.heap.objs.size,LCg.lst its):=by simpa using hp
   subst e;exact ⟨hget,fD,hDC,DS,fun v q=>by cases (show Data.seq _ _=Data.cell v from q)⟩
  have hpl:∀ p∈[(s2.heap.objs.size,LCg.lst its)],s2.heap.objs.size≤p.1:=fun p hp=>by
   have e:p=(s2.heap.objs.size,LCg.lst its):=by simpa using hp
   subst e;exact Z7 _
  rcases turn i n ys H' wz with ⟨stop,hz,q⟩ | ⟨go,hz,step⟩
  ·refine thn (TT'.done Y rfl rfl rfl (hc _ _ _ _) i _ z _ H' _ IP (fpo frz hpl) stz stop) fun r z1 ⟨hr,I1⟩=>?_;subst hr;have g1:z1.heap.get? s2.heap.objs.size=some (LCg.lst its):=(I1.pin (s2.heap.objs.size,LCg.lst its) (by simp [Y,cxComp])).1;obtain ⟨mC,hnC,_⟩:=I1.loc;have out:=comp_out S I f2 (Z7 _) hCle hDC I1 fD rv hz g1;refine hR _ _ z1 _ mC out ?_ ?_ ?_ ?_ ?_ hnC (q _ fD)
   ·rw [zAa (Ne.symm hDC)];exact I1.free
   ·exact (Ze (Zd I.lt hCle)).symm
   ·exact Zm I.sz hCle
   ·intro x c hcc;obtain ⟨v,zc⟩:=I.cell x c hcc;exact Ze (Zd zc.lt hCle)
   ·intro p hp;exact Ze (Zd (Z9 (I.pin p hp).1) hCle)
  ·refine thn (TT'.item Y rfl rfl rfl (hc _ _ _ _) i _ z _ H' _ IP (fpo frz hpl) stz go) fun r z1 ⟨u,hr,h1'⟩=>?_;subst hr;refine thn h1' fun _ z2 ⟨x,H3,I3,r3,y3,st3,fr3⟩=>?_;have I3':=I3.pinned (fpo fr3 hpl) (TT'.obj _ _ st3);have fin:∀ {H':Hp}{σ':St}{z':Shared},Inv Y ([(s2.heap.objs.size,LCg.lst its)]++pinsAt fp z2.heap) σ' H' z'→tn (i + 1) z'.heap∧(∀ b∈fp,H' b=none)∧H' s2.heap.objs.size=none∧z'.heap.get? s2.heap.objs.size=some (LCg.lst its):=fun {H' σ' z'} I'=>by
    have a1:∀ b∈fp,∀ o,z2.heap.get? b=some o→z'.heap.get? b=some o∧H' b=none:=fun b hb o e =>
     let p:=I'.pin (b,o) (Zw _ (Zw _ (zDi hb e)))
     ⟨p.1,p.2.1⟩
    have a2:=I'.pin (s2.heap.objs.size,LCg.lst its) (Zw _ (by simp))
    exact ⟨TT'.keep _ _ _ st3 fun b hb o e=>(a1 b hb o e).1,fun b hb=>by
     obtain ⟨o,e,_⟩:=TT'.obj _ _ st3 b hb
     exact (a1 b hb o e).2,a2.2.1,a2.1⟩
   have bare:∀ {H':Hp}{σ':St}{z':Shared},Inv Y ([(s2.heap.objs.size,LCg.lst its)]++pinsAt fp z2.heap) σ' H' z'→Inv Y [] σ' H' z':=fun I'=>I'.pins_of fun p hp=>absurd hp (by simp);refine wpAny_mono (hg G.objs.size s2 H2 fp _ z2 _ H3 x u _ I3' r3 (step x H3 y3)) (fun _ z3 ⟨σ4,H4,I4,q4⟩=>?_) fun _ _ e=>e.elim;refine wpAny_mono (hf G.objs.size s2 H2 fp _ z3 _ H4 _ I4 q4) (fun ok z4 ⟨H5,I5,q5⟩=>?_) fun _ _ e=>e.elim;have lenσ : ∀ {H':Hp}{σ':St}{z':Shared}{pl},Inv Y pl σ' H' z'→(σ++List.replicate T.length none).length = σ'.length:=fun I'=>by rw [I'.len];exact IY.len
   have weak:∀ {H':Hp}{z':Shared},Inv Y [] σ4 H' z'→Inv Y [] (σ++List.replicate T.length none) H' z':=fun {H' z'} I'=>by
    have c0:=comp_inv (T:=T) (t1:=z'.toks) S I f2 fl hCle old hn1;obtain ⟨m',hn',hl'⟩:=I'.loc;obtain ⟨_,_,hl0⟩:=I.loc;refine ⟨I'.ok,I'.os,I'.bare,I'.base,⟨m',hn',fun j x v e1 e2 e3=>?_⟩,I'.cell,I'.free,I'.freeC,I'.pin,I'.hok,(lenσ I').trans I'.len⟩;have hj:j < σ.length:=by
     by_cases hj:j < σ.length
     ·exact hj
     ·rw [Zy (Nat.not_lt.mp hj),List.getElem?_replicate] at e2;split at e2 <;> cases e2
    have e2':=e2;rw [Zo hj] at e2';have e1':X.N[j]? = some x:=by
     have e:(X.N++T)[j]? = some x:=e1
     rwa [Zo (by rw [← I.len];exact hj)] at e
    have hx:x∈X.N:=Z1 e1';have e3':(compEnvC sc cl G.objs.size X.env).scope.names.lookup x=some .cell∨(compEnvC sc cl G.objs.size X.env).scope.names.lookup x=some .free:=by
     rcases e3 with z | z | z
     ·exact absurd z (S.local_out hx)
     ·exact .inl z
     ·exact .inr z
    obtain ⟨⟨c,hc'⟩,ko⟩:=S.seen e3';obtain ⟨u,r,l⟩:=hl0 j x v e1' e2' (.inr ko);have hcX:=S.cls.look x c hc';refine ⟨u,r,.inr ⟨e3',c,hc',?_⟩⟩;rcases l with ⟨kl,_⟩ | ⟨_,c',hc2,zc⟩
    ·have kl':X.env.scope.names.lookup x=some .local:=kl;rcases ko with q | q
     ·rw [q] at kl';cases kl'
     ·rw [q] at kl';cases kl'
    ·rw [hcX] at hc2;cases hc2;obtain ⟨o,ho,hd⟩:=zc;have nfp:c∉fp:=fun hb=>(f2 c hb).2.2.2.2.1 x c hcX rfl;obtain ⟨sl,e⟩:=I'.base.any ho (I.freeC x c hcX) nfp;exact ⟨_,e,hd⟩
   cases ok with
   | false =>
    rw [if_neg Zc] at q5 ⊢;obtain ⟨m',hm,w'⟩:=q5;obtain ⟨b1,b2,b3,b4⟩:=fin I5;exact ⟨m',hm,i + 1,ys,its,H5,weak (bare I5),b1,b2,b3,rv,b4,w'⟩
   | true =>
    rw [if_pos rfl] at q5 ⊢;refine wpAny_mono (he G.objs.size s2 H2 fp _ z4 _ H5 _ I5 q5) (fun y z5 ⟨yv,H6,I6,r6,q6⟩=>?_) fun _ _ e=>e.elim;obtain ⟨m',hm,w'⟩:=q6;obtain ⟨b1,b2,b3,b4⟩:=fin I6;refine append_at (hsz:=by show its.toArray.size≤sizeLine;rw [Z8,← rv.length];exact hz) b4 fun h6 sb6 g6=>?_
    have I7:Inv Y [] (σ++List.replicate T.length none) H6 { z5 with heap:=h6 }:=(weak (bare I6)).turned (t':=z5.toks) (it:=s2.heap.objs.size) (fun b o hb e=>(sb6.2 b hb).trans e) b3 hDC (.inr (Z7 _)) (fun x c h=>by
     obtain ⟨v,zc⟩:=I.cell x c (S.cls.look x c h)
     exact Ze zc.lt) fun p hp=>absurd (show p∈([]:List (Addr×Obj)) from hp) (by simp)
    refine ⟨m',hm,i + 1,ys++[yv],its++[y],H6,I7,keepT _ _ _ b1 fun b o hb e=>(sb6.2 b (Ze hb)).trans e,b2,b3,rv.append (.cons r6 .nil),g6.trans (congrArg some (LCg.lst_snoc its y)),w'⟩
 exact codeAny_compStart_list (loop _ rfl) (TT'.self _ 0 _ _ _ (TT'.keep _ _ _ st fun b hb o e=>old b o e) (loop _ rfl))
theorem zB0 (hc:X.calm=true) (S:ScOk X sc cl T) (hi:PI X tg iter wi)
  (hg:∀ C s H fp,PG (cxComp X sc cl T C s H fp) tg g) (hf:∀ C s H fp,PFs (cxComp X sc cl T C s H fp) ifs tt) (he:∀ C s H fp,PE (cxComp X sc cl T C s H fp) elt te)
  (hs:∀ x,foldedSetIterable iter X.env x=pure x:=by intro _;rfl):PE X (.ListComp elt [⟨tg,iter,ifs,0⟩] sc pos) (tComp T.length wi g tt te):=by
 intro pins s σ H Q I h;rw [eval_ListComp];refine wpAny_comprehension_free (use:=none) rfl hs S.clos S.kind S.names (thn (hi pins s σ H _ I h) fun v s1 h1=>thn h1 fun itv s2 h2=>?_);obtain ⟨it,fp,tn,J,H2,e,I2,TT',st2,f2,W,⟨m0,w0⟩,turn⟩:=h2;subst e;refine zDt (Q:=Q) (fun _ _ _ _=>hc) S hg hf he I2 TT' st2 f2 W m0 w0 turn fun D C z H1 m I1 n1 n2 n3 n4 n5 hn q=>?_;exact ⟨m,hn,fun h' sb=>⟨.ref D,H1,I1.turned (t':=z.toks) (it:=C) (fun b o hb e=>(sb.2 b hb).trans e) n1 n2 (.inr n3) n4 n5,rfl,q⟩⟩
theorem zAy {i:Nat}{y:Str}{py spos:Pos} (hc:X.calm=true) (S:ScOk X sc cl T) (hi:PI X tg iter wi)
  (hg:∀ C s H fp,PG (cxComp X sc cl T C s H fp) tg g) (hf:∀ C s H fp,PFs (cxComp X sc cl T C s H fp) ifs tt) (he:∀ C s H fp,PE (cxComp X sc cl T C s H fp) elt te)
  (hN:X.N.Nodup) (hix:X.N[i]? = some y) (hx:X.env.scope.names.lookup y=some .local)
  (hsw:swapsWith (.ListComp elt [⟨tg,iter,ifs,0⟩] sc pos) (some (.Name y py)) spos.line X.env=pure true)
  (hs:∀ x,foldedSetIterable iter X.env x=pure x:=by intro _;rfl) :
  PS X (.Assign [.Name y py] (.ListComp elt [⟨tg,iter,ifs,0⟩] sc pos) spos) (tAsg (tComp T.length wi g tt te) (gName i)):=by
 intro pins s σ H D I h;rw [exec_Assign_Name_used _ _ _ _ hsw];refine wpAny_bind (wpAny_standAt (wpAny_bind ?_));show wpAny _ X.A (do let _ ← comprehension (.ListComp elt [⟨tg,iter,ifs,0⟩] sc pos) sc X.env _ (newList []) false (eval iter X.env) (some (assign (.Name y py) X.env))) _ _ s;refine wpAny_bind (thn (wpAny_comprehension_free (use:=some (assign (.Name y py) X.env)) (Q:=fun _ s'=>SP X pins D .next s') rfl hs S.clos S.kind S.names (thn (hi pins s σ H _ I h) fun v s1 h1=>thn h1 fun itv s2 h2=>?_)) fun _ s' hq=>wpAny_pure (wpAny_pure hq));obtain ⟨it,fp,tn,J,H2,e,I2,TT',st2,f2,W,⟨m0,w0⟩,turn⟩:=h2;subst e;refine zDt (Q:=fun x H1=>gName i x σ H1 D.nx) (fun _ _ _ _=>hc) S hg hf he I2 TT' st2 f2 W m0 w0 turn fun A C z H1 m I1 n1 n2 n3 n4 n5 hn q=>?_;show wpAny _ X.A (assign (.Name y py) X.env (.ref A)) _ _ z;refine wpAny_assign_Name (store_ok2 (v:=.ref A) I1 hN hix (.inl hx) rfl (fun z' I' ⟨a,sb,ha⟩=>?_) (.inr hx));have hCa:C≠a:=by
  rcases ha with e | e
  ·rw [e];exact n2
  ·exact (n4 y a e).symm
 refine ⟨m,hn.sameBut sb hCa,fun h' sb'=>⟨_,H1,I'.turned (t':=z'.toks) (it:=C) (fun b o hb e=>(sb'.2 b hb).trans e) n1 n2 (.inr n3) n4 n5,q⟩⟩
end
end L2
namespace L2
open PySem PySem.Spec PyProof.Rows
section
variable {X:Cx}
theorem v1 {x:V}{us:List Value} (r:Vals [x] us):∃ u,us=[u]∧RelV x u:=by
 cases r with
 | cons a b=>cases b;exact ⟨_,rfl,a⟩
theorem v2 {x y:V}{us:List Value} (r:Vals [x,y] us):∃ u v,us=[u,v]∧RelV x u∧RelV y v:=by
 cases r with
 | cons a b =>
  cases b with
  | cons c d=>cases d;exact ⟨_,_,rfl,a,c⟩
theorem zAo:CallR X (.builtin "isinstance") (fun xs H Q=>∃ x c t cv b,xs=[x,c]∧TyOf X.K H x t∧RelV c cv∧PySem.W.kitOne X.K t cv=some b∧Q (.bl b) H):=by
 intro pins s σ H xs us Q I r h;obtain ⟨x,c,t,cv,b,rfl,ty,rc,e,q⟩:=h;obtain ⟨u,v,rfl,ru,rv⟩:=v2 r;have hv:v=cv:=by
  cases c with
  | non=>exact (show v=Value.none from rv).trans (show cv=Value.none from rc).symm
  | bl z=>exact (show v=Value.bool z from rv).trans (show cv=Value.bool z from rc).symm
  | int i =>
   obtain ⟨t1,rfl⟩:=rc;exact absurd e (by unfold PySem.W.kitOne;cases ty <;> simp [PySem.W.kitCls])
  | str i =>
   obtain ⟨t1,rfl⟩:=rc;exact absurd e (by unfold PySem.W.kitOne;cases ty <;> simp [PySem.W.kitCls])
  | byt i =>
   obtain ⟨t1,rfl⟩:=rc;exact absurd e (by unfold PySem.W.kitOne;cases ty <;> simp [PySem.W.kitCls])
  | flt i =>
   obtain ⟨t1,rfl⟩:=rc;exact absurd e (by unfold PySem.W.kitOne;cases ty <;> simp [PySem.W.kitCls])
  | ref a=>exact (show v=Value.ref a from rv).trans (show cv=Value.ref a from rc).symm
  | ty n=>exact (show v=Value.type n from rv).trans (show cv=Value.type n from rc).symm
 subst hv;exact isinst_ok I ru ty e fun tk=>⟨.bl b,H,I.tok tk,rfl,q⟩
theorem zEe:∀ {bs:List Bool}{us:List Value}{i:Nat}{v:Value},Vals (bs.map V.bl) us→us[i]? = some v→∃ b,bs[i]? = some b∧v=Value.bool b
 | [],_,i,v,.nil,h=>by simp at h
 | b :: r,_,0,v,.cons a t,h=>by
  simp at h;subst h;exact ⟨b,rfl,a⟩
 | b :: r,_,i + 1,v,.cons a t,h=>by
  obtain ⟨b',e,q⟩:=zEe (bs:=r) (i:=i) t (by simpa using h);exact ⟨b',by simpa using e,q⟩
theorem all_range:∀ (bs:List Bool),((List.range bs.length).all fun i=>(bs[i]?).getD true)=bs.all id
 | []=>rfl
 | b :: r=>by
  rw [Zi,List.range_succ_eq_map,Yh,List.all_map,Yh];have e:=all_range r;simp only [Function.comp_def,List.getElem?_cons_succ,List.getElem?_cons_zero,Option.getD_some,id] at *;rw [← e]
theorem zC1 (hc:X.calm=true):CallR X (.builtin "all") (fun xs H Q=>∃ (p:Addr) (bs:List Bool),xs=[.ref p]∧SqL X.K H p (bs.map V.bl)∧Q (.bl (bs.all id)) H):=by
 intro pins s σ H xs us Q I r h;obtain ⟨p,bs,rfl,hp,q⟩:=h;obtain ⟨u,rfl,ru⟩:=v1 r;cases (show u=Value.ref p from ru);obtain ⟨its,rv,pl,hz⟩:=I.list hp;have hl:=pl.isList;have hlt:p < s.heap.objs.size:=by obtain ⟨_,e,_⟩:=hl;exact Z9 e
 have hlen:its.length=bs.length:=by rw [← rv.length,Z0]
 refine call_all_walk (wpAny_pyIter_list hl ?_)
 refine ⟨s.heap.objs.size,[s.heap.objs.size,p],[s.heap.objs.size],its.toArray.size,_,_,fun i=>(bs[i]?).getD true,rfl,Walks.list (A:=X.A.in1) (I.ok.hd hc) _ p (Ze hlt) its.toArray,
  ⟨⟨_,Za _ rfl,rfl,rfl⟩,hl.push _⟩,fun i v s' Q' E' hP hQ=>?_,fun h' tk hk=>?_⟩
 ·obtain ⟨b,e,rfl⟩:=zEe rv (by simpa using hP);simp only [e,Option.getD_some] at hQ;exact wpAny_truthy_bool hQ
 ·rw [Z8,hlen,all_range];exact ⟨.bl _,H,I.kept (t':=tk) fun b o e=>hk b o (fun hm=>by rw [List.mem_singleton.mp hm] at e;exact Y1 _ (Z9 e)) (Z2 _ e),rfl,q⟩
noncomputable def Its (x:Str):It:=⟨fun i _=>i < x.length,fun i H v H'=>H'=H∧∃ c,x.cps[i]? = some c∧v=.str ⟨#[c]⟩,fun i _=>x.length≤i⟩
noncomputable def iStr (tl:TE):TI:=fun σ H R=>tl σ H fun v H1=>∃ x,v=.str x∧R (Its x) H1
theorem turn_str {P:Program}{w:World}{K:PySem.W.Frag}{y:Str}{py:Pos}{x:Str}{it:Addr}{St:Nat→Heap→Prop} (ho:∀ i h,St i h→∃ o,h.get? it=some o∧∀ v,o.data≠.cell v)
  (W:∀ A':Around,A'.handled=none→Walks P w A' it [it] [it] x.cps.size (SignAt x) St) (hself:∀ (A:Around) (i:Nat) (s:Shared) (Q:Value→Shared→Prop) (E:Value→Shared→Prop),St i s.heap→Q (.ref it) s→wpAny (model P w) A (pyIter (.ref it)) Q E s)
  (hst:∀ i h,St i h→i≤x.cps.size→True):Turn P w K (.Name y py) (Its x) [it] it (fun i h=>i≤x.cps.size∧St i h) where
 mem:=by simp
 obj:=fun i h st b hb=>by
  have e:b=it:=by simpa using hb
  subst e;exact ho i h st.2
 keep:=fun i h h' st k=>⟨st.1,(W { callerA with handled:=none } rfl).frame i h h' st.2 k⟩
 item:=by
  intro X hP hw hK hc i pins s σ H E I hf st hg;subst hP hw hK;obtain ⟨f0,f1,f2,f3,f4,f5⟩:=hf it (by simp);refine (W X.A (I.ok.hd hc)).item i s _ _ hg st.2 fun v h' tk hv st' kk=>?_;obtain ⟨c,u,hc',rfl⟩:=hv;have I1:Inv X pins σ H { s with heap:=h',toks:=tk }:=I.turned (fun b o hb e=>kk b o (by simpa using hb) e) f0 f1 f3 f4 f5;exact ⟨_,rfl,wpAny_pure ⟨.str ⟨#[c]⟩,H,I1,⟨u,rfl⟩,⟨rfl,c,hc',rfl⟩,⟨hg,st'⟩,fun b hb=>(hf b hb).1⟩⟩
 done:=by
  intro X hP hw hK hc i pins s σ H E I hf st hg;subst hP hw hK;obtain ⟨f0,f1,f2,f3,f4,f5⟩:=hf it (by simp);have e:i=x.cps.size:=Nat.le_antisymm st.1 hg;have st2:=st.2;rw [e] at st2;exact (W X.A (I.ok.hd hc)).done s _ _ st2 fun h' tk kk=>⟨rfl,I.turned (fun b o hb e=>kk b o (by simpa using hb) e) f0 f1 f3 f4 f5⟩
 self:=fun A i s Q E st h=>hself A i s Q E st.2 h
theorem pi_str {y:Str}{py:Pos}{l:Expr}{tl:TE} (hl:PE X l tl):PI X (.Name y py) l (iStr tl):=by
 intro pins s σ H R I h;refine thn (hl pins s σ H _ I h) fun v s1 ⟨x,H1,I1,r1,q1⟩=>?_;obtain ⟨z,rfl,q⟩:=q1;obtain ⟨t,rfl⟩:=r1;have fin:∀ {o:Obj}{St:Nat→Heap→Prop},Turn X.prog X.w X.K (.Name y py) (Its z) [s1.heap.objs.size] s1.heap.objs.size St→St 0 (s1.heap.push o)→PIE X pins σ (.Name y py) R (.ref s1.heap.objs.size) { s1 with heap:=s1.heap.push o }:=fun {o St} T st=>by
  refine ⟨s1.heap.objs.size,[s1.heap.objs.size],St,_,H1,rfl,I1.kept (t':=s1.toks) fun b o e=>Z2 _ e,T,st,fun b hb=>?_,q⟩;have e:b=s1.heap.objs.size:=by simpa using hb
  subst e;exact I1.fpOk (Z7 _) (I1.hok.fresh (Z7 _))
 cases ha:z.cps.all (· < 128)
 ·refine wpAny_pyIter_wide ha (fin (turn_str (fun i h st=>?_) (fun A' hA=>Walks.strWide hA _ z t) (fun A i s Q E st h=>wpAny_pyIter_striter_wide st h) fun _ _ _ _=>trivial) ⟨Zj _,⟨_,Za _ rfl,rfl,rfl⟩⟩);obtain ⟨o,e,c,d⟩:=st;exact ⟨o,e,fun v q=>by rw [d] at q;cases q⟩
 ·refine wpAny_pyIter_ascii ha (fin (turn_str (fun i h st=>?_) (fun A' hA=>Walks.strAscii hA _ z t) (fun A i s Q E st h=>wpAny_pyIter_striter_ascii st h) fun _ _ _ _=>trivial) ⟨Zj _,⟨_,Za _ rfl,rfl,rfl⟩⟩);obtain ⟨o,e,c,d⟩:=st;exact ⟨o,e,fun v q=>by rw [d] at q;cases q⟩
end
section
variable {X:Cx}{CX:CXT}{k:Nat}{f C:Addr}{fd:FuncData}{ps ks:List Str}{sp:Sp}{E:St→XK}{x:Str}{p pos:Pos}{e:Expr}{es:List Expr}{kws:List Keyword}{t tk:TA}{g:List Value→List Value→List Value}{gV:List V→List V→List V}
end
end L2
namespace L2
open PySem PySem.Spec PyProof.Rows
theorem log2_lt64 {j:Int} (h0:0 < j) (h1:j < 2 ^ 64):j.natAbs.log2 < 9000:=by
 have:j.natAbs < 2 ^ 64:=by omega
 have h:j.natAbs.log2 < 64:=(Nat.log2_lt (by omega)).mpr this;omega
noncomputable def CDivB (i j:Int):Prop:=0 < j∧j < 2 ^ 64
theorem op_fdivB {X:Cx}:OpR X (binaryOp .FloorDiv) (rI CDivB fun i j=>.int (i / j)):=opI fun i j _ _ _ _ _ hc q=>by
 have h1:(0:Int) < j:=hc.1;exact floordiv_int (by omega) (by rw [Int.fdiv_eq_ediv_of_nonneg i (by omega)];exact q) (.inl (PyProof.noPylong_of_log2 (log2_lt64 hc.1 hc.2)))
mutual
inductive Has (G:Addr→Prop) (H:Hp):V→PyData→Prop where
 | non:Has G H .non .none
 | bl (b:Bool):Has G H (.bl b) (.bool b)
 | int (i:Int):Has G H (.int i) (.int i)
 | str (x:Str) (hx:x.length≤1000) (ho:PyData.strOk x=true):Has G H (.str x) (.str x)
 | lst {a:Addr}{xs:List V}{ds:List PyData}:G a→H a=some (.lst xs)→xs.length≤1000→HasAll G H xs ds→Has G H (.ref a) (.list ds)
 | tup {a:Addr}{xs:List V}{ds:List PyData}:G a→H a=some (.tup xs)→xs.length≤1000→HasAll G H xs ds→Has G H (.ref a) (.tuple ds)
inductive HasAll (G:Addr→Prop) (H:Hp):List V→List PyData→Prop where
 | nil:HasAll G H [] []
 | cons {x:V}{xs:List V}{d:PyData}{ds:List PyData}:Has G H x d→HasAll G H xs ds→HasAll G H (x :: xs) (d :: ds)
end
noncomputable abbrev Any:Addr→Prop:=fun _=>True
noncomputable def isSeq:HO→Prop
 | .lst _=>True
 | .tup _=>True
 | _=>False
mutual
theorem Has.frameS {G G':Addr→Prop}{H H':Hp} (e:∀ a o,G a→isSeq o→H a=some o→G' a∧H' a=some o):∀ {v:V}{d:PyData},Has G H v d→Has G' H' v d
 | _,_,.non=>.non
 | _,_,.bl b=>.bl b
 | _,_,.int i=>.int i
 | _,_,.str x hx ho=>.str x hx ho
 | _,_,.lst (xs:=xs) g s z h=>.lst (e _ (.lst xs) g trivial s).1 (e _ (.lst xs) g trivial s).2 z (HasAll.frameS e h)
 | _,_,.tup (xs:=xs) g s z h=>.tup (e _ (.tup xs) g trivial s).1 (e _ (.tup xs) g trivial s).2 z (HasAll.frameS e h)
theorem HasAll.frameS {G G':Addr→Prop}{H H':Hp} (e:∀ a o,G a→isSeq o→H a=some o→G' a∧H' a=some o):∀ {vs:List V}{ds:List PyData},HasAll G H vs ds→HasAll G' H' vs ds
 | _,_,.nil=>.nil
 | _,_,.cons h t=>.cons (Has.frameS e h) (HasAll.frameS e t)
end
theorem Has.frame {G G':Addr→Prop}{H H':Hp}{v:V}{d:PyData} (h:Has G H v d) (e:∀ a o,G a→H a=some o→G' a∧H' a=some o):Has G' H' v d:=h.frameS fun a o g _ q=>e a o g q
theorem HasAll.frame {G G':Addr→Prop}{H H':Hp}{v:List V}{d:List PyData} (h:HasAll G H v d) (e:∀ a o,G a→H a=some o→G' a∧H' a=some o):HasAll G' H' v d:=h.frameS fun a o g _ q=>e a o g q
theorem Has.mono {G:Addr→Prop}{H H':Hp}{v:V}{d:PyData} (h:Has G H v d) (e:Same H H'):Has G H' v d:=h.frame fun a o g q=>⟨g,e a o q⟩
theorem HasAll.mono {G:Addr→Prop}{H H':Hp}{v:List V}{d:List PyData} (h:HasAll G H v d) (e:Same H H'):HasAll G H' v d:=h.frame fun a o g q=>⟨g,e a o q⟩
theorem Has.any {G:Addr→Prop}{H:Hp}{v:V}{d:PyData} (h:Has G H v d):Has Any H v d:=h.frame fun _ _ _ q=>⟨trivial,q⟩
theorem HasAll.any {G:Addr→Prop}{H:Hp}{v:List V}{d:List PyData} (h:HasAll G H v d):HasAll Any H v d:=h.frame fun _ _ _ q=>⟨trivial,q⟩
section
variable {G:Addr→Prop}{H:Hp}
theorem HasAll.length:∀ {xs:List V}{ds:List PyData},HasAll G H xs ds→xs.length=ds.length
 | _,_,.nil=>rfl
 | _,_,.cons _ t=>by rw [Zi,Zi,HasAll.length t]
theorem HasAll.get:∀ {xs:List V}{ds:List PyData}{i:Nat}{x:V},HasAll G H xs ds→xs[i]? = some x→∃ d,ds[i]? = some d∧Has G H x d
 | _,_,i,x,.nil,h=>by simp at h
 | _,_,0,x,.cons a t,h=>by simp at h;subst h;exact ⟨_,rfl,a⟩
 | _,_,i + 1,x,.cons a t,h=>by
  obtain ⟨d,e,q⟩:=HasAll.get (i:=i) t (by simpa using h);exact ⟨d,by simpa using e,q⟩
theorem HasAll.snoc:∀ {xs:List V}{ds:List PyData}{x:V}{d:PyData},HasAll G H xs ds→Has G H x d→HasAll G H (xs++[x]) (ds++[d])
 | _,_,_,_,.nil,h=>.cons h .nil
 | _,_,_,_,.cons a t,h=>.cons a (HasAll.snoc t h)
theorem HasAll.append:∀ {xs ys:List V}{ds es:List PyData},HasAll G H xs ds→HasAll G H ys es→HasAll G H (xs++ys) (ds++es)
 | _,_,_,_,.nil,h=>h
 | _,_,_,_,.cons a t,h=>.cons a (HasAll.append t h)
theorem Has.list_inv {v:V}{ds:List PyData} (h:Has G H v (.list ds)):∃ a xs,v=.ref a∧G a∧H a=some (.lst xs)∧xs.length≤1000∧HasAll G H xs ds:=by
 cases h with
 | lst g s z q=>exact ⟨_,_,rfl,g,s,z,q⟩
theorem Has.tup_inv {v:V}{ds:List PyData} (h:Has G H v (.tuple ds)):∃ a xs,v=.ref a∧G a∧H a=some (.tup xs)∧xs.length≤1000∧HasAll G H xs ds:=by
 cases h with
 | tup g s z q=>exact ⟨_,_,rfl,g,s,z,q⟩
theorem Has.str_inv {v:V}{x:Str} (h:Has G H v (.str x)):v=.str x∧x.length≤1000∧PyData.strOk x=true:=by
 cases h with
 | str _ a b=>exact ⟨rfl,a,b⟩
mutual
theorem Has.lay:∀ {v:V}{d:PyData},Has G H v d→d.canLay0=true
 | _,_,.non=>rfl
 | _,_,.bl b=>rfl
 | _,_,.int i=>rfl
 | _,_,.str x _ ho=>ho
 | _,_,.lst _ _ _ h=>HasAll.lay h
 | _,_,.tup _ _ _ h=>HasAll.lay h
theorem HasAll.lay:∀ {vs:List V}{ds:List PyData},HasAll G H vs ds→PyData.canLayAll0 ds=true
 | _,_,.nil=>rfl
 | _,_,.cons h t=>by
  show (PyData.canLay0 _ && PyData.canLayAll0 _)=true;rw [Has.lay h,HasAll.lay t];rfl
end
end
section
variable {X:Cx}{pins:List (Addr×Obj)}{σ : St}{H:Hp}{s:Shared}{G:Addr→Prop}
mutual
theorem Has.reads (I:Inv X pins σ H s):∀ {v:V}{d:PyData}{u:Value},Has G H v d→RelV v u→∃ as,Reads s.heap u d as
 | _,_,u,.non,r=>by cases (show u=Value.none from r);exact ⟨_,.none⟩
 | _,_,u,.bl b,r=>by cases (show u=Value.bool b from r);exact ⟨_,.bool b⟩
 | _,_,u,.int i,r=>by obtain ⟨t,rfl⟩:=(show ∃ t,u=Value.int i t from r);exact ⟨_,.int i t⟩
 | _,_,u,.str x _ _,r=>by obtain ⟨t,rfl⟩:=(show ∃ t,u=Value.str x t from r);exact ⟨_,.str x t⟩
 | _,_,u,.lst (a:=a) _ q _ h,r=>by
  cases (show u=Value.ref a from r);obtain ⟨_,its,n,rv,e⟩:=I.hok a _ q;obtain ⟨as,ra⟩:=HasAll.reads I h rv;exact ⟨_,.list e rfl rfl (by simpa using ra)⟩
 | _,_,u,.tup (a:=a) _ q _ h,r=>by
  cases (show u=Value.ref a from r);obtain ⟨_,its,rv,⟨o,e,c,n,d⟩⟩:=I.hok a _ q;obtain ⟨as,ra⟩:=HasAll.reads I h rv;exact ⟨_,.tuple e c d (by simpa using ra)⟩
theorem HasAll.reads (I:Inv X pins σ H s):∀ {vs:List V}{ds:List PyData}{us:List Value},HasAll G H vs ds→Vals vs us→∃ as,ReadsAll s.heap us ds as
 | _,_,_,.nil,.nil=>⟨_,.nil⟩
 | _,_,_,.cons h t,.cons r rr=>by
  obtain ⟨as,ra⟩:=Has.reads I h r;obtain ⟨bs,rb⟩:=HasAll.reads I t rr;exact ⟨_,.cons ra rb⟩
end
end
theorem Has.shaped {G:Addr→Prop}{H:Hp}{v:V}{d:PyData} (h:Has G H v d) (hd:d.depth≤64):SeqAt.shaped d=true:=by
 unfold SeqAt.shaped;rw [h.lay,decide_eq_true hd];rfl
noncomputable def rEqD:R2:=fun x y H Q=>∃ d e,Has Any H x d∧Has Any H y e∧d.depth≤64∧e.depth≤64∧Q (.bl (PyData.eqv d e)) H
noncomputable def rNeD:R2:=fun x y H Q=>∃ d e,Has Any H x d∧Has Any H y e∧d.depth≤64∧e.depth≤64∧Q (.bl (!PyData.eqv d e)) H
theorem op_eqD {X:Cx} (hu:X.A.units + 64 < cLine):OpR X (compareOp .Eq) rEqD:=by
 intro pins s σ H x y u v Q I rx ry h;obtain ⟨d,e,hd,he,sd,se,q⟩:=h;obtain ⟨as,ra⟩:=hd.reads I rx;obtain ⟨bs,rb⟩:=he.reads I ry;exact eq_dataH ra rb (hd.shaped sd) (he.shaped se) hu ⟨.bl _,H,I,rfl,q⟩
theorem zEn {X:Cx} (hu:X.A.units + 64 < cLine):OpR X (compareOp .NotEq) rNeD:=by
 intro pins s σ H x y u v Q I rx ry h;obtain ⟨d,e,hd,he,sd,se,q⟩:=h;obtain ⟨as,ra⟩:=hd.reads I rx;obtain ⟨bs,rb⟩:=he.reads I ry;exact ne_dataH ra rb (hd.shaped sd) (he.shaped se) hu ⟨.bl _,H,I,rfl,q⟩
theorem Has.eqv {G:Addr→Prop}{H:Hp}{v:V}{d:PyData} (h:Has G H v d):PyData.eqv d d=true:=SeqAt.eqv_refl d h.lay
section
variable {κ : Type} [DecidableEq κ]
noncomputable def dstep (acc:List κ) (x : κ):List κ:=if x∈acc then acc else acc++[x]
noncomputable def dl (l:List κ):List κ:=l.foldl dstep []
theorem dl_snoc (l:List κ) (x : κ):dl (l++[x])=dstep (dl l) x:=by unfold dl;rw [List.foldl_append];rfl
theorem zCn:∀ (l acc:List κ) (k : κ),k∈l.foldl dstep acc ↔ k∈acc∨k∈l
 | [],acc,k=>by simp
 | x :: r,acc,k=>by
  rw [Y0,zCn r];unfold dstep;by_cases h:x∈acc
  ·rw [if_pos h];constructor
   ·rintro (a | a)
    ·exact .inl a
    ·exact .inr (Zh _ a)
   ·rintro (a | a)
    ·exact .inl a
    ·rcases List.mem_cons.mp a with rfl | a
     ·exact .inl h
     ·exact .inr a
  ·rw [if_neg h];simp only [List.mem_append,Zv,Zr,or_false];constructor
   ·rintro ((a | a) | a)
    ·exact .inl a
    ·exact .inr (.inl a)
    ·exact .inr (.inr a)
   ·rintro (a | a | a)
    ·exact .inl (.inl a)
    ·exact .inl (.inr a)
    ·exact .inr a
theorem mem_dl {l:List κ}{k : κ}:k∈dl l ↔ k∈l:=by unfold dl;rw [zCn];simp
theorem zBw:∀ (l acc:List κ),(l.foldl dstep acc).length≤acc.length + l.length
 | [],acc=>Z7 _
 | x :: r,acc=>by
  rw [Y0];refine Zm (zBw r _) ?_;unfold dstep;split
  ·rw [Zi];omega
  ·simp only [Zg,Zi,List.length_nil];omega
theorem dl_len_le (l:List κ):(dl l).length≤l.length:=by have:=zBw l [];simpa [dl] using this
theorem zC9:∀ (l acc:List κ),(∀ x∈l,x∉acc)→l.Nodup→(l.foldl dstep acc).length=acc.length + l.length
 | [],acc,_,_=>rfl
 | x :: r,acc,h,hn=>by
  obtain ⟨h1,h2⟩:=List.nodup_cons.mp hn;have hx:x∉acc:=h x Zl;rw [Y0,show dstep acc x=acc++[x] from if_neg hx,zC9 r _ (fun y hy m=>?_) h2]
  ·simp;omega
  ·rcases List.mem_append.mp m with m | m
   ·exact h y (Zh _ hy) m
   ·rw [List.mem_singleton.mp m] at hy;exact h1 hy
theorem zCo:∀ (l acc:List κ),((∃ x∈l,x∈acc)∨¬ l.Nodup)→(l.foldl dstep acc).length < acc.length + l.length
 | [],acc,h=>by
  rcases h with ⟨x,hx,_⟩ | h
  ·simp at hx
  ·exact absurd Yk h
 | x :: r,acc,h=>by
  rw [Y0];by_cases hx:x∈acc
  ·rw [show dstep acc x=acc from if_pos hx];have:=zBw r acc;simp only [Zi];omega
  ·rw [show dstep acc x=acc++[x] from if_neg hx];have ih:=zCo r (acc++[x]) ?_
   ·simp only [Zg,Zi,List.length_nil] at *;omega
   ·rcases h with ⟨y,hy,ha⟩ | h
    ·rcases List.mem_cons.mp hy with rfl | hy
     ·exact absurd ha hx
     ·exact .inl ⟨y,hy,List.mem_append_left _ ha⟩
    ·by_cases hr:x∈r
     ·exact .inl ⟨x,hr,by simp⟩
     ·exact .inr fun z=>h (List.nodup_cons.mpr ⟨hr,z⟩)
theorem dl_len_iff (l:List κ):decide ((dl l).length=l.length)=decide l.Nodup:=by
 by_cases h:l.Nodup
 ·have:=zC9 l [] (fun _ _ z=>by simp at z) h;rw [decide_eq_true h,decide_eq_true (by simpa [dl] using this)]
 ·have:=zCo l [] (.inr h);rw [decide_eq_false h,decide_eq_false (by simp [dl] at *;omega)]
variable {prog:Program}{w:World}{A:Around}{R:Result→Shared→Prop}{I:Addr}{fp wr:List Addr}{n:Nat}{P:Nat→Value→Prop}{St:Nat→Heap→Prop}
theorem SetOf_eqv {knd:KeyKind prog w κ}{h:Heap}{a:Addr}{S S' : κ→Bool}{m m':Nat} (x:h.SetOf knd a S m) (e:∀ k,S k=S' k) (em:m=m'):h.SetOf knd a S' m':=by
 have e':S=S':=funext e;subst e' em;exact x
theorem set_loopK (W:Walks prog w A.in1 I fp wr n P St) {D:Addr} (hD:D∉fp) {knd:KeyKind prog w κ}{ks:List κ} (hn:ks.length=n) (hval:∀ i v k,P i v→ks[i]? = some k→knd.is k v=true∧v.scannable=true) (hb:n + 1 < scanBound) :
  ∀ (j i:Nat) (z:Shared),n - i=j→i≤n→St i z.heap→z.heap.SetOf knd D (fun k=>decide (k∈ks.take i)) (dl (ks.take i)).length →
   (∀ h' tk,(∀ b o,b∉D :: wr→z.heap.get? b=some o→h'.get? b=some o)→h'.SetOf knd D (fun k=>decide (k∈ks)) (dl ks).length→R (.ok (.ret .none)) { z with heap:=h',toks:=tk }) →
   codeAny (model prog w) A (.builtin "set.update.loop" ⟨[.ref D,.ref I],[]⟩) R z:=by
 have hDw:D∉wr:=fun h=>hD (W.sub _ h);intro j
 induction j with
 | zero =>
  intro i z hj hi st hS hR;obtain rfl:i=n:=by omega
  refine codeAny_builtin PyProof.Rows.F.entry_set_update_loop ?_;rw [Around.under_plainId PyProof.Rows.F.plain_set_update_loop _];show wpAny _ A.in1 (pyNext (.ref I) >>= _) _ _ z;refine wpAny_bind (W.done z _ _ st fun h' tk kk=>?_);rw [List.take_of_length_le (Nat.le_of_eq hn)] at hS;obtain ⟨o,es,ep,t,ho,more⟩:=hS;exact wpAny_pure (hR h' tk (fun b o hb e=>kk b o (fun m=>hb (Zh _ m)) e) ⟨o,es,ep,t,kk D _ hDw ho,more⟩)
 | succ j ih =>
  intro i z hj hi st hS hR;have lt:i < n:=by omega
  refine codeAny_builtin PyProof.Rows.F.entry_set_update_loop ?_;rw [Around.under_plainId PyProof.Rows.F.plain_set_update_loop _];show wpAny _ A.in1 (pyNext (.ref I) >>= _) _ _ z;refine wpAny_bind (W.item i z _ _ lt st fun v h1 tk1 hP st1 k1=>?_);have hk:ks[i]? = some (ks[i]'(by omega)):=Z3 _;obtain ⟨hv,hs⟩:=hval i v _ hP hk;obtain ⟨o,es,ep,t,ho,more⟩:=hS;have hS1:h1.SetOf knd D (fun k=>decide (k∈ks.take i)) (dl (ks.take i)).length:=⟨o,es,ep,t,k1 D _ hDw ho,more⟩;show wpAny _ A.in1 (holding [v] (setAdd D v) >>= _) _ _ _;refine wpAny_bind (wpAny_holding ?_);unfold setAdd;refine wpAny_holding (wpAny_bind (knd.pyHash hv ?_));have room:(dl (ks.take i)).length + 1 < scanBound:=by
   have a1:=dl_len_le (ks.take i);have a2:(ks.take i).length≤i:=Zx _ _;omega
  refine wpAny_setAddHashed_of (knd:=knd) (s:={ z with heap:=h1,toks:=tk1 + 1 }) hv hs hS1 room fun h2 sb2 hS2=>?_;have et:ks.take (i + 1)=ks.take i++[ks[i]'(by omega)]:=by rw [Z5,hk];rfl
  have hS3:h2.SetOf knd D (fun k=>decide (k∈ks.take (i + 1))) (dl (ks.take (i + 1))).length:=by
   refine SetOf_eqv hS2 (fun k=>?_) ?_
   ·rw [et,Y4];simp only [Bool.or_eq_true,decide_eq_true_eq,List.mem_append,List.mem_singleton]
   ·rw [et,dl_snoc];unfold dstep;by_cases q:ks[i]'(by omega)∈ks.take i
    ·rw [if_pos (by simpa using q),if_pos (mem_dl.mpr q)]
    ·rw [if_neg (by simpa using q),if_neg (fun z=>q (mem_dl.mp z)),Zg,List.length_singleton]
  refine wpAny_pure ⟨plainId_quiet PyProof.Rows.F.plain_set_update_loop _,ih (i + 1) _ (by omega) lt (W.frame _ h1 _ st1 fun b hb o e=>?_) hS3 fun h' tk kk hS'=>hR h' tk (fun b o hb e=>kk b o hb ?_) hS'⟩
  ·rw [sb2.2 b (fun q:b=D=>hD (by rw [← q];exact hb))];exact e
  ·rw [sb2.2 b (fun q:b=D=>hb (by rw [q];exact Zl))];exact k1 b o (fun m=>hb (Zh _ m)) e
end
end L2
namespace L2
open PySem PySem.Spec PyProof.Rows
noncomputable abbrev bareSet (b:Bool):Obj:={ cls:=.type "set",dict:=none,data:=.set #[] 0 (.fresh 0 0 b) }
section
variable {κ : Type} [DecidableEq κ] {prog:Program}{w:World}{A:Around}{E:Value→Shared→Prop}{z:Shared}
noncomputable def SetMade (knd:KeyKind prog w κ) (ks:List κ) (z:Shared) (r:Value) (z':Shared):Prop :=
 r=.none∧∃ h' tk,z'={ z with heap:=h',toks:=tk }∧h'.SetOf knd z.heap.objs.size (fun k=>decide (k∈ks)) (dl ks).length∧∀ b o,b < z.heap.objs.size→z.heap.get? b=some o→h'.get? b=some o
set_option maxHeartbeats 6400000 in
theorem call_setK {knd:KeyKind prog w κ}{l:Addr}{its:Array Value}{ks:List κ}{Q:Value→Shared→Prop} (hh:A.handled=none) (hl:z.heap.IsList l its) (hn:ks.length=its.size)
  (hv:∀ (i:Nat) (v:Value) (k : κ),its[i]? = some v→ks[i]? = some k→knd.is k v=true∧v.scannable=true) (hb:its.size + 1 < scanBound)
  (h:∀ z',SetMade knd ks z .none z'→Q (.ref z.heap.objs.size) z'):wpAny (model prog w) A (call (.type "set") [.ref l]) Q E z:=by
 obtain ⟨mc,mt,m0⟩:=PySem.F.called_set.mro;have m1:=PySem.F.called_set.made;have m2:=PySem.F.called_set.sub;refine wpAny_call (codeAny_of_tree ?_);show wpAny _ _ (callAny (.type "set") _) _ _ _;refine wpAny_pure ⟨Code.quiet_builtin _ (by decide +kernel),codeAny_builtin PySem.F.entry_type_call ?_⟩;rw [Around.under_plain (weight_type_call_type "set" [.ref l] []) rfl];have m3:=PySem.F.called_set.notType;have m4:=PySem.F.called_set.canCreate;have m5:=PySem.F.typeCall_set_1 (.ref l)
 repeat (any_goals (first | assumption | wp_step))
 refine codeAny_mono (code_set_new_1 (.ref l) (E:=E) (Q₁:=fun r z1=>∃ b:Bool,r=.ref z.heap.objs.size∧z1={ z with heap:=z.heap.push (bareSet b) }) fun b=>⟨b,rfl,rfl⟩) fun r z1 hr=>?_;cases r with
 | error e=>exact hr
 | ok fl =>
  cases fl with
  | next=>exact hr.elim
  | brk=>exact hr.elim
  | cont=>exact hr.elim
  | ret r =>
   obtain ⟨b,rfl,rfl⟩:=hr;have g0:(z.heap.push (bareSet b)).get? z.heap.objs.size=some (bareSet b):=Za _ rfl;have ty:Shared.TypeIs { z with heap:=z.heap.push (bareSet b) } (.ref z.heap.objs.size) "set":=⟨_,g0,rfl⟩;have i1:=PySem.F.called_set.init.lookup;have i2:=PySem.F.called_set.init.bind (.ref z.heap.objs.size)
   repeat (any_goals (first | assumption | wp_step))
   refine codeAny_mono (codeAny_call_builtin (R:=wants (SetMade knd ks z) E) PySem.F.called_set.init.plain PySem.F.entry_set_init (check_set_init_1 ty ?_)) fun r2 z2 hr2=>?_
   ·obtain ⟨⟨oc,od,odt,osl⟩,ho,c1,nl,d1⟩:=hl;simp only at c1 d1;subst c1 d1;have ho1:(z.heap.push (bareSet b)).get? l=some { cls:=.type "list",dict:=od,data:=.seq its nl,slots:=osl }:=Z2 _ ho;have s1:=PySem.F.sub_list_set;have s2:=PySem.F.sub_list_frozenset;have s3:(Value.type "list" == Value.type "dict")=false:=by decide
    have hl1:(z.heap.push (bareSet b)).IsList l its:=⟨_,ho1,rfl,nl,rfl⟩;unfold Builtin.«set.__init__» noKeywords Builtin.Frozenset.updateFrom;generalize ePI:pyIter=PI
    wp_walk
    subst ePI;refine wpAny_pyIter_list hl1 ?_;refine wpAny_bind (wpAny_runValue ?_);have lt:l < z.heap.objs.size:=Z9 ho;have sz1:(z.heap.push (bareSet b)).objs.size=z.heap.objs.size + 1:=Y3 _ _;have neI:l≠(z.heap.push (bareSet b)).objs.size:=by rw [sz1];exact Ze (Nat.lt_succ_of_lt lt)
    have nD:z.heap.objs.size∉[(z.heap.push (bareSet b)).objs.size,l]:=by
     rw [sz1];simp only [Zv,Zr,or_false,not_or];exact ⟨Ze (Ye _),Yd lt⟩
    refine set_loopK (Walks.list (by simp [hh]) _ l neI its) nD (knd:=knd) (ks:=ks) hn hv hb (its.size - 0) 0 _ (by omega) (Zj _) ⟨⟨_,Za _ rfl,rfl,rfl⟩,hl1.push _⟩ ?_ fun h' tk kk hS=>?_
    ·refine SetOf_eqv ((PyProof.Rows.setObjOf_fresh (knd:=knd) b).setOf (Z2 _ g0) (by unfold scanBound;omega)) (fun k=>?_) rfl;simp
    ·show wpAny _ _ _ _ _ _;refine wpAny_pure ?_;show wpAny _ _ (ret Value.none) _ _ _;refine wpAny_pure ⟨rfl,h',tk,rfl,hS,fun c o hc e=>kk c o ?_ (Z2 _ (Z2 _ e))⟩;rw [sz1];simp only [Zv,Zr,or_false,not_or];exact ⟨Ze hc,Ze (Nat.lt_succ_of_lt hc)⟩
   ·cases r2 with
    | error e=>exact hr2
    | ok fl2 =>
     cases fl2 with
     | next=>exact hr2.elim
     | brk=>exact hr2.elim
     | cont=>exact hr2.elim
     | ret r =>
      have hs:=hr2;obtain ⟨rfl,h',tk,rfl,hS,kk⟩:=hr2
      repeat (any_goals (first | assumption | wp_step))
      exact h _ hs
end
noncomputable def SetS (P:Program) (w:World) (p:Addr) (ks:List Str):HO:=.ext fun h=>h.SetOf (strKind P w) p (fun k=>decide (k∈ks)) (dl ks).length
section
variable {X:Cx}
theorem strs_get:∀ {ks:List Str}{us:List Value}{i:Nat}{v:Value}{k:Str},Vals (ks.map V.str) us→us[i]? = some v→ks[i]? = some k→∃ t,v=Value.str k t
 | [],_,i,v,k,.nil,h,_=>by simp at h
 | b :: r,_,0,v,k,.cons a t,h,hk=>by
  simp at h hk;subst h hk;exact a
 | b :: r,_,i + 1,v,k,.cons a t,h,hk=>strs_get (ks:=r) (i:=i) t (by simpa using h) (by simpa using hk)
theorem zFf (hc:X.calm=true):CallR X (.type "set") (fun xs H Q=>∃ (p:Addr) (ks:List Str),xs=[.ref p]∧SqL X.K H p (ks.map V.str)∧ks.length≤4000∧∀ d,H d=none→Q (.ref d) (upd H d (SetS X.prog X.w d ks))):=by
 intro pins s σ H xs us Q I r h;obtain ⟨p,ks,rfl,hp,hz,q⟩:=h;obtain ⟨u,rfl,ru⟩:=v1 r;cases (show u=Value.ref p from ru);obtain ⟨its,rv,pl,_⟩:=I.list hp;have hlen:its.length=ks.length:=by rw [← rv.length,Z0]
 refine call_setK (knd:=strKind X.prog X.w) (ks:=ks) (I.ok.hd hc) pl.isList (by rw [Z8,hlen]) (fun i v k h1 h2=>?_) (by rw [Z8,hlen];unfold scanBound;omega) fun z' hs=>?_
 ·obtain ⟨t,rfl⟩:=strs_get rv (by simpa using h1) h2;exact ⟨strKind_is _ _ _ _,rfl⟩
 ·obtain ⟨_,h',tk,rfl,hS,kk⟩:=hs;refine ⟨.ref s.heap.objs.size,_,I.laid (t':=tk) (a:=s.heap.objs.size) (o:=SetS X.prog X.w s.heap.objs.size ks) (fun b o e=>kk b o (Z9 e) e) (Z7 _) ?_,rfl,q _ (I.hok.fresh (Z7 _))⟩;refine ⟨hS,?_,fun h1 h2 hs1 k12=>?_⟩
  ·obtain ⟨o,_,_,_,e,_⟩:=hS;exact ⟨o,e⟩
  ·obtain ⟨o,es,ep,t,e,more⟩:=hs1;exact ⟨o,es,ep,t,k12 o e,more⟩
theorem zDk:CallR X (.builtin "len") (fun xs H Q=>∃ (d:Addr) (ks:List Str),xs=[.ref d]∧H d=some (SetS X.prog X.w d ks)∧ks.length≤4000∧Q (.int (dl ks).length) H):=by
 intro pins s σ H xs us Q I r h;obtain ⟨d,ks,rfl,hd,hz,q⟩:=h;obtain ⟨u,rfl,ru⟩:=v1 r;cases (show u=Value.ref d from ru);obtain ⟨hS,_,_⟩:=I.hok d _ hd;obtain ⟨o,es,ep,t,e,hex,hdt,_,_,hb,hf,hn⟩:=hS;refine call_len_set e hex hdt hf ?_ ?_
 ·unfold scanBound at hb;omega
 ·rw [hn];exact ⟨.int _,H,I.tok _,⟨_,rfl⟩,q⟩
end
end L2
namespace L2
open PySem PySem.Spec PyProof.Rows
theorem ScOk.auto {X:Cx}{sc:Scope}{cl:List (Str×Addr)}{T:List Str} (h1:closureFor sc X.env=pure cl:=by rfl) (h2:(sc.names.all fun y=>y.2 != .cell)=true:=by rfl) (h3:sc.kind=.function:=by rfl)
  (h4:(sc.names.all fun x=>x.2 != .local || sc.names.lookup x.1 == some .local)=true:=by rfl)
  (h5:ClOk X cl:=by first | exact trivial | exact ⟨rfl,trivial⟩ | exact ⟨rfl,rfl,trivial⟩ | exact ⟨rfl,rfl,rfl,trivial⟩ | exact ⟨rfl,rfl,rfl,rfl,trivial⟩)
  (h6:(sc.names.all fun x=>x.2 != .free || ((cl.lookup x.1).isSome && (X.env.scope.names.lookup x.1 == some .cell || X.env.scope.names.lookup x.1 == some .free)))=true:=by rfl)
  (h7:(X.N.all fun x=>sc.names.lookup x != some .local)=true:=by rfl):ScOk X sc cl T where
 clos:=h1
 cell:=fun y hy=>by have:=List.all_eq_true.mp h2 y hy;simpa using this
 kind:=h3
 names:=fun x hx hl=>by
  have:=List.all_eq_true.mp h4 x hx;rw [hl] at this
  simpa using this
 cls:=h5
 has:=fun x hx hf=>by
  have:=List.all_eq_true.mp h6 x hx;rw [hf] at this
  simpa using this
 out:=fun x hx=>by have:=List.all_eq_true.mp h7 x hx;simpa using this
theorem zFe {J:It}{n k:Nat}{σ : St}{H:Hp}{g:TG}{tt:TT}{te:TE}{Q:VK} (Pv:Nat→List V→Hp→Prop) (h0:Pv 0 [] H) (go:∀ i ys H,i < n→Pv i ys H→J.go i H) (stop:∀ ys H,Pv n ys H→J.stop n H)
  (hz:∀ i ys H,i≤n→Pv i ys H→ys.length≤sizeLine)
  (hs:∀ i ys H x H',i < n→Pv i ys H→J.yld i H x H'→∀ N:List V→Hp→Prop,(∀ ys H,Pv (i + 1) ys H→N ys H)→g x (σ++List.replicate k none) H' fun σ2 H2=>tt σ2 H2 fun b H3=>if b=true then te σ2 H3 fun y H4=>N (ys++[y]) H4 else N ys H3)
  (hd:∀ ys H,Pv n ys H→∀ p,H p=none→Q (.ref p) (upd H p (.lst ys))):CompGoal J k σ H g tt te Q:=by
 refine ⟨fun i m ys H=>m=n - i∧i≤n∧Pv i ys H,⟨n,by simp,Zj _,h0⟩,?_⟩;rintro i m ys H ⟨rfl,hi,p⟩;by_cases lt:i < n
 ·exact .inr ⟨go i ys H lt p,hz _ _ _ hi p,fun x H' y=>hs i ys H x H' lt p y (fun ys' H'=>∃ m',m' < n - i∧m'=n - (i + 1)∧i + 1≤n∧Pv (i + 1) ys' H') fun ys' H' q=>⟨n - (i + 1),by omega,rfl,lt,q⟩⟩
 ·obtain rfl:i=n:=by omega
  exact .inl ⟨stop _ _ p,hz _ _ _ hi p,hd _ _ p⟩
theorem comp_chars {x:Str}{k:Nat}{σ : St}{H:Hp}{g:TG}{tt:TT}{te:TE}{Q:VK} (p:Nat→Bool) (f:Nat→V) (hz:x.length≤sizeLine)
  (hs:∀ c (Ry:VK) (Rn:Hp→Prop),(p c=true→Ry (f c) H)→(p c=false→Rn H)→g (.str ⟨#[c]⟩) (σ++List.replicate k none) H fun σ2 H2=>tt σ2 H2 fun b H3=>if b=true then te σ2 H3 Ry else Rn H3)
  (hd:∀ q,H q=none→Q (.ref q) (upd H q (.lst ((x.cps.toList.filter p).map f)))):CompGoal (Its x) k σ H g tt te Q:=by
 have hlen:x.cps.toList.length=x.length:=by rw [Yg];rfl
 refine zFe (J:=Its x) (n:=x.length) (fun i ys H'=>H'=H∧ys=((x.cps.toList.take i).filter p).map f) ⟨rfl,rfl⟩ (fun i ys H' lt _=>lt) (fun ys H' _=>Z7 _) (fun i ys H' hi q=>?_) ?_ ?_
 ·obtain ⟨_,rfl⟩:=q;rw [Z0];have a:=List.length_filter_le p (x.cps.toList.take i);have b:=Zx i x.cps.toList;omega
 ·rintro i ys H' v H2 lt ⟨rfl,rfl⟩ ⟨rfl,c,hc,rfl⟩ N hN;have hc':x.cps.toList[i]? = some c:=by rw [Array.getElem?_toList];exact hc
  refine hs c _ _ (fun e=>hN _ _ ⟨rfl,?_⟩) (fun e=>hN _ _ ⟨rfl,?_⟩)
  ·rw [Z5,hc',Ya];simp [e]
  ·rw [Z5,hc',Ya];simp [e]
 ·rintro ys H' ⟨rfl,rfl⟩ q hq;rw [← hlen,Zb];exact hd q hq
theorem zAj {K:PySem.W.Frag}{a:Addr}{xs:List V}{k:Nat}{σ : St}{H:Hp}{g:TG}{tt:TT}{te:TE}{Q:VK} (Pv:Nat→List V→Hp→Prop) (h0:Pv 0 [] H) (hl:∀ i ys H,Pv i ys H→SqL K H a xs)
  (hz:∀ i ys H,i≤xs.length→Pv i ys H→ys.length≤sizeLine)
  (hs:∀ i x ys H,xs[i]? = some x→Pv i ys H→∀ N:List V→Hp→Prop,(∀ ys H,Pv (i + 1) ys H→N ys H)→g x (σ++List.replicate k none) H fun σ2 H2=>tt σ2 H2 fun b H3=>if b=true then te σ2 H3 fun y H4=>N (ys++[y]) H4 else N ys H3)
  (hd:∀ ys H,Pv xs.length ys H→∀ p,H p=none→Q (.ref p) (upd H p (.lst ys))):CompGoal (Itl K a) k σ H g tt te Q:=by
 refine zFe (J:=Itl K a) (n:=xs.length) Pv h0 (fun i ys H lt p=>⟨xs,xs[i],hl i ys H p,Z3 lt⟩) (fun ys H p=>⟨xs,hl _ ys H p,Z7 _⟩) hz ?_ hd;rintro i ys H x H' lt p ⟨rfl,y⟩ N hN;exact hs i x ys _ (y xs (hl _ _ _ p)) p N hN
theorem comp_range {lo:Int}{n k:Nat}{σ : St}{H:Hp}{g:TG}{tt:TT}{te:TE}{Q:VK} (Pv:Nat→List V→Hp→Prop) (h0:Pv 0 [] H)
  (hz:∀ i ys H,i≤n→Pv i ys H→ys.length≤sizeLine)
  (hs:∀ i ys H,i < n→Pv i ys H→∀ N:List V→Hp→Prop,(∀ ys H,Pv (i + 1) ys H→N ys H)→g (.int (lo + i)) (σ++List.replicate k none) H fun σ2 H2=>tt σ2 H2 fun b H3=>if b=true then te σ2 H3 fun y H4=>N (ys++[y]) H4 else N ys H3)
  (hd:∀ ys H,Pv n ys H→∀ p,H p=none→Q (.ref p) (upd H p (.lst ys))):CompGoal (Itr lo n) k σ H g tt te Q:=by
 refine zFe (J:=Itr lo n) (n:=n) Pv h0 (fun i ys H lt p=>lt) (fun ys H p=>Z7 _) hz ?_ hd;rintro i ys H x H' lt p ⟨rfl,rfl⟩ N hN;exact hs i ys _ lt p N hN
theorem pick {A B:St→Hp→Prop}{σ : St}{H:Hp}{i:Nat}{x:V} (h:A (σ.set i (some x)) H):gName i x σ H fun σ2 H2=>tYes σ2 H2 fun b H3=>if b=true then A σ2 H3 else B σ2 H3:=by
 show if true=true then A (σ.set i (some x)) H else B (σ.set i (some x)) H
 rw [if_pos rfl];exact h
theorem Fun.okC {P:Program}{w:World}{K:PySem.W.Frag}{mg:Str→Option Value}{base:Heap}{CX:CXT}{x qual:Str}{st:Stmt}{f:Addr}{fd:FuncData}{N ps:List Str}{k:Nat}{sp:Sp} (F:Fun K x qual st f fd) (S:FnScope N ps (defScope st)) (len:∀ vs H Q E,sp vs H Q E→vs.length=ps.length)
  (hbody:∀ (cdv:Value) (A:Around) (outer:List Env) (s:Shared) (H:Hp) (vs:List V) (Q:VK) (E:XK),Room k (A.deeper (envOfC qual (defScope st) s.heap.objs.size f cdv))→sp vs H Q E →
   ∃ t,PSs (cxOf CX P w K mg base N qual (defScope st) f cdv A outer s H E).nox (defBody st) t∧t { nx:=fun _ H'=>Q .non H',rt:=Q } (start N vs) H):FnOk P w K mg base CX (k + 1) f fd ps sp:=by
 obtain ⟨oc,od,kV,doc,pm,an,cdv,ct,osl,rfl,lk,hcd⟩:=F.ex;refine fn_of lk hcd S len fun A outer s H vs Q E hr hsp=>?_;obtain ⟨t,h,q⟩:=hbody cdv A outer s H vs Q E hr hsp;exact ⟨t,h.nox,q⟩
noncomputable def Calm (CX:CXT):Prop:=∀ o H s e s',CX o H s (fun _ _ _=>False) e s'→False
theorem passC {CX:CXT} (h:Calm CX) {X:Cx}:Passes CX X E0:=fun _ _ _ _ _ _ _ q=>(h _ _ _ _ _ q).elim
structure Def (K:PySem.W.Frag) (mg:Str→Option Value) (x:Str) (st:Stmt) (ps:List Str) (f:Addr) (fd:FuncData):Prop where
 fn:Fun K x x st f fd
 at_:mg x=some (.ref f)
 bind:Binds K fd ps []
theorem Same.new {H:Hp}{p:Addr}{o:HO} (h:H p=none):Same H (upd H p o):=fun b u e=>by rw [zAa (zA7 e h)];exact e
end L2
namespace L2
open PySem PySem.Spec PyProof.Rows
section
variable {X:Cx}{pins:List (Addr×Obj)}{σ : St}{H:Hp}{s:Shared}
theorem Inv.adopt {T:Addr}{o:HO} (I:Inv X pins σ H s) (hn:H T=none) (h1:X.s₀.heap.objs.size≤T) (hL:T≠X.env.locals) (h2:∀ x c,X.env.cells.lookup x=some c→c≠T) (h3:∀ p∈X.pn++pins,p.1≠T)
  (new:ObjOk X.prog X.w (upd H T o) s.heap T o):Inv X pins σ (upd H T o) s:=by
 refine I.step (h':=s.heap) (g':=s.gens) (d':=s.drawn) (t':=s.toks) (ch:=[T]) (fun b hb=>?_) (fun b o _ _ _ e _=>e) (fun b o _ _ _ e _=>⟨o.slots,e⟩) (fun b o hc e n=>?_) (fun b o _ e=>⟨o,e⟩)
  (fun b xs e=>?_) (fun b o u e=>?_) (fun b ps e=>⟨#[],?_⟩) (fun m h=>h) (fun b u e=>?_) I.bare
 ·have e:b=T:=by simpa using hb
  subst e;exact ⟨.inr (Y8 h1),hL,h2,h3⟩
 ·rw [zAa (fun z=>hc (by simp [z]))];exact n
 ·rw [zAa (zA7 e hn)];exact e
 ·rw [zAa (zA7 e hn)];exact e
 ·rw [zAa (zA7 e hn),e];simp
 ·by_cases hb:b=T
  ·subst hb;rw [zA1] at e;cases e;exact new
  ·rw [zAa hb] at e;exact (I.hok b u e).stay (fun c v _ q=>q) (fun c q=>by rw [zAa (zA7 q hn)];exact q) fun c xs q=>by rw [zAa (zA7 q hn)];exact q
theorem Inv.turns {h':Heap}{t':Nat}{ch:List Addr} (I:Inv X pins σ H s) (k:∀ b o,b∉ch→s.heap.get? b=some o→h'.get? b=some o) (hf:∀ b∈ch,FpOk X pins H b):Inv X pins σ H { s with heap:=h',toks:=t' }:=by
 have nit:∀ b u,H b=some u→b∉ch:=fun b u e z=>by rw [(hf b z).1] at e;cases e
 refine I.step (g':=s.gens) (d':=s.drawn) (ch:=ch) (fun b hb=>⟨(hf b hb).2.2.2.1.imp_right fun z=>Y8 z,(hf b hb).2.1,(hf b hb).2.2.2.2.1,(hf b hb).2.2.2.2.2⟩) (fun b o _ _ hc e _=>k b o hc e) (fun b o _ _ hc e _=>⟨o.slots,k b o hc e⟩) (fun _ _ _ _ n=>n)
  (fun b o hc e=>⟨o,k b o hc e⟩) (fun _ _ e=>e) (fun _ _ _ e=>e) (fun b ps e=>⟨#[],by rw [e];simp⟩) (fun m hm=>?_) (fun b u e=>?_) I.bare
 ·obtain ⟨o,es,ep,ho,r⟩:=hm;exact ⟨o,es,ep,k _ o (fun z=>(hf _ z).2.1 rfl) ho,r⟩
 ·refine (I.hok b u e).stay (fun c v hc q=>k c v ?_ q) (fun _ q=>q) fun _ _ q=>q;rcases hc with z | z
  ·rw [z];exact nit b u e
  ·exact nit c _ z
end
section
variable {X:Cx}
end
end L2
namespace L2
open PySem PySem.Spec PyProof.Rows
section
variable {X:Cx}{K:PySem.W.Frag}{o e:Expr}{es:List Expr}{to ta tl:TE}{t:TA}{name f:Str}{apos cpos pos:Pos}{T id:String}{r:V→List V→Hp→VK→Prop}{tg:Expr}
theorem zCz (hK:X.K=K) (he:PE X e ta) (hb:attributeBase e f X.env (eval e X.env)=eval e X.env):PE X (.Attribute e f pos) (tFld K ta f):=by
 subst hK;exact zAw he hb
theorem zBu (hK:X.K=K) {es:List Expr}{k:Nat}{t:TGs}{n:Nat} (hc:X.calm=true) (h:PGs X es t)
  (hn:(assignEach es X.env).length=n:=by rfl) (hst:(assignEach es X.env).findIdx? (·.1)=none:=by rfl):PG X (.Tuple es k pos) (gTup K n t):=by
 subst hK;exact zC6 hc h hn hst
end
end L2
namespace L2
open PySem PySem.Spec PyProof.Rows
end L2
namespace L2
open PySem PySem.Spec PyProof.Rows
section
variable {X:Cx}
noncomputable def rCat2 (K:PySem.W.Frag):R2:=fun x y H Q=>∃ a b xs ys,x=.ref a∧y=.ref b∧SqT K H a xs∧SqT K H b ys∧xs.length + ys.length≤sizeLine ∧
 (xs=[]→Q (.ref b) H)∧(xs≠[]→ys=[]→Q (.ref a) H)∧(xs≠[]→ys≠[]→∀ p,H p=none→Q (.ref p) (upd H p (.tup (xs++ys))))
theorem zE0 {K:PySem.W.Frag} (hK:X.K=K):OpR X (binaryOp .Add) (rCat2 K):=by
 subst hK;intro pins s σ H x y v u Q I rx ry h;obtain ⟨a,b,xs,ys,rfl,rfl,ha,hb,hz,q0,q1,q2⟩:=h;cases rx;cases ry;obtain ⟨its,r1,p1,_⟩:=I.tuple ha;obtain ⟨its2,r2,p2,_⟩:=I.tuple hb;by_cases hx:xs=[]
 ·obtain ⟨⟨cls,dd,data,sl⟩,ho,hc,n,hd⟩:=id p1;obtain ⟨⟨cls2,dd2,data2,sl2⟩,ho2,hc2,n2,hd2⟩:=id p2;simp only at hc hd hc2 hd2;subst hc hd hc2 hd2;have hv:its=[]:=r1.nil_iff.mpr hx;exact concat_meets ⟨_,ho,rfl⟩ ⟨_,ho2,rfl⟩ noFill_tuple_add seq_tuple_add PySem.F.slot_tuple_add PySem.F.entry_tuple_add (PySem.F.args_tuple_add_2 _ _)
   (tuple_addW0 a b its.toArray its2.toArray n n2 dd dd2 sl sl2 (by simp [hv])) ⟨ho,ho2,.ref b,H,I,rfl,q0 hx⟩
 ·refine HT.cat_tup p1 p2 (fun z=>hx (r1.nil_iff.mp z)) (fun z=>⟨.ref a,H,I,rfl,q1 hx (r2.nil_iff.mp z)⟩) (fun z=>?_) (by rw [← r1.length,← r2.length];exact hz);refine ⟨.ref s.heap.objs.size,_,I.laid (t':=s.toks) (o:=.tup (xs++ys)) (fun b ob q=>Z2 _ q) (Z7 _) ?_,rfl,q2 hx (fun w=>z (r2.nil_iff.mpr w)) _ (I.hok.fresh (Z7 _))⟩;exact ⟨by rw [Zg];exact hz,_,r1.append r2,IsTup.new _ _⟩
theorem cat2_by {K:PySem.W.Frag}{a b:Addr}{xs ys:List V}{H:Hp}{Q:VK} (ha:H a=some (.tup xs)) (hb:H b=some (.tup ys)) (hz:xs.length + ys.length≤sizeLine)
  (q:∀ p H',Same H H'→H' p=some (.tup (xs++ys))→Q (.ref p) H'):rCat2 K (.ref a) (.ref b) H Q:=by
 refine ⟨a,b,xs,ys,rfl,rfl,SqT.of ha,SqT.of hb,hz,fun e=>?_,fun _ e=>?_,fun _ _ p hp=>?_⟩
 ·subst e;exact q b H (Same.refl _) hb
 ·subst e;exact q a H (Same.refl _) (by rw [List.append_nil];exact ha)
 ·exact q p _ (Same.new hp) zA1
end
end L2
namespace L2
open PySem PySem.Spec PyProof.Rows
noncomputable def Kept (h h':Heap):Prop:=∀ b o,h.get? b=some o→h'.get? b=some o
theorem Kept.trans {a b c:Heap} (x:Kept a b) (y:Kept b c):Kept a c:=fun p o e=>y p o (x p o e)
theorem Kept.push (h:Heap) (o:Obj):Kept h (h.push o):=fun _ _ e=>Z2 _ e
theorem Kept.same {g h h':Heap}{a:Addr} (k:Kept g h) (ha:g.objs.size≤a) (sb:Heap.SameBut a h h'):Kept g h':=fun b o e =>
 (sb.2 b (Ze (Zd (Z9 e) ha))).trans (k b o e)
theorem Kept.but {g h h':Heap}{a:Addr} (k:Kept g h) (ha:g.objs.size≤a) (sb:∀ b o,b∉[a]→h.get? b=some o→h'.get? b=some o):Kept g h':=fun b o e =>
 sb b o (fun z=>Ze (Zd (Z9 e) ha) (List.mem_singleton.mp z)) (k b o e)
noncomputable def ltS (a b:Str):Prop:=a.cps.toList < b.cps.toList
noncomputable instance (a b:Str):Decidable (ltS a b):=inferInstanceAs (Decidable (a.cps.toList < b.cps.toList))
theorem ltS_trans {a b c:Str} (x:ltS a b) (y:ltS b c):ltS a c:=List.lt_trans x y
section
variable {P:Program}{w:World}{A:Around}{E:Value→Shared→Prop}{z:Shared}{g:Heap}{l q I S:Addr}{vs:List Value}{R:Result→Shared→Prop}
noncomputable def KeyEnd (z:Shared) (h:Heap) (k:Str) (u:Value) (y:Shared):Prop:=∃ (h':Heap) (tk':Nat) (t:Tok),u=.str k t∧y={ z with heap:=h',toks:=tk' }∧Kept h h'
theorem min_loop (ks:Nat→Str) (hh:A.handled=none) (hl:g.IsList l vs.toArray) (hI:g.objs.size≤I) (hS:g.objs.size≤S) (ne:S≠I)
  (turn:∀ i v,vs[i]? = some v→∀ (h:Heap) (tk:Nat),Kept g h→wpAny (model P w) A.in1 (call (.ref q) [v]) (KeyEnd z h (ks i)) (fun _ _=>False) { z with heap:=h,toks:=tk })
  (fin:∀ i v h tk,vs[i]? = some v→(∀ j,j < vs.length→¬ ltS (ks j) (ks i))→Kept g h→R (.ok (.ret v)) { z with heap:=h,toks:=tk }) :
  ∀ (r j i:Nat) (h:Heap) (tk:Nat) (b:Value) (t:Tok) (n:Nat),vs.length - (j + 1)=r→j + 1≤vs.length→Kept g h→h.get? S=some (seqObj "list" #[b,.str (ks i) t] n)→h.IsListIter I l (j + 1) →
   vs[i]? = some b→i≤j→(∀ k,k≤j→¬ ltS (ks k) (ks i))→codeAny (model P w) A (.builtin "min.loop" ⟨[.ref I,.ref q,.ref S],[]⟩) R { z with heap:=h,toks:=tk }:=by
 have nm:(toString "min"++toString ".loop" : String) = "min.loop":=by decide
 have hlI:l≠I:=by
  obtain ⟨o,e,_⟩:=hl;exact Ze (Zd (Z9 e) hI)
 have W:=Walks.list (prog:=P) (w:=w) (A:=A.in1) hh I l hlI vs.toArray;have sz:vs.toArray.size=vs.length:=by simp
 have lst:∀ {h},Kept g h→h.IsList l vs.toArray:=fun {h} k=>by
  obtain ⟨o,e,r⟩:=hl;exact ⟨o,k _ _ e,r⟩
 intro r
 induction r with
 | zero =>
  intro j i h tk b t n hr hj k hs it hb hij best;have hin:j + 1=vs.length:=by omega
  refine codeAny_builtin PySem.F.entry_min_loop ?_;rw [Around.under_plainId PySem.F.plain_min_loop _];show wpAny _ A.in1 (seqItems? (Value.ref S) >>= _) _ _ _;refine wpAny_bind (wpAny_seqItems hs rfl ?_);show wpAny _ A.in1 (tryCatch (pyNext (Value.ref I)) _ >>= _) _ _ _;refine wpAny_bind (wpAny_tryCatch (W.done _ _ _ ⟨by rw [sz,← hin];exact it,lst k⟩ fun h1 tk1 k1=>?_));have e1:=k1 S _ (by simpa using ne) hs;show wpAny _ A.in1 (updateSeq S (fun _=>(#[]:Array Value)) >>= _) _ _ _;refine wpAny_bind (wpAny_updateSeq e1 rfl (wpAny_bind (wpAny_letGo (wpAny_pure ?_))));exact fin i b _ _ hb (fun k' hk=>best k' (by omega)) ((k.but hI k1).same hS (Heap.SameBut.update h1 S _))
 | succ r ih =>
  intro j i h tk b t n hr hj k hs it hb hij best;have hlt:j + 1 < vs.length:=by omega
  refine codeAny_builtin PySem.F.entry_min_loop ?_;rw [Around.under_plainId PySem.F.plain_min_loop _];show wpAny _ A.in1 (seqItems? (Value.ref S) >>= _) _ _ _;refine wpAny_bind (wpAny_seqItems hs rfl ?_);show wpAny _ A.in1 (tryCatch (pyNext (Value.ref I)) _ >>= _) _ _ _;refine wpAny_bind (wpAny_tryCatch (W.item (j + 1) _ _ _ (by rw [sz];exact hlt) ⟨it,lst k⟩ fun v h1 tk1 hp st k1=>?_));have hv:vs[j + 1]? = some v:=by simpa using hp
  have e1:=k1 S _ (by simpa using ne) hs;have kg:=k.but hI k1;show wpAny _ A.in1 (tryCatch (holding [v] (call (Value.ref q) [v])) _ >>= _) _ _ _;refine wpAny_bind (wpAny_tryCatch (wpAny_holding (wpAny_mono (turn (j + 1) v hv h1 tk1 kg) (fun u y he=>?_) fun _ _ f=>f.elim)));obtain ⟨h2,tk2,t2,rfl,rfl,k2⟩:=he;have e2:=k2 S _ e1;have it2:h2.IsListIter I l (j + 1 + 1):=st.1.at fun o e=>k2 _ _ e;have kg2:=kg.trans k2;show wpAny _ A.in1 (tryCatch (holding [v,Value.str (ks (j + 1)) t2] (richCompare .Lt (Value.str (ks (j + 1)) t2) (Value.str (ks i) t) >>= _)) _ >>= _) _ _ _;refine wpAny_bind (wpAny_tryCatch (wpAny_holding (wpAny_bind (show wpAny _ _ (compareOp .Lt (Value.str (ks (j + 1)) t2) (Value.str (ks i) t)) _ _ _ from lt_str ?_))));refine wpAny_bind (wpAny_holding (wpAny_truthy_bool ?_));refine wpAny_bind (wpAny_letGo (wpAny_pure ?_));by_cases c:ltS (ks (j + 1)) (ks i)
  ·have c':(ks (j + 1)).cps.toList < (ks i).cps.toList:=c;obtain ⟨n2,g2⟩:∃ n2,(h2.update S (Obj.mapSeq fun _=>#[v,Value.str (ks (j + 1)) t2])).get? S=some (seqObj "list" #[v,Value.str (ks (j + 1)) t2] n2):=⟨_,get?_update_seq e2 fun _=>#[v,Value.str (ks (j + 1)) t2]⟩;have s2:=Heap.SameBut.update h2 S (Obj.mapSeq fun _=>#[v,Value.str (ks (j + 1)) t2]);simp only [c',decide_true,if_true];refine wpAny_bind (wpAny_updateSeq e2 rfl (wpAny_bind (wpAny_letGo ?_)));rw [nm];refine wpAny_pure ⟨plainId_quiet PySem.F.plain_min_loop _,ih (j + 1) (j + 1) _ _ v t2 n2 (by omega) hlt (kg2.same hS s2) g2 (it2.at fun o e=>(s2.2 I (Ne.symm ne)).trans e) hv (Z7 _) fun k' hk=>?_⟩;by_cases e:k'=j + 1
   ·subst e;exact fun z=>List.lt_irrefl _ z
   ·exact fun z=>best k' (by omega) (ltS_trans z c)
  ·have c':¬ (ks (j + 1)).cps.toList < (ks i).cps.toList:=c;simp only [c',decide_false,Bool.false_eq_true,if_false];refine wpAny_bind (wpAny_letGo ?_);rw [nm];refine wpAny_pure ⟨plainId_quiet PySem.F.plain_min_loop _,ih (j + 1) i _ _ b t n (by omega) hlt kg2 e2 it2 hb (by omega) fun k' hk=>?_⟩;by_cases e:k'=j + 1
   ·subst e;exact c
   ·exact best k' (by omega)
theorem min_key {Q:Value→Shared→Prop} (ks:Nat→Str) (hh:A.handled=none) (hl:z.heap.IsList l vs.toArray) (h0:0 < vs.length)
  (turn:∀ i v,vs[i]? = some v→∀ (h:Heap) (tk:Nat),Kept z.heap h→wpAny (model P w) A.in1 (call (.ref q) [v]) (KeyEnd z h (ks i)) (fun _ _=>False) { z with heap:=h,toks:=tk })
  (fin:∀ i v h tk,vs[i]? = some v→(∀ j,j < vs.length→¬ ltS (ks j) (ks i))→Kept z.heap h→Q v { z with heap:=h,toks:=tk }) :
  wpAny (model P w) A (call (.builtin "min") [.ref l] [(Str.ofString "key",.ref q)]) Q E z:=by
 have nm:(toString "min"++toString ".loop" : String) = "min.loop":=by decide
 refine kmk_tree PySem.F.kind_min PySem.F.plain_min PySem.F.entry_min (kmk_min_key _ _) ?_;show wpAny _ A.in1 (Builtin.Builtins.bindParams "min" ["key", "default"] 0 ⟨[],[(Str.ofString "key",Value.ref q)]⟩ >>= _) _ _ z;refine wpAny_bind (wpAny_of_eq (show Builtin.Builtins.bindParams "min" ["key", "default"] 0 ⟨[],[(Str.ofString "key",Value.ref q)]⟩=pure [some (Value.ref q),none] from rfl) ?_);refine wpAny_bind (wpAny_pure (wpAny_bind (wpAny_pyIter_list hl (wpAny_bind (wpAny_newList ?_ (Zj _))))));rw [nm];refine wpAny_pure ⟨plainId_quiet PySem.F.plain_min_loop _,?_⟩
 let oI:Obj:={ cls:=.type "list_iterator",data:=.fields #[.ref l,.int 0 0] }
 have sz1:(z.heap.push oI).objs.size=z.heap.objs.size + 1:=Y3 ..;have gI:((z.heap.push oI).push (seqObj "list" #[] 0)).get? z.heap.objs.size=some oI:=Z2 _ (Za _ rfl);have gS:((z.heap.push oI).push (seqObj "list" #[] 0)).get? (z.heap.push oI).objs.size=some (seqObj "list" #[] 0):=Za _ rfl;have kk:Kept z.heap ((z.heap.push oI).push (seqObj "list" #[] 0)):=(Kept.push _ _).trans (Kept.push _ _);have hI:z.heap.objs.size≤z.heap.objs.size:=Z7 _;have hS:z.heap.objs.size≤(z.heap.push oI).objs.size:=by rw [sz1];exact Nat.le_succ _
 have ne:(z.heap.push oI).objs.size≠z.heap.objs.size:=by rw [sz1];exact Nat.succ_ne_self _
 have hlI:l≠z.heap.objs.size:=by
  obtain ⟨o,e,_⟩:=hl;exact Ze (Z9 e)
 have W:=Walks.list (prog:=P) (w:=w) (A:=A.in1) hh z.heap.objs.size l hlI vs.toArray;have sz:vs.toArray.size=vs.length:=by simp
 have lst:∀ {h},Kept z.heap h→h.IsList l vs.toArray:=fun {h} k=>by
  obtain ⟨o,e,r⟩:=hl;exact ⟨o,k _ _ e,r⟩
 refine codeAny_builtin PySem.F.entry_min_loop ?_;rw [Around.under_plainId PySem.F.plain_min_loop _];show wpAny _ A.in1 (seqItems? (Value.ref (z.heap.push oI).objs.size) >>= _) _ _ _;refine wpAny_bind (wpAny_seqItems gS rfl ?_);show wpAny _ A.in1 (tryCatch (pyNext (Value.ref z.heap.objs.size)) _ >>= _) _ _ _;refine wpAny_bind (wpAny_tryCatch (W.item 0 _ _ _ (by rw [sz];exact h0) ⟨⟨_,gI,rfl,rfl⟩,lst kk⟩ fun v h1 tk1 hp st k1=>?_));have hv:vs[0]? = some v:=by simpa using hp
 have e1:=k1 _ _ (by simpa using ne) gS;have kg:=kk.but hI k1;show wpAny _ A.in1 (tryCatch (holding [v] (call (Value.ref q) [v])) _ >>= _) _ _ _;refine wpAny_bind (wpAny_tryCatch (wpAny_holding (wpAny_mono (turn 0 v hv h1 tk1 kg) (fun u y he=>?_) fun _ _ f=>f.elim)));obtain ⟨h2,tk2,t2,rfl,rfl,k2⟩:=he;have e2:=k2 _ _ e1;have s2:=Heap.SameBut.update h2 (z.heap.push oI).objs.size (Obj.mapSeq fun _=>#[v,Value.str (ks 0) t2]);obtain ⟨n2,g2⟩:∃ n2,(h2.update (z.heap.push oI).objs.size (Obj.mapSeq fun _=>#[v,Value.str (ks 0) t2])).get? (z.heap.push oI).objs.size=some (seqObj "list" #[v,Value.str (ks 0) t2] n2):=⟨_,get?_update_seq e2 fun _=>#[v,Value.str (ks 0) t2]⟩;show wpAny _ A.in1 (updateSeq (z.heap.push oI).objs.size (fun _=>#[v,Value.str (ks 0) t2]) >>= _) _ _ _;refine wpAny_bind (wpAny_updateSeq e2 rfl ?_);rw [nm];refine wpAny_pure ⟨plainId_quiet PySem.F.plain_min_loop _,min_loop ks hh hl hI hS ne turn fin _ 0 0 _ _ v t2 n2 rfl h0 ((kg.trans k2).same hS s2) g2 ((st.1.at fun o e=>k2 _ _ e).at fun o e=>(s2.2 _ (Ne.symm ne)).trans e) hv (Z7 _) fun k' hk=>?_⟩;have:k'=0:=by omega
 subst this;exact fun z=>List.lt_irrefl _ z
end
end L2
namespace L2
open PySem PySem.Spec PyProof.Rows
noncomputable def CodeO (c:Addr) (q:Str):HO:=.ext fun h=>h.CodeRec (.ref c) q
noncomputable def TabOk (H:Hp) (P:Addr) (pos:Pos) (q:Str):Prop:=H P=some (.tbl #[])∨∃ c,H P=some (.tbl #[rawInt pos.line,rawInt pos.col,.ref c])∧H c=some (CodeO c q)
noncomputable def GrownBut (P:Addr) (H H':Hp):Prop:=∀ b o,H b=some o→b≠P→H' b=some o
theorem TabOk.ne {H:Hp}{P:Addr}{pos:Pos}{q:Str} (T:TabOk H P pos q) {a:Addr}{o:HO} (e:H a=some o) (h:∀ ps,o≠.tbl ps):a≠P:=by
 rintro rfl;rcases T with z | ⟨c,z,_⟩ <;> rw [e] at z <;> exact h _ (Zf z)
theorem TabOk.stay {H H':Hp}{P:Addr}{pos:Pos}{q:Str} (T:TabOk H P pos q) (k:∀ b o,H b=some o→H' b=some o):TabOk H' P pos q:=by
 rcases T with z | ⟨c,z,y⟩
 ·exact .inl (k _ _ z)
 ·exact .inr ⟨c,k _ _ z,k _ _ y⟩
theorem TabOk.but {H H':Hp}{P:Addr}{pos:Pos}{q:Str}{p:Addr}{u:HO} (T:TabOk H P pos q) (hp:H p=some u) (h1:∀ ps,u≠.tbl ps) (h2:∀ f,u≠.ext f) (k:∀ b o,H b=some o→b≠p→H' b=some o):TabOk H' P pos q:=by
 have n1:=T.ne hp h1;rcases T with z | ⟨c,z,y⟩
 ·exact .inl (k _ _ z (Ne.symm n1))
 ·refine .inr ⟨c,k _ _ z (Ne.symm n1),k _ _ y ?_⟩;rintro rfl;rw [hp] at y;exact h2 _ (Zf y)
noncomputable def BltAt (mg:Str→Option Value) (base:Heap):Prop:=∃ (bm:Addr) (ob:Obj),mg "__builtins__" = some (.ref bm)∧bm≠builtinsNs∧bm≠mainGlobals∧base.get? bm=some ob∧ob.cls=.type "module"∧ob.dict=some builtinsNs∧ob.data=.plain
structure LamTxt (K:PySem.W.Frag) (mg:Str→Option Value) (base:Heap) (c P:Addr):Prop where
 hd:PySem.W.codeHdIn K c P=true
 blt:BltAt mg base
section
variable {X:Cx}{pins:List (Addr×Obj)}{σ : St}{H:Hp}{s:Shared}{A:Around}{E:Value→Shared→Prop}
theorem zD4 {c:Addr}{q:Str}:∀ h1 h2:Heap,h1.CodeRec (.ref c) q→(∀ o,h1.get? c=some o→h2.get? c=some o)→h2.CodeRec (.ref c) q:=fun h1 h2 ⟨c',o,vs,t,e,ho,r⟩ k=>by
 cases e;exact ⟨c,o,vs,t,rfl,k o ho,r⟩
theorem lam_made {params:Arguments}{body:Expr}{scope:Scope}{pos:Pos}{c P:Addr}{q:Str}{Q:Value→Shared→Prop} (I:Inv X pins σ H s) (T:LamTxt X.K X.mg X.base c P) (hcode:X.env.code=.ref c) (hq:X.env.qual++"<lambda>" = q)
  (hcl:closureFor scope X.env=pure []) (hdef:defaultsOf params X.env=([],[])) (W:TabOk H P pos q)
  (h:∀ (H':Hp) (s':Shared) (f c':Addr) (pm ctv:Value),Inv X pins σ H' s'→s'.heap.get? f=some (PySem.W.kla_obj "<lambda>" q params body scope [] pm c' ctv)→s'.heap.CodeRec (.ref c') q→TabOk H' P pos q→GrownBut P H H'→Q (.ref f) s') :
  wpAny (model X.prog X.w) A (eval (.Lambda params body scope pos) X.env) Q E s:=by
 subst hq;refine PySem.W.kla_eval hdef ?_;obtain ⟨bm,ob,e1,e3,e4,e2,e5,e6,e7⟩:=T.blt;have hbP:bm≠P:=by
  rintro rfl;have:=(I.bs _ _ e2).2;rcases W with z | ⟨c',z,_⟩ <;> rw [this] at z <;> cases z
 have hb:s.heap.BuiltinsAt X.mg P:=⟨bm,ob,e1,e3,e4,hbP,I.bk _ _ e2,e5,e6,e7⟩;have hg:=I.mod.glob.keeps I.bk;have C:=PySem.W.codeHd_of_K I.kIn T.hd;have tab:∀ {ps},H P=some (.tbl ps)→s.heap.get? P=some (PySem.W.tabObj ps):=fun {ps} e=>I.hok P _ e;have hgP:mainGlobals≠P:=by
  rintro rfl;obtain ⟨o,es,ep,ho,hd,_⟩:=hg;rcases W with z | ⟨c',z,_⟩ <;> (rw [tab z] at ho;cases ho;cases hd)
 rcases W with z | ⟨c',z,y⟩
 ·refine PySem.W.kla_makeFunction hcl I.ok.glob hg hcode C (tab z) trivial rfl hgP hb fun c' ctv h' tk hx hge hlt hrec htb=>?_;have fc:H c'=none:=I.hok.fresh hge;have nP:c'≠P:=Ne.symm (zA7 z fc)
  let H':Hp:=upd (upd H P (.tbl #[rawInt pos.line,rawInt pos.col,.ref c'])) c' (CodeO c' (X.env.qual++"<lambda>"))
  have hP':H' P=some (.tbl #[rawInt pos.line,rawInt pos.col,.ref c']):=by show upd _ _ _ _=_;rw [zAa (Ne.symm nP),zA1]
  have hc':H' c'=some (CodeO c' (X.env.qual++"<lambda>")):=zA1;have gr:∀ b o,H b=some o→b≠P→H' b=some o:=fun b o e nb=>by
   show upd _ _ _ _=_;rw [zAa (zA7 e fc),zAa nb];exact e
  have I1:Inv X pins σ H' { s with heap:=h',toks:=tk }:=by
   refine I.step (g':=s.gens) (d':=s.drawn) (ch:=[]) (fun _ m=>nomatch m) (fun b o _ _ _ e n=>hx b o (Ne.symm (zA7 z n)) e) (fun b o _ _ _ e n=>⟨o.slots,hx b o (Ne.symm (zA7 z n)) e⟩) (fun b o _ e n=>?_) (fun b o _ e=>?_)
    (fun b xs e=>gr b _ e fun k=>by subst k;rw [z] at e;cases e) (fun b o u e=>gr b _ e fun k=>by subst k;rw [z] at e;cases e) (fun b ps e=>?_) (fun m hm=>?_) (fun b u e=>?_) I.bare
   ·show upd _ _ _ _=_;rw [zAa (Ze (Zd (Z9 e) hge)),zAa (Ne.symm (zA7 z n))];exact n
   ·by_cases k:b=P
    ·subst k;exact ⟨_,htb⟩
    ·exact ⟨o,hx b o k e⟩
   ·by_cases k:b=P
    ·subst k;rw [z] at e;cases e;exact ⟨#[rawInt pos.line,rawInt pos.col,.ref c'],by rw [hP'];rfl⟩
    ·exact ⟨#[],by rw [gr b _ e k];simp⟩
   ·exact hm.extBut hx fun k=>by have:=I.free;rw [k,z] at this;cases this
   ·by_cases k1:b=c'
    ·subst k1;rw [hc'] at e;cases e;obtain ⟨_,o,_,_,e',ho,_⟩:=id hrec;cases e';exact ⟨hrec,⟨o,ho⟩,zD4⟩
    ·by_cases k2:b=P
     ·subst k2;rw [hP'] at e;cases e;exact htb
     ·have e':H b=some u:=by
       have e2:upd (upd H P _) c' _ b=some u:=e
       rwa [zAa k1,zAa k2] at e2
      refine (I.hok b u e').stay (fun d v hd' r=>hx d v ?_ r) (fun d r=>gr d _ r ?_) fun d xs r=>gr d _ r ?_
      ·rcases hd' with k | k
       ·rw [k];exact k2
       ·rintro rfl;rw [z] at k;cases k
      ·rintro rfl;rw [z] at r;cases r
      ·rintro rfl;rw [z] at r;cases r
  have I2:Inv X pins σ H' { s with heap:=h'.push _,toks:=tk }:=I1.kept (t':=tk) (h':=h'.push (PySem.W.kla_obj "<lambda>" (X.env.qual++"<lambda>") params body scope [] ((X.mg "__name__").getD .none) c' ctv)) fun b u e=>Z2 _ e;refine h H' _ h'.objs.size c' ((X.mg "__name__").getD .none) ctv I2 (Za _ rfl) ?_ (.inr ⟨c',hP',hc'⟩) gr;exact zD4 h' _ hrec fun o e=>Z2 _ e
 ·refine PySem.W.kla_makeFunctionHit (cv:=.ref c') hcl I.ok.glob hg hcode C (tab z) trivial ?_ hb fun ctv h' tk kk sz=>?_
  ·simp [codeAmong,rawInt]
  ·have I2:Inv X pins σ H { s with heap:=h'.push _,toks:=tk }:=I.kept (t':=tk) (h':=h'.push (PySem.W.kla_obj "<lambda>" (X.env.qual++"<lambda>") params body scope [] ((X.mg "__name__").getD .none) c' ctv)) fun b u e=>Z2 _ (kk b u e);refine h H _ h'.objs.size c' ((X.mg "__name__").getD .none) ctv I2 (Za _ rfl) ?_ (.inr ⟨c',z,y⟩) fun b o e _=>e;obtain ⟨hr,_,_⟩:=I.hok c' _ y;exact zD4 s.heap _ hr fun o e=>Z2 _ (kk _ _ e)
end
structure LamSc (scope:Scope) (x:Str):Prop where
 co:scope.isCoroutine=false
 gen:scope.isGenerator=false
 kind:scope.kind=.function
 cell:∀ y∈scope.names,y.2≠.cell
 loc:scope.names.lookup x=some .local
section
variable {P:Program}{w:World}{A:Around}{z:Shared}
theorem lam_fld {f c':Addr}{nm q x fld k:Str}{params:Arguments}{p1 p2:Pos}{scope:Scope}{pm ctv v:Value} (ho:z.heap.get? f=some (PySem.W.kla_obj nm q params (.Attribute (.Name x p1) fld p2) scope [] pm c' ctv)) (hc:z.heap.CodeRec (.ref c') q)
  (hroom:A.depth < recursionLimit) (hlim:z.heap.NoLimit) (hb:bindArgs (PySem.W.kla_fn nm q params (.Attribute (.Name x p1) fld p2) scope [] pm (.ref c') ctv) ⟨[v],[]⟩=pure [(x,v)]) (S:LamSc scope x) (hx:(x == ("__debug__" : Str))=false)
  (hat:∀ env:Env,attributeBase (.Name x p1) fld env (eval (.Name x p1) env)=eval (.Name x p1) env)
  (hget:∀ (A':Around) (E':Value→Shared→Prop) (h:Heap) (tk:Nat),Kept z.heap h→wpAny (model P w) A' (getAttr v fld true) (fun u y=>∃ t tk',u=.str k t∧y={ z with heap:=h,toks:=tk' }) E' { z with heap:=h,toks:=tk }) :
  wpAny (model P w) A (call (.ref f) [v]) (KeyEnd z z.heap k) (fun _ _=>False) z:=by
 refine wpAny_call (PySem.W.kla_callFunE hroom ho rfl S.co S.gen rfl hc ?_);rw [hb];refine wpAny_pure (wpAny_newFunctionEnv S.cell (fun y hy=>by rw [List.mem_singleton.mp hy];exact S.loc) (fun h1 hns hsb=>?_) S.kind);have kk:Kept z.heap h1:=fun b o e=>(hsb.2 b (Ze (Z9 e))).trans (Z2 _ e);refine ⟨hlim.keeps kk,PySem.W.kla_codeExpr (attr_of (hat _) (wpAny_Name (wpAny_loadName_local S.kind S.loc hns (v:=v) (by simp) ?_) hx))⟩;refine thn (hget _ _ h1 _ kk) fun u y ⟨t,tk',eu,ey⟩=>?_;exact ⟨h1,tk',t,eu,ey,kk⟩
end
noncomputable def tMinKey (K:PySem.W.Frag) (P:Addr) (pos:Pos) (q fld:Str) (ta:TA):TE:=fun σ H Q=>ta σ H fun vs H1=>∃ (l:Addr) (xs:List V) (ks:List Str),vs=[.ref l]∧SqL K H1 l xs∧0 < xs.length∧TabOk H1 P pos q∧ks.length=xs.length ∧
 (∀ (i:Nat) (v:V) (k:Str),xs[i]? = some v→ks[i]? = some k→∃ a C dx fs,v=.ref a∧H1 a=some (.ins C dx fs)∧Cls K C∧NoAttr K C fld∧fs.lookup fld=some (.str k)) ∧
 ∀ (i:Nat) (v:V) (k:Str) (H2:Hp),xs[i]? = some v→ks[i]? = some k→(∀ y∈ks,¬ ltS y k)→TabOk H2 P pos q→GrownBut P H1 H2→Q v H2
section
variable {X:Cx}
theorem zDw {e:Expr}{ta:TA}{x fld q:Str}{params:Arguments}{p p1 p2 lpos kpos pos:Pos}{scope:Scope}{c P:Addr} (T:LamTxt X.K X.mg X.base c P) (hcode:X.env.code=.ref c) (hr:Room 2 X.A) (hcm:X.calm=true) (hg:Gl X "min") (hm:X.mg "min" = none) (ha:PA X [e] ta)
  (S:LamSc scope x) (hq:X.env.qual++"<lambda>" = q:=by rfl) (hcl:closureFor scope X.env=pure []:=by rfl) (hdef:defaultsOf params X.env=([],[]):=by rfl)
  (hb:∀ (pm cd ctv v:Value),bindArgs (PySem.W.kla_fn "<lambda>" q params (.Attribute (.Name x p1) fld p2) scope [] pm cd ctv) ⟨[v],[]⟩=pure [(x,v)]:=by intros;rfl) (hx:(x == ("__debug__" : Str))=false:=by decide)
  (hat:∀ env:Env,attributeBase (.Name x p1) fld env (eval (.Name x p1) env)=eval (.Name x p1) env:=by intros;rfl)
  (he:backTo pos (starEach [e] X.env)=(false,eval e X.env) :: backTo pos (starEach [] X.env):=by rfl) (hpl:(backTo pos (starEach [e] X.env)).any (·.1)=false:=by rfl) :
  PE X (.Call (.Name "min" p) [e] [⟨some "key",.Lambda params (.Attribute (.Name x p1) fld p2) scope lpos,kpos⟩] pos) (tMinKey X.K P lpos q fld ta):=by
 intro pins s σ H Q I h;refine wpAny_Call_Name_kw (zE4 I hg hm PyProof.Rows.boot_min ?_);refine PyProof.Rows.callWith_kw (thn (ha pos pins s σ H _ I h) fun us s1 ⟨vs,H1,I1,r1,q1⟩=>?_) he hpl rfl rfl;obtain ⟨l,xs,ks,rfl,hl,h0,W,hlen,hat1,fin⟩:=q1;obtain ⟨u,rfl,ru⟩:=v1 r1;cases (show u=Value.ref l from ru);refine PyProof.Rows.evalAll_cons (wpAny_bind (lam_made I1 T hcode hq hcl hdef W fun H2 s2 f c' pm ctv I2 ho hrec W2 gr=>wpAny_bind (wpAny_standAt (wpAny_pure ?_))));refine PyProof.Rows.evalAll_nil ?_;have hlP:SqL X.K H2 l xs:=by
  rcases hl with (z | ⟨o,z⟩) | z
  ·exact .inl (.inl (gr _ _ z (W.ne z (fun _ k=>nomatch k))))
  ·exact .inl (.inr ⟨o,gr _ _ z (W.ne z (fun _ k=>nomatch k))⟩)
  ·exact .inr z
 obtain ⟨its,rv,pl,_⟩:=I2.list hlP;have il:=rv.length;refine min_key (vs:=its) (fun i=>ks.getD i Str.empty) (I2.ok.hd hcm) pl.isList (by omega) (fun i v hv h tk kk=>?_) fun i v h tk hv hbest kk=>?_
 ·have hi:i < its.length:=(List.getElem?_eq_some_iff.mp hv).1;obtain ⟨y,hy⟩:∃ y,xs[i]? = some y:=⟨_,Z3 (by omega)⟩;obtain ⟨k,hk⟩:∃ k,ks[i]? = some k:=⟨_,Z3 (by omega)⟩;obtain ⟨u,hu,ry⟩:=rv.get hy;rw [hv] at hu;cases hu;obtain ⟨a,C,dx,fs,rfl,ea,cc,nn,lf⟩:=hat1 i y k hy hk;cases (show v=Value.ref a from ry);have ek:ks.getD i Str.empty=k:=by simp [hk]
  show wpAny _ _ _ (KeyEnd s2 h (ks.getD i Str.empty)) _ _;rw [ek];have I3:Inv X pins σ H2 { s2 with heap:=h,toks:=tk }:=I2.kept (t':=tk) kk;have ea2:H2 a=some (.ins C dx fs):=gr _ _ ea (W.ne ea (fun _ k=>nomatch k));refine lam_fld (z:={ s2 with heap:=h,toks:=tk }) (kk _ _ ho) (zD4 _ _ hrec fun o e=>kk _ _ e) hr.in1.depth I3.nolimit (hb _ _ _ _) S hx hat fun A' E' h2 tk2 k2=>?_;have I4:Inv X pins σ H2 { s2 with heap:=h2,toks:=tk2 }:=I3.kept (t':=tk2) k2;obtain ⟨mA,O,r,_,_,_⟩:=zE7 I4.hok ea2;obtain ⟨w',hw,rw'⟩:=RelO.some_of (v:=V.str k) (o:=mA fld) (by rw [← lf];exact r fld);obtain ⟨t,rfl⟩:=rw';exact get_map I4.kIn O (cc.get fld) cc.hd nn hw rfl ⟨t,_,rfl,rfl⟩
 ·have hi:i < its.length:=(List.getElem?_eq_some_iff.mp hv).1;obtain ⟨y,hy⟩:∃ y,xs[i]? = some y:=⟨_,Z3 (by omega)⟩;obtain ⟨k,hk⟩:∃ k,ks[i]? = some k:=⟨_,Z3 (by omega)⟩;obtain ⟨u,hu,ry⟩:=rv.get hy;rw [hv] at hu;cases hu;have ek:ks.getD i Str.empty=k:=by simp [hk]
  refine ⟨y,H2,I2.kept (t':=tk) kk,ry,fin i y k H2 hy hk (fun y' hy'=>?_) W2 gr⟩;obtain ⟨j,hj,ej⟩:=Zz hy';have:=hbest j (by omega);rw [ek] at this;have e2:ks.getD j Str.empty=y':=by simp [Z3 hj,ej]
  rw [e2] at this;exact this
end
end L2
namespace L2
open PySem PySem.Spec PyProof.Rows
theorem blt_of {p:Program}{loose:List Str}{mean:ExcName→Option Value}{mg mb:Str→Option Value}{h:Heap} (T:PyProof.Rows.Top p loose mean mg mb h):BltAt mg h:=by
 obtain ⟨bm,ob,b1,b2,b3,b4,b5,b6⟩:=T.bmain;refine ⟨bm,ob,b1,b2,fun q=>?_,b3,b4,b5,b6⟩;obtain ⟨o,es,ep,e,hd,_⟩:=T.g;rw [q,e] at b3;cases b3;rw [hd] at b6;cases b6
end L2
namespace L2
open PySem PySem.Spec PyProof.Rows
noncomputable def Ite (K:PySem.W.Frag) (a:Addr):It :=
 ⟨fun i H=>∃ xs x,SqL K H a xs∧xs[i]? = some x,
  fun i H v H'=>∃ p x,v=.ref p∧H p=none∧H'=upd H p (.tup [.int (i:Nat),x])∧∀ xs,SqL K H a xs→xs[i]? = some x,
  fun i H=>∃ xs,SqL K H a xs∧xs.length≤i⟩
theorem turn_enum {P:Program}{w:World}{K:PySem.W.Frag}{es:List Expr}{x1:_}{pos:Pos}{l e it:Addr} (D:e≠it) :
  Turn P w K (.Tuple es x1 pos) (Ite K l) [e,it] e (fun i h=>(∃ old,IsEnum h e it ((i:Nat):Int) old)∧h.IsListIter it l i) where
 mem:=by simp
 obj:=fun i h st b hb=>by
  obtain ⟨⟨old,h1⟩,⟨o4,h4,_,d4⟩⟩:=st;simp only [Zv,Zr,or_false] at hb;rcases hb with rfl | rfl
  ·exact ⟨_,h1,fun v q=>by cases (show Data.fields _=Data.cell v from q)⟩
  ·exact ⟨_,h4,fun v q=>by rw [d4] at q;cases q⟩
 keep:=fun i h h' st k=>by
  obtain ⟨⟨old,h1⟩,h4⟩:=st;exact ⟨⟨old,k e (by simp) _ h1⟩,h4.at fun o q=>k it (by simp) o q⟩
 item:=by
  intro X hP hw hK hc i pins s σ H E I hf st hg;subst hP hw hK;obtain ⟨⟨old,h1⟩,h4⟩:=st;obtain ⟨xs,x,qx,ex⟩:=hg;obtain ⟨its,rx,px,_⟩:=I.list qx;obtain ⟨u,hu,ru⟩:=rx.get ex;refine wpAny_pyNext_enum_item h1 h4 px.isList (x:=u) (by simpa using hu) D fun h' a1 a2 a3 a4 a5=>?_;refine ⟨_,rfl,wpAny_letOwnedTupleGo_enum a1 fun h2' b1 sb=>?_⟩;have ne:s.heap.objs.size≠e:=fun q=>by have:=Z9 h1;rw [← q] at this;exact Y1 _ this
  have J:Inv X pins σ H { s with heap:=h2',toks:=s.toks + 1 }:=I.turns (t':=s.toks + 1) (ch:=[e,it]) (fun b o hb q=>by
   simp only [Zv,Zr,or_false,not_or] at hb
   exact (sb.2 b hb.1).trans (a5 b o hb.1 hb.2 q)) hf
  have gT:h2'.get? s.heap.objs.size=some { cls:=.type "tuple",data:=.seq #[.int (i:Nat) s.toks,u] }:=(sb.2 _ ne).trans a3;have fT:H s.heap.objs.size=none:=I.hok.fresh (Z7 _)
  have J2:Inv X pins σ (upd H s.heap.objs.size (.tup [.int (i:Nat),x])) { s with heap:=h2',toks:=s.toks + 1 }:=J.adopt fT I.sz (Yd I.lt) (fun n c q=>by
    obtain ⟨w',q⟩:=I.cell n c q
    exact Ze q.lt) (fun p hp=>Ze (Z9 (I.pin p hp).1)) ⟨by show 2≤sizeLine;decide,[.int (i:Nat) s.toks,u],.cons ⟨_,rfl⟩ (.cons ru .nil),⟨_,gT,rfl,_,rfl⟩⟩
  refine ⟨.ref s.heap.objs.size,_,J2,rfl,⟨_,x,rfl,fT,rfl,fun zs hz=>by rw [I.list_inj hz qx];exact ex⟩,⟨⟨u,?_⟩,a2.at fun o q=>(sb.2 _ (Ne.symm D)).trans q⟩,fun b hb=>?_⟩
  ·have:(((i + 1:Nat)):Int)=(i:Int) + 1:=by push_cast;rfl
   rw [this];exact b1
  ·have hb':=(hf b hb).1;have:b≠s.heap.objs.size:=by
    rintro rfl;obtain ⟨o,q⟩:∃ o,s.heap.get? s.heap.objs.size=some o:=by
     simp only [Zv,Zr,or_false] at hb;rcases hb with q | q <;> rw [q]
     ·exact ⟨_,h1⟩
     ·obtain ⟨o,q,_⟩:=h4;exact ⟨o,q⟩
    exact Y1 _ (Z9 q)
   rw [zAa this];exact hb'
 done:=by
  intro X hP hw hK hc i pins s σ H E I hf st hg;subst hP hw hK;obtain ⟨⟨old,h1⟩,h4⟩:=st;obtain ⟨xs,qx,hend⟩:=hg;obtain ⟨its,rx,px,_⟩:=I.list qx;have e1:=rx.length;refine wpAny_pyNext_enum_end (I.ok.hd hc) h1 h4 px.isList (by simp;omega) fun h' kk=>⟨rfl,I.turns (t':=s.toks) (ch:=[e,it]) (fun b o hb q=>?_) hf⟩;simp only [Zv,Zr,or_false,not_or] at hb;exact kk b o hb.2 q
 self:=fun _ _ _ _ _ st h=>wpAny_pyIter_enum st.1.choose_spec h
noncomputable def iEnum (K:PySem.W.Frag) (ta:TA):TI:=fun σ H R=>ta σ H fun vs H1=>∃ a,vs=[.ref a]∧(∃ xs,SqL K H1 a xs)∧R (Ite K a) H1
section
variable {X:Cx}
theorem pi_enum {es:List Expr}{x1:_}{tp:Pos}{e1:Expr}{ta:TA}{p pos:Pos} (hg:Gl X "enumerate") (hm:X.mg "enumerate" = none) (ha:PA X [e1] ta) (hs:starEach [e1] X.env=[(false,eval e1 X.env)]:=by rfl) :
  PI X (.Tuple es x1 tp) (.Call (.Name "enumerate" p) [e1] [] pos) (iEnum X.K ta):=by
 intro pins s σ H R I h;refine Call_ (zE4 I hg hm boot_enumerate (PyProof.Rows.callWith_type1 (thn (ha pos pins s σ H _ I h) fun us s1 ⟨vs,H1,I1,r1,q1⟩=>?_) hs rfl));obtain ⟨a,rfl,⟨xs,qx⟩,q⟩:=q1;obtain ⟨u,rfl,ru⟩:=v1 r1;cases (show u=Value.ref a from ru);obtain ⟨its,rx,px,_⟩:=I1.list qx;refine call_enumerate_list px.isList fun h' a1 a2 a3 a4=>wpAny_pyIter_enum a1 ?_;have I2:Inv X pins σ H1 { s1 with heap:=h' }:=I1.kept (t':=s1.toks) a4;refine ⟨s1.heap.objs.size + 1,[s1.heap.objs.size + 1,s1.heap.objs.size],_,_,H1,rfl,I2,turn_enum (Nat.succ_ne_self _),⟨⟨_,a1⟩,a2⟩,fun c hc=>?_,q⟩;have hc':s1.heap.objs.size≤c:=by
  simp only [Zv,Zr,or_false] at hc;rcases hc with q | q
  ·rw [q];exact Nat.le_succ _
  ·rw [q];exact Z7 _
 exact I1.fpOk hc' (I1.hok.fresh hc')
end
noncomputable def Froze (H:Hp) (d:Addr) (kvs:List (Key×V)) (H':Hp):Prop:=∃ o,H'=upd H d (.frz o (.dK kvs))
theorem Froze.at {H H':Hp}{d:Addr}{kvs:List (Key×V)} (z:Froze H d kvs H'):Rd H' d (.dK kvs):=by
 obtain ⟨o,rfl⟩:=z;exact .inr ⟨o,zA1⟩
theorem Froze.ne {H H':Hp}{d:Addr}{kvs:List (Key×V)} (z:Froze H d kvs H') {b:Addr} (h:b≠d):H' b=H b:=by
 obtain ⟨o,rfl⟩:=z;exact zAa h
section
variable {X:Cx}{pins:List (Addr×Obj)}{σ : St}{H:Hp}{s:Shared}{d:Addr}{kvs:List (Key×V)}
end
theorem KV.len {κ : Type}{kvs:List (κ×V)}{vs:List (κ×Value)} (h:KV kvs vs):kvs.length=vs.length:=Paired.length h
theorem key_rel {k:Key}{v:Value} (h:keyIs k v=true):RelV (kV k) v:=by
 rcases zB3 h with ⟨i,t,rfl,rfl⟩ | ⟨x,t,rfl,rfl⟩
 ·exact ⟨t,rfl⟩
 ·exact ⟨t,rfl⟩
section
variable {X:Cx}{tg:Expr}
end
end L2
namespace L2
open PySem PySem.Spec PyProof.Rows
theorem lk_list_keys:typeLookup (.type "list") "keys" = pure none:=by rw [typeLookup_type,builtinLookup_eq_fast];kernel_rfl
theorem entry_dul:entryFor table "dict.update.loop" = some Builtin.«dict.update.loop»:=entryFor_of_tree (by kernel_rfl)
theorem zD6:plainId "dict.update.loop" = true:=by decide +kernel
section
variable {P:Program}{w:World}{A:Around}{E:Value→Shared→Prop}
theorem no_keys {s:Shared}{a:Addr}{o:Obj}{xs:Array Value}{k:Nat}{Q:Option Value→Shared→Prop} (hx:s.heap.get? a=some o) (hc:o.cls=.type "list") (hdat:o.data=.seq xs k) (hd:o.dict=none) (hA:A.handled=none)
  (h:∀ h' tk,Kept s.heap h'→Q none { s with heap:=h',toks:=tk }):wpAny (model P w) A (getAttr? (.ref a) "keys") Q E s:=by
 obtain ⟨c,dct,dat,sl⟩:=o;simp only at hc hdat hd;subst hc hdat hd;obtain ⟨hp,g,d,tk,os⟩:=s;have hT:∀ n,(⟨hp,g,d,n,os⟩:Shared).TypeIs (.ref a) "list":=fun _=>⟨_,hx,rfl⟩;have f1:=sub_AttributeError;have f3:=F.slot_list_getattribute.lookup;have f4:=F.slot_list_getattribute.bind (.ref a);have f5:=am_list_getattr_none;unfold getAttr? getAttrBy? getAttrBy
 repeat (any_goals (first | assumption | exact hT _ | ((with_reducible show wpAny _ _ (call (Value.builtin "list.__getattribute__") _ _) _ _ _);refine call_meets F.slot_list_getattribute (hT _) am_entry_list_getattribute (F.args_list_getattribute_2 _ _) (meets_getattribute_miss_list a xs k sl "keys" _ lk_list_keys (by decide) (by size_fits)) ⟨hx,hA,fun h' tk' e hx'=>?_⟩) | wp_step))
 obtain ⟨t',u',he⟩:=hx'.there;show wpAny _ _ (getattributeRaised _ _ _ _ _ _ _) _ _ _;unfold getattributeRaised hookOrError attributeErrorLeaves
 repeat (any_goals (first | assumption | wp_step))
 exact h _ _ hx'.of.keeps
theorem zF8 {α : Type}{l:List α} (h:l.Nodup) {i j:Nat}{x : α} (a:l[i]? = some x) (b:l[j]? = some x):i=j:=by
 obtain ⟨h1,e1⟩:=List.getElem?_eq_some_iff.mp a;obtain ⟨h2,e2⟩:=List.getElem?_eq_some_iff.mp b;exact (List.getElem_inj h).mp (e1.trans e2.symm)
theorem pairs_loop {z:Shared}{g:Heap}{l I d:Addr}{its:List Value}{ps:List (Key×Value)}{R:Result→Shared→Prop} (hh:A.handled=none) (hl:g.IsList l its.toArray) (hI:g.objs.size≤I) (hd:g.objs.size≤d) (ne:d≠I) (hz:its.length≤sizeLine)
  (len:ps.length=its.length) (nd:(ps.map (·.1)).Nodup) (hp:∀ (i:Nat) (v:Value) (k:Key) (u:Value),its[i]? = some v→ps[i]? = some (k,u)→∃ (t:Addr) (y:Value),v=.ref t∧IsTup g t #[y,u]∧keyIs k y=true)
  (fin:∀ h tk,Kept g h→h.DictOf (mixKind P w) d ps→R (.ok (.ret .none)) { z with heap:=h,toks:=tk }) :
  ∀ (r i:Nat) (h:Heap) (tk:Nat),its.length - i=r→i≤its.length→Kept g h→h.DictOf (mixKind P w) d (ps.take i)→h.IsListIter I l i →
   codeAny (model P w) A (.builtin "dict.update.loop" ⟨[.ref d,.ref I,rawInt (i:Nat),.none],[]⟩) R { z with heap:=h,toks:=tk }:=by
 have hlI:l≠I:=by
  obtain ⟨o,e,_⟩:=hl;exact Ze (Zd (Z9 e) hI)
 have W:=Walks.list (prog:=P) (w:=w) (A:=A.in1) hh I l hlI its.toArray;have sz:its.toArray.size=its.length:=by simp
 have lst:∀ {h},Kept g h→h.IsList l its.toArray:=fun {h} k=>by
  obtain ⟨o,e,r⟩:=hl;exact ⟨o,k _ _ e,r⟩
 have dk:∀ {h h':Heap}{q:List (Key×Value)},h.DictOf (mixKind P w) d q→(∀ b o,b∉[I]→h.get? b=some o→h'.get? b=some o)→h'.DictOf (mixKind P w) d q:=fun ⟨o,es,ep,e,r⟩ k=>⟨o,es,ep,k _ _ (by simpa using ne) e,r⟩;intro r
 induction r with
 | zero =>
  intro i h tk hr hi k hm it;have hin:i=its.length:=by omega
  subst hin;refine codeAny_builtin entry_dul ?_;rw [Around.under_plainId zD6 _];show wpAny _ A.in1 (pyNext (Value.ref I) >>= _) _ _ _;refine wpAny_bind (W.done _ _ _ ⟨by rw [sz];exact it,lst k⟩ fun h1 tk1 k1=>?_);show wpAny _ A.in1 (Builtin.Dict.addKeywords d [] >>= _) _ _ _;refine wpAny_bind (wpAny_pure (wpAny_pure ?_));rw [← len,Zb] at hm;exact fin _ _ (k.but hI k1) (dk hm k1)
 | succ r ih =>
  intro i h tk hr hi k hm it;have hlt:i < its.length:=by omega
  refine codeAny_builtin entry_dul ?_;rw [Around.under_plainId zD6 _];show wpAny _ A.in1 (pyNext (Value.ref I) >>= _) _ _ _;refine wpAny_bind (W.item i _ _ _ (by rw [sz];exact hlt) ⟨it,lst k⟩ fun v h1 tk1 hv st k1=>?_);have hv':its[i]? = some v:=by simpa using hv
  obtain ⟨⟨key,u⟩,hk⟩:∃ p,ps[i]? = some p:=⟨_,Z3 (by omega)⟩;obtain ⟨t,y,rfl,ht,hy⟩:=hp i v key u hv' hk;have kg:=k.but hI k1;have ht1:=ht.keeps kg;obtain ⟨o,ho,hc,n,hdt⟩:=id ht1;have hT:({ z with heap:=h1,toks:=tk1 }:Shared).TypeIs (.ref t) "tuple":=⟨o,ho,hc⟩;refine wpAny_bind (wpAny_holding (wpAny_bind (wpAny_tryCatch ?_)));unfold Builtin.Dict.pairItems;refine wpAny_bind (wpAny_typeOf hT ?_);rw [if_pos (by decide)];refine wpAny_bind (wpAny_seqItems ho hdt (wpAny_pure ?_));show wpAny _ A.in1 (holding [y,u] (dictSet d y u)) _ _ _;have hm1:=dk hm k1;have nk:key∉(ps.take i).map (·.1):=fun m=>by
   obtain ⟨q,hq,e⟩:=List.mem_map.mp m;obtain ⟨j,hj,ej⟩:=Zz hq;have hj':j < i:=by simp at hj;omega
   have e1:(ps.map (·.1))[j]? = some key:=by
    have:ps[j]? = some q:=by
     have:=Z3 hj;rw [List.getElem?_take_of_lt hj'] at this;rw [this,ej]
    simp [this,e]
   have e2:(ps.map (·.1))[i]? = some key:=by simp [hk]
   have:=zF8 nd e1 e2;omega
  have st1:stored (ps.take i) key u=ps.take (i + 1):=by
   have hany:¬ ((ps.take i).any fun kv=>decide (kv.1=key))=true:=by
    rw [List.any_eq_true];rintro ⟨kv,h1,h2⟩;exact nk (List.mem_map.mpr ⟨kv,h1,of_decide_eq_true h2⟩)
   rw [stored,if_neg hany,Z5,hk];rfl
  refine wpAny_holding (wpAny_dictSet_pairs (knd:=mixKind P w) (k:=key) hy hm1 (fun h2 hm2 sb=>?_) (by have:=Zx i ps;omega));rw [st1] at hm2;refine wpAny_pure ⟨plainId_quiet zD6 _,?_⟩;have e3:((i:Nat):Int) + 1=((i + 1:Nat):Int):=by push_cast;rfl
  show codeAny _ A (.builtin "dict.update.loop" ⟨[.ref d,.ref I,rawInt (((i:Nat):Int) + 1),.none],[]⟩) _ _;rw [e3];exact ih (i + 1) h2 _ (by omega) (by omega) (kg.same hd sb) hm2 (st.1.at fun o e=>(sb.2 I (Ne.symm ne)).trans e)
theorem call_pairs {z:Shared}{l:Addr}{its:List Value}{ps:List (Key×Value)}{Q:Value→Shared→Prop} (hh:A.handled=none) (hl:PlainL z.heap l its.toArray) (hz:its.length≤sizeLine)
  (len:ps.length=its.length) (nd:(ps.map (·.1)).Nodup) (hp:∀ (i:Nat) (v:Value) (k:Key) (u:Value),its[i]? = some v→ps[i]? = some (k,u)→∃ (t:Addr) (y:Value),v=.ref t∧IsTup z.heap t #[y,u]∧keyIs k y=true)
  (fin:∀ h tk,Kept z.heap h→h.DictOf (mixKind P w) z.heap.objs.size ps→Q (.ref z.heap.objs.size) { z with heap:=h,toks:=tk }) :
  wpAny (model P w) A (call (.type "dict") [.ref l]) Q E z:=by
 refine callType_codes (Q₁:=fun obj s₁=>obj=.ref z.heap.objs.size∧s₁ = { z with heap:=z.heap.push { cls:=.type "dict",data:=.dict #[] } }) F.kt_called_dict (F.kt_typeCall_dict_1 _) F.entry_dict_init (kt_code_dict_new _ ⟨rfl,rfl⟩) ?_;rintro obj s₁ ⟨rfl,rfl⟩;have hnew:(z.heap.push { cls:=.type "dict",data:=.dict #[] }).DictOf (mixKind P w) z.heap.objs.size []:=Heap.DictOf.new z.heap;have k0:Kept z.heap (z.heap.push { cls:=.type "dict",data:=.dict #[] }):=Kept.push _ _;obtain ⟨ol,n,el,cl,dl,sl⟩:=id hl;refine ⟨hnew.typeIs,F.args_dict_init_2 _ _,?_⟩;unfold Builtin.«dict.__init__»;refine wpAny_bind ?_;unfold Builtin.Dict.selfAndRest;refine wpAny_bind (wpAny_notOrdered_dict hnew.typeIs ?_);show wpAny _ _ (pure (z.heap.objs.size,[Value.ref l])) _ _ _;refine wpAny_pure ?_;show wpAny _ _ (Builtin.Dict.updateFrom "dict.__init__" z.heap.objs.size (.ref l) [] .none) _ _ _;unfold Builtin.Dict.updateFrom;have hT:({ z with heap:=z.heap.push { cls:=.type "dict",data:=.dict #[] } }:Shared).TypeIs (.ref l) "list":=⟨ol,k0 _ _ el,cl⟩;refine wpAny_bind (wpAny_typeOf hT ?_);rw [if_pos (by decide)];refine wpAny_bind (no_keys (k0 _ _ el) cl sl dl hh fun h1 tk1 k1=>?_);simp only [Option.isNone_none,if_true];have hl1:h1.IsList l its.toArray:=by
  obtain ⟨o,e,r⟩:=hl.isList;exact ⟨o,k1 _ _ (k0 _ _ e),r⟩
 refine wpAny_bind (wpAny_rule (wpAny_bind (wpAny_pyIter_list hl1 (wpAny_pure ⟨plainId_quiet zD6 _,?_⟩))));have sz1:z.heap.objs.size + 1≤h1.objs.size:=by
  have:=Z9 (k1 _ _ (Za z.heap (o:={ cls:=.type "dict",data:=.dict #[] }) rfl));exact this
 refine pairs_loop (g:=z.heap) (z:=z) (A:=A.in1) hh hl.isList (I:=h1.objs.size) (d:=z.heap.objs.size) (by omega) (Z7 _) (Ze (by omega)) hz len nd hp (fun h tk kk hm=>⟨rfl,fin h tk kk hm⟩) _ 0 _ _ rfl (Zj _) ((k0.trans k1).trans (Kept.push _ _)) ?_ ⟨_,Za _ rfl,rfl,rfl⟩;obtain ⟨o,es,ep,e,r⟩:=hnew;exact ⟨o,es,ep,Z2 _ (k1 _ _ e),r⟩
end
section
variable {X:Cx}
theorem zEd {K:PySem.W.Frag} (hK:X.K=K):CallR X (.type "dict") (fun vs H Q=>∃ (l:Addr) (ts:List Addr) (kvs:List (Key×V)),vs=[.ref l]∧SqL K H l (ts.map V.ref)∧X.calm=true∧(kvs.map (·.1)).Nodup∧kvs.length=ts.length ∧
  (∀ (i:Nat) (t:Addr) (k:Key) (v:V),ts[i]? = some t→kvs[i]? = some (k,v)→H t=some (.tup [kV k,v]))∧∀ p,H p=none→Q (.ref p) (upd H p (.dK kvs))):=by
 subst hK;intro pins s σ H vs us Q I rv h;obtain ⟨l,ts,kvs,rfl,hl,hc,nd,ln,ht,q⟩:=h;obtain ⟨u,rfl,ru⟩:=v1 rv;cases (show u=Value.ref l from ru);obtain ⟨its,rx,pl,hz⟩:=I.list hl;have il:=rx.length;simp only [Z0] at il hz;have one:∀ (i:Nat) (v:Value),its[i]? = some v→∃ (t:Addr) (k:Key) (x:V) (y u:Value),v=.ref t∧kvs[i]? = some (k,x)∧IsTup s.heap t #[y,u]∧keyIs k y=true∧RelV x u:=fun i v e=>by
  have hi:i < its.length:=(List.getElem?_eq_some_iff.mp e).1;obtain ⟨t,et⟩:∃ t,ts[i]? = some t:=⟨_,Z3 (by omega)⟩;obtain ⟨⟨k,x⟩,ek⟩:∃ p,kvs[i]? = some p:=⟨_,Z3 (by omega)⟩;obtain ⟨v',hv',r⟩:=rx.get (i:=i) (x:=.ref t) (by simp [et]);rw [e] at hv';cases hv';cases (show v=Value.ref t from r);obtain ⟨_,is,rr,it⟩:=I.hok t _ (ht i t k x et ek);obtain ⟨y,u,rfl,ry,ru⟩:=v2 rr;refine ⟨t,k,x,y,u,rfl,ek,it,?_,ru⟩;cases k with
  | inl n=>obtain ⟨tk,rfl⟩:=ry;exact keyIs_int n tk
  | inr z=>obtain ⟨tk,rfl⟩:=ry;exact keyIs_str z tk
 obtain ⟨ps,lp,hps⟩:∃ ps:List (Key×Value),ps.length=its.length∧∀ i,i < its.length→∃ (t:Addr) (k:Key) (x:V) (y u:Value),its[i]? = some (.ref t)∧kvs[i]? = some (k,x)∧IsTup s.heap t #[y,u]∧keyIs k y=true∧RelV x u∧ps[i]? = some (k,u):=by
  have:∀ i:Fin its.length,∃ p:Key×Value,∃ (t:Addr) (k:Key) (x:V) (y u:Value),its[i.1]? = some (.ref t)∧kvs[i.1]? = some (k,x)∧IsTup s.heap t #[y,u]∧keyIs k y=true∧RelV x u∧p=(k,u):=fun i=>by
   obtain ⟨v,hv⟩:∃ v,its[i.1]? = some v:=⟨_,Z3 i.2⟩;obtain ⟨t,k,x,y,u,rfl,h2,h3,h4,h5⟩:=one i.1 v hv;exact ⟨(k,u),t,k,x,y,u,hv,h2,h3,h4,h5,rfl⟩
  refine ⟨List.ofFn fun i=>(this i).choose,by simp,fun i hi=>?_⟩;obtain ⟨t,k,x,y,u,a1,a2,a3,a4,a5,a6⟩:=(this ⟨i,hi⟩).choose_spec;exact ⟨t,k,x,y,u,a1,a2,a3,a4,a5,by rw [List.getElem?_ofFn,dif_pos hi,a6]⟩
 have keys:ps.map (·.1)=kvs.map (·.1):=by
  refine List.ext_getElem? fun i=>?_;by_cases hi:i < its.length
  ·obtain ⟨t,k,x,y,u,a1,a2,a3,a4,a5,a6⟩:=hps i hi;simp [a2,a6]
  ·rw [List.getElem?_eq_none (by simp;omega),List.getElem?_eq_none (by simp;omega)]
 have kv:KV kvs ps:=by
  have:∀ (a:List (Key×V)) (b:List (Key×Value)),a.length=b.length→(∀ (i:Nat) (k:Key) (x:V) (k':Key) (u:Value),a[i]? = some (k,x)→b[i]? = some (k',u)→k=k'∧RelV x u)→KV a b:=by
   intro a
   induction a with
   | nil =>
    intro b hb _;cases b with
    | nil=>exact .nil
    | cons _ _=>cases hb
   | cons p t ih =>
    intro b hb hr;cases b with
    | nil=>cases hb
    | cons c d=>exact .cons (hr 0 p.1 p.2 c.1 c.2 rfl rfl) (ih d (by simpa using hb) fun i k x k' u h1 h2=>hr (i + 1) k x k' u (by simpa using h1) (by simpa using h2))
  refine this _ _ (by omega) fun i k x k' u h1 h2=>?_;obtain ⟨t,k2,x2,y,u2,a1,a2,a3,a4,a5,a6⟩:=hps i (by rw [← lp];exact (List.getElem?_eq_some_iff.mp h2).1);rw [h1] at a2;cases a2;rw [h2] at a6;cases a6;exact ⟨rfl,a5⟩
 have fr:H s.heap.objs.size=none:=I.hok.fresh (Z7 _);refine call_pairs (P:=X.prog) (w:=X.w) (ps:=ps) (I.ok.hd hc) pl (by omega) lp (by rw [keys];exact nd) (fun i v k u hv hk=>?_) fun h tk kk hm=>?_
 ·obtain ⟨t,k2,x2,y,u2,a1,a2,a3,a4,a5,a6⟩:=hps i (List.getElem?_eq_some_iff.mp hv).1;rw [hv] at a1;cases a1;rw [hk] at a6;cases a6;exact ⟨t,y,rfl,a3,a4⟩
 ·refine ⟨.ref s.heap.objs.size,_,I.laid (t':=tk) (a:=s.heap.objs.size) (o:=.dK kvs) kk (Z7 _) ⟨by omega,?_,ps,kv,hm⟩,rfl,q _ fr⟩;have:=I.big;exact beq_false_of_ne (Yd this)
end
end L2
namespace L2
open PySem PySem.Spec PyProof.Rows
section
variable {X:Cx}
theorem call_isinstK {K:PySem.W.Frag} (hK:X.K=K):CallR X (.builtin "isinstance") (fun xs H Q=>∃ x c t cv b,xs=[x,c]∧TyOf K H x t∧RelV c cv∧PySem.W.kitOne K t cv=some b∧Q (.bl b) H):=by
 subst hK;exact zAo
end
structure FunL (K:PySem.W.Frag) (x qual:Str) (st:Stmt) (f:Addr) (fd:FuncData) (c:Addr):Prop where
 ex:∃ (oc:Value) (od:Option Addr) (kV doc pm:Value) (an:Option Addr) (ct:Value) (osl:Array (Option Value)),
  fd=PySem.W.fnOf x qual (defArgs st) (defBody st) (defScope st) .none kV doc pm an (.ref c) ct∧K.lookup f=some ⟨oc,od,.func fd,osl⟩∧PySem.W.codeIn K (.ref c) qual=true
 kp:PySem.W.keepIn K (.ref f)=true
theorem FunL.fn {K:PySem.W.Frag}{x qual:Str}{st:Stmt}{f c:Addr}{fd:FuncData} (F:FunL K x qual st f fd c):Fun K x qual st f fd:=by
 obtain ⟨oc,od,kV,doc,pm,an,ct,osl,e,lk,hcd⟩:=F.ex;exact ⟨⟨oc,od,kV,doc,pm,an,.ref c,ct,osl,e,lk,hcd⟩,F.kp⟩
theorem FunL.okC {P:Program}{w:World}{K:PySem.W.Frag}{mg:Str→Option Value}{base:Heap}{CX:CXT}{x qual:Str}{st:Stmt}{f c:Addr}{fd:FuncData}{N ps:List Str}{k:Nat}{sp:Sp} (F:FunL K x qual st f fd c) (S:FnScope N ps (defScope st)) (len:∀ vs H Q E,sp vs H Q E→vs.length=ps.length)
  (hbody:∀ (A:Around) (outer:List Env) (s:Shared) (H:Hp) (vs:List V) (Q:VK) (E:XK),Room k (A.deeper (envOfC qual (defScope st) s.heap.objs.size f (.ref c)))→sp vs H Q E →
   ∃ t,PSs (cxOf CX P w K mg base N qual (defScope st) f (.ref c) A outer s H E).nox (defBody st) t∧t { nx:=fun _ H'=>Q .non H',rt:=Q } (start N vs) H):FnOk P w K mg base CX (k + 1) f fd ps sp:=by
 obtain ⟨oc,od,kV,doc,pm,an,ct,osl,rfl,lk,hcd⟩:=F.ex;refine fn_of lk hcd S len fun A outer s H vs Q E hr hsp=>?_;obtain ⟨t,h,q⟩:=hbody A outer s H vs Q E hr hsp;exact ⟨t,h.nox,q⟩
end L2
namespace L2
open PySem PySem.Spec PyProof.Rows
end L2
namespace L2
open PySem PySem.Spec PyProof.Rows
section
variable {X:Cx}
end
end L2
namespace L2
open PySem PySem.Spec PyProof.Rows
noncomputable abbrev OKey:=Option Str
noncomputable def okIs:OKey→Value→Bool
 | none,.none=>true
 | none,_=>false
 | some x,v=>Value.isStrOf x v
noncomputable def okH (w:World):OKey→Int
 | none=>0xFCA86420
 | some x=>hashStr w x
theorem zBe:∀ {k:OKey}{v:Value},okIs k v=true→(k=none∧v=Value.none)∨(∃ x t,k=some x∧v=Value.str x t)
 | none,v,h=>by
  cases v <;> first | exact .inl ⟨rfl,rfl⟩ | exact nomatch h
 | some x,v,h=>by
  obtain ⟨t,e⟩:=Value.isStrOf_shape (x:=x) (v:=v) h;exact .inr ⟨x,t,rfl,e⟩
theorem zDd {prog:Program}{w:World}{A:Around}{E:Value→Shared→Prop}{s:Shared}{Q:Int→Shared→Prop} (h:Q 0xFCA86420 { s with toks:=s.toks + 1 }) :
  wpAny (model prog w) A (pyHash .none) Q E s:=by
 have hT:s.TypeIs .none "NoneType":=rfl;have hv:[Value.none].any Value.onHeap=false:=rfl;show wpAny _ _ (pyHashByItsType .none) Q E s;unfold pyHashByItsType;refine wpAny_bind ?_;rw [cRoomFor,if_neg (by rw [hv];exact Zc)];refine wpAny_pure ?_;refine wpAny_bind (wpAny_specialOf hT F.slot_NoneType_hash.lookup ?_);show wpAny _ _ (if (some (Value.builtin "NoneType.__hash__") == some Value.none)=true then _ else _) Q E s;rw [if_neg (by rw [beq_builtin_none];exact Zc)];refine wpAny_bind (wpAny_specialOf hT F.slot_NoneType_hash.lookup ?_);show wpAny _ _ (callSpecialIfBoundUnlessNone? .none "__hash__" _ >>= _) Q E s
 refine wpAny_bind (wpAny_callSpecialIfBoundUnlessNone?_slot hT F.slot_NoneType_hash
  (wpAny_call_entry F.slot_NoneType_hash hT F.entry_NoneType_hash
   (show wpAny _ _ (do ret (← mkInt 0xFCA86420)) _ _ s from wpAny_ret_mkInt ?_) (F.args_NoneType_hash_1 _)))
 exact wpAny_pure h
noncomputable def optKind (prog:Program) (w:World):PySem.KeyKind prog w OKey where
 is:=okIs
 hash:=okH w
 inj:=fun v a b ha hb=>by
  rcases zBe ha with ⟨rfl,rfl⟩ | ⟨x,t,rfl,rfl⟩
  ·rcases zBe hb with ⟨rfl,e⟩ | ⟨y,u,rfl,e⟩
   ·rfl
   ·exact nomatch e
  ·rcases zBe hb with ⟨rfl,e⟩ | ⟨y,u,rfl,e⟩
   ·exact nomatch e
   ·injection e with e1 _;rw [e1]
 byValue:=fun k v h=>by
  rcases zBe h with ⟨rfl,rfl⟩ | ⟨x,t,rfl,rfl⟩ <;> rfl
 pyHash:=fun hv h=>by
  rcases zBe hv with ⟨rfl,rfl⟩ | ⟨x,t,rfl,rfl⟩
  ·exact zDd h
  ·exact wpAny_pyHash_str h
 eqBool:=fun hu hv h=>by
  rcases zBe hu with ⟨rfl,rfl⟩ | ⟨x,t,rfl,rfl⟩
  ·rcases zBe hv with ⟨rfl,rfl⟩ | ⟨y,u,rfl,rfl⟩
   ·rw [decide_eq_true rfl] at h;unfold eqBool;rw [if_pos (by rfl)];exact wpAny_bind (wpAny_rule (wpAny_pure h))
   ·rw [decide_eq_false (fun q=>nomatch q)] at h;exact SeqAt.EqAt.none_str y u _ _ _ _ h
  ·rcases zBe hv with ⟨rfl,rfl⟩ | ⟨y,u,rfl,rfl⟩
   ·rw [decide_eq_false (fun q=>nomatch q)] at h;exact SeqAt.EqAt.str_none x t _ _ _ _ h
   ·have e:decide ((some x:OKey)=some y)=decide (x=y):=by
     by_cases e:x=y
     ·subst e;simp
     ·rw [decide_eq_false e,decide_eq_false (fun q=>e (Zf q))]
    rw [e] at h;exact wpAny_eqBool_str h
 «strs»:=fun k x t v h=>by
  rcases zBe h with ⟨rfl,e⟩ | ⟨y,u,rfl,e⟩
  ·exact nomatch e
  ·injection e with e1 _;subst e1;cases v <;> rfl
noncomputable def DO (P:Program) (w:World) (a:Addr) (kvs:List (OKey×V)):HO:=.ext fun h=>kvs.length≤sizeLine∧(a == sysModules)=false∧∃ vs,KV kvs vs∧h.DictOf (optKind P w) a vs
section
variable {P:Program}{w:World}{H:Hp}{h:Heap}{a:Addr}{kvs:List (OKey×V)}
end
section
variable {X:Cx}{o i e value:Expr}{pos pos' tpos:Pos}{td ty tv tk:TE}
end
end L2
namespace L2
open PySem PySem.Spec PyProof.Rows
end L2
namespace L2
open PySem PySem.Spec PyProof.Rows
noncomputable def P2 (e:Addr) (h:Heap):Prop:=∃ o vs,h.get? e=some o∧o.data=.fields vs∧vs[2]? = some Value.none
section
variable {e:Addr}{α β : Type}
end
end L2
namespace L2.W
open PySem PySem.Spec PyProof.Rows
@[irreducible] noncomputable def PE (X:Cx) (e:Expr) (t:TE):Prop:=L2.PE X e t
theorem ePE : @L2.PE = @PE:=by unfold PE;rfl
@[irreducible] noncomputable def PT (X:Cx) (e:Expr) (t:TT):Prop:=L2.PT X e t
theorem ePT : @L2.PT = @PT:=by unfold PT;rfl
@[irreducible] noncomputable def PW (X:Cx) (e:Expr) (t:TT):Prop:=L2.PW X e t
theorem ePW : @L2.PW = @PW:=by unfold PW;rfl
@[irreducible] noncomputable def PA (X:Cx) (es:List Expr) (t:TA):Prop:=L2.PA X es t
theorem ePA : @L2.PA = @PA:=by unfold PA;rfl
@[irreducible] noncomputable def PS (X:Cx) (st:Stmt) (t:TS):Prop:=L2.PS X st t
theorem ePS : @L2.PS = @PS:=by unfold PS;rfl
@[irreducible] noncomputable def PSs (X:Cx) (st:List Stmt) (t:TS):Prop:=L2.PSs X st t
theorem ePSs : @L2.PSs = @PSs:=by unfold PSs;rfl
@[irreducible] noncomputable def PG (X:Cx) (g:Expr) (t:TG):Prop:=L2.PG X g t
theorem ePG : @L2.PG = @PG:=by unfold PG;rfl
@[irreducible] noncomputable def PGs (X:Cx) (ts:List Expr) (t:TGs):Prop:=L2.PGs X ts t
theorem ePGs : @L2.PGs = @PGs:=by unfold PGs;rfl
@[irreducible] noncomputable def PI (X:Cx) (tg iter:Expr) (wi:TI):Prop:=L2.PI X tg iter wi
theorem ePI : @L2.PI = @PI:=by unfold PI;rfl
@[irreducible] noncomputable def PFs (X:Cx) (ifs:List Expr) (t:TT):Prop:=L2.PFs X ifs t
theorem ePFs : @L2.PFs = @PFs:=by unfold PFs;rfl
noncomputable def zAn:=by have h:=@L2.zAn;rw [ePS,ePSs,ePT] at h;exact @h
noncomputable def zAw:=by have h:=@L2.zAw;rw [ePE] at h;exact @h
noncomputable def zAt:=by have h:=@L2.zAt;rw [ePE,ePT] at h;exact @h
noncomputable def zD5:=by have h:=@L2.zD5;rw [ePE,ePS,ePG] at h;exact @h
noncomputable def zAs:=by have h:=@L2.zAs;rw [ePE,ePA] at h;exact @h
noncomputable def zAh:=by have h:=@L2.zAh;rw [ePE,ePA] at h;exact @h
noncomputable def zA9:=by have h:=@L2.zA9;rw [ePE,ePS] at h;exact @h
noncomputable def fn_of:=by have h:=@L2.fn_of;rw [ePSs] at h;exact @h
noncomputable def zBl:=by have h:=@L2.zBl;rw [ePE,ePA] at h;exact @h
noncomputable def zAf:=by have h:=@L2.zAf;rw [ePE] at h;exact @h
noncomputable def pe_un:=by have h:=@L2.pe_un;rw [ePE] at h;exact @h
noncomputable def zEi:=by have h:=@L2.zEi;rw [ePE,ePA] at h;exact @h
noncomputable def zBg:=by have h:=@L2.zBg;rw [ePT,ePW] at h;exact @h
noncomputable def zCf:=by have h:=@L2.zCf;rw [ePE] at h;exact @h
noncomputable def zAv:=by have h:=@L2.zAv;rw [ePE] at h;exact @h
noncomputable def pv:=by have h:=@L2.pv;rw [ePE] at h;exact @h
noncomputable def zBf:=by have h:=@L2.zBf;rw [ePE,ePS] at h;exact @h
noncomputable def zA5:=by have h:=@L2.zA5;rw [ePS,ePSs] at h;exact @h
noncomputable def zBp:=by have h:=@L2.zBp;rw [ePE] at h;exact @h
noncomputable def zB2:=by have h:=@L2.zB2;rw [ePGs] at h;exact @h
noncomputable def zC6:=by have h:=@L2.zC6;rw [ePG,ePGs] at h;exact @h
noncomputable def zA3:=by have h:=@L2.zA3;rw [ePS,ePSs] at h;exact @h
noncomputable def bin:=by have h:=@L2.bin;rw [ePE] at h;exact @h
noncomputable def zCb:=by have h:=@L2.zCb;rw [ePE,ePT] at h;exact @h
noncomputable def zC3:=by have h:=@L2.zC3;rw [ePE] at h;exact @h
noncomputable def zAp:=by have h:=@L2.zAp;rw [ePSs] at h;exact @h
noncomputable def zBv:=by have h:=@L2.zBv;rw [ePE] at h;exact @h
noncomputable def zAe:=by have h:=@L2.zAe;rw [ePG,ePGs] at h;exact @h
noncomputable def zF1:=by have h:=@L2.zF1;rw [ePS,ePSs,ePT] at h;exact @h
noncomputable def pe_var:=by have h:=@L2.pe_var;rw [ePE] at h;exact @h
noncomputable def zA8:=by have h:=@L2.zA8;rw [ePG] at h;exact @h
noncomputable def zC5:=by have h:=@L2.zC5;rw [ePA,ePI] at h;exact @h
noncomputable def zF0:=by have h:=@L2.zF0;rw [ePE,ePT] at h;exact @h
noncomputable def pe_or:=by have h:=@L2.pe_or;rw [ePE] at h;exact @h
noncomputable def zBt:=by have h:=@L2.zBt;rw [ePS,ePSs,ePG,ePI] at h;exact @h
noncomputable def zAg:=by have h:=@L2.zAg;rw [ePE,ePT] at h;exact @h
noncomputable def zA6:=by have h:=@L2.zA6;rw [ePE,ePA] at h;exact @h
noncomputable def zBn:=by have h:=@L2.zBn;rw [ePE] at h;exact @h
noncomputable def zE2:=by have h:=@L2.zE2;rw [ePE] at h;exact @h
noncomputable def zB9:=by have h:=@L2.zB9;rw [ePT,ePW] at h;exact @h
noncomputable def zBc:=by have h:=@L2.zBc;rw [ePE,ePA] at h;exact @h
noncomputable def zCe:=by have h:=@L2.zCe;rw [ePE] at h;exact @h
noncomputable def binT:=by have h:=@L2.binT;rw [ePE] at h;exact @h
noncomputable def zAq:=by have h:=@L2.zAq;rw [ePE] at h;exact @h
noncomputable def zAb:=by have h:=@L2.zAb;rw [ePSs] at h;exact @h
noncomputable def PW.pt:=by have h:=@L2.PW.pt;rw [ePT,ePW] at h;exact @h
noncomputable def zC2:=by have h:=@L2.zC2;rw [ePE,ePA] at h;exact @h
noncomputable def zBx:=by have h:=@L2.zBx;rw [ePT,ePW] at h;exact @h
noncomputable def zB6:=by have h:=@L2.zB6;rw [ePT] at h;exact @h
noncomputable def zCa:=by have h:=@L2.zCa;rw [ePE] at h;exact @h
noncomputable def zF4:=by have h:=@L2.zF4;rw [ePE] at h;exact @h
noncomputable def zA2:=by have h:=@L2.zA2;rw [ePA] at h;exact @h
noncomputable def zA4:=by have h:=@L2.zA4;rw [ePE] at h;exact @h
noncomputable def zAk:=by have h:=@L2.zAk;rw [ePE,ePI] at h;exact @h
noncomputable def PT.nox:=by have h:=@L2.PT.nox;rw [ePT] at h;exact @h
noncomputable def zAl:=by have h:=@L2.zAl;rw [ePE] at h;exact @h
noncomputable def zAi:=by have h:=@L2.zAi;rw [ePE,ePS] at h;exact @h
noncomputable def zC7:=by have h:=@L2.zC7;rw [ePE] at h;exact @h
noncomputable def zCy:=by have h:=@L2.zCy;rw [ePE] at h;exact @h
noncomputable def Fun.ok:=by have h:=@L2.Fun.ok;rw [ePSs] at h;exact @h
noncomputable def zAz:=by have h:=@L2.zAz;rw [ePT] at h;exact @h
noncomputable def pe_not:=by have h:=@L2.pe_not;rw [ePE] at h;exact @h
noncomputable def pg_sub:=by have h:=@L2.pg_sub;rw [ePE,ePG] at h;exact @h
noncomputable def zBd:=by have h:=@L2.zBd;rw [ePE] at h;exact @h
noncomputable def zAm:=by have h:=@L2.zAm;rw [ePE,ePA] at h;exact @h
noncomputable def PSs.nox:=by have h:=@L2.PSs.nox;rw [ePSs] at h;exact @h
noncomputable def zA0:=by have h:=@L2.zA0;rw [ePE,ePA] at h;exact @h
noncomputable def PE.nox:=by have h:=@L2.PE.nox;rw [ePE] at h;exact @h
noncomputable def zBj:=by have h:=@L2.zBj;rw [ePE,ePS] at h;exact @h
noncomputable def zBi:=by have h:=@L2.zBi;rw [ePT,ePW] at h;exact @h
noncomputable def pc_din:=by have h:=@L2.pc_din;rw [ePE] at h;exact @h
noncomputable def zF3:=by have h:=@L2.zF3;rw [ePE] at h;exact @h
noncomputable def zF2:=by have h:=@L2.zF2;rw [ePE] at h;exact @h
noncomputable def zD8:=by have h:=@L2.zD8;rw [ePE] at h;exact @h
noncomputable def ps_dput:=by have h:=@L2.ps_dput;rw [ePE,ePS] at h;exact @h
noncomputable def pe_dget:=by have h:=@L2.pe_dget;rw [ePE] at h;exact @h
noncomputable def zDt:=by have h:=@L2.zDt;rw [ePE,ePG,ePFs] at h;exact @h
noncomputable def zAy:=by have h:=@L2.zAy;rw [ePE,ePS,ePG,ePI,ePFs] at h;exact @h
noncomputable def zB0:=by have h:=@L2.zB0;rw [ePE,ePG,ePI,ePFs] at h;exact @h
noncomputable def zDl:=by have h:=@L2.zDl;rw [ePT,ePFs] at h;exact @h
noncomputable def zB7:=by have h:=@L2.zB7;rw [ePFs] at h;exact @h
noncomputable def pi_str:=by have h:=@L2.pi_str;rw [ePE,ePI] at h;exact @h
noncomputable def Fun.okC:=by have h:=@L2.Fun.okC;rw [ePSs] at h;exact @h
noncomputable def zBu:=by have h:=@L2.zBu;rw [ePG,ePGs] at h;exact @h
noncomputable def zCz:=by have h:=@L2.zCz;rw [ePE] at h;exact @h
noncomputable def zDw:=by have h:=@L2.zDw;rw [ePE,ePA] at h;exact @h
noncomputable def pi_enum:=by have h:=@L2.pi_enum;rw [ePA,ePI] at h;exact @h
noncomputable def FunL.okC:=by have h:=@L2.FunL.okC;rw [ePSs] at h;exact @h
end L2.W
namespace L2
open PySem PySem.Spec PyProof.Rows
noncomputable def XO (C a:Addr):HO:=.ext fun h=>∃ o vs,h.get? a=some o∧o.cls=.ref C∧o.data=.fields vs∧vs[2]? = some Value.none
section
variable {P:Program}{w:World}{H:Hp}{h:Heap}{a C:Addr}{o:HO}
theorem ObjOk.ex (x:ObjOk P w H h a o):∃ ob,h.get? a=some ob:=by
 cases o with
 | lst xs=>obtain ⟨_,_,_,_,e⟩:=x;exact ⟨_,e⟩
 | tup xs=>obtain ⟨_,_,_,ob,e,_⟩:=x;exact ⟨_,e⟩
 | dK kvs=>obtain ⟨_,_,_,_,o,_,_,e,_⟩:=x;exact ⟨_,e⟩
 | dT kvs=>obtain ⟨_,_,_,_,o,_,_,e,_⟩:=x;exact ⟨_,e⟩
 | set S n=>obtain ⟨o,_,_,_,e,_⟩:=x;exact ⟨_,e⟩
 | ins C dx fs=>obtain ⟨_,_,_,e,_⟩:=x;exact ⟨_,e⟩
 | own y=>exact x
 | xd fs=>obtain ⟨_,⟨_,_,_,e,_⟩,_⟩:=x;exact ⟨_,e⟩
 | rng lo hi=>obtain ⟨_,_,_,e⟩:=x;exact ⟨_,e⟩
 | frz ob u=>exact ⟨_,x.1⟩
 | tbl ps=>exact ⟨_,x⟩
 | met f y=>exact ⟨_,x⟩
 | ext φ=>exact x.2.1
end
noncomputable def Tr (G:Addr→Prop) (H:Hp) (h:Heap) (e:Addr):Prop:=∃ o vs a0 T oT ts,h.get? e=some o∧o.data=.fields vs∧vs[0]? = some a0∧vs[1]? = some (.ref T)∧G T∧H T=none∧h.get? T=some oT∧oT.data=.fields ts∧ts[3]? = some .none
noncomputable def CXM (P:Program) (w:World):CXT:=fun outer H s E u s'=>∃ e C H',u=.ref e∧s'.os=s.os∧AllBare s'.gens∧Un (frs outer) [] H H' s.heap s'.heap∧HOk P w H' s'.heap∧H' e=some (XO C e)∧Tr (fun T=>s.heap.get? T=none) H' s'.heap e∧E (.ref C) (some e) H'
theorem calmM {P:Program}{w:World}:Calm (CXM P w):=fun _ _ _ _ _ ⟨_,_,_,_,_,_,_,_,_,_,q⟩=>q
structure Mvd (l:List Env) (e T0:Addr) (cls a0 fl:Value) (h h':Heap):Prop where
 keep:∀ b o,h.get? b=some o→b≠e→b≠T0→b∉frs l→h'.get? b=some o
 slot:∀ b o,h.get? b=some o→b∈frs l→∃ sl,h'.get? b=some { o with slots:=sl }
 tr:∃ oe vs T oT ts,h'.get? e=some oe∧oe.cls=cls∧vs[0]? = some a0∧oe.data=.fields vs∧vs[1]? = some (.ref T)∧(T=T0∨h.get? T=none)∧T≠e∧h'.get? T=some oT∧oT.data=.fields ts∧ts[3]? = some fl
 p2:P2 e h'
noncomputable abbrev bas (h:Heap) (l:List Env) (e T0:Addr):Heap:=PySem.W.hideAll h (e :: T0 :: frs l)
section
variable {base h h':Heap}{l:List Env}{e T0:Addr}{cls a0 fl:Value}
end
section
variable {X:Cx}{pins:List (Addr×Obj)}{σ : St}{H:Hp}{s:Shared}{e C T0:Addr}{h':Heap}{cls a0 fl:Value}
theorem Mvd.ex (m:Mvd X.stack e T0 cls a0 fl s.heap h') (b:Addr) (o:Obj) (q:s.heap.get? b=some o) (h2:b≠T0):∃ o',h'.get? b=some o':=by
 obtain ⟨oe,_,_,_,_,he,_⟩:=m.tr;by_cases h1:b=e
 ·rw [h1];exact ⟨oe,he⟩
 ·by_cases h3:b∈frs X.stack
  ·obtain ⟨sl,z⟩:=m.slot b o q h3;exact ⟨_,z⟩
  ·exact ⟨o,m.keep b o q h1 h2 h3⟩
end
end L2
namespace L2
open PySem PySem.Spec PyProof.Rows
section
variable {X:Cx}{pins:List (Addr×Obj)}{σ : St}{H H':Hp}{s:Shared}{e C:Addr}{h h':Heap}{o:HO}
end
section
variable {P:Program}{w:World}{K:PySem.W.Frag}{mg:Str→Option Value}{base:Heap}{N:List Str}{qual:Str}{scope:Scope}{f:Addr}{cd:Value}{A:Around}{outer:List Env}{s:Shared}{H:Hp}{E:XK}
end
section
variable {X:Cx}{x:Str}{np cpos pos:Pos}{a:Expr}{as:List Expr}{t:TA}{C:Addr}{W:St→Addr→Hp→Prop}
end
end L2
namespace L2
open PySem PySem.Spec PyProof.Rows
noncomputable abbrev TW:=St→Addr→Addr→Hp→Prop
section
variable {X:Cx}{pins pins':List (Addr×Obj)}{σ : St}{H:Hp}{s:Shared}{W:TW}{e:Addr}
end
noncomputable def Ends.but (D:Ends) (i:Nat):Ends:={ nx:=fun σ H=>D.nx (σ.set i none) H,rt:=D.rt,bk:=fun σ H=>D.bk (σ.set i none) H,ct:=fun σ H=>D.ct (σ.set i none) H }
section
variable {X:Cx}{x n:Str}{np hpos pos:Pos}{body suite:List Stmt}{b₀ : Stmt}{i:Nat}{B:Addr}{tb:TW→TS}{th:Addr→TS}
end
end L2
namespace L2
open PySem PySem.Spec PyProof.Rows PySem.W
section
variable {prog:Program}{w:World}{A:Around}{E:Value→Shared→Prop}{h:Heap}{g:Array GenState}{d:Drawn}{t:Nat}{os:OsState}{a:Addr}{o:Obj}
 {nm q:Str}{C N:Addr}{bs bm:List Value}{hdct:Bool}{sn:List Str}{sub:List Value}{ab:Bool}{col:Option Bool}{dd:Option Addr}{k0 k1 k2 k3 k5:Option Value}{newId:String}
end
section
variable {prog:Program}{w:World}{A:Around}{E:Value→Shared→Prop}{s:Shared}{K:Frag}{x C D:Addr}{ox:Obj}
end
section
variable {X:Cx}
end
end L2
namespace L2
open PySem PySem.Spec PyProof.Rows
namespace W
end W
end L2
namespace L2
open PySem PySem.Spec PyProof.Rows
noncomputable def Cx.re (X:Cx) (N':List Str):Cx:={ X with N:=N' }
noncomputable def hide:List Nat→St→St
 | [],σ=>σ
 | i :: is,σ=>hide is (σ.set i none)
theorem zFc:∀ (is:List Nat) (σ : St),(hide is σ).length = σ.length
 | [],_=>rfl
 | i :: is,σ=>by rw [hide,zFc is,List.length_set]
theorem zFd:∀ (is:List Nat) (σ : St) (i:Nat) (v:V),(hide is σ)[i]? = some (some v)→i∉is∧σ[i]? = some (some v)
 | [],_,_,_,h=>⟨by simp,h⟩
 | j :: is,σ,i,v,h=>by
  obtain ⟨h1,h2⟩:=zFd is _ i v h;have ne:j≠i:=by
   rintro rfl;rw [List.getElem?_set] at h2;simp only [if_true] at h2;split at h2 <;> cases h2
  rw [List.getElem?_set_ne ne] at h2;exact ⟨by simp [h1,Ne.symm ne],h2⟩
noncomputable def Ends.hid (D:Ends) (is:List Nat):Ends:={ nx:=fun σ H=>D.nx (hide is σ) H,rt:=D.rt,bk:=fun σ H=>D.bk (hide is σ) H,ct:=fun σ H=>D.ct (hide is σ) H }
noncomputable def sameN (N N':List Str) (is:List Nat):Prop:=N'.length=N.length∧∀ i,i < N.length→i∉is→N'[i]? = N[i]?
section
variable {X:Cx}{pins:List (Addr×Obj)}{σ : St}{H:Hp}{s:Shared}{N':List Str}{is:List Nat}{st:Stmt}{t:TS}
theorem Inv.re (h:sameN X.N N' is) (I:Inv X pins σ H s):Inv (X.re N') pins (hide is σ) H s :=
 ⟨⟨I.ok.mod,I.ok.kind,I.ok.glob,I.ok.blt,I.ok.above,I.ok.inj,I.ok.has,I.ok.cab,I.ok.hd,I.ok.frames,I.ok.stk,I.ok.exf,I.ok.bs,I.ok.bsz,I.ok.noex,I.ok.exfs,I.ok.funs,I.ok.frf⟩,I.os,I.bare,I.base,by
  obtain ⟨m,hn,hl⟩:=I.loc;refine ⟨m,hn,fun i x v e1 e2 e3=>?_⟩;obtain ⟨n,e2⟩:=zFd is σ i v e2;have il:i < X.N.length:=by rw [← h.1];exact (List.getElem?_eq_some_iff.mp e1).1
  exact hl i x v ((h.2 i il n).symm.trans e1) e2 e3,I.cell,I.free,I.freeC,I.pin,I.hok,by rw [zFc,I.len];exact h.1.symm⟩
theorem Inv.unre (ok:X.Ok) (h:sameN X.N N' is) (I:Inv (X.re N') pins σ H s):Inv X pins (hide is σ) H s :=
 ⟨ok,I.os,I.bare,I.base,by
  obtain ⟨m,hn,hl⟩:=I.loc;refine ⟨m,hn,fun i x v e1 e2 e3=>?_⟩;obtain ⟨n,e2⟩:=zFd is σ i v e2;have il:i < X.N.length:=(List.getElem?_eq_some_iff.mp e1).1
  exact hl i x v ((h.2 i il n).trans e1) e2 e3,I.cell,I.free,I.freeC,I.pin,I.hok,by rw [zFc,I.len];exact h.1⟩
theorem ps_re (N':List Str) (is:List Nat) (h:sameN X.N N' is) (hs:PS (X.re N') st t):PS X st (fun D σ H=>t (D.hid is) (hide is σ) H):=by
 intro pins s σ H D I hw;refine wpAny_mono (hs pins s (hide is σ) H (D.hid is) (I.re h) hw) (fun f s1 h1=>?_) (fun _ _ e=>e);cases f with
 | next=>obtain ⟨σ',H',J,q⟩:=h1;exact ⟨_,_,J.unre I.ok h,q⟩
 | brk=>obtain ⟨σ',H',J,q⟩:=h1;exact ⟨_,_,J.unre I.ok h,q⟩
 | cont=>obtain ⟨σ',H',J,q⟩:=h1;exact ⟨_,_,J.unre I.ok h,q⟩
 | ret u=>obtain ⟨v,σ',H',J,r,q⟩:=h1;exact ⟨v,_,_,J.unre I.ok h,r,q⟩
end
theorem FnOk.calm {P:Program}{w:World}{K:PySem.W.Frag}{mg:Str→Option Value}{base:Heap}{CX:CXT}{k:Nat}{f:Addr}{fd:FuncData}{ps:List Str}{sp:Sp} (hC:Calm CX) (F:FnOk P w K mg base CX k f fd ps sp):FnOk P w K mg base CX0 k f fd ps (fun vs H Q E=>sp vs H Q fun _ _ _=>False) :=
 ⟨fun vs H Q E h=>F.len vs H Q _ h,fun A outer s H args us vs Q E hr he hb hv h=>by
  have:=F.run A outer s H args us vs Q (fun _ _ _=>False) hr he hb hv h;refine codeAny_mono this fun r s' h'=>?_;cases r with
  | ok c =>
   cases c with
   | ret u=>exact h'
   | _=>exact h'
  | error e=>exact hC _ _ _ _ _ h'⟩
namespace W
noncomputable def ps_re:=by have h:=@L2.ps_re;rw [ePS] at h;exact @h
end W
end L2
namespace L2
open PySem PySem.Spec PyProof.Rows
structure TabM (H:Hp) (P:Addr) (q:Str):Prop where
 ex:∃ ps:Array Value,H P=some (.tbl ps)∧TriplesOk ps.toList∧∀ (pos:Pos) (v:Value),codeAmong pos ps.toList=some v→∃ a,v=.ref a∧H a=some (CodeO a q)
theorem TabM.ne {H:Hp}{P:Addr}{q:Str} (T:TabM H P q) {a:Addr}{o:HO} (e:H a=some o) (h:∀ ps,o≠.tbl ps):a≠P:=by
 rintro rfl;obtain ⟨ps,z,_⟩:=T.ex;rw [e] at z;exact h _ (Zf z)
theorem TabM.but {H H':Hp}{P P':Addr}{q:Str} (T:TabM H P q) (hn:P≠P') (h':∃ ps,H P'=some (.tbl ps)) (k:GrownBut P' H H'):TabM H' P q:=by
 obtain ⟨ps,z,t,c⟩:=T.ex;refine ⟨ps,k _ _ z hn,t,fun pos v e=>?_⟩;obtain ⟨a,e1,e2⟩:=c pos v e;refine ⟨a,e1,k _ _ e2 ?_⟩;rintro rfl;obtain ⟨ps',h'⟩:=h';rw [e2] at h';cases h'
theorem TabM.upd {H:Hp}{P:Addr}{q:Str}{p:Addr}{u o:HO} (T:TabM H P q) (hp:H p=some u) (h1:∀ ps,u≠.tbl ps) (h2:∀ f,u≠.ext f):TabM (L2.upd H p o) P q:=by
 have n1:=T.ne hp h1;obtain ⟨ps,z,t,c⟩:=T.ex;refine ⟨ps,by rw [zAa (Ne.symm n1)];exact z,t,fun pos v e=>?_⟩;obtain ⟨a,e1,e2⟩:=c pos v e;refine ⟨a,e1,?_⟩;rw [zAa ?_]
 ·exact e2
 ·rintro rfl;rw [hp] at e2;exact h2 _ (Zf e2)
section
variable {f c':Addr}{q:Str}{params:Arguments}{body:Expr}{scope:Scope}{cl:List (Str×Addr)}{N:List Str}{ws:List V}{h h':Heap}{H:Hp}
end
section
variable {CX:CXT}{P:Program}{w:World}{K:PySem.W.Frag}{mg:Str→Option Value}{base:Heap}{k:Nat}{f c':Addr}{q:Str}{params:Arguments}{body:Expr}{scope:Scope}{cl:List (Str×Addr)}{N:List Str}{ws:List V}
end
section
variable {X:Cx}{CX:CXT}{k:Nat}{f c':Addr}{q x:Str}{params:Arguments}{body:Expr}{scope:Scope}{cl:List (Str×Addr)}{N:List Str}{ws:List V}{sp:Hp→VK→XK→Prop}{E:St→XK}{i:Nat}{p pos:Pos}
end
section
variable {X:Cx}{pins:List (Addr×Obj)}{σ : St}{H:Hp}{s:Shared}{A:Around}{E:Value→Shared→Prop}
end
section
variable {X:Cx}{CX:CXT}{k:Nat}{fw c P:Addr}{fd:FuncData}{q x y:Str}{params:Arguments}{body:Expr}{scope:Scope}{N:List Str}{ix:List Nat}{sp:Addr→Addr→List (Str×Addr)→List V→Sp}{E:St→XK}{p lpos pos:Pos}
end
namespace W
end W
end L2
namespace PySem.SeqAt
open AutoSeq1 (wpAny_loadPart')
open MeetsSeq
section
variable {A:Around}{s:Shared}
end
end PySem.SeqAt
namespace L2
open PySem PySem.Spec PyProof.Rows
section
variable {X:Cx}{pins:List (Addr×Obj)}{σ : St}{H:Hp}{s:Shared}
end
end L2
namespace L2
open PySem PySem.Spec PyProof.Rows
noncomputable def OnlyTs (ts:List Addr) (H:Hp):Prop:=(∀ T∈ts,H T=some (.tbl #[]))∧∀ b,b∉ts→H b=none∨∃ o xs,H b=some (.frz o (.lst xs))
theorem law_callTs {P:Program}{w:World}{K:PySem.W.Frag}{mg mb:Str→Option Value}{CX:CXT}{k:Nat}{fa a:Addr}{ts:List Addr}{fd:FuncData}{x:Str}{sp:Sp}{s₁ : Shared}{vs:List Value}{ns:List Int}
  (KX:K.In s₁.heap) (hns:s₁.heap.Ns mainGlobals mg) (hb:s₁.heap.Ns builtinsNs mb) (hbb:∀ x:Str,x≠"__name__"→mb x=bootBuiltins x) (hlim:s₁.heap.NoLimit) (hg:s₁.gens = #[]) (hBl:BltAt mg s₁.heap) (hT:∀ T∈ts,s₁.heap.get? T=some (PySem.W.tabObj #[])) (hKT:∀ T∈ts,K.lookup T=none) (hCd:∀ T∈ts,∃ c,PySem.W.codeHdIn K c T=true)
  (ha:s₁.heap.get? a=some { cls:=.type "list",data:=.seq vs.toArray }) (hi:IntsAre vs ns) (hl:ns.length≤sizeLine) (hr:Room k callerA)
  (F:∀ base:Heap,K.In base→base.Ns mainGlobals mg→BltAt mg base→FnOk P w K mg base CX k fa fd [x] sp) (hbind:∀ (s:Shared) (u:Value),BindsTo s fd ⟨[u],[]⟩ [(x,u)])
  (hsp:∀ H:Hp,OnlyTs ts H→SqL K H a (ns.map V.int)→sp [.ref a] H (fun v _=>v=.bl true) fun _ _ _=>False)
  (hCX:∀ H e s',CX [] H s₁ (fun _ _ _=>False) e s'→False) :
  codeAny (model P w) callerA (.call (.ref fa) ⟨[.ref a],[]⟩) (fun r s'=>r=.ok (.ret (.bool true))∧OldK s₁.heap s'.heap∧s'.os=s₁.os∧AllBare s'.gens) s₁:=by
 have rv:=vals_ints hi;have lenV:=hi.length;have aT:a∉ts:=fun h=>by
  have:=hT a h;rw [ha] at this;cases this
 have core:∀ H:Hp,OnlyTs ts H→SqL K H a (ns.map V.int)→HOk P w H s₁.heap→(∀ b,H b≠none→b=a∨b∈ts)→(H a≠none→K.lookup a=none) →
   codeAny (model P w) callerA (.call (.ref fa) ⟨[.ref a],[]⟩) (fun r s'=>r=.ok (.ret (.bool true))∧OldK s₁.heap s'.heap∧s'.os=s₁.os∧AllBare s'.gens) s₁:=by
  intro H hO hS hok hA hK;have base_of:∀ {b:Addr}{o:Obj},s₁.heap.get? b=some o→H b=none→(hidT s₁.heap H).get? b=some o:=fun e n=>hidT_get e n;have noA:∀ {b:Addr}{o:Obj}{es:Array DictEntry}{ep:Nat},s₁.heap.get? b=some o→o.data=.dict es ep→H b=none:=fun {b o es ep} e d=>by
   cases q:H b with
   | none=>rfl
   | some u =>
    rcases hA b (by rw [q];simp) with e' | e'
    ·subst e';rw [ha] at e;cases e;have d':Data.seq vs.toArray _=Data.dict es ep:=d;cases d'
    ·rw [hT b e'] at e;cases e;cases d
  have nsK:∀ {b:Addr}{m:Str→Option Value},s₁.heap.Ns b m→(hidT s₁.heap H).Ns b m:=fun {b m} ⟨o,es,ep,e,d,r⟩=>⟨o,es,ep,base_of e (noA e d),d,r⟩
  have hKb:K.In (hidT s₁.heap H):=fun b o e=>base_of (KX b o e) (by
   cases q:H b with
   | none=>rfl
   | some u =>
    rcases hA b (by rw [q];simp) with e' | e'
    ·subst e';rw [hK (by rw [q];simp)] at e;cases e
    ·rw [hKT b e'] at e;cases e)
  have hBl2:BltAt mg (hidT s₁.heap H):=by
   obtain ⟨bm,ob,e1,e2,e3,e4,e5,e6,e7⟩:=hBl;refine ⟨bm,ob,e1,e2,e3,base_of e4 ?_,e5,e6,e7⟩;cases q:H bm with
   | none=>rfl
   | some u =>
    rcases hA bm (by rw [q];simp) with e' | e'
    ·subst e';rw [ha] at e4;cases e4;exact absurd (show Value.type "list" = Value.type "module" from e5) (by decide)
    ·rw [hT bm e'] at e4;cases e4;exact absurd (show Value.none=Value.type "module" from e5) (by decide)
  have hM:Mod K mg (hidT s₁.heap H):=⟨hKb,nsK hns,⟨mb,nsK hb,hbb⟩,let ⟨mc,h1,h2⟩:=hlim;⟨mc,nsK h1,h2⟩⟩;have e0:Env0 P w K mg (hidT s₁.heap H) callerA [] s₁ H:=⟨rfl,hM,fun b o e=>of_hidT e,Nat.le_of_eq (hidT_size _ _),trivial,fun b hb=>absurd (show b∈([]:List Addr) from hb) (by simp),hok,.of_eq hg⟩;refine codeAny_mono ((F _ hKb (nsK hns) hBl2).run callerA [] s₁ H ⟨[.ref a],[]⟩ [.ref a] [.ref a] _ _ hr e0 (hbind s₁ (.ref a)) (.cons rfl .nil) (hsp H hO hS)) fun r s' h=>?_;cases r with
  | error e=>exact (hCX H e s' h).elim
  | ok fl =>
   cases fl with
   | next=>exact False.elim h
   | brk=>exact False.elim h
   | cont=>exact False.elim h
   | ret u =>
    obtain ⟨v,H',os,bare,un,hok',r',q⟩:=h;have q':v=.bl true:=q;subst q';obtain rfl:u=Value.bool true:=r';have keep:∀ b o,b∉ts→s₁.heap.get? b=some o→s'.heap.get? b=some o:=fun b o nb e=>by
     cases q:H b with
     | none=>exact un.keep b o e q (by intro z;exact absurd (show b∈([]:List Addr) from z) (by simp)) (by simp)
     | some u =>
      rcases hO.2 b nb with z | ⟨ob,xs,z⟩
      ·rw [q] at z;cases z
      ·have z2:=un.frzs b ob _ z;obtain ⟨e1,_⟩:=hok b _ z;obtain ⟨e2,_⟩:=hok' b _ z2;rw [e] at e1;cases e1;exact e2
    have gT:∀ T∈ts,∃ more,s'.heap.get? T=some { cls:=.none,data:=.fields (#[]++more) }:=fun T hm=>by
     obtain ⟨more,eT⟩:=un.tbls T _ (hO.1 T hm);exact ⟨more,hok' T _ eT⟩
    refine ⟨rfl,⟨fun b o e=>?_,fun b o e=>?_⟩,os,bare⟩
    ·by_cases nb:b∈ts
     ·obtain ⟨more,g⟩:=gT b nb;rw [hT b nb] at e;cases e;obtain ⟨c,hc⟩:=hCd b nb;obtain ⟨oc,vsc,_,_,_,_,_,_,_,g1,g2,g3,g4,_⟩:=PySem.W.codeHd_of_K KX hc;exact .inr (.inl ⟨⟨c,oc,vsc,g1,g2,g3,g4⟩,rfl,#[],more,rfl,g⟩)
     ·exact .inl (keep b o nb e)
    ·by_cases nb:b∈ts
     ·obtain ⟨more,g⟩:=gT b nb;exact ⟨_,g⟩
     ·exact ⟨o,keep b o nb e⟩
 cases hk:K.lookup a with
 | some o =>
  have e:=KX a o hk;rw [ha] at e;cases e;refine core (fun b=>if b∈ts then some (.tbl #[]) else none) ⟨fun T hm=>if_pos hm,fun b nb=>.inl (if_neg nb)⟩ (.inr ⟨_,vs.toArray,_,hk,rfl,rfl,rfl,by rw [Z8,lenV];exact hl,by simpa using rv⟩) (fun b u z=>?_) (fun b z=>?_) fun z=>absurd (if_neg aT) z
  ·by_cases nb:b∈ts
   ·have z':=(if_pos nb).symm.trans z;cases z';exact hT b nb
   ·have z':=(if_neg nb).symm.trans z;cases z'
  ·by_cases nb:b∈ts
   ·exact .inr nb
   ·exact absurd (if_neg nb) z
 | none =>
  refine core (fun b=>if b∈ts then some (.tbl #[]) else if b=a then some (.frz { cls:=.type "list",data:=.seq vs.toArray } (.lst (ns.map V.int))) else none) ⟨fun T hm=>if_pos hm,fun b nb=>?_⟩ (.inl (.inr ⟨{ cls:=.type "list",data:=.seq vs.toArray },?_⟩)) (fun b u z=>?_) (fun b z=>?_) fun _=>hk
  ·by_cases hb:b=a
   ·exact .inr ⟨_,_,(if_neg nb).trans (if_pos hb)⟩
   ·exact .inl ((if_neg nb).trans (if_neg hb))
  ·exact (if_neg aT).trans (if_pos rfl)
  ·by_cases nb:b∈ts
   ·have z':=(if_pos nb).symm.trans z;cases z';exact hT b nb
   ·have z':=(if_neg nb).symm.trans z;by_cases hb:b=a
    ·have z2:=(if_pos hb).symm.trans z';cases z2;subst hb;exact ⟨ha,by rw [Z0];exact hl,vs,_,rv,ha⟩
    ·have z2:=(if_neg hb).symm.trans z';cases z2
  ·by_cases nb:b∈ts
   ·exact .inr nb
   ·by_cases hb:b=a
    ·exact .inl hb
    ·exact absurd ((if_neg nb).trans (if_neg hb)) z
end L2
namespace L2
open PySem PySem.Spec PyProof.Rows
section
variable {X:Cx}
theorem mt_lindex {K:PySem.W.Frag} (hK:X.K=K):MtR X "list.index" (fun x xs H Q=>∃ (l:Addr) (ks:List Str) (n:Str) (j:Nat),x=.ref l∧xs=[.str n]∧SqL K H l (ks.map V.str)∧ks[j]? = some n∧(∀ m,m < j→ks[m]?≠some n)∧Q (.int (j:Nat)) H):=by
 subst hK;intro pins s σ H x xs v us Q I rx rv h;obtain ⟨l,ks,n,j,rfl,rfl,hl,hj,hno,q⟩:=h;cases (show v=Value.ref l from rx);obtain ⟨u,rfl,ru⟩:=v1 rv;obtain ⟨its,r,pl,hz⟩:=I.list hl;obtain ⟨⟨cls,dd,data,sl⟩,ho,hc,n',hd⟩:=pl.isList;simp only at hc hd;subst hc hd;have jl:j < ks.length:=(List.getElem?_eq_some_iff.mp hj).1;have ln:=r.length;rw [Z0] at ln hz;have fs:(ks.map V.str).all flatV=true:=by
  rw [Yf];intro x hx;obtain ⟨k,_,rfl⟩:=List.mem_map.mp hx;rfl
 have at_:∀ (i:Nat) (hi:i < its.toArray.size) (k:Str),ks[i]? = some k→eqU (.str n) its.toArray[i]=eqV (.str k) (.str n):=fun i hi k e=>by
  obtain ⟨w',hw,rw'⟩:=r.get (i:=i) (x:=.str k) (by rw [Z4,e];rfl);have:its.toArray[i]=w':=by
   have h1:its[i]? = some its.toArray[i]:=by simp
   rw [hw] at h1;exact (Zf h1).symm
  rw [this];exact eqU_of rw' rfl
 have szl:(sizeLine:Nat)=16777216:=sizeLine_eq;refine call_meets PySem.F.slot_list_index ⟨_,ho,rfl⟩ PySem.F.entry_list_index (PySem.F.args_list_index_2 _ _) (SeqAt.list_indexAt l its.toArray n' dd sl u (eqU (.str n)) j (by simp;omega) (by omega) ?_ ?_) ⟨ho,fun y hy=>zCu ru rfl r fs y (by simpa using hy),?_⟩
 ·rw [at_ j (by simp;omega) n hj];simp [eqV]
 ·intro m hm lt;obtain ⟨k,hk⟩:∃ k,ks[m]? = some k:=⟨_,Z3 (by omega)⟩;rw [at_ m hm k hk];have:k≠n:=fun e=>hno m lt (by rw [hk,e]);simp [eqV,this]
 ·exact ⟨.int j,H,I.tok _,⟨_,rfl⟩,q⟩
end
end L2
namespace L2
open PySem PySem.Spec PyProof.Rows
section
variable {X:Cx}
end
namespace W
end W
end L2
namespace L2
open PySem PySem.Spec PyProof.Rows
section
variable {X:Cx}
end
namespace W
end W
end L2
namespace L2
open PySem PySem.Spec PyProof.Rows
theorem _root_.PyProof.Rows.IsTupIter.kp {h h':Heap}{it l:Addr}{k:Nat} (x:IsTupIter h it l k) (e:∀ o,h.get? it=some o→h'.get? it=some o):IsTupIter h' it l k:=by
 obtain ⟨o,q,r⟩:=x;exact ⟨o,e o q,r⟩
section
variable {P:Program}{w:World}{A:Around}{E:Value→Shared→Prop}{s:Shared}
theorem nextT {it l:Addr}{k:Nat}{xs:Array Value}{Q:Value→Shared→Prop} (x1:IsTupIter s.heap it l k) (x2:IsTup s.heap l xs)
  (hs:∀ x h',xs[k]? = some x→IsTupIter h' it l (k + 1)→Heap.SameBut it s.heap h'→Q x { s with heap:=h' })
  (hA:A.handled=none) (he:∀ h' e,xs[k]? = none→Heap.ExtBut it s.heap h'→(∃ o,h'.get? e=some o∧o.cls=.type "StopIteration")→E (.ref e) { s with heap:=h' }) :
  wpAny (model P w) A (Builtin.SmallTypes.nextOf (.ref it)) Q E s:=by
 obtain ⟨o,ho,hc,hd⟩:=id x1;obtain ⟨u,hu,_,n,du⟩:=id x2;unfold Builtin.SmallTypes.nextOf;refine wpAny_bind (wpAny_callSpecial?_slot (name:=Str.ofString "__next__") x1.typeIs slot_tupleiter_next (wpAny_call_entry slot_tupleiter_next x1.typeIs entry_tupleiter_next ?_ (args_tupleiter_next _)));show wpAny _ _ (field (.ref it) 0 >>= _) _ _ s;refine wpAny_bind (wpAny_field ho hd (x:=.ref l) rfl ?_);show wpAny _ _ (if (Value.ref l == Value.none)=true then _ else _) _ _ s;rw [if_neg (by exact Zc)];show wpAny _ _ (field (.ref it) 1 >>= _) _ _ s;refine wpAny_bind (wpAny_field ho hd (x:=.int (k:Nat) 0) rfl ?_);show wpAny _ _ (seqItems? (.ref l) >>= _) _ _ s;refine wpAny_bind (wpAny_seqItems hu du ?_);cases e:xs[k]? with
 | some x =>
  simp only [Int.toNat_natCast,e];refine wpAny_bind (wpAny_setField ho hd (by simp) (wpAny_pure ⟨_,rfl,wpAny_pure (hs _ _ e ?_ (Heap.SameBut.update ..))⟩));refine ⟨_,Heap.get?_update_self _ ho (Obj.isFreed_of_fields (Obj.data_mapFields hd _)),(Obj.cls_mapFields ..).trans hc,?_⟩;rw [Obj.data_mapFields hd];simp [rawInt]
 | none =>
  simp only [Int.toNat_natCast,e];refine wpAny_bind (wpAny_rule (wpAny_bind (wpAny_setField ho hd (by simp) ?_)));show wpAny _ _ (newExc (.type "StopIteration") [] >>= _) _ _ _;refine wpAny_bind ?_;simp only [newExc,newTuple];refine wpAny_bind (wpAny_newObj_type (wpAny_bind (m:=firstArgMember _ _) (wpAny_of_eq (a:=Value.none) (by first | rfl | (simp only [firstArgMember];rfl)) (wpAny_newObj_type ?_ (by size_fits)))) (by size_fits));simp only [raiseNew];refine wpAny_bind (wpAny_handled ?_)
  first | rw [show A.in1.handled=none from hA] | rw [hA]
  exact wpAny_bind (wpAny_pure (wpAny_throw (he _ _ e (((Heap.SameBut.update ..).extBut.push _).push _) ⟨_,Za _ rfl,rfl⟩)))
end
noncomputable def ztI (h:Heap) (l:Addr):Heap:=h.push { cls:=.type "tuple_iterator",data:=.fields #[.ref l,.int 0 0] }
noncomputable def ztP (h:Heap) (a b:Value):Heap:=h.push { cls:=.type "tuple",data:=.seq #[a,b] }
section
variable {P:Program}{w:World}{A:Around}{E:Value→Shared→Prop}{s:Shared}
end
end L2
namespace L2.W
open PySem PySem.Spec PyProof.Rows
end L2.W
namespace L2
open PySem PySem.Spec PyProof.Rows
section
variable {X:Cx}{CX:CXT}{k:Nat}{f C:Addr}{fd:FuncData}{ps:List Str}{sp:Sp}{dvs:List V}{ds:List Value}{E:St→XK}{x m:Str}{p pos apos:Pos}{e:Expr}{es:List Expr}{t:TA}
end
end L2
namespace L2.W
open PySem PySem.Spec PyProof.Rows
end L2.W
namespace L2
open PySem PySem.Spec PyProof.Rows
end L2
namespace L2.W
open PySem PySem.Spec PyProof.Rows
end L2.W
namespace L2
open PySem PySem.Spec PyProof.Rows
section
variable {prog:Program}{w:World}{A:Around}{R:Result→Shared→Prop}{I:Addr}{fp wr:List Addr}{G:Array GenState→Array GenState→Prop}{n:Nat}{P:Nat→Value→Prop}{St:Nat→Shared→Prop}
end
section
variable {prog:Program}{w:World}{A:Around}{E:Value→Shared→Prop}{s:Shared}
end
section
variable {X:Cx}
end
end L2
namespace L2
open PySem PySem.Spec PyProof.Rows
section
variable {X:Cx}
end
end L2
namespace L2
open PySem PySem.Spec PyProof.Rows
section
variable {X:Cx}{e:Expr}{es:List Expr}{te:TE}{t:TA}
end
end L2
namespace L2.W
open PySem PySem.Spec PyProof.Rows
end L2.W
namespace L2
open PySem PySem.Spec PyProof.Rows
section
variable {X:Cx}{CX:CXT}{k:Nat}{fw c P:Addr}{fd:FuncData}{q x y:Str}{params:Arguments}{body:Expr}{scope:Scope}{N:List Str}{ix:List Nat}{sp:Addr→Addr→List (Str×Addr)→List V→Sp}{E:St→XK}{p lpos pos:Pos}
end
namespace W
end W
end L2
namespace L2
open PySem PySem.Spec PyProof.Rows
structure MkN (K:PySem.W.Frag) (C:Addr):Prop where
 makes:PySem.W.makesIn K C=true
 init:PySem.W.findIn K (.ref C) "__init__" = some (some (.builtin "object.__init__"))
 kp:PySem.W.keepIn K (.ref C)=true
noncomputable def tMakeN (C:Addr):TE:=fun _ H Q=>∀ x dx,H x=none→H dx=none→dx≠x→Q (.ref x) (upd (upd H dx (.own x)) x (.ins C dx []))
theorem zD7 {X:Cx}{C:Addr}{x:Str}{p pos:Pos} (M:MkN X.K C) (hg:Gl X x) (hm:X.mg x=some (.ref C)) (hdb:(x == ("__debug__" : Str))=false:=by decide):PE X (.Call (.Name x p) [] [] pos) (tMakeN C):=by
 intro pins s σ H Q I h;refine wpAny_Call_Name_kw (zFa I hg hm ?_ hdb);refine PySem.W.callWith_K0 I.kIn M.kp (wpAny_call ?_);have q:=h (s.heap.objs.size + 1) s.heap.objs.size (I.hok.fresh (Nat.le_succ _)) (I.hok.fresh (Z7 _)) (Ze (Ye _));have I2:=Inv.made (C:=C) I;have Y:=PySem.W.makes_of (M:=model X.prog X.w) I.kIn M.makes;refine make_map0 I.kIn M.makes M.init (fun self=>PySem.W.Looks.of_pure (PySem.W.oi_bind self)) ?_;have e2:((s.heap.push PySem.W.emptyDict).push (PySem.W.instObj C s.heap.objs.size)).get? (s.heap.objs.size + 1)=some (PySem.W.instObj C s.heap.objs.size):=by
  have:=Za (s.heap.push PySem.W.emptyDict) (o:=PySem.W.instObj C s.heap.objs.size) rfl
  rwa [Y3] at this
 have t1:PySem.W.Looks (model X.prog X.w) ((s.heap.push PySem.W.emptyDict).push (PySem.W.instObj C s.heap.objs.size)) (typeOf (.ref (s.heap.objs.size + 1))) (.ref C):=(PySem.W.Looks.ld e2).andThen .now;have t2:PySem.W.Looks (model X.prog X.w) ((s.heap.push PySem.W.emptyDict).push (PySem.W.instObj C s.heap.objs.size)) (isInstance (.ref (s.heap.objs.size + 1)) (.type "object")) true:=t1.andThen (Y.top.keeps fun b o e=>Z2 _ (Z2 _ e));refine codeAny_call_builtin PySem.W.oi_plain PySem.W.entry_oi (@PySem.W.check_slot (model X.prog X.w) _ _ _ "object.__init__" "object" "__init__" (.ref (s.heap.objs.size + 1)) [] [] _ PySem.W.oi_kind PySem.W.oi_split t2 (PySem.W.oi_args (.ref (s.heap.objs.size + 1))) ?_);rw [PySem.W.oi_run];exact wpAny_pure (And.intro rfl ⟨V.ref (s.heap.objs.size + 1),_,I2,rfl,q⟩)
section
variable {X:Cx}{x n:Str}{np hpos pos:Pos}{body suite:List Stmt}{b₀ : Stmt}{i:Nat}{B:Addr}{tb:TW→TS}{th:Addr→TS}
end
section
variable {X:Cx}
theorem any_range:∀ (bs:List Bool),((List.range bs.length).any fun i=>(bs[i]?).getD false)=bs.any id
 | []=>rfl
 | b :: r=>by
  rw [Zi,List.range_succ_eq_map,Y5,List.any_map,Y5];have e:=any_range r;simp only [Function.comp_def,List.getElem?_cons_succ,List.getElem?_cons_zero,Option.getD_some,id] at *;rw [← e]
theorem call_any {K:PySem.W.Frag} (hK:X.K=K) (hc:X.calm=true):CallR X (.builtin "any") (fun xs H Q=>∃ (p:Addr) (bs:List Bool),xs=[.ref p]∧SqL K H p (bs.map V.bl)∧Q (.bl (bs.any id)) H):=by
 subst hK;intro pins s σ H xs us Q I r h;obtain ⟨p,bs,rfl,hp,q⟩:=h;obtain ⟨u,rfl,ru⟩:=v1 r;cases (show u=Value.ref p from ru);obtain ⟨its,rv,pl,hz⟩:=I.list hp;have hl:=pl.isList;have hlt:p < s.heap.objs.size:=by obtain ⟨_,e,_⟩:=hl;exact Z9 e
 have hlen:its.length=bs.length:=by rw [← rv.length,Z0]
 refine call_any_walk (wpAny_pyIter_list hl ?_)
 refine ⟨s.heap.objs.size,[s.heap.objs.size,p],[s.heap.objs.size],its.toArray.size,_,_,fun i=>(bs[i]?).getD false,rfl,Walks.list (A:=X.A.in1) (I.ok.hd hc) _ p (Ze hlt) its.toArray,
  ⟨⟨_,Za _ rfl,rfl,rfl⟩,hl.push _⟩,fun i v s' Q' E' hP hQ=>?_,fun h' tk hk=>?_⟩
 ·obtain ⟨b,e,rfl⟩:=zEe rv (by simpa using hP);simp only [e,Option.getD_some] at hQ;exact wpAny_truthy_bool hQ
 ·rw [Z8,hlen,any_range];exact ⟨.bl _,H,I.kept (t':=tk) fun b o e=>hk b o (fun hm=>by rw [List.mem_singleton.mp hm] at e;exact Y1 _ (Z9 e)) (Z2 _ e),rfl,q⟩
end
namespace W
noncomputable def zD7:=by have h:=@L2.zD7;rw [ePE] at h;exact @h
end W
end L2
namespace L2
open PySem PySem.Spec PyProof.Rows
namespace W
end W
end L2
namespace L2
open PySem PySem.Spec PyProof.Rows
section
variable {P:Program}{w:World}{A:Around}{E:Value→Shared→Prop}{s:Shared}{r:Addr}{n:Nat}
end
section
variable {X:Cx}{pins:List (Addr×Obj)}{σ : St}{H:Hp}{s:Shared}{r f:Addr}{n:Nat}{Q:VK}
end
end L2
namespace L2
open PySem PySem.Spec PyProof.Rows
section
variable {X:Cx}{pins:List (Addr×Obj)}{σ : St}{H:Hp}{s:Shared}{A:Around}{E:Value→Shared→Prop}
end
section
variable {CX:CXT}{P:Program}{w:World}{K:PySem.W.Frag}{mg:Str→Option Value}{base:Heap}{k:Nat}{f c':Addr}{q x:Str}{params:Arguments}{body:Expr}{scope:Scope}{cl:List (Str×Addr)}{N:List Str}{ws:List V}
end
section
variable {X:Cx}{CX:CXT}{k:Nat}{c P:Addr}{q:Str}{params:Arguments}{body:Expr}{scope:Scope}{N:List Str}{ix:List Nat}{sp:Addr→Addr→List (Str×Addr)→List V→V→Hp→VK→XK→Prop}{e:Expr}{ta:TA}{p lpos kpos pos:Pos}
end
namespace W
end W
end L2
namespace L2
open PySem PySem.Spec PyProof.Rows PySem.W
section
variable {prog:Program}{w:World}{A:Around}{E:Value→Shared→Prop}{s:Shared}
end
section
variable {X:Cx}
end
end L2
namespace L2
open PySem PySem.Spec PyProof.Rows
section
variable {prog:Program}{w:World}{A:Around}{E:Value→Shared→Prop}{s:Shared}{it e:Addr}
end
section
variable {X:Cx}{elt tg a:Expr}{ifs:List Expr}{sc:Scope}{p rp pos:Pos}{cl:List (Str×Addr)}{T:List Str}{ta:TA}{g:TG}{tt:TT}{te:TE}{e:Addr}
end
namespace W
end W
end L2
namespace L2
open PySem PySem.Spec PyProof.Rows
section
variable {X:Cx}{y n:Str}{i:Nat}
end
end L2
namespace L2.W
open PySem PySem.Spec PyProof.Rows
end L2.W
namespace L2
open PySem PySem.Spec PyProof.Rows
structure Disp (P:Program) (w:World) (K:PySem.W.Frag) (mg:Str→Option Value) (base:Heap) (CX:CXT) (k:Nat) (m:Str) (ps:List Str) (sp:Sp) (C:Addr):Prop where
 ex:∃ f fd,Cls K C∧Meth K C m f∧FnOk P w K mg base CX k f fd ps sp∧Binds K fd ps []
noncomputable def tMethD (D:Addr→Prop) (m:Str) (sp:Addr→Sp) (E:St→XK) (ta:TE) (t:TA):TE:=fun σ H Q=>ta σ H fun x H1=>∃ a C dx fs,x=.ref a∧H1 a=some (.ins C dx fs)∧D C∧fs.lookup m=none∧t σ H1 fun vs H2=>sp C (x :: vs) H2 Q (E σ)
section
variable {X:Cx}{CX:CXT}{k:Nat}{ps:List Str}{sp:Addr→Sp}{E:St→XK}{m:Str}{pos apos:Pos}{e o:Expr}{es:List Expr}{ta:TE}{t:TA}{D:Addr→Prop}
theorem zBy {pl:Sem Bool} (he:PE X o ta) (F:∀ C,D C→Disp X.prog X.w X.K X.mg X.base CX k m ps (sp C) C) (hr:Room k X.A) (hx:Passes CX X E) (ha:PA X (e :: es) t)
  (hst:starEach (e :: es) X.env=(false,eval e X.env) :: starEach es X.env:=by rfl) (hpl:(backTo pos (starEach es X.env)).any (·.1)=false:=by rfl)
  (ht:eval (.Call (.Attribute o m apos) (e :: es) [] pos) X.env=(do
   let ov ← eval o X.env
   standAt apos.atName
   let (f,first) ← holding [ov] (getMethod ov m pl)
   callWith pos f first (backTo pos (starEach (e :: es) X.env)) (backToKw pos (keywordEach [] X.env))):=by rfl):PE X (.Call (.Attribute o m apos) (e :: es) [] pos) (tMethD D m sp E ta t):=by
 intro pins s σ H Q I h;refine PySem.W.methodCall_KW (pl:=pl) (thn (he pins s σ H _ I h) fun u s1 ⟨x,H1,I1,rx,a,C,dx,fs,ex,ea,hD,l,q⟩=>?_) ht;obtain ⟨⟨f,fd,c,hm,G,hb⟩⟩:=F C hD;subst ex;obtain rfl:u=Value.ref a:=rx;refine zDj I1 ea c hm l ?_;refine PySem.W.callWith_K (first:=[.ref a]) (h₀:=X.base) I.ok.mod.kin hm.kp (thn (ha pos pins s1 σ H1 _ I1 q) fun us s2 ⟨vs,H2,I2,r,q2⟩=>⟨I2.kIn,?_⟩) hst hpl;exact run_fn (us:=.ref a :: us) (vs:=.ref a :: vs) (dvs:=[]) G hr hb .nil hx I2 (.cons rfl r) (by rw [List.append_nil];exact q2)
end
theorem FnOk.never {P:Program}{w:World}{K:PySem.W.Frag}{mg:Str→Option Value}{base:Heap}{CX:CXT}{k:Nat}{f:Addr}{fd:FuncData}{ps:List Str}{sp:Sp} (h:∀ vs H Q E,¬ sp vs H Q E):FnOk P w K mg base CX k f fd ps sp :=
 ⟨fun vs H Q E z=>(h vs H Q E z).elim,fun _ _ _ H _ _ vs Q E _ _ _ _ z=>(h vs H Q E z).elim⟩
noncomputable def stepL (st:Int) (xs:List V):List V:=if st=1 then xs else xs.reverse
noncomputable def rStep (K:PySem.W.Frag) (te ts:TE):TE:=fun σ H Q=>te σ H fun x H1=>ts σ H1 fun y H2=>∃ a xs st,x=.ref a∧y=.int st∧(st=1∨st = -1)∧SqL K H2 a xs∧∀ p,H2 p=none→Q (.ref p) (upd H2 p (.lst (stepL st xs)))
theorem zDf {X:Cx}{e st:Expr}{te ts:TE}{p3 pos:Pos} (he:PE X e te) (hs:PE X st ts):PE X (.Subscript e (.Slice none none (some st) p3) pos) (rStep X.K te ts):=by
 intro pins s σ H Q I h;refine Subscript_ (thn (he pins s σ H _ I h) fun v s1 ⟨x,H1,I1,r1,q1⟩=>?_);refine wpAny_Slice ?_;rw [evalPart_none];refine wpAny_pure (wpAny_pure ?_);rw [evalPart_some];refine thn (hs pins s1 σ H1 _ I1 q1) fun u s2 ⟨y,H2,I2,r2,a,xs,st,ex,ey,hst,hx,q⟩=>?_;subst ex ey;cases r1;obtain ⟨t,rfl⟩:=r2;have I4:Inv X pins σ H2 { s2 with heap:=s2.heap.push { cls:=.type "slice",data:=.fields #[.none,.none,.int st t] } }:=I2.kept (t':=s2.toks) fun b ob q=>Z2 _ q;obtain ⟨its,r,ht,hz⟩:=I4.list hx;have hlen:=r.length;have n0:some st≠some 0:=by rcases hst with rfl | rfl <;> decide
 have ep:∃ js:List Value,slicePick its.toArray none none (some st)=js.toArray∧Vals (stepL st xs) js:=by
  rcases hst with rfl | rfl
  ·refine ⟨its,?_,r⟩;have e:=zD3 its none none;rw [show slicePick its.toArray none none (some 1)=slicePick its.toArray none none none from rfl,e];simp [HT.sIx]
  ·exact ⟨its.reverse,PySem.W.krv_pick _,r.reverse⟩
 obtain ⟨js,e1,e2⟩:=ep;refine tail_any (ops:=[.ref a,.ref s2.heap.objs.size]) ht.isList.typeIs slot_list_getitem.lookup ?_ (by with_unfolding_all rfl);refine wpAny_getItem_list_slice ht.isList (Heap.IsSliceOf.new ..) .none .none (.int _ _) n0 ?_ (by rw [Z8];omega);rw [e1];have ls:(stepL st xs).length=xs.length:=by unfold stepL;split <;> simp
 exact ⟨.ref _,_,I4.laid (t':=s2.toks) (o:=.lst (stepL st xs)) (fun b ob q=>Z2 _ q) (Z7 _) ⟨by rw [ls];exact hz,js,0,e2,Za _ rfl⟩,rfl,q _ (I4.hok.fresh (Z7 _))⟩
namespace W
noncomputable def zBy:=by have h:=@L2.zBy;rw [ePE,ePA] at h;exact @h
noncomputable def zDf:=by have h:=@L2.zDf;rw [ePE] at h;exact @h
end W
end L2
namespace L2
open PySem PySem.Spec PyProof.Rows
section
variable {P:Program}{w:World}{A:Around}{E:Value→Shared→Prop}{s:Shared}
theorem nextL {it l:Addr}{k:Nat}{xs:Array Value}{Q:Value→Shared→Prop} (x1:s.heap.IsListIter it l k) (x2:s.heap.IsList l xs)
  (hs:∀ x h',xs[k]? = some x→h'.IsListIter it l (k + 1)→Heap.SameBut it s.heap h'→Q x { s with heap:=h' })
  (hA:A.handled=none) (he:∀ h' e,xs[k]? = none→Heap.ExtBut it s.heap h'→(∃ o,h'.get? e=some o∧o.cls=.type "StopIteration")→E (.ref e) { s with heap:=h' }) :
  wpAny (model P w) A (Builtin.SmallTypes.nextOf (.ref it)) Q E s:=by
 cases e:xs[k]? with
 | some x=>exact wpAny_nextOf_list_item x1 x2 e fun h' a b=>hs x h' e a b
 | none=>exact wpAny_nextOf_list_end hA x1 x2 e fun h' ex a b=>he h' ex e a b
theorem zipm_next {z TI TO i1 i2 l1 l2:Addr}{k:Nat}{xs ys:Array Value}{a b:Value}{Q:Value→Shared→Prop} (D:ZipApart z TI TO i1 i2 l1 l2)
  (hz:IsZip s.heap z TI TO .none) (hI:IsPair s.heap TI (.ref i1) (.ref i2)) (hO:IsPair s.heap TO a b)
  (h1:s.heap.IsListIter i1 l1 k) (h2:IsTupIter s.heap i2 l2 k) (t1:s.heap.IsList l1 xs) (t2:IsTup s.heap l2 ys) (hA:A.handled=none)
  (hQ:∀ x y h',xs[k]? = some x→ys[k]? = some y→IsZip h' z TI TO (rawInt s.heap.objs.size)→IsPair h' TO x y→h'.IsListIter i1 l1 (k + 1)→IsTupIter h' i2 l2 (k + 1)→IsPair h' s.heap.objs.size x y →
   (∀ c o,c≠z→c≠TO→c≠i1→c≠i2→s.heap.get? c=some o→h'.get? c=some o)→Q (.ref s.heap.objs.size) { s with heap:=h' })
  (hE:∀ h' e,(xs[k]? = none∨ys[k]? = none)→(∀ c o,c≠z→c≠TO→c≠i1→c≠i2→s.heap.get? c=some o→h'.get? c=some o)→(∃ o,h'.get? e=some o∧o.cls=.type "StopIteration")→E (.ref e) { s with heap:=h' }) :
  wpAny (model P w) A (Builtin.«zip.__next__» ⟨[.ref z],[]⟩) (fun fin s'=>∃ v,fin=.done (.ret v)∧Q v s') E s:=by
 show wpAny _ _ (field (.ref z) 2 >>= _) _ _ _;refine wpAny_bind (wpAny_field hz rfl (x:=.bool false) rfl ?_);show wpAny _ _ (field (.ref z) 3 >>= _) _ _ _;refine wpAny_bind (wpAny_field hz rfl (x:=.ref TI) rfl (wpAny_bind (wpAny_seqItems hI rfl ?_)));show wpAny _ _ (Builtin.SmallTypes.ownedTupleIsFree (.ref z) >>= _) _ _ _;refine wpAny_bind ?_;unfold Builtin.SmallTypes.ownedTupleIsFree;refine wpAny_bind (wpAny_field hz rfl (x:=.none) rfl (wpAny_pure ?_));simp only [if_true];refine wpAny_bind (wpAny_rule (wpAny_bind (wpAny_field hz rfl (x:=.ref TO) rfl (wpAny_bind (wpAny_setField_rec hz (by simp) fun ha za sa=>?_)))));replace za:IsZip ha z TI TO .ellipsis:=za;refine wpAny_bind ?_;simp only [List.zipIdx_cons,List.zipIdx_nil,List.forIn_cons,List.forIn_nil];refine wpAny_bind (wpAny_bind (wpAny_onRaise ?_));show wpAny _ _ (Builtin.SmallTypes.nextOf (.ref i1) >>= _) _ _ _;refine wpAny_bind (nextL (h1.extBut sa.extBut D.i1z) (t1.extBut sa.extBut D.l1z) (fun x hb ex h1b sb=>wpAny_pure ?_) hA fun hb e ex sb he=>?_)
 ·have Ob:IsPair hb TO a b:=sb.extBut _ _ D.TOi1 (sa.extBut _ _ D.TOz hO);refine wpAny_bind (wpAny_seqItems Ob rfl (wpAny_bind (wpAny_updateSeq_pair Ob fun hc Oc sc=>?_)));replace Oc:IsPair hc TO x b:=Oc;refine wpAny_bind (wpAny_letGo (wpAny_pure (wpAny_bind (wpAny_bind (wpAny_onRaise ?_)))));show wpAny _ _ (Builtin.SmallTypes.nextOf (.ref i2) >>= _) _ _ _;have zc:IsZip hc z TI TO .ellipsis:=sc.extBut _ _ D.TOz.symm (sb.extBut _ _ D.i1z.symm za);refine wpAny_bind (nextT (((h2.extBut sa.extBut D.i2z).extBut sb.extBut D.i12.symm).extBut sc.extBut D.TOi2.symm) (((t2.extBut sa.extBut D.l2z).extBut sb.extBut D.l2i1).extBut sc.extBut D.l2TO) (fun y hd ey h2d sd=>wpAny_pure ?_) hA fun hd e ey sd he=>?_)
  ·have Od:IsPair hd TO x b:=sd.extBut _ _ D.TOi2 Oc;refine wpAny_bind (wpAny_seqItems Od rfl (wpAny_bind (wpAny_updateSeq_pair Od fun hf Of sf=>?_)));replace Of:IsPair hf TO x y:=Of;refine wpAny_bind (wpAny_letGo (wpAny_pure (wpAny_pure (wpAny_bind (wpAny_seqItems Of rfl (wpAny_bind (wpAny_newTuple ?_)))))));have size:hf.objs.size=s.heap.objs.size:=by rw [sf.1,sd.1,sc.1,sb.1,sa.1]
   have zf:IsZip hf z TI TO .ellipsis:=sf.extBut _ _ D.TOz.symm (sd.extBut _ _ D.i2z.symm zc);have zl:z < hf.objs.size:=Z9 zf;show wpAny _ _ (Builtin.SmallTypes.ownedTupleHandOut (.ref z) (.ref hf.objs.size) >>= _) _ _ _;refine wpAny_bind ?_;unfold Builtin.SmallTypes.ownedTupleHandOut;have zg:IsZip (hf.push { cls:=.type "tuple",data:=.seq #[x,y] }) z TI TO .ellipsis:=Z2 _ zf;refine wpAny_bind (wpAny_setField_rec zg (by simp) fun hg' zg' sg=>?_);replace zg':IsZip hg' z TI TO (rawInt hf.objs.size):=zg';refine wpAny_setField_rec zg' (by simp) fun hh zh sh=>?_;replace zh:IsZip hh z TI TO (rawInt hf.objs.size):=zh;have up:∀ c o,c≠z→hf.get? c=some o→hh.get? c=some o:=fun c o ne e=>sh.extBut _ _ ne (sg.extBut _ _ ne (Z2 _ e));have Th:IsPair hh hf.objs.size x y:=sh.extBut _ _ (Yd zl) (sg.extBut _ _ (Yd zl) (Za _ rfl));rw [size] at zh Th;refine wpAny_pure ⟨_,rfl,?_⟩;show Q (.ref hf.objs.size) _;rw [size];refine hQ x y hh ex ey zh (up _ _ D.TOz Of) ((((h1b.extBut sc.extBut D.TOi1.symm).extBut sd.extBut D.i12).extBut sf.extBut D.TOi1.symm).at fun o e=>up _ o D.i1z e) ((h2d.extBut sf.extBut D.TOi2.symm).kp fun o e=>up _ o D.i2z e) Th fun c o n1 n2 n3 n4 e=>up c o n1 (sf.extBut _ _ n2 (sd.extBut _ _ n4 (sc.extBut _ _ n2 (sb.extBut _ _ n3 (sa.extBut _ _ n1 e)))))
  ·obtain ⟨oe,g1,g2⟩:=he;have zd:IsZip hd z TI TO .ellipsis:=sd _ _ D.i2z.symm zc;have ne:e≠z:=fun q=>by subst q;rw [zd] at g1;cases g1;simp at g2
   exact wpAny_setField_rec zd (by simp) fun hf _ sf=>hE hf e (.inr ey) (fun c o n1 n2 n3 n4 q=>sf.extBut _ _ n1 (sd _ _ n4 (sc.extBut _ _ n2 (sb.extBut _ _ n3 (sa.extBut _ _ n1 q))))) ⟨oe,sf.extBut _ _ ne g1,g2⟩
 ·obtain ⟨oe,g1,g2⟩:=he;have zb:IsZip hb z TI TO .ellipsis:=sb _ _ D.i1z.symm za;have ne:e≠z:=fun q=>by subst q;rw [zb] at g1;cases g1;simp at g2
  exact wpAny_setField_rec zb (by simp) fun hc _ sc=>hE hc e (.inl ex) (fun c o n1 _ n3 _ q=>sc.extBut _ _ n1 (sb _ _ n3 (sa.extBut _ _ n1 q))) ⟨oe,sc.extBut _ _ ne g1,g2⟩
theorem zDu {z TI TO i1 i2 l1 l2:Addr}{k:Nat}{xs ys:Array Value}{a b:Value}{Q:Option Value→Shared→Prop} (D:ZipApart z TI TO i1 i2 l1 l2)
  (hz:IsZip s.heap z TI TO .none) (hI:IsPair s.heap TI (.ref i1) (.ref i2)) (hO:IsPair s.heap TO a b)
  (h1:s.heap.IsListIter i1 l1 k) (h2:IsTupIter s.heap i2 l2 k) (t1:s.heap.IsList l1 xs) (t2:IsTup s.heap l2 ys) (hA:A.handled=none)
  (hQ:∀ x y h',xs[k]? = some x→ys[k]? = some y→IsZip h' z TI TO (rawInt s.heap.objs.size)→IsPair h' TO x y→h'.IsListIter i1 l1 (k + 1)→IsTupIter h' i2 l2 (k + 1)→IsPair h' s.heap.objs.size x y →
   (∀ c o,c≠z→c≠TO→c≠i1→c≠i2→s.heap.get? c=some o→h'.get? c=some o)→Q (some (.ref s.heap.objs.size)) { s with heap:=h' })
  (hN:∀ h',(xs[k]? = none∨ys[k]? = none)→(∀ c o,c≠z→c≠TO→c≠i1→c≠i2→s.heap.get? c=some o→h'.get? c=some o)→Q none { s with heap:=h' }) :
  wpAny (model P w) A (pyNext (.ref z)) Q E s:=by
 have ty:s.TypeIs (.ref z) "zip":=⟨_,hz,rfl⟩;unfold pyNext
 refine wpAny_bind (wpAny_attempt (wpAny_callSpecial?_slot (name:=Str.ofString "__next__") ty F.slot_zip_next (wpAny_call_entry F.slot_zip_next ty F.entry_zip_next
  (zipm_next D hz hI hO h1 h2 t1 t2 hA (fun x y h' ex ey a1 a2 a3 a4 a5 a6=>wpAny_pure (hQ x y h' ex ey a1 a2 a3 a4 a5 a6)) fun h' e q kk he=>?_) (F.args_zip_next_1 _))))
 obtain ⟨o,ho,hc⟩:=he;exact wpAny_bind (wpAny_isInstance (T:="StopIteration") (b:=true) ⟨o,ho,hc⟩ isSubtype_stop (wpAny_pure (hN _ q kk)))
end
noncomputable def Itlt (K:PySem.W.Frag) (a b:Addr):It :=
 ⟨fun i H=>∃ xs ys x y,SqL K H a xs∧SqT K H b ys∧xs[i]? = some x∧ys[i]? = some y,
  fun i H v H'=>∃ p x y,v=.ref p∧H p=none∧H'=upd H p (.tup [x,y])∧(∀ xs,SqL K H a xs→xs[i]? = some x)∧∀ ys,SqT K H b ys→ys[i]? = some y,
  fun i H=>∃ xs ys,SqL K H a xs∧SqT K H b ys∧(xs.length≤i∨ys.length≤i)⟩
theorem turn_zipm {P:Program}{w:World}{K:PySem.W.Frag}{es:List Expr}{x1:_}{pos:Pos}{l1 l2 z TI TO i1 i2:Addr} (D:ZipApart z TI TO i1 i2 l1 l2) :
  Turn P w K (.Tuple es x1 pos) (Itlt K l1 l2) [z,TO,i1,i2,TI] z (fun i h=>IsZip h z TI TO .none∧IsPair h TI (.ref i1) (.ref i2)∧(∃ a b,IsPair h TO a b)∧h.IsListIter i1 l1 i∧IsTupIter h i2 l2 i) where
 mem:=by simp
 obj:=fun i h st b hb=>by
  obtain ⟨h1,h2,⟨a,c,h3⟩,⟨o4,h4,_,d4⟩,⟨o5,h5,_,d5⟩⟩:=st;simp only [Zv,Zr,or_false] at hb;rcases hb with rfl | rfl | rfl | rfl | rfl
  ·exact ⟨_,h1,fun v q=>by cases (show Data.fields _=Data.cell v from q)⟩
  ·exact ⟨_,h3,fun v q=>by cases (show Data.seq _ _=Data.cell v from q)⟩
  ·exact ⟨_,h4,fun v q=>by rw [d4] at q;cases q⟩
  ·exact ⟨_,h5,fun v q=>by rw [d5] at q;cases q⟩
  ·exact ⟨_,h2,fun v q=>by cases (show Data.seq _ _=Data.cell v from q)⟩
 keep:=fun i h h' st k=>by
  obtain ⟨h1,h2,⟨a,c,h3⟩,h4,h5⟩:=st;exact ⟨k z (by simp) _ h1,k TI (by simp) _ h2,⟨a,c,k TO (by simp) _ h3⟩,h4.at fun o e=>k i1 (by simp) o e,h5.kp fun o e=>k i2 (by simp) o e⟩
 item:=by
  intro X hP hw hK hc i pins s σ H E I hf st hg;subst hP hw hK;obtain ⟨h1,h2,⟨a,c,h3⟩,h4,h5⟩:=st;obtain ⟨xs,ys,x,y,qx,qy,ex,ey⟩:=hg;obtain ⟨its,rx,px,_⟩:=I.list qx;obtain ⟨jts,ry,py,_⟩:=I.tuple qy;obtain ⟨u,hu,ru⟩:=rx.get ex;obtain ⟨v,hv,rv⟩:=ry.get ey;refine zDu D h1 h2 h3 h4 h5 px.isList py (I.ok.hd hc) (fun u' v' h' eu ev a1 a2 a3 a4 a5 a7=>?_) fun h' q=>by
   rcases q with q | q
   ·rw [show its.toArray[i]? = some u by simpa using hu] at q;cases q
   ·rw [show jts.toArray[i]? = some v by simpa using hv] at q;cases q
  obtain rfl:u=u':=by rw [show its.toArray[i]? = some u by simpa using hu] at eu;exact Zf eu
  obtain rfl:v=v':=by rw [show jts.toArray[i]? = some v by simpa using hv] at ev;exact Zf ev
  refine ⟨_,rfl,wpAny_letOwnedTupleGo_zip a1 fun h2' b1 sb=>?_⟩;have nz:s.heap.objs.size≠z:=fun e=>by have:=Z9 h1;rw [← e] at this;exact Y1 _ this
  have J:Inv X pins σ H { s with heap:=h2' }:=I.turns (t':=s.toks) (ch:=[z,TO,i1,i2,TI]) (fun b o hb e=>by
   simp only [Zv,Zr,or_false,not_or] at hb
   exact (sb.2 b hb.1).trans (a7 b o hb.1 hb.2.1 hb.2.2.1 hb.2.2.2.1 e)) hf
  have gT:h2'.get? s.heap.objs.size=some { cls:=.type "tuple",data:=.seq #[u,v] }:=(sb.2 _ nz).trans a5;have fT:H s.heap.objs.size=none:=I.hok.fresh (Z7 _)
  have J2:Inv X pins σ (upd H s.heap.objs.size (.tup [x,y])) { s with heap:=h2' }:=J.adopt fT I.sz (Yd I.lt) (fun n c e=>by
    obtain ⟨w',q⟩:=I.cell n c e
    exact Ze q.lt) (fun p hp=>Ze (Z9 (I.pin p hp).1)) ⟨by show 2≤sizeLine;decide,[u,v],.cons ru (.cons rv .nil),⟨_,gT,rfl,_,rfl⟩⟩
  have keepB:∀ b o,b≠z→h'.get? b=some o→h2'.get? b=some o:=fun b o hb e=>(sb.2 b hb).trans e;refine ⟨.ref s.heap.objs.size,_,J2,rfl,⟨_,x,y,rfl,fT,rfl,fun zs hz=>by rw [I.list_inj hz qx];exact ex,fun zs hz=>by rw [I.tuple_inj hz qy];exact ey⟩,⟨b1,keepB _ _ D.TIz (a7 _ _ D.TIz D.TITO D.TIi1 D.TIi2 h2),⟨_,_,keepB _ _ D.TOz a2⟩,a3.at fun o e=>keepB _ _ D.i1z e,a4.kp fun o e=>keepB _ _ D.i2z e⟩,fun b hb=>?_⟩;have hb':=(hf b hb).1;have:b≠s.heap.objs.size:=by
   rintro rfl;obtain ⟨o,e⟩:∃ o,s.heap.get? s.heap.objs.size=some o:=by
    simp only [Zv,Zr,or_false] at hb;rcases hb with e | e | e | e | e <;> rw [e]
    ·exact ⟨_,h1⟩
    ·exact ⟨_,h3⟩
    ·obtain ⟨o,q,_⟩:=h4;exact ⟨o,q⟩
    ·obtain ⟨o,q,_⟩:=h5;exact ⟨o,q⟩
    ·exact ⟨_,h2⟩
   exact Y1 _ (Z9 e)
  rw [zAa this];exact hb'
 done:=by
  intro X hP hw hK hc i pins s σ H E I hf st hg;subst hP hw hK;obtain ⟨h1,h2,⟨a,c,h3⟩,h4,h5⟩:=st;obtain ⟨xs,ys,qx,qy,hend⟩:=hg;obtain ⟨its,rx,px,_⟩:=I.list qx;obtain ⟨jts,ry,py,_⟩:=I.tuple qy;have e1:=rx.length;have e2:=ry.length;refine zDu D h1 h2 h3 h4 h5 px.isList py (I.ok.hd hc) (fun u' v' h' eu ev=>?_) fun h' _ kk=>⟨rfl,I.turns (t':=s.toks) (ch:=[z,TO,i1,i2,TI]) (fun b o hb e=>?_) hf⟩
  ·exfalso;have l1:=(Array.getElem?_eq_some_iff.mp eu).1;have l2:=(Array.getElem?_eq_some_iff.mp ev).1;simp at l1 l2;omega
  ·simp only [Zv,Zr,or_false,not_or] at hb;exact kk b o hb.1 hb.2.1 hb.2.2.1 hb.2.2.2.1 e
 self:=fun _ _ _ _ _ st h=>wpAny_pyIter_zip st.1 h
noncomputable def zmI (h:Heap) (l:Addr):Heap:=h.push { cls:=.type "list_iterator",data:=.fields #[.ref l,.int 0 0] }
noncomputable def zmZ (h:Heap) (l1 l2:Addr):Heap:=(ztP (ztP (ztI (zmI h l1) l2) (.ref h.objs.size) (.ref (zmI h l1).objs.size)) .none .none).push { cls:=.type "zip",data:=.fields #[.none,.bool false,.bool false,.ref (ztI (zmI h l1) l2).objs.size,.ref (ztP (ztI (zmI h l1) l2) (.ref h.objs.size) (.ref (zmI h l1).objs.size)).objs.size] }
theorem meets_zipm (l1 l2:Addr) (xs ys:Array Value) :
  Meets (Builtin.«zip.__new__» ⟨[.type "zip",.ref l1,.ref l2],[]⟩) (fun _ R s=>s.heap.IsList l1 xs∧IsTup s.heap l2 ys ∧
   R (.ok (.ret (.ref (ztP (ztP (ztI (zmI s.heap l1) l2) (.ref s.heap.objs.size) (.ref (zmI s.heap l1).objs.size)) .none .none).objs.size))) { s with heap:=zmZ s.heap l1 l2 }) :=
 .of_wp fun prog w A R s h=>by
  obtain ⟨hp,g,d,tk,os⟩:=s;obtain ⟨q1,q2,h⟩:=h;have hsub:=sub_zip;have L1:Heap.IsList (Shared.heap ⟨hp,g,d,tk,os⟩) l1 xs:=q1;have L2:IsTup (Shared.heap ⟨hp.push { cls:=.type "list_iterator",data:=.fields #[.ref l1,.int 0 0] },g,d,tk,os⟩) l2 ys:=IsTup.push q2 _
  wp_walk using wpAny_pyIter_list L1,iter_tuple L2
  exact ⟨_,rfl,h⟩
section
variable {P:Program}{w:World}{A:Around}{E:Value→Shared→Prop}{s:Shared}
theorem call_zipm {l1 l2:Addr}{xs ys:Array Value}{Q:Value→Shared→Prop} (t1:s.heap.IsList l1 xs) (t2:IsTup s.heap l2 ys)
  (h:∀ h',IsZip h' (s.heap.objs.size + 4) (s.heap.objs.size + 2) (s.heap.objs.size + 3) .none→IsPair h' (s.heap.objs.size + 2) (.ref s.heap.objs.size) (.ref (s.heap.objs.size + 1)) →
   IsPair h' (s.heap.objs.size + 3) .none .none→h'.IsListIter s.heap.objs.size l1 0→IsTupIter h' (s.heap.objs.size + 1) l2 0 →
   (∀ c o,s.heap.get? c=some o→h'.get? c=some o)→Q (.ref (s.heap.objs.size + 4)) { s with heap:=h' }) :
  wpAny (model P w) A (call (.type "zip") [.ref l1,.ref l2]) Q E s:=by
 refine callType_new F.called_zip (by decide) (F.typeCall_zip_2 _ _) (F.newCall_zip_2 _ _) (fun obj=>F.args_object_init_3 obj _ _) F.entry_zip_new (meets_zipm l1 l2 xs ys) ⟨t1,t2,?_⟩;have sI:∀ (h:Heap) (l:Addr),(ztI h l).objs.size=h.objs.size + 1:=fun h l=>Y3 ..;have sM:∀ (h:Heap) (l:Addr),(zmI h l).objs.size=h.objs.size + 1:=fun h l=>Y3 ..;have kM:∀ {h:Heap}{l c:Addr}{o:Obj},h.get? c=some o→(zmI h l).get? c=some o:=fun e=>Z2 _ e;have sP:∀ (h:Heap) (a b:Value),(ztP h a b).objs.size=h.objs.size + 1:=fun h a b=>Y3 ..;have kI:∀ {h:Heap}{l c:Addr}{o:Obj},h.get? c=some o→(ztI h l).get? c=some o:=fun e=>Z2 _ e;have kP:∀ {h:Heap}{a b:Value}{c:Addr}{o:Obj},h.get? c=some o→(ztP h a b).get? c=some o:=fun e=>Z2 _ e;have kZ:∀ {c:Addr}{o:Obj},(ztP (ztP (ztI (zmI s.heap l1) l2) (.ref s.heap.objs.size) (.ref (zmI s.heap l1).objs.size)) .none .none).get? c=some o→(zmZ s.heap l1 l2).get? c=some o:=fun e=>Z2 _ e;have g5:(zmZ s.heap l1 l2).get? (ztP (ztP (ztI (zmI s.heap l1) l2) (.ref s.heap.objs.size) (.ref (zmI s.heap l1).objs.size)) .none .none).objs.size=some _:=Za _ rfl;have g4:(zmZ s.heap l1 l2).get? (ztP (ztI (zmI s.heap l1) l2) (.ref s.heap.objs.size) (.ref (zmI s.heap l1).objs.size)).objs.size=some { cls:=.type "tuple",data:=.seq #[.none,.none] }:=kZ (Za _ rfl);have g3:(zmZ s.heap l1 l2).get? (ztI (zmI s.heap l1) l2).objs.size=some { cls:=.type "tuple",data:=.seq #[(.ref s.heap.objs.size),(.ref (zmI s.heap l1).objs.size)] }:=kZ (kP (Za _ rfl));have g2:(zmZ s.heap l1 l2).get? (zmI s.heap l1).objs.size=some { cls:=.type "tuple_iterator",data:=.fields #[.ref l2,.int 0 0] }:=kZ (kP (kP (Za _ rfl)));have g1:(zmZ s.heap l1 l2).get? s.heap.objs.size=some { cls:=.type "list_iterator",data:=.fields #[.ref l1,.int 0 0] }:=kZ (kP (kP (kI (Za _ rfl))));simp only [sI,sM,sP] at g5 g4 g3 g2;show _∧_;simp only [sI,sM,sP];exact ⟨⟨_,g5,rfl⟩,h _ g5 g3 g4 ⟨_,g1,rfl,rfl⟩ ⟨_,g2,rfl,rfl⟩ fun c o x=>kZ (kP (kP (kI (kM x))))⟩
end
noncomputable def iZipM (K:PySem.W.Frag) (ta:TA):TI:=fun σ H R=>ta σ H fun vs H1=>∃ a b,vs=[.ref a,.ref b]∧(∃ xs,SqL K H1 a xs)∧(∃ ys,SqT K H1 b ys)∧R (Itlt K a b) H1
theorem pi_zipM {X:Cx}{es:List Expr}{x1:_}{tp:Pos}{e1 e2:Expr}{ta:TA}{p pos:Pos} (hg:Gl X "zip") (hm:X.mg "zip" = none) (ha:PA X [e1,e2] ta) (hs:starEach [e1,e2] X.env=[(false,eval e1 X.env),(false,eval e2 X.env)]:=by rfl) (hs2:starEach [e2] X.env=[(false,eval e2 X.env)]:=by rfl) :
  PI X (.Tuple es x1 tp) (.Call (.Name "zip" p) [e1,e2] [] pos) (iZipM X.K ta):=by
 intro pins s σ H R I h;refine Call_ (zE4 I hg hm boot_zip (PyProof.Rows.callWith_type1 (thn (ha pos pins s σ H _ I h) fun us s1 ⟨vs,H1,I1,r1,q1⟩=>?_) (by rw [hs,hs2]) (by rw [hs2];rfl)));obtain ⟨a,b,rfl,⟨xs,qx⟩,⟨ys,qy⟩,q⟩:=q1;obtain ⟨u,v,rfl,ru,rv⟩:=v2 r1;cases (show u=Value.ref a from ru);cases (show v=Value.ref b from rv);obtain ⟨its,rx,px,_⟩:=I1.list qx;obtain ⟨jts,ry,py,_⟩:=I1.tuple qy;have la:a < s1.heap.objs.size:=by obtain ⟨_,e,_⟩:=px.isList;exact Z9 e
 refine call_zipm px.isList py fun h' a1 a2 a3 a4 a5 a7=>wpAny_pyIter_zip a1 ?_;refine ⟨s1.heap.objs.size + 4,[s1.heap.objs.size + 4,s1.heap.objs.size + 3,s1.heap.objs.size,s1.heap.objs.size + 1,s1.heap.objs.size + 2],_,_,H1,rfl,I1.kept (t':=s1.toks) a7,turn_zipm (PyProof.Rows.zipApart_new la py.lt),⟨a1,a2,⟨_,_,a3⟩,a4,a5⟩,fun c hc=>?_,q⟩;have hc':s1.heap.objs.size≤c:=by
  simp only [Zv,Zr,or_false] at hc;rcases hc with e | e | e | e | e
  ·rw [e];exact Nat.le_add_right _ _
  ·rw [e];exact Nat.le_add_right _ _
  ·rw [e];exact Z7 _
  ·rw [e];exact Nat.le_add_right _ _
  ·rw [e];exact Nat.le_add_right _ _
 exact I1.fpOk hc' (I1.hok.fresh hc')
end L2
namespace L2.W
open PySem PySem.Spec PyProof.Rows
noncomputable def pi_zipM:=by have h:=@L2.pi_zipM;rw [ePA,ePI] at h;exact @h
end L2.W
namespace My
open PySem L2
noncomputable def top (i:Nat):Stmt:=PySem.Challenge.pw_cometorest_k33_whole_what_comes_of_rules.main.body.getD i (.Pass ⟨0,0,0,0⟩)
noncomputable abbrev sIsName:Stmt:=top 11
noncomputable abbrev sUnlike:Stmt:=top 12
noncomputable abbrev sPair:Stmt:=top 13
noncomputable abbrev sFields:Stmt:=top 14
noncomputable abbrev sCount:Stmt:=top 15
noncomputable abbrev sInit:Stmt:=inClass (top 16) 0
noncomputable abbrev sFirst:Stmt:=top 17
noncomputable abbrev sPlaceOf:Stmt:=top 18
noncomputable abbrev sHasVal:Stmt:=top 19
noncomputable abbrev sValueIn:Stmt:=top 20
noncomputable abbrev sWithVal:Stmt:=top 21
noncomputable abbrev sAreKinds:Stmt:=top 22
noncomputable abbrev sPlaced:Stmt:=top 23
noncomputable abbrev sInitKs:Stmt:=inClass (top 24) 0
noncomputable abbrev sOf:Stmt:=inClass (top 24) 2
noncomputable abbrev sChkNames:Stmt:=top 28
noncomputable abbrev sChkConds:Stmt:=top 29
noncomputable abbrev sAlH:Stmt:=inClass (top 30) 0
noncomputable abbrev sWaH:Stmt:=inClass (top 31) 0
noncomputable abbrev sInitIs:Stmt:=inClass (top 32) 0
noncomputable abbrev sIsH:Stmt:=inClass (top 32) 1
noncomputable abbrev sInitMe:Stmt:=inClass (top 33) 0
noncomputable abbrev sMeH:Stmt:=inClass (top 33) 1
noncomputable abbrev sInitOw:Stmt:=inClass (top 34) 0
noncomputable abbrev sOwH:Stmt:=inClass (top 34) 1
noncomputable abbrev sInitNo:Stmt:=inClass (top 35) 0
noncomputable abbrev sNoH:Stmt:=inClass (top 35) 1
noncomputable abbrev sInitBo:Stmt:=inClass (top 36) 0
noncomputable abbrev sBoH:Stmt:=inClass (top 36) 1
noncomputable abbrev sInitEi:Stmt:=inClass (top 37) 0
noncomputable abbrev sEiH:Stmt:=inClass (top 37) 1
noncomputable abbrev sInitTM:Stmt:=inClass (top 40) 0
noncomputable abbrev sTmP:Stmt:=inClass (top 40) 2
noncomputable abbrev sTmO:Stmt:=inClass (top 40) 3
noncomputable abbrev sInitTS:Stmt:=inClass (top 41) 0
noncomputable abbrev sTsA:Stmt:=inClass (top 41) 2
noncomputable abbrev sTsP:Stmt:=inClass (top 41) 3
noncomputable abbrev sTsO:Stmt:=inClass (top 41) 4
noncomputable abbrev sTtP:Stmt:=inClass (top 42) 1
noncomputable abbrev sTtO:Stmt:=inClass (top 42) 2
noncomputable abbrev sOtherKinds:Stmt:=top 43
noncomputable abbrev sInitR:Stmt:=inClass (top 44) 0
noncomputable abbrev sCanUse:Stmt:=top 45
noncomputable abbrev sBehind:Stmt:=top 46
noncomputable abbrev sCellAt:Stmt:=top 48
noncomputable abbrev sMixed:Stmt:=top 49
noncomputable abbrev sDigits:Stmt:=top 50
noncomputable abbrev sNext:Stmt:=top 51
noncomputable abbrev sKinds:Stmt:=top 52
noncomputable abbrev sMade:Stmt:=top 53
noncomputable abbrev sLStates:Stmt:=top 54
noncomputable abbrev sLFields:Stmt:=top 55
noncomputable abbrev sOwner:Stmt:=top 56
noncomputable abbrev sLSits:Stmt:=top 57
noncomputable abbrev sLPair:Stmt:=top 58
noncomputable abbrev sLeaf:Stmt:=top 59
noncomputable abbrev sTree:Stmt:=top 60
noncomputable abbrev sObject:Stmt:=top 61
noncomputable abbrev sValue:Stmt:=top 62
noncomputable abbrev sHolds:Stmt:=top 63
noncomputable abbrev sChange:Stmt:=top 64
noncomputable abbrev sChangeObject:Stmt:=top 65
noncomputable abbrev sRule:Stmt:=top 66
noncomputable abbrev sRuleObject:Stmt:=top 67
noncomputable abbrev sAfter:Stmt:=top 68
noncomputable abbrev sRight:Stmt:=top 69
noncomputable abbrev sLaw:Stmt:=top 70
noncomputable def letters:Str:="abcdefghijklmnopqrstuvwxyz"
structure Tops (K:PySem.W.Frag) (mg:Str→Option Value):Prop where
 isinst:mg "isinstance" = none
 len:mg "len" = none
 all:mg "all" = none
 set:mg "set" = none
 range:mg "range" = none
 str:mg "str" = none
 list:mg "list" = none
 tuple:mg "tuple" = none
 zip:mg "zip" = none
 dict:mg "dict" = none
 min:mg "min" = none
 enum:mg "enumerate" = none
 int:mg "int" = none
 bool:mg "bool" = none
 any:mg "any" = none
 lets:∃ t,mg "LETTERS" = some (.str letters t)
 most:∃ t,mg "MOST_LETTERS" = some (.int 8 t)
 mostS:∃ t,mg "MOST_STATES" = some (.int 8 t)
 least:∃ t,mg "LEAST_CONDITIONS" = some (.int 2 t)
noncomputable def charB (c:Nat):Bool:=decide (c∈letters.cps.toList)
noncomputable def nameB (x:Str):Bool:=decide (1≤x.length) && decide (x.length≤8) && x.cps.toList.all charB
noncomputable def spIsName (K:PySem.W.Frag):Sp:=fun vs H Q _=>(∃ x,vs=[.str x]∧x.length≤1000∧∀ H',Same H H'→Q (.bl (nameB x)) H') ∨
 ∃ v t,vs=[v]∧TyOf K H v t∧PySem.W.kitOne K t (.type "str")=some false∧Q (.bl false) H
section
variable {P:Program}{w:World}{K:PySem.W.Frag}{mg:Str→Option Value}{base:Heap}{CX:CXT}
theorem scIN:FnScope ["thing"] ["thing"] (defScope sIsName):=⟨rfl,rfl,rfl,by decide +kernel,rfl,by decide +kernel,by decide +kernel⟩
theorem ok_isName {f:Addr}{fd:FuncData} (F:Fun K "is_name" "is_name" sIsName f fd) (T:Tops K mg):FnOk P w K mg base CX 1 f fd ["thing"] (spIsName K):=by
 refine F.okC scIN (fun vs H Q E h=>?_) (fun cdv A outer s H vs Q E hr h=>?_)
 ·rcases h with ⟨x,rfl,_⟩ | ⟨v,t,rfl,_⟩ <;> rfl
 ·obtain ⟨tl,hlets⟩:=T.lets;obtain ⟨tm,hmost⟩:=T.most
  refine ⟨_,zA3 (zAn (zAz (zAt (zAh zAo rfl T.isinst PyProof.Rows.boot_isinstance (zA0 (pv 0) (zA0 (zBp (v:=.ty "str") rfl T.str PyProof.Rows.boot_str rfl) zA2))))) (zA5 (zA9 zC7)) zAb)
   (zA5 (zA9 (zCf (zF4 op_le op_le zA4 (zAh call_len_str rfl T.len PySem.boot_len (zA0 (pv 0) zA2)) (zBv (v:=.int 8) rfl hmost ⟨_,rfl⟩))
    (zCe (zAh (zC1 rfl) rfl T.all PyProof.Rows.boot_all (zA0 (zB0 (T:=["sign"]) rfl ScOk.auto (pi_str (pv 0)) (fun _ _ _ _=>zA8 (i:=1) (by decide +kernel:(["thing", "sign"]:List Str).Nodup) rfl (Or.inl rfl)) (fun _ _ _ _=>zB7)
     (fun _ _ _ _=>zAq op_in_str (pv 1) (zBv (v:=.str letters) rfl hlets ⟨_,rfl⟩) rfl)) zA2)))))),?_⟩
  rcases h with ⟨x,rfl,hx,k⟩ | ⟨v,t,rfl,ty,hk,k⟩
  ·refine ⟨_,rfl,_,_,_,_,_,rfl,.str x,rfl,rfl,_,rfl,iteF ?_⟩;have hz:x.length≤sizeLine:=Zn (small1000 hx);refine ⟨_,rfl,x,rfl,hz,_,_,rfl,rfl,_,rfl,?_⟩;refine ite2 (fun h1=>?_) (fun h1=>?_)
   ·refine ⟨_,_,rfl,rfl,_,rfl,?_⟩;refine ite2 (fun h2=>?_) (fun h2=>?_)
    ·refine ⟨_,rfl,x,rfl,comp_chars (fun _=>true) (fun c=>.bl (charB c)) hz (fun c Ry Rn q _=>?_) (fun d hd=>?_)⟩
     ·refine iteT (B:=Rn H) ⟨_,rfl,_,_,rfl,rfl,?_⟩;rw [PySem.StrLaws.found_one];exact q rfl
     ·refine ⟨d,x.cps.toList.map charB,rfl,SqL.of ?_,?_⟩
      ·rw [zA1,List.filter_eq_self.mpr (fun _ _=>rfl),Zq];rfl
      ·have e:nameB x=(x.cps.toList.map charB).all id:=by
        have a1:1≤x.length:=by have:=of_decide_eq_true h1;omega
        have a2:x.length≤8:=by have:=of_decide_eq_true h2;omega
        unfold nameB;rw [decide_eq_true a1,decide_eq_true a2,List.all_map];rfl
       rw [← e];exact k _ (Same.new hd)
    ·have a2:¬ x.length≤8:=fun z=>h2 (decide_eq_true (by omega));have e:nameB x=false:=by unfold nameB;rw [decide_eq_false a2];simp
     rw [← e];exact k _ (Same.refl _)
   ·have a1:¬ 1≤x.length:=fun z=>h1 (decide_eq_true (by omega));have e:nameB x=false:=by unfold nameB;rw [decide_eq_false a1];simp
    refine ⟨false,rfl,iteF ?_⟩;rw [← e];exact k _ (Same.refl _)
  ·exact ⟨_,rfl,_,_,_,_,_,rfl,ty,rfl,hk,_,rfl,iteT k⟩
end
noncomputable def spMixed:Sp:=fun vs H Q _=>∃ c k:Int,vs=[.int c,.int k]∧0≤k∧k≤1000000∧∀ n:Int,0≤n→n < 2147483629→Q (.int n) H
noncomputable def Src (H:Hp) (p:Addr) (k:Int):Prop:=∃ a c j:Int,H p=some (.lst [.int a,.int c,.int j])∧0≤j∧j≤k
noncomputable def spDigits:Sp:=fun vs H Q _=>∃ c:Int,vs=[.int c]∧∀ p H',H p=none→Src H' p 0→Same H H'→(∀ b,b≠p→H' b=H b)→Q (.ref p) H'
noncomputable def spNext:Sp:=fun vs H Q _=>∃ (p:Addr) (m k:Int),vs=[.ref p,.int m]∧Src H p k∧k≤999998∧0 < m∧m < 2 ^ 64 ∧
 ∀ (r:Int) (H':Hp),0≤r→r < m→Src H' p (k + 1)→(∀ b,b≠p→H' b=H b)→Q (.int r) H'
section
variable {P:Program}{w:World}{K:PySem.W.Frag}{mg:Str→Option Value}{base:Heap}{CX:CXT}
theorem scMx:FnScope ["_law_cell", "_law_k", "_law_number"] ["_law_cell", "_law_k"] (defScope sMixed):=⟨rfl,rfl,rfl,by decide +kernel,rfl,by decide +kernel,by decide +kernel⟩
theorem ok_mixed {f:Addr}{fd:FuncData} (F:Fun K "_law_mixed" "_law_mixed" sMixed f fd):FnOk P w K mg base CX 1 f fd ["_law_cell", "_law_k"] spMixed:=by
 refine F.okC scMx (fun vs H Q E h=>?_) (fun cdv A outer s H vs Q E hr h=>?_)
 ·obtain ⟨c,k,rfl,_⟩:=h;rfl
 ·obtain ⟨c,k,rfl,h0,h1,q⟩:=h
  refine ⟨_,zA3 (zAi (i:=2) scMx.nd rfl (Or.inl rfl) (zAv zCk (zAv zDm (zAv zC0 (zAv zC0 (zAv zCk (pv 0) zA4) (zAv zDm zA4 (pv 1))) zA4) zA4) zA4))
   (zA3 (zAi (i:=2) scMx.nd rfl (Or.inl rfl) (zAv zCk (zAv zDm (pv 2) (zAv zC0 (zAv zDz (pv 2) zA4) zA4)) zA4))
   (zA3 (zAi (i:=2) scMx.nd rfl (Or.inl rfl) (zAv zCk (zAv zDm (pv 2) (zAv zC0 (zAv zC0 (zAv zDz (pv 2) zA4) zA4) (pv 1))) zA4))
   (zA5 (zA9 (zAv zCk (zAv zDm (pv 2) (zAv zC0 (zAv zDz (pv 2) zA4) zA4)) zA4))))),?_⟩
  have M:(0:Int) < 2147483629:=by decide
  have lo:∀ z:Int,0≤z % 2147483629:=fun z=>Int.emod_nonneg _ (by decide);have hi:∀ z:Int,z % 2147483629 < 2147483629:=fun z=>Y6 _ M;have cm:∀ z y:Int,CMul (z % 2147483629) y:=fun z y=>by have:=lo z;have:=hi z;exact .inl ⟨by omega,by omega⟩
  refine ⟨_,rfl,_,_,rfl,rfl,M,_,rfl,_,_,rfl,rfl,.inl ⟨by decide,by decide⟩,_,_,rfl,rfl,_,_,rfl,rfl,_,_,rfl,rfl,.inr ⟨by decide,by decide⟩,_,_,rfl,rfl,M,?_⟩;refine ⟨_,rfl,_,rfl,_,_,rfl,rfl,⟨by decide,by decide⟩,_,_,rfl,rfl,_,_,rfl,rfl,cm _ _,_,_,rfl,rfl,M,?_⟩;refine ⟨_,rfl,_,rfl,_,_,rfl,rfl,⟨by decide,by decide⟩,_,_,rfl,rfl,_,rfl,_,_,rfl,rfl,_,_,rfl,rfl,cm _ _,_,_,rfl,rfl,M,?_⟩;refine ⟨_,rfl,_,rfl,_,_,rfl,rfl,⟨by decide,by decide⟩,_,_,rfl,rfl,_,_,rfl,rfl,cm _ _,_,_,rfl,rfl,M,?_⟩;exact q _ (lo _) (hi _)
theorem scDg:FnScope ["_law_cell"] ["_law_cell"] (defScope sDigits):=⟨rfl,rfl,rfl,by decide +kernel,rfl,by decide +kernel,by decide +kernel⟩
theorem ok_digits {f:Addr}{fd:FuncData} (F:Fun K "_law_digits" "_law_digits" sDigits f fd):FnOk P w K mg base CX 1 f fd ["_law_cell"] spDigits:=by
 refine F.okC scDg (fun vs H Q E h=>?_) (fun cdv A outer s H vs Q E hr h=>?_)
 ·obtain ⟨c,rfl,_⟩:=h;rfl
 ·obtain ⟨c,rfl,q⟩:=h;refine ⟨_,zA5 (zA9 (zAm (zA0 (zAv zDm (zAv zDz (pv 0) zA4) (zAv op_sub zA4 (zAv zCk (pv 0) zA4))) (zA0 (pv 0) (zA0 zA4 zA2))))),?_⟩;have a1:0≤c % 2:=Int.emod_nonneg _ (by decide);have a2:c % 2 < 2:=Y6 _ (by decide);refine ⟨_,rfl,_,_,rfl,rfl,⟨by decide,by decide⟩,_,rfl,_,_,rfl,rfl,(by show (0:Int) < 2;decide),_,_,rfl,rfl,_,_,rfl,rfl,.inr ⟨by omega,by omega⟩,_,rfl,(by show 3≤sizeLine;decide),fun p hp=>?_⟩;exact q p _ hp ⟨_,_,0,zA1,by decide,by decide⟩ (Same.new hp) fun b hb=>zAa hb
theorem scNx:FnScope ["_law_source", "_law_many", "_law_found"] ["_law_source", "_law_many"] (defScope sNext):=⟨rfl,rfl,rfl,by decide +kernel,rfl,by decide +kernel,by decide +kernel⟩
theorem ok_next {f fm:Addr}{fd fdm:FuncData} (hC:Calm CX) (F:Fun K "_law_next" "_law_next" sNext f fd) (DM:Def K mg "_law_mixed" sMixed ["_law_cell", "_law_k"] fm fdm):FnOk P w K mg base CX 2 f fd ["_law_source", "_law_many"] spNext:=by
 have GM:FnOk P w K mg base CX 1 fm fdm ["_law_cell", "_law_k"] spMixed:=ok_mixed DM.fn;refine F.okC scNx (fun vs H Q E h=>?_) (fun cdv A outer s H vs Q E hr h=>?_)
 ·obtain ⟨p,m,k,rfl,_⟩:=h;rfl
 ·obtain ⟨p,m,k,rfl,⟨a,c,j,hp,j0,j1⟩,hk,m0,m1,q⟩:=h
  refine ⟨_,zA3 (zAn (zAg op_gt (zAf zAr (pv 0) zA4 (fun _ _=>rfl)) zA4 (nomark _))
    (zA3 (zAi (i:=2) scNx.nd rfl (Or.inl rfl) (zAv zCk (zAf zAr (pv 0) zA4 (fun _ _=>rfl)) (pv 1)))
    (zA3 (zD5 (zAv op_fdivB (zAf zAr (pv 0) zA4 (fun _ _=>rfl)) (pv 1)) (pg_sub (pv 0) zA4 set_list))
    (zA5 (zA9 (pv 2))))) zAb)
   (zA3 (zD5 (zAv zC0 (zAf zAr (pv 0) zA4 (fun _ _=>rfl)) zA4) (pg_sub (pv 0) zA4 set_list))
   (zA5 (zA9 (zAv zCk (zA6 GM hr rfl DM.at_ DM.fn.kp DM.bind .nil (passC hC) (zA0 (zAf zAr (pv 0) zA4 (fun _ _=>rfl)) (zA0 (zAf zAr (pv 0) zA4 (fun _ _=>rfl)) zA2))) (pv 1))))),?_⟩
  have S0:SqL K H p [.int a,.int c,.int j]:=SqL.of hp;refine ⟨_,rfl,p,_,_,_,rfl,rfl,S0,rfl,_,_,rfl,rfl,_,rfl,?_⟩;refine ite2 (fun h0=>?_) (fun h0=>?_)
  ·refine ⟨_,rfl,p,_,_,_,rfl,rfl,S0,rfl,_,rfl,_,_,rfl,rfl,m0,?_⟩;refine ⟨_,rfl,p,_,_,_,rfl,rfl,S0,rfl,_,rfl,_,_,rfl,rfl,⟨m0,m1⟩,?_⟩;refine ⟨_,rfl,p,_,_,0,rfl,rfl,hp,rfl,?_⟩;refine ⟨_,rfl,q _ _ (Int.emod_nonneg _ (by omega)) (Y6 _ m0) ⟨_,_,j,zA1,j0,by omega⟩ fun b hb=>zAa hb⟩
  ·refine ⟨_,rfl,p,_,_,_,rfl,rfl,S0,rfl,_,_,rfl,rfl,?_⟩;refine ⟨_,rfl,p,_,_,2,rfl,rfl,hp,rfl,?_⟩;have S1:SqL K (upd H p (.lst [.int a,.int c,.int (j + 1)])) p [.int a,.int c,.int (j + 1)]:=SqL.of zA1;refine ⟨_,rfl,p,_,_,_,rfl,rfl,S1,rfl,_,rfl,p,_,_,_,rfl,rfl,S1,rfl,c,j + 1,rfl,by omega,by omega,fun n n0 n1=>?_⟩;refine ⟨_,rfl,_,_,rfl,rfl,m0,?_⟩;exact q _ _ (Int.emod_nonneg _ (by omega)) (Y6 _ m0) ⟨_,_,j + 1,zA1,by omega,by omega⟩ fun b hb=>zAa hb
end
theorem zEu {α : Type} (xs:List α) {i:Int} (h0:0≤i) (h1:i < xs.length):∃ c,atI xs i=some c∧c∈xs:=by
 have lt:i.toNat < xs.length:=by omega
 refine ⟨xs[i.toNat],?_,List.getElem_mem _⟩;unfold atI ixN;rw [if_pos h0,if_pos h1];simp [lt]
theorem Src.mono {H:Hp}{p:Addr}{k l:Int} (h:Src H p k) (hl:k≤l):Src H p l:=by
 obtain ⟨a,c,j,e,j0,j1⟩:=h;exact ⟨a,c,j,e,j0,by omega⟩
noncomputable def nameD:PyData→Bool
 | .str x=>nameB x
 | _=>false
noncomputable def strsOf:List PyData→List Str
 | .str x :: r=>x :: strsOf r
 | _ :: r=>strsOf r
 | []=>[]
noncomputable def unlikeB (ds:List PyData):Bool:=ds.all nameD && decide (strsOf ds).Nodup
noncomputable def pairB:PyData→Bool
 | .tuple [_,.list vs]=>decide (0 < vs.length) && unlikeB vs
 | _=>false
noncomputable def firstD:PyData→PyData
 | .tuple (d :: _)=>d
 | _=>.none
noncomputable def fieldsB:PyData→Bool
 | .list ds=>ds.all pairB && unlikeB (ds.map firstD)
 | _=>false
noncomputable def spNameD:Sp:=fun vs H Q _=>∃ v d,vs=[v]∧Has Any H v d∧∀ H',Same H H'→Q (.bl (nameD d)) H'
noncomputable def spUnlike:Sp:=fun vs H Q _=>∃ v ds,vs=[v]∧Has Any H v (.list ds)∧∀ H',Same H H'→Q (.bl (unlikeB ds)) H'
noncomputable def spPair:Sp:=fun vs H Q _=>∃ v d,vs=[v]∧Has Any H v d∧∀ H',Same H H'→Q (.bl (pairB d)) H'
noncomputable def spFields:Sp:=fun vs H Q _=>∃ v d,vs=[v]∧Has Any H v d∧∀ H',Same H H'→Q (.bl (fieldsB d)) H'
theorem strs_all {G:Addr→Prop}{H:Hp}:∀ {xs:List V}{ds:List PyData},HasAll G H xs ds→ds.all nameD=true→xs=(strsOf ds).map V.str∧(strsOf ds).length=ds.length
 | _,_,.nil,_=>⟨rfl,rfl⟩
 | _,_,.cons h t,e=>by
  rw [Yh,Zu] at e;obtain ⟨e1,e2⟩:=e;obtain ⟨q1,q2⟩:=strs_all t e2;cases h with
  | str x _ _=>exact ⟨by rw [q1];rfl,by rw [strsOf,Zi,Zi,q2]⟩
  | non=>cases e1
  | bl b=>cases e1
  | int i=>cases e1
  | lst _ _ _ _=>cases e1
  | tup _ _ _ _=>cases e1
section
variable {P:Program}{w:World}{K:PySem.W.Frag}{mg:Str→Option Value}{base:Heap}{CX:CXT}
theorem name_imp {vs:List V}{H:Hp}{Q:VK}{E:XK} (h:spNameD vs H Q E):spIsName K vs H Q E:=by
 obtain ⟨v,d,rfl,hd,q⟩:=h;cases hd with
 | str x hx ho=>exact .inl ⟨x,rfl,hx,q⟩
 | non=>exact .inr ⟨_,_,rfl,.non,rfl,q _ (Same.refl _)⟩
 | bl b=>exact .inr ⟨_,_,rfl,.bl b,rfl,q _ (Same.refl _)⟩
 | int i=>exact .inr ⟨_,_,rfl,.int i,rfl,q _ (Same.refl _)⟩
 | lst _ e _ _=>exact .inr ⟨_,_,rfl,.lst e,rfl,q _ (Same.refl _)⟩
 | tup _ e _ _=>exact .inr ⟨_,_,rfl,.tup e,rfl,q _ (Same.refl _)⟩
theorem zCt {f:Addr}{fd:FuncData} (F:Fun K "is_name" "is_name" sIsName f fd) (T:Tops K mg):FnOk P w K mg base CX 1 f fd ["thing"] spNameD:=(ok_isName F T).imp fun _ _ _ _ h=>name_imp h
theorem scUl:FnScope ["things"] ["things"] (defScope sUnlike):=⟨rfl,rfl,rfl,by decide +kernel,rfl,by decide +kernel,by decide +kernel⟩
theorem zCl {f fn:Addr}{fd fdn:FuncData} (hC:Calm CX) (T:Tops K mg) (F:Fun K "are_unlike_names" "are_unlike_names" sUnlike f fd) (DN:Def K mg "is_name" sIsName ["thing"] fn fdn):FnOk P w K mg base CX 2 f fd ["things"] spUnlike:=by
 have GN:FnOk P w K mg base CX 1 fn fdn ["thing"] spNameD:=zCt DN.fn T;refine F.okC scUl (fun vs H Q E h=>?_) (fun cdv A outer s H vs Q E hr h=>?_)
 ·obtain ⟨v,ds,rfl,_⟩:=h;rfl
 ·obtain ⟨v,ds,rfl,hd,k⟩:=h;obtain ⟨a,xs,rfl,_,ha,hz,hx⟩:=hd.list_inv;have hzl:xs.length≤sizeLine:=Zn (small1000 hz)
  refine ⟨_,zA5 (zA9 (zCf (zAh (zC1 rfl) rfl T.all PyProof.Rows.boot_all (zA0 (zB0 (T:=["thing"]) rfl ScOk.auto (zAk (pv 0)) (fun _ _ _ _=>zA8 (i:=1) (by decide +kernel:(["things", "thing"]:List Str).Nodup) rfl (Or.inl rfl)) (fun _ _ _ _=>zB7)
    (fun _ _ _ _=>zA6 GN hr rfl DN.at_ DN.fn.kp DN.bind .nil (passC hC) (zA0 (pv 1) zA2))) zA2))
   (zCe (zAq zBa (zAh zDk rfl T.len PySem.boot_len (zA0 (zAs (zFf rfl) rfl T.set PyProof.Rows.boot_set (zA0 (pv 0) zA2)) zA2)) (zAh zAu rfl T.len PySem.boot_len (zA0 (pv 0) zA2)) (nomark _))))),?_⟩
  refine ⟨_,rfl,a,rfl,⟨xs,SqL.of ha⟩,zAj (xs:=xs) (fun i ys H'=>Same H H'∧ys=(ds.take i).map fun d=>V.bl (nameD d)) ⟨Same.refl _,rfl⟩ (fun i ys H' p=>SqL.of (p.1 _ _ ha)) (fun i ys H' hi p=>?_) ?_ ?_⟩
  ·rw [p.2,Z0];have:=Zx i ds;omega
  ·rintro i x ys H' hi ⟨s1,rfl⟩ N hN;obtain ⟨d,hd',hv⟩:=hx.get hi;refine pick ?_;refine ⟨_,rfl,_,d,rfl,hv.mono s1,fun H2 s2=>hN _ _ ⟨s1.trans s2,?_⟩⟩;rw [Z5,hd',Z6];rfl
  ·rintro ys H' ⟨s1,rfl⟩ p hp;have e:(ds.take xs.length).map (fun d=>V.bl (nameD d))=(ds.map nameD).map V.bl:=by
    rw [hx.length,Zb,Zq];rfl
   have s2:Same H (upd H' p (.lst ((ds.take xs.length).map fun d=>V.bl (nameD d)))):=s1.trans (Same.new hp);refine ⟨p,ds.map nameD,rfl,SqL.of (by rw [zA1,e]),_,rfl,?_⟩;have ea:(ds.map nameD).all id=ds.all nameD:=by rw [List.all_map];rfl
   rw [ea];cases eb:ds.all nameD with
   | false =>
    refine iteF ?_;have e0:unlikeB ds=false:=by unfold unlikeB;rw [eb];rfl
    rw [← e0];exact k _ s2
   | true =>
    refine iteT ?_;obtain ⟨q1,q2⟩:=strs_all hx eb;subst q1;have ha2:=s2 _ _ ha;have hz4:(strsOf ds).length≤4000:=by rw [Z0] at hz;omega
    refine ⟨_,rfl,a,strsOf ds,rfl,SqL.of ha2,hz4,fun d hd2=>?_⟩;refine ⟨d,strsOf ds,rfl,zA1,hz4,?_⟩;refine ⟨_,rfl,a,_,rfl,.inl (SqL.of ((Same.new hd2) _ _ ha2)),rfl,?_⟩;have e1:decide (V.int ((dl (strsOf ds)).length:Int)=V.int (((strsOf ds).map V.str).length:Int))=unlikeB ds:=by
     unfold unlikeB;rw [eb,Bool.true_and,← dl_len_iff,Z0];by_cases q:(dl (strsOf ds)).length=(strsOf ds).length
     ·rw [decide_eq_true q,q];simp
     ·rw [decide_eq_false q,decide_eq_false];intro z;injection z with z;omega
    rw [e1];exact k _ (s2.trans (Same.new hd2))
end
noncomputable def sizeD:PyData→Nat
 | .tuple [_,.list vs]=>vs.length
 | _=>0
noncomputable def countD (ds:List PyData):Int:=ds.foldl (fun m d=>m * (sizeD d:Int)) 1
noncomputable def spCount:Sp:=fun vs H Q _=>∃ v ds,vs=[v]∧Has Any H v (.list ds)∧ds.all pairB=true∧Q (.int (countD ds)) H
theorem zF5 {G:Addr→Prop}{H:Hp}{v:V}{d:PyData} (h:Has G H v d) (e:pairB d=true) :
  ∃ a x y n l vs ys,v=.ref a∧G a∧H a=some (.tup [x,y])∧d=.tuple [n,.list vs]∧Has G H x n∧y=.ref l∧G l∧H l=some (.lst ys)∧ys.length≤1000∧HasAll G H ys vs∧0 < vs.length∧unlikeB vs=true:=by
 cases h with
 | non=>cases e
 | bl b=>cases e
 | int i=>cases e
 | str x _ _=>cases e
 | lst _ _ _ _=>cases e
 | tup g s z q =>
  cases q with
  | nil=>cases e
  | cons h1 q =>
   cases q with
   | nil=>cases e
   | cons h2 q =>
    cases q with
    | cons _ _=>cases h2 <;> cases e
    | nil =>
     cases h2 with
     | non=>cases e
     | bl b=>cases e
     | int i=>cases e
     | str x _ _=>cases e
     | tup _ _ _ _=>cases e
     | lst g2 s2 z2 q2 =>
      have e':(decide _ && unlikeB _)=true:=e;rw [Zu] at e';exact ⟨_,_,_,_,_,_,_,rfl,g,s,rfl,h1,rfl,g2,s2,z2,q2,of_decide_eq_true e'.1,e'.2⟩
section
variable {P:Program}{w:World}{K:PySem.W.Frag}{mg:Str→Option Value}{base:Heap}{CX:CXT}
theorem scPr:FnScope ["thing", "values"] ["thing"] (defScope sPair):=⟨rfl,rfl,rfl,by decide +kernel,rfl,by decide +kernel,by decide +kernel⟩
theorem ok_pair {f fu fn:Addr}{fd fdu fdn:FuncData} (hC:Calm CX) (T:Tops K mg) (F:Fun K "is_pair_with_values" "is_pair_with_values" sPair f fd) (DN:Def K mg "is_name" sIsName ["thing"] fn fdn)
  (DU:Def K mg "are_unlike_names" sUnlike ["things"] fu fdu):FnOk P w K mg base CX 3 f fd ["thing"] spPair:=by
 have GU:FnOk P w K mg base CX 2 fu fdu ["things"] spUnlike:=zCl hC T DU.fn DN;refine F.okC scPr (fun vs H Q E h=>?_) (fun cdv A outer s H vs Q E hr h=>?_)
 ·obtain ⟨v,d,rfl,_⟩:=h;rfl
 ·obtain ⟨v,d,rfl,hd,k⟩:=h
  refine ⟨_,zA3 (zAn (PW.pt (zBi (zAz (zAt (zAh zAo rfl T.isinst PyProof.Rows.boot_isinstance (zA0 (pv 0) (zA0 (zBp (v:=.ty "tuple") rfl T.tuple PyProof.Rows.boot_tuple rfl) zA2)))))
    (zB9 (zAg op_ne (zAh zAu rfl T.len PySem.boot_len (zA0 (pv 0) zA2)) zA4 (nomark _))))) (zA5 (zA9 zC7)) zAb)
   (zA3 (zAi (i:=1) scPr.nd rfl (Or.inl rfl) (zAf zAd (pv 0) zA4 (fun _ _=>rfl)))
   (zA5 (zA9 (zCf (zAh zAo rfl T.isinst PyProof.Rows.boot_isinstance (zA0 (pv 1) (zA0 (zBp (v:=.ty "list") rfl T.list PyProof.Rows.boot_list rfl) zA2)))
    (zCf (zAq op_gt (zAh zAu rfl T.len PySem.boot_len (zA0 (pv 1) zA2)) zA4 (nomark _))
     (zCe (zA6 GU hr rfl DU.at_ DU.fn.kp DU.bind .nil (passC hC) (zA0 (pv 1) zA2)))))))),?_⟩
  have k0:pairB d=false→Q (.bl false) H:=fun e=>by rw [← e];exact k _ (Same.refl _)
  refine ⟨_,rfl,?_⟩;cases hd with
  | non=>exact ⟨_,_,_,_,_,rfl,.non,rfl,rfl,_,rfl,iteT (iteT (k0 rfl))⟩
  | bl b=>exact ⟨_,_,_,_,_,rfl,(.bl b),rfl,rfl,_,rfl,iteT (iteT (k0 rfl))⟩
  | int i=>exact ⟨_,_,_,_,_,rfl,(.int i),rfl,rfl,_,rfl,iteT (iteT (k0 rfl))⟩
  | str x _ _=>exact ⟨_,_,_,_,_,rfl,(.str x),rfl,rfl,_,rfl,iteT (iteT (k0 rfl))⟩
  | lst _ e _ _=>exact ⟨_,_,_,_,_,rfl,(.lst e),rfl,rfl,_,rfl,iteT (iteT (k0 rfl))⟩
  | @tup a xs ds _ e z q =>
   refine ⟨_,_,_,_,_,rfl,.tup e,rfl,rfl,_,rfl,iteF ?_⟩;refine ⟨_,rfl,a,xs,rfl,.inr (SqT.of e),rfl,_,rfl,?_⟩;have hl:=q.length;by_cases h2:xs.length=2
   ·rw [decide_eq_true (show V.int (xs.length:Int)=V.int 2 by rw [h2];rfl)];refine iteF ?_;obtain ⟨d0,d1,rfl⟩:∃ d0 d1,ds=[d0,d1]:=by
     match ds,hl.symm.trans h2 with
     | [d0,d1],_=>exact ⟨d0,d1,rfl⟩
    cases q with
    | @cons x0 _ _ _ q0 q =>
     cases q with
     | @cons x1 _ _ _ q1 q =>
      cases q;refine ⟨_,rfl,a,_,_,x1,rfl,rfl,SqT.of e,rfl,?_⟩;refine ⟨_,rfl,?_⟩;cases q1 with
      | non=>exact ⟨_,_,_,_,_,rfl,.non,rfl,rfl,_,rfl,iteF (k0 rfl)⟩
      | bl b=>exact ⟨_,_,_,_,_,rfl,(.bl b),rfl,rfl,_,rfl,iteF (k0 rfl)⟩
      | int i=>exact ⟨_,_,_,_,_,rfl,(.int i),rfl,rfl,_,rfl,iteF (k0 rfl)⟩
      | str x _ _=>exact ⟨_,_,_,_,_,rfl,(.str x),rfl,rfl,_,rfl,iteF (k0 rfl)⟩
      | tup _ e1 _ _=>exact ⟨_,_,_,_,_,rfl,(.tup e1),rfl,rfl,_,rfl,iteF (k0 rfl)⟩
      | @lst l ys vs g1 e1 z1 q1 =>
       refine ⟨_,_,_,_,_,rfl,.lst e1,rfl,rfl,_,rfl,iteT ?_⟩;refine ⟨_,rfl,l,ys,rfl,.inl (SqL.of e1),_,_,rfl,rfl,_,rfl,?_⟩;refine ite2 (fun h0=>?_) (fun h0=>?_)
       ·refine ⟨_,rfl,_,vs,rfl,.lst g1 e1 z1 q1,fun H' s'=>?_⟩;have e0:pairB (.tuple [d0,.list vs])=unlikeB vs:=by
         show (decide (0 < vs.length) && unlikeB vs)=_;rw [decide_eq_true,Bool.true_and];have:=q1.length;have:=of_decide_eq_true h0;omega
        rw [← e0];exact k _ s'
       ·refine k0 ?_;show (decide (0 < vs.length) && unlikeB vs)=_;rw [decide_eq_false,Bool.false_and];have:=q1.length;intro z0;exact h0 (decide_eq_true (by omega))
   ·rw [decide_eq_false (show ¬ V.int (xs.length:Int)=V.int 2 by intro z0;injection z0 with z0;omega)];refine iteT (k0 ?_)
    match ds,hl with
    | [],_=>rfl
    | [_],_=>rfl
    | [_,_],hl=>exact absurd hl h2
    | _ :: d1 :: _ :: _,_=>cases d1 <;> rfl
end
theorem all_get {ds:List PyData}{f:PyData→Bool}{i:Nat}{d:PyData} (h:ds.all f=true) (e:ds[i]? = some d):f d=true:=List.all_eq_true.mp h d (Z1 e)
section
variable {P:Program}{w:World}{K:PySem.W.Frag}{mg:Str→Option Value}{base:Heap}{CX:CXT}
theorem scFd:FnScope ["things"] ["things"] (defScope sFields):=⟨rfl,rfl,rfl,by decide +kernel,rfl,by decide +kernel,by decide +kernel⟩
theorem ok_fields {f fp fu fn:Addr}{fd fdp fdu fdn:FuncData} (hC:Calm CX) (T:Tops K mg) (F:Fun K "are_fields" "are_fields" sFields f fd) (DN:Def K mg "is_name" sIsName ["thing"] fn fdn)
  (DU:Def K mg "are_unlike_names" sUnlike ["things"] fu fdu) (DP:Def K mg "is_pair_with_values" sPair ["thing"] fp fdp):FnOk P w K mg base CX 4 f fd ["things"] spFields:=by
 have GU:FnOk P w K mg base CX 2 fu fdu ["things"] spUnlike:=zCl hC T DU.fn DN;have GP:FnOk P w K mg base CX 3 fp fdp ["thing"] spPair:=ok_pair hC T DP.fn DN DU;refine F.okC scFd (fun vs H Q E h=>?_) (fun cdv A outer s H vs Q E hr h=>?_)
 ·obtain ⟨v,d,rfl,_⟩:=h;rfl
 ·obtain ⟨v,d,rfl,hd,k⟩:=h;have hr2:=hr.mono (show 2≤3 by decide)
  refine ⟨_,zA3 (zAn (PW.pt (zBi (zAz (zAt (zAh zAo rfl T.isinst PyProof.Rows.boot_isinstance (zA0 (pv 0) (zA0 (zBp (v:=.ty "list") rfl T.list PyProof.Rows.boot_list rfl) zA2)))))
    (zB9 (zAz (zAt (zAh (zC1 rfl) rfl T.all PyProof.Rows.boot_all (zA0 (zB0 (T:=["thing"]) rfl ScOk.auto (zAk (pv 0)) (fun _ _ _ _=>zA8 (i:=1) (by decide +kernel:(["things", "thing"]:List Str).Nodup) rfl (Or.inl rfl)) (fun _ _ _ _=>zB7)
    (fun _ _ _ _=>zA6 GP hr rfl DP.at_ DP.fn.kp DP.bind .nil (passC hC) (zA0 (pv 1) zA2))) zA2))))))) (zA5 (zA9 zC7)) zAb)
   (zA5 (zA9 (zA6 GU hr2 rfl DU.at_ DU.fn.kp DU.bind .nil (passC hC) (zA0 (zB0 (T:=["thing"]) rfl ScOk.auto (zAk (pv 0)) (fun _ _ _ _=>zA8 (i:=1) (by decide +kernel:(["things", "thing"]:List Str).Nodup) rfl (Or.inl rfl)) (fun _ _ _ _=>zB7)
    (fun _ _ _ _=>zAf (r:=rIxT K) zAd (pv 1) zA4 (fun _ _=>rfl))) zA2)))),?_⟩
  have k0:fieldsB d=false→∀ H',Same H H'→Q (.bl false) H':=fun e H' s'=>by rw [← e];exact k _ s'
  refine ⟨_,rfl,?_⟩;cases hd with
  | non=>exact ⟨_,_,_,_,_,rfl,.non,rfl,rfl,_,rfl,iteT (iteT (k0 rfl _ (Same.refl _)))⟩
  | bl b=>exact ⟨_,_,_,_,_,rfl,(.bl b),rfl,rfl,_,rfl,iteT (iteT (k0 rfl _ (Same.refl _)))⟩
  | int i=>exact ⟨_,_,_,_,_,rfl,(.int i),rfl,rfl,_,rfl,iteT (iteT (k0 rfl _ (Same.refl _)))⟩
  | str x _ _=>exact ⟨_,_,_,_,_,rfl,(.str x),rfl,rfl,_,rfl,iteT (iteT (k0 rfl _ (Same.refl _)))⟩
  | tup _ e _ _=>exact ⟨_,_,_,_,_,rfl,(.tup e),rfl,rfl,_,rfl,iteT (iteT (k0 rfl _ (Same.refl _)))⟩
  | @lst a xs ds _ ha hz hx =>
   refine ⟨_,_,_,_,_,rfl,.lst ha,rfl,rfl,_,rfl,iteF ?_⟩;refine ⟨_,rfl,a,rfl,⟨xs,SqL.of ha⟩,zAj (xs:=xs) (fun i ys H'=>Same H H'∧ys=(ds.take i).map fun d=>V.bl (pairB d)) ⟨Same.refl _,rfl⟩ (fun i ys H' p=>SqL.of (p.1 _ _ ha)) (fun i ys H' hi p=>?_) ?_ ?_⟩
   ·rw [p.2,Z0];have:=Zx i ds;have:=small1000 hz;omega
   ·rintro i x ys H' hi ⟨s1,rfl⟩ N hN;obtain ⟨d,hd',hv⟩:=hx.get hi;refine pick ?_;refine ⟨_,rfl,_,d,rfl,hv.mono s1,fun H2 s2=>hN _ _ ⟨s1.trans s2,?_⟩⟩;rw [Z5,hd',Z6];rfl
   ·rintro ys H' ⟨s1,rfl⟩ p hp;have e:(ds.take xs.length).map (fun d=>V.bl (pairB d))=(ds.map pairB).map V.bl:=by
     rw [hx.length,Zb,Zq];rfl
    have s2:Same H (upd H' p (.lst ((ds.take xs.length).map fun d=>V.bl (pairB d)))):=s1.trans (Same.new hp);refine ⟨p,ds.map pairB,rfl,SqL.of (by rw [zA1,e]),_,rfl,?_⟩;have ea:(ds.map pairB).all id=ds.all pairB:=by rw [List.all_map];rfl
    rw [ea];cases eb:ds.all pairB with
    | false =>
     refine iteT (k0 ?_ _ s2);show (ds.all pairB && _)=false;rw [eb];rfl
    | true =>
     refine iteF ?_;have ha2:=s2 _ _ ha;generalize upd H' p (.lst ((ds.take xs.length).map fun d=>V.bl (pairB d)))=H3 at s2 ha2 ⊢;refine ⟨_,rfl,a,rfl,⟨xs,SqL.of ha2⟩,zAj (xs:=xs) (fun i ys H'=>H'=H3∧HasAll Any H3 ys ((ds.take i).map firstD)) ⟨rfl,.nil⟩ (fun i ys H' p=>by rw [p.1];exact SqL.of ha2) (fun i ys H' hi p=>?_) ?_ ?_⟩
     ·have:=p.2.length;rw [Z0] at this;have:=Zx i ds;have:=small1000 hz;omega
     ·rintro i x ys H' hi ⟨rfl,hy⟩ N hN;obtain ⟨d,hd',hv⟩:=hx.get hi;obtain ⟨b,x0,y0,n,l,vs,zs,rfl,_,hb,rfl,hn,_⟩:=zF5 hv (all_get eb hd');refine pick ?_;refine ⟨_,rfl,b,_,_,x0,rfl,rfl,SqT.of (s2 _ _ hb),rfl,hN _ _ ⟨rfl,?_⟩⟩;rw [Z5,hd',Z6];exact hy.snoc (hn.mono s2)
     ·rintro ys H' ⟨rfl,hy⟩ q hq;have s3:=s2.trans (Same.new (o:=.lst ys) hq);have hl:ys.length≤1000:=by
       have:=hy.length;rw [Z0] at this;have:=Zx xs.length ds;omega
      refine ⟨_,ds.map firstD,rfl,.lst trivial zA1 hl ?_,fun H4 s4=>?_⟩
      ·rw [hx.length,Zb] at hy;exact hy.mono (Same.new hq)
      ·have e1:fieldsB (.list ds)=unlikeB (ds.map firstD):=by
        show (ds.all pairB && unlikeB (ds.map firstD))=_;rw [eb];rfl
       rw [← e1];exact k _ (s3.trans s4)
theorem scCt:FnScope ["fields", "many", "field"] ["fields"] (defScope sCount):=⟨rfl,rfl,rfl,by decide +kernel,rfl,by decide +kernel,by decide +kernel⟩
theorem ok_count {f:Addr}{fd:FuncData} (T:Tops K mg) (F:Fun K "count_states" "count_states" sCount f fd):FnOk P w K mg base CX 1 f fd ["fields"] spCount:=by
 refine F.okC scCt (fun vs H Q E h=>?_) (fun cdv A outer s H vs Q E hr h=>?_)
 ·obtain ⟨v,ds,rfl,_⟩:=h;rfl
 ·obtain ⟨v,ds,rfl,hd,eb,k⟩:=h;obtain ⟨a,xs,rfl,_,ha,hz,hx⟩:=hd.list_inv
  refine ⟨_,zA3 (zAi (i:=1) scCt.nd rfl (Or.inl rfl) zA4)
   (zA3 (zBt PassesOwn.never rfl (zAk (pv 0)) (zA8 (i:=2) scCt.nd rfl (Or.inl rfl))
    (zA5 (zAi (i:=1) scCt.nd rfl (Or.inl rfl) (zAv zDm (pv 1) (zAh zAu rfl T.len PySem.boot_len (zA0 (zAf zAd (pv 2) zA4 (fun _ _=>rfl)) zA2))))))
   (zA5 (zA9 (pv 1)))),?_⟩
  refine ⟨_,rfl,a,rfl,⟨xs,SqL.of ha⟩,zBs (K:=K) (a:=a) (xs:=xs) (fun i σ H2=>∃ u,σ = [some (.ref a),some (.int (countD (ds.take i))),u]∧H2=H) ⟨none,rfl,rfl⟩ (fun i σ H2 _ ⟨_,_,e⟩=>by rw [e];exact SqL.of ha) ?_ ?_⟩
  ·rintro i x σ H2 hi ⟨u,rfl,rfl⟩;obtain ⟨d,hd',hv⟩:=hx.get hi;obtain ⟨b,x0,y0,n,l,vs,zs,rfl,_,hb,rfl,hn,rfl,_,hl,hzl,hvs,_⟩:=zF5 hv (all_get eb hd');refine ⟨_,rfl,_,rfl,b,_,_,_,rfl,rfl,SqT.of hb,rfl,l,zs,rfl,.inl (SqL.of hl),_,_,rfl,rfl,.inr ⟨by omega,by omega⟩,⟨some (.ref b),?_,rfl⟩⟩;have e:countD (ds.take (i + 1))=countD (ds.take i) * (zs.length:Int):=by
    rw [Z5,hd'];unfold countD;rw [List.foldl_append];show _ * ((sizeD (.tuple [n,.list vs]):Nat):Int)=_;rw [hvs.length];rfl
   rw [e];rfl
  ·rintro σ H2 ⟨u,rfl,rfl⟩;refine ⟨_,rfl,?_⟩;rw [hx.length,Zb];exact k
end
structure FunD (K:PySem.W.Frag) (x qual:Str) (st:Stmt) (dV:Value) (f:Addr) (fd:FuncData):Prop where
 ex:∃ (oc:Value) (od:Option Addr) (kV doc pm:Value) (an:Option Addr) (cdv ct:Value) (osl:Array (Option Value)),
  fd=PySem.W.fnOf x qual (defArgs st) (defBody st) (defScope st) dV kV doc pm an cdv ct∧K.lookup f=some ⟨oc,od,.func fd,osl⟩∧PySem.W.codeIn K cdv qual=true
theorem FunD.okC {P:Program}{w:World}{K:PySem.W.Frag}{mg:Str→Option Value}{base:Heap}{CX:CXT}{x qual:Str}{st:Stmt}{dV:Value}{f:Addr}{fd:FuncData}{N ps:List Str}{k:Nat}{sp:Sp} (F:FunD K x qual st dV f fd) (S:FnScope N ps (defScope st)) (len:∀ vs H Q E,sp vs H Q E→vs.length=ps.length)
  (hbody:∀ (cdv:Value) (A:Around) (outer:List Env) (s:Shared) (H:Hp) (vs:List V) (Q:VK) (E:XK),Room k (A.deeper (PyProof.Rows.envOfC qual (defScope st) s.heap.objs.size f cdv))→sp vs H Q E →
   ∃ t,PSs (cxOf CX P w K mg base N qual (defScope st) f cdv A outer s H E).nox (defBody st) t∧t { nx:=fun _ H'=>Q .non H',rt:=Q } (start N vs) H):FnOk P w K mg base CX (k + 1) f fd ps sp:=by
 obtain ⟨oc,od,kV,doc,pm,an,cdv,ct,osl,rfl,lk,hcd⟩:=F.ex;refine fn_of lk hcd S len fun A outer s H vs Q E hr hsp=>?_;obtain ⟨t,h,q⟩:=hbody cdv A outer s H vs Q E hr hsp;exact ⟨t,h.nox,q⟩
theorem fnf:¬ (("name" : Str) = "fields"):=by decide +kernel
theorem fno:¬ (("name" : Str) = "owner"):=by decide +kernel
theorem ffo:¬ (("fields" : Str) = "owner"):=by decide +kernel
noncomputable def kflds (n f o:V):List (Str×V):=putF "owner" o (putF "fields" f (putF "name" n []))
theorem zFb (n f o:V):(kflds n f o).lookup ("name" : Str)=some n:=by
 unfold kflds;rw [zAc,if_neg fno,zAc,if_neg fnf,zAc,if_pos rfl]
theorem zDc (n f o:V):(kflds n f o).lookup ("fields" : Str)=some f:=by
 unfold kflds;rw [zAc,if_neg ffo,zAc,if_pos rfl]
theorem zDb (n f o:V):(kflds n f o).lookup ("owner" : Str)=some o:=by
 unfold kflds;rw [zAc,if_pos rfl]
structure KCls (K:PySem.W.Frag) (mg:Str→Option Value) (C fI:Addr):Prop where
 cl:Cls K C
 nN:NoAttr K C "name"
 nF:NoAttr K C "fields"
 nO:NoAttr K C "owner"
 mgC:mg "Kind" = some (.ref C)
 mkd:Mk K C fI
theorem name_any {G G':Addr→Prop}{H H':Hp}{v:V}{d:PyData} (h:Has G H v d) (e:nameD d=true):Has G' H' v d:=by
 cases h with
 | str x a b=>exact .str x a b
 | non=>cases e
 | bl b=>cases e
 | int i=>cases e
 | lst _ _ _ _=>cases e
 | tup _ _ _ _=>cases e
theorem names_any {G G':Addr→Prop}{H H':Hp}:∀ {xs:List V}{ds:List PyData},HasAll G H xs ds→ds.all nameD=true→HasAll G' H' xs ds
 | _,_,.nil,_=>.nil
 | _,_,.cons h t,e=>by
  rw [Yh,Zu] at e;exact .cons (name_any h e.1) (names_any t e.2)
theorem zEj {ds:List PyData} (h:unlikeB ds=true):ds.all nameD=true:=by
 have z:(ds.all nameD && decide (strsOf ds).Nodup)=true:=h;rw [Zu] at z;exact z.1
noncomputable def ownerD (n:Str):PyData→Bool
 | .none=>true
 | .str o=>nameB o && !decide (o=n)
 | _=>false
noncomputable def spInit (C:Addr):Sp:=fun vs H Q _=>∃ (p dx:Addr) (vf vo:V) (n:Str) (ds:List PyData) (od:PyData),vs=[.ref p,.str n,vf,vo]∧H p=some (.ins C dx [])∧n.length≤1000∧PyData.strOk n=true∧nameB n=true ∧
 Has Any H vf (.list ds)∧fieldsB (.list ds)=true∧Has Any H vo od∧ownerD n od=true∧countD ds≤8 ∧
 ∀ (H':Hp) (l:Addr),H' p=some (.ins C dx (kflds (.str n) (.ref l) vo))→Has (fun a=>H a=none) H' (.ref l) (.list ds)→(∀ b o,H b=some o→b≠p→H' b=some o)→Q .non H'
section
variable {P:Program}{w:World}{K:PySem.W.Frag}{mg:Str→Option Value}{base:Heap}{CX:CXT}
theorem scKi:FnScope ["self", "name", "fields", "owner"] ["self", "name", "fields", "owner"] (defScope sInit):=⟨rfl,rfl,rfl,by decide +kernel,rfl,by decide +kernel,by decide +kernel⟩
theorem k_both {R:Hp→Prop}{H1:Hp}{B:Prop} (t:∀ Hx,Same H1 Hx→R Hx) (h:(∀ Hx,Same H1 Hx→R Hx)→B):B:=h t
theorem ok_init {f C ff fc fp fu fn:Addr}{fd fdf fdc fdp fdu fdn:FuncData}{dV:Value} (hC:Calm CX) (T:Tops K mg) (F:FunD K "__init__" "Kind.__init__" sInit dV f fd) (KC:KCls K mg C f) (DN:Def K mg "is_name" sIsName ["thing"] fn fdn)
  (DU:Def K mg "are_unlike_names" sUnlike ["things"] fu fdu) (DP:Def K mg "is_pair_with_values" sPair ["thing"] fp fdp) (DF:Def K mg "are_fields" sFields ["things"] ff fdf) (DC:Def K mg "count_states" sCount ["fields"] fc fdc) :
  FnOk P w K mg base CX 5 f fd ["self", "name", "fields", "owner"] (spInit C):=by
 have GN:FnOk P w K mg base CX 1 fn fdn ["thing"] spNameD:=zCt DN.fn T;have GF:FnOk P w K mg base CX 4 ff fdf ["things"] spFields:=ok_fields hC T DF.fn DN DU DP;have GC:FnOk P w K mg base CX 1 fc fdc ["fields"] spCount:=ok_count T DC.fn;refine F.okC scKi (fun vs H Q E h=>?_) (fun cdv A outer s H vs Q E hr h=>?_)
 ·obtain ⟨p,dx,vf,vo,n,ds,od,rfl,_⟩:=h;rfl
 ·obtain ⟨p,dx,vf,vo,n,ds,od,rfl,hp,hn1,hn2,hn3,hf,hfb,ho,hob,hc8,k⟩:=h;have hr1:=hr.mono (show 1≤4 by decide);obtain ⟨tm,hmost⟩:=T.mostS
  refine ⟨_,zA3 (zAn (zAz (zAt (zA6 GN hr1 rfl DN.at_ DN.fn.kp DN.bind .nil (passC hC) (zA0 (pv 1) zA2)))) zAp zAb)
   (zA3 (zAn (zAz (zAt (zA6 GF hr rfl DF.at_ DF.fn.kp DF.bind .nil (passC hC) (zA0 (pv 2) zA2)))) zAp zAb)
   (zA3 (zAn (PW.pt (zBx (zB6 (zC3 (pv 3))) (zBg (PW.pt (zBi (zAz (zAt (zA6 GN hr1 rfl DN.at_ DN.fn.kp DN.bind .nil (passC hC) (zA0 (pv 3) zA2)))) (zB9 (zAg zBa (pv 3) (pv 1) (nomark _)))))))) zAp zAb)
   (zA3 (zAn (zAg op_gt (zA6 GC hr1 rfl DC.at_ DC.fn.kp DC.bind .nil (passC hC) (zA0 (pv 2) zA2)) (zBv (v:=.int 8) rfl hmost ⟨_,rfl⟩) (nomark _)) zAp zAb)
   (zA3 (zBf (pv 0) (pv 1) rfl)
   (zA3 (zBf (pv 0) (zB0 (T:=["field"]) rfl ScOk.auto (zAk (pv 2)) (fun _ _ _ _=>zA8 (i:=4) (by decide +kernel:(["self", "name", "fields", "owner", "field"]:List Str).Nodup) rfl (Or.inl rfl)) (fun _ _ _ _=>zB7)
    (fun _ _ _ _=>zBc (zA0 (zAf (r:=rIxT K) zAd (pv 4) zA4 (fun _ _=>rfl)) (zA0 (zAs (r:=fun xs H Q=>∃ p ys,xs=[.ref p]∧(SqL K H p ys∨SqT K H p ys)∧∀ l,H l=none→Q (.ref l) (upd H l (.lst ys))) zB1 rfl T.list PyProof.Rows.boot_list (zA0 (zAf (r:=rIxT K) zAd (pv 4) zA4 (fun _ _=>rfl)) zA2)) zA2)))) rfl)
   (zA5 (zBf (pv 0) (pv 3) rfl))))))),?_⟩
  refine ⟨_,rfl,_,.str n,rfl,.str n hn1 hn2,fun H1 s1=>⟨_,rfl,?_⟩⟩;rw [show nameD (.str n)=true from hn3];refine iteF ⟨_,rfl,_,.list ds,rfl,hf.mono s1,fun H2 s2=>⟨_,rfl,?_⟩⟩;rw [hfb];have s12:=s1.trans s2;refine iteF ?_;have fb:ds.all pairB=true∧unlikeB (ds.map firstD)=true:=by
   have z:(ds.all pairB && unlikeB (ds.map firstD))=true:=hfb;rw [Zu] at z;exact z
  have sh:vo=V.non∨∃ o,vo=V.str o∧o.length≤1000∧PyData.strOk o=true∧nameB o=true∧¬ o=n:=by
   cases ho with
   | bl b=>cases hob
   | int i=>cases hob
   | lst _ _ _ _=>cases hob
   | tup _ _ _ _=>cases hob
   | non=>exact .inl rfl
   | str o o1 o2 =>
    have z:(nameB o && !decide (o=n))=true:=hob;rw [Zu] at z;exact .inr ⟨o,rfl,o1,o2,z.1,by simpa using z.2⟩
  refine' k_both (H1:=H) _ (fun k2=>_);rotate_left 2
  ·rcases sh with e | ⟨o,e,o1,o2,e1,e2⟩
   ·refine ⟨_,rfl,_,rfl,?_⟩;rw [decide_eq_true e];exact iteF (iteF (k2 H2 s12))
   ·refine ⟨_,rfl,_,rfl,?_⟩;rw [decide_eq_false (show ¬ vo=V.non by rw [e];intro z;cases z)];refine iteT ?_;refine ⟨_,rfl,vo,.str o,rfl,(by rw [e];exact .str o o1 o2),fun H3 s3=>⟨_,rfl,?_⟩⟩;rw [show nameD (.str o)=true from e1];refine iteF ⟨_,rfl,_,rfl,(by rw [e];rfl),_,rfl,?_⟩;rw [decide_eq_false (show ¬ vo=V.str n by rw [e];intro z;injection z with z;exact e2 z)];exact iteF (k2 H3 (s12.trans s3))
  ·intro H3 s3;refine ⟨_,rfl,_,ds,rfl,hf.mono s3,fb.1,_,_,rfl,rfl,_,rfl,?_⟩;refine ite2 (fun h=>absurd (of_decide_eq_true h) (by omega)) (fun _=>?_);refine ⟨_,rfl,_,rfl,p,C,dx,[],rfl,s3 _ _ hp,KC.cl,KC.nN,(by show 0 < 1000;decide),?_⟩;have fr:∀ (H':Hp) (o':HO),(∃ fs,H' p=some (.ins C dx fs))→∀ (a:Addr) (o:HO),Any a→isSeq o→H' a=some o→Any a∧(upd H' p o') a=some o:=by
    rintro H' o' ⟨fs,e⟩ a o _ hs q;refine ⟨trivial,?_⟩;rw [zAa]
    ·exact q
    ·rintro rfl;rw [e] at q;cases q;exact hs
   have hf4:Has Any (upd H3 p (.ins C dx (putF "name" (.str n) []))) vf (.list ds):=(hf.mono s3).frameS (fr _ _ ⟨_,s3 _ _ hp⟩);obtain ⟨a,xs,rfl,_,ha,hz,hx⟩:=hf4.list_inv;have hp4:(upd H3 p (.ins C dx (putF "name" (.str n) []))) p=some (.ins C dx (putF "name" (.str n) [])):=zA1;have k4:∀ b o,H b=some o→b≠p→(upd H3 p (.ins C dx (putF "name" (.str n) []))) b=some o:=fun b o e hb=>by rw [zAa hb];exact s3 _ _ e
   have n4:∀ b,(upd H3 p (.ins C dx (putF "name" (.str n) []))) b=none→H b=none:=fun b e=>by
    cases q:H b with
    | none=>rfl
    | some o =>
     by_cases hb:b=p
     ·subst hb;rw [hp4] at e;cases e
     ·rw [k4 b o q hb] at e;cases e
   generalize upd H3 p (.ins C dx (putF "name" (.str n) []))=H4 at ha hx hp4 k4 n4 ⊢;refine ⟨_,rfl,a,rfl,⟨xs,SqL.of ha⟩,zAj (xs:=xs) (fun i ys H'=>Same H4 H'∧HasAll (fun a=>H a=none) H' ys (ds.take i)) ⟨Same.refl _,.nil⟩ (fun i ys H' q=>SqL.of (q.1 _ _ ha)) (fun i ys H' hi q=>?_) ?_ ?_⟩
   ·have:=q.2.length;have:=Zx i ds;have:=small1000 hz;have:=hx.length;omega
   ·rintro i x ys H' hi ⟨s5,hy⟩ N hN;obtain ⟨d,hd',hv⟩:=hx.get hi;obtain ⟨b,x0,y0,nd,l,vs,zs,rfl,_,hb,rfl,hnm,rfl,_,hl,hzl,hvs,_,hun⟩:=zF5 hv (all_get fb.1 hd');have hnn:nameD nd=true:=by
     have z:=List.all_eq_true.mp (zEj fb.2) nd (List.mem_map.mpr ⟨_,Z1 hd',rfl⟩);exact z
    refine pick ?_;refine ⟨_,rfl,b,_,_,x0,rfl,rfl,SqT.of (s5 _ _ hb),rfl,_,rfl,b,_,_,_,rfl,rfl,SqT.of (s5 _ _ hb),rfl,l,zs,rfl,.inl (SqL.of (s5 _ _ hl)),fun l2 hl2=>⟨by show 2≤sizeLine;decide,fun t ht=>hN _ _ ⟨?_,?_⟩⟩⟩
    ·exact (s5.trans (Same.new hl2)).trans (Same.new ht)
    ·rw [Z5,hd'];have s6:Same H' (upd (upd H' l2 (.lst zs)) t (.tup [x0,.ref l2])):=(Same.new hl2).trans (Same.new ht);refine (hy.mono s6).snoc (.tup ?_ zA1 (by show 2≤1000;decide) (.cons (name_any hnm hnn) (.cons (.lst ?_ ?_ hzl (names_any hvs (zEj hun))) .nil)))
     ·exact n4 _ (s5.free ((Same.new (o:=.lst zs) hl2).free ht))
     ·exact n4 _ (s5.free hl2)
     ·exact (Same.new ht) _ _ zA1
   ·rintro ys H' ⟨s5,hy⟩ l hl;have ll:ys.length≤1000:=by
     have:=hy.length;have:=Zx xs.length ds;have:=hx.length;omega
    rw [hx.length,Zb] at hy;have hp5:(upd H' l (.lst ys)) p=some (.ins C dx (putF "name" (.str n) [])):=(Same.new hl) _ _ (s5 _ _ hp4);refine ⟨_,rfl,p,C,dx,_,rfl,hp5,KC.cl,KC.nF,(by show 1 < 1000;decide),?_⟩;refine ⟨_,rfl,_,rfl,p,C,dx,_,rfl,zA1,KC.cl,KC.nO,(by have:=zD0 "fields" (V.ref l) (putF "name" (V.str n) []);have:(putF "name" (V.str n) []).length=1:=rfl;omega),?_⟩;refine k _ l zA1 ?_ fun b o e hb=>?_
    ·have h0:Has (fun a=>H a=none) (upd H' l (.lst ys)) (.ref l) (.list ds):=.lst (n4 _ (s5.free hl)) zA1 ll (hy.mono (Same.new hl));refine h0.frame fun b o g q=>⟨g,?_⟩;have hb:b≠p:=fun z=>by rw [z,hp] at g;cases g
     rw [zAa hb,zAa hb];exact q
    ·rw [zAa hb,zAa hb];exact (Same.new hl) _ _ (s5 _ _ (k4 b o e hb))
end
end My
namespace L2.W
open PySem My
noncomputable def nameOk (x:Str):Prop:=nameB x=true∧PyData.strOk x=true∧x.length≤8
structure ValsOk (vs:List Str):Prop where
 ne:0 < vs.length
 le:vs.length≤8
 nd:vs.Nodup
 ok:∀ x∈vs,nameOk x
noncomputable def fieldD (f:Str×List Str):PyData:=.tuple [.str f.1,.list (f.2.map .str)]
noncomputable def manyOf (fs:List (Str×List Str)):Nat:=fs.foldl (fun m f=>m * f.2.length) 1
structure FieldsOk (fs:List (Str×List Str)):Prop where
 le:fs.length≤3
 nd:(fs.map (·.1)).Nodup
 ok:∀ f∈fs,nameOk f.1∧ValsOk f.2
 many:manyOf fs≤8
theorem pickT {K:PySem.W.Frag}{A B:St→Hp→Prop}{σ : St}{H:Hp}{i j:Nat}{p:Addr}{x y:V} (hp:SqT K H p [x,y]) (h:A ((σ.set i (some x)).set j (some y)) H) :
  gTup K 2 (gCons (gName i) (gCons (gName j) gNil)) (.ref p) σ H fun σ2 H2=>tYes σ2 H2 fun b H3=>if b=true then A σ2 H3 else B σ2 H3:=by
 refine ⟨p,[x,y],rfl,hp,rfl,x,[y],rfl,y,[],rfl,rfl,?_⟩;show if true=true then A ((σ.set i (some x)).set j (some y)) H else B ((σ.set i (some x)).set j (some y)) H
 rw [if_pos rfl];exact h
theorem zC8 {G:Addr→Prop}{H:Hp}:∀ {ks:List Str},(∀ x∈ks,nameOk x)→HasAll G H (ks.map V.str) (ks.map .str)
 | [],_=>.nil
 | k :: r,h=>.cons (.str k (by have:=(h k Zl).2.2;omega) (h k Zl).2.1) (zC8 fun x hx=>h x (Zh _ hx))
end L2.W
namespace L2.W
open PySem My
theorem zEk:∀ ks:List Str,strsOf (ks.map PyData.str)=ks
 | []=>rfl
 | k :: r=>by
  show k :: strsOf (r.map PyData.str)=k :: r;rw [zEk r]
theorem zCg {ks:List Str} (h:∀ x∈ks,nameB x=true) (nd:ks.Nodup):unlikeB (ks.map PyData.str)=true:=by
 unfold unlikeB;rw [zEk,decide_eq_true nd,Bool.and_true,Yf];intro d hd;obtain ⟨x,hx,rfl⟩:=List.mem_map.mp hd;exact h x hx
theorem fields_ok {fs:List (Str×List Str)} (ok:FieldsOk fs):fieldsB (.list (fs.map fieldD))=true∧countD (fs.map fieldD)≤8:=by
 constructor
 ·show ((fs.map fieldD).all pairB && unlikeB ((fs.map fieldD).map firstD))=true;have e1:(fs.map fieldD).all pairB=true:=by
   rw [Yf];intro d hd;obtain ⟨f,hf,rfl⟩:=List.mem_map.mp hd;obtain ⟨_,v⟩:=ok.ok f hf;show (decide (0 < (f.2.map PyData.str).length) && unlikeB (f.2.map PyData.str))=true;rw [Z0,decide_eq_true v.ne,zCg (fun x hx=>(v.ok x hx).1) v.nd];rfl
  have e2:(fs.map fieldD).map firstD=(fs.map (·.1)).map PyData.str:=by
   rw [Zq,Zq];rfl
  rw [e1,e2,zCg _ ok.nd]
  ·rfl
  ·intro x hx;obtain ⟨f,hf,rfl⟩:=List.mem_map.mp hx;exact (ok.ok f hf).1.1
 ·have key:∀ (l:List (Str×List Str)) (m:Nat),(l.map fieldD).foldl (fun (m:Int) d=>m * (sizeD d:Int)) (m:Int)=((l.foldl (fun m f=>m * f.2.length) m:Nat):Int):=by
   intro l
   induction l with
   | nil=>intro m;rfl
   | cons f r ih =>
    intro m;rw [Zt,Y0,Y0,← ih];have:sizeD (fieldD f)=f.2.length:=by
     show (f.2.map PyData.str).length=_;rw [Z0]
    rw [this,Int.natCast_mul]
  have k1:=key fs 1;have k2:=ok.many;unfold countD;unfold manyOf at k2;have k3:((1:Nat):Int)=1:=rfl;rw [k3] at k1;rw [k1];omega
structure Row where
 name:Str
 fields:List (Str×List Str)
 owner:Option Str
structure RowsOk (rs:List Row):Prop where
 ne:0 < rs.length
 le:rs.length≤5
 nd:(rs.map (·.name)).Nodup
 ok:∀ r∈rs,nameOk r.name∧FieldsOk r.fields
 own:∀ (i:Nat) (r:Row) (o:Str),rs[i]? = some r→r.owner=some o→∃ (j:Nat) (r':Row),j < i∧rs[j]? = some r'∧r'.name=o
noncomputable def Ready (done:List Str) (r:Row):Prop:=r.name∉done∧∀ o,r.owner=some o→o∈done
noncomputable def Greedy (M:Row→Prop) (ord:List Str):Prop:=∀ (i:Nat) (n:Str),ord[i]? = some n→(∃ r,M r∧r.name=n∧Ready (ord.take i) r)∧∀ r,M r→Ready (ord.take i) r→¬ ltS r.name n
theorem Greedy.nil {M:Row→Prop}:Greedy M []:=fun i n h=>by simp at h
theorem Greedy.snoc {M:Row→Prop}{ord:List Str}{n:Str} (g:Greedy M ord) (h1:∃ r,M r∧r.name=n∧Ready ord r) (h2:∀ r,M r→Ready ord r→¬ ltS r.name n):Greedy M (ord++[n]):=by
 intro i m e;by_cases hi:i < ord.length
 ·have e':ord[i]? = some m:=by rwa [Zo hi] at e
  have t:(ord++[n]).take i=ord.take i:=List.take_append_of_le_length (Zn hi);rw [t];exact g i m e'
 ·have hi2:i=ord.length:=by
   have:=(List.getElem?_eq_some_iff.mp e).1;simp at this;omega
  subst hi2;have:n=m:=by simpa using e
  subst this;have t:(ord++[n]).take ord.length=ord:=by simp
  rw [t];exact ⟨h1,h2⟩
theorem Greedy.nodup {M:Row→Prop}{ord:List Str} (g:Greedy M ord):ord.Nodup:=by
 suffices h:∀ k,(ord.take k).Nodup by
  have:=h ord.length
  rwa [Zb] at this
 intro k
 induction k with
 | zero=>simp
 | succ k ih =>
  cases e:ord[k]? with
  | none=>rw [Z5,e];simpa using ih
  | some n =>
   obtain ⟨⟨r,_,e1,r1⟩,_⟩:=g k n e;rw [Z5,e];refine List.nodup_append.mpr ⟨ih,by simp,fun a ha b hb=>?_⟩;have:b=n:=by simpa using hb
   rw [this];rintro rfl;exact r1.1 (e1 ▸ ha)
theorem Greedy.mem {M:Row→Prop}{ord:List Str} (g:Greedy M ord) {n:Str} (h:n∈ord):∃ r,M r∧r.name=n:=by
 obtain ⟨i,hi,e⟩:=Zz h;obtain ⟨⟨r,m,e1,_⟩,_⟩:=g i n (by rw [Z3 hi,e]);exact ⟨r,m,e1⟩
theorem zEy {α : Type} [DecidableEq α]:∀ {a b:List α},a.Nodup→(∀ x∈a,x∈b)→a.length≤b.length
 | [],_,_,_=>Zj _
 | x :: r,b,nd,h=>by
  have hx:=h x Zl;obtain ⟨n1,n2⟩:=List.nodup_cons.mp nd;have:=zEy (a:=r) (b:=b.erase x) n2 fun y hy=>(List.mem_erase_of_ne (by rintro rfl;exact n1 hy)).mpr (h y (Zh _ hy));rw [List.length_erase_of_mem hx] at this;have:=List.length_pos_of_mem hx;simp;omega
theorem Greedy.le {rs:List Row}{ord:List Str} (g:Greedy (·∈rs) ord):ord.length≤rs.length:=by
 have:=zEy (b:=rs.map (·.name)) g.nodup fun n hn=>by
  obtain ⟨r,m,e⟩:=g.mem hn;exact List.mem_map.mpr ⟨r,m,e⟩
 rwa [Z0] at this
theorem progress {rs:List Row} (ok:RowsOk rs) {ord:List Str} (h:ord.length < rs.length):∃ r∈rs,Ready ord r:=by
 have ex:∃ (i:Nat) (r:Row),rs[i]? = some r∧r.name∉ord:=Classical.byContradiction fun hn=>by
  have:=zEy (b:=ord) ok.nd fun n hm=>by
   obtain ⟨r,hr,rfl⟩:=List.mem_map.mp hm;obtain ⟨i,hi,e⟩:=Zz hr;exact Classical.byContradiction fun k=>hn ⟨i,r,by rw [Z3 hi,e],k⟩
  rw [Z0] at this;omega
 obtain ⟨i,r,hi,hr⟩:=ex;revert r
 induction i using Nat.strongRecOn with
 | _ i ih =>
  intro r hi hr;by_cases c:∀ o,r.owner=some o→o∈ord
  ·exact ⟨r,Z1 hi,hr,c⟩
  ·have:∃ o,r.owner=some o∧o∉ord:=Classical.byContradiction fun k=>c fun o e=>Classical.byContradiction fun m=>k ⟨o,e,m⟩;obtain ⟨o,e,no⟩:=this;obtain ⟨j,r',hj,e1,e2⟩:=ok.own i r o hi e;exact ih j hj r' e1 (by rw [e2];exact no)
theorem RowsOk.one {rs:List Row} (ok:RowsOk rs) {r r':Row} (h:r∈rs) (h':r'∈rs) (e:r.name=r'.name):r=r':=by
 obtain ⟨i,hi,ei⟩:=Zz h;obtain ⟨j,hj,ej⟩:=Zz h';have a:(rs.map (·.name))[i]? = some r.name:=by simp [Z3 hi,ei]
 have b:(rs.map (·.name))[j]? = some r.name:=by simp [Z3 hj,ej,e]
 have:=zF8 ok.nd a b;subst this;rw [← ei,← ej]
theorem RowsOk.owner {rs:List Row} (ok:RowsOk rs) {r:Row}{o:Str} (h:r∈rs) (e:r.owner=some o):nameOk o∧o≠r.name∧∃ r'∈rs,r'.name=o:=by
 obtain ⟨i,hi,ei⟩:=Zz h;have gi:rs[i]? = some r:=by rw [Z3 hi,ei]
 obtain ⟨j,r',hj,e1,rfl⟩:=ok.own i r o gi e;have m:=Z1 e1;refine ⟨(ok.ok r' m).1,fun k=>?_,r',m,rfl⟩;have a:(rs.map (·.name))[i]? = some r.name:=by simp [gi]
 have b:(rs.map (·.name))[j]? = some r.name:=by simp [e1,k]
 have:=zF8 ok.nd a b;omega
end L2.W
namespace L2.W
open PySem My
structure KIsi (K:PySem.W.Frag) (C:Addr):Prop where
 ha:PySem.W.findIn K (.ref C) "__class__" = some (some (.builtin "object.__class__"))
 hn:PySem.W.specialIn K (.builtin "object.__class__") "__get__" = some (some (.builtin "getset_descriptor.__get__"))
 htk:PySem.W.takesIn K (.builtin "object.__class__")=some true
 hm:PySem.W.mroIn K C (.type "object")=some true
 one:PySem.W.kitOne K (.ref C) (.ref C)=some true
noncomputable def ownV:Option Str→V
 | none=>.non
 | some o=>.str o
noncomputable def KindO (C:Addr) (H:Hp) (p:Addr) (r:Row):Prop:=∃ dx l,H p=some (.ins C dx (kflds (.str r.name) (.ref l) (ownV r.owner)))
noncomputable abbrev KL (C:Addr) (H:Hp):List Addr→List Row→Prop:=Paired fun p r=>KindO C H p r
theorem zDg {α β : Type}{R : α→β→Prop}:∀ {l:List α}{m:List β}{i:Nat}{a : α},Paired R l m→l[i]? = some a→∃ b,m[i]? = some b∧R a b
 | _,_,_,_,.nil,e=>by simp at e
 | _,_,0,a,.cons r _,e=>by
  simp at e;subst e;exact ⟨_,rfl,r⟩
 | _,_,i + 1,a,.cons _ t,e=>by
  obtain ⟨b,h1,h2⟩:=zDg (i:=i) (a:=a) t (by simpa using e);exact ⟨b,by simpa using h1,h2⟩
theorem KindO.mono {C:Addr}{H H':Hp}{p:Addr}{r:Row} (h:KindO C H p r) (k:∀ b o,H b=some o→(∃ C dx fs,o=.ins C dx fs)→H' b=some o):KindO C H' p r:=by
 obtain ⟨dx,l,e⟩:=h;exact ⟨dx,l,k _ _ e ⟨_,_,_,rfl⟩⟩
noncomputable def RowsP (rs:List Row):Prop:=∃ rs0,RowsOk rs0∧rs.Perm rs0
theorem RowsP.nd {rs:List Row} (h:RowsP rs):(rs.map (·.name)).Nodup:=by
 obtain ⟨r0,ok,p⟩:=h;exact (p.map _).nodup_iff.mpr ok.nd
theorem RowsP.le {rs:List Row} (h:RowsP rs):0 < rs.length∧rs.length≤5:=by
 obtain ⟨r0,ok,p⟩:=h;have:=p.length_eq;have:=ok.ne;have:=ok.le;omega
theorem RowsP.ok {rs:List Row} (h:RowsP rs):∀ r∈rs,nameOk r.name∧FieldsOk r.fields:=by
 obtain ⟨r0,ok,p⟩:=h;exact fun r hr=>ok.ok r (p.mem_iff.mp hr)
theorem RowsP.one {rs:List Row} (h:RowsP rs) {r r':Row} (a:r∈rs) (b:r'∈rs) (e:r.name=r'.name):r=r':=by
 obtain ⟨r0,ok,p⟩:=h;exact ok.one (p.mem_iff.mp a) (p.mem_iff.mp b) e
theorem RowsP.progress {rs:List Row} (h:RowsP rs) {ord:List Str} (hl:ord.length < rs.length):∃ r∈rs,Ready ord r:=by
 obtain ⟨r0,ok,p⟩:=h;obtain ⟨r,hr,q⟩:=L2.W.progress ok (ord:=ord) (by rw [← p.length_eq];exact hl);exact ⟨r,p.mem_iff.mpr hr,q⟩
noncomputable def spAreKinds (C:Addr):Sp:=fun vs H Q _=>∃ (l:Addr) (ps:List Addr) (rs:List Row),vs=[.ref l]∧H l=some (.lst (ps.map V.ref))∧KL C H ps rs∧RowsP rs∧∀ H',Same H H'→Q (.bl true) H'
section
variable {P:Program}{w:World}{K:PySem.W.Frag}{mg:Str→Option Value}{base:Heap}{CX:CXT}
theorem scAk:FnScope ["things"] ["things"] (defScope sAreKinds):=⟨rfl,rfl,rfl,by decide +kernel,rfl,by decide +kernel,by decide +kernel⟩
theorem ok_areKinds {f fu fn C fI:Addr}{fd fdu fdn:FuncData} (hC:Calm CX) (T:Tops K mg) (KC:KCls K mg C fI) (KI:KIsi K C) (F:Fun K "are_kinds" "are_kinds" sAreKinds f fd) (DN:Def K mg "is_name" sIsName ["thing"] fn fdn)
  (DU:Def K mg "are_unlike_names" sUnlike ["things"] fu fdu):FnOk P w K mg base CX 3 f fd ["things"] (spAreKinds C):=by
 have GU:FnOk P w K mg base CX 2 fu fdu ["things"] spUnlike:=zCl hC T DU.fn DN;refine Fun.okC F scAk (fun vs H Q E h=>?_) (fun cdv A outer s H vs Q E hr h=>?_)
 ·obtain ⟨l,ps,rs,rfl,_⟩:=h;rfl
 ·obtain ⟨l,ps,rs,rfl,hl,hk,rp,k⟩:=h
  refine ⟨_,zA3 (zAn (PW.pt (zBi (zAz (zAt (zAh zAo rfl T.isinst PyProof.Rows.boot_isinstance (zA0 (pv 0) (zA0 (zBp (v:=.ty "list") rfl T.list PyProof.Rows.boot_list rfl) zA2)))))
    (zB9 (zAg zBa (zAh zAu rfl T.len PySem.boot_len (zA0 (pv 0) zA2)) zA4 (nomark _))))) (zA5 (zA9 zC7)) zAb)
   (zA3 (zAn (zAz (zAt (zAh (zC1 rfl) rfl T.all PyProof.Rows.boot_all (zA0 (zB0 (T:=["thing"]) rfl ScOk.auto (zAk (pv 0)) (fun _ _ _ _=>zA8 (i:=1) (by decide +kernel:(["things", "thing"]:List Str).Nodup) rfl (Or.inl rfl)) (fun _ _ _ _=>zB7)
    (fun _ _ _ _=>zAh (call_isinstK (K:=K) rfl) rfl T.isinst PyProof.Rows.boot_isinstance (zA0 (pv 1) (zA0 (zBv (v:=.ref C) rfl KC.mgC rfl) zA2)))) zA2)))) (zA5 (zA9 zC7)) zAb)
   (zA5 (zA9 (zA6 GU hr rfl DU.at_ DU.fn.kp DU.bind .nil (passC hC) (zA0 (zB0 (T:=["kind"]) rfl ScOk.auto (zAk (pv 0)) (fun _ _ _ _=>zA8 (i:=1) (by decide +kernel:(["things", "kind"]:List Str).Nodup) rfl (Or.inl rfl)) (fun _ _ _ _=>zB7)
    (fun _ _ _ _=>zCz (K:=K) rfl (pv 1) rfl)) zA2))))),?_⟩
  have len:ps.length=rs.length:=Paired.length hk;obtain ⟨l0,l5⟩:=rp.le;have small:∀ n:Nat,n≤1000→n≤sizeLine:=fun n h=>Zn (small1000 h);refine ⟨_,rfl,_,_,_,_,_,rfl,.lst hl,rfl,rfl,_,rfl,iteF ?_⟩;refine ⟨_,rfl,l,_,rfl,.inl (SqL.of hl),rfl,_,rfl,?_⟩;rw [decide_eq_false (show ¬ V.int ((ps.map V.ref).length:Int)=V.int 0 by intro z0;injection z0 with z0;rw [Z0] at z0;omega)];refine iteF ?_;refine ⟨_,rfl,l,rfl,⟨_,SqL.of hl⟩,zAj (xs:=ps.map V.ref) (fun i ys H'=>H=H'∧ys=(List.replicate i true).map V.bl) ⟨rfl,rfl⟩ (fun i ys H' p=>by rw [← p.1];exact SqL.of hl) (fun i ys H' hi p=>?_) ?_ ?_⟩
  ·rw [p.2,Z0,Y7];rw [Z0] at hi;exact small _ (by omega)
  ·rintro i x ys H' hi ⟨rfl,rfl⟩ N hN;rw [Z4] at hi;cases ep:ps[i]? with
   | none=>rw [ep] at hi;cases hi
   | some p =>
    rw [ep] at hi;cases hi;obtain ⟨r,er,dx,lf,e⟩:=zDg hk ep;refine pick ?_;refine ⟨_,rfl,_,_,_,_,_,rfl,.ins e KC.cl KI.ha KI.hn KI.htk KI.hm,rfl,KI.one,hN _ _ ⟨rfl,?_⟩⟩;rw [List.replicate_succ',Z6];rfl
  ·rintro ys H' ⟨rfl,rfl⟩ q hq;rw [Z0];have s1:Same H (upd H q (.lst ((List.replicate ps.length true).map V.bl))):=Same.new hq;refine ⟨q,List.replicate ps.length true,rfl,SqL.of zA1,_,rfl,?_⟩;have ea:(List.replicate ps.length true).all id=true:=by simp
   rw [ea];refine iteF ?_;generalize upd H q (.lst ((List.replicate ps.length true).map V.bl))=H2 at s1 ⊢;refine ⟨_,rfl,l,rfl,⟨_,SqL.of (s1 _ _ hl)⟩,zAj (xs:=ps.map V.ref) (fun i ys H'=>H2=H'∧ys=((rs.take i).map (·.name)).map V.str) ⟨rfl,rfl⟩ (fun i ys H' p=>by rw [← p.1];exact SqL.of (s1 _ _ hl)) (fun i ys H' hi p=>?_) ?_ ?_⟩
   ·rw [p.2,Z0,Z0];have:(rs.take i).length≤rs.length:=by rw [Zk];omega
    exact small _ (by omega)
   ·rintro i x ys H' hi ⟨rfl,rfl⟩ N hN;rw [Z4] at hi;cases ep:ps[i]? with
    | none=>rw [ep] at hi;cases hi
    | some p =>
     rw [ep] at hi;cases hi;obtain ⟨r,er,dx,lf,e⟩:=zDg hk ep;refine pick ?_;refine ⟨_,rfl,p,C,dx,_,_,rfl,s1 _ _ e,KC.cl,KC.nN,zFb _ _ _,hN _ _ ⟨rfl,?_⟩⟩;rw [Z5,er,Z6,Z6];rfl
   ·rintro ys H' ⟨rfl,rfl⟩ q2 hq2;rw [Z0,len,Zb];refine ⟨_,(rs.map (·.name)).map PyData.str,rfl,.lst trivial zA1 (by rw [Z0,Z0];omega) (zC8 fun x hx=>?_),fun H4 s4=>?_⟩
    ·obtain ⟨r,hr,rfl⟩:=List.mem_map.mp hx;exact (rp.ok r hr).1
    ·rw [zCg (fun x hx=>?_) rp.nd]
     ·exact k _ (s1.trans ((Same.new hq2).trans s4))
     ·obtain ⟨r,hr,rfl⟩:=List.mem_map.mp hx;exact (rp.ok r hr).1.1
end
end L2.W
namespace L2.W
open PySem My
noncomputable def lamPos:Pos:=⟨79,31,79,53⟩
noncomputable def lamQ:Str:=(("placed_by_owners" : Str)++".<locals>.")++"<lambda>"
noncomputable def readyB (done:List Str) (r:Row):Bool:=decide (r.name∉done) && (match r.owner with | none=>true | some o=>decide (o∈done))
theorem readyB_iff {done:List Str}{r:Row}:readyB done r=true ↔ Ready done r:=by
 unfold readyB Ready;cases r.owner with
 | none=>simp
 | some o=>simp
noncomputable abbrev Placed (zs:List (Addr×Row)):List Str→List (Key×V)→Prop:=Paired fun n kv=>∃ q∈zs,kv=(Sum.inr n,V.ref q.1)∧q.2.name=n
theorem Placed.val {zs:List (Addr×Row)}:∀ {ord:List Str}{kvs:List (Key×V)},Placed zs ord kvs→∀ n:Str,(valV kvs (Sum.inr n)).isSome=decide (n∈ord)
 | _,_,.nil,n=>by simp [valV]
 | m :: ord,kv :: kvs,.cons r t,n=>by
  obtain ⟨q,_,rfl,e⟩:=r;by_cases c:m=n
  ·rw [zD1 (by rw [c])];simp [c]
  ·rw [zD2 (by intro z;exact c (Sum.inr.inj z)),Placed.val t n];simp [Ne.symm c]
theorem zDx {α β : Type}{R : α→β→Prop}:∀ {l:List α}{m:List β}{a : α}{b : β},Paired R l m→R a b→Paired R (l++[a]) (m++[b])
 | _,_,_,_,.nil,r=>.cons r .nil
 | _,_,_,_,.cons r t,q=>.cons r (zDx t q)
theorem putK_new {kvs:List (Key×V)}{k:Key}{v:V} (h:(valV kvs k).isSome=false):putK kvs k v=kvs++[(k,v)]:=by
 unfold putK;rw [zEw,h];rfl
structure Zs (C:Addr) (H:Hp) (zs:List (Addr×Row)):Prop where
 at_:∀ q∈zs,KindO C H q.1 q.2
 nd:(zs.map fun q=>q.2.name).Nodup
 le:zs.length≤50
theorem Zs.mono {C:Addr}{H H':Hp}{zs:List (Addr×Row)} (z:Zs C H zs) (k:∀ b o,H b=some o→(∃ C dx fs,o=.ins C dx fs)→H' b=some o):Zs C H' zs:=⟨fun q hq=>(z.at_ q hq).mono k,z.nd,z.le⟩
noncomputable def spPlaced (C Pt:Addr):Sp:=fun vs H Q _=>∃ (l:Addr) (zs:List (Addr×Row)),vs=[.ref l]∧H l=some (.lst (zs.map fun q=>V.ref q.1))∧Zs C H zs∧TabOk H Pt lamPos lamQ ∧
 ∀ (d:Addr) (ord:List Str) (kvs:List (Key×V)) (H':Hp),H d=none→H' d=some (.dK kvs)→Placed zs ord kvs→Greedy (·∈zs.map (·.2)) ord→(∀ r∈zs.map (·.2),¬ Ready ord r)→TabOk H' Pt lamPos lamQ→GrownBut Pt H H'→Q (.ref d) H'
theorem _root_.L2.GrownBut.trans {P:Addr}{a b c:Hp} (x:GrownBut P a b) (y:GrownBut P b c):GrownBut P a c:=fun p o e n=>y p o (x p o e n) n
theorem _root_.L2.GrownBut.same {P:Addr}{a b:Hp} (x:Same a b):GrownBut P a b:=fun p o e _=>x p o e
theorem _root_.L2.TabOk.same {H H':Hp}{P:Addr}{pos:Pos}{q:Str} (T:TabOk H P pos q) (k:Same H H'):TabOk H' P pos q:=T.stay k
theorem _root_.L2.TabOk.upd {H:Hp}{P:Addr}{pos:Pos}{q:Str}{p:Addr}{u o:HO} (T:TabOk H P pos q) (hp:H p=some u) (h1:∀ ps,u≠.tbl ps) (h2:∀ f,u≠.ext f):TabOk (upd H p o) P pos q :=
 T.but hp h1 h2 fun b x e nb=>by rw [zAa nb];exact e
theorem zCc {zs:List (Addr×Row)}{i:Nat}{q:Addr×Row} (p:Addr×Row→Bool) (h:zs[i]? = some q):(zs.take (i + 1)).filter p=if p q=true then (zs.take i).filter p++[q] else (zs.take i).filter p:=by
 rw [Z5,h,Ya];cases e:p q <;> simp [e]
section
variable {P:Program}{w:World}{K:PySem.W.Frag}{mg:Str→Option Value}{base:Heap}{CX:CXT}
theorem scPl:FnScope ["kinds", "placed", "ready", "first"] ["kinds"] (defScope sPlaced):=⟨rfl,rfl,rfl,by decide +kernel,rfl,by decide +kernel,by decide +kernel⟩
theorem ok_placed {f C fI c Pt:Addr}{fd:FuncData} (hC:Calm CX) (T:Tops K mg) (KC:KCls K mg C fI) (LT:LamTxt K mg base c Pt) (F:FunL K "placed_by_owners" "placed_by_owners" sPlaced f fd c):FnOk P w K mg base CX 4 f fd ["kinds"] (spPlaced C Pt):=by
 refine FunL.okC F scPl (fun vs H Q E h=>?_) (fun A outer s H vs Q E hr h=>?_)
 ·obtain ⟨l,zs,rfl,_⟩:=h;rfl
 ·obtain ⟨l,zs,rfl,hl,hz,hT,k⟩:=h;have nd:=scPl.nd;have hr2:=hr.mono (show 2≤3 by decide);have hu:=hu_of hr
  refine ⟨_,zA3 (zAi (i:=1) nd rfl (Or.inr rfl) zF2)
   (zA3 (zAy (T:=["kind"]) (i:=2) rfl ScOk.auto (zAk (pv 0)) (fun _ _ _ _=>zA8 (i:=4) (by decide +kernel:(["kinds", "placed", "ready", "first", "kind"]:List Str).Nodup) rfl (Or.inl rfl))
    (fun _ _ _ _=>zDl (zB6 (zBn (zCz (K:=K) rfl (pv 4) rfl)))) (fun _ _ _ _=>pv 4) nd rfl rfl rfl)
   (zA3 (zF1 PassesOwn.never (zF0 (pv 2) (fun _=>rfl))
    (zA3 (zAi (i:=3) nd rfl (Or.inl rfl) (zDw LT rfl hr2 rfl rfl T.min (zA0 (pv 2) zA2) (by exact ⟨rfl,rfl,rfl,by decide +kernel,rfl⟩)))
    (zA3 (ps_dput hu (pv 1) (zAw (pv 3) rfl) (pv 3) rfl)
    (zA5 (zAy (T:=["kind"]) (i:=2) rfl ScOk.auto (zAk (pv 0)) (fun _ _ _ _=>zA8 (i:=4) (by decide +kernel:(["kinds", "placed", "ready", "first", "kind"]:List Str).Nodup) rfl (Or.inl rfl))
     (fun _ _ _ _=>zDl (PW.pt (zBx (zB6 (zD8 hu (zCz (K:=K) rfl (pv 4) rfl) (pv 1))) (zBg (PW.pt (zBi (zB6 (zBn (zCz (K:=K) rfl (pv 4) rfl))) (zB9 (zB6 (pc_din hu (zCz (K:=K) rfl (pv 4) rfl) (pv 1)))))))))) (fun _ _ _ _=>pv 4) nd rfl rfl rfl)))))
   (zA5 (zA9 (pv 1))))),?_⟩
  have small:∀ n:Nat,n≤1000→n≤sizeLine:=fun n h=>Zn (small1000 h);have flen:∀ (p:Addr×Row→Bool) (i:Nat),((zs.take i).filter p).length≤50:=fun p i=>by
   have h1:=List.length_filter_le p (zs.take i);have h2:(zs.take i).length≤zs.length:=by rw [Zk];omega
   have:=hz.le;omega
  intro d hd;have g0:Same H (upd H d (.dK [])):=Same.new hd;have e0:(upd H d (.dK [])) d=some (.dK []):=zA1;generalize upd H d (.dK [])=H0 at g0 e0 ⊢;refine ⟨_,rfl,l,rfl,⟨_,SqL.of (g0 _ _ hl)⟩,zAj (xs:=zs.map fun q=>V.ref q.1) (fun i ys H'=>H0=H'∧ys=((zs.take i).filter (fun q=>readyB [] q.2)).map fun q=>V.ref q.1) ⟨rfl,rfl⟩ (fun i ys H' p=>by rw [← p.1];exact SqL.of (g0 _ _ hl)) (fun i ys H' hi p=>?_) ?_ ?_⟩
  ·rw [p.2,Z0];exact small _ (Zm (flen _ i) (by decide))
  ·rintro i x ys H' hi ⟨rfl,rfl⟩ N hN;rw [Z4] at hi;cases ep:zs[i]? with
   | none=>rw [ep] at hi;cases hi
   | some q =>
    rw [ep] at hi;cases hi;obtain ⟨dx,lf,e⟩:=hz.at_ q (Z1 ep);refine ⟨_,rfl,q.1,C,dx,_,_,rfl,g0 _ _ e,KC.cl,KC.nO,zDb _ _ _,_,rfl,?_⟩;cases eo:q.2.owner with
    | none =>
     refine iteT ⟨_,rfl,hN _ _ ⟨rfl,?_⟩⟩;rw [zCc _ ep,if_pos (by simp [readyB,eo]),Z6];rfl
    | some o =>
     refine iteF (hN _ _ ⟨rfl,?_⟩);rw [zCc _ ep,if_neg (by simp [readyB,eo])]
  ·rintro ys H' ⟨rfl,rfl⟩ lr hlr;rw [Z0,Zb];have g1:Same H (upd H0 lr (.lst ((zs.filter fun q=>readyB [] q.2).map fun q=>V.ref q.1))):=g0.trans (Same.new hlr);have e1:=(Same.new (o:=.lst ((zs.filter fun q=>readyB [] q.2).map fun q=>V.ref q.1)) hlr) _ _ e0
   refine ⟨fun m σ H2=>∃ ord kvs lr x,m=zs.length - ord.length∧σ = [some (.ref l),some (.ref d),some (.ref lr),x]∧H2 d=some (.dK kvs)∧Placed zs ord kvs∧Greedy (·∈zs.map (·.2)) ord ∧
    H2 lr=some (.lst ((zs.filter fun q=>readyB ord q.2).map fun q=>V.ref q.1))∧TabOk H2 Pt lamPos lamQ∧GrownBut Pt H H2,⟨_,[],[],lr,none,rfl,rfl,e1,.nil,.nil,zA1,hT.same g1,.same g1⟩,?_⟩
   clear g1 e1 hlr e0 g0;rintro m σ H2 ⟨ord,kvs,lr,x,rfl,rfl,hd2,hpl,hgr,hlr,hT2,hG⟩;have hk2:∀ q∈zs,∃ dx lf,H2 q.1=some (.ins C dx (kflds (.str q.2.name) (.ref lf) (ownV q.2.owner))):=fun q hq=>by
    obtain ⟨dx,lf,e⟩:=hz.at_ q hq;exact ⟨dx,lf,hG _ _ e (hT.ne e fun _ z=>nomatch z)⟩
   refine ⟨_,rfl,_,.inl ⟨_,SqL.of hlr,rfl⟩,?_⟩;generalize ets:(zs.filter fun q=>readyB ord q.2)=ts at hlr ⊢;have mts:∀ q,q∈ts ↔ q∈zs∧Ready ord q.2:=fun q=>by rw [← ets,List.mem_filter,readyB_iff]
   by_cases c:ts=[]
   ·subst c;refine iteF ⟨_,rfl,k d ord kvs H2 hd hd2 hpl hgr (fun r hr z=>?_) hT2 hG⟩;obtain ⟨q,hq,rfl⟩:=List.mem_map.mp hr;have:=(mts q).mpr ⟨hq,z⟩;cases this
   ·have pos:0 < ts.length:=List.length_pos_iff.mpr c;rw [show (!(ts.map fun q=>V.ref q.1).isEmpty)=true by cases ts with | nil=>exact absurd rfl c | cons _ _=>rfl];refine iteT ?_
    refine ⟨fun σ' H'=>∃ m',m' < zs.length - ord.length∧∃ ord kvs lr x,m'=zs.length - ord.length∧σ'=[some (.ref l),some (.ref d),some (.ref lr),x]∧H' d=some (.dK kvs)∧Placed zs ord kvs∧Greedy (·∈zs.map (·.2)) ord ∧
     H' lr=some (.lst ((zs.filter fun q=>readyB ord q.2).map fun q=>V.ref q.1))∧TabOk H' Pt lamPos lamQ∧GrownBut Pt H H',fun _ _ h=>h,?_⟩
    refine ⟨_,rfl,lr,_,ts.map (·.2.name),rfl,SqL.of hlr,(by rw [Z0];exact pos),hT2,(by rw [Z0,Z0]),fun i v kx hi hk=>?_,fun i v kx H3 hi hk hbest hT3 hG3=>?_⟩
    ·rw [Z4] at hi hk;cases ep:ts[i]? with
     | none=>rw [ep] at hi;cases hi
     | some q =>
      rw [ep] at hi hk;cases hi;cases hk;obtain ⟨dx,lf,e⟩:=hk2 q ((mts q).mp (Z1 ep)).1;exact ⟨q.1,C,dx,_,rfl,e,KC.cl,KC.nN,zFb _ _ _⟩
    ·rw [Z4] at hi hk;cases ep:ts[i]? with
     | none=>rw [ep] at hi;cases hi
     | some q =>
      rw [ep] at hi hk;cases hi;cases hk;obtain ⟨hq,hrd⟩:=(mts q).mp (Z1 ep);have hG3':=hG.trans hG3;have hk3:∀ q∈zs,∃ dx lf,H3 q.1=some (.ins C dx (kflds (.str q.2.name) (.ref lf) (ownV q.2.owner))):=fun q hq=>by
       obtain ⟨dx,lf,e⟩:=hz.at_ q hq;exact ⟨dx,lf,hG3' _ _ e (hT.ne e fun _ z=>nomatch z)⟩
      obtain ⟨dx,lf,e⟩:=hk3 q hq;have hd3:H3 d=some (.dK kvs):=hG3 _ _ hd2 (hT2.ne hd2 fun _ z=>nomatch z);have kl:kvs.length=ord.length:=(Paired.length hpl).symm;have ol:ord.length≤zs.length:=by have:=hgr.le;rwa [Z0] at this
      refine ⟨_,rfl,_,rfl,_,rfl,q.1,C,dx,_,_,rfl,e,KC.cl,KC.nN,zFb _ _ _,d,_,rfl,DPut.k (k:=Sum.inr q.2.name) hd3 (Nat.lt_of_le_of_lt (Zm (Nat.le_of_eq kl) (Zm ol hz.le)) (small1000 (by decide))),?_⟩;have vn:(valV kvs (Sum.inr q.2.name)).isSome=false:=by rw [hpl.val];simpa using hrd.1
      rw [putK_new vn];have hpl':Placed zs (ord++[q.2.name]) (kvs++[(Sum.inr q.2.name,V.ref q.1)]):=zDx hpl ⟨q,hq,rfl,rfl⟩;have hgr':Greedy (·∈zs.map (·.2)) (ord++[q.2.name]):=hgr.snoc ⟨q.2,List.mem_map.mpr ⟨q,hq,rfl⟩,rfl,hrd⟩ fun r hr hrr=>by
       obtain ⟨q',hq',rfl⟩:=List.mem_map.mp hr;exact hbest _ (List.mem_map.mpr ⟨q',(mts q').mpr ⟨hq',hrr⟩,rfl⟩)
      have ol':(ord++[q.2.name]).length≤zs.length:=by have:=hgr'.le;rwa [Z0] at this
      have lt:zs.length - (ord++[q.2.name]).length < zs.length - ord.length:=by
       rw [Zg] at ol' ⊢;simp at ol' ⊢;omega
      generalize ord++[q.2.name]=ord' at hpl' hgr' lt;have hd4:(upd H3 d (.dK (kvs++[(Sum.inr q.2.name,V.ref q.1)]))) d=some (.dK (kvs++[(Sum.inr q.2.name,V.ref q.1)])):=zA1;have hT4:TabOk (upd H3 d (.dK (kvs++[(Sum.inr q.2.name,V.ref q.1)]))) Pt lamPos lamQ:=hT3.upd hd3 (fun _ z=>nomatch z) (fun _ z=>nomatch z);have hG4:GrownBut Pt H (upd H3 d (.dK (kvs++[(Sum.inr q.2.name,V.ref q.1)]))):=fun b o e n=>by
       rw [zAa (zA7 e hd)];exact hG3' b o e n
      generalize upd H3 d (.dK (kvs++[(Sum.inr q.2.name,V.ref q.1)]))=H4 at hd4 hT4 hG4 ⊢;generalize kvs++[(Sum.inr q.2.name,V.ref q.1)]=kvs' at hd4 hpl';clear hk2 hk3;have hk4:∀ q∈zs,∃ dx lf,H4 q.1=some (.ins C dx (kflds (.str q.2.name) (.ref lf) (ownV q.2.owner))):=fun q hq=>by
       obtain ⟨dx,lf,e⟩:=hz.at_ q hq;exact ⟨dx,lf,hG4 _ _ e (hT.ne e fun _ z=>nomatch z)⟩
      have hl4:=hG4 _ _ hl (hT.ne hl fun _ z=>nomatch z);refine ⟨_,rfl,l,rfl,⟨_,SqL.of hl4⟩,zAj (xs:=zs.map fun q=>V.ref q.1) (fun i ys H'=>H4=H'∧ys=((zs.take i).filter (fun q=>readyB ord' q.2)).map fun q=>V.ref q.1) ⟨rfl,rfl⟩ (fun i ys H' p=>by rw [← p.1];exact SqL.of hl4) (fun i ys H' hi p=>?_) ?_ ?_⟩
      ·rw [p.2,Z0];exact small _ (Zm (flen _ i) (by decide))
      ·rintro i x ys H' hi ⟨rfl,rfl⟩ N hN;rw [Z4] at hi;cases ep:zs[i]? with
       | none=>rw [ep] at hi;cases hi
       | some q =>
        rw [ep] at hi;cases hi;obtain ⟨dx,lf,e⟩:=hk4 q (Z1 ep);have no:readyB ord' q.2=false→((zs.take i).filter (fun q=>readyB ord' q.2)).map (fun q=>V.ref q.1)=((zs.take (i + 1)).filter (fun q=>readyB ord' q.2)).map fun q=>V.ref q.1:=fun z=>by rw [zCc _ ep,if_neg (by rw [z];simp)]
        have ye:readyB ord' q.2=true→((zs.take i).filter (fun q=>readyB ord' q.2)).map (fun q=>V.ref q.1)++[V.ref q.1]=((zs.take (i + 1)).filter (fun q=>readyB ord' q.2)).map fun q=>V.ref q.1:=fun z=>by rw [zCc _ ep,if_pos z,Z6];rfl
        refine ⟨_,rfl,q.1,C,dx,_,_,rfl,e,KC.cl,KC.nN,zFb _ _ _,_,rfl,d,_,rfl,DGet.k (k:=Sum.inr q.2.name) hd4,_,rfl,?_⟩;rw [hpl'.val];by_cases c1:q.2.name∈ord'
        ·rw [decide_eq_true c1];refine iteF (iteF (hN _ _ ⟨rfl,no ?_⟩));simp [readyB,c1]
        ·rw [decide_eq_false c1];refine iteT ⟨_,rfl,q.1,C,dx,_,_,rfl,e,KC.cl,KC.nO,zDb _ _ _,_,rfl,?_⟩;cases eo:q.2.owner with
         | none =>
          refine iteT (iteT ⟨_,rfl,hN _ _ ⟨rfl,ye ?_⟩⟩);simp [readyB,c1,eo]
         | some o =>
          have ev:(kflds (.str q.2.name) (.ref lf) (ownV q.2.owner)).lookup ("owner" : Str)=some (.str o):=by rw [zDb,eo];rfl
          refine iteF ⟨_,rfl,q.1,C,dx,_,_,rfl,e,KC.cl,KC.nO,ev,_,rfl,d,_,rfl,DGet.k (k:=Sum.inr o) hd4,_,rfl,?_⟩;rw [hpl'.val];by_cases c2:o∈ord'
          ·rw [decide_eq_true c2];refine iteT ⟨_,rfl,hN _ _ ⟨rfl,ye ?_⟩⟩;simp [readyB,c1,eo,c2]
          ·rw [decide_eq_false c2];refine iteF (hN _ _ ⟨rfl,no ?_⟩);simp [readyB,c1,eo,c2]
      ·rintro ys H' ⟨rfl,rfl⟩ lr' hlr';rw [Z0,Zb];exact ⟨_,lt,ord',kvs',lr',_,rfl,rfl,(Same.new hlr') _ _ hd4,hpl',hgr',zA1,hT4.same (Same.new hlr'),hG4.trans (.same (Same.new hlr'))⟩
end
end L2.W
namespace L2.W
open PySem My
theorem call_len_dict {X:Cx}:CallR X (.builtin "len") (fun vs H Q=>∃ d kvs,vs=[.ref d]∧Rd H d (.dK kvs)∧Q (.int (kvs.length:Nat)) H):=by
 intro pins s σ H vs us Q I rv h;obtain ⟨d,kvs,rfl,rd,q⟩:=h;obtain ⟨u,rfl,ru⟩:=v1 rv;cases (show u=Value.ref d from ru);exact d_len I rd fun t s' I'=>⟨.int _,H,I',⟨t,rfl⟩,q⟩
structure KsCls (K:PySem.W.Frag) (mg:Str→Option Value) (CK fI fOr fOf fOw:Addr):Prop where
 cl:Cls K CK
 nB:NoAttr K CK "by_name"
 mgC:mg "Kinds" = some (.ref CK)
 mkd:Mk K CK fI
 mOf:Meth K CK "of" fOf
noncomputable def ksF (d:V):List (Str×V):=putF "by_name" d []
theorem ks_by (d:V):(ksF d).lookup ("by_name" : Str)=some d:=by
 unfold ksF;rw [zAc,if_pos rfl]
theorem ks_no {m:Str} (d:V) (h:¬ m = "by_name"):(ksF d).lookup m=none:=by
 unfold ksF;rw [zAc,if_neg h];rfl
noncomputable def KindsAt (CK:Addr) (H:Hp) (p d:Addr) (kvs:List (Key×V)):Prop:=(∃ dx,H p=some (.ins CK dx (ksF (.ref d))))∧Rd H d (.dK kvs)
theorem KindsAt.mono {CK:Addr}{H H':Hp}{p d:Addr}{kvs:List (Key×V)} (h:KindsAt CK H p d kvs) (k:∀ b o,H b=some o→(∃ C dx fs,o=.ins C dx fs)∨(∃ kvs,o=.dK kvs)∨(∃ x u,o=.frz x u)→H' b=some o):KindsAt CK H' p d kvs:=by
 obtain ⟨⟨dx,e⟩,r⟩:=h;refine ⟨⟨dx,k _ _ e (.inl ⟨_,_,_,rfl⟩)⟩,?_⟩;rcases r with r | ⟨o,r⟩
 ·exact .inl (k _ _ r (.inr (.inl ⟨_,rfl⟩)))
 ·exact .inr ⟨o,k _ _ r (.inr (.inr ⟨_,_,rfl⟩))⟩
noncomputable def spInitKs (CK C Pt:Addr):Sp:=fun vs H Q _=>∃ (p dx l:Addr) (zs:List (Addr×Row)),vs=[.ref p,.ref l]∧H p=some (.ins CK dx [])∧H l=some (.lst (zs.map fun q=>V.ref q.1))∧Zs C H zs∧RowsP (zs.map (·.2))∧TabOk H Pt lamPos lamQ ∧
 ∀ (d:Addr) (ord:List Str) (kvs:List (Key×V)) (H':Hp),H' p=some (.ins CK dx (ksF (.ref d)))→H d=none→H' d=some (.dK kvs)→Placed zs ord kvs→Greedy (·∈zs.map (·.2)) ord→ord.length=zs.length→TabOk H' Pt lamPos lamQ →
  (∀ b o,H b=some o→b≠p→b≠Pt→H' b=some o)→Q .non H'
noncomputable def spOf (CK:Addr):Sp:=fun vs H Q _=>∃ (p d:Addr) (kvs:List (Key×V)) (n:Str) (v:V),vs=[.ref p,.str n]∧nameOk n∧KindsAt CK H p d kvs∧valV kvs (Sum.inr n)=some v∧∀ H',Same H H'→Q v H'
section
variable {P:Program}{w:World}{K:PySem.W.Frag}{mg:Str→Option Value}{base:Heap}{CX:CXT}
theorem scKs:FnScope ["self", "kinds", "placed"] ["self", "kinds"] (defScope sInitKs):=⟨rfl,rfl,rfl,by decide +kernel,rfl,by decide +kernel,by decide +kernel⟩
theorem ok_initKs {f fI fa fp fu fn C CK fIk fOr fOf fOw c Pt:Addr}{fd fda fdp fdu fdn:FuncData} (hC:Calm CX) (T:Tops K mg) (KC:KCls K mg C fI) (KI:KIsi K C) (KS:KsCls K mg CK fIk fOr fOf fOw) (LT:LamTxt K mg base c Pt) (F:Fun K "__init__" "Kinds.__init__" sInitKs f fd)
  (DN:Def K mg "is_name" sIsName ["thing"] fn fdn) (DU:Def K mg "are_unlike_names" sUnlike ["things"] fu fdu) (DA:Def K mg "are_kinds" sAreKinds ["things"] fa fda) (DP:FunL K "placed_by_owners" "placed_by_owners" sPlaced fp fdp c) (DPa:mg "placed_by_owners" = some (.ref fp)) (DPb:Binds K fdp ["kinds"] []) :
  FnOk P w K mg base CX 5 f fd ["self", "kinds"] (spInitKs CK C Pt):=by
 have GA:FnOk P w K mg base CX 3 fa fda ["things"] (spAreKinds C):=ok_areKinds hC T KC KI DA.fn DN DU;have GP:FnOk P w K mg base CX 4 fp fdp ["kinds"] (spPlaced C Pt):=ok_placed hC T KC LT DP;refine Fun.okC F scKs (fun vs H Q E h=>?_) (fun cdv A outer s H vs Q E hr h=>?_)
 ·obtain ⟨p,dx,l,zs,rfl,_⟩:=h;rfl
 ·obtain ⟨p,dx,l,zs,rfl,hp,hl,hz,rp,hT,k⟩:=h;have nd:=scKs.nd;have hr3:=hr.mono (show 3≤4 by decide)
  refine ⟨_,zA3 (zAn (zAz (zAt (zA6 GA hr3 rfl DA.at_ DA.fn.kp DA.bind .nil (passC hC) (zA0 (pv 1) zA2)))) zAp zAb)
   (zA3 (zAi (i:=2) nd rfl (Or.inl rfl) (zA6 GP hr rfl DPa DP.kp DPb .nil (passC hC) (zA0 (pv 1) zA2)))
   (zA3 (zAn (zAg op_lt (zAh call_len_dict rfl T.len PySem.boot_len (zA0 (pv 2) zA2)) (zAh zAu rfl T.len PySem.boot_len (zA0 (pv 1) zA2)) (nomark _)) zAp zAb)
   (zA5 (zBf (pv 0) (pv 2) rfl)))),?_⟩
  have kl:KL C H (zs.map (·.1)) (zs.map (·.2)):=by
   have:=hz.at_;clear hl hz rp k
   induction zs with
   | nil=>exact .nil
   | cons q t ih=>exact .cons (this q Zl) (ih fun q' h=>this q' (Zh _ h))
  refine ⟨_,rfl,l,zs.map (·.1),zs.map (·.2),rfl,(by rw [Zq];exact hl),kl,rp,fun H1 s1=>⟨_,rfl,iteF ?_⟩⟩;refine ⟨_,rfl,l,zs,rfl,s1 _ _ hl,hz.mono fun b o e _=>s1 _ _ e,hT.same s1,fun d ord kvs H2 hd hd2 hpl hgr hno hT2 hG=>?_⟩;have nT:∀ {b:Addr}{o:HO},H b=some o→(∀ ps,o≠.tbl ps)→H2 b=some o:=fun e h=>hG _ _ (s1 _ _ e) (hT.ne e h);have full:ord.length=zs.length:=by
   have a:=hgr.le;rw [Z0] at a;refine Nat.le_antisymm a (Nat.le_of_not_lt fun lt=>?_);obtain ⟨r,hr,q⟩:=rp.progress (ord:=ord) (by rw [Z0];exact lt);exact hno r hr q
  have hp2:=nT hp fun _ z=>nomatch z;have hl2:=nT hl fun _ z=>nomatch z;refine ⟨_,rfl,d,kvs,rfl,.inl hd2,_,rfl,l,_,rfl,.inl (SqL.of hl2),_,_,rfl,rfl,_,rfl,?_⟩;have kvl:kvs.length=ord.length:=(Paired.length hpl).symm;refine ite2 (fun h=>absurd (of_decide_eq_true h) (by rw [Z0];omega)) (fun _=>?_);refine ⟨_,rfl,_,rfl,p,CK,dx,[],rfl,hp2,KS.cl,KS.nB,(by show 0 < 1000;decide),?_⟩;have dp:d≠p:=Ne.symm (zA7 (s1 _ _ hp) hd);refine k d ord kvs _ zA1 ?_ (by rw [zAa dp];exact hd2) hpl hgr full (hT2.upd hp2 (fun _ z=>nomatch z) (fun _ z=>nomatch z)) fun b o e n1 n2=>?_
  ·exact s1.free hd
  ·rw [zAa n1];exact hG _ _ (s1 _ _ e) n2
theorem scOf:FnScope ["self", "name"] ["self", "name"] (defScope sOf):=⟨rfl,rfl,rfl,by decide +kernel,rfl,by decide +kernel,by decide +kernel⟩
theorem rd_same {H H':Hp}{d:Addr}{u:HO} (s:Same H H') (r:Rd H d u):Rd H' d u:=by
 rcases r with r | ⟨o,r⟩
 ·exact .inl (s _ _ r)
 ·exact .inr ⟨o,s _ _ r⟩
theorem ok_of {f fn CK fIk fOr fOf fOw:Addr}{fd fdn:FuncData} (hC:Calm CX) (T:Tops K mg) (KS:KsCls K mg CK fIk fOr fOf fOw) (F:Fun K "of" "Kinds.of" sOf f fd) (DN:Def K mg "is_name" sIsName ["thing"] fn fdn):FnOk P w K mg base CX 2 f fd ["self", "name"] (spOf CK):=by
 have GN:FnOk P w K mg base CX 1 fn fdn ["thing"] spNameD:=zCt DN.fn T;refine Fun.okC F scOf (fun vs H Q E h=>?_) (fun cdv A outer s H vs Q E hr h=>?_)
 ·obtain ⟨p,d,kvs,n,v,rfl,_⟩:=h;rfl
 ·obtain ⟨p,d,kvs,n,v,rfl,nn,⟨⟨dx,hp⟩,rd⟩,hv,k⟩:=h;have hu:=hu_of hr
  refine ⟨_,zA3 (zAn (PW.pt (zBi (zAz (zAt (zA6 GN hr rfl DN.at_ DN.fn.kp DN.bind .nil (passC hC) (zA0 (pv 1) zA2)))) (zB9 (zB6 (zD8 hu (pv 1) (zAw (pv 0) rfl)))))) zAp zAb)
   (zA5 (zA9 (pe_dget hu (zAw (pv 0) rfl) (pv 1) (fun _ _=>rfl)))),?_⟩
  refine ⟨_,rfl,_,.str n,rfl,.str n (Zm nn.2.2 (by decide)) nn.2.1,fun H1 s1=>⟨_,rfl,?_⟩⟩;rw [show nameD (.str n)=true from nn.1];refine iteF ⟨_,rfl,_,rfl,p,CK,dx,_,_,rfl,s1 _ _ hp,KS.cl,KS.nB,ks_by _,d,_,rfl,.inl ⟨kvs,Sum.inr n,rd_same s1 rd,rfl,rfl⟩,_,rfl,?_⟩;rw [hv];refine iteF ?_;exact ⟨_,rfl,p,CK,dx,_,_,rfl,s1 _ _ hp,KS.cl,KS.nB,ks_by _,_,rfl,d,v,rfl,.inl ⟨kvs,Sum.inr n,rd_same s1 rd,rfl,hv.symm⟩,k _ s1⟩
end
end L2.W
namespace L2.W
open PySem My
theorem for_enum {K:PySem.W.Frag}{a:Addr}{xs:List V}{g:TG}{tb:TS}{D:Ends}{σ : St}{H:Hp} (Pv:Nat→St→Hp→Prop) (h0:Pv 0 σ H) (hl:∀ i σ H,i≤xs.length→Pv i σ H→SqL K H a xs)
  (hs:∀ i x σ H p,xs[i]? = some x→Pv i σ H→H p=none→g (.ref p) σ (upd H p (.tup [.int (i:Nat),x])) fun σ2 H2=>tb { D with nx:=Pv (i + 1),ct:=Pv (i + 1),bk:=D.nx } σ2 H2) (hd:∀ σ H,Pv xs.length σ H→D.nx σ H) :
  ∃ W:Nat→Nat→St→Hp→Prop,(∃ m,W 0 m σ H)∧∀ i m σ H,W i m σ H →
   ((Ite K a).stop i H∧D.nx σ H)∨((Ite K a).go i H∧∃ N:St→Hp→Prop,(∀ σ' H',N σ' H'→∃ m',m' < m∧W (i + 1) m' σ' H')∧∀ x H',(Ite K a).yld i H x H'→g x σ H' fun σ2 H2=>tb { D with nx:=N,ct:=N,bk:=D.nx } σ2 H2):=by
 refine ⟨fun i m σ H=>m=xs.length - i∧i≤xs.length∧Pv i σ H,⟨xs.length,by simp,Zj _,h0⟩,?_⟩;rintro i m σ H ⟨rfl,hi,p⟩;have q:=hl i σ H hi p;by_cases hlt:i < xs.length
 ·refine .inr ⟨⟨xs,xs[i],q,by simp [hlt]⟩,Pv (i + 1),fun σ' H' p'=>⟨xs.length - (i + 1),by omega,rfl,hlt,p'⟩,fun x H' y=>?_⟩;obtain ⟨t,z,rfl,ht,rfl,hz⟩:=y;exact hs i z σ H t (hz xs q) p ht
 ·obtain rfl:i=xs.length:=by omega
  exact .inl ⟨⟨xs,q,Z7 _⟩,hd σ H p⟩
noncomputable def ownD:Option Str→PyData
 | none=>.none
 | some o=>.str o
noncomputable def rowD (r:Row):PyData:=.tuple [.str r.name,.list (r.fields.map fieldD),ownD r.owner]
structure RowsI (rs:List Row):Prop where
 ok:∀ r∈rs,nameOk r.name∧FieldsOk r.fields
 own:∀ (i:Nat) (r:Row) (o:Str),rs[i]? = some r→r.owner=some o→∃ (j:Nat) (r':Row),j < i∧rs[j]? = some r'∧r'.name=o
theorem RowsI.snoc {rs:List Row} (h:RowsI rs) {r:Row} (h1:nameOk r.name∧FieldsOk r.fields) (h2:∀ o,r.owner=some o→∃ (j:Nat) (r':Row),rs[j]? = some r'∧r'.name=o):RowsI (rs++[r]):=by
 refine ⟨fun q hq=>?_,fun i q o e eo=>?_⟩
 ·rcases List.mem_append.mp hq with hq | hq
  ·exact h.ok q hq
  ·rw [List.mem_singleton.mp hq];exact h1
 ·by_cases lt:i < rs.length
  ·rw [Zo lt] at e;obtain ⟨j,r',hj,e1,e2⟩:=h.own i q o e eo;exact ⟨j,r',hj,by rw [Zo (by omega)];exact e1,e2⟩
  ·have hi:i=rs.length:=by
    have:=(List.getElem?_eq_some_iff.mp e).1;simp at this;omega
   subst hi;have:r=q:=by simpa using e
   subst this;obtain ⟨j,r',e1,e2⟩:=h2 o eo;have hj:=(List.getElem?_eq_some_iff.mp e1).1;exact ⟨j,r',hj,by rw [Zo hj];exact e1,e2⟩
theorem zF6 {G:Addr→Prop}{H:Hp}{o:Option Str} (h:∀ x,o=some x→nameOk x):Has G H (ownV o) (ownD o):=by
 cases o with
 | none=>exact .non
 | some x =>
  have:=h x rfl;exact .str x (Zm this.2.2 (by decide)) this.2.1
end L2.W
namespace L2.W
open PySem My
theorem zB8 {G:Addr→Prop}{H:Hp}{v:V}{f:Str×List Str} (h:Has G H v (fieldD f)):∃ a l,v=.ref a∧H a=some (.tup [.str f.1,.ref l])∧H l=some (.lst (f.2.map V.str)):=by
 obtain ⟨a,xs,rfl,_,ha,_,hx⟩:=h.tup_inv;cases hx with
 | cons h1 hx =>
  cases hx with
  | cons h2 hx =>
   cases hx;obtain ⟨rfl,_⟩:=h1.str_inv;obtain ⟨l,ys,rfl,_,hl,_,hy⟩:=h2.list_inv;refine ⟨a,l,rfl,ha,?_⟩;rw [hl]
   congr 2
   clear hl h2 ha h;generalize f.2=vs at hy
   induction vs generalizing ys with
   | nil=>cases hy;rfl
   | cons x r ih =>
    cases hy with
    | cons q t =>
     obtain ⟨rfl,_⟩:=q.str_inv;rw [Zt,ih _ (by simp at *;omega) t]
theorem zCx {G:Addr→Prop}{H:Hp}{v:V}{r:Row} (h:Has G H v (rowD r)):∃ t lf,v=.ref t∧H t=some (.tup [.str r.name,.ref lf,ownV r.owner])∧Has G H (.ref lf) (.list (r.fields.map fieldD)):=by
 obtain ⟨t,xs,rfl,g,e,_,hx⟩:=h.tup_inv;cases hx with
 | cons h1 h2 =>
  cases h2 with
  | cons h3 h4 =>
   cases h4 with
   | @cons x _ _ _ h5 h6 =>
    cases h6;obtain ⟨rfl,_⟩:=h1.str_inv;obtain ⟨lf,ys,rfl,_⟩:=id h3.list_inv;have eo:x=ownV r.owner:=by
     cases er:r.owner with
     | none=>rw [er] at h5;cases h5;rfl
     | some o=>rw [er] at h5;exact h5.str_inv.1
    subst eo;exact ⟨t,lf,rfl,e,h3⟩
theorem init_ownF {C x dx:Addr}{H:Hp}{r:Row}{vf:V}{Q:VK}{E:XK} (hx:H x=none) (hdx:H dx=none) (ne:dx≠x) (hn:nameOk r.name) (hf:Has Any H vf (.list (r.fields.map fieldD))) (ok:FieldsOk r.fields) (ho:∀ o,r.owner=some o→nameOk o∧o≠r.name)
  (k:∀ H' l,Same H H'→H' x=some (.ins C dx (kflds (.str r.name) (.ref l) (ownV r.owner)))→Has (fun a=>H a=none) H' (.ref l) (.list (r.fields.map fieldD))→Q .non H') :
  spInit C (.ref x :: ([.str r.name,vf,ownV r.owner]++[])) (upd (upd H dx (.own x)) x (.ins C dx [])) Q E:=by
 have hx2:(upd H dx (.own x)) x=none:=by rw [zAa ne.symm];exact hx
 have s:Same H (upd (upd H dx (.own x)) x (.ins C dx [])):=(Same.new hdx).trans (Same.new hx2);refine ⟨x,dx,vf,ownV r.owner,r.name,_,ownD r.owner,rfl,zA1,by have:=hn.2.2;omega,hn.2.1,hn.1,hf.mono s,(fields_ok ok).1,zF6 fun o e=>(ho o e).1,?_,(fields_ok ok).2,fun H' l hp hl fr=>k H' l (fun b o e=>fr b o (s _ _ e) (zA7 e hx)) hp (hl.frame fun b o g e=>⟨s.free g,e⟩)⟩;cases eo:r.owner with
 | none=>rfl
 | some o =>
  obtain ⟨h1,h2⟩:=ho o eo;show (nameB o && !decide (o=r.name))=true;rw [h1.1,decide_eq_false h2];rfl
noncomputable def KF (C:Addr) (G:Addr→Prop) (H:Hp) (p:Addr) (r:Row):Prop:=∃ dx l,H p=some (.ins C dx (kflds (.str r.name) (.ref l) (ownV r.owner)))∧Has G H (.ref l) (.list (r.fields.map fieldD))
theorem KF.o {C:Addr}{G:Addr→Prop}{H:Hp}{p:Addr}{r:Row} (h:KF C G H p r):KindO C H p r:=let ⟨dx,l,e,_⟩:=h;⟨dx,l,e⟩
theorem KF.frame {C:Addr}{G G':Addr→Prop}{H H':Hp}{p:Addr}{r:Row} (h:KF C G H p r) (h1:∀ b o,H b=some o→(∃ C dx fs,o=.ins C dx fs)→H' b=some o) (h2:∀ b o,G b→isSeq o→H b=some o→G' b∧H' b=some o):KF C G' H' p r :=
 let ⟨dx,l,e,d⟩:=h
 ⟨dx,l,h1 _ _ e ⟨_,_,_,rfl⟩,d.frameS h2⟩
theorem RowsP.owner {rs:List Row} (h:RowsP rs) {r:Row}{o:Str} (hr:r∈rs) (e:r.owner=some o):nameOk o∧o≠r.name:=by
 obtain ⟨r0,ok,p⟩:=h;obtain ⟨a,b,_⟩:=ok.owner (p.mem_iff.mp hr) e;exact ⟨a,b⟩
noncomputable def spMade (CK C Pt:Addr):Sp:=fun vs H Q _=>∃ (l:Addr) (rs:List Row),vs=[.ref l]∧Has Any H (.ref l) (.list (rs.map rowD))∧RowsP rs∧TabOk H Pt lamPos lamQ ∧
 ∀ (q d:Addr) (ord:List Str) (kvs:List (Key×V)) (zs:List (Addr×Row)) (H':Hp),KindsAt CK H' q d kvs→H q=none→H d=none→Zs C H' zs→(∀ q∈zs,KF C (fun a=>H a=none) H' q.1 q.2)→zs.map (·.2)=rs→Placed zs ord kvs→Greedy (·∈rs) ord→ord.length=rs.length→TabOk H' Pt lamPos lamQ→GrownBut Pt H H'→Q (.ref q) H'
section
variable {P:Program}{w:World}{K:PySem.W.Frag}{mg:Str→Option Value}{base:Heap}{CX:CXT}
theorem scMa:FnScope ["_law_spec", "_law_some", "_law_name", "_law_fields_here", "_law_owner_here"] ["_law_spec"] (defScope sMade):=⟨rfl,rfl,rfl,by decide +kernel,rfl,by decide +kernel,by decide +kernel⟩
theorem ok_made {f C fI CK fIk fOr fOf fOw Pt:Addr}{fd fdI fdk:FuncData} (hC:Calm CX) (T:Tops K mg) (KC:KCls K mg C fI) (KS:KsCls K mg CK fIk fOr fOf fOw) (GK:FnOk P w K mg base CX 5 fI fdI ["self", "name", "fields", "owner"] (spInit C)) (bK:Binds K fdI ["self", "name", "fields", "owner"] [])
  (GS:FnOk P w K mg base CX 5 fIk fdk ["self", "kinds"] (spInitKs CK C Pt)) (bS:Binds K fdk ["self", "kinds"] []) (F:Fun K "_law_made" "_law_made" sMade f fd):FnOk P w K mg base CX 7 f fd ["_law_spec"] (spMade CK C Pt):=by
 refine Fun.okC F scMa (fun vs H Q E h=>?_) (fun cdv A outer s H vs Q E hr h=>?_)
 ·obtain ⟨l,rs,rfl,_⟩:=h;rfl
 ·obtain ⟨l,rs,rfl,hl,rp,hT,q⟩:=h;have nd:=scMa.nd
  refine ⟨_,zA3 (zAi (i:=1) nd rfl (Or.inl rfl) (zAm zA2))
   (zA3 (zBt PassesOwn.never rfl (zAk (pv 0)) (zC6 rfl (zAe (zA8 (i:=2) nd rfl (Or.inl rfl)) (zAe (zA8 (i:=3) nd rfl (Or.inl rfl)) (zAe (zA8 (i:=4) nd rfl (Or.inl rfl)) zB2))))
    (zA5 (zBj (zEi PySem.F.plainAttrs_list PySem.F.slot_list_append PySem.F.type_list_append zDa (pv 1) (zA0 (zBl KC.mkd GK hr rfl KC.mgC bK .nil (passC hC) (zA0 (pv 2) (zA0
     (zB0 (T:=["_law_field", "_law_values"]) rfl ScOk.auto (zAk (pv 3)) (fun _ _ _ _=>zBu (K:=K) (n:=2) rfl rfl (zAe (zA8 (i:=5) (by decide +kernel:(["_law_spec", "_law_some", "_law_name", "_law_fields_here", "_law_owner_here", "_law_field", "_law_values"]:List Str).Nodup) rfl (Or.inl rfl)) (zAe (zA8 (i:=6) (by decide +kernel:(["_law_spec", "_law_some", "_law_name", "_law_fields_here", "_law_owner_here", "_law_field", "_law_values"]:List Str).Nodup) rfl (Or.inl rfl)) zB2))) (fun _ _ _ _=>zB7)
      (fun _ _ _ _=>zBc (zA0 (pv 5) (zA0 (zAs (r:=fun xs H Q=>∃ p ys,xs=[.ref p]∧(SqL K H p ys∨SqT K H p ys)∧∀ l,H l=none→Q (.ref l) (upd H l (.lst ys))) zB1 rfl T.list PyProof.Rows.boot_list (zA0 (pv 6) zA2)) zA2))))
     (zA0 (pv 4) zA2)))) zA2)))))
   (zA5 (zA9 (zBl KS.mkd GS hr rfl KS.mgC bS .nil (passC hC) (zA0 (pv 1) zA2))))),?_⟩
  have small:∀ n:Nat,n≤1000→n≤sizeLine:=fun n h=>Zn (small1000 h);obtain ⟨l',xs,e,_,hl1,hz,hx⟩:=hl.list_inv;cases e;have xl:xs.length=rs.length:=by rw [hx.length,Z0]
  obtain ⟨r0,r5⟩:=rp.le;refine ⟨Zj _,fun lg fg=>?_⟩
  refine ⟨_,rfl,l,rfl,⟨_,SqL.of ((Same.new fg) _ _ hl1)⟩,zBs (K:=K) (a:=l) (xs:=xs) (fun i σ H2=>∃ (zs:List (Addr×Row)) (x2 x3 x4:Option V),σ = [some (.ref l),some (.ref lg),x2,x3,x4]∧H2 lg=some (.lst (zs.map fun q=>V.ref q.1))∧zs.map (·.2)=rs.take i∧(∀ q∈zs,KF C (fun a=>H a=none∧a≠lg) H2 q.1 q.2)∧Same H H2)
   ⟨[],none,none,none,rfl,zA1,rfl,(fun q h=>nomatch h),Same.new fg⟩ (fun i σ H2 _ ⟨_,_,_,_,_,_,_,_,s2⟩=>SqL.of (s2 _ _ hl1)) ?_ ?_⟩
  ·rintro i x σ H2 hi ⟨zs,x2,x3,x4,rfl,hg2,hzs,hk2,s2⟩;obtain ⟨dd,hdd,hv⟩:=hx.get hi;rw [Z4] at hdd;cases er:rs[i]? with
   | none=>rw [er] at hdd;cases hdd
   | some r =>
    rw [er] at hdd;cases hdd;have mr:=Z1 er;obtain ⟨onm,ofs⟩:=rp.ok r mr;obtain ⟨t,lf,rfl,ht,hf⟩:=zCx hv;have hf2:=hf.mono s2;obtain ⟨lf',fs,e,_,hlf,hlz,hfx⟩:=hf2.list_inv;cases e;have zl:zs.length≤i:=by
     have:=congrArg List.length hzs;rw [Z0,Zk] at this;omega
    have il:i < rs.length:=(List.getElem?_eq_some_iff.mp er).1;refine ⟨t,_,rfl,SqT.of (s2 _ _ ht),rfl,_,_,rfl,_,_,rfl,_,_,rfl,rfl,?_⟩;refine ⟨_,rfl,.inl ⟨rfl,_,SqL.of hg2⟩,_,rfl,_,rfl,lf,rfl,⟨_,SqL.of hlf⟩,zAj (xs:=fs) (fun j ys H'=>Same H2 H'∧HasAll Any H' ys ((r.fields.take j).map fieldD)) ⟨Same.refl _,.nil⟩ (fun j ys H' z=>SqL.of (z.1 _ _ hlf)) (fun j ys H' hj z=>?_) ?_ ?_⟩
    ·have:=z.2.length;rw [Z0] at this;have:=Zp j r.fields;have:=ofs.le;exact small _ (by omega)
    ·rintro j y ys H' hj ⟨s6,hy⟩ N hN;obtain ⟨d,hd,hv⟩:=hfx.get hj;rw [Z4] at hd;cases ef:r.fields[j]? with
     | none=>rw [ef] at hd;cases hd
     | some f =>
      rw [ef] at hd;cases hd;obtain ⟨b,lv,rfl,hb,hlv⟩:=zB8 hv;refine pickT (SqT.of (s6 _ _ hb)) ?_;obtain ⟨okn,okv⟩:=ofs.ok f (Z1 ef);refine ⟨_,rfl,_,rfl,lv,_,rfl,.inl (SqL.of (s6 _ _ hlv)),fun l3 hl3=>⟨by show 2≤sizeLine;exact small 2 (by decide),fun t ht=>hN _ _ ⟨(s6.trans (Same.new hl3)).trans (Same.new ht),?_⟩⟩⟩;rw [Z5,ef,Z6];refine HasAll.snoc (hy.mono ((Same.new hl3).trans (Same.new ht))) (.tup trivial zA1 (by show 2≤1000;decide) (.cons (.str _ (by have:=okn.2.2;omega) okn.2.1) (.cons (.lst trivial ((Same.new ht) _ _ zA1) ?_ (zC8 okv.ok)) .nil)));rw [Z0];have:=okv.le;omega
    ·rintro ys H' ⟨s6,hy⟩ ln hln;have ex:fs.length=r.fields.length:=by rw [hfx.length,Z0]
     rw [ex,Zb] at hy;have s7:Same H2 (upd H' ln (.lst ys)):=s6.trans (Same.new hln);have hf7:Has Any (upd H' ln (.lst ys)) (.ref ln) (.list (r.fields.map fieldD)):=.lst trivial zA1 (by rw [hy.length,Z0];have:=ofs.le;omega) (hy.mono (Same.new hln));generalize upd H' ln (.lst ys)=H7 at s7 hf7 ⊢;refine ⟨_,rfl,?_⟩;intro x dx hx' hdx hne;refine init_ownF hx' hdx hne onm hf7 ofs (fun o e=>rp.owner mr e) fun H8 lf8 s8 e8 d8=>⟨rfl,?_⟩;have s28:=s7.trans s8;have hg8:=s28 _ _ hg2;refine ⟨lg,_,_,rfl,rfl,hg8,by rw [Z0];exact small1000 (by omega),?_⟩;have kk:∀ {p:Addr}{r:Row},KF C (fun a=>H a=none∧a≠lg) H8 p r→KF C (fun a=>H a=none∧a≠lg) (upd H8 lg (.lst ((zs.map fun q=>V.ref q.1)++[V.ref x]))) p r:=fun h=>h.frame (fun b o e ⟨_,_,_,eo⟩=>by rw [zAa (ne_of e hg8 (by rw [eo];exact fun z=>nomatch z))];exact e) fun b o g _ e=>⟨g,by rw [zAa g.2];exact e⟩;have kd8:KF C (fun a=>H a=none∧a≠lg) H8 x r:=⟨dx,lf8,e8,d8.frame fun b o g e=>⟨⟨(s2.trans s7).free g,fun z=>(by rw [z,s7 _ _ hg2] at g;cases g)⟩,e⟩⟩;refine ⟨zs++[(x,r)],_,_,_,rfl,by rw [zA1,Z6];rfl,by rw [Z6,hzs,Z5,er];rfl,fun q hq=>?_,fun b o e=>?_⟩
     ·rcases List.mem_append.mp hq with hq | hq
      ·exact kk ((hk2 q hq).frame (fun b o e _=>s28 _ _ e) fun b o g _ e=>⟨g,s28 _ _ e⟩)
      ·rw [List.mem_singleton.mp hq];exact kk kd8
     ·rw [zAa (zA7 e fg)];exact s28 _ _ (s2 _ _ e)
  ·rintro σ H2 ⟨zs,x2,x3,x4,rfl,hg2,hzs,hk2,s2⟩;rw [xl,Zb] at hzs;have zl:zs.length=rs.length:=by rw [← hzs,Z0]
   refine ⟨_,rfl,?_⟩;intro x dx hx' hdx hne;have hx2:(upd H2 dx (.own x)) x=none:=by rw [zAa hne.symm];exact hx'
   have s3:Same H2 (upd (upd H2 dx (.own x)) x (.ins CK dx [])):=(Same.new hdx).trans (Same.new hx2);refine ⟨x,dx,lg,zs,rfl,zA1,s3 _ _ hg2,⟨fun q hq=>(hk2 q hq).o.mono fun b o e _=>s3 _ _ e,?_,by omega⟩,by rw [hzs];exact rp,(hT.same s2).same s3,fun d ord kvs H' hp' hd' hd2 hpl hgr hlen hT' fr=>⟨rfl,?_⟩⟩
   ·have:=rp.nd;rw [← hzs,Zq] at this;exact this
   ·have fr2:∀ b o,H2 b=some o→b≠Pt→H' b=some o:=fun b o e nb=>fr b o (s3 _ _ e) (zA7 e hx') nb;have hT2:=hT.same s2;rw [hzs] at hgr;refine q x d ord kvs zs H' ⟨⟨dx,hp'⟩,.inl hd2⟩ (s2.free hx') (s2.free (s3.free hd')) ⟨fun q hq=>?_,?_,by omega⟩ (fun q hq=>(hk2 q hq).frame (fun b o e ⟨_,_,_,eo⟩=>fr2 _ _ e (hT2.ne e (by rw [eo];exact fun _ z=>nomatch z))) fun b o g hs e=>⟨g.1,fr2 _ _ e (hT2.ne e (by rintro ps rfl;exact hs))⟩) hzs hpl hgr (by omega) hT' fun b o e nb=>fr2 b o (s2 _ _ e) nb
    ·obtain ⟨dx',l',e⟩:=(hk2 q hq).o;exact ⟨dx',l',fr2 _ _ e (hT2.ne e fun _ z=>nomatch z)⟩
    ·have:=rp.nd;rw [← hzs,Zq] at this;exact this
end
end L2.W
namespace L2.W
open PySem My
noncomputable def atOk (a:Option Str):Prop:=∀ x,a=some x→nameOk x
theorem at_has {G:Addr→Prop}{H:Hp}{a:Option Str} (h:atOk a):Has G H (ownV a) (ownD a):=zF6 h
theorem atoms_has {G:Addr→Prop}{H:Hp}:∀ {ks:List (Option Str)},(∀ x∈ks,atOk x)→HasAll G H (ks.map ownV) (ks.map ownD)
 | [],_=>.nil
 | k :: r,h=>.cons (at_has (h k Zl)) (atoms_has fun x hx=>h x (Zh _ hx))
theorem at_inv {G:Addr→Prop}{H:Hp}{x:V}{a:Option Str} (h:Has G H x (ownD a)):x=ownV a:=by
 cases a with
 | none=>cases h;rfl
 | some s=>exact h.str_inv.1
noncomputable def stepA (acc:List (List (Option Str))) (vs:List (Option Str)):List (List (Option Str)):=acc.flatMap fun st=>vs.map fun v=>st++[v]
noncomputable def allA (fs:List (List (Option Str))):List (List (Option Str)):=fs.foldl (fun acc f=>stepA acc f) [[]]
noncomputable def tupA (st:List (Option Str)):PyData:=.tuple (st.map ownD)
noncomputable def manyA (fs:List (List (Option Str))):Nat:=fs.foldl (fun m f=>m * f.length) 1
noncomputable def picksD (fs:List (List (Option Str))):PyData:=.list ((allA fs).map tupA)
theorem stepA_len (acc:List (List (Option Str))) (vs:List (Option Str)):(stepA acc vs).length=acc.length * vs.length:=by
 unfold stepA
 induction acc with
 | nil=>simp
 | cons a r ih=>rw [Yl,Zg,ih,Z0,Zi,Yj,Nat.add_comm]
theorem zEh (fs:List (List (Option Str))) (f:List (Option Str)):allA (fs++[f])=stepA (allA fs) f:=by
 unfold allA;rw [List.foldl_append];rfl
theorem zEp (fs:List (List (Option Str))) (f:List (Option Str)):manyA (fs++[f])=manyA fs * f.length:=by
 unfold manyA;rw [List.foldl_append];rfl
theorem zBm (fs:List (List (Option Str))):(allA fs).length=manyA fs:=by
 suffices h:∀ (n:Nat),(allA (fs.take n)).length=manyA (fs.take n) by
  have:=h fs.length
  rwa [Zb] at this
 intro n
 induction n with
 | zero=>rfl
 | succ n ih =>
  cases e:fs[n]? with
  | none=>rw [Z5,e];simpa using ih
  | some f =>
   have e2:fs.take (n + 1)=fs.take n++[f]:=by rw [Z5,e];rfl
   rw [e2,zEh,zEp,stepA_len,ih]
theorem zFg {fs:List (List (Option Str))} (ok:∀ f∈fs,∀ x∈f,atOk x):∀ st∈allA fs,st.length=fs.length∧∀ x∈st,atOk x:=by
 suffices h:∀ (n:Nat),∀ st∈allA (fs.take n),st.length=(fs.take n).length∧∀ x∈st,atOk x by
  have:=h fs.length
  rwa [Zb] at this
 intro n
 induction n with
 | zero =>
  intro st h;have:st=[]:=by simpa [allA] using h
  subst this;exact ⟨rfl,fun x h=>by simp at h⟩
 | succ n ih =>
  cases e:fs[n]? with
  | none =>
   have e2:fs.take (n + 1)=fs.take n:=by rw [Z5,e];simp
   rw [e2];exact ih
  | some f =>
   have e2:fs.take (n + 1)=fs.take n++[f]:=by rw [Z5,e];rfl
   rw [e2,zEh];intro st h;unfold stepA at h;obtain ⟨a,ha,h⟩:=List.mem_flatMap.mp h;obtain ⟨v,hv,rfl⟩:=List.mem_map.mp h;obtain ⟨h1,h2⟩:=ih a ha;refine ⟨by rw [Zg,Zg,h1];rfl,fun x hx=>?_⟩;rcases List.mem_append.mp hx with hx | hx
   ·exact h2 x hx
   ·have:x=v:=by simpa using hx
    subst this;exact ok f (Z1 e) _ hv
theorem zF9 (fs:List (List (Option Str))) (h:∀ f∈fs,0 < f.length) (n:Nat):manyA (fs.take n)≤manyA fs:=by
 have key:∀ (l:List (List (Option Str))) (m:Nat),(∀ f∈l,0 < f.length)→m≤l.foldl (fun m f=>m * f.length) m:=by
  intro l
  induction l with
  | nil=>intro m _;exact Z7 _
  | cons f r ih =>
   intro m h;rw [Y0];exact Zm (Nat.le_mul_of_pos_right _ (h f Zl)) (ih _ fun g hg=>h g (Zh _ hg))
 have e:manyA fs=(fs.drop n).foldl (fun m f=>m * f.length) (manyA (fs.take n)):=by
  unfold manyA;rw [← List.foldl_append,List.take_append_drop]
 rw [e];exact key _ _ fun f hf=>h f (List.mem_of_mem_drop hf)
theorem tupA_has {G:Addr→Prop}{H:Hp}{a:Addr}{st:List (Option Str)} (g:G a) (h:H a=some (.tup (st.map ownV))) (hl:st.length≤1000) (ok:∀ x∈st,atOk x):Has G H (.ref a) (tupA st) :=
 .tup g h (by rw [Z0];exact hl) (atoms_has ok)
theorem zEf {G:Addr→Prop}{H:Hp}:∀ {xs:List V}{ks:List (Option Str)},HasAll G H xs (ks.map ownD)→xs=ks.map ownV
 | _,[],.nil=>rfl
 | _,k :: r,.cons h t=>by rw [Zt,zEf t,at_inv h]
theorem tupA_inv {G:Addr→Prop}{H:Hp}{v:V}{st:List (Option Str)} (h:Has G H v (tupA st)):∃ a,v=.ref a∧G a∧H a=some (.tup (st.map ownV)):=by
 obtain ⟨a,xs,rfl,g,ha,_,hx⟩:=h.tup_inv;rw [zEf hx] at ha;exact ⟨a,rfl,g,ha⟩
noncomputable def stA (fs:List (Str×List Str)):List (List (Option Str)):=fs.map fun f=>f.2.map some
noncomputable def wiA (fs:List (Str×List Str)):List (List (Option Str)):=fs.map fun f=>none :: f.2.map some
noncomputable def optT:Option (List (Option Str))→PyData
 | none=>.none
 | some st=>tupA st
theorem someV (vs:List Str):(vs.map some).map ownV=vs.map V.str:=by rw [Zq];rfl
theorem someD (vs:List Str):(vs.map some).map ownD=vs.map .str:=by rw [Zq];rfl
theorem zDr (fs:List (Str×List Str)):manyA (stA fs)=manyOf fs:=by
 unfold manyA manyOf stA;rw [List.foldl_map]
 congr 1
 funext m f;rw [Z0]
theorem many_wiA {fs:List (Str×List Str)} (h:∀ f∈fs,0 < f.2.length):manyA (wiA fs)≤2 ^ fs.length * manyOf fs:=by
 have key:∀ (l:List (Str×List Str)) (m m' c:Nat),(∀ f∈l,0 < f.2.length)→m'≤c * m→l.foldl (fun m f=>m * (f.2.length + 1)) m'≤2 ^ l.length * c * l.foldl (fun m f=>m * f.2.length) m:=by
  intro l
  induction l with
  | nil=>intro m m' c _ hm;simpa using hm
  | cons f r ih =>
   intro m m' c hp hm;rw [Y0,Y0,Zi];have h1:=hp f Zl
   have:=ih (m * f.2.length) (m' * (f.2.length + 1)) (2 * c) (fun g hg=>hp g (Zh _ hg)) (by
    calc m' * (f.2.length + 1)≤(c * m) * (2 * f.2.length):=Nat.mul_le_mul hm (by omega)
     _=2 * c * (m * f.2.length):=by rw [Nat.mul_comm 2 c,Nat.mul_assoc,Nat.mul_assoc,Nat.mul_left_comm m])
   rw [Nat.pow_succ,Nat.mul_assoc (2 ^ r.length) 2 c];exact this
 have:=key fs 1 1 1 h (by decide);unfold manyA manyOf wiA;rw [List.foldl_map]
 simpa using this
theorem wi_le {fs:List (Str×List Str)} (ok:FieldsOk fs):manyA (wiA fs)≤64:=by
 have h1:=many_wiA (fs:=fs) fun f hf=>(ok.ok f hf).2.ne;have h2:=ok.many;have h3:2 ^ fs.length≤2 ^ 3:=Nat.pow_le_pow_right (by decide) ok.le;have h4:2 ^ fs.length * manyOf fs≤8 * 8:=Nat.mul_le_mul h3 h2;omega
noncomputable def wishes (fs:List (Str×List Str)):List (Option (List (Option Str))):=none :: (allA (wiA fs)).map some
theorem zCh {α β : Type}{R : α→β→Prop}:∀ {l:List α}{m:List β}{i:Nat}{a : α},Paired R l m→l[i]? = some a→∃ b,m[i]? = some b∧R a b
 | _,_,_,_,.nil,h=>by simp at h
 | _,_,0,_,.cons r _,h=>⟨_,rfl,by simp at h;rw [← h];exact r⟩
 | _,_,i + 1,_,.cons _ t,h=>by
  obtain ⟨b,e,r⟩:=zCh (i:=i) t (by simpa using h);exact ⟨b,by simpa using e,r⟩
noncomputable def Kd (CK C:Addr) (H:Hp) (q:Addr) (rs:List Row):Prop:=∃ (d:Addr) (kvs:List (Key×V)) (zs:List (Addr×Row)),KindsAt CK H q d kvs∧zs.map (·.2)=rs∧(∀ z∈zs,KF C Any H z.1 z.2∧valV kvs (Sum.inr z.2.name)=some (.ref z.1))∧∀ n,n∉rs.map (·.name)→valV kvs (Sum.inr n)=none
theorem KF.same {C:Addr}{H H':Hp}{p:Addr}{r:Row} (h:KF C Any H p r) (s:Same H H'):KF C Any H' p r:=h.frame (fun _ _ e _=>s _ _ e) fun _ _ _ _ e=>⟨trivial,s _ _ e⟩
theorem KindsAt.same {CK:Addr}{H H':Hp}{p d:Addr}{kvs:List (Key×V)} (h:KindsAt CK H p d kvs) (s:Same H H'):KindsAt CK H' p d kvs:=h.mono fun _ _ e _=>s _ _ e
theorem Kd.same {CK C:Addr}{H H':Hp}{q:Addr}{rs:List Row} (h:Kd CK C H q rs) (s:Same H H'):Kd CK C H' q rs:=by
 obtain ⟨d,kvs,zs,h1,h2,h3,h4⟩:=h;exact ⟨d,kvs,zs,h1.same s,h2,fun z hz=>⟨(h3 z hz).1.same s,(h3 z hz).2⟩,h4⟩
theorem Kd.kind {CK C:Addr}{H:Hp}{q:Addr}{rs:List Row} (h:Kd CK C H q rs) {r:Row} (hr:r∈rs):∃ d kvs p,KindsAt CK H q d kvs∧valV kvs (Sum.inr r.name)=some (.ref p)∧KF C Any H p r:=by
 obtain ⟨d,kvs,zs,h1,h2,h3,h4⟩:=h;rw [← h2] at hr;obtain ⟨z,hz,rfl⟩:=List.mem_map.mp hr;exact ⟨d,kvs,z.1,h1,(h3 z hz).2,(h3 z hz).1⟩
noncomputable def fieldsOf (rs:List Row) (o:Str):List (Str×List Str):=((rs.find? fun r=>decide (r.name=o)).map (·.fields)).getD []
theorem zB4 {rs:List Row} (h:RowsP rs) {r:Row} (hr:r∈rs):fieldsOf rs r.name=r.fields:=by
 unfold fieldsOf;cases e:rs.find? fun q=>decide (q.name=r.name) with
 | none=>exact absurd (List.find?_eq_none.mp e r hr) (by simp)
 | some q =>
  have h1:q.name=r.name:=by simpa using List.find?_some e
  have h2:=h.one (List.mem_of_find?_eq_some e) hr h1;rw [h2];rfl
noncomputable def ownS (rs:List Row) (r:Row):List (Option (List (Option Str))):=match r.owner with
 | none=>[none]
 | some o=>(allA (stA (fieldsOf rs o))).map some
noncomputable def OptAt (H:Hp) (x:V) (w:Option (List (Option Str))):Prop:=match w with
 | none=>x=.non
 | some st=>∃ a,x=.ref a∧H a=some (.tup (st.map ownV))
noncomputable def optOk (w:Option (List (Option Str))):Prop:=∀ st,w=some st→st.length≤3∧∀ x∈st,atOk x
theorem OptAt.has {G:Addr→Prop}{H:Hp}{x:V}{w:Option (List (Option Str))} (h:OptAt H x w) (ok:optOk w) (g:∀ a xs,H a=some (.tup xs)→G a):Has G H x (optT w):=by
 cases w with
 | none=>rw [show x=.non from h];exact .non
 | some st =>
  obtain ⟨a,rfl,ha⟩:=h;obtain ⟨h1,h2⟩:=ok st rfl;exact tupA_has (g _ _ ha) ha (by omega) h2
theorem OptAt.of {G:Addr→Prop}{H:Hp}{x:V}{w:Option (List (Option Str))} (h:Has G H x (optT w)):OptAt H x w:=by
 cases w with
 | none=>cases h;rfl
 | some st =>
  obtain ⟨a,rfl,_,ha⟩:=tupA_inv h;exact ⟨a,rfl,ha⟩
theorem OptAt.keep {H H':Hp}{x:V}{w:Option (List (Option Str))} (h:OptAt H x w) (k:∀ b xs,H b=some (.tup xs)→H' b=some (.tup xs)):OptAt H' x w:=by
 cases w with
 | none=>exact h
 | some st =>
  obtain ⟨a,rfl,ha⟩:=h;exact ⟨a,rfl,k _ _ ha⟩
theorem st_ok {fs:List (Str×List Str)} (ok:FieldsOk fs):∀ w∈(allA (stA fs)).map some,optOk w:=by
 intro w hw st e;subst e;obtain ⟨st',h,e⟩:=List.mem_map.mp hw;cases e
 obtain ⟨h1,h2⟩:=zFg (fs:=stA fs) (fun f hf x hx y e=>by
  subst e;obtain ⟨g,hg,rfl⟩:=List.mem_map.mp hf;obtain ⟨z,hz,e⟩:=List.mem_map.mp hx
  exact (Zf e) ▸ (ok.ok g hg).2.ok z hz) st h
 refine ⟨?_,h2⟩;rw [h1];unfold stA;rw [Z0];exact ok.le
theorem wi_ok {fs:List (Str×List Str)} (ok:FieldsOk fs):∀ w∈wishes fs,optOk w:=by
 intro w hw st e;subst e;rcases List.mem_cons.mp hw with e | hw
 ·cases e
 obtain ⟨st',h,e⟩:=List.mem_map.mp hw;cases e
 obtain ⟨h1,h2⟩:=zFg (fs:=wiA fs) (fun f hf x hx y e=>by
  subst e;obtain ⟨g,hg,rfl⟩:=List.mem_map.mp hf;rcases List.mem_cons.mp hx with e | hx
  ·cases e
  obtain ⟨z,hz,e⟩:=List.mem_map.mp hx
  exact (Zf e) ▸ (ok.ok g hg).2.ok z hz) st h
 refine ⟨?_,h2⟩;rw [h1];unfold wiA;rw [Z0];exact ok.le
noncomputable def nowS (r:Row):List (Option (List (Option Str))):=none :: (allA (stA r.fields)).map some
noncomputable def sitD (n:Str) (w o s:Option (List (Option Str))):PyData:=.tuple [.str n,optT w,optT o,optT s]
noncomputable def rowS (r:Row) (w o:Option (List (Option Str))):List PyData:=(nowS r).map (sitD r.name w o)
noncomputable def colS (rs:List Row) (r:Row) (w:Option (List (Option Str))):List PyData:=(ownS rs r).flatMap (rowS r w)
noncomputable def sitsOf (rs:List Row) (r:Row):List PyData:=(wishes r.fields).flatMap (colS rs r)
theorem zDs {α β : Type}{l:List α}{f : α→List β}{n:Nat} (h:∀ x∈l,(f x).length=n):(l.flatMap f).length=l.length * n:=by
 induction l with
 | nil=>simp
 | cons a t ih=>rw [Yl,Zg,h a Zl,ih fun x hx=>h x (Zh _ hx),Zi,Yj,Nat.add_comm]
theorem rowS_len (r:Row) (w o:Option (List (Option Str))):(rowS r w o).length=(nowS r).length:=by unfold rowS;rw [Z0]
theorem colS_len (rs:List Row) (r:Row) (w:Option (List (Option Str))):(colS rs r w).length=(ownS rs r).length * (nowS r).length:=zDs fun o _=>rowS_len r w o
theorem sits_len (rs:List Row) (r:Row):(sitsOf rs r).length=(wishes r.fields).length * ((ownS rs r).length * (nowS r).length):=zDs fun w _=>colS_len rs r w
noncomputable def OwnIn (rs:List Row):Prop:=∀ r∈rs,∀ o,r.owner=some o→∃ r'∈rs,r'.name=o
theorem RowsP.ownIn {rs:List Row} (h:RowsP rs):OwnIn rs:=by
 obtain ⟨rs0,ok,p⟩:=h;intro r hr o e;obtain ⟨i,hi,ei⟩:=Zz (p.mem_iff.mp hr);obtain ⟨j,r',_,h1,h2⟩:=ok.own i r o (by rw [Z3 hi,ei]) e;exact ⟨r',p.mem_iff.mpr (Z1 h1),h2⟩
theorem zDy {rs:List Row}{r:Row} (e:r.owner=none):ownS rs r=[none]:=by unfold ownS;rw [e]
theorem zCi {rs:List Row} (h:RowsP rs) {r r':Row} (h1:r'∈rs) (e:r.owner=some r'.name):ownS rs r=(allA (stA r'.fields)).map some:=by
 unfold ownS;rw [e];show (allA (stA (fieldsOf rs r'.name))).map some=_;rw [zB4 h h1]
theorem own_ok {rs:List Row} (h:RowsP rs) {r:Row} (hr:r∈rs):∀ w∈ownS rs r,optOk w:=by
 intro w hw;cases e:r.owner with
 | none =>
  rw [zDy e] at hw;rw [List.mem_singleton.mp hw];intro st z;cases z
 | some o =>
  obtain ⟨r',h1,rfl⟩:=h.ownIn r hr o e;rw [zCi h h1 e] at hw;exact st_ok (h.ok r' h1).2 w hw
theorem allA_stA_len {fs:List (Str×List Str)} (ok:FieldsOk fs):(allA (stA fs)).length≤8:=by rw [zBm,zDr];exact ok.many
theorem now_ok {r:Row} (ok:FieldsOk r.fields):∀ w∈nowS r,optOk w:=by
 intro w hw;rcases List.mem_cons.mp hw with e | hw
 ·intro st z;rw [e] at z;cases z
 ·exact st_ok ok w hw
theorem zF7 {G:Addr→Prop}{H:Hp}:∀ {xs:List V}{ws:List (Option (List (Option Str)))},HasAll G H xs (ws.map optT)→Paired (OptAt H) xs ws
 | _,[],.nil=>.nil
 | _,_ :: _,.cons h t=>.cons (OptAt.of h) (zF7 t)
end L2.W
namespace L2.W
open PySem My
noncomputable def placeOf (fs:List (Str×List Str)) (f:Str):Option Nat:=fs.findIdx? fun p=>decide (p.1=f)
noncomputable def optV:Option Nat→V
 | none=>.non
 | some i=>.int (i:Nat)
noncomputable def spPlace (C:Addr):Sp:=fun vs H Q _=>∃ (p:Addr) (r:Row) (f:Str),vs=[.ref p,.str f]∧KF C Any H p r∧FieldsOk r.fields∧∀ H',Same H H'→Q (optV (placeOf r.fields f)) H'
theorem flats (ks:List Str):(ks.map V.str).all flatV=true:=by
 rw [Yf];intro x hx;obtain ⟨k,_,rfl⟩:=List.mem_map.mp hx;rfl
theorem zCm {n:Str}:∀ ks:List Str,inV (.str n) (ks.map V.str)=decide (n∈ks)
 | []=>by simp [inV]
 | k :: r=>by
  have:=zCm (n:=n) r;unfold inV at this ⊢;rw [Zt,Y5,this];by_cases c:k=n
  ·subst c;simp [eqV]
  ·have h1:eqV (.str k) (.str n)=false:=by
    unfold eqV;simp [c]
   rw [h1];simp [Ne.symm c]
theorem zBk {fs:List (Str×List Str)}{f:Str}{i:Nat} (h:placeOf fs f=some i):(fs.map (·.1))[i]? = some f∧∀ m,m < i→(fs.map (·.1))[m]?≠some f:=by
 unfold placeOf at h;rw [List.findIdx?_eq_some_iff_getElem] at h;obtain ⟨hi,h1,h2⟩:=h;refine ⟨?_,fun m hm e=>?_⟩
 ·rw [Z4,Z3 hi];exact congrArg some (of_decide_eq_true h1)
 ·have hm':m < fs.length:=by omega
  rw [Z4,Z3 hm'] at e;exact h2 m hm (decide_eq_true (Zf e))
theorem zCs {fs:List (Str×List Str)}{f:Str} (h:placeOf fs f=none):f∉fs.map (·.1):=fun hm=>by
 unfold placeOf at h;rw [List.findIdx?_eq_none_iff] at h;obtain ⟨q,hq,e⟩:=List.mem_map.mp hm;have:=h q hq;rw [decide_eq_true e] at this;cases this
section
variable {P:Program}{w:World}{K:PySem.W.Frag}{mg:Str→Option Value}{base:Heap}{CX:CXT}
theorem scPlc:FnScope ["kind", "field", "fields"] ["kind", "field"] (defScope sPlaceOf):=⟨rfl,rfl,rfl,by decide +kernel,rfl,by decide +kernel,by decide +kernel⟩
theorem zDq {f C fI:Addr}{fd:FuncData} (KC:KCls K mg C fI) (F:Fun K "place_of" "place_of" sPlaceOf f fd):FnOk P w K mg base CX 1 f fd ["kind", "field"] (spPlace C):=by
 refine Fun.okC F scPlc (fun vs H Q E h=>?_) (fun cdv A outer s H vs Q E hr h=>?_)
 ·obtain ⟨p,r,f,rfl,_⟩:=h;rfl
 ·obtain ⟨p,r,f,rfl,⟨dx,l,e,hd⟩,ok,k⟩:=h;have nd:=scPlc.nd
  refine ⟨_,zA3 (zAy (T:=["pair"]) (i:=2) rfl ScOk.auto (zAk (zAw (pv 0) rfl)) (fun _ _ _ _=>zA8 (i:=3) (by decide +kernel:(["kind", "field", "fields", "pair"]:List Str).Nodup) rfl (Or.inl rfl)) (fun _ _ _ _=>zB7) (fun _ _ _ _=>zAf (r:=rIxT K) zAd (pv 3) zA4 (fun _ _=>rfl)) nd rfl rfl rfl)
   (zA5 (zA9 (zCb (zAg zD9 (pv 1) (pv 2) rfl) (zEi PySem.F.plainAttrs_list PySem.F.slot_list_index PySem.F.type_list_index (mt_lindex rfl) (pv 2) (zA0 (pv 1) zA2)) zBd))),?_⟩
  have small:∀ n:Nat,n≤1000→n≤sizeLine:=fun n h=>Zn (small1000 h);obtain ⟨l',xs,e',_,hl,hz,hx⟩:=hd.list_inv;cases e';have xl:xs.length=r.fields.length:=by rw [hx.length,Z0]
  have fl:=ok.le;refine ⟨_,rfl,p,C,dx,_,_,rfl,e,KC.cl,KC.nF,zDc _ _ _,l,rfl,⟨_,SqL.of hl⟩,zAj (xs:=xs) (fun i ys H'=>H=H'∧ys=((r.fields.take i).map (·.1)).map V.str) ⟨rfl,rfl⟩ (fun i ys H' p=>by rw [← p.1];exact SqL.of hl) (fun i ys H' hi p=>?_) ?_ ?_⟩
  ·rw [p.2,Z0,Z0];have:=Zp i r.fields;exact small _ (by omega)
  ·rintro i x ys H' hi ⟨rfl,rfl⟩ N hN;obtain ⟨dd,hdd,hv⟩:=hx.get hi;rw [Z4] at hdd;cases ef:r.fields[i]? with
   | none=>rw [ef] at hdd;cases hdd
   | some q =>
    rw [ef] at hdd;cases hdd;obtain ⟨b,lv,rfl,hb,_⟩:=zB8 hv;refine pick ?_;refine ⟨_,rfl,b,_,0,_,rfl,rfl,SqT.of hb,rfl,hN _ _ ⟨rfl,?_⟩⟩;rw [Z5,ef,Z6,Z6];rfl
  ·rintro ys H' ⟨rfl,rfl⟩ c hc;rw [xl,Zb];have s1:Same H (upd H c (.lst ((r.fields.map (·.1)).map V.str))):=Same.new hc;have e1:(upd H c (.lst ((r.fields.map (·.1)).map V.str))) c=some (.lst ((r.fields.map (·.1)).map V.str)):=zA1;generalize upd H c (.lst ((r.fields.map (·.1)).map V.str))=H1 at s1 e1 ⊢;refine ⟨_,rfl,_,rfl,c,_,rfl,.inl (SqL.of e1),rfl,flats _,_,rfl,?_⟩;rw [show (if false=true then !inV (.str f) ((r.fields.map (·.1)).map V.str) else inV (.str f) ((r.fields.map (·.1)).map V.str))=inV (.str f) ((r.fields.map (·.1)).map V.str) from rfl,zCm];cases pe:placeOf r.fields f with
   | none =>
    rw [decide_eq_false (zCs pe)];refine iteF ?_;rw [pe] at k;exact k _ s1
   | some j =>
    obtain ⟨h1,h2⟩:=zBk pe;rw [decide_eq_true (Z1 h1)];refine iteT ?_;rw [pe] at k;exact ⟨_,rfl,.inl ⟨rfl,_,SqL.of e1⟩,_,rfl,c,_,f,j,rfl,rfl,SqL.of e1,h1,h2,k _ s1⟩
end
end L2.W
namespace L2.W
open PySem My
noncomputable def valIn (fs:List (Str×List Str)) (w:Option (List (Option Str))) (f:Str):Option Str:=match w,placeOf fs f with
 | some st,some i=>st.getD i none
 | _,_=>none
noncomputable def Len (fs:List (Str×List Str)) (w:Option (List (Option Str))):Prop:=∀ st,w=some st→st.length=fs.length
noncomputable def spValIn (C:Addr):Sp:=fun vs H Q _=>∃ (p:Addr) (r:Row) (x:V) (w:Option (List (Option Str))) (f:Str),vs=[.ref p,x,.str f]∧KF C Any H p r∧FieldsOk r.fields∧OptAt H x w∧Len r.fields w∧∀ H',Same H H'→Q (ownV (valIn r.fields w f)) H'
theorem OptAt.same {H H':Hp}{x:V}{w:Option (List (Option Str))} (h:OptAt H x w) (s:Same H H'):OptAt H' x w:=h.keep fun _ _ e=>s _ _ e
theorem OptAt.non {H:Hp}{x:V}{w:Option (List (Option Str))} (h:OptAt H x w):decide (x=V.non)=w.isNone:=by
 cases w with
 | none=>rw [show x=.non from h];rfl
 | some st=>obtain ⟨a,rfl,_⟩:=h;rfl
theorem zBr {fs:List (Str×List Str)}{f:Str}{i:Nat} (h:placeOf fs f=some i):i < fs.length:=by
 have:=(List.getElem?_eq_some_iff.mp (zBk h).1).1
 rwa [Z0] at this
section
variable {P:Program}{w:World}{K:PySem.W.Frag}{mg:Str→Option Value}{base:Heap}{CX:CXT}
theorem scVi:FnScope ["kind", "state", "field", "place"] ["kind", "state", "field"] (defScope sValueIn):=⟨rfl,rfl,rfl,by decide +kernel,rfl,by decide +kernel,by decide +kernel⟩
theorem ok_valIn {f fp C fI:Addr}{fd fdp:FuncData} (hC:Calm CX) (KC:KCls K mg C fI) (F:Fun K "value_in" "value_in" sValueIn f fd) (DP:Def K mg "place_of" sPlaceOf ["kind", "field"] fp fdp):FnOk P w K mg base CX 2 f fd ["kind", "state", "field"] (spValIn C):=by
 have GP:FnOk P w K mg base CX 1 fp fdp ["kind", "field"] (spPlace C):=zDq KC DP.fn;refine Fun.okC F scVi (fun vs H Q E h=>?_) (fun cdv A outer s H vs Q E hr h=>?_)
 ·obtain ⟨p,r,x,w,f,rfl,_⟩:=h;rfl
 ·obtain ⟨p,r,x,w,f,rfl,kf,ok,ho,hl,q⟩:=h;have nd:=scVi.nd
  refine ⟨_,zA3 (zAi (i:=3) nd rfl (Or.inl rfl) (zA6 GP hr rfl DP.at_ DP.fn.kp DP.bind .nil (passC hC) (zA0 (pv 0) (zA0 (pv 2) zA2))))
     (zA3 (zAn (PW.pt (zBi (zB6 (zBn (pv 1))) (zB9 (zB6 (zBn (pv 3))))))
     (zA5 (zA9 zBd)) zAb)
     (zA5 (zA9 (zAf zAd (pv 1) (pv 3) (fun _ _=>rfl))))),?_⟩
  refine ⟨_,rfl,_,rfl,p,r,f,rfl,kf,ok,fun H1 s1=>?_⟩;have h1:=ho.same s1;cases w with
  | none =>
   cases (show x=.non from h1);exact ⟨_,rfl,_,rfl,iteT (iteT (q _ s1))⟩
  | some st =>
   obtain ⟨a,rfl,ha⟩:=h1;refine ⟨_,rfl,_,rfl,iteF ⟨_,rfl,_,rfl,?_⟩⟩;cases e:placeOf r.fields f with
   | none =>
    refine iteT ?_;have:=q _ s1;unfold valIn at this;rw [e] at this;exact this
   | some i =>
    refine iteF ⟨_,rfl,_,rfl,a,_,(i:Nat),ownV (st.getD i none),rfl,rfl,SqT.of ha,?_,?_⟩
    ·refine zB5 ?_;have lt:i < st.length:=by rw [hl st rfl];exact zBr e
     rw [Z4,Z3 lt,List.getD_eq_getElem?_getD,Z3 lt];rfl
    ·have:=q _ s1;unfold valIn at this;rw [e] at this;exact this
end
end L2.W
namespace L2.W
open PySem My
inductive Leaf where
 | always | wanted | is (f v:Str) | meets (f:Str) | owner (f v:Str)
inductive Tr where
 | leaf (l:Leaf) | no (t:Tr) | node (b:Bool) (ts:List Tr)
noncomputable def leafD:Leaf→PyData
 | .always=>.tuple [.str "always"]
 | .wanted=>.tuple [.str "wanted"]
 | .is f v=>.tuple [.str "is",.str f,.str v]
 | .meets f=>.tuple [.str "meets",.str f]
 | .owner f v=>.tuple [.str "owner",.str f,.str v]
noncomputable def sgn (b:Bool):Str:=if b then "&" else "|"
mutual
noncomputable def trD:Tr→PyData
 | .leaf l=>leafD l
 | .no t=>.tuple [.str "not",trD t]
 | .node b ts=>.tuple [.str (sgn b),.list (trsD ts)]
noncomputable def trsD:List Tr→List PyData
 | []=>[]
 | t :: ts=>trD t :: trsD ts
end
mutual
noncomputable def trH:Tr→Nat
 | .leaf _=>0
 | .no t=>trH t + 1
 | .node _ ts=>trsH ts + 1
noncomputable def trsH:List Tr→Nat
 | []=>0
 | t :: ts=>max (trH t) (trsH ts)
end
mutual
noncomputable def ev (g:Leaf→Bool):Tr→Bool
 | .leaf l=>g l
 | .no t=>!ev g t
 | .node b ts=>if b then (evs g ts).all id else (evs g ts).any id
noncomputable def evs (g:Leaf→Bool):List Tr→List Bool
 | []=>[]
 | t :: ts=>ev g t :: evs g ts
end
noncomputable def LeafOk:Leaf→Prop
 | .is f v=>nameOk f∧nameOk v
 | .meets f=>nameOk f
 | .owner f v=>nameOk f∧nameOk v
 | _=>True
mutual
noncomputable def TrOk:Tr→Prop
 | .leaf l=>LeafOk l
 | .no t=>TrOk t
 | .node _ ts=>2≤ts.length∧ts.length≤50∧TrsOk ts
noncomputable def TrsOk:List Tr→Prop
 | []=>True
 | t :: ts=>TrOk t∧TrsOk ts
end
theorem trsD_eq:∀ ts:List Tr,trsD ts=ts.map trD
 | []=>rfl
 | t :: ts=>by rw [trsD,trsD_eq ts];rfl
theorem evs_eq (g:Leaf→Bool):∀ ts:List Tr,evs g ts=ts.map (ev g)
 | []=>rfl
 | t :: ts=>by rw [evs,evs_eq g ts];rfl
theorem zCw:∀ {ts:List Tr}{t:Tr},t∈ts→trH t≤trsH ts
 | t :: ts,x,h=>by
  rw [trsH];rcases List.mem_cons.mp h with rfl | h
  ·omega
  ·have:=zCw h;omega
theorem trsH_of {n:Nat}:∀ {ts:List Tr},(∀ t∈ts,trH t≤n)→trsH ts≤n
 | [],_=>Zj _
 | t :: ts,h=>by
  rw [trsH];have h1:=h t Zl;have h2:=trsH_of fun x hx=>h x (Zh _ hx);omega
theorem zC4:∀ {ts:List Tr},TrsOk ts ↔ ∀ t∈ts,TrOk t
 | []=>⟨fun _ t h=>(nomatch h),fun _=>trivial⟩
 | t :: ts=>by
  rw [TrsOk,zC4 (ts:=ts)];refine ⟨fun ⟨a,b⟩ x hx=>?_,fun h=>⟨h t Zl,fun x hx=>h x (Zh _ hx)⟩⟩;rcases List.mem_cons.mp hx with rfl | hx
  ·exact a
  ·exact b x hx
structure CA where
 (cc al wa is_ me ow no bo ei fIs fMe fOw fNo fBo fEi hAl hWa hIs hMe hOw hNo hBo hEi:Addr)
noncomputable def IsCond (A:CA) (C:Addr):Prop:=C=A.al∨C=A.wa∨C=A.is_∨C=A.me∨C=A.ow∨C=A.no∨C=A.bo∨C=A.ei
structure CC1 (K:PySem.W.Frag) (cc C:Addr):Prop where
 cl:Cls K C
 ki:KIsi K C
 sub:PySem.W.kitOne K (.ref C) (.ref cc)=some true
noncomputable def fF (f:V):List (Str×V):=putF "field" f []
noncomputable def fV (f v:V):List (Str×V):=putF "value" v (putF "field" f [])
noncomputable def fC (c:V):List (Str×V):=putF "condition" c []
noncomputable def fCs (c:V):List (Str×V):=putF "conditions" c []
theorem nvf:¬ (("field" : Str) = "value"):=by decide +kernel
theorem fF_f (f:V):(fF f).lookup ("field" : Str)=some f:=by unfold fF;rw [zAc,if_pos rfl]
theorem fV_f (f v:V):(fV f v).lookup ("field" : Str)=some f:=by unfold fV;rw [zAc,if_neg nvf,zAc,if_pos rfl]
theorem fV_v (f v:V):(fV f v).lookup ("value" : Str)=some v:=by unfold fV;rw [zAc,if_pos rfl]
theorem fC_c (c:V):(fC c).lookup ("condition" : Str)=some c:=by unfold fC;rw [zAc,if_pos rfl]
theorem fCs_c (c:V):(fCs c).lookup ("conditions" : Str)=some c:=by unfold fCs;rw [zAc,if_pos rfl]
theorem fF_h (f:V):(fF f).lookup ("holds" : Str)=none:=by unfold fF;rw [zAc,if_neg (by decide +kernel)];rfl
theorem fV_h (f v:V):(fV f v).lookup ("holds" : Str)=none:=by unfold fV;rw [zAc,if_neg (by decide +kernel),zAc,if_neg (by decide +kernel)];rfl
theorem fC_h (c:V):(fC c).lookup ("holds" : Str)=none:=by unfold fC;rw [zAc,if_neg (by decide +kernel)];rfl
theorem fCs_h (c:V):(fCs c).lookup ("holds" : Str)=none:=by unfold fCs;rw [zAc,if_neg (by decide +kernel)];rfl
mutual
inductive CondAt (A:CA) (H:Hp):Addr→Tr→Prop where
 | al {p dx:Addr} (e:H p=some (.ins A.al dx [])):CondAt A H p (.leaf .always)
 | wa {p dx:Addr} (e:H p=some (.ins A.wa dx [])):CondAt A H p (.leaf .wanted)
 | is {p dx:Addr}{f v:Str} (e:H p=some (.ins A.is_ dx (fV (.str f) (.str v)))):CondAt A H p (.leaf (.is f v))
 | me {p dx:Addr}{f:Str} (e:H p=some (.ins A.me dx (fF (.str f)))):CondAt A H p (.leaf (.meets f))
 | ow {p dx:Addr}{f v:Str} (e:H p=some (.ins A.ow dx (fV (.str f) (.str v)))):CondAt A H p (.leaf (.owner f v))
 | no {p dx q:Addr}{t:Tr} (e:H p=some (.ins A.no dx (fC (.ref q)))) (c:CondAt A H q t):CondAt A H p (.no t)
 | bo {p dx l:Addr}{ps:List Addr}{ts:List Tr} (e:H p=some (.ins A.bo dx (fCs (.ref l)))) (hl:H l=some (.lst (ps.map V.ref))) (c:CondAll A H ps ts):CondAt A H p (.node true ts)
 | ei {p dx l:Addr}{ps:List Addr}{ts:List Tr} (e:H p=some (.ins A.ei dx (fCs (.ref l)))) (hl:H l=some (.lst (ps.map V.ref))) (c:CondAll A H ps ts):CondAt A H p (.node false ts)
inductive CondAll (A:CA) (H:Hp):List Addr→List Tr→Prop where
 | nil:CondAll A H [] []
 | cons {p:Addr}{ps:List Addr}{t:Tr}{ts:List Tr} (a:CondAt A H p t) (b:CondAll A H ps ts):CondAll A H (p :: ps) (t :: ts)
end
mutual
theorem CondAt.keep {A:CA}{H H':Hp} (s:∀ b o,H b=some o→(∃ C dx fs,o=.ins C dx fs)∨(∃ ps:List Addr,o=.lst (ps.map V.ref))→H' b=some o):∀ {p:Addr}{t:Tr},CondAt A H p t→CondAt A H' p t
 | _,_,.al e=>.al (s _ _ e (.inl ⟨_,_,_,rfl⟩))
 | _,_,.wa e=>.wa (s _ _ e (.inl ⟨_,_,_,rfl⟩))
 | _,_,.is e=>.is (s _ _ e (.inl ⟨_,_,_,rfl⟩))
 | _,_,.me e=>.me (s _ _ e (.inl ⟨_,_,_,rfl⟩))
 | _,_,.ow e=>.ow (s _ _ e (.inl ⟨_,_,_,rfl⟩))
 | _,_,.no e c=>.no (s _ _ e (.inl ⟨_,_,_,rfl⟩)) (CondAt.keep s c)
 | _,_,.bo e hl c=>.bo (s _ _ e (.inl ⟨_,_,_,rfl⟩)) (s _ _ hl (.inr ⟨_,rfl⟩)) (CondAll.keep s c)
 | _,_,.ei e hl c=>.ei (s _ _ e (.inl ⟨_,_,_,rfl⟩)) (s _ _ hl (.inr ⟨_,rfl⟩)) (CondAll.keep s c)
theorem CondAll.keep {A:CA}{H H':Hp} (s:∀ b o,H b=some o→(∃ C dx fs,o=.ins C dx fs)∨(∃ ps:List Addr,o=.lst (ps.map V.ref))→H' b=some o):∀ {ps:List Addr}{ts:List Tr},CondAll A H ps ts→CondAll A H' ps ts
 | _,_,.nil=>.nil
 | _,_,.cons a b=>.cons (CondAt.keep s a) (CondAll.keep s b)
end
theorem CondAt.same {A:CA}{H H':Hp}{p:Addr}{t:Tr} (c:CondAt A H p t) (s:Same H H'):CondAt A H' p t:=c.keep fun b o e _=>s b o e
theorem CondAll.same {A:CA}{H H':Hp}{ps:List Addr}{ts:List Tr} (c:CondAll A H ps ts) (s:Same H H'):CondAll A H' ps ts:=c.keep fun b o e _=>s b o e
theorem CondAll.len {A:CA}{H:Hp}:∀ {ps:List Addr}{ts:List Tr},CondAll A H ps ts→ps.length=ts.length
 | _,_,.nil=>rfl
 | _,_,.cons _ b=>by rw [Zi,Zi,b.len]
theorem CondAll.get {A:CA}{H:Hp}:∀ {ps:List Addr}{ts:List Tr}{i:Nat}{p:Addr},CondAll A H ps ts→ps[i]? = some p→∃ t,ts[i]? = some t∧CondAt A H p t
 | _,_,_,_,.nil,h=>by simp at h
 | _,_,0,_,.cons a _,h=>by simp at h;subst h;exact ⟨_,rfl,a⟩
 | _,_,i + 1,p,.cons _ b,h=>by
  obtain ⟨t,h1,h2⟩:=CondAll.get (i:=i) (p:=p) b (by simpa using h);exact ⟨t,by simpa using h1,h2⟩
theorem CondAll.snoc {A:CA}{H:Hp}{p:Addr}{t:Tr}:∀ {ps:List Addr}{ts:List Tr},CondAll A H ps ts→CondAt A H p t→CondAll A H (ps++[p]) (ts++[t])
 | _,_,.nil,c=>.cons c .nil
 | _,_,.cons a b,c=>.cons a (b.snoc c)
theorem CondAt.ins {A:CA}{H:Hp}{p:Addr}{t:Tr} (c:CondAt A H p t):∃ C dx fs,H p=some (.ins C dx fs)∧IsCond A C∧fs.lookup ("holds" : Str)=none:=by
 cases c with
 | al e=>exact ⟨_,_,_,e,.inl rfl,rfl⟩
 | wa e=>exact ⟨_,_,_,e,.inr (.inl rfl),rfl⟩
 | is e=>exact ⟨_,_,_,e,.inr (.inr (.inl rfl)),fV_h _ _⟩
 | me e=>exact ⟨_,_,_,e,.inr (.inr (.inr (.inl rfl))),fF_h _⟩
 | ow e=>exact ⟨_,_,_,e,.inr (.inr (.inr (.inr (.inl rfl)))),fV_h _ _⟩
 | no e _=>exact ⟨_,_,_,e,.inr (.inr (.inr (.inr (.inr (.inl rfl))))),fC_h _⟩
 | bo e _ _=>exact ⟨_,_,_,e,.inr (.inr (.inr (.inr (.inr (.inr (.inl rfl)))))),fCs_h _⟩
 | ei e _ _=>exact ⟨_,_,_,e,.inr (.inr (.inr (.inr (.inr (.inr (.inr rfl)))))),fCs_h _⟩
structure Cnd (K:PySem.W.Frag) (mg:Str→Option Value) (A:CA):Prop where
 all:∀ C,IsCond A C→CC1 K A.cc C
 cc:mg "Condition" = some (.ref A.cc)
 gAl:mg "Always" = some (.ref A.al)
 gWa:mg "Wanted" = some (.ref A.wa)
 kAl:MkN K A.al
 kWa:MkN K A.wa
 ne:[A.al,A.wa,A.is_,A.me,A.ow,A.no,A.bo,A.ei].Nodup
 gIs:mg "Is" = some (.ref A.is_)
 kIs:Mk K A.is_ A.fIs
 gMe:mg "Meets" = some (.ref A.me)
 kMe:Mk K A.me A.fMe
 gOw:mg "Owner" = some (.ref A.ow)
 kOw:Mk K A.ow A.fOw
 gNo:mg "Not" = some (.ref A.no)
 kNo:Mk K A.no A.fNo
 gBo:mg "Both" = some (.ref A.bo)
 kBo:Mk K A.bo A.fBo
 gEi:mg "Either" = some (.ref A.ei)
 kEi:Mk K A.ei A.fEi
 nIsf:NoAttr K A.is_ "field"
 nIsv:NoAttr K A.is_ "value"
 nMef:NoAttr K A.me "field"
 nOwf:NoAttr K A.ow "field"
 nOwv:NoAttr K A.ow "value"
 nNoc:NoAttr K A.no "condition"
 nBoc:NoAttr K A.bo "conditions"
 nEic:NoAttr K A.ei "conditions"
 mAl:Meth K A.al "holds" A.hAl
 mWa:Meth K A.wa "holds" A.hWa
 mIs:Meth K A.is_ "holds" A.hIs
 mMe:Meth K A.me "holds" A.hMe
 mOw:Meth K A.ow "holds" A.hOw
 mNo:Meth K A.no "holds" A.hNo
 mBo:Meth K A.bo "holds" A.hBo
 mEi:Meth K A.ei "holds" A.hEi
end L2.W
namespace L2.W
open PySem My
theorem CC1.ty {K:PySem.W.Frag}{cc C p dx:Addr}{H:Hp}{fs:List (Str×V)} (c:CC1 K cc C) (e:H p=some (.ins C dx fs)):TyOf K H (.ref p) (.ref C):=.ins e c.cl c.ki.ha c.ki.hn c.ki.htk c.ki.hm
noncomputable def But (p:Addr) (H H':Hp):Prop:=∀ b o,H b=some o→b≠p→H' b=some o
noncomputable def IsC (A:CA) (H:Hp) (p:Addr):Prop:=∃ C dx fs,H p=some (.ins C dx fs)∧IsCond A C
theorem IsC.same {A:CA}{H H':Hp}{p:Addr} (h:IsC A H p) (s:Same H H'):IsC A H' p:=let ⟨C,dx,fs,e,c⟩:=h;⟨C,dx,fs,s _ _ e,c⟩
theorem CondAt.isC {A:CA}{H:Hp}{p:Addr}{t:Tr} (c:CondAt A H p t):IsC A H p:=let ⟨C,dx,fs,e,h,_⟩:=c.ins;⟨C,dx,fs,e,h⟩
noncomputable def spChkN:Sp:=fun vs H Q _=>∃ (l:Addr) (ks:List Str),vs=[.ref l]∧H l=some (.lst (ks.map V.str))∧ks.length≤10∧(∀ x∈ks,nameOk x)∧∀ H',Same H H'→Q .non H'
noncomputable def spChkC (A:CA):Sp:=fun vs H Q _=>∃ (l:Addr) (ps:List Addr),vs=[.ref l]∧H l=some (.lst (ps.map V.ref))∧2≤ps.length∧ps.length≤60∧(∀ p∈ps,IsC A H p)∧∀ H',Same H H'→Q .non H'
noncomputable def spIV (C:Addr):Sp:=fun vs H Q _=>∃ (p dx:Addr) (f v:Str),vs=[.ref p,.str f,.str v]∧H p=some (.ins C dx [])∧nameOk f∧nameOk v∧∀ H',H' p=some (.ins C dx (fV (.str f) (.str v)))→But p H H'→Q .non H'
noncomputable def spIF (C:Addr):Sp:=fun vs H Q _=>∃ (p dx:Addr) (f:Str),vs=[.ref p,.str f]∧H p=some (.ins C dx [])∧nameOk f∧∀ H',H' p=some (.ins C dx (fF (.str f)))→But p H H'→Q .non H'
noncomputable def spIC (A:CA):Sp:=fun vs H Q _=>∃ (p dx q:Addr),vs=[.ref p,.ref q]∧H p=some (.ins A.no dx [])∧IsC A H q∧∀ H',H' p=some (.ins A.no dx (fC (.ref q)))→But p H H'→Q .non H'
noncomputable def spIL (A:CA) (C:Addr):Sp:=fun vs H Q _=>∃ (p dx l:Addr) (ps:List Addr),vs=[.ref p,.ref l]∧H p=some (.ins C dx [])∧H l=some (.lst (ps.map V.ref))∧2≤ps.length∧ps.length≤60∧(∀ q∈ps,IsC A H q) ∧
 ∀ H' l',H' p=some (.ins C dx (fCs (.ref l')))→H' l'=some (.lst (ps.map V.ref))→H l'=none→But p H H'→Q .non H'
theorem isi_all {K:PySem.W.Frag}{mg:Str→Option Value}{A:CA} (N:Cnd K mg A) {H:Hp}{p:Addr} (h:IsC A H p):∃ C,TyOf K H (.ref p) (.ref C)∧PySem.W.kitOne K (.ref C) (.ref A.cc)=some true:=let ⟨C,_,_,e,c⟩:=h;⟨C,(N.all C c).ty e,(N.all C c).sub⟩
section
variable {P:Program}{w:World}{K:PySem.W.Frag}{mg:Str→Option Value}{base:Heap}{CX:CXT}
theorem scCn:FnScope ["things"] ["things"] (defScope sChkNames):=⟨rfl,rfl,rfl,by decide +kernel,rfl,by decide +kernel,by decide +kernel⟩
theorem ok_chkN {f fn:Addr}{fd fdn:FuncData} (hC:Calm CX) (T:Tops K mg) (F:Fun K "check_names" "check_names" sChkNames f fd) (DN:Def K mg "is_name" sIsName ["thing"] fn fdn):FnOk P w K mg base CX 2 f fd ["things"] spChkN:=by
 have GN:FnOk P w K mg base CX 1 fn fdn ["thing"] spNameD:=zCt DN.fn T;refine Fun.okC F scCn (fun vs H Q E h=>?_) (fun cdv A outer s H vs Q E hr h=>?_)
 ·obtain ⟨l,ks,rfl,_⟩:=h;rfl
 ·obtain ⟨l,ks,rfl,hl,h10,ok,q⟩:=h;have nd:=scCn.nd
  refine ⟨_,zA5 (zAn (zAz (zAt (zAh (zC1 rfl) rfl T.all PyProof.Rows.boot_all (zA0 (zB0 (T:=["thing"]) rfl ScOk.auto (zAk (pv 0)) (fun _ _ _ _=>zA8 (i:=1) (by decide +kernel:(["things", "thing"]:List Str).Nodup) rfl (Or.inl rfl)) (fun _ _ _ _=>zB7) (fun _ _ _ _=>(zA6 GN hr rfl DN.at_ DN.fn.kp DN.bind .nil (passC hC) (zA0 (pv 1) zA2)))) zA2))))
     zAp zAb),?_⟩
  have small:∀ n:Nat,n≤1000→n≤sizeLine:=fun n h=>Zn (small1000 h);refine ⟨_,rfl,l,rfl,⟨_,SqL.of hl⟩,zAj (xs:=ks.map V.str) (fun i ys H'=>Same H H'∧ys=List.replicate i (V.bl true)) ⟨Same.refl _,rfl⟩ (fun i ys H' z=>SqL.of (z.1 _ _ hl)) (fun i ys H' hi z=>?_) ?_ ?_⟩
  ·rw [z.2,Y7];rw [Z0] at hi;exact small _ (by omega)
  ·rintro i x ys H' hi ⟨s1,rfl⟩ N hN;rw [Z4] at hi;cases e:ks[i]? with
   | none=>rw [e] at hi;cases hi
   | some k =>
    rw [e] at hi;cases hi;have ok:=ok k (Z1 e);refine pick ⟨_,rfl,_,.str k,rfl,.str k (by have:=ok.2.2;omega) ok.2.1,fun H2 s2=>?_⟩;rw [show nameD (.str k)=true from ok.1];exact hN _ _ ⟨s1.trans s2,by rw [List.replicate_succ']⟩
  ·rintro ys H' ⟨s1,rfl⟩ la hla;refine ⟨la,List.replicate (ks.map V.str).length true,rfl,SqL.of (by rw [zA1,List.map_replicate]),_,rfl,?_⟩;rw [show (List.replicate (ks.map V.str).length true).all id=true by simp];exact iteF (q _ (s1.trans (Same.new hla)))
theorem scCc:FnScope ["things"] ["things"] (defScope sChkConds):=⟨rfl,rfl,rfl,by decide +kernel,rfl,by decide +kernel,by decide +kernel⟩
theorem ok_chkC {f:Addr}{fd:FuncData}{A:CA} (T:Tops K mg) (N:Cnd K mg A) (F:Fun K "check_conditions" "check_conditions" sChkConds f fd):FnOk P w K mg base CX 1 f fd ["things"] (spChkC A):=by
 refine Fun.okC F scCc (fun vs H Q E h=>?_) (fun cdv Ar outer s H vs Q E hr h=>?_)
 ·obtain ⟨l,ps,rfl,_⟩:=h;rfl
 ·obtain ⟨l,ps,rfl,hl,h2,h60,ok,q⟩:=h;have nd:=scCc.nd;obtain ⟨tl,hleast⟩:=T.least
  refine ⟨_,zA3 (zAn (PW.pt (zBi (zAz (zAt (zAh zAo rfl T.isinst PyProof.Rows.boot_isinstance (zA0 (pv 0) (zA0 (zBp (v:=.ty "list") rfl T.list PyProof.Rows.boot_list rfl) zA2))))) (zB9 (zAg op_lt (zAh zAu rfl T.len PySem.boot_len (zA0 (pv 0) zA2)) (zBv (v:=.int 2) rfl hleast ⟨_,rfl⟩) (nomark _)))))
     zAp zAb)
     (zA5 (zAn (zAz (zAt (zAh (zC1 rfl) rfl T.all PyProof.Rows.boot_all (zA0 (zB0 (T:=["thing"]) rfl ScOk.auto (zAk (pv 0)) (fun _ _ _ _=>zA8 (i:=1) (by decide +kernel:(["things", "thing"]:List Str).Nodup) rfl (Or.inl rfl)) (fun _ _ _ _=>zB7) (fun _ _ _ _=>(zAh (r:=fun xs H Q=>∃ x c t cv b,xs=[x,c]∧TyOf K H x t∧RelV c cv∧PySem.W.kitOne K t cv=some b∧Q (.bl b) H) zAo rfl T.isinst PyProof.Rows.boot_isinstance (zA0 (pv 1) (zA0 (zBv (v:=.ref A.cc) rfl N.cc rfl) zA2))))) zA2))))
     zAp zAb)),?_⟩
  have small:∀ n:Nat,n≤1000→n≤sizeLine:=fun n h=>Zn (small1000 h);refine ⟨_,rfl,_,_,_,_,_,rfl,.lst hl,rfl,rfl,_,rfl,iteF ?_⟩;refine ⟨_,rfl,l,_,rfl,.inl (SqL.of hl),_,_,rfl,rfl,_,rfl,ite2 (fun z=>absurd (of_decide_eq_true z) (by rw [Z0];omega)) (fun _=>?_)⟩;refine ⟨_,rfl,l,rfl,⟨_,SqL.of hl⟩,zAj (xs:=ps.map V.ref) (fun i ys H'=>H'=H∧ys=List.replicate i (V.bl true)) ⟨rfl,rfl⟩ (fun i ys H' z=>by rw [z.1];exact SqL.of hl) (fun i ys H' hi z=>?_) ?_ ?_⟩
  ·rw [z.2,Y7];rw [Z0] at hi;exact small _ (by omega)
  ·rintro i x ys H' hi ⟨rfl,rfl⟩ Nn hN;rw [Z4] at hi;cases e:ps[i]? with
   | none=>rw [e] at hi;cases hi
   | some p =>
    rw [e] at hi;cases hi;obtain ⟨C,ty,kt⟩:=isi_all N (ok p (Z1 e));exact pick ⟨_,rfl,_,_,_,_,_,rfl,ty,rfl,kt,hN _ _ ⟨rfl,by rw [List.replicate_succ']⟩⟩
  ·rintro ys H' ⟨rfl,rfl⟩ la hla;refine ⟨la,List.replicate (ps.map V.ref).length true,rfl,SqL.of (by rw [zA1,List.map_replicate]),_,rfl,?_⟩;rw [show (List.replicate (ps.map V.ref).length true).all id=true by simp];exact iteF (q _ (Same.new hla))
theorem scIIs:FnScope ["self", "field", "value"] ["self", "field", "value"] (defScope sInitIs):=⟨rfl,rfl,rfl,by decide +kernel,rfl,by decide +kernel,by decide +kernel⟩
theorem ok_initIs {f fc:Addr}{fd fdc:FuncData}{A:CA} (hC:Calm CX) (N:Cnd K mg A) (F:Fun K "__init__" "Is.__init__" sInitIs f fd) (DC:Def K mg "check_names" sChkNames ["things"] fc fdc) (GC:FnOk P w K mg base CX 2 fc fdc ["things"] spChkN):FnOk P w K mg base CX 3 f fd ["self", "field", "value"] (spIV A.is_):=by
 refine Fun.okC F scIIs (fun vs H Q E h=>?_) (fun cdv Ar outer s H vs Q E hr h=>?_)
 ·obtain ⟨p,dx,f,v,rfl,_⟩:=h;rfl
 ·obtain ⟨p,dx,f,v,rfl,hp,of,ov,q⟩:=h;have nd:=scIIs.nd;have cl:=(N.all A.is_ (by unfold IsCond;simp)).cl
  refine ⟨_,zA3 (zBj (zA6 GC hr rfl DC.at_ DC.fn.kp DC.bind .nil (passC hC) (zA0 (zAm (zA0 (pv 1) (zA0 (pv 2) zA2))) zA2)))
     (zA3 (zBf (pv 0) (pv 1) rfl)
     (zA5 (zBf (pv 0) (pv 2) rfl))),?_⟩
  refine ⟨_,rfl,_,rfl,by show 2≤sizeLine;decide,fun l hl=>⟨l,[f,v],rfl,zA1,by show 2≤10;decide,by simp [of,ov],fun H1 s1=>?_⟩⟩;have s:=(Same.new hl).trans s1;refine ⟨_,rfl,_,rfl,p,A.is_,dx,[],rfl,s _ _ hp,cl,N.nIsf,(by show 0 < 1000;decide),?_⟩;refine ⟨_,rfl,_,rfl,p,A.is_,dx,_,rfl,zA1,cl,N.nIsv,(by show 1 < 1000;decide),?_⟩;exact q _ zA1 fun b o e n=>by rw [zAa n,zAa n];exact s _ _ e
theorem scIOw:FnScope ["self", "field", "value"] ["self", "field", "value"] (defScope sInitOw):=⟨rfl,rfl,rfl,by decide +kernel,rfl,by decide +kernel,by decide +kernel⟩
theorem ok_initOw {f fc:Addr}{fd fdc:FuncData}{A:CA} (hC:Calm CX) (N:Cnd K mg A) (F:Fun K "__init__" "Owner.__init__" sInitOw f fd) (DC:Def K mg "check_names" sChkNames ["things"] fc fdc) (GC:FnOk P w K mg base CX 2 fc fdc ["things"] spChkN):FnOk P w K mg base CX 3 f fd ["self", "field", "value"] (spIV A.ow):=by
 refine Fun.okC F scIOw (fun vs H Q E h=>?_) (fun cdv Ar outer s H vs Q E hr h=>?_)
 ·obtain ⟨p,dx,f,v,rfl,_⟩:=h;rfl
 ·obtain ⟨p,dx,f,v,rfl,hp,of,ov,q⟩:=h;have nd:=scIOw.nd;have cl:=(N.all A.ow (by unfold IsCond;simp)).cl
  refine ⟨_,zA3 (zBj (zA6 GC hr rfl DC.at_ DC.fn.kp DC.bind .nil (passC hC) (zA0 (zAm (zA0 (pv 1) (zA0 (pv 2) zA2))) zA2)))
     (zA3 (zBf (pv 0) (pv 1) rfl)
     (zA5 (zBf (pv 0) (pv 2) rfl))),?_⟩
  refine ⟨_,rfl,_,rfl,by show 2≤sizeLine;decide,fun l hl=>⟨l,[f,v],rfl,zA1,by show 2≤10;decide,by simp [of,ov],fun H1 s1=>?_⟩⟩;have s:=(Same.new hl).trans s1;refine ⟨_,rfl,_,rfl,p,A.ow,dx,[],rfl,s _ _ hp,cl,N.nOwf,(by show 0 < 1000;decide),?_⟩;refine ⟨_,rfl,_,rfl,p,A.ow,dx,_,rfl,zA1,cl,N.nOwv,(by show 1 < 1000;decide),?_⟩;exact q _ zA1 fun b o e n=>by rw [zAa n,zAa n];exact s _ _ e
theorem scIMe:FnScope ["self", "field"] ["self", "field"] (defScope sInitMe):=⟨rfl,rfl,rfl,by decide +kernel,rfl,by decide +kernel,by decide +kernel⟩
theorem ok_initMe {f fc:Addr}{fd fdc:FuncData}{A:CA} (hC:Calm CX) (N:Cnd K mg A) (F:Fun K "__init__" "Meets.__init__" sInitMe f fd) (DC:Def K mg "check_names" sChkNames ["things"] fc fdc) (GC:FnOk P w K mg base CX 2 fc fdc ["things"] spChkN):FnOk P w K mg base CX 3 f fd ["self", "field"] (spIF A.me):=by
 refine Fun.okC F scIMe (fun vs H Q E h=>?_) (fun cdv Ar outer s H vs Q E hr h=>?_)
 ·obtain ⟨p,dx,f,rfl,_⟩:=h;rfl
 ·obtain ⟨p,dx,f,rfl,hp,of,q⟩:=h;have nd:=scIMe.nd;have cl:=(N.all A.me (by unfold IsCond;simp)).cl
  refine ⟨_,zA3 (zBj (zA6 GC hr rfl DC.at_ DC.fn.kp DC.bind .nil (passC hC) (zA0 (zAm (zA0 (pv 1) zA2)) zA2)))
     (zA5 (zBf (pv 0) (pv 1) rfl)),?_⟩
  refine ⟨_,rfl,by show 1≤sizeLine;decide,fun l hl=>⟨l,[f],rfl,zA1,by show 1≤10;decide,by simp [of],fun H1 s1=>?_⟩⟩;have s:=(Same.new hl).trans s1;refine ⟨_,rfl,_,rfl,p,A.me,dx,[],rfl,s _ _ hp,cl,N.nMef,(by show 0 < 1000;decide),?_⟩;exact q _ zA1 fun b o e n=>by rw [zAa n];exact s _ _ e
theorem scINo:FnScope ["self", "condition"] ["self", "condition"] (defScope sInitNo):=⟨rfl,rfl,rfl,by decide +kernel,rfl,by decide +kernel,by decide +kernel⟩
theorem ok_initNo {f:Addr}{fd:FuncData}{A:CA} (T:Tops K mg) (N:Cnd K mg A) (F:Fun K "__init__" "Not.__init__" sInitNo f fd):FnOk P w K mg base CX 1 f fd ["self", "condition"] (spIC A):=by
 refine Fun.okC F scINo (fun vs H Q E h=>?_) (fun cdv Ar outer s H vs Q E hr h=>?_)
 ·obtain ⟨p,dx,q,rfl,_⟩:=h;rfl
 ·obtain ⟨p,dx,q',rfl,hp,hc,q⟩:=h;have nd:=scINo.nd;have cl:=(N.all A.no (by unfold IsCond;simp)).cl
  refine ⟨_,zA3 (zAn (zAz (zAt (zAh (r:=fun xs H Q=>∃ x c t cv b,xs=[x,c]∧TyOf K H x t∧RelV c cv∧PySem.W.kitOne K t cv=some b∧Q (.bl b) H) zAo rfl T.isinst PyProof.Rows.boot_isinstance (zA0 (pv 1) (zA0 (zBv (v:=.ref A.cc) rfl N.cc rfl) zA2)))))
     zAp zAb)
     (zA5 (zBf (pv 0) (pv 1) rfl)),?_⟩
  obtain ⟨C,ty,kt⟩:=isi_all N hc;refine ⟨_,rfl,_,_,_,_,_,rfl,ty,rfl,kt,_,rfl,iteF ?_⟩;refine ⟨_,rfl,_,rfl,p,A.no,dx,[],rfl,hp,cl,N.nNoc,(by show 0 < 1000;decide),?_⟩;exact q _ zA1 fun b o e n=>by rw [zAa n];exact e
theorem scIBo:FnScope ["self", "conditions"] ["self", "conditions"] (defScope sInitBo):=⟨rfl,rfl,rfl,by decide +kernel,rfl,by decide +kernel,by decide +kernel⟩
theorem ok_initBo {f fc:Addr}{fd fdc:FuncData}{A:CA} (hC:Calm CX) (T:Tops K mg) (N:Cnd K mg A) (F:Fun K "__init__" "Both.__init__" sInitBo f fd) (DC:Def K mg "check_conditions" sChkConds ["things"] fc fdc) (GC:FnOk P w K mg base CX 1 fc fdc ["things"] (spChkC A)):FnOk P w K mg base CX 2 f fd ["self", "conditions"] (spIL A A.bo):=by
 refine Fun.okC F scIBo (fun vs H Q E h=>?_) (fun cdv Ar outer s H vs Q E hr h=>?_)
 ·obtain ⟨p,dx,l,ps,rfl,_⟩:=h;rfl
 ·obtain ⟨p,dx,l,ps,rfl,hp,hl,h2,h60,ok,q⟩:=h;have nd:=scIBo.nd;have cl:=(N.all A.bo (by unfold IsCond;simp)).cl
  refine ⟨_,zA3 (zBj (zA6 GC hr rfl DC.at_ DC.fn.kp DC.bind .nil (passC hC) (zA0 (pv 1) zA2)))
     (zA5 (zBf (pv 0) (zAs zB1 rfl T.list PyProof.Rows.boot_list (zA0 (pv 1) zA2)) rfl)),?_⟩
  refine ⟨_,rfl,l,ps,rfl,hl,h2,h60,ok,fun H1 s1=>?_⟩;refine ⟨_,rfl,l,_,rfl,.inl (SqL.of (s1 _ _ hl)),fun l2 hl2=>?_⟩;have s2:Same H1 (upd H1 l2 (.lst (ps.map V.ref))):=Same.new hl2;have e2:(upd H1 l2 (.lst (ps.map V.ref))) l2=some (.lst (ps.map V.ref)):=zA1;generalize upd H1 l2 (.lst (ps.map V.ref))=H2 at s2 e2 ⊢;have s:=s1.trans s2;have ne:l2≠p:=(zA7 (s1 _ _ hp) hl2).symm;refine ⟨_,rfl,p,A.bo,dx,[],rfl,s _ _ hp,cl,N.nBoc,(by show 0 < 1000;decide),?_⟩;exact q _ l2 zA1 (by rw [zAa ne];exact e2) (s1.free hl2) fun b o e n=>by rw [zAa n];exact s _ _ e
theorem scIEi:FnScope ["self", "conditions"] ["self", "conditions"] (defScope sInitEi):=⟨rfl,rfl,rfl,by decide +kernel,rfl,by decide +kernel,by decide +kernel⟩
theorem ok_initEi {f fc:Addr}{fd fdc:FuncData}{A:CA} (hC:Calm CX) (T:Tops K mg) (N:Cnd K mg A) (F:Fun K "__init__" "Either.__init__" sInitEi f fd) (DC:Def K mg "check_conditions" sChkConds ["things"] fc fdc) (GC:FnOk P w K mg base CX 1 fc fdc ["things"] (spChkC A)):FnOk P w K mg base CX 2 f fd ["self", "conditions"] (spIL A A.ei):=by
 refine Fun.okC F scIEi (fun vs H Q E h=>?_) (fun cdv Ar outer s H vs Q E hr h=>?_)
 ·obtain ⟨p,dx,l,ps,rfl,_⟩:=h;rfl
 ·obtain ⟨p,dx,l,ps,rfl,hp,hl,h2,h60,ok,q⟩:=h;have nd:=scIEi.nd;have cl:=(N.all A.ei (by unfold IsCond;simp)).cl
  refine ⟨_,zA3 (zBj (zA6 GC hr rfl DC.at_ DC.fn.kp DC.bind .nil (passC hC) (zA0 (pv 1) zA2)))
     (zA5 (zBf (pv 0) (zAs zB1 rfl T.list PyProof.Rows.boot_list (zA0 (pv 1) zA2)) rfl)),?_⟩
  refine ⟨_,rfl,l,ps,rfl,hl,h2,h60,ok,fun H1 s1=>?_⟩;refine ⟨_,rfl,l,_,rfl,.inl (SqL.of (s1 _ _ hl)),fun l2 hl2=>?_⟩;have s2:Same H1 (upd H1 l2 (.lst (ps.map V.ref))):=Same.new hl2;have e2:(upd H1 l2 (.lst (ps.map V.ref))) l2=some (.lst (ps.map V.ref)):=zA1;generalize upd H1 l2 (.lst (ps.map V.ref))=H2 at s2 e2 ⊢;have s:=s1.trans s2;have ne:l2≠p:=(zA7 (s1 _ _ hp) hl2).symm;refine ⟨_,rfl,p,A.ei,dx,[],rfl,s _ _ hp,cl,N.nEic,(by show 0 < 1000;decide),?_⟩;exact q _ l2 zA1 (by rw [zAa ne];exact e2) (s1.free hl2) fun b o e n=>by rw [zAa n];exact s _ _ e
end
end L2.W
namespace L2.W
open PySem My
noncomputable def evL (rs:List Row) (r:Row) (w o s:Option (List (Option Str))):Leaf→Bool
 | .always=>true
 | .wanted=>w.isSome
 | .is f v=>decide (valIn r.fields s f=some v)
 | .meets f=>w.isSome && (s.isSome && ((placeOf r.fields f).isSome && (match valIn r.fields w f with | none=>true | some x=>decide (valIn r.fields s f=some x))))
 | .owner f v=>match r.owner with
  | none=>false
  | some n=>decide (valIn (fieldsOf rs n) o f=some v)
noncomputable def SitAt (H:Hp) (a:Addr) (r:Row) (w o s:Option (List (Option Str))):Prop:=∃ vw vo vs,H a=some (.tup [.str r.name,vw,vo,vs])∧OptAt H vw w∧OptAt H vo o∧OptAt H vs s
theorem SitAt.same {H H':Hp}{a:Addr}{r:Row}{w o s:Option (List (Option Str))} (h:SitAt H a r w o s) (k:Same H H'):SitAt H' a r w o s:=let ⟨x,y,z,h1,h2,h3,h4⟩:=h;⟨x,y,z,k _ _ h1,h2.same k,h3.same k,h4.same k⟩
structure SitOk (rs:List Row) (r:Row) (w o s:Option (List (Option Str))):Prop where
 mem:r∈rs
 lw:Len r.fields w
 ls:Len r.fields s
 lo:∀ n,r.owner=some n→Len (fieldsOf rs n) o
noncomputable def clsT (A:CA):Tr→Addr
 | .leaf .always=>A.al
 | .leaf .wanted=>A.wa
 | .leaf (.is _ _)=>A.is_
 | .leaf (.meets _)=>A.me
 | .leaf (.owner _ _)=>A.ow
 | .no _=>A.no
 | .node b _=>if b then A.bo else A.ei
theorem CondAt.cls {A:CA}{H:Hp}{p:Addr}{t:Tr} (c:CondAt A H p t):∃ dx fs,H p=some (.ins (clsT A t) dx fs):=by
 cases c with
 | al e=>exact ⟨_,_,e⟩
 | wa e=>exact ⟨_,_,e⟩
 | is e=>exact ⟨_,_,e⟩
 | me e=>exact ⟨_,_,e⟩
 | ow e=>exact ⟨_,_,e⟩
 | no e _=>exact ⟨_,_,e⟩
 | bo e _ _=>exact ⟨_,_,e⟩
 | ei e _ _=>exact ⟨_,_,e⟩
structure Askd (A:CA) (CK C:Addr) (H:Hp) (X p q a:Addr) (t:Tr) (d:Nat) (rs:List Row) (r:Row) (w o s:Option (List (Option Str))):Prop where
 x:∃ dx fs,H p=some (.ins X dx fs)
 c:CondAt A H p t
 ok:TrOk t
 h:trH t≤d
 kd:Kd CK C H q rs
 rp:RowsP rs
 st:SitAt H a r w o s
 so:SitOk rs r w o s
noncomputable def spHolds (A:CA) (CK C:Addr):Nat→Addr→Sp
 | 0,_=>fun _ _ _ _=>False
 | d + 1,X=>fun vs H Q _=>∃ (p q a:Addr) (t:Tr) (rs:List Row) (r:Row) (w o s:Option (List (Option Str))),vs=[.ref p,.ref q,.ref a]∧Askd A CK C H X p q a t d rs r w o s∧∀ H',Same H H'→Q (.bl (ev (evL rs r w o s) t)) H'
theorem Askd.eq {A:CA}{CK C:Addr}{H:Hp}{X p q a:Addr}{t:Tr}{d:Nat}{rs:List Row}{r:Row}{w o s:Option (List (Option Str))} (h:Askd A CK C H X p q a t d rs r w o s):clsT A t=X:=by
 obtain ⟨dx,fs,e1⟩:=h.x;obtain ⟨dx',fs',e2⟩:=h.c.cls;rw [e1] at e2;injection e2 with e2;injection e2 with e2;exact e2.symm
theorem zEs {x:Option Str}{v:Str}:decide (ownV x=V.str v)=decide (x=some v):=by
 cases x with
 | none=>rfl
 | some y =>
  show decide (V.str y=V.str v)=decide (some y=some v);simp
theorem zCr (x y:Option Str):scal (ownV x) (ownV y)=true:=by cases x <;> cases y <;> rfl
theorem kd_of {CK C:Addr}{H:Hp}{q:Addr}{rs:List Row} (kd:Kd CK C H q rs) (rp:RowsP rs) {r:Row} (hr:r∈rs):∃ d kvs p dxk,KindsAt CK H q d kvs∧H q=some (.ins CK dxk (ksF (.ref d)))∧valV kvs (Sum.inr r.name)=some (.ref p)∧KF C Any H p r∧nameOk r.name∧FieldsOk r.fields:=by
 obtain ⟨d,kvs,p,ka,vv,kf⟩:=kd.kind hr;obtain ⟨⟨dxk,hq⟩,rd⟩:=id ka;exact ⟨d,kvs,p,dxk,ka,hq,vv,kf,(rp.ok r hr).1,(rp.ok r hr).2⟩
theorem zCp {A:CA} (ne:[A.al,A.wa,A.is_,A.me,A.ow,A.no,A.bo,A.ei].Nodup) {t:Tr}:(clsT A t=A.al→t=.leaf .always)∧(clsT A t=A.wa→t=.leaf .wanted)∧(clsT A t=A.is_→∃ f v,t=.leaf (.is f v))∧(clsT A t=A.me→∃ f,t=.leaf (.meets f))∧(clsT A t=A.ow→∃ f v,t=.leaf (.owner f v)) ∧
  (clsT A t=A.no→∃ t',t=.no t')∧(clsT A t=A.bo→∃ ts,t=.node true ts)∧(clsT A t=A.ei→∃ ts,t=.node false ts):=by
 simp only [List.nodup_cons,Zv,Zr,or_false,not_or,Yk,and_true,not_false_eq_true] at ne;obtain ⟨⟨a1,a2,a3,a4,a5,a6,a7⟩,⟨b1,b2,b3,b4,b5,b6⟩,⟨c1,c2,c3,c4,c5⟩,⟨d1,d2,d3,d4⟩,⟨e1,e2,e3⟩,⟨f1,f2⟩,g1⟩:=ne;rcases t with (_ | _ | _ | _ | _) | _ | ⟨(_ | _),_⟩ <;> simp [clsT,a1,a2,a3,a4,a5,a6,a7,b1,b2,b3,b4,b5,b6,c1,c2,c3,c4,c5,d1,d2,d3,d4,e1,e2,e3,f1,f2,g1,Ne.symm a1,Ne.symm a2,Ne.symm a3,Ne.symm a4,Ne.symm a5,Ne.symm a6,Ne.symm a7,Ne.symm b1,Ne.symm b2,Ne.symm b3,Ne.symm b4,Ne.symm b5,Ne.symm b6,Ne.symm c1,Ne.symm c2,Ne.symm c3,Ne.symm c4,Ne.symm c5,Ne.symm d1,Ne.symm d2,Ne.symm d3,Ne.symm d4,Ne.symm e1,Ne.symm e2,Ne.symm e3,Ne.symm f1,Ne.symm f2,Ne.symm g1]
section
variable {P:Program}{w:World}{K:PySem.W.Frag}{mg:Str→Option Value}{base:Heap}{CX:CXT}
theorem scHAl:FnScope ["self", "kinds", "situation"] ["self", "kinds", "situation"] (defScope sAlH):=⟨rfl,rfl,rfl,by decide +kernel,rfl,by decide +kernel,by decide +kernel⟩
theorem ok_hAl {f CK C:Addr}{fd:FuncData}{A:CA}{d:Nat} (N:Cnd K mg A) (F:Fun K "holds" "Always.holds" sAlH f fd):FnOk P w K mg base CX 1 f fd ["self", "kinds", "situation"] (spHolds A CK C d A.al):=by
 cases d with
 | zero=>exact FnOk.never fun _ _ _ _ z=>z
 | succ d =>
  refine Fun.okC F scHAl (fun vs H Q E h=>?_) (fun cdv Ar outer sh H vs Q E hr h=>?_)
  ·obtain ⟨p,q,a,t,rs,r,w,o,s,rfl,_⟩:=h;rfl
  ·obtain ⟨p,q,a,t,rs,r,w,o,s,rfl,K0,k⟩:=h;cases (zCp N.ne).1 K0.eq;exact ⟨_,zA5 (zA9 zC7),k _ (Same.refl _)⟩
theorem scHWa:FnScope ["self", "kinds", "situation"] ["self", "kinds", "situation"] (defScope sWaH):=⟨rfl,rfl,rfl,by decide +kernel,rfl,by decide +kernel,by decide +kernel⟩
theorem ok_hWa {f CK C:Addr}{fd:FuncData}{A:CA}{d:Nat} (N:Cnd K mg A) (F:Fun K "holds" "Wanted.holds" sWaH f fd):FnOk P w K mg base CX 1 f fd ["self", "kinds", "situation"] (spHolds A CK C d A.wa):=by
 cases d with
 | zero=>exact FnOk.never fun _ _ _ _ z=>z
 | succ d =>
  refine Fun.okC F scHWa (fun vs H Q E h=>?_) (fun cdv Ar outer sh H vs Q E hr h=>?_)
  ·obtain ⟨p,q,a,t,rs,r,w,o,s,rfl,_⟩:=h;rfl
  ·obtain ⟨p,q,a,t,rs,r,w,o,s,rfl,K0,k⟩:=h;cases (zCp N.ne).2.1 K0.eq;have nd:=scHWa.nd;refine ⟨_,zA5 (zA9 (zAq zCj (zAf zAd (pv 2) zA4 (fun _ _=>rfl)) zBd (nomark _))),?_⟩;obtain ⟨vw,vo,vs,ha,hw,ho,hs⟩:=K0.st;refine ⟨_,rfl,a,_,1,vw,rfl,rfl,SqT.of ha,rfl,?_⟩;have q1:=k _ (Same.refl _);rw [show ev (evL rs r w o s) (.leaf .wanted) = !decide (vw=V.non) by rw [hw.non];cases w <;> rfl] at q1;exact ⟨rfl,q1⟩
theorem scHIs:FnScope ["self", "kinds", "situation"] ["self", "kinds", "situation"] (defScope sIsH):=⟨rfl,rfl,rfl,by decide +kernel,rfl,by decide +kernel,by decide +kernel⟩
theorem ok_hIs {f CK C fI fIk fOr fOf fOw fv:Addr}{fd fdO fdv:FuncData}{A:CA}{d:Nat} (hC:Calm CX) (N:Cnd K mg A) (KS:KsCls K mg CK fIk fOr fOf fOw) (F:Fun K "holds" "Is.holds" sIsH f fd) (GO:FnOk P w K mg base CX 2 fOf fdO ["self", "name"] (spOf CK)) (bO:Binds K fdO ["self", "name"] [])
  (DV:Def K mg "value_in" sValueIn ["kind", "state", "field"] fv fdv) (GV:FnOk P w K mg base CX 2 fv fdv ["kind", "state", "field"] (spValIn C)):FnOk P w K mg base CX 3 f fd ["self", "kinds", "situation"] (spHolds A CK C d A.is_):=by
 cases d with
 | zero=>exact FnOk.never fun _ _ _ _ z=>z
 | succ d =>
  refine Fun.okC F scHIs (fun vs H Q E h=>?_) (fun cdv Ar outer sh H vs Q E hr h=>?_)
  ·obtain ⟨p,q,a,t,rs,r,w,o,s,rfl,_⟩:=h;rfl
  ·obtain ⟨p,q,a,t,rs,r,w,o,s,rfl,K0,k⟩:=h;obtain ⟨f,v,rfl⟩:=(zCp N.ne).2.2.1 K0.eq;have nd:=scHIs.nd;have cl:=(N.all A.is_ (by unfold IsCond;simp)).cl;refine ⟨_,zA5 (zA9 (zAq zBa (zA6 GV hr rfl DV.at_ DV.fn.kp DV.bind .nil (passC hC) (zA0 (zC2 (pv 1) KS.cl KS.mOf GO hr bO .nil (passC hC) (zA0 (zAf zAd (pv 2) zA4 (fun _ _=>rfl)) zA2)) (zA0 (zAf zAd (pv 2) zA4 (fun _ _=>rfl)) (zA0 (zAw (pv 0) rfl) zA2)))) (zAw (pv 0) rfl) (nomark _))),?_⟩;obtain ⟨vw,vo,vs,ha,hw,ho,hs⟩:=K0.st;obtain ⟨dd,kvs,pk,dxk,ka,hq,vv,kf,nn,fo⟩:=kd_of K0.kd K0.rp K0.so.mem;have hp:=K0.c;cases hp with
   | is e =>
    refine ⟨_,rfl,q,dxk,_,rfl,hq,ks_no _ (by decide),_,rfl,a,_,0,_,rfl,rfl,SqT.of ha,rfl,q,dd,kvs,r.name,.ref pk,rfl,nn,ka,vv,fun H1 s1=>?_⟩;refine ⟨_,rfl,a,_,3,_,rfl,rfl,SqT.of (s1 _ _ ha),rfl,_,rfl,p,A.is_,_,_,_,rfl,s1 _ _ e,cl,N.nIsf,fV_f _ _,pk,r,vs,s,f,rfl,kf.same s1,fo,hs.same s1,K0.so.ls,fun H2 s2=>?_⟩;refine ⟨_,rfl,p,A.is_,_,_,_,rfl,s2 _ _ (s1 _ _ e),cl,N.nIsv,fV_v _ _,zCr _ (some v),?_⟩;have q1:=k _ (s1.trans s2);rw [zEs];exact q1
theorem scHMe:FnScope ["self", "kinds", "situation"] ["self", "kinds", "situation"] (defScope sMeH):=⟨rfl,rfl,rfl,by decide +kernel,rfl,by decide +kernel,by decide +kernel⟩
theorem ok_hMe {f CK C fI fIk fOr fOf fOw fv fp:Addr}{fd fdO fdv fdp:FuncData}{A:CA}{d:Nat} (hC:Calm CX) (N:Cnd K mg A) (KS:KsCls K mg CK fIk fOr fOf fOw) (F:Fun K "holds" "Meets.holds" sMeH f fd) (GO:FnOk P w K mg base CX 2 fOf fdO ["self", "name"] (spOf CK)) (bO:Binds K fdO ["self", "name"] [])
  (DV:Def K mg "value_in" sValueIn ["kind", "state", "field"] fv fdv) (GV:FnOk P w K mg base CX 2 fv fdv ["kind", "state", "field"] (spValIn C)) (DP:Def K mg "place_of" sPlaceOf ["kind", "field"] fp fdp) (GP:FnOk P w K mg base CX 1 fp fdp ["kind", "field"] (spPlace C)):FnOk P w K mg base CX 3 f fd ["self", "kinds", "situation"] (spHolds A CK C d A.me):=by
 cases d with
 | zero=>exact FnOk.never fun _ _ _ _ z=>z
 | succ d =>
  have sc:FnScope ["self", "kinds", "situation", "kind", "wished"] ["self", "kinds", "situation"] (defScope sMeH):=⟨rfl,rfl,rfl,by decide +kernel,rfl,by decide +kernel,by decide +kernel⟩;refine Fun.okC F sc (fun vs H Q E h=>?_) (fun cdv Ar outer sh H vs Q E hr h=>?_)
  ·obtain ⟨p,q,a,t,rs,r,w,o,s,rfl,_⟩:=h;rfl
  ·obtain ⟨p,q,a,t,rs,r,w,o,s,rfl,K0,k⟩:=h;obtain ⟨f,rfl⟩:=(zCp N.ne).2.2.2.1 K0.eq;have nd:=sc.nd;have hr1:=hr.mono (show 1≤2 by decide);have cl:=(N.all A.me (by unfold IsCond;simp)).cl
   refine ⟨_,zA3 (zAi (i:=3) nd rfl (Or.inl rfl) (zC2 (pv 1) KS.cl KS.mOf GO hr bO .nil (passC hC) (zA0 (zAf zAd (pv 2) zA4 (fun _ _=>rfl)) zA2)))
      (zA3 (zAn (PW.pt (zBi (zB6 (zBn (zAf zAd (pv 2) zA4 (fun _ _=>rfl)))) (zBi (zB6 (zBn (zAf zAd (pv 2) zA4 (fun _ _=>rfl)))) (zB9 (zB6 (zBn (zA6 GP hr1 rfl DP.at_ DP.fn.kp DP.bind .nil (passC hC) (zA0 (pv 3) (zA0 (zAw (pv 0) rfl) zA2)))))))))
      (zA5 (zA9 zC7)) zAb)
      (zA3 (zAi (i:=4) nd rfl (Or.inl rfl) (zA6 GV hr rfl DV.at_ DV.fn.kp DV.bind .nil (passC hC) (zA0 (pv 3) (zA0 (zAf zAd (pv 2) zA4 (fun _ _=>rfl)) (zA0 (zAw (pv 0) rfl) zA2)))))
      (zA5 (zA9 (pe_or (zAq op_isN (pv 4) zBd (nomark _)) (zCe (zAq zBa (pv 4) (zA6 GV hr rfl DV.at_ DV.fn.kp DV.bind .nil (passC hC) (zA0 (pv 3) (zA0 (zAf zAd (pv 2) zA4 (fun _ _=>rfl)) (zA0 (zAw (pv 0) rfl) zA2)))) (nomark _)))))))),?_⟩
   obtain ⟨vw,vo,vs,ha,hw,ho,hs⟩:=K0.st;obtain ⟨dd,kvs,pk,dxk,ka,hq,vv,kf,nn,fo⟩:=kd_of K0.kd K0.rp K0.so.mem;have hp:=K0.c;cases hp with
   | me e =>
    refine ⟨_,rfl,q,dxk,_,rfl,hq,ks_no _ (by decide),_,rfl,a,_,0,_,rfl,rfl,SqT.of ha,rfl,q,dd,kvs,r.name,.ref pk,rfl,nn,ka,vv,fun H1 s1=>?_⟩;refine ⟨_,rfl,a,_,1,_,rfl,rfl,SqT.of (s1 _ _ ha),rfl,_,rfl,?_⟩;rw [hw.non];cases w with
    | none=>exact iteT (iteT (k _ s1))
    | some sw =>
     refine iteF ⟨_,rfl,a,_,3,_,rfl,rfl,SqT.of (s1 _ _ ha),rfl,_,rfl,?_⟩;rw [hs.non];cases s with
     | none=>exact iteT (iteT (k _ s1))
     | some ss =>
      refine iteF ⟨_,rfl,_,rfl,p,A.me,_,_,_,rfl,s1 _ _ e,cl,N.nMef,fF_f _,pk,r,f,rfl,kf.same s1,fo,fun H2 s2=>⟨_,rfl,?_⟩⟩;have s12:=s1.trans s2;cases ep:placeOf r.fields f with
      | none =>
       have q1:=k _ s12;rw [show ev (evL rs r (some sw) o (some ss)) (.leaf (.meets f))=false by show (true && (true && ((placeOf r.fields f).isSome && _)))=false;rw [ep];rfl] at q1;exact iteT q1
      | some i =>
       have q1:∀ H',Same H H'→Q (.bl (match valIn r.fields (some sw) f with | none=>true | some x=>decide (valIn r.fields (some ss) f=some x))) H':=fun H' s'=>by
        have z:=k H' s';rw [show ev (evL rs r (some sw) o (some ss)) (.leaf (.meets f))=(match valIn r.fields (some sw) f with | none=>true | some x=>decide (valIn r.fields (some ss) f=some x)) by show (true && (true && ((placeOf r.fields f).isSome && _)))=_;rw [ep];rfl] at z;exact z
       refine iteF ?_;refine ⟨_,rfl,_,rfl,a,_,1,_,rfl,rfl,SqT.of (s12 _ _ ha),rfl,_,rfl,p,A.me,_,_,_,rfl,s12 _ _ e,cl,N.nMef,fF_f _,pk,r,vw,some sw,f,rfl,kf.same s12,fo,hw.same s12,K0.so.lw,fun H3 s3=>?_⟩;have s13:=s12.trans s3;cases ev1:valIn r.fields (some sw) f with
       | none =>
        rw [ev1] at q1;exact ⟨_,rfl,rfl,true,rfl,iteT (q1 _ s13)⟩
       | some x =>
        rw [ev1] at q1;refine ⟨_,rfl,rfl,false,rfl,iteF ?_⟩;refine ⟨_,rfl,_,rfl,_,rfl,a,_,3,_,rfl,rfl,SqT.of (s13 _ _ ha),rfl,_,rfl,p,A.me,_,_,_,rfl,s13 _ _ e,cl,N.nMef,fF_f _,pk,r,vs,some ss,f,rfl,kf.same s13,fo,hs.same s13,K0.so.ls,fun H4 s4=>⟨zCr (some x) _,?_⟩⟩;have z:Q (.bl (decide (valIn r.fields (some ss) f=some x))) H4:=q1 _ (s13.trans s4);rw [← zEs,show decide (ownV (valIn r.fields (some ss) f)=V.str x)=decide (V.str x=ownV (valIn r.fields (some ss) f)) by rw [Y4,decide_eq_true_eq,decide_eq_true_eq];exact eq_comm] at z;exact z
theorem scHOw:FnScope ["self", "kinds", "situation"] ["self", "kinds", "situation"] (defScope sOwH):=⟨rfl,rfl,rfl,by decide +kernel,rfl,by decide +kernel,by decide +kernel⟩
theorem ok_hOw {f CK C fI fIk fOr fOf fOw fv:Addr}{fd fdO fdv:FuncData}{A:CA}{d:Nat} (hC:Calm CX) (N:Cnd K mg A) (KC:KCls K mg C fI) (KS:KsCls K mg CK fIk fOr fOf fOw) (F:Fun K "holds" "Owner.holds" sOwH f fd) (GO:FnOk P w K mg base CX 2 fOf fdO ["self", "name"] (spOf CK)) (bO:Binds K fdO ["self", "name"] [])
  (DV:Def K mg "value_in" sValueIn ["kind", "state", "field"] fv fdv) (GV:FnOk P w K mg base CX 2 fv fdv ["kind", "state", "field"] (spValIn C)):FnOk P w K mg base CX 3 f fd ["self", "kinds", "situation"] (spHolds A CK C d A.ow):=by
 cases d with
 | zero=>exact FnOk.never fun _ _ _ _ z=>z
 | succ d =>
  have sc:FnScope ["self", "kinds", "situation", "owner"] ["self", "kinds", "situation"] (defScope sOwH):=⟨rfl,rfl,rfl,by decide +kernel,rfl,by decide +kernel,by decide +kernel⟩;refine Fun.okC F sc (fun vs H Q E h=>?_) (fun cdv Ar outer sh H vs Q E hr h=>?_)
  ·obtain ⟨p,q,a,t,rs,r,w,o,s,rfl,_⟩:=h;rfl
  ·obtain ⟨p,q,a,t,rs,r,w,o,s,rfl,K0,k⟩:=h;obtain ⟨f,v,rfl⟩:=(zCp N.ne).2.2.2.2.1 K0.eq;have nd:=sc.nd;have cl:=(N.all A.ow (by unfold IsCond;simp)).cl
   refine ⟨_,zA3 (zAi (i:=3) nd rfl (Or.inl rfl) (zAw (zC2 (pv 1) KS.cl KS.mOf GO hr bO .nil (passC hC) (zA0 (zAf zAd (pv 2) zA4 (fun _ _=>rfl)) zA2)) rfl))
      (zA3 (zAn (zB6 (zBn (pv 3)))
      (zA5 (zA9 zC7)) zAb)
      (zA5 (zA9 (zAq zBa (zA6 GV hr rfl DV.at_ DV.fn.kp DV.bind .nil (passC hC) (zA0 (zC2 (pv 1) KS.cl KS.mOf GO hr bO .nil (passC hC) (zA0 (pv 3) zA2)) (zA0 (zAf zAd (pv 2) zA4 (fun _ _=>rfl)) (zA0 (zAw (pv 0) rfl) zA2)))) (zAw (pv 0) rfl) (nomark _))))),?_⟩
   obtain ⟨vw,vo,vs,ha,hw,ho,hs⟩:=K0.st;obtain ⟨dd,kvs,pk,dxk,ka,hq,vv,kf,nn,fo⟩:=kd_of K0.kd K0.rp K0.so.mem;have hp:=K0.c;cases hp with
   | ow e =>
    refine ⟨_,rfl,q,dxk,_,rfl,hq,ks_no _ (by decide),_,rfl,a,_,0,_,rfl,rfl,SqT.of ha,rfl,q,dd,kvs,r.name,.ref pk,rfl,nn,ka,vv,fun H1 s1=>?_⟩;obtain ⟨dxr,lr,hpk,_⟩:=kf.same s1;refine ⟨pk,C,dxr,_,_,rfl,hpk,KC.cl,KC.nO,zDb _ _ _,_,rfl,_,rfl,?_⟩;cases eo:r.owner with
    | none =>
     have q1:=k _ s1;rw [show ev (evL rs r w o s) (.leaf (.owner f v))=false by show (match r.owner with | none=>false | some n=>decide (valIn (fieldsOf rs n) o f=some v))=false;rw [eo]] at q1;exact iteT q1
    | some n =>
     obtain ⟨r2,h2,rfl⟩:=K0.rp.ownIn r K0.so.mem n eo;have q1:∀ H',Same H H'→Q (.bl (decide (valIn r2.fields o f=some v))) H':=fun H' s'=>by
      have z:=k H' s';rw [show ev (evL rs r w o s) (.leaf (.owner f v))=decide (valIn r2.fields o f=some v) by show (match r.owner with | none=>false | some n=>decide (valIn (fieldsOf rs n) o f=some v))=_;rw [eo];show decide (valIn (fieldsOf rs r2.name) o f=some v)=_;rw [zB4 K0.rp h2]] at z;exact z
     obtain ⟨dd2,kvs2,pk2,dxk2,ka2,hq2,vv2,kf2,nn2,fo2⟩:=kd_of (K0.kd.same s1) K0.rp h2;have lo:Len r2.fields o:=by rw [← zB4 K0.rp h2];exact K0.so.lo _ eo
     refine iteF ?_;refine ⟨_,rfl,q,dxk2,_,rfl,hq2,ks_no _ (by decide),_,rfl,q,dd2,kvs2,r2.name,.ref pk2,rfl,nn2,ka2,vv2,fun H2 s2=>?_⟩;have s12:=s1.trans s2;refine ⟨_,rfl,a,_,2,_,rfl,rfl,SqT.of (s12 _ _ ha),rfl,_,rfl,p,A.ow,_,_,_,rfl,s12 _ _ e,cl,N.nOwf,fV_f _ _,pk2,r2,vo,o,f,rfl,kf2.same s2,fo2,ho.same s12,lo,fun H3 s3=>?_⟩;refine ⟨_,rfl,p,A.ow,_,_,_,rfl,s3 _ _ (s12 _ _ e),cl,N.nOwv,fV_v _ _,zCr _ (some v),?_⟩;rw [zEs];exact q1 _ (s12.trans s3)
end
end L2.W
namespace L2.W
open PySem My
theorem Askd.sub {A:CA}{CK C:Addr}{H H':Hp}{X p q a:Addr}{t:Tr}{d:Nat}{rs:List Row}{r:Row}{w o s:Option (List (Option Str))} (h:Askd A CK C H X p q a t d rs r w o s) (k:Same H H') {p':Addr}{t':Tr}{d':Nat} (c:CondAt A H p' t') (ok:TrOk t') (hh:trH t'≤d') :
  ∃ X' dx fs,H' p'=some (.ins X' dx fs)∧IsCond A X'∧fs.lookup ("holds" : Str)=none∧Askd A CK C H' X' p' q a t' d' rs r w o s:=by
 obtain ⟨X',dx,fs,e,i,n⟩:=c.ins;exact ⟨X',dx,fs,k _ _ e,i,n,⟨dx,fs,k _ _ e⟩,c.same k,ok,hh,h.kd.same k,h.rp,h.st.same k,h.so⟩
section
variable {P:Program}{w:World}{K:PySem.W.Frag}{mg:Str→Option Value}{base:Heap}{CX:CXT}
theorem ok_hNo {f CK C:Addr}{fd:FuncData}{A:CA}{d:Nat} (hC:Calm CX) (N:Cnd K mg A) (F:Fun K "holds" "Not.holds" sNoH f fd) (IH:∀ X,IsCond A X→Disp P w K mg base CX (d + 4) "holds" ["self", "kinds", "situation"] (spHolds A CK C d X) X):FnOk P w K mg base CX (d + 5) f fd ["self", "kinds", "situation"] (spHolds A CK C (d + 1) A.no):=by
 have sc:FnScope ["self", "kinds", "situation"] ["self", "kinds", "situation"] (defScope sNoH):=⟨rfl,rfl,rfl,by decide +kernel,rfl,by decide +kernel,by decide +kernel⟩;refine Fun.okC F sc (fun vs H Q E h=>?_) (fun cdv Ar outer sh H vs Q E hr h=>?_)
 ·obtain ⟨p,q,a,t,rs,r,w,o,s,rfl,_⟩:=h;rfl
 ·obtain ⟨p,q,a,t,rs,r,w,o,s,rfl,K0,k⟩:=h;obtain ⟨t',rfl⟩:=(zCp N.ne).2.2.2.2.2.1 K0.eq;have nd:=sc.nd;have cl:=(N.all A.no (by unfold IsCond;simp)).cl;refine ⟨_,zA5 (zA9 (pe_not (zBy (D:=(IsCond A)) (zAw (pv 0) rfl) IH hr (passC hC) (zA0 (pv 1) (zA0 (pv 2) zA2))))),?_⟩;have hp:=K0.c;have hh:=K0.h;rw [trH] at hh;cases hp with
  | no e c =>
   cases d with
   | zero=>omega
   | succ d =>
    obtain ⟨X',dx,fs,e',i,n,K1⟩:=K0.sub (d':=d) (Same.refl _) c K0.ok (by omega);refine ⟨_,rfl,p,A.no,_,_,_,rfl,e,cl,N.nNoc,fC_c _,_,X',dx,fs,rfl,e',i,n,_,rfl,_,rfl,_,q,a,t',rs,r,w,o,s,rfl,K1,fun H1 s1=>⟨_,rfl,k _ s1⟩⟩
theorem ok_hBo {f CK C:Addr}{fd:FuncData}{A:CA}{d:Nat} (hC:Calm CX) (T:Tops K mg) (N:Cnd K mg A) (F:Fun K "holds" "Both.holds" sBoH f fd) (IH:∀ X,IsCond A X→Disp P w K mg base CX (d + 4) "holds" ["self", "kinds", "situation"] (spHolds A CK C d X) X):FnOk P w K mg base CX (d + 5) f fd ["self", "kinds", "situation"] (spHolds A CK C (d + 1) A.bo):=by
 have sc:FnScope ["self", "kinds", "situation"] ["self", "kinds", "situation"] (defScope sBoH):=⟨rfl,rfl,rfl,by decide +kernel,rfl,by decide +kernel,by decide +kernel⟩;refine Fun.okC F sc (fun vs H Q E h=>?_) (fun cdv Ar outer sh H vs Q E hr h=>?_)
 ·obtain ⟨p,q,a,t,rs,r,w,o,s,rfl,_⟩:=h;rfl
 ·obtain ⟨p,q,a,t,rs,r,w,o,s,rfl,K0,k⟩:=h;obtain ⟨ts,rfl⟩:=(zCp N.ne).2.2.2.2.2.2.1 K0.eq;have nd:=sc.nd;have cl:=(N.all A.bo (by unfold IsCond;simp)).cl;refine ⟨_,zA5 (zA9 (zAh (zC1 rfl) rfl T.all PyProof.Rows.boot_all (zA0 (zB0 (T:=["condition"]) rfl ScOk.auto (zAk (zAw (pv 0) rfl)) (fun _ _ _ _=>zA8 (i:=3) (by decide +kernel:(["self", "kinds", "situation", "condition"]:List Str).Nodup) rfl (Or.inl rfl)) (fun _ _ _ _=>zB7) (fun _ _ _ _=>(zBy (D:=(IsCond A)) (pv 3) IH hr (passC hC) (zA0 (pv 1) (zA0 (pv 2) zA2))))) zA2))),?_⟩;have small:∀ n:Nat,n≤1000→n≤sizeLine:=fun n h=>Zn (small1000 h);have hp:=K0.c;have hh:=K0.h;rw [trH] at hh;obtain ⟨t2,t50,tok⟩:2≤ts.length∧ts.length≤50∧TrsOk ts:=by have:=K0.ok;rwa [TrOk] at this
  cases hp with
  | bo e hl c =>
   rename_i l ps
   have cl2:=c.len;refine ⟨_,rfl,p,A.bo,_,_,_,rfl,e,cl,N.nBoc,fCs_c _,l,rfl,⟨_,SqL.of hl⟩,zAj (xs:=ps.map V.ref) (fun i ys H'=>Same H H'∧ys=((ts.take i).map (ev (evL rs r w o s))).map V.bl) ⟨Same.refl _,rfl⟩ (fun i ys H' z=>SqL.of (z.1 _ _ hl)) (fun i ys H' hi z=>?_) ?_ ?_⟩
   ·rw [z.2,Z0,Z0];have:=Zp i ts;exact small _ (by omega)
   ·rintro i x ys H' hi ⟨s1,rfl⟩ Nn hN;rw [Z4] at hi;cases ep:ps[i]? with
    | none=>rw [ep] at hi;cases hi
    | some p' =>
     rw [ep] at hi;cases hi;obtain ⟨t',et,c'⟩:=c.get ep;have mt:=Z1 et;cases d with
     | zero =>
      have:=zCw mt;omega
     | succ d =>
      have:=zCw mt;obtain ⟨X',dx,fs,e',ic,n,K1⟩:=K0.sub (d':=d) s1 c' (zC4.mp tok t' mt) (by omega);refine pick ⟨_,rfl,p',X',dx,fs,rfl,e',ic,n,_,rfl,_,rfl,p',q,a,t',rs,r,w,o,s,rfl,K1,fun H2 s2=>hN _ _ ⟨s1.trans s2,?_⟩⟩;rw [Z5,et,Z6,Z6];rfl
   ·rintro ys H' ⟨s1,rfl⟩ la hla;refine ⟨la,ts.map (ev (evL rs r w o s)),rfl,SqL.of (by rw [zA1,Z0,cl2,Zb]),?_⟩;have z:=k _ (s1.trans (Same.new (o:=.lst (((ts.take (ps.map V.ref).length).map (ev (evL rs r w o s))).map V.bl)) hla));rw [ev,evs_eq] at z;exact z
theorem ok_hEi {f CK C:Addr}{fd:FuncData}{A:CA}{d:Nat} (hC:Calm CX) (T:Tops K mg) (N:Cnd K mg A) (F:Fun K "holds" "Either.holds" sEiH f fd) (IH:∀ X,IsCond A X→Disp P w K mg base CX (d + 4) "holds" ["self", "kinds", "situation"] (spHolds A CK C d X) X):FnOk P w K mg base CX (d + 5) f fd ["self", "kinds", "situation"] (spHolds A CK C (d + 1) A.ei):=by
 have sc:FnScope ["self", "kinds", "situation"] ["self", "kinds", "situation"] (defScope sEiH):=⟨rfl,rfl,rfl,by decide +kernel,rfl,by decide +kernel,by decide +kernel⟩;refine Fun.okC F sc (fun vs H Q E h=>?_) (fun cdv Ar outer sh H vs Q E hr h=>?_)
 ·obtain ⟨p,q,a,t,rs,r,w,o,s,rfl,_⟩:=h;rfl
 ·obtain ⟨p,q,a,t,rs,r,w,o,s,rfl,K0,k⟩:=h;obtain ⟨ts,rfl⟩:=(zCp N.ne).2.2.2.2.2.2.2 K0.eq;have nd:=sc.nd;have cl:=(N.all A.ei (by unfold IsCond;simp)).cl;refine ⟨_,zA5 (zA9 (zAh (call_any (K:=K) rfl rfl) rfl T.any PyProof.Rows.boot_any (zA0 (zB0 (T:=["condition"]) rfl ScOk.auto (zAk (zAw (pv 0) rfl)) (fun _ _ _ _=>zA8 (i:=3) (by decide +kernel:(["self", "kinds", "situation", "condition"]:List Str).Nodup) rfl (Or.inl rfl)) (fun _ _ _ _=>zB7) (fun _ _ _ _=>(zBy (D:=(IsCond A)) (pv 3) IH hr (passC hC) (zA0 (pv 1) (zA0 (pv 2) zA2))))) zA2))),?_⟩;have small:∀ n:Nat,n≤1000→n≤sizeLine:=fun n h=>Zn (small1000 h);have hp:=K0.c;have hh:=K0.h;rw [trH] at hh;obtain ⟨t2,t50,tok⟩:2≤ts.length∧ts.length≤50∧TrsOk ts:=by have:=K0.ok;rwa [TrOk] at this
  cases hp with
  | ei e hl c =>
   rename_i l ps
   have cl2:=c.len;refine ⟨_,rfl,p,A.ei,_,_,_,rfl,e,cl,N.nEic,fCs_c _,l,rfl,⟨_,SqL.of hl⟩,zAj (xs:=ps.map V.ref) (fun i ys H'=>Same H H'∧ys=((ts.take i).map (ev (evL rs r w o s))).map V.bl) ⟨Same.refl _,rfl⟩ (fun i ys H' z=>SqL.of (z.1 _ _ hl)) (fun i ys H' hi z=>?_) ?_ ?_⟩
   ·rw [z.2,Z0,Z0];have:=Zp i ts;exact small _ (by omega)
   ·rintro i x ys H' hi ⟨s1,rfl⟩ Nn hN;rw [Z4] at hi;cases ep:ps[i]? with
    | none=>rw [ep] at hi;cases hi
    | some p' =>
     rw [ep] at hi;cases hi;obtain ⟨t',et,c'⟩:=c.get ep;have mt:=Z1 et;cases d with
     | zero =>
      have:=zCw mt;omega
     | succ d =>
      have:=zCw mt;obtain ⟨X',dx,fs,e',ic,n,K1⟩:=K0.sub (d':=d) s1 c' (zC4.mp tok t' mt) (by omega);refine pick ⟨_,rfl,p',X',dx,fs,rfl,e',ic,n,_,rfl,_,rfl,p',q,a,t',rs,r,w,o,s,rfl,K1,fun H2 s2=>hN _ _ ⟨s1.trans s2,?_⟩⟩;rw [Z5,et,Z6,Z6];rfl
   ·rintro ys H' ⟨s1,rfl⟩ la hla;refine ⟨la,ts.map (ev (evL rs r w o s)),rfl,SqL.of (by rw [zA1,Z0,cl2,Zb]),?_⟩;have z:=k _ (s1.trans (Same.new (o:=.lst (((ts.take (ps.map V.ref).length).map (ev (evL rs r w o s))).map V.bl)) hla));rw [ev,evs_eq] at z;exact z
structure Hld (P:Program) (w:World) (K:PySem.W.Frag) (mg:Str→Option Value) (base:Heap) (CX:CXT) (A:CA) (CK C:Addr):Prop where
 leaf:∀ d X,(X=A.al∨X=A.wa∨X=A.is_∨X=A.me∨X=A.ow)→Disp P w K mg base CX 3 "holds" ["self", "kinds", "situation"] (spHolds A CK C d X) X
 tree:∀ d,(∀ X,IsCond A X→Disp P w K mg base CX (d + 4) "holds" ["self", "kinds", "situation"] (spHolds A CK C d X) X)→∀ X,(X=A.no∨X=A.bo∨X=A.ei)→Disp P w K mg base CX (d + 5) "holds" ["self", "kinds", "situation"] (spHolds A CK C (d + 1) X) X
 any:∀ X,(X=A.no∨X=A.bo∨X=A.ei)→∃ f fd,Cls K X∧Meth K X "holds" f∧Binds K fd ["self", "kinds", "situation"] []
theorem _root_.L2.Disp.mono {j k:Nat}{m:Str}{ps:List Str}{sp:Sp}{X:Addr} (d:Disp P w K mg base CX j m ps sp X) (h:j≤k):Disp P w K mg base CX k m ps sp X:=let ⟨f,fd,a,b,c,e⟩:=d.ex;⟨⟨f,fd,a,b,c.mono h,e⟩⟩
theorem hold_all {A:CA}{CK C:Addr} (h:Hld P w K mg base CX A CK C):∀ d X,IsCond A X→Disp P w K mg base CX (d + 4) "holds" ["self", "kinds", "situation"] (spHolds A CK C d X) X
 | 0,X,i=>by
  have lf:∀ X,(X=A.al∨X=A.wa∨X=A.is_∨X=A.me∨X=A.ow)→Disp P w K mg base CX (0 + 4) "holds" ["self", "kinds", "situation"] (spHolds A CK C 0 X) X:=fun X z=>(h.leaf 0 X z).mono (by decide);have tr:∀ X,(X=A.no∨X=A.bo∨X=A.ei)→Disp P w K mg base CX (0 + 4) "holds" ["self", "kinds", "situation"] (spHolds A CK C 0 X) X:=fun X z=>let ⟨f,fd,a,b,c⟩:=h.any X z;⟨⟨f,fd,a,b,FnOk.never fun _ _ _ _ y=>y,c⟩⟩;rcases i with i | i | i | i | i | i | i | i
  ·exact lf X (.inl i)
  ·exact lf X (.inr (.inl i))
  ·exact lf X (.inr (.inr (.inl i)))
  ·exact lf X (.inr (.inr (.inr (.inl i))))
  ·exact lf X (.inr (.inr (.inr (.inr i))))
  ·exact tr X (.inl i)
  ·exact tr X (.inr (.inl i))
  ·exact tr X (.inr (.inr i))
 | d + 1,X,i=>by
  have lf:∀ X,(X=A.al∨X=A.wa∨X=A.is_∨X=A.me∨X=A.ow)→Disp P w K mg base CX (d + 1 + 4) "holds" ["self", "kinds", "situation"] (spHolds A CK C (d + 1) X) X:=fun X z=>(h.leaf (d + 1) X z).mono (by omega);have tr:∀ X,(X=A.no∨X=A.bo∨X=A.ei)→Disp P w K mg base CX (d + 1 + 4) "holds" ["self", "kinds", "situation"] (spHolds A CK C (d + 1) X) X:=fun X z=>(h.tree d (hold_all h d) X z).mono (by omega);rcases i with i | i | i | i | i | i | i | i
  ·exact lf X (.inl i)
  ·exact lf X (.inr (.inl i))
  ·exact lf X (.inr (.inr (.inl i)))
  ·exact lf X (.inr (.inr (.inr (.inl i))))
  ·exact lf X (.inr (.inr (.inr (.inr i))))
  ·exact tr X (.inl i)
  ·exact tr X (.inr (.inl i))
  ·exact tr X (.inr (.inr i))
end
end L2.W
namespace L2.W
open PySem My
noncomputable def nmA (b:Bool):List Str:=if b then ["a", "of", "kind", "ab"] else ["box", "lid", "a", "boxes"]
noncomputable def told (b:Bool):List Str:=if b then ["meets", "f"] else ["f", "meets"]
noncomputable def vals3:List Str:=["on", "off", "wish"]
noncomputable def nmB (x:Str):Bool:=nameB x && PyData.strOk x && decide (x.length≤8)
theorem nmB_ok {x:Str} (h:nmB x=true):nameOk x:=by
 unfold nmB at h;simp only [Zu,decide_eq_true_eq] at h;exact ⟨h.1.1,h.1.2,h.2⟩
theorem nms_ok {l:List Str} (h:l.all nmB=true):∀ x∈l,nameOk x:=fun x hx=>nmB_ok (List.all_eq_true.mp h x hx)
theorem nmA_ok (b:Bool):(∀ x∈nmA b,nameOk x)∧(nmA b).Nodup:=by cases b <;> exact ⟨nms_ok (by decide +kernel),by decide +kernel⟩
theorem told_ok (b:Bool):(∀ x∈told b,nameOk x)∧(told b).Nodup:=by cases b <;> exact ⟨nms_ok (by decide +kernel),by decide +kernel⟩
theorem v3_ok:(∀ x∈vals3,nameOk x)∧vals3.Nodup:=⟨nms_ok (by decide +kernel),by decide +kernel⟩
theorem name_in {b:Bool}{j:Nat} (hj:j < 4):(nmA b).getD j ""∈nmA b:=by
 match j,hj with
 | 0,_=>cases b <;> simp [nmA]
 | 1,_=>cases b <;> simp [nmA]
 | 2,_=>cases b <;> simp [nmA]
 | 3,_=>cases b <;> simp [nmA]
theorem _root_.My.Src.nw {H:Hp}{p b:Addr}{k:Int} (S:Src H p k) (h:H b=none):b≠p:=by obtain ⟨_,_,_,e,_⟩:=S;exact Ne.symm (zA7 e h)
theorem _root_.My.Src.up {H H':Hp}{p:Addr}{k:Int} (S:Src H p k) (s:Same H H'):Src H' p k:=by obtain ⟨a,c,i,e,r⟩:=S;exact ⟨a,c,i,s _ _ e,r⟩
theorem _root_.My.Src.le {H:Hp}{p:Addr}{k m:Int} (S:Src H p k) (h:k≤m):Src H p m:=by obtain ⟨a,c,i,e,r1,r2⟩:=S;exact ⟨a,c,i,e,r1,Int.le_trans r2 h⟩
noncomputable def ButS (p:Addr) (H H':Hp):Prop:=∀ b o,H b=some o→b≠p→H' b=some o
theorem wishes_len (fs:List (Str×List Str)):(wishes fs).length=manyA (wiA fs) + 1:=by
 unfold wishes;rw [Zi,Z0,zBm]
theorem now_len (r:Row):(nowS r).length=manyOf r.fields + 1:=by
 unfold nowS;rw [Zi,Z0,zBm,zDr]
theorem ownS_le {rs:List Row} (rp:RowsP rs) {m:Nat} (h1:1≤m) (hm:∀ r∈rs,manyOf r.fields≤m) {r:Row} (hr:r∈rs):(ownS rs r).length≤m:=by
 cases e:r.owner with
 | none=>rw [zDy e];exact h1
 | some o =>
  obtain ⟨r',h2,rfl⟩:=rp.ownIn r hr o e;rw [zCi rp h2 e,Z0,zBm,zDr];exact hm r' h2
theorem sits_le {rs:List Row} (rp:RowsP rs) {m a b:Nat} (h1:1≤m) (hm:∀ r∈rs,manyOf r.fields≤m) {r:Row} (hr:r∈rs) (ha:manyA (wiA r.fields)≤a) (hb:manyOf r.fields≤b):(sitsOf rs r).length≤(a + 1) * (m * (b + 1)):=by
 rw [sits_len,wishes_len,now_len];exact Nat.mul_le_mul (by omega) (Nat.mul_le_mul (ownS_le rp h1 hm hr) (by omega))
noncomputable def mkF (b:Bool) (n:Nat):List (Str×List Str):=[((told b).getD 0 "",vals3.take n),((told b).getD 1 "",vals3.take 2)]
theorem vals_ok {n:Nat} (h2:2≤n) (h3:n≤3):ValsOk (vals3.take n):=by
 have l:(vals3.take n).length=n:=by rw [Zk];show min n 3=n;omega
 exact ⟨by omega,by omega,v3_ok.2.sublist (List.take_sublist n _),fun x hx=>v3_ok.1 x (Yc hx)⟩
theorem told_in {b:Bool}{j:Nat} (hj:j < 2):(told b).getD j ""∈told b:=by
 match j,hj with
 | 0,_=>cases b <;> exact Zl
 | 1,_=>cases b <;> exact Zh _ Zl
theorem mkF_ok (b:Bool) {n m:Nat} (h2:2≤n) (h3:n≤3) (hm:m≤2):FieldsOk ((mkF b n).take m)∧(m≤1→manyOf ((mkF b n).take m)≤3∧manyA (wiA ((mkF b n).take m))≤4)∧manyOf ((mkF b n).take m)≤6∧manyA (wiA ((mkF b n).take m))≤12:=by
 obtain ⟨o1,o2⟩:=told_ok b;have l1:(vals3.take n).length=n:=by rw [Zk];show min n 3=n;omega
 have l2:(vals3.take 2).length=2:=rfl;have okf:∀ f∈mkF b n,nameOk f.1∧ValsOk f.2:=fun f hf=>by
  have:f=((told b).getD 0 "",vals3.take n)∨f=((told b).getD 1 "",vals3.take 2):=by simpa [mkF] using hf
  rcases this with rfl | rfl
  ·exact ⟨o1 _ (told_in (by decide)),vals_ok h2 h3⟩
  ·exact ⟨o1 _ (told_in (by decide)),vals_ok (Z7 _) (by decide)⟩
 have nm:(mkF b n).map (·.1)=told b:=by cases b <;> rfl
 have ndm:(((mkF b n).take m).map (·.1)).Nodup:=by rw [List.map_take,nm];exact o2.sublist (List.take_sublist m _)
 have e0:manyOf [((told b).getD 0 "",vals3.take n)]=n:=by show 1 * (vals3.take n).length=n;rw [l1];omega
 have e1:manyA (wiA [((told b).getD 0 "",vals3.take n)])=n + 1:=by show 1 * (none :: (vals3.take n).map some).length=n + 1;rw [Zi,Z0,l1];omega
 have e2:manyOf (mkF b n)=n * 2:=by show 1 * (vals3.take n).length * 2=n * 2;rw [l1];omega
 have e3:manyA (wiA (mkF b n))=(n + 1) * 3:=by show 1 * (none :: (vals3.take n).map some).length * 3=(n + 1) * 3;rw [Zi,Z0,l1];omega
 match m,hm with
 | 0,_=>exact ⟨⟨by show 0≤3;decide,Yk,(fun f hf=>nomatch hf),by show 1≤8;decide⟩,fun _=>⟨by show 1≤3;decide,by show 1≤4;decide⟩,by show 1≤6;decide,by show 1≤12;decide⟩
 | 1,_ =>
  have et:(mkF b n).take 1=[((told b).getD 0 "",vals3.take n)]:=rfl;rw [et] at ndm ⊢;rw [e0,e1];exact ⟨⟨by show 1≤3;decide,ndm,fun f hf=>okf f (by rw [List.mem_singleton.mp hf];exact Zl),by rw [e0];omega⟩,fun _=>⟨by omega,by omega⟩,by omega,by omega⟩
 | 2,_ =>
  have et:(mkF b n).take 2=mkF b n:=rfl;rw [et] at ndm ⊢;rw [e2,e3];exact ⟨⟨by show 2≤3;decide,ndm,okf,by rw [e2];omega⟩,fun c=>absurd c (by decide),by omega,by omega⟩
structure DrawI (bn:Bool) (rs:List Row):Prop where
 row:RowsI rs
 nm:rs.map (·.name)=(nmA bn).take rs.length
 bd:∀ (j:Nat) (r:Row),rs[j]? = some r→manyOf r.fields≤6∧manyA (wiA r.fields)≤12∧∀ f∈r.fields,f.1≠"g"
theorem mkF_g (b:Bool) {n m:Nat}:∀ f∈(mkF b n).take m,f.1≠"g":=fun f hf=>by
 have h:=Yc hf;unfold mkF at h;rcases List.mem_cons.mp h with rfl | h
 ·show (told b).getD 0 ""≠"g";cases b <;> decide +kernel
 ·rw [List.mem_singleton.mp h];show (told b).getD 1 ""≠"g";cases b <;> decide +kernel
structure Drawn (H H':Hp) (l:Addr) (rs:List Row):Prop where
 has:Has (fun a=>H a=none) H' (.ref l) (.list (rs.map rowD))
 ok:RowsOk rs
 le:rs.length≤3
 fit:∀ r∈rs,(sitsOf rs r).length≤1000
 noG:∀ r∈rs,∀ f∈r.fields,f.1≠"g"
theorem DrawI.done {bn:Bool}{rs:List Row} (d:DrawI bn rs) (h1:1≤rs.length) (h3:rs.length≤3):RowsOk rs∧(∀ r∈rs,(sitsOf rs r).length≤1000)∧∀ r∈rs,∀ f∈r.fields,f.1≠"g":=by
 have ok:RowsOk rs:=⟨by omega,by omega,by rw [d.nm];exact (nmA_ok bn).2.sublist (List.take_sublist _ _),d.row.ok,d.row.own⟩;have rp:RowsP rs:=⟨_,ok,List.Perm.refl _⟩;have m6:∀ r∈rs,manyOf r.fields≤6:=fun r hr=>by
  obtain ⟨i,e⟩:=List.mem_iff_getElem?.mp hr;exact (d.bd i r e).1
 refine ⟨ok,fun r hr=>?_,fun r hr=>?_⟩
 ·obtain ⟨i,e⟩:=List.mem_iff_getElem?.mp hr;exact Zm (sits_le rp (m:=6) (a:=12) (b:=6) (by decide) m6 hr (d.bd i r e).2.1 (d.bd i r e).1) (by decide)
 ·obtain ⟨i,e⟩:=List.mem_iff_getElem?.mp hr;exact (d.bd i r e).2.2
noncomputable def spKinds:Sp:=fun vs H Q _=>∃ (p:Addr) (k:Int),vs=[.ref p]∧Src H p k∧k≤800000 ∧
 ∀ (l:Addr) (rs:List Row) (H':Hp),Drawn H H' l rs→Src H' p (k + 60)→ButS p H H'→Q (.ref l) H'
theorem cut_takeN {xs:List V}{j:Nat} (h:j≤xs.length):cutV xs none (some (j:Int))=xs.take j:=by
 have n:¬ ((j:Int) < 0):=by omega
 unfold cutV HT.sIx;simp [n,Nat.min_eq_left h]
theorem told_at {b:Bool}{j:Nat} (hj:j < 2):((told b).map V.str)[j]? = some (.str ((told b).getD j "")):=by
 match j,hj with
 | 0,_=>cases b <;> rfl
 | 1,_=>cases b <;> rfl
theorem mkF_step {b:Bool}{n nn j:Nat} (hj:j < 2) (h:j≠0→nn=2):(mkF b (if j=0 then nn else n)).take (j + 1)=(mkF b n).take j++[((told b).getD j "",vals3.take nn)]:=by
 match j,hj,h with
 | 0,_,_=>rfl
 | 1,_,h=>rw [h (by decide)];rfl
theorem names_at {b:Bool}{i:Nat} (h:i < 4):(nmA b)[i]? = some ((nmA b).getD i ""):=by
 match i,h with
 | 0,_=>cases b <;> rfl
 | 1,_=>cases b <;> rfl
 | 2,_=>cases b <;> rfl
 | 3,_=>cases b <;> rfl
theorem DrawI.snoc {bn:Bool}{rs:List Row} (d:DrawI bn rs) (hl:rs.length < 4) {fs:List (Str×List Str)}{o:Option Str} (fo:FieldsOk fs) (b1:manyOf fs≤6) (b2:manyA (wiA fs)≤12) (bg:∀ f∈fs,f.1≠"g")
  (ho:∀ x,o=some x→∃ (j:Nat) (r':Row),rs[j]? = some r'∧r'.name=x):DrawI bn (rs++[⟨(nmA bn).getD rs.length "",fs,o⟩]):=by
 refine ⟨d.row.snoc ⟨(nmA_ok bn).1 _ (name_in hl),fo⟩ ho,?_,fun j r e=>?_⟩
 ·rw [Z6,d.nm,Zg,List.length_singleton,Z5,names_at hl];rfl
 ·by_cases c:j < rs.length
  ·rw [Zo c] at e;exact d.bd j r e
  ·have ej:j=rs.length:=by
    have:=(List.getElem?_eq_some_iff.mp e).1;rw [Zg,List.length_singleton] at this;omega
   subst ej;rw [Zy (Z7 _),Nat.sub_self] at e;cases e;exact ⟨b1,b2,bg⟩
end L2.W
namespace L2.W
open PySem My
section
variable {P:Program}{w:World}{K:PySem.W.Frag}{mg:Str→Option Value}{base:Heap}{CX:CXT}
theorem scKi:FnScope ["_law_source", "_law_names", "_law_wide", "_law_fields_named", "_law_found", "_law_k", "_law_fields_here", "_law_j", "_law_values", "_law_owner_here"] ["_law_source"] (defScope sKinds):=⟨rfl,rfl,rfl,by decide +kernel,rfl,by decide +kernel,by decide +kernel⟩
set_option maxHeartbeats 2000000 in
theorem ok_kinds31 {f fn:Addr}{fd fdn:FuncData} (hC:Calm CX) (T:Tops K mg) (F:Fun K "_law_kinds" "_law_kinds" sKinds f fd) (Dn:Def K mg "_law_next" sNext ["_law_source", "_law_many"] fn fdn) (Gn:FnOk P w K mg base CX 2 fn fdn ["_law_source", "_law_many"] spNext):FnOk P w K mg base CX 3 f fd ["_law_source"] spKinds:=by
 refine Fun.okC F scKi (fun vs H Q E h=>?_) (fun cdv A outer s H vs Q E hr h=>?_)
 ·obtain ⟨p,k,rfl,_⟩:=h;rfl
 ·obtain ⟨p,k,rfl,S0,k9,q⟩:=h;have nd:=scKi.nd
  refine ⟨_,zA3 (zAi (i:=1) nd rfl (Or.inl rfl) (zAf zAr (zAm (zA0 (zAm (zA0 zAl (zA0 zAl (zA0 zAl (zA0 zAl zA2))))) (zA0 (zAm (zA0 zAl (zA0 zAl (zA0 zAl (zA0 zAl zA2))))) zA2))) (zA6 Gn hr rfl Dn.at_ Dn.fn.kp Dn.bind .nil (passC hC) (zA0 (pv 0) (zA0 zA4 zA2))) (fun _ _=>rfl)))
     (zA3 (zAi (i:=2) nd rfl (Or.inl rfl) (zA6 Gn hr rfl Dn.at_ Dn.fn.kp Dn.bind .nil (passC hC) (zA0 (pv 0) (zA0 zA4 zA2))))
     (zA3 (zAi (i:=3) nd rfl (Or.inl rfl) (zDf (zAm (zA0 zAl (zA0 zAl zA2))) (zAf zAr (zAm (zA0 zA4 (zA0 (pe_un un_neg zA4) zA2))) (zA6 Gn hr rfl Dn.at_ Dn.fn.kp Dn.bind .nil (passC hC) (zA0 (pv 0) (zA0 zA4 zA2))) (fun _ _=>rfl))))
     (zA3 (zAi (i:=4) nd rfl (Or.inl rfl) (zAm zA2))
     (zA3 (zBt PassesOwn.never rfl (zC5 rfl T.range (zA0 (zAv zC0 zA4 (zA6 Gn hr rfl Dn.at_ Dn.fn.kp Dn.bind .nil (passC hC) (zA0 (pv 0) (zA0 zA4 zA2)))) zA2)) (zA8 (i:=5) nd rfl (Or.inl rfl))
     (zA3 (zAi (i:=6) nd rfl (Or.inl rfl) (zAm zA2))
     (zA3 (zBt PassesOwn.never rfl (zC5 rfl T.range (zA0 (zAh (call_min2 rfl) rfl T.min PyProof.Rows.boot_min (zA0 (zAf zAr (zAm (zA0 zA4 (zA0 zA4 (zA0 zA4 (zA0 zA4 zA2))))) (zA6 Gn hr rfl Dn.at_ Dn.fn.kp Dn.bind .nil (passC hC) (zA0 (pv 0) (zA0 zA4 zA2))) (fun _ _=>rfl)) (zA0 (zAv zC0 zA4 (zAs zEc rfl T.int PyProof.Rows.boot_int (zA0 (zAq zBa (pv 5) (pv 2) (nomark _)) zA2))) zA2))) zA2)) (zA8 (i:=7) nd rfl (Or.inl rfl))
     (zA3 (zAi (i:=8) nd rfl (Or.inl rfl) (zCa sl_list (zAm (zA0 zAl (zA0 zAl (zA0 zAl zA2)))) zDv (zCy (zAv zC0 zA4 (zAv zDm (zA6 Gn hr rfl Dn.at_ Dn.fn.kp Dn.bind .nil (passC hC) (zA0 (pv 0) (zA0 zA4 zA2))) (zAs zEc rfl T.int PyProof.Rows.boot_int (zA0 (zAq zBa (pv 7) zA4 (nomark _)) zA2)))))))
     (zA5 (zBj (zEi PySem.F.plainAttrs_list PySem.F.slot_list_append PySem.F.type_list_append zDa (pv 6) (zA0 (zBc (zA0 (zAf zAr (pv 3) (pv 7) (fun _ _=>rfl)) (zA0 (pv 8) zA2))) zA2))))))
     (zA3 (zAi (i:=9) nd rfl (Or.inl rfl) (zAf zAr (zAv zEo (zAm (zA0 zBd zA2)) (zB0 (T:=["_law_one"]) rfl ScOk.auto (zAk (pv 4)) (fun _ _ _ _=>zA8 (i:=10) (by decide +kernel:(["_law_source", "_law_names", "_law_wide", "_law_fields_named", "_law_found", "_law_k", "_law_fields_here", "_law_j", "_law_values", "_law_owner_here", "_law_one"]:List Str).Nodup) rfl (Or.inl rfl)) (fun _ _ _ _=>zB7) (fun _ _ _ _=>(zAf (r:=rIxT K) zAd (pv 10) zA4 (fun _ _=>rfl))))) (zA6 Gn hr rfl Dn.at_ Dn.fn.kp Dn.bind .nil (passC hC) (zA0 (pv 0) (zA0 (zAv zC0 (pv 5) zA4) zA2))) (fun _ _=>rfl)))
     (zA5 (zBj (zEi PySem.F.plainAttrs_list PySem.F.slot_list_append PySem.F.type_list_append zDa (pv 4) (zA0 (zBc (zA0 (zAf zAr (pv 1) (pv 5) (fun _ _=>rfl)) (zA0 (pv 6) (zA0 (pv 9) zA2)))) zA2))))))))
     (zA5 (zA9 (pv 4))))))),?_⟩
  have small:∀ n:Nat,n≤1000→n≤sizeLine:=fun n h=>Zn (small1000 h);have hp:H p≠none:=by obtain ⟨_,_,_,e,_⟩:=S0;rw [e];exact fun z=>nomatch z
  have fresh:∀ {H':Hp}{j:Int},ButS p H H'→Src H' p j→∀ {b:Addr},H' b=none→H b=none:=fun {H' j} bs S b hb=>by
   by_cases c:b=p
   ·subst c;exact absurd hb (by obtain ⟨_,_,_,e,_⟩:=S;rw [e];exact fun z=>nomatch z)
   ·cases e:H b with
    | none=>rfl
    | some o=>rw [bs b o e c] at hb;cases hb
  have sH:∀ {x:Str}{G:Addr→Prop}{H':Hp},nameOk x→Has G H' (.str x) (.str x):=fun h=>.str _ (Zm h.2.2 (by decide)) h.2.1;refine ⟨small 4 (by decide),fun la hla=>⟨small 4 (by decide),fun lb hlb=>⟨small 2 (by decide),fun lo hlo=>?_⟩⟩⟩;have u2:=Same.new (o:=HO.lst [.str "box",.str "lid",.str "a",.str "boxes"]) hla;have u3:=Same.new (o:=HO.lst [.str "a",.str "of",.str "kind",.str "ab"]) hlb;have u4:=Same.new (o:=HO.lst [.ref la,.ref lb]) hlo;have w2:=(u3.trans u4) _ _ (zA1 (H:=H) (a:=la) (o:=.lst [.str "box",.str "lid",.str "a",.str "boxes"]));have w3:=u4 _ _ (zA1 (a:=lb) (o:=.lst [.str "a",.str "of",.str "kind",.str "ab"]));have w4:(upd (upd (upd H la (.lst [.str "box",.str "lid",.str "a",.str "boxes"])) lb (.lst [.str "a",.str "of",.str "kind",.str "ab"])) lo (.lst [.ref la,.ref lb])) lo=some (.lst [.ref la,.ref lb]):=zA1;have U:=u2.trans (u3.trans u4);have nab:la≠p∧lb≠p∧lo≠p:=⟨S0.nw hla,(S0.up u2).nw hlb,(S0.up (u2.trans u3)).nw hlo⟩;have S1:=S0.up U;clear u2 u3 u4;generalize upd (upd (upd H la (.lst [.str "box",.str "lid",.str "a",.str "boxes"])) lb (.lst [.str "a",.str "of",.str "kind",.str "ab"])) lo (.lst [.ref la,.ref lb])=H1 at w2 w3 w4 U S1 ⊢;refine ⟨_,rfl,p,2,_,rfl,S1,by omega,by decide,by decide,fun r0 H2 a0 a1 S2 k2=>?_⟩;obtain ⟨bn,ln,hln0,hat,nln⟩:∃ (b:Bool) (lt:Addr),H2 lt=some (.lst ((nmA b).map V.str))∧atI [V.ref la,V.ref lb] r0=some (.ref lt)∧lt≠p:=by
   have:r0=0∨r0=1:=by omega
   rcases this with rfl | rfl
   ·exact ⟨false,la,by rw [k2 la nab.1];exact w2,rfl,nab.1⟩
   ·exact ⟨true,lb,by rw [k2 lb nab.2.1];exact w3,rfl,nab.2.1⟩
  refine ⟨lo,_,r0,_,rfl,rfl,SqL.of (by rw [k2 lo nab.2.2];exact w4),hat,?_⟩;have B2:ButS p H H2:=fun b o e n=>by rw [k2 b n];exact U _ _ e
  clear w2 w3 w4 U nab k2 hla hlb hlo S1 hat;refine ⟨_,rfl,p,3,_,rfl,S2,by omega,by decide,by decide,fun r3 H3 e0 e1 S3 k3=>?_⟩;obtain ⟨wide,rfl⟩:∃ j:Nat,r3=(j:Int):=⟨r3.toNat,by omega⟩;have B3:ButS p H H3:=fun b o e n=>by rw [k3 b n];exact B2 _ _ e n
  have x3n:H3 ln=some (.lst ((nmA bn).map V.str)):=by rw [k3 ln nln];exact hln0
  refine ⟨small 2 (by decide),fun l4 hl4=>⟨1,rfl,small 2 (by decide),fun l5 hl5=>?_⟩⟩;have u4:=Same.new (o:=HO.lst [.str "f",.str "meets"]) hl4;have u5:=Same.new (o:=HO.lst [.int 1,.int (-1)]) hl5;have w4:=u5 _ _ (zA1 (H:=H3) (a:=l4) (o:=.lst [.str "f",.str "meets"]));have w5:(upd (upd H3 l4 (.lst [.str "f",.str "meets"])) l5 (.lst [.int 1,.int (-1)])) l5=some (.lst [.int 1,.int (-1)]):=zA1;have nl4:=S3.nw hl4;have nl5:=(S3.up u4).nw hl5;have U:=u4.trans u5;have S4:=S3.up U;generalize upd (upd H3 l4 (.lst [.str "f",.str "meets"])) l5 (.lst [.int 1,.int (-1)])=H4 at w4 w5 U S4 ⊢;clear u4 u5;refine ⟨_,rfl,p,2,_,rfl,S4,by omega,by decide,by decide,fun r5 H5 a5 b5 S5 k5=>?_⟩;have B5:ButS p H H5:=fun b o e n=>by rw [k5 b n];exact U _ _ (B3 _ _ e n)
  have x5n:H5 ln=some (.lst ((nmA bn).map V.str)):=by rw [k5 ln nln];exact U _ _ x3n
  obtain ⟨b,st,hst,hs1,hsl⟩:∃ (b:Bool) (st:Int),atI [V.int 1,V.int (-1)] r5=some (.int st)∧(st=1∨st = -1)∧stepL st [V.str "f",V.str "meets"]=(told b).map V.str:=by
   have:r5=0∨r5=1:=by omega
   rcases this with rfl | rfl
   ·exact ⟨false,1,rfl,.inl rfl,rfl⟩
   ·exact ⟨true,-1,rfl,.inr rfl,rfl⟩
  refine ⟨l5,_,r5,_,rfl,rfl,SqL.of (by rw [k5 l5 nl5];exact w5),hst,l4,_,st,rfl,rfl,hs1,SqL.of (by rw [k5 l4 nl4];exact w4),fun lt hlt=>?_⟩;rw [hsl];have s6:=Same.new (o:=HO.lst ((told b).map V.str)) hlt;have x6:(upd H5 lt (.lst ((told b).map V.str))) lt=some (.lst ((told b).map V.str)):=zA1;have nlt0:lt≠p:=S5.nw hlt;have S7:=S5.up s6;have x7:=s6 _ _ x5n;have B7:ButS p H (upd H5 lt (.lst ((told b).map V.str))):=fun b o e n=>s6 _ _ (B5 _ _ e n);generalize upd H5 lt (.lst ((told b).map V.str))=H7 at s6 x6 S7 x7 B7 ⊢;clear w4 w5 U S4 k5 S5 B5 x5n hst hs1 hsl hl4 hl5 nl4 nl5 S3 B3 x3n k3 S2 B2 hln0 s6;refine ⟨Zj _,fun lg hlg=>?_⟩;have s8:=Same.new (o:=.lst []) hlg;have x8:(upd H7 lg (.lst [])) lg=some (.lst []):=zA1;have nlg:lg≠p:=S7.nw hlg;have flg:H lg=none:=fresh B7 S7 hlg;have ngn:ln≠lg:=zA7 x7 hlg;have S8:=S7.up s8;have B8:ButS p H (upd H7 lg (.lst [])):=fun b o e n=>s8 _ _ (B7 _ _ e n);have x8n:=s8 _ _ x7;have x8t:=s8 _ _ x6;generalize upd H7 lg (.lst [])=H8 at s8 x8 S8 B8 x8n x8t ⊢;refine ⟨_,rfl,p,3,_,rfl,S8,by omega,by decide,by decide,fun r4 H9 f0 f1 S9 k9'=>⟨_,_,rfl,rfl,?_⟩⟩;obtain ⟨n4,rfl⟩:∃ j:Nat,r4=(j:Int):=⟨r4.toNat,by omega⟩;have B9:ButS p H H9:=fun b o e n=>by rw [k9' b n];exact B8 _ _ e n
  have x9n:H9 ln=some (.lst ((nmA bn).map V.str)):=by rw [k9' ln nln];exact x8n
  have x9g:H9 lg=some (.lst []):=by rw [k9' lg nlg];exact x8
  have ntg:lt≠lg:=zA7 x6 hlg;have x9t:H9 lt=some (.lst ((told b).map V.str)):=by rw [k9' lt nlt0];exact x8t
  refine ⟨((n4 + 1:Nat):Int),congrArg (fun z:Int=>[V.int z]) (show (1:Int) + (n4:Int)=((n4 + 1:Nat):Int) by omega),by omega,by omega,zE8 (n:=n4 + 1) (fun i σ H'=>∃ (x5 x6 x7 x8 x9:Option V) (rs:List Row) (zs:List V),σ = [some (.ref p),some (.ref ln),some (.int (wide:Nat)),some (.ref lt),some (.ref lg),x5,x6,x7,x8,x9]∧rs.length=i∧DrawI bn rs∧(∀ b o,H9 b=some o→b≠p→b≠lg→H' b=some o)∧Src H' p (k + 5 + 10 * i)∧H' lg=some (.lst zs)∧HasAll (fun a=>H a=none∧a≠lg) H' zs (rs.map rowD))
   ⟨_,_,_,_,_,[],[],rfl,rfl,⟨⟨(fun r h=>nomatch h),fun i r o e=>by simp at e⟩,rfl,fun j r e=>by simp at e⟩,fun _ _ e _ _=>e,S9.le (by omega),x9g,.nil⟩ ?_ ?_⟩
  ·rintro i σ H10 hi ⟨y5,y6,y7,y8,y9,rs,zs,rfl,rl,dI,g10,S10,h10,hz10⟩;rw [Int.zero_add];have i3:i < 3:=by omega
   refine ⟨Zj _,fun lfl hlfl=>?_⟩;have u1:=Same.new (o:=HO.lst []) hlfl;have z12:(upd H10 lfl (.lst [])) lfl=some (.lst []):=zA1;have Bt:∀ {Hy:Hp},Same H10 Hy→ButS p H Hy:=fun s b o e n=>s _ _ (g10 _ _ (B9 _ _ e n) n (zA7 e flg));have F1:H lfl=none:=fresh (Bt (Same.refl _)) S10 hlfl;have nfl:lfl≠p∧lfl≠lg∧True:=⟨S10.nw hlfl,(zA7 h10 hlfl).symm,trivial⟩;have t10:H10 lt=some (.lst ((told b).map V.str)):=g10 _ _ x9t nlt0 ntg;have nlt:lt≠p∧lt≠lfl:=⟨nlt0,zA7 t10 hlfl⟩;have hlt:=u1 _ _ t10;have S12:=S10.up u1;have g12:∀ b o,H10 b=some o→b≠p→(upd H10 lfl (.lst [])) b=some o:=fun b o e n=>u1 _ _ e;generalize upd H10 lfl (.lst [])=H12 at u1 z12 hlt S12 g12 ⊢;refine ⟨small 4 (by decide),fun lm hlm=>?_⟩;have u5:=Same.new (o:=HO.lst [.int 1,.int 2,.int 1,.int 0]) hlm;have w5:(upd H12 lm (.lst [.int 1,.int 2,.int 1,.int 0])) lm=some (.lst [.int 1,.int 2,.int 1,.int 0]):=zA1;have nlm:lm≠p:=S12.nw hlm;have S13:=S12.up u5;generalize upd H12 lm (.lst [.int 1,.int 2,.int 1,.int 0])=H13 at u5 w5 S13 ⊢;refine ⟨_,rfl,p,4,_,rfl,S13,by omega,by decide,by decide,fun r6 H14 a6 b6 S14 k14=>?_⟩;obtain ⟨m0,hm0,hm2⟩:∃ m0:Nat,atI [V.int 1,V.int 2,V.int 1,V.int 0] r6=some (.int (m0:Nat))∧m0≤2:=by
    have:r6=0∨r6=1∨r6=2∨r6=3:=by omega
    rcases this with rfl | rfl | rfl | rfl
    ·exact ⟨1,rfl,by decide⟩
    ·exact ⟨2,rfl,by decide⟩
    ·exact ⟨1,rfl,by decide⟩
    ·exact ⟨0,rfl,by decide⟩
   obtain ⟨m,hm,mle,mw⟩:∃ m:Nat,(if (1:Int) + (if decide (V.int (i:Int)=V.int (wide:Int))=true then 1 else 0) < (m0:Int) then (1:Int) + (if decide (V.int (i:Int)=V.int (wide:Int))=true then 1 else 0) else (m0:Int))=(m:Int)∧m≤2∧(i≠wide→m≤1):=by
    by_cases c:i=wide
    ·rw [decide_eq_true (by rw [c])];refine ⟨m0,?_,hm2,fun z=>absurd c z⟩;rw [if_pos rfl,if_neg (by omega)]
    ·rw [decide_eq_false (fun z=>c (by have:=V.int.inj z;omega))];by_cases c2:(1:Int) < (m0:Int)
     ·exact ⟨1,by rw [if_neg Zc,if_pos (by omega)];rfl,by decide,fun _=>by decide⟩
     ·exact ⟨m0,by rw [if_neg Zc,if_neg (by omega)],hm2,fun _=>by omega⟩
   have g14:∀ b o,H10 b=some o→b≠p→H14 b=some o:=fun b o e n=>by rw [k14 b n];exact u5 _ _ (g12 _ _ e n)
   have z14:H14 lfl=some (.lst []):=by rw [k14 lfl nfl.1];exact u5 _ _ z12
   have t14:H14 lt=some (.lst ((told b).map V.str)):=by rw [k14 lt nlt.1];exact u5 _ _ hlt
   refine ⟨lm,_,r6,_,rfl,rfl,SqL.of (by rw [k14 lm nlm];exact w5),hm0,_,rfl,_,rfl,rfl,.inr ⟨_,rfl,_,_,rfl,rfl,_,_,rfl,(m:Int),congrArg (fun z:Int=>[V.int z]) hm,by omega,by omega,zE8 (n:=m) (fun j σ H'=>∃ (x8 x9:Option V) (n:Nat) (fz:List V),σ = [some (.ref p),some (.ref ln),some (.int (wide:Nat)),some (.ref lt),some (.ref lg),some (.int (i:Nat)),some (.ref lfl),x8,x9,y9]∧2≤n∧n≤3∧(∀ b o,H14 b=some o→b≠p→b≠lfl→H' b=some o)∧Src H' p (k + 5 + 10 * i + 2 + j)∧H' lfl=some (.lst fz)∧HasAll (fun a=>H a=none∧a≠lg∧a≠lfl) H' fz (((mkF b n).take j).map fieldD))
    ⟨_,_,2,[],rfl,by decide,by decide,fun _ _ e _ _=>e,S14.le (by omega),z14,.nil⟩ ?_ ?_⟩⟩
   ·rintro j σ H15 hj ⟨z8,z9,n,fz,rfl,n2,n3,g15,S15,h15,hf15⟩;rw [Int.zero_add];refine ⟨small 3 (by decide),fun lv hlv=>?_⟩;have u6:=Same.new (o:=HO.lst [.str "on",.str "off",.str "wish"]) hlv;have w6:(upd H15 lv (.lst [.str "on",.str "off",.str "wish"])) lv=some (.lst [.str "on",.str "off",.str "wish"]):=zA1;have nlv:lv≠p:=S15.nw hlv;have S16:=S15.up u6;generalize upd H15 lv (.lst [.str "on",.str "off",.str "wish"])=H16 at u6 w6 S16 ⊢;refine ⟨_,rfl,p,2,_,rfl,S16,by omega,by decide,by decide,fun r7 H17 a7 b7 S17 k17=>?_⟩;refine ⟨_,rfl,rfl,.inr ⟨_,rfl,_,_,rfl,rfl,?_,_,_,rfl,rfl,_,rfl,lv,_,rfl,SqL.of (by rw [k17 lv nlv];exact w6),fun l9 hl9=>?_⟩⟩
    ·have:r7 < 2:=by omega
     exact .inl ⟨by omega,by omega⟩
    obtain ⟨nn,hnn,nn2,nn3,nnj⟩:∃ nn:Nat,(2:Int) + r7 * (if decide (V.int (j:Int)=V.int 0)=true then 1 else 0)=(nn:Int)∧2≤nn∧nn≤3∧(j≠0→nn=2):=by
     by_cases c:j=0
     ·rw [decide_eq_true (by rw [c];rfl),if_pos rfl];exact ⟨(2 + r7).toNat,by omega,by omega,by omega,fun z=>absurd c z⟩
     ·rw [decide_eq_false (fun z=>c (by have:=V.int.inj z;omega)),if_neg Zc];exact ⟨2,by omega,by decide,by decide,fun _=>rfl⟩
    have hcut:cutV [V.str "on",V.str "off",V.str "wish"] none (some ((2:Int) + r7 * (if decide (V.int (j:Int)=V.int 0)=true then 1 else 0)))=(vals3.take nn).map V.str:=by
     rw [hnn,cut_takeN (by show nn≤3;exact nn3),List.map_take];rfl
    rw [hcut];have j2:j < 2:=by omega
    have B17:∀ b o,H15 b=some o→b≠p→H17 b=some o:=fun b o e n=>by rw [k17 b n];exact u6 _ _ e
    have u7:=Same.new (o:=HO.lst ((vals3.take nn).map V.str)) hl9;have w7:(upd H17 l9 (.lst ((vals3.take nn).map V.str))) l9=some (.lst ((vals3.take nn).map V.str)):=zA1;have S18:=S17.up u7;have nl9:l9≠p∧l9≠lfl∧l9≠lg:=⟨S17.nw hl9,(zA7 (B17 _ _ h15 nfl.1) hl9).symm,(zA7 (B17 _ _ (g15 _ _ (g14 _ _ h10 nlg) nlg nfl.2.1.symm) nlg) hl9).symm⟩;have Bn:∀ {Hy:Hp},(∀ b o,H17 b=some o→Hy b=some o)→ButS p H Hy:=fun s b o e n=>s _ _ (B17 _ _ (g15 _ _ (g14 _ _ (g10 _ _ (B9 _ _ e n) n (zA7 e flg)) n) n (zA7 e F1)) n);have F9:H l9=none:=fresh (Bn fun _ _ e=>e) S17 hl9;generalize upd H17 l9 (.lst ((vals3.take nn).map V.str))=H18 at u7 w7 S18 ⊢;have h18:=u7 _ _ (B17 _ _ h15 nfl.1);have t18:=u7 _ _ (B17 _ _ (g15 _ _ t14 nlt.1 nlt.2) nlt.1);have hnm:=told_at (b:=b) j2;generalize hnmD:(told b).getD j "" = nm at hnm;have fzl:fz.length≤2:=by rw [hf15.length,Z0];have:=Zp j (mkF b n);have:(mkF b n).length=2:=rfl;omega
    refine ⟨_,rfl,.inl ⟨rfl,fz,SqL.of h18⟩,_,rfl,_,rfl,lt,_,((j:Nat):Int),_,rfl,rfl,SqL.of t18,zB5 hnm,_,rfl,small 2 (by decide),fun tr htr=>⟨lfl,fz,.ref tr,rfl,rfl,(Same.new htr) _ _ h18,small1000 (by omega),?_⟩⟩;have ntr:tr≠p∧tr≠lfl∧tr≠lg:=⟨S18.nw htr,(zA7 h18 htr).symm,(zA7 (u7 _ _ (B17 _ _ (g15 _ _ (g14 _ _ h10 nlg) nlg nfl.2.1.symm) nlg)) htr).symm⟩;have Ftr:H tr=none:=fresh (Bn u7) S18 htr;have gE:∀ c o,H15 c=some o→c≠p→c≠lfl→(upd (upd H18 tr (.tup [.str nm,.ref l9])) lfl (.lst (fz++[.ref tr]))) c=some o:=fun c o e n1 n2=>by
     rw [zAa n2];exact (Same.new htr) _ _ (u7 _ _ (B17 _ _ e n1))
    refine ⟨_,_,if j=0 then nn else n,fz++[.ref tr],rfl,by split <;> omega,by split <;> omega,fun c o e n1 n2=>gE _ _ (g15 _ _ e n1 n2) n1 n2,?_,zA1,?_⟩
    ·obtain ⟨a',c',j',e',r'⟩:=S18.up (Same.new (o:=HO.tup [.str nm,.ref l9]) htr);exact ⟨a',c',j',by rw [zAa nfl.1.symm];exact e',r'.1,by have:=r'.2;push_cast;omega⟩
    ·have et:=mkF_step (b:=b) (n:=n) (nn:=nn) j2 nnj;rw [hnmD] at et;rw [et,Z6];refine HasAll.snoc (hf15.frame fun c o g e=>⟨g,gE _ _ e (fun z=>hp (z ▸ g.1)) g.2.2⟩) ?_;exact .tup ⟨Ftr,ntr.2.2,ntr.2.1⟩ (by rw [zAa ntr.2.1];exact zA1) (by show 2≤1000;decide) (.cons (sH (by rw [← hnmD];exact (told_ok b).1 _ (told_in j2))) (.cons (.lst ⟨F9,nl9.2.2,nl9.2.1⟩ (by rw [zAa nl9.2.1];exact (Same.new htr) _ _ w7) (by rw [Z0,Zk];omega) (zC8 (vals_ok nn2 nn3).ok)) .nil))
   ·rintro σ H15 ⟨z8,z9,n,fz,rfl,n2,n3,g15,S15,h15,hf15⟩;obtain ⟨fok,fm1,fm2,fm3⟩:=mkF_ok b n2 n3 mle;have fmg:=mkF_g b (n:=n) (m:=m);generalize (mkF b n).take m=fs at hf15 fok fm1 fm2 fm3 fmg;have hg15:H15 lg=some (.lst zs):=g15 _ _ (g14 _ _ h10 nlg) nlg nfl.2.1.symm;have zl:zs.length=i:=by rw [hz10.length,Z0,rl]
    have hz15:HasAll (fun a=>H a=none∧a≠lg) H15 zs (rs.map rowD):=hz10.frame fun c o g e=>⟨g,g15 _ _ (g14 _ _ e fun z=>hp (z ▸ g.1)) (fun z=>hp (z ▸ g.1)) fun z=>by
     rw [z,hlfl] at e
     cases e⟩
    refine ⟨small 1 (by decide),fun l0 hl0=>?_⟩;have u6:=Same.new (o:=HO.lst [.non]) hl0;have w6:(upd H15 l0 (.lst [.non])) l0=some (.lst [.non]):=zA1;generalize upd H15 l0 (.lst [.non])=H16 at u6 w6 ⊢;refine ⟨_,rfl,lg,rfl,⟨_,SqL.of (u6 _ _ hg15)⟩,zAj (xs:=zs) (fun j ys H'=>H'=H16∧ys=(rs.take j).map fun r=>V.str r.name) ⟨rfl,rfl⟩ (fun j ys H' z=>by rw [z.1];exact SqL.of (u6 _ _ hg15)) (fun j ys H' hj z=>?_) ?_ ?_⟩
    ·rw [z.2,Z0];have:=Zp j rs;exact small _ (by omega)
    ·rintro j x ys H' hj ⟨rfl,rfl⟩ N hN;obtain ⟨d,hd,hv⟩:=hz15.get hj;rw [Z4] at hd;cases er:rs[j]? with
     | none=>rw [er] at hd;cases hd
     | some r =>
      rw [er] at hd;cases hd;obtain ⟨tt,lq,rfl,ht',_⟩:=zCx hv;refine pick ⟨_,rfl,tt,_,((0:Nat):Int),_,rfl,rfl,SqT.of (u6 _ _ ht'),zB5 rfl,hN _ _ ⟨rfl,?_⟩⟩;rw [Z5,er,Z6];rfl
    ·rintro ys H' ⟨rfl,rfl⟩ lc hlc;have tke:rs.take zs.length=rs:=List.take_of_length_le (by omega);rw [tke];refine ⟨l0,lc,_,_,rfl,rfl,(Same.new hlc) _ _ w6,zA1,small _ (by rw [Z0];show 1 + rs.length≤1000;omega),fun l3 hl3=>?_⟩;have u7:=u6.trans ((Same.new (o:=HO.lst (rs.map fun r=>V.str r.name)) hlc).trans (Same.new (o:=HO.lst ([V.non]++rs.map fun r=>V.str r.name)) hl3));have w7:(upd (upd H' lc (.lst (rs.map fun r=>V.str r.name))) l3 (.lst ([V.non]++rs.map fun r=>V.str r.name))) l3=some (.lst ([V.non]++rs.map fun r=>V.str r.name)):=zA1;have S17:=S15.up u7;have nl3:l3≠p:=(S15.up (u6.trans (Same.new (o:=HO.lst (rs.map fun r=>V.str r.name)) hlc))).nw hl3;generalize upd (upd H' lc (.lst (rs.map fun r=>V.str r.name))) l3 (.lst ([V.non]++rs.map fun r=>V.str r.name))=H17 at u7 w7 S17 ⊢;refine ⟨_,rfl,_,rfl,_,_,rfl,rfl,p,(i:Int) + 1,_,rfl,S17,by omega,by omega,by omega,fun r8 H18 a8 b8 S18 k18=>?_⟩;obtain ⟨o,hov,hown⟩:∃ o:Option Str,atI ([V.non]++rs.map fun r=>V.str r.name) r8=some (ownV o)∧∀ x,o=some x→∃ (j:Nat) (r':Row),rs[j]? = some r'∧r'.name=x:=by
      obtain ⟨n8,rfl⟩:∃ j:Nat,r8=(j:Int):=⟨r8.toNat,by omega⟩;cases n8 with
      | zero=>exact ⟨none,zB5 (j:=0) rfl,fun x e=>by cases e⟩
      | succ n8 =>
       have lt:n8 < rs.length:=by omega
       refine ⟨some rs[n8].name,zB5 ?_,fun x e=>⟨n8,rs[n8],Z3 lt,Zf e⟩⟩;show ((rs.map fun r=>V.str r.name))[n8]? = _;rw [Z4,Z3 lt];rfl
     refine ⟨l3,_,r8,_,rfl,rfl,SqL.of (by rw [k18 l3 nl3];exact w7),hov,?_⟩;have g18:∀ b o,H15 b=some o→b≠p→H18 b=some o:=fun b o e n=>by rw [k18 b n];exact u7 _ _ e
     have hln18:H18 ln=some (.lst ((nmA bn).map V.str)):=g18 _ _ (g15 _ _ (g14 _ _ (g10 _ _ x9n nln ngn) nln) nln fun z=>by
      have:=g10 _ _ x9n nln ngn;rw [z,hlfl] at this
      cases this) nln
     have hg18:=g18 _ _ hg15 nlg;have h18:=g18 _ _ h15 nfl.1;have hnm:((nmA bn).map V.str)[i]? = some (.str ((nmA bn).getD i "")):=by rw [Z4,names_at (by omega)];rfl
     refine ⟨_,rfl,.inl ⟨rfl,zs,SqL.of hg18⟩,_,rfl,_,rfl,ln,_,((i:Nat):Int),_,rfl,rfl,SqL.of hln18,zB5 hnm,_,rfl,_,rfl,small 3 (by decide),fun tr htr=>⟨lg,zs,.ref tr,rfl,rfl,(Same.new htr) _ _ hg18,small1000 (by omega),?_⟩⟩;have ntr:tr≠p∧tr≠lg:=⟨S18.nw htr,(zA7 hg18 htr).symm⟩;have B18:ButS p H H18:=fun b o e n=>g18 _ _ (g15 _ _ (g14 _ _ (g10 _ _ (B9 _ _ e n) n (zA7 e flg)) n) n (zA7 e F1)) n;have Ftr:H tr=none:=fresh B18 S18 htr;have gE:∀ c o',H15 c=some o'→c≠p→c≠lg→(upd (upd H18 tr (.tup [.str ((nmA bn).getD i ""),.ref lfl,ownV o])) lg (.lst (zs++[.ref tr]))) c=some o':=fun c o' e n1 n2=>by
      rw [zAa n2];exact (Same.new htr) _ _ (g18 _ _ e n1)
     have dI2:=dI.snoc (by omega) (fs:=fs) (o:=o) fok fm2 fm3 fmg hown;rw [rl] at dI2;refine ⟨_,_,_,_,_,rs++[⟨(nmA bn).getD i "",fs,o⟩],zs++[.ref tr],rfl,by rw [Zg,rl];rfl,dI2,fun c o' e n1 n2=>?_,?_,zA1,?_⟩
     ·by_cases c2:c=lfl
      ·have:=g10 _ _ e n1 n2;rw [c2,hlfl] at this;cases this
      ·exact gE _ _ (g15 _ _ (g14 _ _ (g10 _ _ e n1 n2) n1) n1 c2) n1 n2
     ·obtain ⟨a',c',j',e',r'⟩:=S18.up (Same.new (o:=HO.tup [.str ((nmA bn).getD i ""),.ref lfl,ownV o]) htr);exact ⟨a',c',j',by rw [zAa nlg.symm];exact e',r'.1,by have:=r'.2;push_cast;omega⟩
     ·rw [Z6];refine HasAll.snoc (hz15.frame fun c o' g e=>⟨g,gE _ _ e (fun z=>hp (z ▸ g.1)) g.2⟩) ?_;refine .tup ⟨Ftr,ntr.2⟩ (by rw [zAa ntr.2];exact zA1) (by show 3≤1000;decide) (.cons (sH ((nmA_ok bn).1 _ (name_in (by omega)))) (.cons (.lst ⟨F1,nfl.2.1⟩ (by rw [zAa nfl.2.1];exact (Same.new htr) _ _ h18) (by rw [hf15.length,Z0];have:=fok.le;omega) ?_) (.cons (zF6 fun x e=>?_) .nil)))
      ·exact hf15.frame fun c o' g e=>⟨⟨g.1,g.2.1⟩,gE _ _ e (fun z=>hp (z ▸ g.1)) g.2.1⟩
      ·obtain ⟨j',r',e1,e2⟩:=hown x e;rw [← e2];exact (dI.row.ok r' (Z1 e1)).1
  ·rintro σ H10 ⟨y5,y6,y7,y8,y9,rs,zs,rfl,rl,dI,g10,S10,h10,hz10⟩;obtain ⟨o1,o2,o3⟩:=dI.done (by omega) (by omega);exact ⟨_,rfl,q lg rs H10 ⟨.lst flg h10 (by rw [hz10.length,Z0];omega) (hz10.frame fun b o g e=>⟨g.1,e⟩),o1,by omega,o2,o3⟩ (S10.le (by omega)) fun b o e n=>g10 _ _ (B9 _ _ e n) n (zA7 e flg)⟩
end
end L2.W
namespace L2.W
open PySem My
noncomputable def gD (g:Str×List (Option Str)):PyData:=.tuple [.str g.1,.list (g.2.map ownD)]
theorem g_inv {G:Addr→Prop}{H:Hp}{v:V}{g:Str×List (Option Str)} (h:Has G H v (gD g)):∃ a l,v=.ref a∧H a=some (.tup [.str g.1,.ref l])∧H l=some (.lst (g.2.map ownV)):=by
 obtain ⟨a,xs,rfl,_,ha,_,hx⟩:=h.tup_inv;cases hx with
 | cons h1 hx =>
  cases hx with
  | cons h2 hx =>
   cases hx;obtain ⟨rfl,_⟩:=h1.str_inv;obtain ⟨l,ys,rfl,_,hl,_,hy⟩:=h2.list_inv;rw [zEf hy] at hl;exact ⟨a,l,rfl,ha,hl⟩
noncomputable def spLst:Sp:=fun vs H Q _=>∃ (l:Addr) (gs:List (Str×List (Option Str))),vs=[.ref l]∧Has Any H (.ref l) (.list (gs.map gD))∧gs.length≤3∧(∀ f∈gs.map (·.2),0 < f.length∧∀ x∈f,atOk x)∧manyA (gs.map (·.2))≤900 ∧
 ∀ (l:Addr) (H':Hp),Same H H'→H l=none→Has (fun _=>True) H' (.ref l) (picksD (gs.map (·.2)))→Q (.ref l) H'
section
variable {P:Program}{w:World}{K:PySem.W.Frag}{mg:Str→Option Value}{base:Heap}{CX:CXT}
theorem scLs:FnScope ["_law_fields_here", "_law_found", "_law_field", "_law_values", "_law_longer", "_law_some"] ["_law_fields_here"] (defScope sLStates):=⟨rfl,rfl,rfl,by decide +kernel,rfl,by decide +kernel,by decide +kernel⟩
set_option maxHeartbeats 1000000 in
theorem ok_lst {f:Addr}{fd:FuncData} (F:Fun K "_law_states" "_law_states" sLStates f fd):FnOk P w K mg base CX 1 f fd ["_law_fields_here"] spLst:=by
 refine Fun.okC F scLs (fun vs H Q E h=>?_) (fun cdv A outer s H vs Q E hr h=>?_)
 ·obtain ⟨l,gs,rfl,_⟩:=h;rfl
 ·obtain ⟨l,gs,rfl,hf,le3',okf,many,q⟩:=h;obtain ⟨fs,hfs⟩:∃ fs,fs=gs.map (·.2):=⟨_,rfl⟩;have le3:fs.length≤3:=by rw [hfs,Z0];exact le3'
  rw [← hfs] at okf many q;have nd:=scLs.nd
  refine ⟨_,zA3 (zAi (i:=1) nd rfl (Or.inl rfl) (zAm (zA0 (zBc zA2) zA2)))
     (zA3 (zBt PassesOwn.never rfl (zAk (pv 0)) (zC6 rfl (zAe (zA8 (i:=2) nd rfl (Or.inl rfl)) (zAe (zA8 (i:=3) nd rfl (Or.inl rfl)) zB2)))
     (zA3 (zAi (i:=4) nd rfl (Or.inl rfl) (zAm zA2))
     (zA3 (zBt PassesOwn.never rfl (zAk (pv 1)) (zA8 (i:=5) nd rfl (Or.inr rfl))
     (zA5 (zBj (zEi PySem.F.plainAttrs_list PySem.F.slot_list_extend PySem.F.type_list_extend mt_extend (pv 4) (zA0 (zB0 (T:=["_law_value_here"]) rfl ScOk.auto (zAk (pv 3)) (fun _ _ _ _=>zA8 (i:=6) (by decide +kernel:(["_law_fields_here", "_law_found", "_law_field", "_law_values", "_law_longer", "_law_some", "_law_value_here"]:List Str).Nodup) rfl (Or.inl rfl)) (fun _ _ _ _=>zB7) (fun _ _ _ _=>(zAv (zE0 (K:=K) rfl) (pv 5) (zBc (zA0 (pv 6) zA2))))) zA2)))))
     (zA5 (zAi (i:=1) nd rfl (Or.inl rfl) (pv 4))))))
     (zA5 (zA9 (pv 1)))),?_⟩
  have small:∀ n:Nat,n≤1000→n≤sizeLine:=fun n h=>Zn (small1000 h);have okv:∀ f∈fs,∀ x∈f,atOk x:=fun f hf=>(okf f hf).2;have pos:∀ f∈fs,0 < f.length:=fun f hf=>(okf f hf).1;obtain ⟨a,xs,e,_,ha,hz,hx⟩:=hf.list_inv;cases e;refine ⟨by show 0≤sizeLine;exact Zj _,fun t0 ht0=>⟨by show 1≤sizeLine;exact small 1 (by decide),fun f0 hf0=>?_⟩⟩;have s0:Same H (upd (upd H t0 (.tup [])) f0 (.lst [.ref t0])):=(Same.new ht0).trans (Same.new hf0);have h0:Has (fun _=>True) (upd (upd H t0 (.tup [])) f0 (.lst [.ref t0])) (.ref f0) (picksD (fs.take 0)):=.lst trivial zA1 (by show 1≤1000;decide) (.cons (.tup trivial ((Same.new hf0) _ _ zA1) (by show 0≤1000;decide) .nil) .nil);have n0:H f0=none:=(Same.new ht0).free hf0;generalize upd (upd H t0 (.tup [])) f0 (.lst [.ref t0])=H0 at s0 h0 ⊢
  refine ⟨_,rfl,l,rfl,⟨xs,SqL.of (s0 _ _ ha)⟩,zBs (K:=K) (a:=l) (xs:=xs)
   (fun i σ H2=>∃ u0 u v x fl,σ = [some (.ref l),some (.ref fl),u0,u,v,x]∧Same H H2∧H fl=none∧Has (fun _=>True) H2 (.ref fl) (picksD (fs.take i))) ⟨none,none,none,none,f0,rfl,s0,n0,h0⟩ (fun i σ H2 _ ⟨_,_,_,_,_,_,s2,_⟩=>SqL.of (s2 _ _ ha)) ?_ ?_⟩
  ·rintro i x σ H2 hi ⟨u0,u,v,xo,fl,rfl,s2,nf,hst⟩;obtain ⟨d,hd,hv⟩:=hx.get hi;rw [Z4] at hd;cases eg:gs[i]? with
   | none=>rw [eg] at hd;cases hd
   | some g =>
    rw [eg] at hd;cases hd;obtain ⟨f,hfg⟩:∃ f,f=g.2:=⟨_,rfl⟩;have ef:fs[i]? = some f:=by rw [hfs,Z4,eg,hfg];rfl
    have efs:fs.take (i + 1)=fs.take i++[f]:=by rw [Z5,ef];rfl
    have hmf:=Z1 ef;obtain ⟨tt,l2,rfl,htt,hl2⟩:=g_inv hv;rw [← hfg] at hl2;refine ⟨tt,_,rfl,SqT.of (s2 _ _ htt),rfl,_,_,rfl,_,_,rfl,rfl,?_⟩;refine ⟨by show 0≤sizeLine;exact Zj _,fun lo hlo=>?_⟩;have s3:Same H2 (upd H2 lo (.lst [])):=Same.new hlo;have e3:(upd H2 lo (.lst [])) lo=some (.lst []):=zA1;obtain ⟨c,ss,ec,_,hc,hcz,hss⟩:=hst.list_inv;cases ec;have lss:ss.length=manyA (fs.take i):=by rw [hss.length,Z0,zBm]
    have mle:manyA (fs.take i)≤900:=Zm (zF9 fs pos i) many;have mle2:manyA (fs.take i) * f.length≤900:=by rw [← zEp,← efs];exact Zm (zF9 fs pos (i + 1)) many
    refine ⟨_,rfl,fl,rfl,⟨ss,SqL.of (s3 _ _ hc)⟩,zBs (K:=K) (a:=fl) (xs:=ss)
     (fun j σ H4=>∃ x' zs,σ = [some (.ref l),some (.ref fl),some (.str g.1),some (.ref l2),some (.ref lo),x']∧Same H2 H4∧H4 lo=some (.lst zs)∧HasAll (fun a=>a≠lo) H4 zs ((stepA ((allA (fs.take i)).take j) f).map tupA)) ⟨_,[],rfl,s3,e3,.nil⟩ (fun j σ H4 _ ⟨_,_,_,s4,_⟩=>SqL.of (s4 _ _ hc)) ?_ ?_⟩
    ·rintro j y σ H4 hj ⟨x',zs,rfl,s4,h4,hz4⟩;obtain ⟨d,hd,hy⟩:=hss.get hj;rw [Z4] at hd;cases es:(allA (fs.take i))[j]? with
     | none=>rw [es] at hd;cases hd
     | some st =>
      rw [es] at hd;cases hd;obtain ⟨ya,rfl,_,hya⟩:=tupA_inv hy;obtain ⟨stl,sto⟩:=zFg (fs:=fs.take i) (fun f hf=>okv f (Yc hf)) st (Z1 es);have stl3:st.length≤3:=by
       have:=Zp i fs;have:=le3;omega
      have jlt:j < manyA (fs.take i):=by
       have:=(List.getElem?_eq_some_iff.mp es).1
       rwa [zBm] at this
      have lzs:zs.length=j * f.length:=by
       rw [hz4.length,Z0,stepA_len,Zk,zBm,Nat.min_eq_left (Zn jlt)]
      have lz9:zs.length + f.length≤900:=by
       have h1:(j + 1) * f.length≤manyA (fs.take i) * f.length:=Nat.mul_le_mul_right _ jlt;rw [Yj] at h1;omega
      refine ⟨_,rfl,.inl ⟨rfl,zs,SqL.of h4⟩,_,rfl,l2,rfl,⟨_,SqL.of (s4 _ _ (s2 _ _ hl2))⟩,zAj (xs:=f.map ownV)
       (fun k ys H5=>Same H4 H5∧HasAll (fun a=>a≠lo) H5 ys ((f.take k).map fun v=>tupA (st++[v]))) ⟨Same.refl _,.nil⟩ (fun k ys H5 z=>SqL.of (z.1 _ _ (s4 _ _ (s2 _ _ hl2)))) (fun k ys H5 hk z=>?_) ?_ ?_⟩
      ·have:=z.2.length;rw [Z0] at this;have:=Zp k f;exact small _ (by omega)
      ·rintro k w ys H5 hk ⟨s5,hys⟩ N hN;rw [Z4] at hk;cases ew:f[k]? with
       | none=>rw [ew] at hk;cases hk
       | some v =>
        rw [ew] at hk;cases hk;refine pick ?_;refine ⟨_,rfl,_,rfl,by show 1≤sizeLine;exact small 1 (by decide),fun t1 ht1=>?_⟩;refine cat2_by (K:=K) (xs:=st.map ownV) (ys:=[ownV v]) ((Same.new ht1) _ _ (s5 _ _ (s4 _ _ hya))) zA1 (by rw [Z0];exact small _ (by simp;omega)) fun p' H6 s6 h6=>hN _ _ ⟨(s5.trans (Same.new ht1)).trans s6,?_⟩;rw [Z5,ew,Z6];have hlo6:H6 lo=some (.lst zs):=s6 _ _ ((Same.new ht1) _ _ (s5 _ _ h4));refine HasAll.snoc (hys.mono ((Same.new ht1).trans s6)) (tupA_has (fun z=>?_) (by rw [h6,Z6];rfl) (by simp;omega) fun x hx=>?_)
        ·rw [z,hlo6] at h6;cases h6
        ·rcases List.mem_append.mp hx with hx | hx
         ·exact sto x hx
         ·have:x=v:=by simpa using hx
          subst this;exact okv f hmf _ (Z1 ew)
      ·rintro ys H5 ⟨s5,hys⟩ r hr';rw [Z0,Zb] at hys;have lys:ys.length=f.length:=by rw [hys.length,Z0]
       have nr:r≠lo:=(zA7 (s5 _ _ h4) hr').symm;refine ⟨lo,r,zs,ys,rfl,rfl,(Same.new hr') _ _ (s5 _ _ h4),zA1,small _ (by omega),⟨_,zs++ys,rfl,fun b' o' e'=>?_,zA1,?_⟩⟩
       ·rw [zAa (zA7 e' hlo)];exact (Same.new hr') _ _ (s5 _ _ (s4 _ _ e'))
       ·have eq:stepA ((allA (fs.take i)).take (j + 1)) f=stepA ((allA (fs.take i)).take j) f++f.map fun v=>st++[v]:=by
         rw [Z5,es];unfold stepA;rw [List.flatMap_append];simp
        rw [eq,Z6,Zq];refine HasAll.append ((hz4.mono (s5.trans (Same.new hr'))).frame fun b' o' g' e'=>⟨g',by rw [zAa g'];exact e'⟩) ((hys.mono (Same.new hr')).frame fun b' o' g' e'=>⟨g',by rw [zAa g'];exact e'⟩)
    ·rintro σ H4 ⟨x',zs,rfl,s4,h4,hz4⟩;have eq:(allA (fs.take i)).take ss.length=allA (fs.take i):=by rw [lss,← zBm,Zb]
     rw [eq,← zEh,← efs] at hz4;have lzs:zs.length≤1000:=by
      rw [hz4.length,Z0,zBm];have:=zF9 fs pos (i + 1);have:=many;omega
     exact ⟨_,rfl,_,_,_,_,lo,rfl,s2.trans s4,s2.free hlo,.lst trivial h4 lzs hz4.any⟩
  ·rintro σ H2 ⟨u0,u,v,xo,fl,rfl,s2,nf,hst⟩;have e:xs.length=fs.length:=by rw [hx.length,Z0,hfs,Z0]
   rw [e,Zb] at hst;exact ⟨_,rfl,q fl H2 s2 nf hst⟩
end
end L2.W
namespace L2.W
open PySem My
noncomputable def fieldsO (rs:List Row):Option Str→List (Str×List Str)
 | none=>[]
 | some n=>fieldsOf rs n
noncomputable def spLFl:Sp:=fun vs H Q _=>∃ (G:Addr→Prop) (l:Addr) (rs:List Row) (o:Option Str),vs=[.ref l,ownV o]∧Has G H (.ref l) (.list (rs.map rowD))∧RowsP rs ∧
 ∀ lf H',Same H H'→Has (fun a=>G a∨H a=none) H' (.ref lf) (.list ((fieldsO rs o).map fieldD))→Q (.ref lf) H'
noncomputable def spLOw:Sp:=fun vs H Q _=>∃ (l:Addr) (rs:List Row) (r:Row),vs=[.ref l,.str r.name]∧Has Any H (.ref l) (.list (rs.map rowD))∧RowsP rs∧r∈rs∧∀ H',Same H H'→Q (ownV r.owner) H'
theorem name_opt {n:Str}{o:Option Str}:decide (V.str n=ownV o)=decide (o=some n):=by
 cases o with
 | none=>rfl
 | some x =>
  show decide (V.str n=V.str x)=decide (some x=some n);rw [Y4,decide_eq_true_eq,decide_eq_true_eq];simp [eq_comm]
section
variable {P:Program}{w:World}{K:PySem.W.Frag}{mg:Str→Option Value}{base:Heap}{CX:CXT}
theorem scLF:FnScope ["_law_spec", "_law_kind"] ["_law_spec", "_law_kind"] (defScope sLFields):=⟨rfl,rfl,rfl,by decide +kernel,rfl,by decide +kernel,by decide +kernel⟩
theorem ok_lFl {f:Addr}{fd:FuncData} (F:Fun K "_law_fields" "_law_fields" sLFields f fd):FnOk P w K mg base CX 1 f fd ["_law_spec", "_law_kind"] spLFl:=by
 refine Fun.okC F scLF (fun vs H Q E h=>?_) (fun cdv A outer s H vs Q E hr h=>?_)
 ·obtain ⟨G,l,rs,o,rfl,_⟩:=h;rfl
 ·obtain ⟨G,l,rs,o,rfl,hd,rp,q⟩:=h;have nd:=scLF.nd;refine ⟨_,zA5 (zA9 (zAf zAr (zAv zEo (zB0 (T:=["_law_name", "_law_fields_here", "_law_owner_here"]) rfl ScOk.auto (zAk (pv 0)) (fun _ _ _ _=>zBu (K:=K) (n:=3) rfl rfl (zAe (zA8 (i:=2) (by decide +kernel:(["_law_spec", "_law_kind", "_law_name", "_law_fields_here", "_law_owner_here"]:List Str).Nodup) rfl (Or.inl rfl)) (zAe (zA8 (i:=3) (by decide +kernel:(["_law_spec", "_law_kind", "_law_name", "_law_fields_here", "_law_owner_here"]:List Str).Nodup) rfl (Or.inl rfl)) (zAe (zA8 (i:=4) (by decide +kernel:(["_law_spec", "_law_kind", "_law_name", "_law_fields_here", "_law_owner_here"]:List Str).Nodup) rfl (Or.inl rfl)) zB2)))) (fun _ _ _ _=>zDl (zAg zBa (pv 2) (pv 1) (nomark _))) (fun _ _ _ _=>(pv 3))) (zAm (zA0 (zAm zA2) zA2))) zA4 (fun _ _=>rfl))),?_⟩;have small:∀ n:Nat,n≤1000→n≤sizeLine:=fun n h=>Zn (small1000 h);obtain ⟨l',xs,e,_,hl,hz,hx⟩:=hd.list_inv;cases e;have xl:xs.length=rs.length:=by rw [hx.length,Z0]
  have l5:=rp.le.2;refine ⟨_,rfl,l,rfl,⟨_,SqL.of hl⟩,zAj (xs:=xs) (fun i ys H'=>H'=H∧ys.length≤i∧((ys=[]∧∀ r∈rs.take i,o≠some r.name)∨∃ lf rest r,ys=.ref lf :: rest∧r∈rs∧o=some r.name∧Has G H (.ref lf) (.list (r.fields.map fieldD)))) ⟨rfl,Z7 _,.inl ⟨rfl,fun r h=>by simp at h⟩⟩ (fun i ys H' z=>by rw [z.1];exact SqL.of hl) (fun i ys H' hi z=>?_) ?_ ?_⟩
  ·have:=z.2.1;exact small _ (by omega)
  ·rintro i x ys H' hi ⟨rfl,yl,hy⟩ N hN;obtain ⟨d,hd',hv⟩:=hx.get hi;rw [Z4] at hd';cases er:rs[i]? with
   | none=>rw [er] at hd';cases hd'
   | some r =>
    rw [er] at hd';cases hd';obtain ⟨t,lf,rfl,ht,hf⟩:=zCx hv;refine ⟨t,_,rfl,SqT.of ht,rfl,_,_,rfl,_,_,rfl,_,_,rfl,rfl,?_⟩;refine ⟨_,rfl,_,rfl,by cases o <;> rfl,_,rfl,?_⟩;rw [name_opt];refine ite2 (fun c=>?_) (fun c=>?_)
    ·refine ⟨_,rfl,hN _ _ ⟨rfl,by rw [Zg,List.length_singleton];omega,.inr ?_⟩⟩;rcases hy with ⟨rfl,_⟩ | ⟨lf2,rest,r2,rfl,a,b,c2⟩
     ·exact ⟨lf,[],r,rfl,Z1 er,of_decide_eq_true c,hf⟩
     ·exact ⟨lf2,rest++[.ref lf],r2,rfl,a,b,c2⟩
    ·refine hN _ _ ⟨rfl,by omega,?_⟩;rcases hy with ⟨rfl,h⟩ | h
     ·refine .inl ⟨rfl,fun r2 h2=>?_⟩;rw [Z5,er] at h2;rcases List.mem_append.mp h2 with h2 | h2
      ·exact h r2 h2
      ·have:r2=r:=by simpa using h2
       subst this;exact fun z=>c (decide_eq_true z)
     ·exact .inr h
  ·rintro ys H' ⟨rfl,yl,hy⟩ lc hlc;have s1:Same H' (upd H' lc (.lst ys)):=Same.new hlc;have e1:(upd H' lc (.lst ys)) lc=some (.lst ys):=zA1;generalize upd H' lc (.lst ys)=H1 at s1 e1 ⊢;refine ⟨Zj _,fun l2 hl2=>⟨small 1 (by decide),fun l3 hl3=>?_⟩⟩;have s2:Same H1 (upd H1 l2 (.lst [])):=Same.new hl2;have s3:Same (upd H1 l2 (.lst [])) (upd (upd H1 l2 (.lst [])) l3 (.lst [.ref l2])):=Same.new hl3;have e2:=s3 _ _ (zA1 (H:=H1) (a:=l2) (o:=.lst []));have e3:(upd (upd H1 l2 (.lst [])) l3 (.lst [.ref l2])) l3=some (.lst [.ref l2]):=zA1;have s23:=s2.trans s3;generalize upd (upd H1 l2 (.lst [])) l3 (.lst [.ref l2])=H3 at e2 e3 s23 ⊢;refine ⟨lc,l3,_,_,rfl,rfl,s23 _ _ e1,e3,small _ (by simp;omega),fun l4 hl4=>?_⟩;have s4:Same H3 (upd H3 l4 (.lst (ys++[.ref l2]))):=Same.new hl4;have e4:(upd H3 l4 (.lst (ys++[.ref l2]))) l4=some (.lst (ys++[.ref l2])):=zA1;generalize upd H3 l4 (.lst (ys++[.ref l2]))=H4 at s4 e4 ⊢;have S:=(s1.trans s23).trans s4;rw [xl,Zb] at hy;rcases hy with ⟨rfl,h⟩ | ⟨lf,rest,r,rfl,hr,ho,hf⟩
   ·refine ⟨l4,_,0,.ref l2,rfl,rfl,SqL.of e4,rfl,q l2 H4 S ?_⟩;have ef:fieldsO rs o=[]:=by
     cases o with
     | none=>rfl
     | some n =>
      show fieldsOf rs n=[];unfold fieldsOf;rw [List.find?_eq_none.mpr fun r hr z=>h r hr (by rw [of_decide_eq_true z])];rfl
    rw [ef];exact .lst (.inr (s1.free hl2)) (s4 _ _ e2) (by show 0≤1000;decide) .nil
   ·refine ⟨l4,_,_,.ref lf,rfl,rfl,SqL.of e4,zB5 (j:=0) rfl,q lf H4 S ?_⟩;subst ho;rw [show fieldsO rs (some r.name)=r.fields from zB4 rp hr];exact hf.frame fun a o g e=>⟨.inl g,S _ _ e⟩
theorem scLO:FnScope ["_law_spec", "_law_kind"] ["_law_spec", "_law_kind"] (defScope sOwner):=⟨rfl,rfl,rfl,by decide +kernel,rfl,by decide +kernel,by decide +kernel⟩
theorem ok_lOw {f:Addr}{fd:FuncData} (F:Fun K "_law_owner" "_law_owner" sOwner f fd):FnOk P w K mg base CX 1 f fd ["_law_spec", "_law_kind"] spLOw:=by
 refine Fun.okC F scLO (fun vs H Q E h=>?_) (fun cdv A outer s H vs Q E hr h=>?_)
 ·obtain ⟨l,rs,r,rfl,_⟩:=h;rfl
 ·obtain ⟨l,rs,r0,rfl,hd,rp,hr0,q⟩:=h;have nd:=scLO.nd;refine ⟨_,zA5 (zA9 (zAf zAr (zB0 (T:=["_law_name", "_law_fields_here", "_law_owner_here"]) rfl ScOk.auto (zAk (pv 0)) (fun _ _ _ _=>zBu (K:=K) (n:=3) rfl rfl (zAe (zA8 (i:=2) (by decide +kernel:(["_law_spec", "_law_kind", "_law_name", "_law_fields_here", "_law_owner_here"]:List Str).Nodup) rfl (Or.inl rfl)) (zAe (zA8 (i:=3) (by decide +kernel:(["_law_spec", "_law_kind", "_law_name", "_law_fields_here", "_law_owner_here"]:List Str).Nodup) rfl (Or.inl rfl)) (zAe (zA8 (i:=4) (by decide +kernel:(["_law_spec", "_law_kind", "_law_name", "_law_fields_here", "_law_owner_here"]:List Str).Nodup) rfl (Or.inl rfl)) zB2)))) (fun _ _ _ _=>zDl (zAg zBa (pv 2) (pv 1) (nomark _))) (fun _ _ _ _=>(pv 4))) zA4 (fun _ _=>rfl))),?_⟩;have small:∀ n:Nat,n≤1000→n≤sizeLine:=fun n h=>Zn (small1000 h);obtain ⟨l',xs,e,_,hl,hz,hx⟩:=hd.list_inv;cases e;have xl:xs.length=rs.length:=by rw [hx.length,Z0]
  have l5:=rp.le.2;refine ⟨_,rfl,l,rfl,⟨_,SqL.of hl⟩,zAj (xs:=xs) (fun i ys H'=>H'=H∧ys=((rs.take i).filter fun r=>decide (r.name=r0.name)).map fun r=>ownV r.owner) ⟨rfl,rfl⟩ (fun i ys H' z=>by rw [z.1];exact SqL.of hl) (fun i ys H' hi z=>?_) ?_ ?_⟩
  ·rw [z.2,Z0];have:=List.length_filter_le (fun r=>decide (r.name=r0.name)) (rs.take i);have:=Zp i rs;exact small _ (by omega)
  ·rintro i x ys H' hi ⟨rfl,rfl⟩ N hN;obtain ⟨d,hd',hv⟩:=hx.get hi;rw [Z4] at hd';cases er:rs[i]? with
   | none=>rw [er] at hd';cases hd'
   | some r =>
    rw [er] at hd';cases hd';obtain ⟨t,lf,rfl,ht,hf⟩:=zCx hv;refine ⟨t,_,rfl,SqT.of ht,rfl,_,_,rfl,_,_,rfl,_,_,rfl,rfl,?_⟩;refine ⟨_,rfl,_,rfl,rfl,_,rfl,?_⟩;rw [show decide (V.str r.name=V.str r0.name)=decide (r.name=r0.name) by simp];refine ite2 (fun c=>⟨_,rfl,hN _ _ ⟨rfl,?_⟩⟩) (fun c=>hN _ _ ⟨rfl,?_⟩)
    ·rw [Z5,er,Ya];simp [of_decide_eq_true c]
    ·rw [Z5,er,Ya];simp at c;simp [c]
  ·rintro ys H' ⟨rfl,rfl⟩ lc hlc;rw [xl,Zb];cases ef:rs.filter fun r=>decide (r.name=r0.name) with
   | nil=>exact absurd (List.mem_filter.mpr ⟨hr0,decide_eq_true rfl⟩) (by rw [ef];simp)
   | cons a r2 =>
    have ha:=List.mem_filter.mp (show a∈rs.filter fun r=>decide (r.name=r0.name) by rw [ef];exact Zl);have:=rp.one ha.1 hr0 (of_decide_eq_true ha.2);subst this;exact ⟨lc,_,_,_,rfl,rfl,SqL.of zA1,zB5 (j:=0) rfl,q _ (Same.new hlc)⟩
end
end L2.W
namespace L2.W
open PySem My
noncomputable def gst (fs:List (Str×List Str)):List (Str×List (Option Str)):=fs.map fun f=>(f.1,f.2.map some)
noncomputable def gwi (fs:List (Str×List Str)):List (Str×List (Option Str)):=fs.map fun f=>(f.1,none :: f.2.map some)
theorem gst2 (fs:List (Str×List Str)):(gst fs).map (·.2)=stA fs:=by unfold gst stA;rw [Zq];rfl
theorem gwi2 (fs:List (Str×List Str)):(gwi fs).map (·.2)=wiA fs:=by unfold gwi wiA;rw [Zq];rfl
theorem gstD (fs:List (Str×List Str)):(gst fs).map gD=fs.map fieldD:=by
 unfold gst;rw [Zq];refine List.map_congr_left fun f _=>?_;show gD (f.1,f.2.map some)=fieldD f;unfold gD fieldD;rw [someD]
theorem st_good {fs:List (Str×List Str)} (ok:FieldsOk fs):(gst fs).length≤3∧(∀ f∈(gst fs).map (·.2),0 < f.length∧∀ x∈f,atOk x)∧manyA ((gst fs).map (·.2))≤900:=by
 refine ⟨by unfold gst;rw [Z0];exact ok.le,fun f hf=>?_,by rw [gst2,zDr];have:=ok.many;omega⟩;rw [gst2] at hf;unfold stA at hf;obtain ⟨g,hg,rfl⟩:=List.mem_map.mp hf;refine ⟨by rw [Z0];exact (ok.ok g hg).2.ne,fun x hx y e=>?_⟩;subst e;obtain ⟨z,hz,e⟩:=List.mem_map.mp hx;exact (Zf e) ▸ (ok.ok g hg).2.ok z hz
theorem wi_good {fs:List (Str×List Str)} (ok:FieldsOk fs):(gwi fs).length≤3∧(∀ f∈(gwi fs).map (·.2),0 < f.length∧∀ x∈f,atOk x)∧manyA ((gwi fs).map (·.2))≤900:=by
 refine ⟨by unfold gwi;rw [Z0];exact ok.le,fun f hf=>?_,by rw [gwi2];have:=wi_le ok;omega⟩;rw [gwi2] at hf;unfold wiA at hf;obtain ⟨g,hg,rfl⟩:=List.mem_map.mp hf;refine ⟨by simp,fun x hx y e=>?_⟩;subst e;rcases List.mem_cons.mp hx with e | hx
 ·cases e
 ·obtain ⟨z,hz,e⟩:=List.mem_map.mp hx;exact (Zf e) ▸ (ok.ok g hg).2.ok z hz
theorem k_ownA {R F:Addr→Hp→Prop}{B:Prop} (t:∀ l Hx,F l Hx→R l Hx) (h:(∀ l Hx,F l Hx→R l Hx)→B):B:=h t
noncomputable def TupG (H:Hp):Addr→Prop:=fun a=>∃ ys,H a=some (.tup ys)
theorem zEx {H H':Hp}{xs:List V}{ds:List PyData} (h:HasAll (TupG H) H xs ds) (k:∀ b ys,H b=some (.tup ys)→H' b=some (.tup ys)):HasAll (TupG H') H' xs ds:=h.frame fun b o ⟨ys,g⟩ e=>by
 rw [g] at e;cases e;exact ⟨⟨_,k _ _ g⟩,k _ _ g⟩
noncomputable def spLSit:Sp:=fun vs H Q _=>∃ (l:Addr) (rs:List Row) (r:Row),vs=[.ref l,.str r.name]∧Has Any H (.ref l) (.list (rs.map rowD))∧RowsP rs∧r∈rs∧(sitsOf rs r).length≤1000 ∧
 ∀ (lo:Addr) (ys:List V) (H':Hp),Same H H'→H lo=none→H' lo=some (.lst ys)→HasAll (TupG H') H' ys (sitsOf rs r)→Q (.ref lo) H'
noncomputable def ButL (l:Addr) (H H':Hp):Prop:=∀ b o,H b=some o→b≠l→H' b=some o
theorem ButL.tup {l:Addr}{H H':Hp}{xs:List V} (b:ButL l H H') (h:H l=some (.lst xs)):∀ c ys,H c=some (.tup ys)→H' c=some (.tup ys):=fun c ys e=>b _ _ e (by rintro rfl;rw [h] at e;cases e)
section
variable {P:Program}{w:World}{K:PySem.W.Frag}{mg:Str→Option Value}{base:Heap}{CX:CXT}
theorem scLsi:FnScope ["_law_spec", "_law_kind", "_law_owner_here", "_law_owners", "_law_fields_here", "_law_found", "_law_wished", "_law_one"] ["_law_spec", "_law_kind"] (defScope sLSits):=⟨rfl,rfl,rfl,by decide +kernel,rfl,by decide +kernel,by decide +kernel⟩
theorem ok_lsits {f fo fl ff:Addr}{fd fdo fdl fdf:FuncData} (hC:Calm CX) (F:Fun K "_law_situations" "_law_situations" sLSits f fd) (DO:Def K mg "_law_owner" sOwner ["_law_spec", "_law_kind"] fo fdo) (GO:FnOk P w K mg base CX 1 fo fdo ["_law_spec", "_law_kind"] spLOw)
  (DL:Def K mg "_law_states" sLStates ["_law_fields_here"] fl fdl) (GL:FnOk P w K mg base CX 1 fl fdl ["_law_fields_here"] spLst) (DF:Def K mg "_law_fields" sLFields ["_law_spec", "_law_kind"] ff fdf) (GF:FnOk P w K mg base CX 1 ff fdf ["_law_spec", "_law_kind"] spLFl):FnOk P w K mg base CX 2 f fd ["_law_spec", "_law_kind"] spLSit:=by
 refine Fun.okC F scLsi (fun vs H Q E h=>?_) (fun cdv A outer s H vs Q E hr h=>?_)
 ·obtain ⟨l,rs,r,rfl,_⟩:=h;rfl
 ·obtain ⟨l,rs,r,rfl,hl,rp,mr,small9,k⟩:=h;have nd:=scLsi.nd
  refine ⟨_,zA3 (zAi (i:=2) nd rfl (Or.inl rfl) (zA6 GO hr rfl DO.at_ DO.fn.kp DO.bind .nil (passC hC) (zA0 (pv 0) (zA0 (pv 1) zA2))))
     (zA3 (zAi (i:=3) nd rfl (Or.inl rfl) (zAm (zA0 zBd zA2)))
     (zA3 (zAn (zB6 (zC3 (pv 2)))
     (zA5 (zAi (i:=3) nd rfl (Or.inl rfl) (zA6 GL hr rfl DL.at_ DL.fn.kp DL.bind .nil (passC hC) (zA0 (zA6 GF hr rfl DF.at_ DF.fn.kp DF.bind .nil (passC hC) (zA0 (pv 0) (zA0 (pv 2) zA2))) zA2)))) zAb)
     (zA3 (zAi (i:=4) nd rfl (Or.inl rfl) (zA6 GF hr rfl DF.at_ DF.fn.kp DF.bind .nil (passC hC) (zA0 (pv 0) (zA0 (pv 1) zA2))))
     (zA3 (zAi (i:=5) nd rfl (Or.inl rfl) (zAm zA2))
     (zA3 (zBt PassesOwn.never rfl (zAk (zAv zEo (zAm (zA0 zBd zA2)) (zA6 GL hr rfl DL.at_ DL.fn.kp DL.bind .nil (passC hC) (zA0 (zB0 (T:=["_law_field", "_law_values"]) rfl ScOk.auto (zAk (pv 4)) (fun _ _ _ _=>zBu (K:=K) (n:=2) rfl rfl (zAe (zA8 (i:=8) (by decide +kernel:(["_law_spec", "_law_kind", "_law_owner_here", "_law_owners", "_law_fields_here", "_law_found", "_law_wished", "_law_one", "_law_field", "_law_values"]:List Str).Nodup) rfl (Or.inl rfl)) (zAe (zA8 (i:=9) (by decide +kernel:(["_law_spec", "_law_kind", "_law_owner_here", "_law_owners", "_law_fields_here", "_law_found", "_law_wished", "_law_one", "_law_field", "_law_values"]:List Str).Nodup) rfl (Or.inl rfl)) zB2))) (fun _ _ _ _=>zB7) (fun _ _ _ _=>(zBc (zA0 (pv 8) (zA0 (zAv zEo (zAm (zA0 zBd zA2)) (pv 9)) zA2))))) zA2)))) (zA8 (i:=6) nd rfl (Or.inr rfl))
     (zA5 (zBt PassesOwn.never rfl (zAk (pv 3)) (zA8 (i:=7) nd rfl (Or.inr rfl))
     (zA5 (zBj (zEi PySem.F.plainAttrs_list PySem.F.slot_list_extend PySem.F.type_list_extend mt_extend (pv 5) (zA0 (zB0 (T:=["_law_state"]) rfl ScOk.auto (zAk (zAv zEo (zAm (zA0 zBd zA2)) (zA6 GL hr rfl DL.at_ DL.fn.kp DL.bind .nil (passC hC) (zA0 (pv 4) zA2)))) (fun _ _ _ _=>zA8 (i:=8) (by decide +kernel:(["_law_spec", "_law_kind", "_law_owner_here", "_law_owners", "_law_fields_here", "_law_found", "_law_wished", "_law_one", "_law_state"]:List Str).Nodup) rfl (Or.inl rfl)) (fun _ _ _ _=>zB7) (fun _ _ _ _=>(zBc (zA0 (pv 1) (zA0 (pv 6) (zA0 (pv 7) (zA0 (pv 8) zA2))))))) zA2)))))))
     (zA5 (zA9 (pv 5)))))))),?_⟩
  have small:∀ n:Nat,n≤1000→n≤sizeLine:=fun n h=>Zn (small1000 h);have okr:=rp.ok r mr;refine ⟨_,rfl,_,rfl,l,rs,r,rfl,hl,rp,mr,fun H1 s1=>?_⟩;refine ⟨by show 1≤sizeLine;exact small 1 (by decide),fun l1 hl1'=>?_⟩;have s4:Same H (upd H1 l1 (.lst [.non])):=s1.trans (Same.new hl1');have e4:(upd H1 l1 (.lst [.non])) l1=some (.lst [.non]):=zA1;generalize upd H1 l1 (.lst [.non])=H4 at s4 e4 ⊢;refine' k_ownA (F:=fun lw Hx=>∃ ov,Same H Hx∧Hx lw=some (.lst ov)∧Paired (OptAt Hx) ov (ownS rs r)) _ (fun go=>_);rotate_left 2
  ·refine ⟨_,rfl,_,rfl,?_⟩;have ho:r.owner=none∨∃ o,r.owner=some o:=by cases r.owner with | none=>exact .inl rfl | some o=>exact .inr ⟨o,rfl⟩
   rcases ho with e | ⟨o,e⟩;rotate_left
   ·obtain ⟨r',m',rfl⟩:=rp.ownIn r mr o e;have okr':=rp.ok r' m';rw [show (!decide (ownV r.owner=V.non))=true by rw [e];rfl];obtain ⟨g1,g2,g3⟩:=st_good okr'.2;refine iteT ⟨_,rfl,_,rfl,Any,l,rs,some r'.name,by rw [e];rfl,hl.mono s4,rp,fun lF H5 s5 hF=>?_⟩;rw [show fieldsO rs (some r'.name)=r'.fields from zB4 rp m'] at hF;refine ⟨lF,gst r'.fields,rfl,by rw [gstD];exact hF.any,g1,g2,g3,fun l5 H6 s6 n5 h5=>go l5 H6 ?_⟩;obtain ⟨l5',ov,e5,_,h5',_,hov⟩:=h5.list_inv;cases e5;refine ⟨ov,(s4.trans s5).trans s6,h5',?_⟩;rw [zCi rp m' e];rw [gst2] at hov;exact zF7 (G:=fun _=>True) (by rw [Zq];exact hov)
   ·rw [show (!decide (ownV r.owner=V.non))=false by rw [e];rfl];exact iteF (go l1 H4 ⟨_,s4,e4,by rw [zDy e];exact .cons rfl .nil⟩)
  ·rintro lw Hy ⟨ov,sy,ewy,poy⟩;refine ⟨_,rfl,_,rfl,Any,l,rs,some r.name,rfl,hl.mono sy,rp,fun lq Hq sq hq0=>?_⟩;rw [show fieldsO rs (some r.name)=r.fields from zB4 rp mr] at hq0;refine ⟨Zj _,fun lf hlf=>?_⟩;have s3:Same Hq (upd Hq lf (.lst [])):=Same.new hlf;have h2:(upd Hq lf (.lst [])) lf=some (.lst []):=zA1;have nw:lw≠lf:=zA7 (sq _ _ ewy) hlf;have sH:Same H (upd Hq lf (.lst [])):=(sy.trans sq).trans s3;have ew:=s3 _ _ (sq _ _ ewy);have po:Paired (OptAt (upd Hq lf (.lst []))) ov (ownS rs r):=Paired.imp' (fun a b z=>z.same (sq.trans s3)) poy;have hHlf:H lf=none:=(sy.trans sq).free hlf;have hqx:Has Any (upd Hq lf (.lst [])) (.ref lq) (.list (r.fields.map fieldD)):=hq0.any.mono s3;generalize upd Hq lf (.lst [])=Hx at s3 h2 sH ew po hqx ⊢;have hfx':=h2;obtain ⟨lq',fq,eq',_,hlq,_,hfq⟩:=hqx.list_inv;cases eq';have fql:fq.length=r.fields.length:=by rw [hfq.length,Z0]
   have le3:=okr.2.le;obtain ⟨pre,hpre⟩:∃ pre:List PyData,pre=[]:=⟨[],rfl⟩;have hzs:HasAll (TupG Hx) Hx [] pre:=by rw [hpre];exact .nil
   refine ⟨by show 1≤sizeLine;exact small 1 (by decide),fun l6 hl6=>?_⟩;have s6:Same Hx (upd Hx l6 (.lst [.non])):=Same.new hl6;have e6:(upd Hx l6 (.lst [.non])) l6=some (.lst [.non]):=zA1;generalize upd Hx l6 (.lst [.non])=H6 at s6 e6 ⊢;refine ⟨_,rfl,lq,rfl,⟨_,SqL.of (s6 _ _ hlq)⟩,zAj (xs:=fq) (fun i ys H'=>Same H6 H'∧HasAll Any H' ys (((gwi r.fields).take i).map gD)) ⟨Same.refl _,.nil⟩ (fun i ys H' z=>SqL.of (z.1 _ _ (s6 _ _ hlq))) (fun i ys H' hi z=>?_) ?_ ?_⟩
   ·have:=z.2.length;rw [Z0] at this;have:=Zp i (gwi r.fields);have:(gwi r.fields).length=r.fields.length:=by unfold gwi;rw [Z0]
    exact small _ (by omega)
   ·rintro i y ys H' hi ⟨s7,hys⟩ N hN;obtain ⟨d,hd,hv'⟩:=hfq.get hi;rw [Z4] at hd;cases ef:r.fields[i]? with
    | none=>rw [ef] at hd;cases hd
    | some fl' =>
     rw [ef] at hd;cases hd;obtain ⟨b,lv,rfl,hb,hlv⟩:=zB8 hv';have okf:=okr.2.ok fl' (Z1 ef);have ole:=okf.2.le;have sA:=s6.trans s7;refine pickT (SqT.of (sA _ _ hb)) ⟨_,rfl,by show 1≤sizeLine;exact small 1 (by decide),fun l7 hl7=>⟨_,rfl,l7,lv,_,_,rfl,rfl,zA1,(Same.new hl7) _ _ (sA _ _ hlv),by rw [Z0];exact small _ (by simp;omega),fun l8 hl8=>⟨by show 2≤sizeLine;exact small 2 (by decide),fun t9 ht9=>hN _ _ ⟨s7.trans ((Same.new hl7).trans ((Same.new hl8).trans (Same.new ht9))),?_⟩⟩⟩⟩;have eg:(gwi r.fields)[i]? = some (fl'.1,none :: fl'.2.map some):=by unfold gwi;rw [Z4,ef];rfl
     rw [Z5,eg,Z6];refine HasAll.snoc (hys.mono ((Same.new hl7).trans ((Same.new hl8).trans (Same.new ht9)))) (.tup trivial zA1 (by show 2≤1000;decide) (.cons (.str _ (Zm okf.1.2.2 (by decide)) okf.1.2.1) (.cons (.lst trivial ((Same.new ht9) _ _ zA1) (by simp;omega) (.cons .non ?_)) .nil)));rw [someD];exact zC8 okf.2.ok
   ·rintro ys H' ⟨s7,hys⟩ lc' hlc';have gl:(gwi r.fields).length=r.fields.length:=by unfold gwi;rw [Z0]
    rw [fql,← gl,Zb] at hys;obtain ⟨g1,g2,g3⟩:=wi_good okr.2;refine ⟨lc',gwi r.fields,rfl,.lst trivial zA1 (by rw [hys.length,Z0];omega) (hys.mono (Same.new hlc')),g1,g2,g3,fun l9 H9 s9 n9 h9=>?_⟩;obtain ⟨l9',wv0,e9,_,h9',_,hwv⟩:=h9.list_inv;cases e9;rw [gwi2] at hwv;have wv0l:wv0.length≤64:=by rw [hwv.length,Z0,zBm];exact wi_le okr.2
    refine ⟨l6,l9,_,_,rfl,rfl,s9 _ _ ((Same.new hlc') _ _ (s7 _ _ e6)),h9',small _ (by simp;omega),fun lW hlW=>?_⟩;have sW:Same Hx (upd H9 lW (.lst ([V.non]++wv0))):=s6.trans (s7.trans ((Same.new hlc').trans (s9.trans (Same.new hlW))));have eW:(upd H9 lW (.lst ([V.non]++wv0))) lW=some (.lst ([V.non]++wv0)):=zA1;have pW:Paired (OptAt (upd H9 lW (.lst ([V.non]++wv0)))) ([V.non]++wv0) (wishes r.fields):=.cons rfl (zF7 (G:=fun _=>True) (by rw [Zq];exact hwv.mono (Same.new hlW)));have nlW:lW≠lf:=(zA7 (s9 _ _ ((Same.new hlc') _ _ (s7 _ _ (s6 _ _ hfx')))) hlW).symm;generalize upd H9 lW (.lst ([V.non]++wv0))=HW at sW eW pW ⊢;generalize [V.non]++wv0=wv at eW pW ⊢;have hfW:=sW _ _ hfx';have tot:pre.length + (wishes r.fields).length * ((ownS rs r).length * (nowS r).length)≤1000:=by rw [hpre,List.length_nil,Nat.zero_add,← sits_len];exact small9
    have wl:wv.length=(wishes r.fields).length:=pW.length;have ovl:ov.length=(ownS rs r).length:=po.length
    refine ⟨lW,rfl,⟨_,SqL.of eW⟩,zBs (K:=K) (a:=lW) (xs:=wv) (fun i σ H3=>∃ (x8 x9:Option V) (zs3:List V),σ = [some (.ref l),some (.str r.name),some (ownV r.owner),some (.ref lw),some (.ref lq),some (.ref lf),x8,x9]∧ButL lf HW H3∧H3 lf=some (.lst zs3)∧HasAll (TupG H3) H3 zs3 (pre++((wishes r.fields).take i).flatMap (colS rs r)))
     ⟨_,_,[],rfl,fun _ _ e _=>e,hfW,?_⟩ (fun i σ H3 _ ⟨_,_,_,_,b3,_⟩=>SqL.of (b3 _ _ eW nlW)) ?_ ?_⟩
    ·rw [List.take_zero,List.flatMap_nil,List.append_nil];exact zEx hzs fun b ys e=>sW _ _ e
    ·rintro i x σ H3 hi ⟨x8,x9,zs3,rfl,b3,h3,hz3⟩;obtain ⟨wO,ew',hw⟩:=zCh pW hi;have il:i < (wishes r.fields).length:=(List.getElem?_eq_some_iff.mp ew').1;have ew3:=b3 _ _ (sW _ _ ew) nw
     refine ⟨_,rfl,lw,rfl,⟨_,SqL.of ew3⟩,zBs (K:=K) (a:=lw) (xs:=ov) (fun j σ H4=>∃ (x9:Option V) (zs4:List V),σ = [some (.ref l),some (.str r.name),some (ownV r.owner),some (.ref lw),some (.ref lq),some (.ref lf),some x,x9]∧ButL lf H3 H4∧H4 lf=some (.lst zs4)∧HasAll (TupG H4) H4 zs4 ((pre++((wishes r.fields).take i).flatMap (colS rs r))++((ownS rs r).take j).flatMap (rowS r wO)))
      ⟨_,zs3,rfl,fun _ _ e _=>e,h3,?_⟩ (fun j σ H4 _ ⟨_,_,_,b4,_⟩=>SqL.of (b4 _ _ ew3 nw)) ?_ ?_⟩
     ·rw [List.take_zero,List.flatMap_nil,List.append_nil];exact hz3
     ·rintro j y σ H4 hj ⟨x9',zs4,rfl,b4,h4,hz4⟩;obtain ⟨oO,eo,ho⟩:=zCh po hj;have jl:j < (ownS rs r).length:=(List.getElem?_eq_some_iff.mp eo).1;have zl:zs4.length=pre.length + i * ((ownS rs r).length * (nowS r).length) + j * (nowS r).length:=by
       rw [hz4.length,Zg,Zg,zDs (n:=(ownS rs r).length * (nowS r).length) (fun w _=>colS_len rs r w),zDs (n:=(nowS r).length) (fun o _=>rowS_len r wO o),Zk,Zk,Nat.min_eq_left (by omega),Nat.min_eq_left (by omega)]
      have c1:j * (nowS r).length + (nowS r).length≤(ownS rs r).length * (nowS r).length:=by
       have:=Nat.mul_le_mul_right (nowS r).length (show j + 1≤(ownS rs r).length from jl)
       rwa [Yj] at this
      have c2:i * ((ownS rs r).length * (nowS r).length) + (ownS rs r).length * (nowS r).length≤(wishes r.fields).length * ((ownS rs r).length * (nowS r).length):=by
       have:=Nat.mul_le_mul_right ((ownS rs r).length * (nowS r).length) (show i + 1≤(wishes r.fields).length from il)
       rwa [Yj] at this
      have bx:ButL lf Hx H4:=fun b o e n=>b4 _ _ (b3 _ _ (sW _ _ e) n) n;have hw4:OptAt H4 x wO:=(hw.keep (b3.tup hfW)).keep (b4.tup h3);have ho4:OptAt H4 y oO:=ho.keep (bx.tup hfx');have hq4:Has Any H4 (.ref lq) (.list (r.fields.map fieldD)):=hq0.frame fun b o _ e=>⟨trivial,bx _ _ (s3 _ _ e) (zA7 e hlf)⟩;obtain ⟨g1,g2,g3⟩:=st_good okr.2;refine ⟨_,rfl,.inl ⟨rfl,zs4,SqL.of h4⟩,by show 1≤sizeLine;exact small 1 (by decide),fun la hla=>⟨_,rfl,lq,gst r.fields,rfl,by rw [gstD];exact hq4.mono (Same.new hla),g1,g2,g3,fun lb Hb sb nb hb=>?_⟩⟩;obtain ⟨lb',ss,eb,_,hb',_,hss⟩:=hb.list_inv;cases eb;rw [gst2] at hss;have ssl:ss.length≤8:=by rw [hss.length,Z0];exact allA_stA_len okr.2
      refine ⟨la,lb,_,_,rfl,rfl,sb _ _ zA1,hb',small _ (by simp;omega),fun ls hls=>?_⟩;have sS:Same H4 (upd Hb ls (.lst ([V.non]++ss))):=(Same.new hla).trans (sb.trans (Same.new hls));have eS:(upd Hb ls (.lst ([V.non]++ss))) ls=some (.lst ([V.non]++ss)):=zA1;have pS:Paired (OptAt (upd Hb ls (.lst ([V.non]++ss)))) ([V.non]++ss) (nowS r):=.cons rfl (zF7 (G:=fun _=>True) (by rw [Zq];exact hss.mono (Same.new hls)));generalize upd Hb ls (.lst ([V.non]++ss))=HS at sS eS pS ⊢;generalize [V.non]++ss=ns at eS pS ⊢;have nl:ns.length=(nowS r).length:=pS.length;refine ⟨ls,rfl,⟨_,SqL.of eS⟩,zAj (xs:=ns) (fun k ys H5=>Same HS H5∧HasAll (TupG H5) H5 ys (((nowS r).take k).map (sitD r.name wO oO))) ⟨Same.refl _,.nil⟩ (fun k ys H5 z=>SqL.of (z.1 _ _ eS)) (fun k ys H5 hk z=>?_) ?_ ?_⟩
      ·have:=z.2.length;rw [Z0] at this;have:=Zp k (nowS r);exact small _ (by omega)
      ·rintro k' v ys H5 hk ⟨s5,hys⟩ N hN;obtain ⟨sO,es,hs⟩:=zCh pS hk;refine pick ⟨_,rfl,_,rfl,_,rfl,_,rfl,by show 4≤sizeLine;exact small 4 (by decide),fun t ht=>hN _ _ ⟨s5.trans (Same.new ht),?_⟩⟩;rw [Z5,es,Z6];refine HasAll.snoc (zEx hys fun b ys e=>(Same.new ht) _ _ e) ?_;have up:∀ {u:V}{w:Option (List (Option Str))},OptAt HS u w→OptAt (upd H5 t (.tup [.str r.name,x,y,v])) u w:=fun h=>h.keep fun b xs e=>(Same.new ht) _ _ (s5 _ _ e)
       exact .tup ⟨_,zA1⟩ zA1 (by show 4≤1000;decide) (.cons (.str _ (Zm okr.1.2.2 (by decide)) okr.1.2.1) (.cons ((up (hw4.keep fun b xs e=>sS _ _ e)).has (wi_ok okr.2 wO (Z1 ew')) fun a xs e=>⟨xs,e⟩)
        (.cons ((up (ho4.keep fun b xs e=>sS _ _ e)).has (own_ok rp mr oO (Z1 eo)) fun a xs e=>⟨xs,e⟩) (.cons ((up hs).has (now_ok okr.2 sO (Z1 es)) fun a xs e=>⟨xs,e⟩) .nil))))
      ·rintro ys H5 ⟨s5,hys⟩ lc2 hlc2;rw [nl,Zb] at hys;have lys:ys.length=(nowS r).length:=by rw [hys.length,Z0]
       have hf5:=s5 _ _ (sS _ _ h4);refine ⟨lf,lc2,zs4,ys,rfl,rfl,(Same.new hlc2) _ _ hf5,zA1,small _ (by omega),⟨_,zs4++ys,rfl,fun b' o' e' n'=>?_,zA1,?_⟩⟩
       ·rw [zAa n'];exact (Same.new hlc2) _ _ (s5 _ _ (sS _ _ (b4 _ _ e' n')))
       ·have fin:∀ b xs,H5 b=some (.tup xs)→(upd (upd H5 lc2 (.lst ys)) lf (.lst (zs4++ys))) b=some (.tup xs):=fun b xs e=>by
         have nb:b≠lf:=by rintro rfl;rw [hf5] at e;cases e
         rw [zAa nb];exact (Same.new hlc2) _ _ e
        rw [Z5,eo,List.flatMap_append,← List.append_assoc];refine HasAll.append (zEx hz4 fun b xs e=>fin _ _ (s5 _ _ (sS _ _ e))) ?_;have e1:(Option.toList (some oO)).flatMap (rowS r wO)=(nowS r).map (sitD r.name wO oO):=by
         show [oO].flatMap (rowS r wO)=_;rw [Yl,List.flatMap_nil,List.append_nil];rfl
        rw [e1];exact zEx hys fin
     ·rintro σ H4 ⟨x9',zs4,rfl,b4,h4,hz4⟩;rw [ovl,Zb] at hz4;refine ⟨some x,x9',zs4,rfl,fun b o e n=>b4 _ _ (b3 _ _ e n) n,h4,?_⟩;rw [Z5,ew',List.flatMap_append,← List.append_assoc];have e1:(Option.toList (some wO)).flatMap (colS rs r)=(ownS rs r).flatMap (rowS r wO):=by
       show [wO].flatMap (colS rs r)=_;rw [Yl,List.flatMap_nil,List.append_nil];rfl
      rw [e1];exact hz4
    ·rintro σ H3 ⟨x8,x9,zs3,rfl,b3,h3,hz3⟩;rw [wl,Zb] at hz3;rw [hpre,List.nil_append] at hz3;exact ⟨_,rfl,k lf zs3 H3 (fun b o e=>b3 _ _ (sW _ _ (sH _ _ e)) (zA7 e hHlf)) hHlf h3 hz3⟩
end
end L2.W
namespace L2.W
open PySem My
theorem _root_.L2.Has.but {p:Addr}{H H':Hp}{v:V}{d:PyData} (h:Has (fun a=>a≠p) H v d) (b:ButS p H H'):Has (fun a=>a≠p) H' v d:=h.frame fun a o g e=>⟨g,b a o e g⟩
theorem _root_.L2.HasAll.but {p:Addr}{H H':Hp}{v:List V}{d:List PyData} (h:HasAll (fun a=>a≠p) H v d) (b:ButS p H H'):HasAll (fun a=>a≠p) H' v d:=h.frame fun a o g e=>⟨g,b a o e g⟩
theorem ButS.trans {p:Addr}{H H1 H2:Hp} (a:ButS p H H1) (b:ButS p H1 H2):ButS p H H2:=fun c o e n=>b c o (a c o e n) n
theorem ButS.same {p:Addr}{H H1:Hp} (s:Same H H1):ButS p H H1:=fun c o e _=>s c o e
theorem ButS.eq {p:Addr}{H H1:Hp} (k:∀ b,b≠p→H1 b=H b):ButS p H H1:=fun c o e n=>by rw [k c n];exact e
theorem zEt:∀ (st:List Str),PyData.depthAll (st.map PyData.str)=0
 | []=>rfl
 | x :: r=>by
  show max 0 (PyData.depthAll (r.map PyData.str))=0;rw [zEt r];rfl
theorem zDn:∀ (fs:List (Str×List Str)),PyData.depthAll (fs.map fieldD)≤2
 | []=>by decide
 | f :: r=>by
  show max (fieldD f).depth (PyData.depthAll (r.map fieldD))≤2;have:=zDn r;have e:(fieldD f).depth=2:=by
   show max 0 (max (PyData.depthAll (f.2.map PyData.str) + 1) 0) + 1=2;rw [zEt];rfl
  omega
theorem depth_fl (fs:List (Str×List Str)):(PyData.list (fs.map fieldD)).depth≤64:=by
 show PyData.depthAll (fs.map fieldD) + 1≤64;have:=zDn fs;omega
theorem fl_eqv (fs:List (Str×List Str)):PyData.eqv (.list (fs.map fieldD)) (.list [])=fs.isEmpty:=by cases fs <;> rfl
structure Fl (H:Hp) (p lf:Addr) (fs:List (Str×List Str)):Prop where
 has:Has (fun a=>a≠p) H (.ref lf) (.list (fs.map fieldD))
 ok:FieldsOk fs
theorem Fl.but {H H':Hp}{p lf:Addr}{fs:List (Str×List Str)} (h:Fl H p lf fs) (b:ButS p H H'):Fl H' p lf fs:=⟨h.has.but b,h.ok⟩
noncomputable def spPairL:Sp:=fun vs H Q _=>∃ (p lf:Addr) (b:Bool) (fs:List (Str×List Str)) (k:Int),vs=[.ref p,.ref lf,.bl b]∧Src H p k∧k≤900000∧Fl H p lf fs ∧
 ∀ t f v H',nameOk f→nameOk v→H' t=some (.tup [.str f,.str v])→t≠p→Src H' p (k + 3)→ButS p H H'→Q (.ref t) H'
theorem fgs:∀ x∈(["f", "meets", "g"]:List Str),nameOk x:=nms_ok (by decide +kernel)
theorem ons:∀ x∈(["on", "off", "wish", "no"]:List Str),nameOk x:=nms_ok (by decide +kernel)
section
variable {P:Program}{w:World}{K:PySem.W.Frag}{mg:Str→Option Value}{base:Heap}{CX:CXT}
theorem scPr:FnScope ["_law_source", "_law_fields_here", "_law_strange", "_law_field", "_law_values"] ["_law_source", "_law_fields_here", "_law_strange"] (defScope sLPair):=⟨rfl,rfl,rfl,by decide +kernel,rfl,by decide +kernel,by decide +kernel⟩
theorem ok_pairL {f fn:Addr}{fd fdn:FuncData} (hC:Calm CX) (T:Tops K mg) (F:Fun K "_law_pair" "_law_pair" sLPair f fd) (Dn:Def K mg "_law_next" sNext ["_law_source", "_law_many"] fn fdn) (Gn:FnOk P w K mg base CX 2 fn fdn ["_law_source", "_law_many"] spNext):FnOk P w K mg base CX 3 f fd ["_law_source", "_law_fields_here", "_law_strange"] spPairL:=by
 refine Fun.okC F scPr (fun vs H Q E h=>?_) (fun cdv A outer s H vs Q E hr h=>?_)
 ·obtain ⟨p,lf,b,fs,k,rfl,_⟩:=h;rfl
 ·obtain ⟨p,lf,b,fs,k,rfl,S0,hk,fl,q⟩:=h;have nd:=scPr.nd
  refine ⟨_,zA3 (zAn (PW.pt (zBi (zAg (op_eqD hr.units) (pv 1) (zAm zA2) (nomark _)) (zB9 (PW.pt (zBx (zAt (pv 2)) (zBg (zAg zBa (zA6 Gn hr rfl Dn.at_ Dn.fn.kp Dn.bind .nil (passC hC) (zA0 (pv 0) (zA0 zA4 zA2))) zA4 (nomark _))))))))
     (zA5 (zA9 (zBc (zA0 (zAf zAr (zAm (zA0 zAl (zA0 zAl (zA0 zAl zA2)))) (zA6 Gn hr rfl Dn.at_ Dn.fn.kp Dn.bind .nil (passC hC) (zA0 (pv 0) (zA0 zA4 zA2))) (fun _ _=>rfl)) (zA0 (zAf zAr (zAm (zA0 zAl (zA0 zAl (zA0 zAl (zA0 zAl zA2))))) (zA6 Gn hr rfl Dn.at_ Dn.fn.kp Dn.bind .nil (passC hC) (zA0 (pv 0) (zA0 zA4 zA2))) (fun _ _=>rfl)) zA2))))) zAb)
     (zA3 (zD5 (zAf zAr (pv 1) (zA6 Gn hr rfl Dn.at_ Dn.fn.kp Dn.bind .nil (passC hC) (zA0 (pv 0) (zA0 (zAh zAu rfl T.len PySem.boot_len (zA0 (pv 1) zA2)) zA2))) (fun _ _=>rfl)) (zC6 rfl (zAe (zA8 (i:=3) nd rfl (Or.inl rfl)) (zAe (zA8 (i:=4) nd rfl (Or.inl rfl)) zB2))))
     (zA5 (zA9 (zBc (zA0 (pv 3) (zA0 (zAf zAr (pv 4) (zA6 Gn hr rfl Dn.at_ Dn.fn.kp Dn.bind .nil (passC hC) (zA0 (pv 0) (zA0 (zAh zAu rfl T.len PySem.boot_len (zA0 (pv 4) zA2)) zA2))) (fun _ _=>rfl)) zA2)))))),?_⟩
  have small:∀ n:Nat,n≤1000→n≤sizeLine:=fun n h=>Zn (small1000 h);refine' k_ownA (F:=fun _ Hx=>ButS p H Hx∧Src Hx p (k + 1)) _ (fun two=>_);rotate_left 2
  ·refine' k_ownA (F:=fun _ Hx=>ButS p H Hx∧Src Hx p (k + 1)∧0 < fs.length) _ (fun one=>_);rotate_left 2
   ·refine ⟨_,rfl,Zj _,fun l0 f0=>?_⟩;have s0:Same H (upd H l0 (.lst [])):=Same.new f0;have e0:(upd H l0 (.lst [])) l0=some (.lst []):=zA1;generalize upd H l0 (.lst [])=H1 at s0 e0 ⊢;have S1:=S0.up s0;have fl1:=fl.but (ButS.same s0);have he:fs.isEmpty=true∨(fs.isEmpty=false∧0 < fs.length):=by cases fs <;> simp
    refine ⟨.list (fs.map fieldD),.list [],fl1.has.any,.lst trivial e0 (Zj _) .nil,depth_fl fs,by decide,?_⟩;rw [fl_eqv];rcases he with he | ⟨he,hp⟩
    ·rw [he];exact ⟨_,rfl,iteT (iteT (two l0 H1 ⟨ButS.same s0,S1.mono (by omega)⟩))⟩
    ·rw [he];refine ⟨_,rfl,iteF ⟨_,rfl,_,rfl,ite2 (fun _=>⟨_,rfl,p,4,k,rfl,S1,by omega,by decide,by decide,fun r2 H2 _ _ S2 k2=>⟨rfl,_,rfl,?_⟩⟩) (fun _=>one l0 H1 ⟨ButS.same s0,S1.mono (by omega),hp⟩)⟩⟩;have b2:ButS p H H2:=(ButS.same s0).trans (ButS.eq k2);exact ite2 (fun _=>two l0 H2 ⟨b2,S2⟩) (fun _=>one l0 H2 ⟨b2,S2,hp⟩)
   ·rintro _ H2 ⟨b2,S2,hp⟩;have fl2:=fl.but b2;obtain ⟨lf',xs,e,nlf,hl,hz,hx⟩:=fl2.has.list_inv;cases e;have xl:xs.length=fs.length:=by rw [hx.length,Z0]
    refine ⟨_,rfl,_,rfl,_,rfl,lf,xs,rfl,.inl (SqL.of hl),p,_,k + 1,rfl,S2,by omega,by omega,by have:=fl.ok.le;omega,fun r3 H3 r30 r31 S3 k3=>?_⟩;obtain ⟨x,hxa,hxm⟩:=zEu xs r30 r31;obtain ⟨j,hj⟩:=List.getElem?_of_mem hxm;obtain ⟨d,hd,hv⟩:=hx.get hj;obtain ⟨fv,hf,rfl⟩:=List.mem_map.mp (Z1 hd);have hv3:=hv.but (ButS.eq k3);obtain ⟨t,lv,rfl,ht,hlv⟩:=zB8 hv3;have nlv:lv≠p:=by
     obtain ⟨a',ys,e',_,h1',_,h2'⟩:=hv3.tup_inv;cases e';rw [ht] at h1';cases h1';cases h2' with
     | cons _ r2=>cases r2 with | cons r3 _=>cases r3 with | lst g _ _ _=>exact g
    obtain ⟨okn,okv⟩:=fl.ok.ok fv hf;refine ⟨lf,xs,r3,_,rfl,rfl,SqL.of (by rw [k3 lf nlf];exact hl),hxa,t,_,rfl,SqT.of ht,rfl,_,_,rfl,_,_,rfl,rfl,?_⟩;have vl:=okv.le;have vn:=okv.ne;refine ⟨_,rfl,_,rfl,_,rfl,_,rfl,lv,_,rfl,.inl (SqL.of hlv),p,_,k + 2,rfl,S3.mono (by omega),by omega,by rw [Z0];omega,by rw [Z0];omega,fun r4 H4 r40 r41 S4 k4=>?_⟩;obtain ⟨y,hya,hym⟩:=zEu (fv.2.map V.str) r40 r41;obtain ⟨v,hv',rfl⟩:=List.mem_map.mp hym;refine ⟨lv,_,r4,_,rfl,rfl,SqL.of (by rw [k4 lv nlv];exact hlv),hya,small 2 (by decide),fun t5 f5=>?_⟩;exact q t5 fv.1 v _ okn (okv.ok v hv') zA1 (S4.nw f5) ((S4.up (Same.new f5)).mono (by omega)) (((b2.trans (ButS.eq k3)).trans (ButS.eq k4)).trans (ButS.same (Same.new f5)))
  ·rintro _ H2 ⟨b2,S2⟩;refine ⟨small 3 (by decide),fun l3 f3=>?_⟩;have s3:Same H2 (upd H2 l3 (.lst ((["f", "meets", "g"]:List Str).map V.str))):=Same.new f3;have e3:(upd H2 l3 (.lst ((["f", "meets", "g"]:List Str).map V.str))) l3=some (.lst ((["f", "meets", "g"]:List Str).map V.str)):=zA1;have n3:=S2.nw f3;rw [show ([.str "f",.str "meets",.str "g"]:List V)=(["f", "meets", "g"]:List Str).map V.str from rfl];generalize upd H2 l3 (.lst ((["f", "meets", "g"]:List Str).map V.str))=H3 at s3 e3 ⊢;refine ⟨_,rfl,p,3,k + 1,rfl,S2.up s3,by omega,by decide,by decide,fun r4 H4 r40 r41 S4 k4=>?_⟩;obtain ⟨x,hxa,hxm⟩:=zEu ((["f", "meets", "g"]:List Str).map V.str) r40 r41;obtain ⟨f,hf,rfl⟩:=List.mem_map.mp hxm;refine ⟨l3,_,r4,_,rfl,rfl,SqL.of (by rw [k4 l3 n3];exact e3),hxa,small 4 (by decide),fun l5 f5=>?_⟩;have s5:Same H4 (upd H4 l5 (.lst ((["on", "off", "wish", "no"]:List Str).map V.str))):=Same.new f5;have e5:(upd H4 l5 (.lst ((["on", "off", "wish", "no"]:List Str).map V.str))) l5=some (.lst ((["on", "off", "wish", "no"]:List Str).map V.str)):=zA1;have n5:=S4.nw f5;rw [show ([.str "on",.str "off",.str "wish",.str "no"]:List V)=(["on", "off", "wish", "no"]:List Str).map V.str from rfl];generalize upd H4 l5 (.lst ((["on", "off", "wish", "no"]:List Str).map V.str))=H5 at s5 e5 ⊢;refine ⟨_,rfl,p,4,k + 2,rfl,(S4.up s5).mono (by omega),by omega,by decide,by decide,fun r6 H6 r60 r61 S6 k6=>?_⟩;obtain ⟨y,hya,hym⟩:=zEu ((["on", "off", "wish", "no"]:List Str).map V.str) r60 r61;obtain ⟨v,hv,rfl⟩:=List.mem_map.mp hym;refine ⟨l5,_,r6,_,rfl,rfl,SqL.of (by rw [k6 l5 n5];exact e5),hya,small 2 (by decide),fun t7 f7=>?_⟩;exact q t7 f v _ (fgs f hf) (ons v hv) zA1 (S6.nw f7) ((S6.up (Same.new f7)).mono (by omega)) (((((b2.trans (ButS.same s3)).trans (ButS.eq k4)).trans (ButS.same s5)).trans (ButS.eq k6)).trans (ButS.same (Same.new f7)))
end
end L2.W
namespace L2.W
open PySem My
noncomputable def spLeaf:Sp:=fun vs H Q _=>∃ (p lf lo:Addr) (b:Bool) (fs fo:List (Str×List Str)) (k:Int),vs=[.ref p,.ref lf,.ref lo,.bl b]∧Src H p k∧k≤800000∧Fl H p lf fs∧Fl H p lo fo ∧
 ∀ v l H',LeafOk l→Has (fun a=>a≠p) H' v (leafD l)→Src H' p (k + 5)→ButS p H H'→Q v H'
theorem strN {G:Addr→Prop}{H:Hp}{x:Str} (h:nameOk x):Has G H (.str x) (.str x):=.str _ (Zm h.2.2 (by decide)) h.2.1
section
variable {P:Program}{w:World}{K:PySem.W.Frag}{mg:Str→Option Value}{base:Heap}{CX:CXT}
theorem scLe:FnScope ["_law_source", "_law_fields_here", "_law_owners", "_law_strange", "_law_way"] ["_law_source", "_law_fields_here", "_law_owners", "_law_strange"] (defScope sLeaf):=⟨rfl,rfl,rfl,by decide +kernel,rfl,by decide +kernel,by decide +kernel⟩
noncomputable def Tst (c:TT) (σ : St) (H:Hp):Prop:=∀ H1,Same H H1→∀ Q:Bool→Hp→Prop,(∀ b H2,Same H1 H2→Q b H2)→c σ H1 Q
theorem Tst.and {c d:TT}{σ : St}{H:Hp} (a:Tst c σ H) (b:Tst d σ H):Tst (tAnd c d) σ H:=fun H1 s1 Q k=>a H1 s1 _ fun x H2 s2=>ite2 (fun _=>b H2 (s1.trans s2) Q fun y H3 s3=>k y H3 (s2.trans s3)) (fun _=>k false H2 s2)
theorem Tst.or {c d:TT}{σ : St}{H:Hp} (a:Tst c σ H) (b:Tst d σ H):Tst (tOr c d) σ H:=fun H1 s1 Q k=>a H1 s1 _ fun x H2 s2=>ite2 (fun _=>k true H2 s2) (fun _=>b H2 (s1.trans s2) Q fun y H3 s3=>k y H3 (s2.trans s3))
theorem Tst.lt {σ : St}{H:Hp}{i:Nat}{r n:Int} (h : σ[i]? = some (some (.int r))):Tst (tTest (tOp (rI0 fun i j=>V.bl (decide (i < j))) (tVar i) (tC (V.int n)))) σ H:=fun H1 _ Q k=>⟨_,h,_,_,rfl,rfl,_,rfl,k _ H1 (Same.refl _)⟩
theorem Tst.eq {σ : St}{H:Hp}{i:Nat}{r n:Int} (h : σ[i]? = some (some (.int r))):Tst (tTest (tOp rEq (tVar i) (tC (V.int n)))) σ H:=fun H1 _ Q k=>⟨_,h,rfl,_,rfl,k _ H1 (Same.refl _)⟩
theorem Tst.tv {σ : St}{H:Hp}{i:Nat}{b:Bool} (h : σ[i]? = some (some (.bl b))):Tst (tB (tVar i)) σ H:=fun H1 _ Q k=>⟨_,h,_,rfl,k _ H1 (Same.refl _)⟩
theorem Tst.ne {H:Hp}{p lf:Addr}{fs:List (Str×List Str)}{σ : St}{i:Nat} (fl:Fl H p lf fs) (h : σ[i]? = some (some (.ref lf))):Tst (tTest (tOp rNeD (tVar i) (tLst tNil))) σ H:=fun H1 s1 Q k =>
 ⟨_,h,Zj _,fun l0 f0=>⟨.list (fs.map fieldD),.list [],(fl.has.any.mono s1).mono (Same.new f0),.lst trivial zA1 (Zj _) .nil,depth_fl fs,by decide,_,rfl,k _ _ (Same.new f0)⟩⟩
theorem if_any {c:TT}{t u:TS}{D:Ends}{σ : St}{H:Hp} (hc:Tst c σ H) (ht:∀ H',Same H H'→t D σ H') (hu:∀ H',Same H H'→u D σ H'):tIfS c t u D σ H:=hc H (Same.refl _) _ fun _ H' s=>ite2 (fun _=>ht H' s) (fun _=>hu H' s)
theorem ok_leaf {f fn fp:Addr}{fd fdn fdp:FuncData} (hC:Calm CX) (T:Tops K mg) (F:Fun K "_law_leaf" "_law_leaf" sLeaf f fd) (Dn:Def K mg "_law_next" sNext ["_law_source", "_law_many"] fn fdn) (Gn:FnOk P w K mg base CX 2 fn fdn ["_law_source", "_law_many"] spNext)
  (Dp:Def K mg "_law_pair" sLPair ["_law_source", "_law_fields_here", "_law_strange"] fp fdp) (Gp:FnOk P w K mg base CX 3 fp fdp ["_law_source", "_law_fields_here", "_law_strange"] spPairL):FnOk P w K mg base CX 4 f fd ["_law_source", "_law_fields_here", "_law_owners", "_law_strange"] spLeaf:=by
 refine Fun.okC F scLe (fun vs H Q E h=>?_) (fun cdv A outer s H vs Q E hr h=>?_)
 ·obtain ⟨p,lf,lo,b,fs,fo,k,rfl,_⟩:=h;rfl
 ·obtain ⟨p,lf,lo,b,fs,fo,k,rfl,S0,hk,fl,flo,q⟩:=h;have nd:=scLe.nd;have hr2:=hr.mono (show 2≤3 by decide)
  refine ⟨_,zA3 (zAi (i:=4) nd rfl (Or.inl rfl) (zA6 Gn hr2 rfl Dn.at_ Dn.fn.kp Dn.bind .nil (passC hC) (zA0 (pv 0) (zA0 zA4 zA2))))
     (zA3 (zAn (PW.pt (zBx (zAg op_lt (pv 4) zA4 (nomark _)) (zBg (PW.pt (zBi (zAg (zEn hr.units) (pv 1) (zAm zA2) (nomark _)) (zB9 (zAt (pv 3))))))))
     (zA5 (zA9 (zAv (zE0 (K:=K) rfl) (zBc (zA0 zAl zA2)) (zA6 Gp hr rfl Dp.at_ Dp.fn.kp Dp.bind .nil (passC hC) (zA0 (pv 0) (zA0 (pv 1) (zA0 (pv 3) zA2))))))) zAb)
     (zA3 (zAn (PW.pt (zBx (zAg op_lt (pv 4) zA4 (nomark _)) (zBg (PW.pt (zBi (zAg (zEn hr.units) (pv 1) (zAm zA2) (nomark _)) (zB9 (zAt (pv 3))))))))
     (zA5 (zA9 (zBc (zA0 zAl (zA0 (zAf zAd (zA6 Gp hr rfl Dp.at_ Dp.fn.kp Dp.bind .nil (passC hC) (zA0 (pv 0) (zA0 (pv 1) (zA0 (pv 3) zA2)))) zA4 (fun _ _=>rfl)) zA2))))) zAb)
     (zA3 (zAn (PW.pt (zBx (zAg zBa (pv 4) zA4 (nomark _)) (zBg (PW.pt (zBi (zAg (zEn hr.units) (pv 2) (zAm zA2) (nomark _)) (zB9 (zAt (pv 3))))))))
     (zA5 (zA9 (zAv (zE0 (K:=K) rfl) (zBc (zA0 zAl zA2)) (zA6 Gp hr rfl Dp.at_ Dp.fn.kp Dp.bind .nil (passC hC) (zA0 (pv 0) (zA0 (pv 2) (zA0 (pv 3) zA2))))))) zAb)
     (zA5 (zA9 (zAf zAr (zAm (zA0 (zBc (zA0 zAl zA2)) (zA0 (zBc (zA0 zAl zA2)) zA2))) (zAv zCk (pv 4) zA4) (fun _ _=>rfl))))))),?_⟩
  have small:∀ n:Nat,n≤1000→n≤sizeLine:=fun n h=>Zn (small1000 h);refine ⟨_,rfl,p,8,k,rfl,S0,by omega,by decide,by decide,fun r H1 r0 r1 S1 k1=>?_⟩;have b1:ButS p H H1:=ButS.eq k1;have fl1:=fl.but b1;have flo1:=flo.but b1;clear k1;have cat:∀ {H2 H3:Hp}{t0 t1:Addr}{x f v:Str}{l:Leaf}{Q2:VK},ButS p H H2→H3 t0=some (.tup [.str x])→t0≠p→H3 t1=some (.tup [.str f,.str v])→nameOk f→nameOk v→nameOk x→leafD l=.tuple [.str x,.str f,.str v]→LeafOk l→Src H3 p (k + 5)→ButS p H2 H3→(∀ v' H',LeafOk l→Has (fun a=>a≠p) H' v' (leafD l)→Src H' p (k + 5)→ButS p H H'→Q2 v' H')→rCat2 K (.ref t0) (.ref t1) H3 Q2:=fun {H2 H3 t0 t1 x f v l Q2} b2 h0 n0 h1 of ov ox el lo S3 b3 q2 =>
   ⟨t0,t1,_,_,rfl,rfl,SqT.of h0,SqT.of h1,small 3 (by decide),(fun z=>nomatch z),(fun _ z=>nomatch z),fun _ _ t9 f9=>q2 _ _ lo (by rw [el];exact .tup (S3.nw f9) zA1 (by show 3≤1000;decide) (.cons (strN ox) (.cons (strN of) (.cons (strN ov) .nil)))) (S3.up (Same.new f9)) ((b2.trans b3).trans (ButS.same (Same.new f9)))⟩
  have nis:nameOk "is":=nmB_ok (by decide +kernel);have now_:nameOk "owner":=nmB_ok (by decide +kernel);have nme:nameOk "meets":=nmB_ok (by decide +kernel);refine if_any (Tst.and (.lt rfl) (.or (.ne fl1 rfl) (.tv rfl))) (fun H2 s2=>?_) (fun H2 s2=>?_)
  ·refine ⟨small 1 (by decide),fun t0 f0=>⟨_,rfl,_,rfl,_,rfl,p,lf,b,fs,k + 1,rfl,(S1.up s2).up (Same.new f0),by omega,(fl1.but (ButS.same s2)).but (ButS.same (Same.new f0)),fun t1 f v H3 of ov h1 n1 S3 b3=>?_⟩⟩;have n0:=(S1.up s2).nw f0;exact cat (l:=.is f v) (b1.trans (ButS.same s2)) (b3 _ _ zA1 n0) n0 h1 of ov nis rfl ⟨of,ov⟩ (S3.mono (by omega)) ((ButS.same (Same.new f0)).trans b3) fun v' H' lo hh SS bb=>q v' _ H' lo hh SS bb
  ·refine if_any (Tst.and (.lt rfl) (.or (.ne (fl1.but (ButS.same s2)) rfl) (.tv rfl))) (fun H3 s3=>?_) (fun H3 s3=>?_)
   ·have s23:=s2.trans s3;refine ⟨_,rfl,_,rfl,_,rfl,p,lf,b,fs,k + 1,rfl,S1.up s23,by omega,fl1.but (ButS.same s23),fun t1 f v H4 of ov h1 n1 S4 b4=>?_⟩;refine ⟨t1,_,0,_,rfl,rfl,SqT.of h1,rfl,small 2 (by decide),fun t9 f9=>?_⟩;exact q _ (.meets f) _ of (.tup (S4.nw f9) zA1 (by show 2≤1000;decide) (.cons (strN nme) (.cons (strN of) .nil))) ((S4.up (Same.new f9)).mono (by omega)) (((b1.trans (ButS.same s23)).trans b4).trans (ButS.same (Same.new f9)))
   ·have s23:=s2.trans s3;refine if_any (Tst.and (.eq rfl) (.or (.ne (flo1.but (ButS.same s23)) rfl) (.tv rfl))) (fun H4 s4=>?_) (fun H4 s4=>?_)
    ·have s24:=s23.trans s4;refine ⟨small 1 (by decide),fun t0 f0=>⟨_,rfl,_,rfl,_,rfl,p,lo,b,fo,k + 1,rfl,(S1.up s24).up (Same.new f0),by omega,(flo1.but (ButS.same s24)).but (ButS.same (Same.new f0)),fun t1 f v H5 of ov h1 n1 S5 b5=>?_⟩⟩;have n0:=(S1.up s24).nw f0;exact cat (l:=.owner f v) (b1.trans (ButS.same s24)) (b5 _ _ zA1 n0) n0 h1 of ov now_ rfl ⟨of,ov⟩ (S5.mono (by omega)) ((ButS.same (Same.new f0)).trans b5) fun v' H' lo hh SS bb=>q v' _ H' lo hh SS bb
    ·have s24:=s23.trans s4;have S4:=S1.up s24;refine ⟨small 1 (by decide),fun t0 f0=>⟨small 1 (by decide),fun t1 f1=>⟨small 2 (by decide),fun l9 f9=>?_⟩⟩⟩;have u1:=Same.new (o:=HO.tup [.str "wanted"]) f1;have u2:=Same.new (o:=HO.lst [.ref t0,.ref t1]) f9;have w0:=(u1.trans u2) _ _ (zA1 (H:=H4) (a:=t0) (o:=.tup [.str "always"]));have w1:=u2 _ _ (zA1 (a:=t1) (o:=.tup [.str "wanted"]));have n0:=S4.nw f0;have n1:=(S4.up (Same.new f0)).nw f1;have U:=(Same.new f0).trans (u1.trans u2);refine ⟨_,rfl,_,_,rfl,rfl,(by show (0:Int) < 2;decide),?_⟩;have m0:0≤r % 2:=Int.emod_nonneg _ (by decide);have m1:r % 2 < 2:=Y6 _ (by decide);obtain ⟨x,hxa,hxm⟩:=zEu ([.ref t0,.ref t1]:List V) m0 m1;refine ⟨l9,_,_,x,rfl,rfl,SqL.of zA1,hxa,?_⟩;have S9:=(S4.up U).mono (show k + 1≤k + 5 by omega);have b9:=(b1.trans (ButS.same s24)).trans (ButS.same U);have:x=.ref t0∨x=.ref t1:=by simpa using hxm
     rcases this with rfl | rfl
     ·exact q _ .always _ trivial (.tup n0 w0 (by show 1≤1000;decide) (.cons (.str _ (by decide) (by decide +kernel)) .nil)) S9 b9
     ·exact q _ .wanted _ trivial (.tup n1 w1 (by show 1≤1000;decide) (.cons (.str _ (by decide) (by decide +kernel)) .nil)) S9 b9
end
end L2.W
namespace L2.W
open PySem My
noncomputable def cT:Nat→Int
 | 0=>6
 | d + 1=>8 + 3 * cT d
theorem cT_pos:∀ d,6≤cT d
 | 0=>by decide
 | d + 1=>by
  have:=cT_pos d;show 6≤8 + 3 * cT d;omega
noncomputable def spTree:Nat→Sp
 | 0=>fun _ _ _ _=>False
 | d + 1=>fun vs H Q _=>∃ (p lf lo:Addr) (b:Bool) (fs fo:List (Str×List Str)) (k:Int),vs=[.ref p,.ref lf,.ref lo,.bl b,.int (d:Nat)]∧Src H p k∧k + cT d≤700000∧Fl H p lf fs∧Fl H p lo fo ∧
  ∀ v t H',TrOk t→trH t≤d→Has (fun a=>a≠p) H' v (trD t)→Src H' p (k + cT d)→ButS p H H'→Q v H'
section
variable {P:Program}{w:World}{K:PySem.W.Frag}{mg:Str→Option Value}{base:Heap}{CX:CXT}
theorem scTr:FnScope ["_law_source", "_law_fields_here", "_law_owners", "_law_strange", "_law_deep", "_law_way", "_law_some"] ["_law_source", "_law_fields_here", "_law_owners", "_law_strange", "_law_deep"] (defScope sTree):=⟨rfl,rfl,rfl,by decide +kernel,rfl,by decide +kernel,by decide +kernel⟩
theorem ok_tree {f fn fl:Addr}{fd fdn fdl:FuncData} (hC:Calm CX) (T:Tops K mg) (DT:Def K mg "_law_tree" sTree ["_law_source", "_law_fields_here", "_law_owners", "_law_strange", "_law_deep"] f fd) (Dn:Def K mg "_law_next" sNext ["_law_source", "_law_many"] fn fdn) (Gn:FnOk P w K mg base CX 2 fn fdn ["_law_source", "_law_many"] spNext)
  (DL:Def K mg "_law_leaf" sLeaf ["_law_source", "_law_fields_here", "_law_owners", "_law_strange"] fl fdl) (GL:FnOk P w K mg base CX 4 fl fdl ["_law_source", "_law_fields_here", "_law_owners", "_law_strange"] spLeaf):∀ d,FnOk P w K mg base CX (d + 4) f fd ["_law_source", "_law_fields_here", "_law_owners", "_law_strange", "_law_deep"] (spTree d)
 | 0=>FnOk.never fun _ _ _ _ z=>z
 | d + 1=>by
  have IH:=ok_tree hC T DT Dn Gn DL GL d;refine Fun.okC DT.fn scTr (fun vs H Q E h=>?_) (fun cdv A outer s H vs Q E hr h=>?_)
  ·obtain ⟨p,lf,lo,b,fs,fo,k,rfl,_⟩:=h;rfl
  ·obtain ⟨p,lf,lo,b,fs,fo,k,rfl,S0,hk,fl,flo,q⟩:=h;have nd:=scTr.nd;have hr2:=hr.mono (show 2≤d + 4 by omega);have hr4:=hr.mono (show 4≤d + 4 by omega)
   refine ⟨_,zA3 (zAi (i:=5) nd rfl (Or.inl rfl) (zA6 Gn hr2 rfl Dn.at_ Dn.fn.kp Dn.bind .nil (passC hC) (zA0 (pv 0) (zA0 zA4 zA2))))
      (zA3 (zAn (PW.pt (zBi (zAg zBa (pv 4) zA4 (nomark _)) (zB9 (zAg op_lt (pv 5) zA4 (nomark _)))))
      (zA5 (zA9 (zA6 GL hr4 rfl DL.at_ DL.fn.kp DL.bind .nil (passC hC) (zA0 (pv 0) (zA0 (pv 1) (zA0 (pv 2) (zA0 (pv 3) zA2))))))) zAb)
      (zA3 (zAn (zAg zBa (pv 5) zA4 (nomark _))
      (zA5 (zA9 (zBc (zA0 zAl (zA0 (zA6 IH hr rfl DT.at_ DT.fn.kp DT.bind .nil (passC hC) (zA0 (pv 0) (zA0 (pv 1) (zA0 (pv 2) (zA0 (pv 3) (zA0 (zAv op_sub (pv 4) zA4) zA2)))))) zA2))))) zAb)
      (zA3 (zAy (T:=["_law_k"]) (i:=6) rfl (ScOk.auto (h5:=by exact ⟨rfl,rfl,rfl,rfl,rfl,trivial⟩)) (zC5 rfl T.range (zA0 (zAv zC0 zA4 (zA6 Gn hr2 rfl Dn.at_ Dn.fn.kp Dn.bind .nil (passC hC) (zA0 (pv 0) (zA0 zA4 zA2)))) zA2)) (fun _ _ _ _=>zA8 (i:=7) (by decide +kernel:(["_law_source", "_law_fields_here", "_law_owners", "_law_strange", "_law_deep", "_law_way", "_law_some", "_law_k"]:List Str).Nodup) rfl (Or.inl rfl)) (fun _ _ _ _=>zB7) (fun _ _ _ _=>(zA6 IH hr rfl DT.at_ DT.fn.kp DT.bind .nil (passC hC) (zA0 (pv 0) (zA0 (pv 1) (zA0 (pv 2) (zA0 (pv 3) (zA0 (zAv op_sub (pv 4) zA4) zA2))))))) nd rfl rfl rfl)
      (zA5 (zA9 (zBc (zA0 (zAf zAr (zAm (zA0 zAl (zA0 zAl zA2))) (zAv zCk (pv 5) zA4) (fun _ _=>rfl)) (zA0 (pv 6) zA2)))))))),?_⟩
   have small:∀ n:Nat,n≤1000→n≤sizeLine:=fun n h=>Zn (small1000 h);have cp:=cT_pos d;refine ⟨_,rfl,p,7,k,rfl,S0,by omega,by decide,by decide,fun r H1 r0 r1 S1 k1=>?_⟩;have b1:ButS p H H1:=ButS.eq k1;have fl1:=fl.but b1;have flo1:=flo.but b1;have leafR:∀ {Q2:VK},(∀ v l H',LeafOk l→Has (fun a=>a≠p) H' v (leafD l)→Src H' p (k + 1 + 5)→ButS p H1 H'→Q2 v H')→spLeaf ([.ref p,.ref lf,.ref lo,.bl b]++[]) H1 Q2 (E0 []):=fun {Q2} q2=>⟨p,lf,lo,b,fs,fo,k + 1,rfl,S1,by omega,fl1,flo1,q2⟩;have leafQ:∀ v l H',LeafOk l→Has (fun a=>a≠p) H' v (leafD l)→Src H' p (k + 1 + 5)→ButS p H1 H'→Q v H':=fun v l H' ok hh SS bb=>q v (.leaf l) H' ok (Zj _) hh (SS.mono (by omega)) (b1.trans bb);refine ⟨_,rfl,rfl,_,rfl,ite2 (fun _=>iteT ⟨_,rfl,_,rfl,_,rfl,_,rfl,leafR leafQ⟩) (fun c=>⟨_,rfl,_,_,rfl,rfl,_,rfl,ite2 (fun _=>⟨_,rfl,_,rfl,_,rfl,_,rfl,leafR leafQ⟩) (fun _=>?_)⟩)⟩;obtain ⟨d,rfl⟩:∃ d',d=d' + 1:=by
    cases d with
    | zero=>exact absurd (by decide:decide (V.int ((0:Nat):Int)=V.int 0)=true) c
    | succ d=>exact ⟨d,rfl⟩
   have ed:((d + 1:Nat):Int) - 1=(d:Nat):=by omega
   have e3:cT (d + 1)=8 + 3 * cT d:=rfl;have cd:=cT_pos d;have sub:∀ {H2:Hp}{j:Int}{Q2:VK},ButS p H1 H2→Src H2 p j→j + cT d≤700000→(∀ v t H',TrOk t→trH t≤d→Has (fun a=>a≠p) H' v (trD t)→Src H' p (j + cT d)→ButS p H2 H'→Q2 v H')→∀ {xs:List V},xs=[.ref p,.ref lf,.ref lo,.bl b,.int (((d + 1:Nat):Int) - 1)]→spTree (d + 1) xs H2 Q2 (fun _ _ _=>False):=fun {H2 j Q2} b2 S2 hj q2 {xs} ex=>by
    rw [ed] at ex;exact ⟨p,lf,lo,b,fs,fo,j,ex,S2,hj,fl1.but b2,flo1.but b2,q2⟩
   refine ⟨_,rfl,rfl,_,rfl,ite2 (fun _=>?_) (fun _=>?_)⟩
   ·refine ⟨_,rfl,_,rfl,_,rfl,_,rfl,_,rfl,_,_,rfl,rfl,sub (fun _ _ e _=>e) S1 (by omega) (fun v t H2 ok th hh S2 b2=>?_) rfl⟩;refine ⟨small 2 (by decide),fun t9 f9=>?_⟩;exact q _ (.no t) _ (by rw [TrOk];exact ok) (by rw [trH];omega) (by rw [trD];exact .tup (S2.nw f9) zA1 (by show 2≤1000;decide) (.cons (.str _ (by decide) (by decide +kernel)) (.cons (hh.mono (Same.new f9)) .nil))) ((S2.up (Same.new f9)).mono (by omega)) ((b1.trans b2).trans (ButS.same (Same.new f9)))
   ·refine ⟨_,rfl,p,2,k + 1,rfl,S1,by omega,by decide,by decide,fun r2 H2 r20 r21 S2 k2=>⟨_,_,rfl,rfl,?_⟩⟩;obtain ⟨m,rfl⟩:∃ m:Nat,r2=m:=⟨r2.toNat,by omega⟩;have b2:ButS p H1 H2:=ButS.eq k2;refine ⟨((2 + m:Nat):Int),congrArg (fun z:Int=>[V.int z]) (show (2:Int) + (m:Int)=((2 + m:Nat):Int) by omega),by omega,by omega,?_⟩;rw [show ((2 + m:Nat):Int).toNat=2 + m by omega];refine comp_range (lo:=0) (n:=2 + m) (fun i ys H'=>ButS p H2 H'∧Src H' p (k + 2 + i * cT d)∧∃ ts:List Tr,ts.length=i∧(∀ t∈ts,TrOk t∧trH t≤d)∧HasAll (fun a=>a≠p) H' ys (ts.map trD)) ⟨(fun _ _ e _=>e),S2.mono (by omega),[],rfl,(fun t h=>nomatch h),.nil⟩ (fun i ys H' hi z=>?_) ?_ ?_
    ·obtain ⟨_,_,ts,tl,_,hy⟩:=z;rw [hy.length,Z0,tl];exact small _ (by omega)
    ·rintro i ys H' hi ⟨b3,S3,ts,tl,tok,hy⟩ N hN;have ib:(i:Int) * cT d≤2 * cT d:=Int.mul_le_mul_of_nonneg_right (by omega) (by omega);refine pick ⟨_,rfl,_,rfl,_,rfl,_,rfl,_,rfl,_,_,rfl,rfl,sub (b2.trans b3) S3 (by omega) (fun v t H4 ok th hh S4 b4=>hN _ _ ⟨b3.trans b4,S4.mono ?_,ts++[t],by rw [Zg,tl];rfl,fun t' h'=>?_,?_⟩) rfl⟩
     ·have:((i + 1:Nat):Int) * cT d=(i:Int) * cT d + cT d:=by push_cast;rw [Int.add_mul,Int.one_mul]
      omega
     ·rcases List.mem_append.mp h' with h' | h'
      ·exact tok t' h'
      ·rw [List.mem_singleton.mp h'];exact ⟨ok,th⟩
     ·rw [Z6];exact (hy.but b4).snoc hh
    ·rintro ys H' ⟨b3,S3,ts,tl,tok,hy⟩ l9 f9;have s9:Same H' (upd H' l9 (.lst ys)):=Same.new f9;have e9:(upd H' l9 (.lst ys)) l9=some (.lst ys):=zA1;have n9:=S3.nw f9;generalize upd H' l9 (.lst ys)=H9 at s9 e9 ⊢;refine ⟨small 2 (by decide),fun l10 f10=>⟨_,rfl,_,_,rfl,rfl,(by show (0:Int) < 2;decide),?_⟩⟩;obtain ⟨bb,hb⟩:∃ bb:Bool,atI ([.str "&",.str "|"]:List V) (r % 2)=some (.str (sgn bb)):=by
      have m0:0≤r % 2:=Int.emod_nonneg _ (by decide);have m1:r % 2 < 2:=Y6 _ (by decide);have:r % 2=0∨r % 2=1:=by omega
      rcases this with e | e <;> rw [e]
      ·exact ⟨true,rfl⟩
      ·exact ⟨false,rfl⟩
     refine ⟨l10,_,_,_,rfl,rfl,SqL.of zA1,hb,_,rfl,small 2 (by decide),fun t11 f11=>?_⟩;have s11:=(Same.new (o:=HO.lst [.str "&",.str "|"]) f10).trans (Same.new (o:=HO.tup [.str (sgn bb),.ref l9]) f11);have S11:=(S3.up s9).up s11;have mb:((2 + m:Nat):Int) * cT d≤3 * cT d:=Int.mul_le_mul_of_nonneg_right (by omega) (by omega);refine q _ (.node bb ts) _ ?_ ?_ ?_ (S11.mono (by omega)) ((((b1.trans b2).trans b3).trans (ButS.same s9)).trans (ButS.same s11))
     ·rw [TrOk];exact ⟨by omega,by omega,zC4.mpr fun t h=>(tok t h).1⟩
     ·rw [trH];have:=trsH_of fun t h=>(tok t h).2;omega
     ·rw [trD,trsD_eq];refine .tup ((S3.up s9).up (Same.new f10) |>.nw f11) zA1 (by show 2≤1000;decide) (.cons (by cases bb <;> exact .str _ (by decide) (by decide +kernel)) (.cons (.lst n9 (s11 _ _ e9) (by rw [hy.length,Z0];omega) ((hy.but (ButS.same s9)).but (ButS.same s11))) .nil))
end
end L2.W
namespace L2.W
open PySem My
noncomputable def TrV (H:Hp):Tr→List V→Prop
 | .leaf .always,xs=>xs=[.str "always"]
 | .leaf .wanted,xs=>xs=[.str "wanted"]
 | .leaf (.is f v),xs=>xs=[.str "is",.str f,.str v]
 | .leaf (.meets f),xs=>xs=[.str "meets",.str f]
 | .leaf (.owner f v),xs=>xs=[.str "owner",.str f,.str v]
 | .no t,xs=>∃ x,xs=[.str "not",x]∧Has Any H x (trD t)
 | .node b ts,xs=>∃ l ys,xs=[.str (sgn b),.ref l]∧H l=some (.lst ys)∧HasAll Any H ys (ts.map trD)
theorem str1 {G:Addr→Prop}{H:Hp}{xs:List V}{x:Str} (h:HasAll G H xs [.str x]):xs=[.str x]:=by
 cases h with
 | cons h1 h2=>cases h2;rw [h1.str_inv.1]
theorem strC {G:Addr→Prop}{H:Hp}{xs:List V}{x:Str}{ds:List PyData} (h:HasAll G H xs (.str x :: ds)):∃ ys,xs=.str x :: ys∧HasAll G H ys ds:=by
 cases h with
 | cons h1 h2=>rw [h1.str_inv.1];exact ⟨_,rfl,h2⟩
theorem tr_inv {H:Hp}{v:V}{t:Tr} (h:Has Any H v (trD t)):∃ a xs,v=.ref a∧H a=some (.tup xs)∧TrV H t xs:=by
 rcases t with (_ | _ | ⟨f,v⟩ | f | ⟨f,v⟩) | t | ⟨b,ts⟩ <;> rw [trD] at h
 ·obtain ⟨a,xs,rfl,_,ha,_,hx⟩:=h.tup_inv;exact ⟨a,xs,rfl,ha,str1 hx⟩
 ·obtain ⟨a,xs,rfl,_,ha,_,hx⟩:=h.tup_inv;exact ⟨a,xs,rfl,ha,str1 hx⟩
 ·obtain ⟨a,xs,rfl,_,ha,_,hx⟩:=h.tup_inv;obtain ⟨ys,rfl,hy⟩:=strC hx;obtain ⟨zs,rfl,hz⟩:=strC hy;cases str1 hz;exact ⟨a,_,rfl,ha,rfl⟩
 ·obtain ⟨a,xs,rfl,_,ha,_,hx⟩:=h.tup_inv;obtain ⟨ys,rfl,hy⟩:=strC hx;cases str1 hy;exact ⟨a,_,rfl,ha,rfl⟩
 ·obtain ⟨a,xs,rfl,_,ha,_,hx⟩:=h.tup_inv;obtain ⟨ys,rfl,hy⟩:=strC hx;obtain ⟨zs,rfl,hz⟩:=strC hy;cases str1 hz;exact ⟨a,_,rfl,ha,rfl⟩
 ·obtain ⟨a,xs,rfl,_,ha,_,hx⟩:=h.tup_inv;obtain ⟨ys,rfl,hy⟩:=strC hx;cases hy with
  | cons h1 h2=>cases h2;exact ⟨a,_,rfl,ha,_,rfl,h1⟩
 ·obtain ⟨a,xs,rfl,_,ha,_,hx⟩:=h.tup_inv;obtain ⟨ys,rfl,hy⟩:=strC hx;cases hy with
  | cons h1 h2 =>
   cases h2;rw [trsD_eq] at h1;obtain ⟨l,ys,rfl,_,hl,_,hy⟩:=h1.list_inv;exact ⟨a,_,rfl,ha,_,_,rfl,hl,hy⟩
theorem sF {x y:Str}{A B:Prop} (n:x≠y) (h:B):if decide (V.str x=V.str y)=true then A else B:=by
 rw [if_neg (by simpa using n)];exact h
theorem sT {x:Str}{A B:Prop} (h:A):if decide (V.str x=V.str x)=true then A else B:=by
 rw [if_pos (by simp)];exact h
theorem tagF {K:PySem.W.Frag}{k g:Str}{t u:TS}{D:Ends}{σ : St}{H:Hp}{a:Addr}{xs:List V} (h0 : σ[0]? = some (some (.ref a))) (ha:H a=some (.tup (.str g :: xs))) (n:g≠k) (h:u D σ H):tIfS (tTest (tOp rEq (tOp (rIxT K) (tVar 0) (tC (.int 0))) (tC (.str k)))) t u D σ H :=
 ⟨_,h0,a,_,((0:Nat):Int),_,rfl,rfl,SqT.of ha,zB5 rfl,rfl,_,rfl,sF n h⟩
theorem tagT {K:PySem.W.Frag}{k:Str}{t u:TS}{D:Ends}{σ : St}{H:Hp}{a:Addr}{xs:List V} (h0 : σ[0]? = some (some (.ref a))) (ha:H a=some (.tup (.str k :: xs))) (h:t D σ H):tIfS (tTest (tOp rEq (tOp (rIxT K) (tVar 0) (tC (.int 0))) (tC (.str k)))) t u D σ H :=
 ⟨_,h0,a,_,((0:Nat):Int),_,rfl,rfl,SqT.of ha,zB5 rfl,rfl,_,rfl,sT h⟩
theorem zBh {x dx C:Addr}{H:Hp} (hx:H x=none) (hdx:H dx=none) (_:dx≠x):Same H (upd (upd H dx (.own x)) x (.ins C dx [])):=fun a o e=>by
 rw [zAa (zA7 e hx),zAa (zA7 e hdx)];exact e
theorem zBq {x dx C:Addr}{H H':Hp} (hx:H x=none) (hdx:H dx=none) (ne:dx≠x) (b:But x (upd (upd H dx (.own x)) x (.ins C dx [])) H'):Same H H':=fun a o e=>b a o (zBh hx hdx ne a o e) (zA7 e hx)
noncomputable def spObj (A:CA):Nat→Sp
 | 0=>fun _ _ _ _=>False
 | d + 1=>fun vs H Q _=>∃ (v:V) (t:Tr),vs=[v]∧Has Any H v (trD t)∧TrOk t∧trH t≤d∧∀ p H',CondAt A H' p t→Same H H'→Q (.ref p) H'
structure Ini (P:Program) (w:World) (K:PySem.W.Frag) (mg:Str→Option Value) (base:Heap) (CX:CXT) (A:CA) (gIs gMe gOw gNo gBo gEi:FuncData):Prop where
 is:FnOk P w K mg base CX 3 A.fIs gIs ["self", "field", "value"] (spIV A.is_)
 bIs:Binds K gIs ["self", "field", "value"] []
 me:FnOk P w K mg base CX 3 A.fMe gMe ["self", "field"] (spIF A.me)
 bMe:Binds K gMe ["self", "field"] []
 ow:FnOk P w K mg base CX 3 A.fOw gOw ["self", "field", "value"] (spIV A.ow)
 bOw:Binds K gOw ["self", "field", "value"] []
 no:FnOk P w K mg base CX 1 A.fNo gNo ["self", "condition"] (spIC A)
 bNo:Binds K gNo ["self", "condition"] []
 bo:FnOk P w K mg base CX 2 A.fBo gBo ["self", "conditions"] (spIL A A.bo)
 bBo:Binds K gBo ["self", "conditions"] []
 ei:FnOk P w K mg base CX 2 A.fEi gEi ["self", "conditions"] (spIL A A.ei)
 bEi:Binds K gEi ["self", "conditions"] []
theorem CondAll.isC {A:CA}{H:Hp}:∀ {ps:List Addr}{ts:List Tr},CondAll A H ps ts→∀ p∈ps,IsC A H p
 | _,_,.nil,_,h=>nomatch h
 | _,_,.cons a b,p,h=>by
  rcases List.mem_cons.mp h with rfl | h
  ·exact a.isC
  ·exact b.isC p h
section
variable {P:Program}{w:World}{K:PySem.W.Frag}{mg:Str→Option Value}{base:Heap}{CX:CXT}
theorem scOb:FnScope ["_law_tree_here", "_law_some"] ["_law_tree_here"] (defScope sObject):=⟨rfl,rfl,rfl,by decide +kernel,rfl,by decide +kernel,by decide +kernel⟩
theorem ok_obj {f:Addr}{fd gIs gMe gOw gNo gBo gEi:FuncData}{A:CA} (hC:Calm CX) (N:Cnd K mg A) (J:Ini P w K mg base CX A gIs gMe gOw gNo gBo gEi) (DO:Def K mg "_law_object" sObject ["_law_tree_here"] f fd):∀ d,FnOk P w K mg base CX (d + 4) f fd ["_law_tree_here"] (spObj A d)
 | 0=>FnOk.never fun _ _ _ _ z=>z
 | d + 1=>by
  have IH:=ok_obj hC N J DO d;refine Fun.okC DO.fn scOb (fun vs H Q E h=>?_) (fun cdv Ar outer s H vs Q E hr h=>?_)
  ·obtain ⟨v,t,rfl,_⟩:=h;rfl
  ·obtain ⟨v,t,rfl,ht,ok,hh,q⟩:=h;have nd:=scOb.nd;have hr2:=hr.mono (show 2≤d + 4 by omega);have hr3:=hr.mono (show 3≤d + 4 by omega);have hr4:=hr.mono (show 4≤d + 4 by omega)
   refine ⟨_,zA3 (zAn (zAg zBa (zAf zAd (pv 0) zA4 (fun _ _=>rfl)) zAl (nomark _))
      (zA5 (zA9 (zD7 N.kAl rfl N.gAl))) zAb)
      (zA3 (zAn (zAg zBa (zAf zAd (pv 0) zA4 (fun _ _=>rfl)) zAl (nomark _))
      (zA5 (zA9 (zD7 N.kWa rfl N.gWa))) zAb)
      (zA3 (zAn (zAg zBa (zAf zAd (pv 0) zA4 (fun _ _=>rfl)) zAl (nomark _))
      (zA5 (zA9 (zBl N.kIs J.is hr4 rfl N.gIs J.bIs .nil (passC hC) (zA0 (zAf zAd (pv 0) zA4 (fun _ _=>rfl)) (zA0 (zAf zAd (pv 0) zA4 (fun _ _=>rfl)) zA2))))) zAb)
      (zA3 (zAn (zAg zBa (zAf zAd (pv 0) zA4 (fun _ _=>rfl)) zAl (nomark _))
      (zA5 (zA9 (zBl N.kMe J.me hr4 rfl N.gMe J.bMe .nil (passC hC) (zA0 (zAf zAd (pv 0) zA4 (fun _ _=>rfl)) zA2)))) zAb)
      (zA3 (zAn (zAg zBa (zAf zAd (pv 0) zA4 (fun _ _=>rfl)) zAl (nomark _))
      (zA5 (zA9 (zBl N.kOw J.ow hr4 rfl N.gOw J.bOw .nil (passC hC) (zA0 (zAf zAd (pv 0) zA4 (fun _ _=>rfl)) (zA0 (zAf zAd (pv 0) zA4 (fun _ _=>rfl)) zA2))))) zAb)
      (zA3 (zAn (zAg zBa (zAf zAd (pv 0) zA4 (fun _ _=>rfl)) zAl (nomark _))
      (zA5 (zA9 (zBl N.kNo J.no hr2 rfl N.gNo J.bNo .nil (passC hC) (zA0 (zA6 IH hr rfl DO.at_ DO.fn.kp DO.bind .nil (passC hC) (zA0 (zAf zAd (pv 0) zA4 (fun _ _=>rfl)) zA2)) zA2)))) zAb)
      (zA3 (zAy (T:=["_law_one"]) (i:=1) rfl ScOk.auto (zAk (zAf zAd (pv 0) zA4 (fun _ _=>rfl))) (fun _ _ _ _=>zA8 (i:=2) (by decide +kernel:(["_law_tree_here", "_law_some", "_law_one"]:List Str).Nodup) rfl (Or.inl rfl)) (fun _ _ _ _=>zB7) (fun _ _ _ _=>(zA6 IH hr rfl DO.at_ DO.fn.kp DO.bind .nil (passC hC) (zA0 (pv 2) zA2))) nd rfl rfl rfl)
      (zA5 (zA9 (zCb (zAg zBa (zAf zAd (pv 0) zA4 (fun _ _=>rfl)) zAl (nomark _)) (zBl N.kBo J.bo hr3 rfl N.gBo J.bBo .nil (passC hC) (zA0 (pv 1) zA2)) (zBl N.kEi J.ei hr3 rfl N.gEi J.bEi .nil (passC hC) (zA0 (pv 1) zA2))))))))))),?_⟩
   have small:∀ n:Nat,n≤1000→n≤sizeLine:=fun n h=>Zn (small1000 h);obtain ⟨a,xs,rfl,ha,tv⟩:=tr_inv ht;rcases t with (_ | _ | ⟨f,v⟩ | f | ⟨f,v⟩) | t | ⟨b,ts⟩
   ·cases tv;exact tagT rfl ha fun x dx hx hdx ne=>q x _ (.al zA1) (zBh hx hdx ne)
   ·cases tv;exact tagF rfl ha (by decide +kernel) (tagT rfl ha fun x dx hx hdx ne=>q x _ (.wa zA1) (zBh hx hdx ne))
   ·cases tv;have ok:nameOk f∧nameOk v:=by rw [TrOk] at ok;exact ok
    exact tagF rfl ha (by decide +kernel) (tagF rfl ha (by decide +kernel) (tagT rfl ha ⟨_,rfl,a,_,1,_,rfl,rfl,SqT.of ha,rfl,_,rfl,a,_,2,_,rfl,rfl,SqT.of ha,rfl,fun x dx hx hdx ne=>⟨x,dx,f,v,rfl,zA1,ok.1,ok.2,fun H' e b=>⟨rfl,q x H' (.is e) (zBq hx hdx ne b)⟩⟩⟩))
   ·cases tv;have ok:nameOk f:=by rw [TrOk] at ok;exact ok
    exact tagF rfl ha (by decide +kernel) (tagF rfl ha (by decide +kernel) (tagF rfl ha (by decide +kernel) (tagT rfl ha ⟨_,rfl,a,_,1,_,rfl,rfl,SqT.of ha,rfl,fun x dx hx hdx ne=>⟨x,dx,f,rfl,zA1,ok,fun H' e b=>⟨rfl,q x H' (.me e) (zBq hx hdx ne b)⟩⟩⟩)))
   ·cases tv;have ok:nameOk f∧nameOk v:=by rw [TrOk] at ok;exact ok
    exact tagF rfl ha (by decide +kernel) (tagF rfl ha (by decide +kernel) (tagF rfl ha (by decide +kernel) (tagF rfl ha (by decide +kernel) (tagT rfl ha ⟨_,rfl,a,_,1,_,rfl,rfl,SqT.of ha,rfl,_,rfl,a,_,2,_,rfl,rfl,SqT.of ha,rfl,fun x dx hx hdx ne=>⟨x,dx,f,v,rfl,zA1,ok.1,ok.2,fun H' e b=>⟨rfl,q x H' (.ow e) (zBq hx hdx ne b)⟩⟩⟩))))
   ·obtain ⟨x,rfl,hx⟩:=tv;rw [trH] at hh;rw [TrOk] at ok;obtain ⟨d,rfl⟩:∃ d',d=d' + 1:=⟨d - 1,by omega⟩;exact tagF rfl ha (by decide +kernel) (tagF rfl ha (by decide +kernel) (tagF rfl ha (by decide +kernel) (tagF rfl ha (by decide +kernel) (tagF rfl ha (by decide +kernel) (tagT rfl ha ⟨_,rfl,a,_,1,_,rfl,rfl,SqT.of ha,rfl,x,t,rfl,hx,ok,by omega,fun p H1 c1 s1=>fun x dx hx hdx ne=>⟨x,dx,p,rfl,zA1,c1.isC.same (zBh hx hdx ne),fun H' e b=>⟨rfl,q x H' (.no e (c1.same (zBq hx hdx ne b))) (s1.trans (zBq hx hdx ne b))⟩⟩⟩)))))
   ·obtain ⟨l,ys,rfl,hl,hy⟩:=tv;rw [trH] at hh;obtain ⟨t2,t50,tok⟩:2≤ts.length∧ts.length≤50∧TrsOk ts:=by rwa [TrOk] at ok
    obtain ⟨d,rfl⟩:∃ d',d=d' + 1:=⟨d - 1,by omega⟩;have sg:∀ k:Str,("&" : Str)≠k→("|" : Str)≠k→sgn b≠k:=fun k h1 h2=>by cases b <;> assumption
    refine tagF rfl ha (sg _ (by decide +kernel) (by decide +kernel)) (tagF rfl ha (sg _ (by decide +kernel) (by decide +kernel)) (tagF rfl ha (sg _ (by decide +kernel) (by decide +kernel)) (tagF rfl ha (sg _ (by decide +kernel) (by decide +kernel)) (tagF rfl ha (sg _ (by decide +kernel) (by decide +kernel)) (tagF rfl ha (sg _ (by decide +kernel) (by decide +kernel)) ?_)))));have yl:ys.length=ts.length:=by rw [hy.length,Z0]
    refine ⟨_,rfl,a,_,1,_,rfl,rfl,SqT.of ha,rfl,l,rfl,⟨_,SqL.of hl⟩,zAj (xs:=ys) (fun i zs H'=>Same H H'∧∃ ps:List Addr,zs=ps.map V.ref∧CondAll A H' ps (ts.take i)) ⟨Same.refl _,[],rfl,.nil⟩ (fun i zs H' z=>SqL.of (z.1 _ _ hl)) (fun i zs H' hi z=>?_) ?_ ?_⟩
    ·obtain ⟨_,ps,rfl,c⟩:=z;rw [Z0,c.len];have:=Zp i ts;exact small _ (by omega)
    ·rintro i x zs H' hi ⟨s1,ps,rfl,c⟩ Nn hN;obtain ⟨dd,hd,hv⟩:=hy.get hi;rw [Z4] at hd;cases et:ts[i]? with
     | none=>rw [et] at hd;cases hd
     | some t =>
      rw [et] at hd;cases hd;have mt:=Z1 et;have:=zCw mt;refine pick ⟨_,rfl,x,t,rfl,hv.mono s1,zC4.mp tok t mt,by omega,fun p H2 c2 s2=>hN _ _ ⟨s1.trans s2,ps++[p],by rw [Z6];rfl,?_⟩⟩;rw [Z5,et];exact (c.same s2).snoc c2
    ·rintro zs H' ⟨s1,ps,rfl,c⟩ l9 f9;rw [yl,Zb] at c;have s9:Same H' (upd H' l9 (.lst (ps.map V.ref))):=Same.new f9;have e9:(upd H' l9 (.lst (ps.map V.ref))) l9=some (.lst (ps.map V.ref)):=zA1;generalize upd H' l9 (.lst (ps.map V.ref))=H9 at s9 e9 ⊢;have c9:=c.same s9;have sa:=s1.trans s9;have cl:=c.len;refine ⟨_,rfl,a,_,0,_,rfl,rfl,SqT.of (sa _ _ ha),rfl,rfl,_,rfl,?_⟩;cases b with
     | true=>exact sT ⟨_,rfl,fun x dx hx hdx ne=>⟨x,dx,l9,ps,rfl,zA1,zBh hx hdx ne _ _ e9,by omega,by omega,fun p hp=>(c9.isC p hp).same (zBh hx hdx ne),fun H' l' e el fr b=>⟨rfl,q x H' (.bo e el (c9.same (zBq hx hdx ne b))) (sa.trans (zBq hx hdx ne b))⟩⟩⟩
     | false=>exact sF (by decide +kernel) ⟨_,rfl,fun x dx hx hdx ne=>⟨x,dx,l9,ps,rfl,zA1,zBh hx hdx ne _ _ e9,by omega,by omega,fun p hp=>(c9.isC p hp).same (zBh hx hdx ne),fun H' l' e el fr b=>⟨rfl,q x H' (.ei e el (c9.same (zBq hx hdx ne b))) (sa.trans (zBq hx hdx ne b))⟩⟩⟩
end
end L2.W
namespace L2.W
open PySem My
noncomputable def spVal:Sp:=fun vs H Q _=>∃ (lf:Addr) (x:V) (fs:List (Str×List Str)) (w:Option (List (Option Str))) (f:Str),vs=[.ref lf,x,.str f]∧Has Any H (.ref lf) (.list (fs.map fieldD))∧OptAt H x w∧(∀ st,w=some st→∀ i,placeOf fs f=some i→i < st.length)∧∀ H',Same H H'→Q (ownV (valIn fs w f)) H'
theorem place_in {fs:List (Str×List Str)}{f:Str}:decide (f∈fs.map (·.1))=(placeOf fs f).isSome:=by
 cases e:placeOf fs f with
 | none=>rw [decide_eq_false (zCs e)];rfl
 | some i=>rw [decide_eq_true (Z1 (zBk e).1)];rfl
section
variable {P:Program}{w:World}{K:PySem.W.Frag}{mg:Str→Option Value}{base:Heap}{CX:CXT}
theorem scVa:FnScope ["_law_fields_here", "_law_state", "_law_field", "_law_names"] ["_law_fields_here", "_law_state", "_law_field"] (defScope sValue):=⟨rfl,rfl,rfl,by decide +kernel,rfl,by decide +kernel,by decide +kernel⟩
theorem ok_val {f:Addr}{fd:FuncData} (F:Fun K "_law_value" "_law_value" sValue f fd):FnOk P w K mg base CX 1 f fd ["_law_fields_here", "_law_state", "_law_field"] spVal:=by
 refine Fun.okC F scVa (fun vs H Q E h=>?_) (fun cdv A outer s H vs Q E hr h=>?_)
 ·obtain ⟨lf,x,fs,w,f,rfl,_⟩:=h;rfl
 ·obtain ⟨lf,x,fs,w,f,rfl,hf,ho,hle,q⟩:=h;have nd:=scVa.nd
  refine ⟨_,zA3 (zAy (T:=["_law_name", "_law_values"]) (i:=3) rfl ScOk.auto (zAk (pv 0)) (fun _ _ _ _=>zBu (K:=K) (n:=2) rfl rfl (zAe (zA8 (i:=4) (by decide +kernel:(["_law_fields_here", "_law_state", "_law_field", "_law_names", "_law_name", "_law_values"]:List Str).Nodup) rfl (Or.inl rfl)) (zAe (zA8 (i:=5) (by decide +kernel:(["_law_fields_here", "_law_state", "_law_field", "_law_names", "_law_name", "_law_values"]:List Str).Nodup) rfl (Or.inl rfl)) zB2))) (fun _ _ _ _=>zB7) (fun _ _ _ _=>(pv 4)) nd rfl rfl rfl)
     (zA3 (zAn (PW.pt (zBi (zB6 (zBn (pv 1))) (zB9 (zAg zBz (pv 2) (pv 3) rfl))))
     (zA5 (zA9 zBd)) zAb)
     (zA5 (zA9 (zAf zAd (pv 1) (zEi PySem.F.plainAttrs_list PySem.F.slot_list_index PySem.F.type_list_index (mt_lindex rfl) (pv 3) (zA0 (pv 2) zA2)) (fun _ _=>rfl))))),?_⟩
  have small:∀ n:Nat,n≤1000→n≤sizeLine:=fun n h=>Zn (small1000 h);obtain ⟨l',xs,e',_,hl,hz,hx⟩:=hf.list_inv;cases e';have xl:xs.length=fs.length:=by rw [hx.length,Z0]
  refine ⟨_,rfl,lf,rfl,⟨_,SqL.of hl⟩,?_⟩;refine
   zAj (xs:=xs) (fun i ys H'=>H=H'∧ys=((fs.take i).map (·.1)).map V.str) ⟨rfl,rfl⟩ (fun i ys H' p=>by rw [← p.1];exact SqL.of hl) (fun i ys H' hi p=>by rw [p.2,Z0,Z0,Zk];exact small _ (by omega)) (fun i x ys H' hi z N hN=>(by
    obtain ⟨rfl,rfl⟩:=z;obtain ⟨d,hd,hv⟩:=hx.get hi;rw [Z4] at hd;cases ef:fs[i]? with
    | none=>rw [ef] at hd;cases hd
    | some f =>
     rw [ef] at hd;cases hd;obtain ⟨b,lv,rfl,hb,_⟩:=zB8 hv;refine pickT (SqT.of hb) ⟨_,rfl,hN _ _ ⟨rfl,?_⟩⟩;rw [Z5,ef,Z6,Z6]
     rfl)) ?_
  rintro ys H' ⟨rfl,rfl⟩ ln hln;rw [xl,Zb];have s1:Same H (upd H ln (.lst ((fs.map (·.1)).map V.str))):=Same.new hln;have e1:(upd H ln (.lst ((fs.map (·.1)).map V.str))) ln=some (.lst ((fs.map (·.1)).map V.str)):=zA1;generalize upd H ln (.lst ((fs.map (·.1)).map V.str))=H1 at s1 e1 ⊢;have h1:=ho.same s1;cases w with
  | none =>
   cases (show x=.non from h1);exact ⟨_,rfl,_,rfl,iteT (iteT (q _ s1))⟩
  | some st =>
   obtain ⟨a,rfl,ha⟩:=h1;refine ⟨_,rfl,_,rfl,iteF ⟨_,rfl,_,rfl,ln,_,rfl,.inl (SqL.of e1),rfl,flats _,_,rfl,?_⟩⟩;show if (!inV (.str f) ((fs.map (·.1)).map V.str))=true then _ else _
   rw [zCm,place_in];have q1:=q _ s1;unfold valIn at q1;cases e:placeOf fs f with
   | none =>
    rw [e] at q1;exact iteT q1
   | some i =>
    rw [e] at q1;obtain ⟨p1,p2⟩:=zBk e;refine iteF ⟨_,rfl,_,rfl,.inl ⟨rfl,_,SqL.of e1⟩,_,rfl,ln,fs.map (·.1),f,i,rfl,rfl,SqL.of e1,p1,p2,a,_,(i:Nat),ownV (st.getD i none),rfl,rfl,SqT.of ha,zB5 ?_,q1⟩;have lt:i < st.length:=hle st rfl i e;rw [Z4,Z3 lt,List.getD_eq_getElem?_getD,Z3 lt];rfl
end
end L2.W
namespace L2.W
open PySem My
noncomputable def spLH:Nat→Sp
 | 0=>fun _ _ _ _=>False
 | d + 1=>fun vs H Q _=>∃ (v:V) (l a:Addr) (t:Tr) (rs:List Row) (r:Row) (w o s:Option (List (Option Str))),vs=[v,.ref l,.ref a]∧Has Any H v (trD t)∧TrOk t∧trH t≤d∧Has Any H (.ref l) (.list (rs.map rowD))∧RowsP rs∧SitAt H a r w o s∧SitOk rs r w o s∧∀ H',Same H H'→Q (.bl (ev (evL rs r w o s) t)) H'
theorem valIn_nil {w:Option (List (Option Str))}{f:Str}:valIn [] w f=none:=by cases w <;> rfl
theorem evL_ow {rs:List Row}{r:Row}{w o s:Option (List (Option Str))}{f v:Str}:evL rs r w o s (.owner f v)=decide (valIn (fieldsO rs r.owner) o f=some v):=by
 show (match r.owner with | none=>false | some n=>decide (valIn (fieldsOf rs n) o f=some v))=_;cases r.owner with
 | none =>
  show false=decide (valIn [] o f=some v);rw [valIn_nil];rfl
 | some n=>rfl
section
variable {P:Program}{w:World}{K:PySem.W.Frag}{mg:Str→Option Value}{base:Heap}{CX:CXT}
theorem scLh:FnScope ["_law_tree_here", "_law_spec", "_law_situation", "_law_kind", "_law_wished", "_law_above", "_law_state", "_law_fields_here", "_law_care", "_law_some"] ["_law_tree_here", "_law_spec", "_law_situation"] (defScope sHolds):=⟨rfl,rfl,rfl,by decide +kernel,rfl,by decide +kernel,by decide +kernel⟩
theorem ok_lh {f fv ff fo:Addr}{fd fdv fdf fdo:FuncData} (hC:Calm CX) (T:Tops K mg) (DH:Def K mg "_law_holds" sHolds ["_law_tree_here", "_law_spec", "_law_situation"] f fd) (DV:Def K mg "_law_value" sValue ["_law_fields_here", "_law_state", "_law_field"] fv fdv) (GV:FnOk P w K mg base CX 1 fv fdv ["_law_fields_here", "_law_state", "_law_field"] spVal)
  (DF:Def K mg "_law_fields" sLFields ["_law_spec", "_law_kind"] ff fdf) (GF:FnOk P w K mg base CX 1 ff fdf ["_law_spec", "_law_kind"] spLFl) (DO:Def K mg "_law_owner" sOwner ["_law_spec", "_law_kind"] fo fdo) (GO:FnOk P w K mg base CX 1 fo fdo ["_law_spec", "_law_kind"] spLOw):∀ d,FnOk P w K mg base CX (d + 3) f fd ["_law_tree_here", "_law_spec", "_law_situation"] (spLH d)
 | 0=>FnOk.never fun _ _ _ _ z=>z
 | d + 1=>by
  have IH:=ok_lh hC T DH DV GV DF GF DO GO d;refine Fun.okC DH.fn scLh (fun vs H Q E h=>?_) (fun cdv Ar outer sh H vs Q E hr h=>?_)
  ·obtain ⟨v,l,a,t,rs,r,w,o,s,rfl,_⟩:=h;rfl
  ·obtain ⟨v,l,a,t,rs,r,w,o,s,rfl,ht,ok,hh,hd,rp,st,so,q⟩:=h;have nd:=scLh.nd;have hr1:=hr.mono (show 1≤d + 3 by omega)
   refine ⟨_,zA3 (zD5 (pv 2) (zC6 rfl (zAe (zA8 (i:=3) nd rfl (Or.inl rfl)) (zAe (zA8 (i:=4) nd rfl (Or.inl rfl)) (zAe (zA8 (i:=5) nd rfl (Or.inl rfl)) (zAe (zA8 (i:=6) nd rfl (Or.inl rfl)) zB2))))))
      (zA3 (zAi (i:=7) nd rfl (Or.inl rfl) (zA6 GF hr1 rfl DF.at_ DF.fn.kp DF.bind .nil (passC hC) (zA0 (pv 1) (zA0 (pv 3) zA2))))
      (zA3 (zAn (zAg zBa (zAf zAd (pv 0) zA4 (fun _ _=>rfl)) zAl (nomark _))
      (zA5 (zA9 zC7)) zAb)
      (zA3 (zAn (zAg zBa (zAf zAd (pv 0) zA4 (fun _ _=>rfl)) zAl (nomark _))
      (zA5 (zA9 (zAq zCj (pv 4) zBd (nomark _)))) zAb)
      (zA3 (zAn (zAg zBa (zAf zAd (pv 0) zA4 (fun _ _=>rfl)) zAl (nomark _))
      (zA5 (zA9 (zAq zBa (zA6 GV hr1 rfl DV.at_ DV.fn.kp DV.bind .nil (passC hC) (zA0 (pv 7) (zA0 (pv 6) (zA0 (zAf zAd (pv 0) zA4 (fun _ _=>rfl)) zA2)))) (zAf zAd (pv 0) zA4 (fun _ _=>rfl)) (nomark _)))) zAb)
      (zA3 (zAn (zAg zBa (zAf zAd (pv 0) zA4 (fun _ _=>rfl)) zAl (nomark _))
      (zA3 (zAn (PW.pt (zBi (zB6 (zBn (pv 4))) (zBi (zB6 (zBn (pv 6))) (zB9 (zAg zBz (zAf zAd (pv 0) zA4 (fun _ _=>rfl)) (zB0 (T:=["_law_name", "_law_values"]) rfl ScOk.auto (zAk (pv 7)) (fun _ _ _ _=>zBu (K:=K) (n:=2) rfl rfl (zAe (zA8 (i:=10) (by decide +kernel:(["_law_tree_here", "_law_spec", "_law_situation", "_law_kind", "_law_wished", "_law_above", "_law_state", "_law_fields_here", "_law_care", "_law_some", "_law_name", "_law_values"]:List Str).Nodup) rfl (Or.inl rfl)) (zAe (zA8 (i:=11) (by decide +kernel:(["_law_tree_here", "_law_spec", "_law_situation", "_law_kind", "_law_wished", "_law_above", "_law_state", "_law_fields_here", "_law_care", "_law_some", "_law_name", "_law_values"]:List Str).Nodup) rfl (Or.inl rfl)) zB2))) (fun _ _ _ _=>zB7) (fun _ _ _ _=>(pv 10))) rfl)))))
      (zA5 (zA9 zC7)) zAb)
      (zA3 (zAi (i:=8) nd rfl (Or.inl rfl) (zA6 GV hr1 rfl DV.at_ DV.fn.kp DV.bind .nil (passC hC) (zA0 (pv 7) (zA0 (pv 4) (zA0 (zAf zAd (pv 0) zA4 (fun _ _=>rfl)) zA2)))))
      (zA5 (zA9 (pe_or (zAq op_isN (pv 8) zBd (nomark _)) (zCe (zAq zBa (pv 8) (zA6 GV hr1 rfl DV.at_ DV.fn.kp DV.bind .nil (passC hC) (zA0 (pv 7) (zA0 (pv 6) (zA0 (zAf zAd (pv 0) zA4 (fun _ _=>rfl)) zA2)))) (nomark _)))))))) zAb)
      (zA3 (zAn (zAg zBa (zAf zAd (pv 0) zA4 (fun _ _=>rfl)) zAl (nomark _))
      (zA3 (zAi (i:=7) nd rfl (Or.inl rfl) (zA6 GF hr1 rfl DF.at_ DF.fn.kp DF.bind .nil (passC hC) (zA0 (pv 1) (zA0 (zA6 GO hr1 rfl DO.at_ DO.fn.kp DO.bind .nil (passC hC) (zA0 (pv 1) (zA0 (pv 3) zA2))) zA2))))
      (zA5 (zA9 (zAq zBa (zA6 GV hr1 rfl DV.at_ DV.fn.kp DV.bind .nil (passC hC) (zA0 (pv 7) (zA0 (pv 5) (zA0 (zAf zAd (pv 0) zA4 (fun _ _=>rfl)) zA2)))) (zAf zAd (pv 0) zA4 (fun _ _=>rfl)) (nomark _))))) zAb)
      (zA3 (zAn (zAg zBa (zAf zAd (pv 0) zA4 (fun _ _=>rfl)) zAl (nomark _))
      (zA5 (zA9 (pe_not (zA6 IH hr rfl DH.at_ DH.fn.kp DH.bind .nil (passC hC) (zA0 (zAf zAd (pv 0) zA4 (fun _ _=>rfl)) (zA0 (pv 1) (zA0 (pv 2) zA2))))))) zAb)
      (zA3 (zAy (T:=["_law_one"]) (i:=9) rfl ScOk.auto (zAk (zAf zAd (pv 0) zA4 (fun _ _=>rfl))) (fun _ _ _ _=>zA8 (i:=10) (by decide +kernel:(["_law_tree_here", "_law_spec", "_law_situation", "_law_kind", "_law_wished", "_law_above", "_law_state", "_law_fields_here", "_law_care", "_law_some", "_law_one"]:List Str).Nodup) rfl (Or.inl rfl)) (fun _ _ _ _=>zB7) (fun _ _ _ _=>(zA6 IH hr rfl DH.at_ DH.fn.kp DH.bind .nil (passC hC) (zA0 (pv 10) (zA0 (pv 1) (zA0 (pv 2) zA2))))) nd rfl rfl rfl)
      (zA5 (zA9 (zCb (zAg zBa (zAf zAd (pv 0) zA4 (fun _ _=>rfl)) zAl (nomark _)) (zAh (zC1 rfl) rfl T.all PyProof.Rows.boot_all (zA0 (pv 9) zA2)) (zAh (call_any (K:=K) rfl rfl) rfl T.any PyProof.Rows.boot_any (zA0 (pv 9) zA2))))))))))))),?_⟩
   have small:∀ n:Nat,n≤1000→n≤sizeLine:=fun n h=>Zn (small1000 h);obtain ⟨vw,vo,vs,h0,hw,ho,hs⟩:=id st;obtain ⟨a0,xs0,rfl,ha0,_⟩:=tr_inv ht;refine ⟨_,rfl,a,_,rfl,SqT.of h0,rfl,_,_,rfl,_,_,rfl,_,_,rfl,_,_,rfl,rfl,?_⟩;refine ⟨_,rfl,_,rfl,Any,l,rs,some r.name,rfl,hd,rp,fun lf H1 s1 hf=>?_⟩;obtain ⟨a',xs,ea,ha,tv⟩:=tr_inv (ht.mono s1);cases ea;clear ha0;have hf:=hf.any;rw [show fieldsO rs (some r.name)=r.fields from zB4 rp so.mem] at hf;have hw:=hw.same s1;have ho:=ho.same s1;have hs:=hs.same s1;have pls:∀ f st,s=some st→∀ i,placeOf r.fields f=some i→i < st.length:=fun f st e i hi=>by rw [so.ls st e];exact zBr hi
   have plw:∀ f st,w=some st→∀ i,placeOf r.fields f=some i→i < st.length:=fun f st e i hi=>by rw [so.lw st e];exact zBr hi
   have plo:∀ f st,o=some st→∀ i,placeOf (fieldsO rs r.owner) f=some i→i < st.length:=fun f st e i hi=>by
    cases eo:r.owner with
    | none=>rw [eo] at hi;cases hi
    | some n=>rw [eo] at hi;rw [so.lo n eo st e];exact zBr hi
   have q:=fun H' (s2:Same H1 H')=>q H' (s1.trans s2);rcases t with (_ | _ | ⟨f,v⟩ | f | ⟨f,v⟩) | t | ⟨b,ts⟩
   ·cases tv;exact tagT rfl ha (q _ (Same.refl _))
   ·cases tv;refine tagF rfl ha (by decide +kernel) (tagT rfl ha ⟨_,rfl,rfl,?_⟩);have q1:=q _ (Same.refl _);rw [show ev (evL rs r w o s) (.leaf .wanted) = !decide (vw=V.non) by rw [hw.non];cases w <;> rfl] at q1;exact q1
   ·cases tv;refine tagF rfl ha (by decide +kernel) (tagF rfl ha (by decide +kernel) (tagT rfl ha ⟨_,rfl,_,rfl,_,rfl,a0,_,1,_,rfl,rfl,SqT.of ha,rfl,lf,vs,r.fields,s,f,rfl,hf,hs,pls f,fun H2 s2=>⟨_,rfl,a0,_,2,_,rfl,rfl,SqT.of (s2 _ _ ha),rfl,zCr _ (some v),?_⟩⟩));rw [zEs];exact q _ s2
   ·cases tv;refine tagF rfl ha (by decide +kernel) (tagF rfl ha (by decide +kernel) (tagF rfl ha (by decide +kernel) (tagT rfl ha ⟨_,rfl,_,rfl,?_⟩)));rw [hw.non];cases w with
    | none=>exact iteT (iteT (q _ (Same.refl _)))
    | some sw =>
     refine iteF ⟨_,rfl,_,rfl,?_⟩;rw [hs.non];cases s with
     | none=>exact iteT (iteT (q _ (Same.refl _)))
     | some ss =>
      refine iteF ⟨_,rfl,a0,_,1,_,rfl,rfl,SqT.of ha,rfl,?_⟩;obtain ⟨l',xs,e',_,hl,hz,hx⟩:=hf.list_inv;cases e';have xl:xs.length=r.fields.length:=by rw [hx.length,Z0]
      refine ⟨_,rfl,lf,rfl,⟨_,SqL.of hl⟩,?_⟩;generalize efs:r.fields=fs at *;refine
       zAj (xs:=xs) (fun i ys H'=>H1=H'∧ys=((fs.take i).map (·.1)).map V.str) ⟨rfl,rfl⟩ (fun i ys H' p=>by rw [← p.1];exact SqL.of hl) (fun i ys H' hi p=>by rw [p.2,Z0,Z0,Zk];exact small _ (by omega)) (fun i x ys H' hi z N hN=>(by
        obtain ⟨rfl,rfl⟩:=z;obtain ⟨d,hd,hv⟩:=hx.get hi;rw [Z4] at hd;cases ef:fs[i]? with
        | none=>rw [ef] at hd;cases hd
        | some f =>
         rw [ef] at hd;cases hd;obtain ⟨b,lv,rfl,hb,_⟩:=zB8 hv;refine pickT (SqT.of hb) ⟨_,rfl,hN _ _ ⟨rfl,?_⟩⟩;rw [Z5,ef,Z6,Z6]
         rfl)) ?_
      rintro ys H' ⟨rfl,rfl⟩ ln hln;rw [xl,Zb];have s2:Same H1 (upd H1 ln (.lst ((fs.map (·.1)).map V.str))):=Same.new hln;have e2:(upd H1 ln (.lst ((fs.map (·.1)).map V.str))) ln=some (.lst ((fs.map (·.1)).map V.str)):=zA1;generalize upd H1 ln (.lst ((fs.map (·.1)).map V.str))=H2 at s2 e2 ⊢;refine ⟨ln,_,rfl,.inl (SqL.of e2),rfl,flats _,_,rfl,?_⟩;show if (!inV (.str f) ((fs.map (·.1)).map V.str))=true then _ else _
      rw [zCm,place_in];have q1:∀ H',Same H1 H'→Q (.bl ((placeOf fs f).isSome && (match valIn fs (some sw) f with | none=>true | some x=>decide (valIn fs (some ss) f=some x)))) H':=fun H' s'=>by
       have z:=q H' s';rw [show ev (evL rs r (some sw) o (some ss)) (.leaf (.meets f))=((placeOf r.fields f).isSome && (match valIn r.fields (some sw) f with | none=>true | some x=>decide (valIn r.fields (some ss) f=some x))) by show (true && (true && _))=_;rfl,efs] at z;exact z
      cases ep:placeOf fs f with
      | none =>
       have q2:=q1 _ s2;rw [ep] at q2;exact iteT q2
      | some i =>
       rw [ep] at q1;refine iteF ⟨_,rfl,_,rfl,_,rfl,a0,_,1,_,rfl,rfl,SqT.of (s2 _ _ ha),rfl,lf,vw,fs,some sw,f,rfl,hf.mono s2,hw.same s2,plw f,fun H3 s3=>?_⟩;have s13:=s2.trans s3;cases ev1:valIn fs (some sw) f with
       | none =>
        rw [ev1] at q1;exact ⟨_,rfl,rfl,true,rfl,iteT (q1 _ s13)⟩
       | some x =>
        rw [ev1] at q1;refine ⟨_,rfl,rfl,false,rfl,iteF ?_⟩;refine ⟨_,rfl,_,rfl,_,rfl,_,rfl,a0,_,1,_,rfl,rfl,SqT.of (s13 _ _ ha),rfl,lf,vs,fs,some ss,f,rfl,hf.mono s13,hs.same s13,pls f,fun H4 s4=>⟨zCr (some x) _,?_⟩⟩;have z:Q (.bl (decide (valIn fs (some ss) f=some x))) H4:=q1 _ (s13.trans s4);rw [← zEs,show decide (ownV (valIn fs (some ss) f)=V.str x)=decide (V.str x=ownV (valIn fs (some ss) f)) by rw [Y4,decide_eq_true_eq,decide_eq_true_eq];exact eq_comm] at z;exact z
   ·cases tv;refine tagF rfl ha (by decide +kernel) (tagF rfl ha (by decide +kernel) (tagF rfl ha (by decide +kernel) (tagF rfl ha (by decide +kernel) (tagT rfl ha ⟨_,rfl,_,rfl,_,rfl,l,rs,r,rfl,hd.mono s1,rp,so.mem,fun H2 s2=>⟨Any,l,rs,r.owner,rfl,(hd.mono s1).mono s2,rp,fun lo H3 s3 hfo=>?_⟩⟩))));have s23:=s2.trans s3;refine ⟨_,rfl,_,rfl,_,rfl,a0,_,1,_,rfl,rfl,SqT.of (s23 _ _ ha),rfl,lo,vo,_,o,f,rfl,hfo.any,ho.same s23,plo f,fun H4 s4=>⟨_,rfl,a0,_,2,_,rfl,rfl,SqT.of (s4 _ _ (s23 _ _ ha)),rfl,zCr _ (some v),?_⟩⟩;rw [zEs];have z:=q _ (s23.trans s4);rw [show ev (evL rs r w o s) (.leaf (.owner f v))=_ from evL_ow] at z;exact z
   ·obtain ⟨x,rfl,hx⟩:=tv;rw [trH] at hh;rw [TrOk] at ok;obtain ⟨d,rfl⟩:∃ d',d=d' + 1:=⟨d - 1,by omega⟩;refine tagF rfl ha (by decide +kernel) (tagF rfl ha (by decide +kernel) (tagF rfl ha (by decide +kernel) (tagF rfl ha (by decide +kernel) (tagF rfl ha (by decide +kernel) (tagT rfl ha ⟨_,rfl,a0,_,1,_,rfl,rfl,SqT.of ha,rfl,_,rfl,_,rfl,x,l,a,t,rs,r,w,o,s,rfl,hx,ok,by omega,hd.mono s1,rp,st.same s1,so,fun H2 s2=>⟨_,rfl,?_⟩⟩)))));have z:=q _ s2;rw [ev] at z;exact z
   ·obtain ⟨l1,ys,rfl,hl,hy⟩:=tv;rw [trH] at hh;obtain ⟨t2,t50,tok⟩:2≤ts.length∧ts.length≤50∧TrsOk ts:=by rwa [TrOk] at ok
    obtain ⟨d,rfl⟩:∃ d',d=d' + 1:=⟨d - 1,by omega⟩;have sg:∀ k:Str,("&" : Str)≠k→("|" : Str)≠k→sgn b≠k:=fun k h1 h2=>by cases b <;> assumption
    refine tagF rfl ha (sg _ (by decide +kernel) (by decide +kernel)) (tagF rfl ha (sg _ (by decide +kernel) (by decide +kernel)) (tagF rfl ha (sg _ (by decide +kernel) (by decide +kernel)) (tagF rfl ha (sg _ (by decide +kernel) (by decide +kernel)) (tagF rfl ha (sg _ (by decide +kernel) (by decide +kernel)) (tagF rfl ha (sg _ (by decide +kernel) (by decide +kernel)) ?_)))));have yl:ys.length=ts.length:=by rw [hy.length,Z0]
    refine ⟨_,rfl,a0,_,1,_,rfl,rfl,SqT.of ha,rfl,l1,rfl,⟨_,SqL.of hl⟩,zAj (xs:=ys) (fun i zs H'=>Same H1 H'∧zs=((ts.take i).map (ev (evL rs r w o s))).map V.bl) ⟨Same.refl _,rfl⟩ (fun i zs H' z=>SqL.of (z.1 _ _ hl)) (fun i zs H' hi z=>?_) ?_ ?_⟩
    ·rw [z.2,Z0,Z0];have:=Zp i ts;exact small _ (by omega)
    ·rintro i x zs H' hi ⟨s2,rfl⟩ Nn hN;obtain ⟨dd,hd',hv⟩:=hy.get hi;rw [Z4] at hd';cases et:ts[i]? with
     | none=>rw [et] at hd';cases hd'
     | some t =>
      rw [et] at hd';cases hd';have mt:=Z1 et;have:=zCw mt;refine pick ⟨_,rfl,_,rfl,_,rfl,x,l,a,t,rs,r,w,o,s,rfl,hv.mono s2,zC4.mp tok t mt,by omega,hd.mono (s1.trans s2),rp,st.same (s1.trans s2),so,fun H2 s3=>hN _ _ ⟨s2.trans s3,?_⟩⟩;rw [Z5,et,Z6,Z6];rfl
    ·rintro zs H' ⟨s2,rfl⟩ l9 f9;rw [yl,Zb];generalize eB:ts.map (ev (evL rs r w o s))=B;have s9:Same H' (upd H' l9 (.lst (B.map V.bl))):=Same.new f9;have e9:(upd H' l9 (.lst (B.map V.bl))) l9=some (.lst (B.map V.bl)):=zA1;generalize upd H' l9 (.lst (B.map V.bl))=H9 at s9 e9 ⊢;have sa:=s2.trans s9;have z:=q _ sa;rw [ev,evs_eq,eB] at z;refine ⟨_,rfl,a0,_,0,_,rfl,rfl,SqT.of (sa _ _ ha),rfl,rfl,_,rfl,?_⟩;cases b with
     | true=>exact sT ⟨_,rfl,l9,B,rfl,SqL.of e9,z⟩
     | false=>exact sF (by decide +kernel) ⟨_,rfl,l9,B,rfl,SqL.of e9,z⟩
end
end L2.W
namespace L2.W
open PySem My
theorem zEv {k:Key}{v:V}:∀ {kvs:List (Key×V)},(kvs.map (·.1)).Nodup→(k,v)∈kvs→valV kvs k=some v
 | [],_,h=>nomatch h
 | (a,b) :: t,nd,h=>by
  rw [Zt,List.nodup_cons] at nd;rcases List.mem_cons.mp h with e | h
  ·cases e;exact zD1 rfl
  ·have ne:a≠k:=fun z=>nd.1 (by rw [show (a,b).1=k from z];exact List.mem_map.mpr ⟨_,h,rfl⟩);rw [zD2 ne];exact zEv nd.2 h
theorem kdOf {CK C:Addr}{H:Hp}{q d:Addr}{kvs:List (Key×V)}{zs:List (Addr×Row)}{ord:List Str}{G:Addr→Prop} (ka:KindsAt CK H q d kvs) (nd:(zs.map fun z=>z.2.name).Nodup) (kf:∀ z∈zs,KF C G H z.1 z.2) (pl:Placed zs ord kvs) (op:ord.Perm (zs.map fun z=>z.2.name)):Kd CK C H q (zs.map (·.2)):=by
 have keys:kvs.map (·.1)=ord.map Sum.inr:=by
  clear op ka
  induction pl with
  | nil=>rfl
  | cons r _ ih =>
   obtain ⟨q,_,e,_⟩:=r;rw [Zt,Zt,ih,e]
 have ndk:(kvs.map (·.1)).Nodup:=by
  rw [keys];exact List.pairwise_map.mpr ((op.nodup_iff.mpr nd).imp fun h e=>h (Sum.inr.inj e))
 refine ⟨d,kvs,zs,ka,rfl,fun z hz=>⟨(kf z hz).frame (fun _ _ e _=>e) fun _ _ _ _ e=>⟨trivial,e⟩,?_⟩,fun n hn=>?_⟩
 ·have hm:z.2.name∈ord:=op.mem_iff.mpr (List.mem_map_of_mem hz);obtain ⟨i,hi,ei⟩:=Zz hm;obtain ⟨kv,ek,w,hw,e1,e2⟩:=zCh pl (i:=i) (by rw [Z3 hi,ei]);have:w=z:=by
   have:∀ (l:List (Addr×Row)),(l.map fun z=>z.2.name).Nodup→∀ a∈l,∀ b∈l,a.2.name=b.2.name→a=b:=by
    intro l
    induction l with
    | nil=>intro _ a ha;cases ha
    | cons x t ih =>
     intro nd a ha b hb e;rw [Zt,List.nodup_cons] at nd;rcases List.mem_cons.mp ha with rfl | ha' <;> rcases List.mem_cons.mp hb with rfl | hb'
     ·rfl
     ·exact absurd (by rw [e];exact List.mem_map_of_mem (f:=fun z:Addr×Row=>z.2.name) hb') nd.1
     ·exact absurd (by rw [← e];exact List.mem_map_of_mem (f:=fun z:Addr×Row=>z.2.name) ha') nd.1
     ·exact ih nd.2 a ha' b hb' e
   exact this zs nd w hw z hz e2
  rw [this] at e1;refine zEv ndk ?_;rw [← e1];exact Z1 ek
 ·cases e:valV kvs (Sum.inr n) with
  | none=>rfl
  | some v =>
   exfalso;unfold valV at e;cases ef:kvs.find? fun kv=>decide (kv.1=Sum.inr n) with
   | none=>rw [ef] at e;cases e
   | some kv =>
    have h1:kv.1=Sum.inr n:=by simpa using List.find?_some ef
    have h2:(Sum.inr n:Key)∈kvs.map (·.1):=by rw [← h1];exact List.mem_map_of_mem (List.mem_of_find?_eq_some ef)
    rw [keys] at h2;obtain ⟨m,hm,em⟩:=List.mem_map.mp h2;cases em;have:=op.mem_iff.mp hm;rw [Zq] at hn;exact hn this
theorem zEa (o:Option Str):PyData.depth (ownD o)≤1:=by
 cases o with
 | none=>show PyData.depth .none≤1;first | decide | simp [PyData.depth]
 | some x=>show PyData.depth (.str x)≤1;first | decide | (show 0≤1;decide) | (show 1≤1;decide) | simp [PyData.depth]
theorem has_grown {G:Addr→Prop}{H H':Hp}{v:V}{d:PyData}{Pt:Addr}{pos:Pos}{q:Str} (h:Has G H v d) (T:TabOk H Pt pos q) (g:GrownBut Pt H H'):Has G H' v d :=
 h.frameS fun a o ga hs e=>⟨ga,g a o e (T.ne e (by rintro ps rfl;exact hs))⟩
theorem _root_.L2.TabOk.gen {H H':Hp}{P:Addr}{pos:Pos}{q:Str} (T:TabOk H P pos q) (k:∀ b o,H b=some o→b=P∨(∃ f,o=.ext f)→H' b=some o):TabOk H' P pos q:=by
 rcases T with z | ⟨c,z,y⟩
 ·exact .inl (k _ _ z (.inl rfl))
 ·exact .inr ⟨c,k _ _ z (.inl rfl),k _ _ y (.inr ⟨_,rfl⟩)⟩
theorem TabOk.tb {H:Hp}{P:Addr}{pos:Pos}{q:Str} (T:TabOk H P pos q):∃ ps,H P=some (.tbl ps):=by
 rcases T with z | ⟨c,z,_⟩
 ·exact ⟨_,z⟩
 ·exact ⟨_,z⟩
theorem ne_same {G G':Addr→Prop}{H:Hp}{x y:V}{Q:VK}{d:PyData} (hx:Has G H x d) (hy:Has G' H y d) (hd:d.depth≤64) (q:Q (.bl false) H):rNeD x y H Q:=⟨d,d,hx.any,hy.any,hd,hd,by rw [hx.eqv];exact q⟩
theorem depth_ats:∀ l:List (Option Str),PyData.depthAll (l.map ownD)≤1
 | []=>by decide
 | a :: t=>by
  have h1:=zEa a;have h2:=depth_ats t;show max (PyData.depth (ownD a)) (PyData.depthAll (t.map ownD))≤1;omega
theorem depth_opt (w:Option (List (Option Str))):PyData.depth (optT w)≤2:=by
 cases w with
 | none=>show PyData.depth .none≤2;have:=zEa none;exact Zm this (by decide)
 | some l =>
  have:=depth_ats l;show PyData.depthAll (l.map ownD) + 1≤2;omega
theorem ord_perm {rt:List Row}{ord:List Str} (g:Greedy (·∈rt) ord) (h:ord.length=rt.length) (nd:(rt.map (·.name)).Nodup):ord.Perm (rt.map (·.name)):=by
 refine (List.perm_ext_iff_of_nodup g.nodup nd).mpr fun n=>⟨fun hn=>?_,fun hn=>?_⟩
 ·obtain ⟨r,m,e⟩:=g.mem hn;exact List.mem_map.mpr ⟨r,m,e⟩
 ·refine Classical.byContradiction fun hno=>?_;have:=zEy (a:=n :: ord) (b:=rt.map (·.name)) (List.nodup_cons.mpr ⟨hno,g.nodup⟩) fun x hx=>by
   rcases List.mem_cons.mp hx with e | hx
   ·rw [e];exact hn
   ·obtain ⟨r',m',e⟩:=g.mem hx;exact List.mem_map.mpr ⟨r',m',e⟩
  rw [Zi,Z0] at this;omega
noncomputable def spCellAt (K:PySem.W.Frag):Sp:=fun vs H Q _=>∃ (a:Addr) (ns:List Int),vs=[.ref a,.int 0]∧SqL K H a (ns.map V.int)∧∀ z:Int,Q (.int z) H
section
variable {P:Program}{w:World}{K:PySem.W.Frag}{mg:Str→Option Value}{base:Heap}{CX:CXT}
theorem scCa:FnScope ["_law_script", "_law_k"] ["_law_script", "_law_k"] (defScope sCellAt):=⟨rfl,rfl,rfl,by decide +kernel,rfl,by decide +kernel,by decide +kernel⟩
theorem ok_cellAt {f:Addr}{fd:FuncData} (T:Tops K mg) (F:Fun K "_law_cell_at" "_law_cell_at" sCellAt f fd):FnOk P w K mg base CX 1 f fd ["_law_script", "_law_k"] (spCellAt K):=by
 refine Fun.okC F scCa (fun vs H Q E h=>?_) (fun cdv A outer s H vs Q E hr h=>?_)
 ·obtain ⟨a,ns,rfl,_⟩:=h;rfl
 ·obtain ⟨a,ns,rfl,ha,k⟩:=h
  refine ⟨_,zA3 (zAn (zAg op_lt (pv 1) (zAh zAu rfl T.len PySem.boot_len (zA0 (pv 0) zA2)) (nomark _))
     (zA5 (zA9 (zAf zAr (pv 0) (pv 1) (fun _ _=>rfl)))) zAb)
     (zA5 (zA9 zA4)),?_⟩
  refine ⟨_,rfl,_,rfl,a,_,rfl,.inl ha,_,_,rfl,rfl,_,rfl,?_⟩;refine ite2 (fun c=>?_) (fun c=>k 0);have c':=of_decide_eq_true c;cases ns with
  | nil=>exact absurd c' (by decide)
  | cons z t=>exact ⟨_,rfl,_,rfl,a,_,((0:Nat):Int),_,rfl,rfl,ha,zB5 rfl,k z⟩
end
theorem len_all {fs:List (List (Option Str))} (ok:∀ f∈fs,∀ x∈f,atOk x) {st:List (Option Str)} (h:st∈allA fs):st.length=fs.length:=(zFg ok st h).1
theorem st_len {fs:List (Str×List Str)} (ok:FieldsOk fs) {w:Option (List (Option Str))} (h:w∈(allA (stA fs)).map some):Len fs w:=fun st e=>by
 obtain ⟨s,hs,rfl⟩:=List.mem_map.mp h;cases e;have:=len_all (fs:=stA fs) (fun f hf=>by have:=(st_good ok).2.1 f;rw [gst2] at this;exact (this hf).2) hs;rw [this];unfold stA;rw [Z0]
theorem wi_len {fs:List (Str×List Str)} (ok:FieldsOk fs) {w:Option (List (Option Str))} (h:w∈wishes fs):Len fs w:=fun st e=>by
 cases e;unfold wishes at h;rcases List.mem_cons.mp h with h | h
 ·cases h
 ·obtain ⟨s,hs,e⟩:=List.mem_map.mp h;cases e;have:=len_all (fs:=wiA fs) (fun f hf=>by have:=(wi_good ok).2.1 f;rw [gwi2] at this;exact (this hf).2) hs;rw [this];unfold wiA;rw [Z0]
theorem step_mem {st:Int}{xs:List V}{x:V} (h:x∈stepL st xs):x∈xs:=by
 unfold stepL at h;split at h
 ·exact h
 ·exact List.mem_reverse.mp h
theorem fieldsO_ok {rs:List Row} (rp:RowsP rs) {r:Row} (hr:r∈rs):FieldsOk (fieldsO rs r.owner):=by
 cases e:r.owner with
 | none=>exact ⟨Zj _,Yk,(fun f h=>nomatch h),(by show 1≤8;decide)⟩
 | some n =>
  obtain ⟨r',h',rfl⟩:=rp.ownIn r hr n e;show FieldsOk (fieldsOf rs r'.name);rw [zB4 rp h'];exact (rp.ok r' h').2
end L2.W
namespace L2.W
open PySem My
noncomputable def KindAt (C:Addr) (G:Addr→Prop) (H:Hp) (p:Addr) (fs:List (Str×List Str)):Prop:=∃ dx n l o,H p=some (.ins C dx (kflds n (.ref l) o))∧Has G H (.ref l) (.list (fs.map fieldD))
noncomputable def firstS (fs:List (Str×List Str)):List Str:=fs.map fun f=>f.2.headD ""
noncomputable def spFirst (C:Addr):Sp:=fun vs H Q _=>∃ (p:Addr) (fs:List (Str×List Str)),vs=[.ref p]∧KindAt C Any H p fs∧FieldsOk fs ∧
 ∀ (t:Addr) (H':Hp),Same H H'→H t=none→H' t=some (.tup ((firstS fs).map V.str))→Q (.ref t) H'
section
variable {P:Program}{w:World}{K:PySem.W.Frag}{mg:Str→Option Value}{base:Heap}{CX:CXT}
theorem scFs:FnScope ["kind"] ["kind"] (defScope sFirst):=⟨rfl,rfl,rfl,by decide +kernel,rfl,by decide +kernel,by decide +kernel⟩
theorem ok_first {f C fI:Addr}{fd:FuncData} (T:Tops K mg) (KC:KCls K mg C fI) (F:Fun K "first_state" "first_state" sFirst f fd):FnOk P w K mg base CX 1 f fd ["kind"] (spFirst C):=by
 refine Fun.okC F scFs (fun vs H Q E h=>?_) (fun cdv A outer s H vs Q E hr h=>?_)
 ·obtain ⟨p,fs,rfl,_⟩:=h;rfl
 ·obtain ⟨p,fs,rfl,⟨dx,n,l,o,hp,hf⟩,ok,q⟩:=h
  refine ⟨_,zA5 (zA9 (zAs zCd rfl T.tuple PyProof.Rows.boot_tuple (zA0 (zB0 (T:=["field"]) rfl ScOk.auto (zAk (zAw (pv 0) rfl)) (fun _ _ _ _=>zA8 (i:=1) (by decide +kernel:(["kind", "field"]:List Str).Nodup) rfl (Or.inl rfl)) (fun _ _ _ _=>zB7)
   (fun _ _ _ _=>zAf (r:=rIxL K) zAr (zAf (r:=rIxT K) zAd (pv 1) zA4 (fun _ _=>rfl)) zA4 (fun _ _=>rfl))) zA2))),?_⟩
  obtain ⟨a,xs,e,_,ha,hz,hx⟩:=hf.list_inv;cases e;refine ⟨_,rfl,p,C,dx,_,_,rfl,hp,KC.cl,KC.nF,zDc _ _ _,l,rfl,⟨xs,SqL.of ha⟩,zAj (xs:=xs) (fun i ys H'=>H'=H∧ys=((firstS fs).take i).map V.str) ⟨rfl,rfl⟩ (fun i ys H' z=>by rw [z.1];exact SqL.of ha) (fun i ys H' hi z=>?_) ?_ ?_⟩
  ·rw [z.2,Z0];have:=Zx i (firstS fs);have:=small1000 hz;omega
  ·rintro i x ys H' hi ⟨rfl,rfl⟩ N hN;obtain ⟨d,hd,hv⟩:=hx.get hi;rw [Z4] at hd;cases ef:fs[i]? with
   | none=>rw [ef] at hd;cases hd
   | some f =>
    rw [ef] at hd;cases hd;obtain ⟨b,l2,rfl,hb,hl2⟩:=zB8 hv;obtain ⟨v0,vr,ev⟩:∃ v0 vr,f.2=v0 :: vr:=by
     have:=(ok.ok f (Z1 ef)).2.ne
     match e:f.2,this with
     | v0 :: vr,_=>exact ⟨v0,vr,rfl⟩
    refine pick ?_;refine ⟨_,rfl,b,_,_,_,rfl,rfl,SqT.of hb,rfl,l2,_,_,.str v0,rfl,rfl,SqL.of hl2,by rw [ev];exact zB5 (j:=0) rfl,hN _ _ ⟨rfl,?_⟩⟩;have e1:(firstS fs)[i]? = some v0:=by
     unfold firstS;rw [Z4,ef,Option.map_some,ev];rfl
    rw [Z5,e1,Z6];rfl
  ·rintro ys H' ⟨rfl,rfl⟩ r hr';refine ⟨r,_,rfl,.inl ⟨SqL.of zA1,fun t ht=>q t _ ((Same.new hr').trans (Same.new ht)) ((Same.new hr').free ht) ?_⟩⟩;rw [zA1];have el:xs.length=(firstS fs).length:=by
    unfold firstS;rw [hx.length,Z0,Z0]
   rw [el,Zb]
end
theorem KF.at_ {C:Addr}{H:Hp}{p:Addr}{r:Row} (h:KF C Any H p r):KindAt C Any H p r.fields:=let ⟨dx,l,e,d⟩:=h;⟨dx,_,l,_,e,d⟩
theorem cat_any {K:PySem.W.Frag}{H:Hp}{a b:Addr}{xs ys:List V}{Q:VK} (ha:H a=some (.tup xs)) (hb:H b=some (.tup ys)) (hz:xs.length + ys.length≤1000) (q:∀ c H',Same H H'→H' c=some (.tup (xs++ys))→Q (.ref c) H'):rCat2 K (.ref a) (.ref b) H Q:=by
 refine ⟨a,b,xs,ys,rfl,rfl,SqT.of ha,SqT.of hb,Zn (small1000 hz),fun e=>?_,fun _ e=>?_,fun _ _ p hp=>q p _ (Same.new hp) zA1⟩
 ·subst e;exact q b H (Same.refl _) hb
 ·subst e;exact q a H (Same.refl _) (by rw [List.append_nil];exact ha)
theorem cutT_take {xs:List V}{j:Nat} (h:j≤xs.length):cutV xs none (some (j:Int))=xs.take j:=cut_takeN h
theorem cutT_drop {xs:List V}{j:Nat} (h:j≤xs.length):cutV xs (some (j:Int)) none=xs.drop j:=by
 have n:¬ ((j:Int) < 0):=by omega
 unfold cutV HT.sIx;simp [n,Nat.min_eq_left h];exact List.take_of_length_le (by rw [List.length_drop];exact Z7 _)
noncomputable def setAt (st:List (Option Str)) (i:Nat) (v:Str):List (Option Str):=st.take i++[some v]++st.drop (i + 1)
noncomputable def hasVal (fs:List (Str×List Str)) (f:Str) (v:Option Str):Bool:=match placeOf fs f,v with
 | some i,some x=>decide (x∈(fs.getD i ("",[])).2)
 | _,_=>false
noncomputable def spWith (C:Addr):Sp:=fun vs H Q _=>∃ (p a:Addr) (r:Row) (st:List (Option Str)) (f v:Str) (i:Nat),vs=[.ref p,.ref a,.str f,.str v]∧KF C Any H p r∧FieldsOk r.fields∧H a=some (.tup (st.map ownV))∧st.length=r.fields.length∧placeOf r.fields f=some i ∧
 ∀ c H',Same H H'→H' c=some (.tup ((setAt st i v).map ownV))→Q (.ref c) H'
noncomputable def spHasV (C:Addr):Sp:=fun vs H Q _=>∃ (p:Addr) (r:Row) (f:Str) (v:Option Str),vs=[.ref p,.str f,ownV v]∧KF C Any H p r∧FieldsOk r.fields∧∀ H',Same H H'→Q (.bl (hasVal r.fields f v)) H'
theorem in_opt {ks:List Str}{v:Option Str}:inV (ownV v) (ks.map V.str)=(match v with | none=>false | some x=>decide (x∈ks)):=by
 cases v with
 | some x=>exact zCm ks
 | none =>
  show inV .non (ks.map V.str)=false
  induction ks with
  | nil=>rfl
  | cons k r ih =>
   unfold inV at ih ⊢;rw [Zt,Y5,ih];rfl
section
variable {P:Program}{w:World}{K:PySem.W.Frag}{mg:Str→Option Value}{base:Heap}{CX:CXT}
theorem scWv:FnScope ["kind", "state", "field", "value", "place"] ["kind", "state", "field", "value"] (defScope sWithVal):=⟨rfl,rfl,rfl,by decide +kernel,rfl,by decide +kernel,by decide +kernel⟩
theorem ok_with {f fp C fI:Addr}{fd fdp:FuncData} (hC:Calm CX) (KC:KCls K mg C fI) (F:Fun K "with_value" "with_value" sWithVal f fd) (DP:Def K mg "place_of" sPlaceOf ["kind", "field"] fp fdp):FnOk P w K mg base CX 2 f fd ["kind", "state", "field", "value"] (spWith C):=by
 have GP:FnOk P w K mg base CX 1 fp fdp ["kind", "field"] (spPlace C):=zDq KC DP.fn;refine Fun.okC F scWv (fun vs H Q E h=>?_) (fun cdv A outer s H vs Q E hr h=>?_)
 ·obtain ⟨p,a,r,st,f,v,i,rfl,_⟩:=h;rfl
 ·obtain ⟨p,a,r,st,f,v,i,rfl,kf,ok,ha,hl,hi,q⟩:=h;have nd:=scWv.nd
  refine ⟨_,zA3 (zAi (i:=4) nd rfl (Or.inl rfl) (zA6 GP hr rfl DP.at_ DP.fn.kp DP.bind .nil (passC hC) (zA0 (pv 0) (zA0 (pv 2) zA2))))
     (zA5 (zA9 (zAv (zE0 (K:=K) rfl) (zAv (zE0 (K:=K) rfl) (zCa sl_tup (pv 1) zDv (zCy (pv 4))) (zBc (zA0 (pv 3) zA2))) (zCa sl_tup (pv 1) (zCy (zAv zC0 (pv 4) zA4)) zDv)))),?_⟩
  have small:∀ n:Nat,n≤1000→n≤sizeLine:=fun n h=>Zn (small1000 h);refine ⟨_,rfl,_,rfl,p,r,f,rfl,kf,ok,fun H1 s1=>?_⟩;rw [hi];have lt:=zBr hi;have f3:=ok.le;have sl:(st.map ownV).length=r.fields.length:=by rw [Z0,hl]
  refine ⟨_,rfl,_,rfl,_,rfl,a,_,rfl,SqT.of (s1 _ _ ha),?_,fun t1 g1=>?_⟩
  ·rintro ⟨_,h⟩;rw [HT.sIx_nat,sl] at h;omega
  rw [cutT_take (by omega)];have s2:Same H (upd H1 t1 (.tup ((st.map ownV).take i))):=s1.trans (Same.new g1);have e2:(upd H1 t1 (.tup ((st.map ownV).take i))) t1=some (.tup ((st.map ownV).take i)):=zA1;generalize upd H1 t1 (.tup ((st.map ownV).take i))=H2 at s2 e2 ⊢;refine ⟨_,rfl,small 1 (by decide),fun t2 g2=>cat_any ((Same.new g2) _ _ e2) zA1 (by rw [Zk,List.length_singleton];omega) fun t3 H3 s3 e3=>?_⟩;have s23:=s2.trans ((Same.new g2).trans s3);refine ⟨_,rfl,_,rfl,_,_,rfl,rfl,_,rfl,a,_,rfl,SqT.of (s23 _ _ ha),?_,fun t4 g4=>?_⟩
  ·rintro ⟨h,_⟩;rw [show ((i:Int) + 1)=((i + 1:Nat):Int) by omega,HT.sIx_nat,sl] at h;omega
  rw [show ((i:Int) + 1)=((i + 1:Nat):Int) by omega,cutT_drop (by omega)];refine cat_any ((Same.new g4) _ _ e3) zA1 (by simp;omega) fun t5 H5 s5 e5=>q t5 H5 (s23.trans ((Same.new g4).trans s5)) ?_;rw [e5];unfold setAt;simp [ownV]
theorem scHv:FnScope ["kind", "field", "value", "place"] ["kind", "field", "value"] (defScope sHasVal):=⟨rfl,rfl,rfl,by decide +kernel,rfl,by decide +kernel,by decide +kernel⟩
theorem ok_hasV {f fp C fI:Addr}{fd fdp:FuncData} (hC:Calm CX) (KC:KCls K mg C fI) (F:Fun K "has_value" "has_value" sHasVal f fd) (DP:Def K mg "place_of" sPlaceOf ["kind", "field"] fp fdp):FnOk P w K mg base CX 2 f fd ["kind", "field", "value"] (spHasV C):=by
 have GP:FnOk P w K mg base CX 1 fp fdp ["kind", "field"] (spPlace C):=zDq KC DP.fn;refine Fun.okC F scHv (fun vs H Q E h=>?_) (fun cdv A outer s H vs Q E hr h=>?_)
 ·obtain ⟨p,r,f,v,rfl,_⟩:=h;rfl
 ·obtain ⟨p,r,f,v,rfl,kf,ok,q⟩:=h;have nd:=scHv.nd
  refine ⟨_,zA3 (zAi (i:=3) nd rfl (Or.inl rfl) (zA6 GP hr rfl DP.at_ DP.fn.kp DP.bind .nil (passC hC) (zA0 (pv 0) (zA0 (pv 1) zA2))))
     (zA5 (zA9 (zCf (zAq zCj (pv 3) zBd (nomark _)) (zCe (zAq zD9 (pv 2) (zAf zAd (zAf zAr (zAw (pv 0) rfl) (pv 3) (fun _ _=>rfl)) zA4 (fun _ _=>rfl)) rfl))))),?_⟩
  refine ⟨_,rfl,_,rfl,p,r,f,rfl,kf,ok,fun H1 s1=>?_⟩;have q1:=q _ s1;unfold hasVal at q1;cases e:placeOf r.fields f with
  | none =>
   rw [e] at q1;exact ⟨_,rfl,rfl,_,rfl,iteF q1⟩
  | some i =>
   rw [e] at q1;obtain ⟨dx,l,hp,hd⟩:=kf.same s1;obtain ⟨l',xs,e',_,hl,_,hx⟩:=hd.list_inv;cases e';have lt:=zBr e;have xl:xs.length=r.fields.length:=by rw [hx.length,Z0]
   have ex:xs[i]? = some xs[i]:=Z3 (by omega);obtain ⟨d,hd',hv⟩:=hx.get ex;rw [Z4,Z3 lt] at hd';cases hd';obtain ⟨b,lv,eb,hb,hlv⟩:=zB8 hv;rw [eb] at ex;refine ⟨_,rfl,rfl,_,rfl,iteT ⟨_,rfl,_,rfl,p,C,dx,_,_,rfl,hp,KC.cl,KC.nF,zDc _ _ _,_,rfl,l,_,((i:Nat):Int),_,rfl,rfl,SqL.of hl,zB5 ex,b,_,1,_,rfl,rfl,SqT.of hb,rfl,lv,_,rfl,.inl (SqL.of hlv),by cases v <;> rfl,flats _,?_⟩⟩;show Q (.bl (inV (ownV v) (r.fields[i].2.map V.str))) H1;rw [in_opt];have eg:r.fields.getD i ("",[])=r.fields[i]:=by rw [List.getD_eq_getElem?_getD,Z3 lt];rfl
   cases v with
   | none=>exact q1
   | some x =>
    have q2:Q (.bl (decide (x∈(r.fields.getD i ("",[])).2))) H1:=q1;rw [eg] at q2;exact q2
end
end L2.W
namespace L2.W
open PySem My
inductive Chg where
 | make (ns:List Str) | set (f:Str) (v:Option Str) | take
noncomputable def chgD:Chg→PyData
 | .make ns=>.tuple [.str "make",.list (ns.map .str)]
 | .set f v=>.tuple [.str "set",.str f,ownD v]
 | .take=>.tuple [.str "take"]
noncomputable def ChgOk:Chg→Prop
 | .make ns=>(∀ x∈ns,nameOk x)∧ns.Nodup∧ns.length≤10
 | .set f v=>nameOk f∧∀ x,v=some x→nameOk x
 | .take=>True
structure CB where
 (ch tm ts tt ru fTm fTs fRu pTm pTs pTt oTm oTs oTt aTs:Addr)
noncomputable def IsChg (B:CB) (C:Addr):Prop:=C=B.tm∨C=B.ts∨C=B.tt
noncomputable def fFl (l:V):List (Str×V):=putF "fields" l []
theorem fFl_f (l:V):(fFl l).lookup ("fields" : Str)=some l:=by unfold fFl;rw [zAc,if_pos rfl]
theorem fFl_n {m:Str} (l:V) (h:¬ m = "fields"):(fFl l).lookup m=none:=by unfold fFl;rw [zAc,if_neg h];rfl
theorem fV_n {m:Str} (f v:V) (h:¬ m = "field") (h':¬ m = "value"):(fV f v).lookup m=none:=by unfold fV;rw [zAc,if_neg h',zAc,if_neg h];rfl
inductive ChgAt (B:CB) (H:Hp):Addr→Chg→Prop where
 | make {p dx l:Addr}{ns:List Str} (e:H p=some (.ins B.tm dx (fFl (.ref l)))) (hl:H l=some (.lst (ns.map V.str))):ChgAt B H p (.make ns)
 | set {p dx:Addr}{f:Str}{v:Option Str} (e:H p=some (.ins B.ts dx (fV (.str f) (ownV v)))):ChgAt B H p (.set f v)
 | take {p dx:Addr} (e:H p=some (.ins B.tt dx [])):ChgAt B H p .take
theorem ChgAt.keep {B:CB}{H H':Hp}{p:Addr}{c:Chg} (h:ChgAt B H p c) (s:∀ b o,H b=some o→(∃ C dx fs,o=.ins C dx fs)∨(∃ ps,o=.lst ps)→H' b=some o):ChgAt B H' p c:=by
 cases h with
 | make e hl=>exact .make (s _ _ e (.inl ⟨_,_,_,rfl⟩)) (s _ _ hl (.inr ⟨_,rfl⟩))
 | set e=>exact .set (s _ _ e (.inl ⟨_,_,_,rfl⟩))
 | take e=>exact .take (s _ _ e (.inl ⟨_,_,_,rfl⟩))
theorem ChgAt.same {B:CB}{H H':Hp}{p:Addr}{c:Chg} (h:ChgAt B H p c) (s:Same H H'):ChgAt B H' p c:=h.keep fun b o e _=>s b o e
noncomputable def clsC (B:CB):Chg→Addr
 | .make _=>B.tm
 | .set _ _=>B.ts
 | .take=>B.tt
theorem ChgAt.ins {B:CB}{H:Hp}{p:Addr}{c:Chg} (h:ChgAt B H p c):∃ dx fs,H p=some (.ins (clsC B c) dx fs)∧IsChg B (clsC B c)∧fs.lookup ("is_possible" : Str)=none∧fs.lookup ("outcome" : Str)=none:=by
 cases h with
 | make e hl=>exact ⟨_,_,e,.inl rfl,fFl_n _ (by decide +kernel),fFl_n _ (by decide +kernel)⟩
 | set e=>exact ⟨_,_,e,.inr (.inl rfl),fV_n _ _ (by decide +kernel) (by decide +kernel),fV_n _ _ (by decide +kernel) (by decide +kernel)⟩
 | take e=>exact ⟨_,_,e,.inr (.inr rfl),rfl,rfl⟩
structure Cng (K:PySem.W.Frag) (mg:Str→Option Value) (B:CB):Prop where
 all:∀ C,IsChg B C→CC1 K B.ch C
 ch:mg "Change" = some (.ref B.ch)
 gTm:mg "ToMake" = some (.ref B.tm)
 kTm:Mk K B.tm B.fTm
 gTs:mg "ToSet" = some (.ref B.ts)
 kTs:Mk K B.ts B.fTs
 gTt:mg "ToTake" = some (.ref B.tt)
 kTt:MkN K B.tt
 ne:[B.tm,B.ts,B.tt].Nodup
 nTm:NoAttr K B.tm "fields"
 nTsf:NoAttr K B.ts "field"
 nTsv:NoAttr K B.ts "value"
 pTm:Meth K B.tm "is_possible" B.pTm
 oTm:Meth K B.tm "outcome" B.oTm
 pTs:Meth K B.ts "is_possible" B.pTs
 oTs:Meth K B.ts "outcome" B.oTs
 aTs:Meth K B.ts "aim" B.aTs
 pTt:Meth K B.tt "is_possible" B.pTt
 oTt:Meth K B.tt "outcome" B.oTt
 rcl:Cls K B.ru
 gRu:mg "Rule" = some (.ref B.ru)
 kRu:Mk K B.ru B.fRu
 nRk:NoAttr K B.ru "kind"
 nRc:NoAttr K B.ru "change"
 nRd:NoAttr K B.ru "condition"
 nRb:NoAttr K B.ru "behind"
theorem zCv {B:CB} (ne:[B.tm,B.ts,B.tt].Nodup) {c:Chg}:(clsC B c=B.tm→∃ ns,c=.make ns)∧(clsC B c=B.ts→∃ f v,c=.set f v)∧(clsC B c=B.tt→c=.take):=by
 simp only [List.nodup_cons,Zv,Zr,or_false,not_or,Yk,and_true,not_false_eq_true] at ne;obtain ⟨⟨a1,a2⟩,b1⟩:=ne;rcases c with _ | _ | _ <;> simp [clsC,a1,a2,b1,Ne.symm a1,Ne.symm a2,Ne.symm b1]
noncomputable def aimS (r:Row) (w:Option (List (Option Str))) (f:Str):Option Str→Option Str
 | some x=>some x
 | none=>valIn r.fields w f
noncomputable def posC (r:Row) (w o s:Option (List (Option Str))):Chg→Bool
 | .make _=>(r.owner.isNone || o.isSome) && (w.isSome && s.isNone)
 | .set f v=>s.isSome && hasVal r.fields f (aimS r w f v)
 | .take=>s.isSome
noncomputable def oneS (ns:List Str) (f:Str×List Str) (x:Option Str):Option Str:=if decide (f.1∈ns) && x.isSome then x else some (f.2.headD "")
noncomputable def mkS (fs:List (Str×List Str)) (ns:List Str) (ws:List (Option Str)):List (Option Str):=List.zipWith (oneS ns) fs ws
noncomputable def outC (r:Row) (w s:Option (List (Option Str))):Chg→Option (List (Option Str))
 | .make ns=>some (mkS r.fields ns (w.getD []))
 | .set f v=>match s,placeOf r.fields f,aimS r w f v with
  | some st,some i,some x=>some (setAt st i x)
  | _,_,_=>none
 | .take=>none
structure ChgIn (B:CB) (C:Addr) (H:Hp) (X p pk a:Addr) (cg:Chg) (r:Row) (w o s:Option (List (Option Str))):Prop where
 x:∃ dx fs,H p=some (.ins X dx fs)
 c:ChgAt B H p cg
 ok:ChgOk cg
 kf:KF C Any H pk r
 fo:FieldsOk r.fields
 st:SitAt H a r w o s
 lw:Len r.fields w
 ls:Len r.fields s
noncomputable def spPos (B:CB) (C X:Addr):Sp:=fun vs H Q _=>∃ (p pk a:Addr) (c:Chg) (r:Row) (w o s:Option (List (Option Str))),vs=[.ref p,.ref pk,.ref a]∧ChgIn B C H X p pk a c r w o s∧∀ H',Same H H'→Q (.bl (posC r w o s c)) H'
noncomputable def spOut (B:CB) (C X:Addr):Sp:=fun vs H Q _=>∃ (p pk a:Addr) (c:Chg) (r:Row) (w o s:Option (List (Option Str))),vs=[.ref p,.ref pk,.ref a]∧ChgIn B C H X p pk a c r w o s∧posC r w o s c=true∧∀ v H',Same H H'→OptAt H' v (outC r w s c)→Q v H'
noncomputable def spAim (B:CB) (C:Addr):Sp:=fun vs H Q _=>∃ (p pk a:Addr) (f:Str) (v:Option Str) (r:Row) (w o s:Option (List (Option Str))),vs=[.ref p,.ref pk,.ref a]∧ChgIn B C H B.ts p pk a (.set f v) r w o s∧∀ H',Same H H'→Q (ownV (aimS r w f v)) H'
theorem ChgIn.eq {B:CB}{C:Addr}{H:Hp}{X p pk a:Addr}{c:Chg}{r:Row}{w o s:Option (List (Option Str))} (h:ChgIn B C H X p pk a c r w o s):clsC B c=X:=by
 obtain ⟨dx,fs,e1⟩:=h.x;obtain ⟨dx',fs',e2,_⟩:=h.c.ins;rw [e1] at e2;injection e2 with e2;injection e2 with e2;exact e2.symm
theorem own_non (x:Option Str):decide (ownV x=V.non)=x.isNone:=by cases x <;> rfl
theorem zE1 {fs:List (Str×List Str)}{ns:List Str}{ws:List (Option Str)} (h:ws.length=fs.length):(mkS fs ns ws).length=fs.length:=by
 unfold mkS;rw [List.length_zipWith,h,Nat.min_self]
theorem zEm {fs:List (Str×List Str)} (nd:(fs.map (·.1)).Nodup) {i:Nat}{f:Str×List Str} (h:fs[i]? = some f):placeOf fs f.1=some i:=by
 cases e:placeOf fs f.1 with
 | none=>exact absurd (List.mem_map_of_mem (Z1 h)) (zCs e)
 | some j =>
  obtain ⟨p1,p2⟩:=zBk e;have hi:(fs.map (·.1))[i]? = some f.1:=by rw [Z4,h];rfl
  congr 1
  obtain ⟨l1,e1⟩:=List.getElem?_eq_some_iff.mp p1;obtain ⟨l2,e2⟩:=List.getElem?_eq_some_iff.mp hi;exact (List.getElem_inj nd).mp (e1.trans e2.symm)
noncomputable def half (fs:List (Str×List Str)) (ns:List Str) (ws:List (Option Str)) (i:Nat):List (Option Str):=(mkS fs ns ws).take i++((firstS fs).map some).drop i
theorem half_len {fs:List (Str×List Str)}{ns:List Str}{ws:List (Option Str)} (h:ws.length=fs.length) {i:Nat} (hi:i≤fs.length):(half fs ns ws i).length=fs.length:=by
 unfold half firstS;rw [Zg,Zk,List.length_drop,zE1 h,Z0,Z0];omega
theorem half_step {fs:List (Str×List Str)}{ns:List Str}{ws:List (Option Str)} (h:ws.length=fs.length) {i:Nat}{f:Str×List Str} (hf:fs[i]? = some f):half fs ns ws (i + 1)=(half fs ns ws i).take i++[oneS ns f (ws.getD i none)]++(half fs ns ws i).drop (i + 1):=by
 have lt:=(List.getElem?_eq_some_iff.mp hf).1;have ew:ws[i]? = some (ws.getD i none):=by rw [List.getD_eq_getElem?_getD,Z3 (by omega)];rfl
 have em:(mkS fs ns ws)[i]? = some (oneS ns f (ws.getD i none)):=by
  unfold mkS;rw [List.getElem?_zipWith,hf,ew]
 have l1:((mkS fs ns ws).take i).length=i:=by rw [Zk,zE1 h];omega
 have e1:(half fs ns ws i).take i=(mkS fs ns ws).take i:=by
  unfold half;rw [List.take_append_of_le_length (by omega),List.take_of_length_le (l:=(mkS fs ns ws).take i) (by omega)]
 have e2:(half fs ns ws i).drop (i + 1)=((firstS fs).map some).drop (i + 1):=by
  unfold half;rw [List.drop_append,List.drop_of_length_le (l:=(mkS fs ns ws).take i) (by omega),List.nil_append,l1,List.drop_drop,show i + (i + 1 - i)=i + 1 by omega]
 rw [e1,e2];unfold half;rw [Z5,em];rfl
theorem half_keep {fs:List (Str×List Str)}{ns:List Str}{ws:List (Option Str)} (h:ws.length=fs.length) {i:Nat}{f:Str×List Str} (hf:fs[i]? = some f) (c:(decide (f.1∈ns) && (ws.getD i none).isSome)=false):half fs ns ws (i + 1)=half fs ns ws i:=by
 have lt:=(List.getElem?_eq_some_iff.mp hf).1;have l1:((mkS fs ns ws).take i).length=i:=by rw [Zk,zE1 h];omega
 rw [half_step h hf];unfold oneS;rw [c];have eh:(half fs ns ws i)[i]? = some (some (f.2.headD "")):=by
  unfold half;rw [Zy (by omega),l1,Nat.sub_self,List.getElem?_drop,Nat.add_zero,Z4];unfold firstS;rw [Z4,hf];rfl
 have lt2:=(List.getElem?_eq_some_iff.mp eh).1;have e2:(half fs ns ws i)[i]=some (f.2.headD ""):=(List.getElem?_eq_some_iff.mp eh).2;show (half fs ns ws i).take i++[some (f.2.headD "")]++(half fs ns ws i).drop (i + 1)=_;rw [← e2,List.append_assoc,List.singleton_append,List.getElem_cons_drop,List.take_append_drop]
end L2.W
namespace L2.W
open PySem My
noncomputable def rF (k c d b:V):List (Str×V):=putF "behind" b (putF "condition" d (putF "change" c (putF "kind" k [])))
theorem rF_k (k c d b:V):(rF k c d b).lookup ("kind" : Str)=some k:=by unfold rF;rw [zAc,if_neg (by decide +kernel),zAc,if_neg (by decide +kernel),zAc,if_neg (by decide +kernel),zAc,if_pos rfl]
theorem rF_c (k c d b:V):(rF k c d b).lookup ("change" : Str)=some c:=by unfold rF;rw [zAc,if_neg (by decide +kernel),zAc,if_neg (by decide +kernel),zAc,if_pos rfl]
theorem rF_d (k c d b:V):(rF k c d b).lookup ("condition" : Str)=some d:=by unfold rF;rw [zAc,if_neg (by decide +kernel),zAc,if_pos rfl]
theorem rF_b (k c d b:V):(rF k c d b).lookup ("behind" : Str)=some b:=by unfold rF;rw [zAc,if_pos rfl]
noncomputable def NmsOk (ns:List Str):Prop:=(∀ x∈ns,nameOk x)∧ns.Nodup∧ns.length≤10
noncomputable def spTM (B:CB):Sp:=fun vs H Q _=>∃ (p dx l:Addr) (ns:List Str),vs=[.ref p,.ref l]∧H p=some (.ins B.tm dx [])∧H l=some (.lst (ns.map V.str))∧NmsOk ns∧∀ H' l',H' p=some (.ins B.tm dx (fFl (.ref l')))→H' l'=some (.lst (ns.map V.str))→H l'=none→But p H H'→Q .non H'
noncomputable def spTS (B:CB):Sp:=fun vs H Q _=>∃ (p dx:Addr) (f:Str) (v:Option Str),vs=[.ref p,.str f,ownV v]∧H p=some (.ins B.ts dx [])∧nameOk f∧(∀ x,v=some x→nameOk x)∧∀ H',H' p=some (.ins B.ts dx (fV (.str f) (ownV v)))→But p H H'→Q .non H'
noncomputable def spOtherK:Sp:=fun vs H Q _=>∃ (l:Addr) (n:Str) (bs:List Str),vs=[.str n,.ref l]∧H l=some (.lst (bs.map V.str))∧NmsOk bs∧n∉bs∧∀ H',Same H H'→Q (.bl true) H'
noncomputable def spRu (A:CA) (B:CB):Sp:=fun vs H Q _=>∃ (p dx c t l:Addr) (n:Str) (bs:List Str),vs=[.ref p,.str n,.ref c,.ref t,.ref l]∧H p=some (.ins B.ru dx [])∧nameOk n∧(∃ C dx fs,H c=some (.ins C dx fs)∧IsChg B C)∧IsC A H t∧H l=some (.lst (bs.map V.str))∧NmsOk bs∧n∉bs ∧
 ∀ H' l',H' p=some (.ins B.ru dx (rF (.str n) (.ref c) (.ref t) (.ref l')))→H' l'=some (.lst (bs.map V.str))→H l'=none→But p H H'→Q .non H'
section
variable {P:Program}{w:World}{K:PySem.W.Frag}{mg:Str→Option Value}{base:Heap}{CX:CXT}
theorem zDh {G:Addr→Prop}{H:Hp}{l:Addr}{ns:List Str} (g:G l) (h:H l=some (.lst (ns.map V.str))) (ok:NmsOk ns):Has G H (.ref l) (.list (ns.map .str)):=.lst g h (by rw [Z0];have:=ok.2.2;omega) (zC8 ok.1)
theorem scTM:FnScope ["self", "fields"] ["self", "fields"] (defScope sInitTM):=⟨rfl,rfl,rfl,by decide +kernel,rfl,by decide +kernel,by decide +kernel⟩
theorem ok_initTM {f fu fn:Addr}{fd fdu fdn:FuncData}{B:CB} (hC:Calm CX) (T:Tops K mg) (N:Cng K mg B) (F:Fun K "__init__" "ToMake.__init__" sInitTM f fd) (DN:Def K mg "is_name" sIsName ["thing"] fn fdn) (DU:Def K mg "are_unlike_names" sUnlike ["things"] fu fdu):FnOk P w K mg base CX 3 f fd ["self", "fields"] (spTM B):=by
 have GU:FnOk P w K mg base CX 2 fu fdu ["things"] spUnlike:=zCl hC T DU.fn DN;refine Fun.okC F scTM (fun vs H Q E h=>?_) (fun cdv Ar outer s H vs Q E hr h=>?_)
 ·obtain ⟨p,dx,l,ns,rfl,_⟩:=h;rfl
 ·obtain ⟨p,dx,l,ns,rfl,hp,hl,ok,q⟩:=h;have nd:=scTM.nd;have cl:=(N.all B.tm (.inl rfl)).cl
  refine ⟨_,zA3 (zAn (PW.pt (zBi (zAz (zAt (zAh zAo rfl T.isinst PyProof.Rows.boot_isinstance (zA0 (pv 1) (zA0 (zBp (v:=.ty "list") rfl T.list PyProof.Rows.boot_list rfl) zA2))))) (zB9 (zAz (zAt (zA6 GU hr rfl DU.at_ DU.fn.kp DU.bind .nil (passC hC) (zA0 (pv 1) zA2)))))))
     zAp zAb)
     (zA5 (zBf (pv 0) (zAs zB1 rfl T.list PyProof.Rows.boot_list (zA0 (pv 1) zA2)) rfl)),?_⟩
  refine ⟨_,rfl,_,_,_,_,_,rfl,.lst hl,rfl,rfl,_,rfl,iteF ?_⟩;refine ⟨_,rfl,_,ns.map .str,rfl,zDh trivial hl ok,fun H1 s1=>⟨_,rfl,?_⟩⟩;rw [zCg (fun y hy=>(ok.1 y hy).1) ok.2.1];refine iteF ⟨_,rfl,l,_,rfl,.inl (SqL.of (s1 _ _ hl)),fun l2 h2=>?_⟩;have n2:l2≠p:=(zA7 (s1 _ _ hp) h2).symm;have s2:=s1.trans (Same.new (o:=.lst (ns.map V.str)) h2);refine ⟨_,rfl,p,B.tm,dx,[],rfl,s2 _ _ hp,cl,N.nTm,(by show 0 < 1000;decide),?_⟩;exact q _ l2 zA1 (by rw [zAa n2];exact zA1) (s1.free h2) fun b o e n=>by rw [zAa n];exact s2 _ _ e
theorem scTS:FnScope ["self", "field", "value"] ["self", "field", "value"] (defScope sInitTS):=⟨rfl,rfl,rfl,by decide +kernel,rfl,by decide +kernel,by decide +kernel⟩
theorem ok_initTS {f fn:Addr}{fd fdn:FuncData}{B:CB} (hC:Calm CX) (T:Tops K mg) (N:Cng K mg B) (F:Fun K "__init__" "ToSet.__init__" sInitTS f fd) (DN:Def K mg "is_name" sIsName ["thing"] fn fdn):FnOk P w K mg base CX 2 f fd ["self", "field", "value"] (spTS B):=by
 have GN:FnOk P w K mg base CX 1 fn fdn ["thing"] spNameD:=zCt DN.fn T;refine Fun.okC F scTS (fun vs H Q E h=>?_) (fun cdv Ar outer s H vs Q E hr h=>?_)
 ·obtain ⟨p,dx,f,v,rfl,_⟩:=h;rfl
 ·obtain ⟨p,dx,f,v,rfl,hp,of,ov,q⟩:=h;have nd:=scTS.nd;have cl:=(N.all B.ts (.inr (.inl rfl))).cl
  refine ⟨_,zA3 (zAn (zAz (zAt (zA6 GN hr rfl DN.at_ DN.fn.kp DN.bind .nil (passC hC) (zA0 (pv 1) zA2))))
     zAp zAb)
     (zA3 (zAn (PW.pt (zBx (zB6 (zC3 (pv 2))) (zBg (zAz (zAt (zA6 GN hr rfl DN.at_ DN.fn.kp DN.bind .nil (passC hC) (zA0 (pv 2) zA2)))))))
     zAp zAb)
     (zA3 (zBf (pv 0) (pv 1) rfl)
     (zA5 (zBf (pv 0) (pv 2) rfl)))),?_⟩
  refine ⟨_,rfl,_,.str f,rfl,.str _ (Zm of.2.2 (by decide)) of.2.1,fun H1 s1=>⟨_,rfl,?_⟩⟩;rw [show nameD (.str f)=true from of.1];refine iteF ⟨_,rfl,_,rfl,?_⟩;have fin:∀ {H2:Hp},Same H H2→Q .non (upd (upd H2 p (.ins B.ts dx (putF "field" (.str f) []))) p (.ins B.ts dx (fV (.str f) (ownV v)))):=fun {H2} s2=>q _ zA1 fun b o e n=>by rw [zAa n,zAa n];exact s2 _ _ e
  cases v with
  | none=>exact iteF (iteF ⟨_,rfl,_,rfl,p,B.ts,dx,[],rfl,s1 _ _ hp,cl,N.nTsf,(by show 0 < 1000;decide),_,rfl,_,rfl,p,B.ts,dx,_,rfl,zA1,cl,N.nTsv,(by show 1 < 1000;decide),fin s1⟩)
  | some x =>
   have ox:=ov x rfl;refine iteT ⟨_,rfl,_,.str x,rfl,.str _ (Zm ox.2.2 (by decide)) ox.2.1,fun H2 s2=>⟨_,rfl,?_⟩⟩;rw [show nameD (.str x)=true from ox.1];refine iteF ?_;exact ⟨_,rfl,_,rfl,p,B.ts,dx,[],rfl,(s1.trans s2) _ _ hp,cl,N.nTsf,(by show 0 < 1000;decide),_,rfl,_,rfl,p,B.ts,dx,_,rfl,zA1,cl,N.nTsv,(by show 1 < 1000;decide),fin (s1.trans s2)⟩
theorem scOt:FnScope ["kind", "things"] ["kind", "things"] (defScope sOtherKinds):=⟨rfl,rfl,rfl,by decide +kernel,rfl,by decide +kernel,by decide +kernel⟩
theorem ok_otherK {f fu fn:Addr}{fd fdu fdn:FuncData} (hC:Calm CX) (T:Tops K mg) (F:Fun K "are_other_kinds" "are_other_kinds" sOtherKinds f fd) (DN:Def K mg "is_name" sIsName ["thing"] fn fdn) (DU:Def K mg "are_unlike_names" sUnlike ["things"] fu fdu):FnOk P w K mg base CX 3 f fd ["kind", "things"] spOtherK:=by
 have GU:FnOk P w K mg base CX 2 fu fdu ["things"] spUnlike:=zCl hC T DU.fn DN;refine Fun.okC F scOt (fun vs H Q E h=>?_) (fun cdv A outer s H vs Q E hr h=>?_)
 ·obtain ⟨l,n,bs,rfl,_⟩:=h;rfl
 ·obtain ⟨l,n,bs,rfl,hl,ok,no,k⟩:=h;refine ⟨_,zA5 (zA9 (zCf (zAh zAo rfl T.isinst PyProof.Rows.boot_isinstance (zA0 (pv 1) (zA0 (zBp (v:=.ty "list") rfl T.list PyProof.Rows.boot_list rfl) zA2))) (zCf (zA6 GU hr rfl DU.at_ DU.fn.kp DU.bind .nil (passC hC) (zA0 (pv 1) zA2)) (zCe (zAq zBz (pv 0) (pv 1) rfl))))),?_⟩;refine ⟨_,rfl,_,_,_,_,_,rfl,.lst hl,rfl,rfl,_,rfl,iteT ?_⟩;refine ⟨_,rfl,_,bs.map .str,rfl,zDh trivial hl ok,fun H1 s1=>⟨_,rfl,?_⟩⟩;rw [zCg (fun y hy=>(ok.1 y hy).1) ok.2.1];refine iteT ⟨_,rfl,_,rfl,l,_,rfl,.inl (SqL.of (s1 _ _ hl)),rfl,flats _,?_⟩;rw [zCm,decide_eq_false no];exact k H1 s1
theorem scRu:FnScope ["self", "kind", "change", "condition", "behind"] ["self", "kind", "change", "condition", "behind"] (defScope sInitR):=⟨rfl,rfl,rfl,by decide +kernel,rfl,by decide +kernel,by decide +kernel⟩
theorem ok_ru {f fo fn:Addr}{fd fdo fdn:FuncData}{A:CA}{B:CB} (hC:Calm CX) (T:Tops K mg) (M:Cnd K mg A) (N:Cng K mg B) (F:Fun K "__init__" "Rule.__init__" sInitR f fd) (DN:Def K mg "is_name" sIsName ["thing"] fn fdn) (DO:Def K mg "are_other_kinds" sOtherKinds ["kind", "things"] fo fdo) (GO:FnOk P w K mg base CX 3 fo fdo ["kind", "things"] spOtherK):FnOk P w K mg base CX 4 f fd ["self", "kind", "change", "condition", "behind"] (spRu A B):=by
 have GN:FnOk P w K mg base CX 1 fn fdn ["thing"] spNameD:=zCt DN.fn T;refine Fun.okC F scRu (fun vs H Q E h=>?_) (fun cdv Ar outer s H vs Q E hr h=>?_)
 ·obtain ⟨p,dx,c,t,l,n,bs,rfl,_⟩:=h;rfl
 ·obtain ⟨p,dx,c,t,l,n,bs,rfl,hp,on,⟨C,dc,fc,hc,ic⟩,ht,hl,ok,no,q⟩:=h;have hr1:=hr.mono (show 1≤3 by decide);have nd:=scRu.nd
  refine ⟨_,zA3 (zAn (zAz (zAt (zA6 GN hr1 rfl DN.at_ DN.fn.kp DN.bind .nil (passC hC) (zA0 (pv 1) zA2))))
     zAp zAb)
     (zA3 (zAn (zAz (zAt (zAh zAo rfl T.isinst PyProof.Rows.boot_isinstance (zA0 (pv 2) (zA0 (zBv (v:=.ref B.ch) rfl N.ch rfl) zA2)))))
     zAp zAb)
     (zA3 (zAn (zAz (zAt (zAh zAo rfl T.isinst PyProof.Rows.boot_isinstance (zA0 (pv 3) (zA0 (zBv (v:=.ref A.cc) rfl M.cc rfl) zA2)))))
     zAp zAb)
     (zA3 (zAn (zAz (zAt (zA6 GO hr rfl DO.at_ DO.fn.kp DO.bind .nil (passC hC) (zA0 (pv 1) (zA0 (pv 4) zA2)))))
     zAp zAb)
     (zA3 (zBf (pv 0) (pv 1) rfl)
     (zA3 (zBf (pv 0) (pv 2) rfl)
     (zA3 (zBf (pv 0) (pv 3) rfl)
     (zA5 (zBf (pv 0) (zAs zB1 rfl T.list PyProof.Rows.boot_list (zA0 (pv 4) zA2)) rfl)))))))),?_⟩
  refine ⟨_,rfl,_,.str n,rfl,.str _ (Zm on.2.2 (by decide)) on.2.1,fun H1 s1=>⟨_,rfl,?_⟩⟩;rw [show nameD (.str n)=true from on.1];refine iteF ⟨_,rfl,_,_,_,_,_,rfl,(N.all C ic).ty (s1 _ _ hc),rfl,(N.all C ic).sub,_,rfl,iteF ?_⟩;obtain ⟨C2,ty2,kt2⟩:=isi_all M (ht.same s1);refine ⟨_,rfl,_,_,_,_,_,rfl,ty2,rfl,kt2,_,rfl,iteF ?_⟩;refine ⟨_,rfl,_,rfl,l,n,bs,rfl,s1 _ _ hl,ok,no,fun H2 s2=>⟨_,rfl,iteF ?_⟩⟩;have s12:=s1.trans s2;refine ⟨_,rfl,_,rfl,p,B.ru,dx,[],rfl,s12 _ _ hp,N.rcl,N.nRk,(by show 0 < 1000;decide),?_⟩;refine ⟨_,rfl,_,rfl,p,B.ru,dx,_,rfl,zA1,N.rcl,N.nRc,(by show 1 < 1000;decide),?_⟩;refine ⟨_,rfl,_,rfl,p,B.ru,dx,_,rfl,zA1,N.rcl,N.nRd,(by show 2 < 1000;decide),?_⟩;have fr:∀ b o,H b=some o→b≠p→(upd (upd (upd H2 p (.ins B.ru dx (putF "kind" (.str n) []))) p (.ins B.ru dx (putF "change" (.ref c) (putF "kind" (.str n) [])))) p (.ins B.ru dx (putF "condition" (.ref t) (putF "change" (.ref c) (putF "kind" (.str n) []))))) b=some o:=fun b o e nb=>by rw [zAa nb,zAa nb,zAa nb];exact s12 _ _ e
  have hp5:(upd (upd (upd H2 p (.ins B.ru dx (putF "kind" (.str n) []))) p (.ins B.ru dx (putF "change" (.ref c) (putF "kind" (.str n) [])))) p (.ins B.ru dx (putF "condition" (.ref t) (putF "change" (.ref c) (putF "kind" (.str n) []))))) p=some (.ins B.ru dx (putF "condition" (.ref t) (putF "change" (.ref c) (putF "kind" (.str n) [])))):=zA1;generalize upd (upd (upd H2 p (.ins B.ru dx (putF "kind" (.str n) []))) p (.ins B.ru dx (putF "change" (.ref c) (putF "kind" (.str n) [])))) p (.ins B.ru dx (putF "condition" (.ref t) (putF "change" (.ref c) (putF "kind" (.str n) []))))=H5 at fr hp5 ⊢;have npl:l≠p:=by rintro rfl;rw [hl] at hp;cases hp
  refine ⟨_,rfl,l,_,rfl,.inl (SqL.of (fr _ _ hl npl)),fun l2 h2=>?_⟩;have n2:l2≠p:=Ne.symm (zA7 hp5 h2);have f2:H l2=none:=by
   cases z:H l2 with
   | none=>rfl
   | some o=>rw [fr _ _ z n2] at h2;cases h2
  refine ⟨_,rfl,p,B.ru,dx,_,rfl,(Same.new h2) _ _ hp5,N.rcl,N.nRb,(by show 3 < 1000;decide),?_⟩;exact q _ l2 zA1 (by rw [zAa n2];exact zA1) f2 fun b o e nb=>by rw [zAa nb];exact (Same.new h2) _ _ (fr b o e nb)
theorem scAi:FnScope ["self", "kind", "situation"] ["self", "kind", "situation"] (defScope sTsA):=⟨rfl,rfl,rfl,by decide +kernel,rfl,by decide +kernel,by decide +kernel⟩
theorem ok_aim {f fv C:Addr}{fd fdv:FuncData}{B:CB} (hC:Calm CX) (N:Cng K mg B) (F:Fun K "aim" "ToSet.aim" sTsA f fd) (DV:Def K mg "value_in" sValueIn ["kind", "state", "field"] fv fdv) (GV:FnOk P w K mg base CX 2 fv fdv ["kind", "state", "field"] (spValIn C)):FnOk P w K mg base CX 3 f fd ["self", "kind", "situation"] (spAim B C):=by
 refine Fun.okC F scAi (fun vs H Q E h=>?_) (fun cdv Ar outer sh H vs Q E hr h=>?_)
 ·obtain ⟨p,pk,a,f,v,r,w,o,s,rfl,_⟩:=h;rfl
 ·obtain ⟨p,pk,a,f,v,r,w,o,s,rfl,I,q⟩:=h;have nd:=scAi.nd;have cl:=(N.all B.ts (.inr (.inl rfl))).cl
  refine ⟨_,zA3 (zAn (zB6 (zC3 (zAw (pv 0) rfl)))
     (zA5 (zA9 (zAw (pv 0) rfl))) zAb)
     (zA5 (zA9 (zA6 GV hr rfl DV.at_ DV.fn.kp DV.bind .nil (passC hC) (zA0 (pv 1) (zA0 (zAf zAd (pv 2) zA4 (fun _ _=>rfl)) (zA0 (zAw (pv 0) rfl) zA2)))))),?_⟩
  obtain ⟨vw,vo,vs,ha,hw,ho,hs⟩:=I.st;have hp:=I.c;cases hp with
  | set e =>
   refine ⟨_,rfl,p,B.ts,_,_,_,rfl,e,cl,N.nTsv,fV_v _ _,_,rfl,?_⟩;cases v with
   | some x=>exact iteT ⟨_,rfl,p,B.ts,_,_,_,rfl,e,cl,N.nTsv,fV_v _ _,q _ (Same.refl _)⟩
   | none=>exact iteF ⟨_,rfl,_,rfl,a,_,1,_,rfl,rfl,SqT.of ha,rfl,_,rfl,p,B.ts,_,_,_,rfl,e,cl,N.nTsf,fV_f _ _,pk,r,vw,w,f,rfl,I.kf,I.fo,hw,I.lw,q⟩
theorem scTmP:FnScope ["self", "kind", "situation"] ["self", "kind", "situation"] (defScope sTmP):=⟨rfl,rfl,rfl,by decide +kernel,rfl,by decide +kernel,by decide +kernel⟩
theorem ok_tmP {f C fI:Addr}{fd:FuncData}{B:CB} (KC:KCls K mg C fI) (N:Cng K mg B) (F:Fun K "is_possible" "ToMake.is_possible" sTmP f fd):FnOk P w K mg base CX 1 f fd ["self", "kind", "situation"] (spPos B C B.tm):=by
 refine Fun.okC F scTmP (fun vs H Q E h=>?_) (fun cdv Ar outer sh H vs Q E hr h=>?_)
 ·obtain ⟨p,pk,a,c,r,w,o,s,rfl,_⟩:=h;rfl
 ·obtain ⟨p,pk,a,c,r,w,o,s,rfl,I,q⟩:=h;obtain ⟨ns,rfl⟩:=(zCv N.ne).1 I.eq;have nd:=scTmP.nd
  refine ⟨_,zA3 (zAn (PW.pt (zBx (zB6 (zC3 (zAw (pv 1) rfl))) (zBg (zB6 (zBn (zAf zAd (pv 2) zA4 (fun _ _=>rfl)))))))
     (zA5 (zA9 zC7)) zAb)
     (zA5 (zA9 (zCf (zAq zCj (zAf zAd (pv 2) zA4 (fun _ _=>rfl)) zBd (nomark _)) (zCe (zAq op_isN (zAf zAd (pv 2) zA4 (fun _ _=>rfl)) zBd (nomark _)))))),?_⟩
  obtain ⟨vw,vo,vs,ha,hw,ho,hs⟩:=I.st;obtain ⟨dx,l,hp,_⟩:=I.kf;have q1:=q _ (Same.refl _);unfold posC at q1;refine ⟨_,rfl,pk,C,dx,_,_,rfl,hp,KC.cl,KC.nO,zDb _ _ _,_,rfl,?_⟩;cases eo:r.owner with
  | none =>
   rw [eo] at q1;refine iteF (iteF ?_);refine ⟨_,rfl,a,_,1,_,rfl,rfl,SqT.of ha,rfl,rfl,_,rfl,?_⟩;rw [hw.non];cases w with
   | none=>exact iteF q1
   | some sw =>
    refine iteT ⟨_,rfl,a,_,3,_,rfl,rfl,SqT.of ha,rfl,rfl,?_⟩;rw [hs.non];cases s with
    | none=>exact q1
    | some ss=>exact q1
  | some n =>
   rw [eo] at q1;refine iteT ⟨_,rfl,a,_,2,_,rfl,rfl,SqT.of ha,rfl,_,rfl,?_⟩;rw [ho.non];cases o with
   | none=>exact iteT q1
   | some oo =>
    refine iteF ?_;refine ⟨_,rfl,a,_,1,_,rfl,rfl,SqT.of ha,rfl,rfl,_,rfl,?_⟩;rw [hw.non];cases w with
    | none=>exact iteF q1
    | some sw =>
     refine iteT ⟨_,rfl,a,_,3,_,rfl,rfl,SqT.of ha,rfl,rfl,?_⟩;rw [hs.non];cases s with
     | none=>exact q1
     | some ss=>exact q1
theorem scTtP:FnScope ["self", "kind", "situation"] ["self", "kind", "situation"] (defScope sTtP):=⟨rfl,rfl,rfl,by decide +kernel,rfl,by decide +kernel,by decide +kernel⟩
theorem ok_ttP {f C:Addr}{fd:FuncData}{B:CB} (N:Cng K mg B) (F:Fun K "is_possible" "ToTake.is_possible" sTtP f fd):FnOk P w K mg base CX 1 f fd ["self", "kind", "situation"] (spPos B C B.tt):=by
 refine Fun.okC F scTtP (fun vs H Q E h=>?_) (fun cdv Ar outer sh H vs Q E hr h=>?_)
 ·obtain ⟨p,pk,a,c,r,w,o,s,rfl,_⟩:=h;rfl
 ·obtain ⟨p,pk,a,c,r,w,o,s,rfl,I,q⟩:=h;cases (zCv N.ne).2.2 I.eq;have nd:=scTtP.nd;refine ⟨_,zA5 (zA9 (zAq zCj (zAf zAd (pv 2) zA4 (fun _ _=>rfl)) zBd (nomark _))),?_⟩;obtain ⟨vw,vo,vs,ha,hw,ho,hs⟩:=I.st;refine ⟨_,rfl,a,_,3,_,rfl,rfl,SqT.of ha,rfl,rfl,?_⟩;rw [hs.non];have q1:=q _ (Same.refl _);cases s with
  | none=>exact q1
  | some ss=>exact q1
theorem scTtO:FnScope ["self", "kind", "situation"] ["self", "kind", "situation"] (defScope sTtO):=⟨rfl,rfl,rfl,by decide +kernel,rfl,by decide +kernel,by decide +kernel⟩
theorem ok_ttO {f C:Addr}{fd:FuncData}{B:CB} (N:Cng K mg B) (F:Fun K "outcome" "ToTake.outcome" sTtO f fd):FnOk P w K mg base CX 1 f fd ["self", "kind", "situation"] (spOut B C B.tt):=by
 refine Fun.okC F scTtO (fun vs H Q E h=>?_) (fun cdv Ar outer sh H vs Q E hr h=>?_)
 ·obtain ⟨p,pk,a,c,r,w,o,s,rfl,_⟩:=h;rfl
 ·obtain ⟨p,pk,a,c,r,w,o,s,rfl,I,_,q⟩:=h;cases (zCv N.ne).2.2 I.eq;exact ⟨_,zA5 (zA9 zBd),q _ _ (Same.refl _) rfl⟩
theorem scTsP:FnScope ["self", "kind", "situation"] ["self", "kind", "situation"] (defScope sTsP):=⟨rfl,rfl,rfl,by decide +kernel,rfl,by decide +kernel,by decide +kernel⟩
theorem ok_tsP {f fh C:Addr}{fd fdh fda:FuncData}{B:CB} (hC:Calm CX) (N:Cng K mg B) (F:Fun K "is_possible" "ToSet.is_possible" sTsP f fd) (DH:Def K mg "has_value" sHasVal ["kind", "field", "value"] fh fdh) (GH:FnOk P w K mg base CX 2 fh fdh ["kind", "field", "value"] (spHasV C)) (GA:FnOk P w K mg base CX 3 B.aTs fda ["self", "kind", "situation"] (spAim B C)) (bA:Binds K fda ["self", "kind", "situation"] []):FnOk P w K mg base CX 4 f fd ["self", "kind", "situation"] (spPos B C B.ts):=by
 refine Fun.okC F scTsP (fun vs H Q E h=>?_) (fun cdv Ar outer sh H vs Q E hr h=>?_)
 ·obtain ⟨p,pk,a,c,r,w,o,s,rfl,_⟩:=h;rfl
 ·obtain ⟨p,pk,a,c,r,w,o,s,rfl,I,q⟩:=h;obtain ⟨f,v,rfl⟩:=(zCv N.ne).2.1 I.eq;have nd:=scTsP.nd;have cl:=(N.all B.ts (.inr (.inl rfl))).cl;have hr2:=hr.mono (show 2≤3 by decide);refine ⟨_,zA5 (zA9 (zCf (zAq zCj (zAf zAd (pv 2) zA4 (fun _ _=>rfl)) zBd (nomark _)) (zCe (zA6 GH hr2 rfl DH.at_ DH.fn.kp DH.bind .nil (passC hC) (zA0 (pv 1) (zA0 (zAw (pv 0) rfl) (zA0 (zC2 (pv 0) cl N.aTs GA hr bA .nil (passC hC) (zA0 (pv 1) (zA0 (pv 2) zA2))) zA2))))))),?_⟩;obtain ⟨vw,vo,vs,ha,hw,ho,hs⟩:=I.st;refine ⟨_,rfl,a,_,3,_,rfl,rfl,SqT.of ha,rfl,rfl,_,rfl,?_⟩;rw [hs.non];unfold posC at q;have hp:=I.c;cases s with
  | none=>exact iteF (q _ (Same.refl _))
  | some ss =>
   cases hp with
   | set e =>
    refine iteT ⟨_,rfl,_,rfl,p,B.ts,_,_,_,rfl,e,cl,N.nTsf,fV_f _ _,_,rfl,p,_,_,rfl,e,fV_n _ _ (by decide +kernel) (by decide +kernel),_,rfl,_,rfl,p,pk,a,f,v,r,w,o,some ss,rfl,I,fun H1 s1=>?_⟩;exact ⟨pk,r,f,_,rfl,I.kf.same s1,I.fo,fun H2 s2=>q _ (s1.trans s2)⟩
theorem scTsO:FnScope ["self", "kind", "situation"] ["self", "kind", "situation"] (defScope sTsO):=⟨rfl,rfl,rfl,by decide +kernel,rfl,by decide +kernel,by decide +kernel⟩
theorem ok_tsO {f fw C:Addr}{fd fdw fda:FuncData}{B:CB} (hC:Calm CX) (N:Cng K mg B) (F:Fun K "outcome" "ToSet.outcome" sTsO f fd) (DW:Def K mg "with_value" sWithVal ["kind", "state", "field", "value"] fw fdw) (GW:FnOk P w K mg base CX 2 fw fdw ["kind", "state", "field", "value"] (spWith C)) (GA:FnOk P w K mg base CX 3 B.aTs fda ["self", "kind", "situation"] (spAim B C)) (bA:Binds K fda ["self", "kind", "situation"] []):FnOk P w K mg base CX 4 f fd ["self", "kind", "situation"] (spOut B C B.ts):=by
 refine Fun.okC F scTsO (fun vs H Q E h=>?_) (fun cdv Ar outer sh H vs Q E hr h=>?_)
 ·obtain ⟨p,pk,a,c,r,w,o,s,rfl,_⟩:=h;rfl
 ·obtain ⟨p,pk,a,c,r,w,o,s,rfl,I,pos,q⟩:=h;obtain ⟨f,v,rfl⟩:=(zCv N.ne).2.1 I.eq;have nd:=scTsO.nd;have cl:=(N.all B.ts (.inr (.inl rfl))).cl;have hr2:=hr.mono (show 2≤3 by decide);refine ⟨_,zA5 (zA9 (zA6 GW hr2 rfl DW.at_ DW.fn.kp DW.bind .nil (passC hC) (zA0 (pv 1) (zA0 (zAf zAd (pv 2) zA4 (fun _ _=>rfl)) (zA0 (zAw (pv 0) rfl) (zA0 (zC2 (pv 0) cl N.aTs GA hr bA .nil (passC hC) (zA0 (pv 1) (zA0 (pv 2) zA2))) zA2)))))),?_⟩;obtain ⟨vw,vo,vs,ha,hw,ho,hs⟩:=I.st;have pos:(s.isSome && hasVal r.fields f (aimS r w f v))=true:=pos;unfold hasVal at pos;have hp:=I.c;cases s with
  | none=>cases pos
  | some ss =>
   obtain ⟨sa,rfl,hsa⟩:=hs;cases ep:placeOf r.fields f with
   | none=>rw [ep] at pos;cases pos
   | some i =>
    cases ea:aimS r w f v with
    | none=>rw [ep,ea] at pos;cases pos
    | some x =>
     rw [show outC r w (some ss) (.set f v)=some (setAt ss i x) by simp only [outC,ep,ea]] at q;cases hp with
     | set e =>
      refine ⟨_,rfl,_,rfl,a,_,3,_,rfl,rfl,SqT.of ha,rfl,_,rfl,p,B.ts,_,_,_,rfl,e,cl,N.nTsf,fV_f _ _,_,rfl,p,_,_,rfl,e,fV_n _ _ (by decide +kernel) (by decide +kernel),_,rfl,_,rfl,p,pk,a,f,v,r,w,o,some ss,rfl,I,fun H1 s1=>?_⟩;rw [ea];exact ⟨pk,sa,r,ss,f,x,i,rfl,I.kf.same s1,I.fo,s1 _ _ hsa,I.ls ss rfl,ep,fun c H2 s2 h2=>q _ _ (s1.trans s2) ⟨c,rfl,h2⟩⟩
end
end L2.W
namespace L2.W
open PySem My
theorem half_0 {fs:List (Str×List Str)}{ns:List Str}{ws:List (Option Str)}:(half fs ns ws 0).map ownV=(firstS fs).map V.str:=by
 unfold half;rw [List.take_zero,List.nil_append,List.drop_zero,someV]
theorem half_all {fs:List (Str×List Str)}{ns:List Str}{ws:List (Option Str)} (h:ws.length=fs.length):half fs ns ws fs.length=mkS fs ns ws:=by
 unfold half;rw [List.take_of_length_le (by rw [zE1 h];exact Z7 _),List.drop_of_length_le (by unfold firstS;rw [Z0,Z0];exact Z7 _),List.append_nil]
structure RuIn (A:CA) (B:CB) (H:Hp) (p:Addr) (n:Str) (c:Chg) (t:Tr) (bs:List Str) (pc pt l:Addr):Prop where
 e:∃ dx,H p=some (.ins B.ru dx (rF (.str n) (.ref pc) (.ref pt) (.ref l)))
 c:ChgAt B H pc c
 t:CondAt A H pt t
 l:H l=some (.lst (bs.map V.str))
noncomputable def useB (rs:List Row) (r:Row) (w o s:Option (List (Option Str))) (n:Str) (c:Chg) (t:Tr):Bool:=decide (r.name=n) && (ev (evL rs r w o s) t && posC r w o s c)
structure Usd (A:CA) (B:CB) (CK C:Addr) (H:Hp) (q p a:Addr) (rs:List Row) (r:Row) (w o s:Option (List (Option Str))) (n:Str) (c:Chg) (t:Tr) (bs:List Str) (pc pt l:Addr):Prop where
 ru:RuIn A B H p n c t bs pc pt l
 ct:ChgOk c
 ok:TrOk t
 h:trH t≤2
 kd:Kd CK C H q rs
 rp:RowsP rs
 st:SitAt H a r w o s
 so:SitOk rs r w o s
theorem RuIn.same {A:CA}{B:CB}{H H':Hp}{p:Addr}{n:Str}{c:Chg}{t:Tr}{bs:List Str}{pc pt l:Addr} (h:RuIn A B H p n c t bs pc pt l) (s:Same H H'):RuIn A B H' p n c t bs pc pt l:=⟨let ⟨dx,e⟩:=h.e;⟨dx,s _ _ e⟩,h.c.same s,h.t.same s,s _ _ h.l⟩
theorem Usd.same {A:CA}{B:CB}{CK C:Addr}{H H':Hp}{q p a:Addr}{rs:List Row}{r:Row}{w o s:Option (List (Option Str))}{n:Str}{c:Chg}{t:Tr}{bs:List Str}{pc pt l:Addr} (h:Usd A B CK C H q p a rs r w o s n c t bs pc pt l) (k:Same H H'):Usd A B CK C H' q p a rs r w o s n c t bs pc pt l:=⟨h.ru.same k,h.ct,h.ok,h.h,h.kd.same k,h.rp,h.st.same k,h.so⟩
noncomputable def spUse (A:CA) (B:CB) (CK C:Addr):Sp:=fun vs H Q _=>∃ (q p a:Addr) (rs:List Row) (r:Row) (w o s:Option (List (Option Str))) (n:Str) (c:Chg) (t:Tr) (bs:List Str) (pc pt l:Addr),vs=[.ref q,.ref p,.ref a]∧Usd A B CK C H q p a rs r w o s n c t bs pc pt l∧∀ H',Same H H'→Q (.bl (useB rs r w o s n c t)) H'
noncomputable def spBeh (A:CA) (B:CB) (CK C:Addr):Sp:=fun vs H Q _=>∃ (q p a:Addr) (rs:List Row) (r:Row) (w o s:Option (List (Option Str))) (n:Str) (c:Chg) (t:Tr) (bs:List Str) (pc pt l:Addr),vs=[.ref q,.ref p,.ref a]∧Usd A B CK C H q p a rs r w o s n c t bs pc pt l∧useB rs r w o s n c t=true∧∀ v H',Same H H'→OptAt H' v (outC r w s c)→Q v H'
theorem Usd.chg {A:CA}{B:CB}{CK C:Addr}{H H':Hp}{q p a:Addr}{rs:List Row}{r:Row}{w o s:Option (List (Option Str))}{n:Str}{c:Chg}{t:Tr}{bs:List Str}{pc pt l pk:Addr} (h:Usd A B CK C H q p a rs r w o s n c t bs pc pt l) (k:Same H H') (kf:KF C Any H' pk r):∃ dx fs,H' pc=some (.ins (clsC B c) dx fs)∧IsChg B (clsC B c)∧fs.lookup ("is_possible" : Str)=none∧fs.lookup ("outcome" : Str)=none∧ChgIn B C H' (clsC B c) pc pk a c r w o s:=by
 obtain ⟨dx,fs,e,i,n1,n2⟩:=(h.ru.c.same k).ins;exact ⟨dx,fs,e,i,n1,n2,⟨dx,fs,e⟩,h.ru.c.same k,h.ct,kf,(h.rp.ok r h.so.mem).2,h.st.same k,h.so.lw,h.so.ls⟩
section
variable {P:Program}{w:World}{K:PySem.W.Frag}{mg:Str→Option Value}{base:Heap}{CX:CXT}
theorem scTmO:FnScope ["self", "kind", "situation", "state", "field", "wished"] ["self", "kind", "situation"] (defScope sTmO):=⟨rfl,rfl,rfl,by decide +kernel,rfl,by decide +kernel,by decide +kernel⟩
theorem ok_tmO {f ff fv fw C fI:Addr}{fd fdf fdv fdw:FuncData}{B:CB} (hC:Calm CX) (KC:KCls K mg C fI) (N:Cng K mg B) (F:Fun K "outcome" "ToMake.outcome" sTmO f fd) (DF:Def K mg "first_state" sFirst ["kind"] ff fdf) (GF:FnOk P w K mg base CX 1 ff fdf ["kind"] (spFirst C)) (DV:Def K mg "value_in" sValueIn ["kind", "state", "field"] fv fdv) (GV:FnOk P w K mg base CX 2 fv fdv ["kind", "state", "field"] (spValIn C)) (DW:Def K mg "with_value" sWithVal ["kind", "state", "field", "value"] fw fdw) (GW:FnOk P w K mg base CX 2 fw fdw ["kind", "state", "field", "value"] (spWith C)):FnOk P w K mg base CX 3 f fd ["self", "kind", "situation"] (spOut B C B.tm):=by
 refine Fun.okC F scTmO (fun vs H Q E h=>?_) (fun cdv Ar outer sh H vs Q E hr h=>?_)
 ·obtain ⟨p,pk,a,c,r,w,o,s,rfl,_⟩:=h;rfl
 ·obtain ⟨p,pk,a,c,r,w,o,s,rfl,I,pos,q⟩:=h;obtain ⟨ns,rfl⟩:=(zCv N.ne).1 I.eq;have nd:=scTmO.nd;have cl:=(N.all B.tm (.inl rfl)).cl;have hr1:=hr.mono (show 1≤2 by decide)
  refine ⟨_,zA3 (zAi (i:=3) nd rfl (Or.inl rfl) (zA6 GF hr1 rfl DF.at_ DF.fn.kp DF.bind .nil (passC hC) (zA0 (pv 1) zA2)))
     (zA3 (zBt PassesOwn.never rfl (zAk (zAw (pv 1) rfl)) (zA8 (i:=4) nd rfl (Or.inl rfl))
     (zA3 (zAi (i:=5) nd rfl (Or.inl rfl) (zA6 GV hr rfl DV.at_ DV.fn.kp DV.bind .nil (passC hC) (zA0 (pv 1) (zA0 (zAf zAd (pv 2) zA4 (fun _ _=>rfl)) (zA0 (zAf zAd (pv 4) zA4 (fun _ _=>rfl)) zA2)))))
     (zA5 (zAn (PW.pt (zBx (zAg zD9 (zAf zAd (pv 4) zA4 (fun _ _=>rfl)) (zAw (pv 0) rfl) rfl) (zBg (zB6 (zC3 (pv 5))))))
     (zA5 (zAi (i:=3) nd rfl (Or.inl rfl) (zA6 GW hr rfl DW.at_ DW.fn.kp DW.bind .nil (passC hC) (zA0 (pv 1) (zA0 (pv 3) (zA0 (zAf zAd (pv 4) zA4 (fun _ _=>rfl)) (zA0 (pv 5) zA2))))))) zAb))))
     (zA5 (zA9 (pv 3)))),?_⟩
  obtain ⟨vw,vo,vs,ha,hw,ho,hs⟩:=I.st;have pos:((r.owner.isNone || o.isSome) && (w.isSome && s.isNone))=true:=pos;cases w with
  | none=>simp at pos
  | some ws =>
   have wl:=I.lw ws rfl;have q:∀ v H',Same H H'→OptAt H' v (some (mkS r.fields ns ws))→Q v H':=q;have hp:=I.c;cases hp with
   | make e hln =>
    rename_i dxm ln
    refine ⟨_,rfl,pk,r.fields,rfl,I.kf.at_,I.fo,fun t0 H1 s1 n1 h1=>?_⟩;obtain ⟨dx,l,hk,hd⟩:=I.kf.same s1;obtain ⟨l',xs,e',_,hl,_,hx⟩:=hd.list_inv;cases e';have xl:xs.length=r.fields.length:=by rw [hx.length,Z0]
    rw [← half_0 (ns:=ns) (ws:=ws)] at h1
    refine ⟨_,rfl,pk,C,dx,_,_,rfl,hk,KC.cl,KC.nF,zDc _ _ _,l,rfl,⟨_,SqL.of hl⟩,zBs (K:=K) (a:=l) (xs:=xs) (fun i σ H'=>∃ (ts:Addr) (x4 x5:Option V),σ = [some (.ref p),some (.ref pk),some (.ref a),some (.ref ts),x4,x5]∧Same H1 H'∧H' ts=some (.tup ((half r.fields ns ws i).map ownV)))
     ⟨t0,_,_,rfl,Same.refl _,h1⟩ (fun i σ H' _ ⟨_,_,_,_,s,_⟩=>SqL.of (s _ _ hl)) ?_ ?_⟩
    ·rintro i x σ H2 hi ⟨ts,x4,x5,rfl,s2,h2⟩;obtain ⟨d,hd',hv⟩:=hx.get hi;rw [Z4] at hd';cases ef:r.fields[i]? with
     | none=>rw [ef] at hd';cases hd'
     | some f =>
      rw [ef] at hd';cases hd';have s12:=s1.trans s2;have ep:=zEm I.fo.nd ef;have il:=(List.getElem?_eq_some_iff.mp ef).1;obtain ⟨b,lv,rfl,hb,_⟩:=zB8 hv;have hb2:=s2 _ _ hb;refine ⟨_,rfl,_,rfl,a,_,1,_,rfl,rfl,SqT.of (s12 _ _ ha),rfl,_,rfl,b,_,0,_,rfl,rfl,SqT.of hb2,rfl,pk,r,vw,some ws,f.1,rfl,I.kf.same s12,I.fo,hw.same s12,I.lw,fun H3 s3=>?_⟩;have ev:valIn r.fields (some ws) f.1=ws.getD i none:=by unfold valIn;rw [ep]
      rw [ev];have s13:=s12.trans s3;refine ⟨_,rfl,b,_,0,_,rfl,rfl,SqT.of (s3 _ _ hb2),rfl,_,rfl,p,B.tm,_,_,_,rfl,s13 _ _ e,cl,N.nTm,fFl_f _,ln,_,rfl,.inl (SqL.of (s13 _ _ hln)),rfl,flats _,_,rfl,?_⟩;show if inV (.str f.1) (ns.map V.str)=true then _ else _
      rw [zCm];have keep:(decide (f.1∈ns) && (ws.getD i none).isSome)=false→∃ (ts':Addr) (x4 x5:Option V),([some (.ref p),some (.ref pk),some (.ref a),some (.ref ts),some (.ref b),some (ownV (ws.getD i none))]:St)=[some (.ref p),some (.ref pk),some (.ref a),some (.ref ts'),x4,x5]∧Same H1 H3∧H3 ts'=some (.tup ((half r.fields ns ws (i + 1)).map ownV)):=fun z=>⟨ts,_,_,rfl,s2.trans s3,by rw [half_keep wl ef z];exact s3 _ _ h2⟩;cases c1:decide (f.1∈ns) with
      | false=>exact iteF (iteF (keep (by rw [c1];rfl)))
      | true =>
       refine iteT ⟨_,rfl,_,rfl,?_⟩;cases c2:ws.getD i none with
       | none =>
        rw [c2] at keep;exact iteF (keep (by rw [c1];rfl))
       | some x =>
        refine iteT ⟨_,rfl,_,rfl,_,rfl,b,_,0,_,rfl,rfl,SqT.of (s3 _ _ hb2),rfl,_,rfl,pk,ts,r,_,f.1,x,i,rfl,I.kf.same s13,I.fo,s3 _ _ h2,half_len wl (by omega),ep,fun c H4 s4 h4=>⟨c,_,_,rfl,(s2.trans s3).trans s4,?_⟩⟩;rw [half_step wl ef,c2];unfold oneS;rw [c1];exact h4
    ·rintro σ H2 ⟨ts,x4,x5,rfl,s2,h2⟩;rw [xl,half_all wl] at h2;exact ⟨_,rfl,q _ _ (s1.trans s2) ⟨ts,rfl,h2⟩⟩
theorem scCu:FnScope ["kinds", "rule", "situation"] ["kinds", "rule", "situation"] (defScope sCanUse):=⟨rfl,rfl,rfl,by decide +kernel,rfl,by decide +kernel,by decide +kernel⟩
theorem ok_use {f CK C fIk fOr fOf fOw:Addr}{fd fdO:FuncData}{A:CA}{B:CB} (hC:Calm CX) (N:Cng K mg B) (KS:KsCls K mg CK fIk fOr fOf fOw) (F:Fun K "can_be_used" "can_be_used" sCanUse f fd) (GO:FnOk P w K mg base CX 2 fOf fdO ["self", "name"] (spOf CK)) (bO:Binds K fdO ["self", "name"] []) (Hh:∀ X,IsCond A X→Disp P w K mg base CX 7 "holds" ["self", "kinds", "situation"] (spHolds A CK C 3 X) X) (Hp_:∀ X,IsChg B X→Disp P w K mg base CX 4 "is_possible" ["self", "kind", "situation"] (spPos B C X) X):FnOk P w K mg base CX 8 f fd ["kinds", "rule", "situation"] (spUse A B CK C):=by
 refine Fun.okC F scCu (fun vs H Q E h=>?_) (fun cdv Ar outer sh H vs Q E hr h=>?_)
 ·obtain ⟨q,p,a,rs,r,w,o,s,n,c,t,bs,pc,pt,l,rfl,_⟩:=h;rfl
 ·obtain ⟨q,p,a,rs,r,w,o,s,n,c,t,bs,pc,pt,l,rfl,U,k⟩:=h;have nd:=scCu.nd;have hr2:=hr.mono (show 2≤7 by decide);have hr4:=hr.mono (show 4≤7 by decide)
  refine ⟨_,zA3 (zAn (PW.pt (zBi (zAg op_ne (zAf zAd (pv 2) zA4 (fun _ _=>rfl)) (zAw (pv 1) rfl) (nomark _)) (zB9 (zAz (zAt (zBy (D:=(IsCond A)) (zAw (pv 1) rfl) Hh hr (passC hC) (zA0 (pv 0) (zA0 (pv 2) zA2))))))))
     (zA5 (zA9 zC7)) zAb)
     (zA5 (zA9 (zBy (D:=(IsChg B)) (zAw (pv 1) rfl) Hp_ hr4 (passC hC) (zA0 (zC2 (pv 0) KS.cl KS.mOf GO hr2 bO .nil (passC hC) (zA0 (zAw (pv 1) rfl) zA2)) (zA0 (pv 2) zA2))))),?_⟩
  obtain ⟨vw,vo,vs,ha,hw,ho,hs⟩:=id U.st;obtain ⟨dx,e⟩:=U.ru.e;refine ⟨_,rfl,a,_,0,_,rfl,rfl,SqT.of ha,rfl,_,rfl,p,B.ru,_,_,_,rfl,e,N.rcl,N.nRk,rF_k _ _ _ _,rfl,_,rfl,?_⟩;rw [show decide (V.str r.name=V.str n)=decide (r.name=n) by simp];cases cn:decide (r.name=n) with
  | false =>
   refine iteT (iteT ?_);have:=k _ (Same.refl _);unfold useB at this;rw [cn] at this;exact this
  | true =>
   have hn:=of_decide_eq_true cn;refine iteF ⟨_,rfl,p,B.ru,_,_,_,rfl,e,N.rcl,N.nRd,rF_d _ _ _ _,?_⟩;obtain ⟨X,dX,fX,eX,iX,nX⟩:=U.ru.t.ins;refine ⟨pt,X,dX,fX,rfl,eX,iX,nX,_,rfl,_,rfl,pt,q,a,t,rs,r,w,o,s,rfl,⟨⟨dX,fX,eX⟩,U.ru.t,U.ok,U.h,U.kd,U.rp,U.st,U.so⟩,fun H1 s1=>⟨_,rfl,?_⟩⟩;cases ch:ev (evL rs r w o s) t with
   | false =>
    refine iteT ?_;have:=k _ s1;unfold useB at this;rw [cn,ch] at this;exact this
   | true =>
    have U1:=U.same s1;obtain ⟨dd,kvs,pk,dxk,ka,hq,vv,kf,nn,fo⟩:=kd_of U1.kd U1.rp U1.so.mem;obtain ⟨dy,fy,ey,iy,n1,n2,_⟩:=U1.chg (Same.refl _) kf;refine iteF ⟨_,rfl,p,B.ru,_,_,_,rfl,s1 _ _ e,N.rcl,N.nRc,rF_c _ _ _ _,pc,_,dy,fy,rfl,ey,iy,n1,_,rfl,q,dxk,_,rfl,hq,ks_no _ (by decide),_,rfl,p,B.ru,_,_,_,rfl,s1 _ _ e,N.rcl,N.nRk,rF_k _ _ _ _,q,dd,kvs,n,.ref pk,rfl,hn ▸ nn,ka,hn ▸ vv,fun H2 s2=>⟨_,rfl,?_⟩⟩;obtain ⟨_,_,_,_,_,_,I⟩:=U1.chg s2 (kf.same s2);refine ⟨pc,pk,a,c,r,w,o,s,rfl,I,fun H3 s3=>?_⟩;have:=k _ (s1.trans (s2.trans s3));unfold useB at this;rw [cn,ch] at this;exact this
theorem scSb:FnScope ["kinds", "rule", "situation"] ["kinds", "rule", "situation"] (defScope sBehind):=⟨rfl,rfl,rfl,by decide +kernel,rfl,by decide +kernel,by decide +kernel⟩
theorem ok_beh {f CK C fIk fOr fOf fOw:Addr}{fd fdO:FuncData}{A:CA}{B:CB} (hC:Calm CX) (N:Cng K mg B) (KS:KsCls K mg CK fIk fOr fOf fOw) (F:Fun K "state_behind" "state_behind" sBehind f fd) (GO:FnOk P w K mg base CX 2 fOf fdO ["self", "name"] (spOf CK)) (bO:Binds K fdO ["self", "name"] []) (Ho:∀ X,IsChg B X→Disp P w K mg base CX 4 "outcome" ["self", "kind", "situation"] (spOut B C X) X):FnOk P w K mg base CX 5 f fd ["kinds", "rule", "situation"] (spBeh A B CK C):=by
 refine Fun.okC F scSb (fun vs H Q E h=>?_) (fun cdv Ar outer sh H vs Q E hr h=>?_)
 ·obtain ⟨q,p,a,rs,r,w,o,s,n,c,t,bs,pc,pt,l,rfl,_⟩:=h;rfl
 ·obtain ⟨q,p,a,rs,r,w,o,s,n,c,t,bs,pc,pt,l,rfl,U,ub,k⟩:=h;have nd:=scSb.nd;have hr2:=hr.mono (show 2≤4 by decide);refine ⟨_,zA5 (zA9 (zBy (D:=(IsChg B)) (zAw (pv 1) rfl) Ho hr (passC hC) (zA0 (zC2 (pv 0) KS.cl KS.mOf GO hr2 bO .nil (passC hC) (zA0 (zAw (pv 1) rfl) zA2)) (zA0 (pv 2) zA2)))),?_⟩;unfold useB at ub;simp only [Zu,decide_eq_true_eq] at ub;obtain ⟨hn,_,pos⟩:=ub;obtain ⟨dx,e⟩:=U.ru.e;obtain ⟨dd,kvs,pk,dxk,ka,hq,vv,kf,nn,fo⟩:=kd_of U.kd U.rp U.so.mem;obtain ⟨dy,fy,ey,iy,n1,n2,_⟩:=U.chg (Same.refl _) kf;refine ⟨_,rfl,p,B.ru,_,_,_,rfl,e,N.rcl,N.nRc,rF_c _ _ _ _,pc,_,dy,fy,rfl,ey,iy,n2,_,rfl,q,dxk,_,rfl,hq,ks_no _ (by decide),_,rfl,p,B.ru,_,_,_,rfl,e,N.rcl,N.nRk,rF_k _ _ _ _,q,dd,kvs,n,.ref pk,rfl,hn ▸ nn,ka,hn ▸ vv,fun H2 s2=>⟨_,rfl,?_⟩⟩;obtain ⟨_,_,_,_,_,_,I⟩:=U.chg s2 (kf.same s2);exact ⟨pc,pk,a,c,r,w,o,s,rfl,I,pos,fun v H3 s3 h3=>k v _ (s2.trans s3) h3⟩
end
end L2.W
namespace L2.W
open PySem My
theorem cut_strs (xs:List Str) (lo hi:Option Int):∃ ms:List Str,cutV (xs.map V.str) lo hi=ms.map V.str∧ms.Sublist xs:=by
 unfold cutV;rw [← List.map_drop,← List.map_take];exact ⟨_,rfl,(List.take_sublist _ _).trans (List.drop_sublist _ _)⟩
theorem step_strs (st:Int) (xs:List Str):∃ ms:List Str,stepL st (xs.map V.str)=ms.map V.str∧(∀ x∈ms,x∈xs)∧(xs.Nodup→ms.Nodup)∧ms.length=xs.length:=by
 unfold stepL;by_cases c:st=1
 ·rw [if_pos c];exact ⟨xs,rfl,fun _ h=>h,id,rfl⟩
 ·rw [if_neg c,← List.map_reverse];exact ⟨xs.reverse,rfl,fun _ h=>List.mem_reverse.mp h,fun h=>List.pairwise_reverse.mpr (h.imp Ne.symm),List.length_reverse⟩
noncomputable def spChg:Sp:=fun vs H Q _=>∃ (p lf:Addr) (b:Bool) (fs:List (Str×List Str)) (k:Int),vs=[.ref p,.ref lf,.bl b]∧Src H p k∧k≤700000∧Fl H p lf fs∧(∀ f∈fs,f.1≠"g") ∧
 ∀ v c H',ChgOk c→Has (fun a=>a≠p) H' v (chgD c)→Src H' p (k + 20)→ButS p H H'→Q v H'
noncomputable def spCObj (B:CB):Sp:=fun vs H Q _=>∃ (v:V) (c:Chg),vs=[v]∧Has Any H v (chgD c)∧ChgOk c∧∀ p H',ChgAt B H' p c→Same H H'→Q (.ref p) H'
noncomputable def ruleD (n:Str) (c:Chg) (t:Tr) (bs:List Str):PyData:=.tuple [.str n,chgD c,trD t,.list (bs.map .str)]
structure RlOk (n:Str) (c:Chg) (t:Tr) (bs:List Str):Prop where
 nm:nameOk n
 cg:ChgOk c
 tr:TrOk t
 h:trH t≤2
 b:NmsOk bs
 no:n∉bs
noncomputable def spRul:Sp:=fun vs H Q _=>∃ (p l:Addr) (b:Bool) (rs:List Row) (k:Int),vs=[.ref p,.ref l,.bl b]∧Src H p k∧k≤600000∧Has (fun a=>a≠p) H (.ref l) (.list (rs.map rowD))∧RowsP rs∧rs.length≤3∧(∀ r∈rs,∀ f∈r.fields,f.1≠"g") ∧
 ∀ v n c t bs H',RlOk n c t bs→Has (fun a=>a≠p) H' v (ruleD n c t bs)→Src H' p (k + 200)→ButS p H H'→Q v H'
noncomputable def spRObj (A:CA) (B:CB):Sp:=fun vs H Q _=>∃ (v:V) (n:Str) (c:Chg) (t:Tr) (bs:List Str),vs=[v]∧Has Any H v (ruleD n c t bs)∧RlOk n c t bs∧∀ p pc pt l H',RuIn A B H' p n c t bs pc pt l→Same H H'→Q (.ref p) H'
theorem zDp {G:Addr→Prop}{H:Hp}:∀ {ys:List V}{ks:List Str},HasAll G H ys (ks.map .str)→ys=ks.map V.str
 | [],[],_=>rfl
 | _ :: _,_ :: _,.cons h t=>by rw [h.str_inv.1,zDp t];rfl
section
variable {P:Program}{w:World}{K:PySem.W.Frag}{mg:Str→Option Value}{base:Heap}{CX:CXT}
noncomputable abbrev nCg:List Str:=["_law_source", "_law_fields_here", "_law_strange", "_law_way", "_law_names", "?", "_law_value_here"]
theorem scCg:FnScope ["_law_source", "_law_fields_here", "_law_strange", "_law_way", "_law_names", "_law_field", "_law_value_here"] ["_law_source", "_law_fields_here", "_law_strange"] (defScope sChange):=⟨rfl,rfl,rfl,by decide +kernel,rfl,by decide +kernel,by decide +kernel⟩
theorem sameCg:sameN ["_law_source", "_law_fields_here", "_law_strange", "_law_way", "_law_names", "_law_field", "_law_value_here"] nCg [5]:=by unfold sameN;decide +kernel
theorem ndCg:(nCg:List Str).Nodup:=by decide +kernel
theorem ok_chg {f fn fp:Addr}{fd fdn fdp:FuncData} (hC:Calm CX) (F:Fun K "_law_change" "_law_change" sChange f fd) (Dn:Def K mg "_law_next" sNext ["_law_source", "_law_many"] fn fdn) (Gn:FnOk P w K mg base CX 2 fn fdn ["_law_source", "_law_many"] spNext)
  (Dp:Def K mg "_law_pair" sLPair ["_law_source", "_law_fields_here", "_law_strange"] fp fdp) (Gp:FnOk P w K mg base CX 3 fp fdp ["_law_source", "_law_fields_here", "_law_strange"] spPairL):FnOk P w K mg base CX 4 f fd ["_law_source", "_law_fields_here", "_law_strange"] spChg:=by
 refine Fun.okC F scCg (fun vs H Q E h=>?_) (fun cdv A outer s H vs Q E hr h=>?_)
 ·obtain ⟨p,lf,b,fs,k,rfl,_⟩:=h;rfl
 ·obtain ⟨p,lf,b,fs,k,rfl,S0,hk,fl,ng,q⟩:=h;have nd:=scCg.nd;have hr2:=hr.mono (show 2≤3 by decide)
  refine ⟨_,zA3 (zAi (i:=3) nd rfl (Or.inl rfl) (zA6 Gn hr2 rfl Dn.at_ Dn.fn.kp Dn.bind .nil (passC hC) (zA0 (pv 0) (zA0 zA4 zA2))))
     (zA3 (zAn (zAg op_lt (pv 3) zA4 (nomark _))
     (zA3 (ps_re nCg [5] sameCg (zAy (T:=["_law_field", "_law_values"]) (i:=4) rfl ScOk.auto (zAk (pv 1)) (fun _ _ _ _=>zBu (K:=K) (n:=2) rfl rfl (zAe (zA8 (i:=7) (by decide +kernel:(["_law_source", "_law_fields_here", "_law_strange", "_law_way", "_law_names", "?", "_law_value_here", "_law_field", "_law_values"]:List Str).Nodup) rfl (Or.inl rfl)) (zAe (zA8 (i:=8) (by decide +kernel:(["_law_source", "_law_fields_here", "_law_strange", "_law_way", "_law_names", "?", "_law_value_here", "_law_field", "_law_values"]:List Str).Nodup) rfl (Or.inl rfl)) zB2))) (fun _ _ _ _=>zB7) (fun _ _ _ _=>(pv 7)) ndCg rfl rfl rfl))
     (zA3 (zAy (T:=["_law_name"]) (i:=4) rfl ScOk.auto (zAk (zDf (pv 4) (zAf zAr (zAm (zA0 zA4 (zA0 (pe_un un_neg zA4) zA2))) (zA6 Gn hr2 rfl Dn.at_ Dn.fn.kp Dn.bind .nil (passC hC) (zA0 (pv 0) (zA0 zA4 zA2))) (fun _ _=>rfl)))) (fun _ _ _ _=>zA8 (i:=7) (by decide +kernel:(["_law_source", "_law_fields_here", "_law_strange", "_law_way", "_law_names", "_law_field", "_law_value_here", "_law_name"]:List Str).Nodup) rfl (Or.inl rfl)) (fun _ _ _ _=>zDl (zAg op_gt (zA6 Gn hr2 rfl Dn.at_ Dn.fn.kp Dn.bind .nil (passC hC) (zA0 (pv 0) (zA0 zA4 zA2))) zA4 (nomark _))) (fun _ _ _ _=>(pv 7)) nd rfl rfl rfl)
     (zA3 (zAn (PW.pt (zBx (zAt (pv 2)) (zBg (zAg zBa (zA6 Gn hr2 rfl Dn.at_ Dn.fn.kp Dn.bind .nil (passC hC) (zA0 (pv 0) (zA0 zA4 zA2))) zA4 (nomark _)))))
     (zA5 (zAi (i:=4) nd rfl (Or.inl rfl) (zAv zEo (pv 4) (zAm (zA0 zAl zA2))))) zAb)
     (zA5 (zA9 (zBc (zA0 zAl (zA0 (pv 4) zA2)))))))) zAb)
     (zA3 (zAn (PW.pt (zBx (zAg op_lt (pv 3) zA4 (nomark _)) (zBg (PW.pt (zBi (zAg (zEn hr.units) (pv 1) (zAm zA2) (nomark _)) (zB9 (zAt (pv 2))))))))
     (zA3 (zD5 (zA6 Gp hr rfl Dp.at_ Dp.fn.kp Dp.bind .nil (passC hC) (zA0 (pv 0) (zA0 (pv 1) (zA0 (pv 2) zA2)))) (zC6 rfl (zAe (zA8 (i:=5) nd rfl (Or.inl rfl)) (zAe (zA8 (i:=6) nd rfl (Or.inl rfl)) zB2))))
     (zA5 (zA9 (zBc (zA0 zAl (zA0 (pv 5) (zA0 (zAf zAr (zAm (zA0 (pv 6) (zA0 zBd zA2))) (zA6 Gn hr2 rfl Dn.at_ Dn.fn.kp Dn.bind .nil (passC hC) (zA0 (pv 0) (zA0 zA4 zA2))) (fun _ _=>rfl)) zA2))))))) zAb)
     (zA5 (zA9 (zBc (zA0 zAl zA2)))))),?_⟩
  have small:∀ n:Nat,n≤1000→n≤sizeLine:=fun n h=>Zn (small1000 h);refine ⟨_,rfl,p,6,k,rfl,S0,by omega,by decide,by decide,fun r H1 r0 r1 S1 k1=>?_⟩;have b1:ButS p H H1:=ButS.eq k1;have fl1:=fl.but b1;clear k1;refine if_any (.lt rfl) (fun H2 s2=>?_) (fun H2 s2=>?_)
  ·have S2:=S1.up s2;have b2:=b1.trans (ButS.same s2);have fl2:=fl.but b2;obtain ⟨lf',xs,e,nlf,hl,hz,hx⟩:=fl2.has.list_inv;cases e;have xl:xs.length=fs.length:=by rw [hx.length,Z0]
   have f3:=fl.ok.le;refine ⟨_,rfl,lf,rfl,⟨_,SqL.of hl⟩,?_⟩;refine
    zAj (xs:=xs) (fun i ys H'=>H2=H'∧ys=((fs.take i).map (·.1)).map V.str) ⟨rfl,rfl⟩ (fun i ys H' p=>by rw [← p.1];exact SqL.of hl) (fun i ys H' hi p=>by rw [p.2,Z0,Z0,Zk];exact small _ (by omega)) (fun i x ys H' hi z N hN=>(by
     obtain ⟨rfl,rfl⟩:=z;obtain ⟨d,hd,hv⟩:=hx.get hi;rw [Z4] at hd;cases ef:fs[i]? with
     | none=>rw [ef] at hd;cases hd
     | some f =>
      rw [ef] at hd;cases hd;obtain ⟨b,lv,rfl,hb,_⟩:=zB8 hv;refine pickT (SqT.of hb) ⟨_,rfl,hN _ _ ⟨rfl,?_⟩⟩;rw [Z5,ef,Z6,Z6]
      rfl)) ?_
   rintro ys H' ⟨rfl,rfl⟩ ln hln;rw [xl,Zb];have s3:Same H2 (upd H2 ln (.lst ((fs.map (·.1)).map V.str))):=Same.new hln;have e3:(upd H2 ln (.lst ((fs.map (·.1)).map V.str))) ln=some (.lst ((fs.map (·.1)).map V.str)):=zA1;have n3:=S2.nw hln;generalize upd H2 ln (.lst ((fs.map (·.1)).map V.str))=H3 at s3 e3 ⊢;have S3:=S2.up s3;dsimp only [gName,Ends.hid,hide,List.set];refine ⟨_,rfl,_,rfl,small 2 (by decide),fun l2 f2=>⟨_,rfl,p,2,_,rfl,S3.up (Same.new f2),by omega,by decide,by decide,fun r2 H4 r20 r21 S4 k4=>?_⟩⟩;have n2:=S3.nw f2;obtain ⟨st,hst,hst2⟩:∃ st:Int,atI ([.int 1,.int (-1)]:List V) r2=some (.int st)∧(st=1∨st = -1):=by
    have:r2=0∨r2=1:=by omega
    rcases this with e | e <;> rw [e]
    ·exact ⟨1,rfl,.inl rfl⟩
    ·exact ⟨-1,rfl,.inr rfl⟩
   refine ⟨l2,_,r2,_,rfl,rfl,SqL.of (by rw [k4 l2 n2];exact zA1),hst,ln,_,st,rfl,rfl,hst2,SqL.of (by rw [k4 ln n3];exact (Same.new f2) _ _ e3),fun p3 f3'=>?_⟩;obtain ⟨ms,ems,msub,mnd,mlen⟩:=step_strs st (fs.map (·.1));rw [ems];have b4:ButS p H H4:=((b2.trans (ButS.same s3)).trans (ButS.same (Same.new f2))).trans (ButS.eq k4);have s5:=Same.new (o:=HO.lst (ms.map V.str)) f3';have e5:(upd H4 p3 (.lst (ms.map V.str))) p3=some (.lst (ms.map V.str)):=zA1;have n5:=S4.nw f3';generalize upd H4 p3 (.lst (ms.map V.str))=H5 at s5 e5 ⊢;have S5:=S4.up s5;rw [Z0] at mlen;refine ⟨p3,rfl,⟨_,SqL.of e5⟩,zAj (xs:=ms.map V.str) (fun i zs H'=>ButS p H5 H'∧Src H' p (k + 2 + i)∧∃ ks:List Str,zs=ks.map V.str∧ks.Sublist (ms.take i)) ⟨(fun _ _ e _=>e),S5.mono (by omega),[],rfl,List.nil_sublist _⟩ (fun i zs H' z=>SqL.of (z.1 _ _ e5 n5)) (fun i zs H' hi z=>?_) ?_ ?_⟩
   ·obtain ⟨_,_,ks,rfl,sb⟩:=z;have h1:=sb.length_le;rw [Zk] at h1;rw [Z0];exact small _ (by omega)
   ·rintro i x zs H' hi ⟨b6,S6,ks,rfl,sb⟩ N hN;rw [Z4] at hi;cases em:ms[i]? with
    | none=>rw [em] at hi;cases hi
    | some m =>
     rw [em] at hi;cases hi;have il:=(List.getElem?_eq_some_iff.mp em).1;have sb1:ks.Sublist (ms.take (i + 1)):=by
      rw [Z5];exact sb.trans (List.sublist_append_left _ _)
     refine ⟨_,rfl,p,3,_,rfl,S6,by omega,by decide,by decide,fun r3 H7 r30 r31 S7 k7=>⟨_,_,rfl,rfl,_,rfl,ite2 (fun _=>⟨_,rfl,hN _ _ ⟨b6.trans (ButS.eq k7),S7.mono (by push_cast;omega),ks++[m],by rw [Z6];rfl,?_⟩⟩) (fun _=>hN _ _ ⟨b6.trans (ButS.eq k7),S7.mono (by push_cast;omega),ks,rfl,sb1⟩)⟩⟩;rw [Z5,em];exact List.Sublist.append sb (List.Sublist.refl _)
   ·rintro zs H' ⟨b6,S6,ks,rfl,sb⟩ l9 f9;rw [Z0,Zb] at sb;rw [Z0] at S6;have sub:∀ x∈ks,x∈fs.map (·.1):=fun x hx=>msub x (sb.subset hx);have nok:∀ x∈ks,nameOk x:=fun x hx=>by
     obtain ⟨f,hf,rfl⟩:=List.mem_map.mp (sub x hx);exact (fl.ok.ok f hf).1
    have knd:ks.Nodup:=(mnd fl.ok.nd).sublist sb;have kle:ks.length≤3:=Zm sb.length_le (by omega);have kg:("g" : Str)∉ks:=fun hg=>by
     obtain ⟨f,hf,e⟩:=List.mem_map.mp (sub _ hg);exact ng f hf e
    have s9:=Same.new (o:=HO.lst (ks.map V.str)) f9;have e9:(upd H' l9 (.lst (ks.map V.str))) l9=some (.lst (ks.map V.str)):=zA1;have n9:=S6.nw f9;generalize upd H' l9 (.lst (ks.map V.str))=H9 at s9 e9 ⊢;have S9:=S6.up s9;have b9:ButS p H H9:=((b4.trans (ButS.same s5)).trans b6).trans (ButS.same s9);have fin:∀ {Hx:Hp}{lx t9:Addr}{ns:List Str}{j:Int},ButS p H Hx→Src Hx p j→j≤k + 20→Hx lx=some (.lst (ns.map V.str))→lx≠p→NmsOk ns→Hx t9=none→Q (.ref t9) (upd Hx t9 (.tup [.str "make",.ref lx])):=fun {Hx lx t9 ns j} bx Sx jx hx nx okx ft =>
     q _ (.make ns) _ okx (.tup (Sx.nw ft) zA1 (by show 2≤1000;decide) (.cons (.str _ (by decide) (by decide +kernel)) (.cons (zDh nx ((Same.new ft) _ _ hx) okx) .nil))) ((Sx.up (Same.new ft)).mono jx) (bx.trans (ButS.same (Same.new ft)))
    dsimp only [gName,Ends.hid,hide,List.set];refine ⟨_,rfl,_,rfl,ite2 (fun _=>⟨_,rfl,p,4,_,rfl,S9,by omega,by decide,by decide,fun r5 H10 r50 r51 S10 k10=>⟨rfl,_,rfl,ite2 (fun _=>?_) (fun _=>?_)⟩⟩) (fun _=>iteF ?_)⟩
    ·have b10:=b9.trans (ButS.eq k10);have e10:H10 l9=some (.lst (ks.map V.str)):=by rw [k10 l9 n9];exact e9
     refine ⟨_,rfl,small 1 (by decide),fun lg fg=>⟨l9,lg,_,_,rfl,rfl,(Same.new fg) _ _ e10,zA1,small _ (by simp;omega),fun l11 f11=>⟨_,rfl,small 2 (by decide),fun t9 f9=>?_⟩⟩⟩;have s11:=(Same.new (o:=HO.lst [.str "g"]) fg).trans (Same.new (o:=HO.lst (ks.map V.str++[.str "g"])) f11);refine fin (ns:=ks++[("g" : Str)]) (b10.trans (ButS.same s11)) (S10.up s11) (by omega) (by rw [zA1,Z6];rfl) ((S10.up (Same.new fg)).nw f11) ⟨fun x hx=>?_,?_,by simp;omega⟩ f9
     ·rcases List.mem_append.mp hx with hx | hx
      ·exact nok x hx
      ·rw [List.mem_singleton.mp hx];exact nmB_ok (by decide +kernel)
     ·refine List.nodup_append.mpr ⟨knd,List.pairwise_singleton _ _,fun x hx y hy e=>?_⟩;rw [List.mem_singleton.mp hy] at e;exact kg (e ▸ hx)
    ·exact ⟨_,rfl,small 2 (by decide),fun t9 f9=>fin (b9.trans (ButS.eq k10)) S10 (by omega) (by rw [k10 l9 n9];exact e9) n9 ⟨nok,knd,by omega⟩ f9⟩
    ·exact ⟨_,rfl,small 2 (by decide),fun t9 f9=>fin b9 S9 (by omega) e9 n9 ⟨nok,knd,by omega⟩ f9⟩
  ·refine if_any (Tst.and (.lt rfl) (.or (.ne (fl1.but (ButS.same s2)) rfl) (.tv rfl))) (fun H3 s3=>?_) (fun H3 s3=>?_)
   ·have s23:=s2.trans s3;refine ⟨_,rfl,_,rfl,_,rfl,p,lf,b,fs,k + 1,rfl,S1.up s23,by omega,fl1.but (ButS.same s23),fun t1 f v H4 of ov h1 n1 S4 b4=>?_⟩;refine ⟨t1,_,rfl,SqT.of h1,rfl,_,_,rfl,_,_,rfl,rfl,_,rfl,_,rfl,small 2 (by decide),fun l2 f2=>⟨_,rfl,p,2,_,rfl,S4.up (Same.new f2),by omega,by decide,by decide,fun r2 H5 r20 r21 S5 k5=>?_⟩⟩;have n2:=S4.nw f2;obtain ⟨vv,hvv,hv2⟩:∃ vv:Option Str,atI ([.str v,.non]:List V) r2=some (ownV vv)∧∀ x,vv=some x→x=v:=by
     have:r2=0∨r2=1:=by omega
     rcases this with e | e <;> rw [e]
     ·exact ⟨some v,rfl,fun x e=>(Zf e).symm⟩
     ·exact ⟨none,rfl,fun x e=>nomatch e⟩
    refine ⟨l2,_,r2,_,rfl,rfl,SqL.of (by rw [k5 l2 n2];exact zA1),hvv,small 3 (by decide),fun t9 f9=>?_⟩;have okv:∀ x,vv=some x→nameOk x:=fun x e=>by rw [hv2 x e];exact ov
    exact q _ (.set f vv) _ ⟨of,okv⟩ (.tup (S5.nw f9) zA1 (by show 3≤1000;decide) (.cons (.str _ (by decide) (by decide +kernel)) (.cons (strN of) (.cons (zF6 okv) .nil)))) ((S5.up (Same.new f9)).mono (by omega)) (((((b1.trans (ButS.same s23)).trans b4).trans (ButS.same (Same.new f2))).trans (ButS.eq k5)).trans (ButS.same (Same.new f9)))
   ·have s23:=s2.trans s3;refine ⟨small 1 (by decide),fun t9 f9=>?_⟩;exact q _ .take _ trivial (.tup ((S1.up s23).nw f9) zA1 (by show 1≤1000;decide) (.cons (.str _ (by decide) (by decide +kernel)) .nil)) (((S1.up s23).up (Same.new f9)).mono (by omega)) ((b1.trans (ButS.same s23)).trans (ButS.same (Same.new f9)))
end
end L2.W
namespace L2.W
open PySem My
section
variable {P:Program}{w:World}{K:PySem.W.Frag}{mg:Str→Option Value}{base:Heap}{CX:CXT}
theorem scCo:FnScope ["_law_change_here"] ["_law_change_here"] (defScope sChangeObject):=⟨rfl,rfl,rfl,by decide +kernel,rfl,by decide +kernel,by decide +kernel⟩
theorem ok_cobj {f:Addr}{fd gTm gTs:FuncData}{B:CB} (hC:Calm CX) (T:Tops K mg) (N:Cng K mg B) (F:Fun K "_law_change_object" "_law_change_object" sChangeObject f fd) (GTm:FnOk P w K mg base CX 3 B.fTm gTm ["self", "fields"] (spTM B)) (bTm:Binds K gTm ["self", "fields"] []) (GTs:FnOk P w K mg base CX 2 B.fTs gTs ["self", "field", "value"] (spTS B)) (bTs:Binds K gTs ["self", "field", "value"] []):FnOk P w K mg base CX 5 f fd ["_law_change_here"] (spCObj B):=by
 refine Fun.okC F scCo (fun vs H Q E h=>?_) (fun cdv Ar outer s H vs Q E hr h=>?_)
 ·obtain ⟨v,c,rfl,_⟩:=h;rfl
 ·obtain ⟨v,c,rfl,hv,ok,q⟩:=h;have nd:=scCo.nd;have hr3:=hr.mono (show 3≤4 by decide)
  refine ⟨_,zA3 (zAn (zAg zBa (zAf zAd (pv 0) zA4 (fun _ _=>rfl)) zAl (nomark _))
     (zA5 (zA9 (zBl N.kTm GTm hr rfl N.gTm bTm .nil (passC hC) (zA0 (zAs zB1 rfl T.list PyProof.Rows.boot_list (zA0 (zAf zAd (pv 0) zA4 (fun _ _=>rfl)) zA2)) zA2)))) zAb)
     (zA3 (zAn (zAg zBa (zAf zAd (pv 0) zA4 (fun _ _=>rfl)) zAl (nomark _))
     (zA5 (zA9 (zBl N.kTs GTs hr3 rfl N.gTs bTs .nil (passC hC) (zA0 (zAf zAd (pv 0) zA4 (fun _ _=>rfl)) (zA0 (zAf zAd (pv 0) zA4 (fun _ _=>rfl)) zA2))))) zAb)
     (zA5 (zA9 (zD7 N.kTt rfl N.gTt)))),?_⟩
  cases c with
  | make ns =>
   obtain ⟨a,xs,rfl,_,ha,_,hx⟩:=hv.tup_inv;obtain ⟨ys,rfl,hy⟩:=strC hx;cases hy with
   | cons h1 h2 =>
    cases h2;obtain ⟨l,zs,rfl,_,hl,_,hz⟩:=h1.list_inv;cases zDp hz;refine tagT rfl ha ⟨_,rfl,a,_,1,_,rfl,rfl,SqT.of ha,rfl,l,_,rfl,.inl (SqL.of hl),fun l2 f2=>?_⟩;have s2:=Same.new (o:=HO.lst (ns.map V.str)) f2;exact fun x dx hx hdx ne=>⟨x,dx,l2,ns,rfl,zA1,zBh hx hdx ne _ _ zA1,ok,fun H' l' e el fr b=>⟨rfl,q x H' (.make e el) (s2.trans (zBq hx hdx ne b))⟩⟩
  | set f v =>
   obtain ⟨a,xs,rfl,_,ha,_,hx⟩:=hv.tup_inv;obtain ⟨ys,rfl,hy⟩:=strC hx;obtain ⟨zs,rfl,hz⟩:=strC hy;cases hz with
   | cons h1 h2 =>
    cases h2;cases at_inv h1;exact tagF rfl ha (by decide +kernel) (tagT rfl ha ⟨_,rfl,a,_,1,_,rfl,rfl,SqT.of ha,rfl,_,rfl,a,_,2,_,rfl,rfl,SqT.of ha,rfl,fun x dx hx hdx ne=>⟨x,dx,f,v,rfl,zA1,ok.1,ok.2,fun H' e b=>⟨rfl,q x H' (.set e) (zBq hx hdx ne b)⟩⟩⟩)
  | take =>
   obtain ⟨a,xs,rfl,_,ha,_,hx⟩:=hv.tup_inv;cases str1 hx;exact tagF rfl ha (by decide +kernel) (tagF rfl ha (by decide +kernel) fun x dx hx hdx ne=>q x _ (.take zA1) (zBh hx hdx ne))
theorem scRo:FnScope ["_law_rule_here"] ["_law_rule_here"] (defScope sRuleObject):=⟨rfl,rfl,rfl,by decide +kernel,rfl,by decide +kernel,by decide +kernel⟩
theorem zEz {G:Addr→Prop}{H:Hp}{v:V}{n:Str}{c:Chg}{t:Tr}{bs:List Str} (h:Has G H v (ruleD n c t bs)):∃ a vc vt l,v=.ref a∧H a=some (.tup [.str n,vc,vt,.ref l])∧Has G H vc (chgD c)∧Has G H vt (trD t)∧H l=some (.lst (bs.map V.str)):=by
 obtain ⟨a,xs,rfl,_,ha,_,hx⟩:=h.tup_inv;obtain ⟨ys,rfl,hy⟩:=strC hx;cases hy with
 | cons h1 hy =>
  cases hy with
  | cons h2 hy =>
   cases hy with
   | cons h3 hy =>
    cases hy;obtain ⟨l,zs,rfl,_,hl,_,hz⟩:=h3.list_inv;cases zDp hz;exact ⟨a,_,_,l,rfl,ha,h1,h2,hl⟩
theorem ok_robj {f fc fo:Addr}{fd fdc fdo gRu:FuncData}{A:CA}{B:CB} (hC:Calm CX) (T:Tops K mg) (N:Cng K mg B) (F:Fun K "_law_rule_object" "_law_rule_object" sRuleObject f fd) (GRu:FnOk P w K mg base CX 4 B.fRu gRu ["self", "kind", "change", "condition", "behind"] (spRu A B)) (bRu:Binds K gRu ["self", "kind", "change", "condition", "behind"] [])
  (DC:Def K mg "_law_change_object" sChangeObject ["_law_change_here"] fc fdc) (GC:FnOk P w K mg base CX 5 fc fdc ["_law_change_here"] (spCObj B)) (DO:Def K mg "_law_object" sObject ["_law_tree_here"] fo fdo) (GO:FnOk P w K mg base CX 7 fo fdo ["_law_tree_here"] (spObj A 3)):FnOk P w K mg base CX 8 f fd ["_law_rule_here"] (spRObj A B):=by
 refine Fun.okC F scRo (fun vs H Q E h=>?_) (fun cdv Ar outer s H vs Q E hr h=>?_)
 ·obtain ⟨v,n,c,t,bs,rfl,_⟩:=h;rfl
 ·obtain ⟨v,n,c,t,bs,rfl,hv,ok,q⟩:=h;have nd:=scRo.nd;have hr5:=hr.mono (show 5≤7 by decide);refine ⟨_,zA5 (zA9 (zBl N.kRu GRu hr5 rfl N.gRu bRu .nil (passC hC) (zA0 (zAf zAd (pv 0) zA4 (fun _ _=>rfl)) (zA0 (zA6 GC hr5 rfl DC.at_ DC.fn.kp DC.bind .nil (passC hC) (zA0 (zAf zAd (pv 0) zA4 (fun _ _=>rfl)) zA2)) (zA0 (zA6 GO hr rfl DO.at_ DO.fn.kp DO.bind .nil (passC hC) (zA0 (zAf zAd (pv 0) zA4 (fun _ _=>rfl)) zA2)) (zA0 (zAs zB1 rfl T.list PyProof.Rows.boot_list (zA0 (zAf zAd (pv 0) zA4 (fun _ _=>rfl)) zA2)) zA2)))))),?_⟩;obtain ⟨a,vc,vt,l,rfl,ha,hc,ht,hl⟩:=zEz hv;refine ⟨_,rfl,a,_,0,_,rfl,rfl,SqT.of ha,rfl,_,rfl,a,_,1,_,rfl,rfl,SqT.of ha,rfl,vc,c,rfl,hc.any,ok.cg,fun pc H1 c1 s1=>?_⟩;refine ⟨_,rfl,a,_,2,_,rfl,rfl,SqT.of (s1 _ _ ha),rfl,vt,t,rfl,ht.any.mono s1,ok.tr,ok.h,fun pt H2 t2 s2=>?_⟩;have s12:=s1.trans s2;refine ⟨_,rfl,a,_,3,_,rfl,rfl,SqT.of (s12 _ _ ha),rfl,l,_,rfl,.inl (SqL.of (s12 _ _ hl)),fun l3 f3=>?_⟩;have s3:Same H2 (upd H2 l3 (.lst (bs.map V.str))):=Same.new f3;have e3:(upd H2 l3 (.lst (bs.map V.str))) l3=some (.lst (bs.map V.str)):=zA1;generalize upd H2 l3 (.lst (bs.map V.str))=H3 at s3 e3 ⊢;have c3:=c1.same (s2.trans s3);have t3:=t2.same s3;intro x dx hx hdx ne;have sm:=zBh (C:=B.ru) hx hdx ne;obtain ⟨dy,fy,ey,iy,_⟩:=c3.ins;refine ⟨x,dx,pc,pt,l3,n,bs,rfl,zA1,ok.nm,⟨_,dy,fy,sm _ _ ey,iy⟩,t3.isC.same sm,sm _ _ e3,ok.b,ok.no,fun H' l' e el fr b=>⟨rfl,?_⟩⟩;have s':=zBq hx hdx ne b;exact q x pc pt l' H' ⟨⟨dx,e⟩,c3.same s',t3.same s',el⟩ (s12.trans (s3.trans s'))
theorem scRl:FnScope ["_law_source", "_law_spec", "_law_strange", "_law_kind", "_law_fields_here", "_law_owner_here", "_law_tree_here", "_law_others", "_law_behind"] ["_law_source", "_law_spec", "_law_strange"] (defScope sRule):=⟨rfl,rfl,rfl,by decide +kernel,rfl,by decide +kernel,by decide +kernel⟩
theorem ok_rul {f fn ff ft fc:Addr}{fd fdn fdf fdt fdc:FuncData} (hC:Calm CX) (T:Tops K mg) (F:Fun K "_law_rule" "_law_rule" sRule f fd) (Dn:Def K mg "_law_next" sNext ["_law_source", "_law_many"] fn fdn) (Gn:FnOk P w K mg base CX 2 fn fdn ["_law_source", "_law_many"] spNext)
  (Df:Def K mg "_law_fields" sLFields ["_law_spec", "_law_kind"] ff fdf) (Gf:FnOk P w K mg base CX 1 ff fdf ["_law_spec", "_law_kind"] spLFl) (Dt:Def K mg "_law_tree" sTree ["_law_source", "_law_fields_here", "_law_owners", "_law_strange", "_law_deep"] ft fdt) (Gt:FnOk P w K mg base CX 7 ft fdt ["_law_source", "_law_fields_here", "_law_owners", "_law_strange", "_law_deep"] (spTree 3))
  (Dc:Def K mg "_law_change" sChange ["_law_source", "_law_fields_here", "_law_strange"] fc fdc) (Gc:FnOk P w K mg base CX 4 fc fdc ["_law_source", "_law_fields_here", "_law_strange"] spChg):FnOk P w K mg base CX 8 f fd ["_law_source", "_law_spec", "_law_strange"] spRul:=by
 refine Fun.okC F scRl (fun vs H Q E h=>?_) (fun cdv Ar outer s H vs Q E hr h=>?_)
 ·obtain ⟨p,l,b,rs,k,rfl,_⟩:=h;rfl
 ·obtain ⟨q,l,b,rs,k,rfl,S9,hk,hl9,rp,le3,ng,qq⟩:=h;have nd:=scRl.nd;have hr1:=hr.mono (show 1≤7 by decide);have hr2:=hr.mono (show 2≤7 by decide);have hr4:=hr.mono (show 4≤7 by decide)
  refine ⟨_,zA3 (zD5 (zAf zAr (pv 1) (zA6 Gn hr2 rfl Dn.at_ Dn.fn.kp Dn.bind .nil (passC hC) (zA0 (pv 0) (zA0 (zAh zAu rfl T.len PySem.boot_len (zA0 (pv 1) zA2)) zA2))) (fun _ _=>rfl)) (zC6 rfl (zAe (zA8 (i:=3) nd rfl (Or.inr rfl)) (zAe (zA8 (i:=4) nd rfl (Or.inl rfl)) (zAe (zA8 (i:=5) nd rfl (Or.inl rfl)) zB2)))))
     (zA3 (zAi (i:=6) nd rfl (Or.inl rfl) (zA6 Gt hr rfl Dt.at_ Dt.fn.kp Dt.bind .nil (passC hC) (zA0 (pv 0) (zA0 (pv 4) (zA0 (zA6 Gf hr1 rfl Df.at_ Df.fn.kp Df.bind .nil (passC hC) (zA0 (pv 1) (zA0 (pv 5) zA2))) (zA0 (pv 2) (zA0 zA4 zA2)))))))
     (zA3 (zAy (T:=["_law_one"]) (i:=7) rfl ScOk.auto (zAk (pv 1)) (fun _ _ _ _=>zA8 (i:=9) (by decide +kernel:(["_law_source", "_law_spec", "_law_strange", "_law_kind", "_law_fields_here", "_law_owner_here", "_law_tree_here", "_law_others", "_law_behind", "_law_one"]:List Str).Nodup) rfl (Or.inl rfl)) (fun _ _ _ _=>zDl (zAg op_ne (zAf (r:=rIxT K) zAd (pv 9) zA4 (fun _ _=>rfl)) (pv 3) (nomark _))) (fun _ _ _ _=>(zAf (r:=rIxT K) zAd (pv 9) zA4 (fun _ _=>rfl))) nd rfl rfl rfl)
     (zA3 (zAi (i:=8) nd rfl (Or.inl rfl) (zCa sl_list (zCa sl_list (pv 7) (zCy (zA6 Gn hr2 rfl Dn.at_ Dn.fn.kp Dn.bind .nil (passC hC) (zA0 (pv 0) (zA0 (zAv zC0 (zAh zAu rfl T.len PySem.boot_len (zA0 (pv 7) zA2)) zA4) zA2)))) zDv) zDv (zCy (zA6 Gn hr2 rfl Dn.at_ Dn.fn.kp Dn.bind .nil (passC hC) (zA0 (pv 0) (zA0 zA4 zA2))))))
     (zA5 (zA9 (zBc (zA0 (pv 3) (zA0 (zA6 Gc hr4 rfl Dc.at_ Dc.fn.kp Dc.bind .nil (passC hC) (zA0 (pv 0) (zA0 (pv 4) (zA0 (pv 2) zA2)))) (zA0 (pv 6) (zA0 (pv 8) zA2)))))))))),?_⟩
  have small:∀ n:Nat,n≤1000→n≤sizeLine:=fun n h=>Zn (small1000 h);have ge1:=rp.le.1;obtain ⟨l',xs,e,nlq,hlx,_,hx⟩:=id hl9.list_inv;cases e;have xl:xs.length=rs.length:=by rw [hx.length,Z0]
  refine ⟨_,rfl,_,rfl,_,rfl,l,xs,rfl,.inl (SqL.of hlx),q,_,_,rfl,S9,by omega,by omega,by omega,fun r3 H10 r30 r31 S10 k10=>?_⟩;have b10:ButS q H H10:=ButS.eq k10;obtain ⟨x,hxa,hxm⟩:=zEu xs r30 r31;obtain ⟨j,hj⟩:=List.getElem?_of_mem hxm;obtain ⟨dd',hd',hv⟩:=hx.get hj;obtain ⟨r0,hr0,rfl⟩:=List.mem_map.mp (Z1 hd');obtain ⟨t0,lf,rfl,ht0,hf0⟩:=zCx (hv.but b10);refine ⟨l,xs,r3,_,rfl,rfl,SqL.of (by rw [k10 l nlq];exact hlx),hxa,t0,_,rfl,SqT.of ht0,rfl,_,_,rfl,_,_,rfl,_,_,rfl,rfl,?_⟩;have fo0:=(rp.ok r0 hr0).2;have fow:=fieldsO_ok rp hr0;have fl10:Fl H10 q lf r0.fields:=⟨hf0,fo0⟩;have hl10:=hl9.but b10;refine ⟨_,rfl,_,rfl,_,rfl,_,rfl,_,l,rs,r0.owner,rfl,hl10,rp,fun lo H11 s11 hfo=>⟨_,rfl,?_⟩⟩;have S11:=S10.up s11;refine ⟨q,lf,lo,_,_,_,_,rfl,S11,by show k + 1 + 86≤700000;omega,fl10.but (ButS.same s11),⟨hfo.frame fun b o g e=>⟨g.elim id fun g=>S10.nw g,e⟩,fow⟩,fun v t H12 ok12 h12 ht12 S12 b12=>?_⟩;have b112:=(ButS.same s11).trans b12;have b012:=b10.trans b112;have S12:Src H12 q (k + 87):=S12.mono (by show k + 1 + 86≤_;omega);have hl12:=hl9.but b012;obtain ⟨l',xs2,e,nlq2,hlx2,_,hx2⟩:=id hl12.list_inv;cases e;have xl2:xs2.length=rs.length:=by rw [hx2.length,Z0]
  refine ⟨_,rfl,l,rfl,⟨_,SqL.of hlx2⟩,zAj (xs:=xs2) (fun i ys H'=>H12=H'∧∃ ks:List Str,ys=ks.map V.str∧r0.name∉ks∧ks.Sublist ((rs.take i).map (·.name))) ⟨rfl,[],rfl,(fun z=>nomatch z),List.nil_sublist _⟩ (fun i ys H' z=>by rw [← z.1];exact SqL.of hlx2) (fun i ys H' hi z=>?_) ?_ ?_⟩
  ·obtain ⟨_,ks,rfl,_,sb⟩:=z;have h1:=sb.length_le;rw [Z0,Zk] at h1;rw [Z0];exact small _ (by omega)
  ·rintro i x ys H' hi ⟨rfl,ks,rfl,no,sb⟩ N hN;obtain ⟨d,hd,hv⟩:=hx2.get hi;rw [Z4] at hd;cases er:rs[i]? with
   | none=>rw [er] at hd;cases hd
   | some r =>
    rw [er] at hd;cases hd;obtain ⟨t1,l1,rfl,ht1,_⟩:=zCx hv;have sb1:ks.Sublist ((rs.take (i + 1)).map (·.name)):=by
     rw [Z5,Z6];exact sb.trans (List.sublist_append_left _ _)
    refine ⟨_,rfl,t1,_,0,_,rfl,rfl,SqT.of ht1,rfl,_,rfl,rfl,_,rfl,?_⟩;rw [show decide (V.str r.name=V.str r0.name)=decide (r.name=r0.name) by simp];cases cn:decide (r.name=r0.name) with
    | true=>exact iteF (hN _ _ ⟨rfl,ks,rfl,no,sb1⟩)
    | false =>
     refine iteT ⟨_,rfl,t1,_,0,_,rfl,rfl,SqT.of ht1,rfl,hN _ _ ⟨rfl,ks++[r.name],by rw [Z6];rfl,fun z=>?_,?_⟩⟩
     ·rcases List.mem_append.mp z with z | z
      ·exact no z
      ·exact of_decide_eq_false cn (List.mem_singleton.mp z).symm
     ·rw [Z5,er,Z6];exact List.Sublist.append sb (List.Sublist.refl _)
  ·rintro ys H' ⟨rfl,ks,rfl,no,sb⟩ lk flk;rw [xl2,Zb] at sb;have kl:ks.length≤3:=by have:=sb.length_le;rw [Z0] at this;omega
   have s13:=Same.new (o:=HO.lst (ks.map V.str)) flk;have e13:(upd H12 lk (.lst (ks.map V.str))) lk=some (.lst (ks.map V.str)):=zA1;have n13:=S12.nw flk;generalize upd H12 lk (.lst (ks.map V.str))=H13 at s13 e13 ⊢;have S13:=S12.up s13;refine ⟨_,rfl,_,rfl,_,rfl,lk,_,rfl,.inl (SqL.of e13),_,_,rfl,rfl,q,_,_,rfl,S13,by omega,by rw [Z0];omega,by rw [Z0];omega,fun r4 H14 _ _ S14 k14=>?_⟩;refine ⟨_,rfl,lk,_,rfl,SqL.of (by rw [k14 lk n13];exact e13),fun l5 f5=>?_⟩;obtain ⟨m1,em1,sb1⟩:=cut_strs ks (some r4) none;rw [em1];have s15:=Same.new (o:=HO.lst (m1.map V.str)) f5;have e15:(upd H14 l5 (.lst (m1.map V.str))) l5=some (.lst (m1.map V.str)):=zA1;have n15:=S14.nw f5;generalize upd H14 l5 (.lst (m1.map V.str))=H15 at s15 e15 ⊢;refine ⟨_,rfl,q,3,_,rfl,S14.up s15,by omega,by decide,by decide,fun r6 H16 _ _ S16 k16=>?_⟩;refine ⟨_,rfl,l5,_,rfl,SqL.of (by rw [k16 l5 n15];exact e15),fun l7 f7=>?_⟩;obtain ⟨m2,em2,sb2⟩:=cut_strs m1 none (some r6);rw [em2];have s17:=Same.new (o:=HO.lst (m2.map V.str)) f7;have e17:(upd H16 l7 (.lst (m2.map V.str))) l7=some (.lst (m2.map V.str)):=zA1;have n17:=S16.nw f7;generalize upd H16 l7 (.lst (m2.map V.str))=H17 at s17 e17 ⊢;have S17:=S16.up s17;have sb3:=sb2.trans sb1
   have bok:NmsOk m2:=⟨fun x hx=>by
    obtain ⟨r,hr,e⟩:=List.mem_map.mp (sb.subset (sb3.subset hx));rw [← e]
    exact (rp.ok r hr).1,(rp.nd.sublist sb).sublist sb3,by have:=sb3.length_le;omega⟩
   have b1217:ButS q H12 H17:=((((ButS.same s13).trans (ButS.eq k14)).trans (ButS.same s15)).trans (ButS.eq k16)).trans (ButS.same s17);refine ⟨_,rfl,_,rfl,_,rfl,_,rfl,q,lf,b,r0.fields,_,rfl,S17,by omega,(fl10.but b112).but b1217,ng r0 hr0,fun vc c H18 okc hc S18 b18=>?_⟩;refine ⟨_,rfl,_,rfl,small 4 (by decide),fun t9 f9=>?_⟩;have s19:=Same.new (o:=HO.tup [.str r0.name,vc,v,.ref l7]) f9;have ht18:Has (fun a=>a≠q) H18 v (trD t):=(ht12.but b1217).but b18;exact qq _ r0.name c t m2 _ ⟨(rp.ok r0 hr0).1,okc,ok12,h12,bok,fun z=>no (sb3.subset z)⟩ (.tup (S18.nw f9) zA1 (by show 4≤1000;decide) (.cons (strN (rp.ok r0 hr0).1) (.cons (hc.mono s19) (.cons (ht18.mono s19) (.cons (zDh n17 (s19 _ _ (b18 _ _ e17 n17)) bok) .nil))))) ((S18.up s19).mono (by omega)) (((b012.trans b1217).trans b18).trans (ButS.same s19))
end
end L2.W
namespace L2.W
open PySem My
theorem comp_zipm {K:PySem.W.Frag}{a b:Addr}{xs ys:List V}{k:Nat}{σ : St}{H:Hp}{g:TG}{tt:TT}{te:TE}{Q:VK} (hn:xs.length=ys.length) (Pv:Nat→List V→Hp→Prop) (h0:Pv 0 [] H) (hl:∀ i zs H,Pv i zs H→SqL K H a xs∧SqT K H b ys)
  (hz:∀ i zs H,i≤xs.length→Pv i zs H→zs.length≤sizeLine)
  (hs:∀ i x y zs H p,xs[i]? = some x→ys[i]? = some y→Pv i zs H→H p=none→∀ N:List V→Hp→Prop,(∀ zs H,Pv (i + 1) zs H→N zs H)→g (.ref p) (σ++List.replicate k none) (upd H p (.tup [x,y])) fun σ2 H2=>tt σ2 H2 fun b H3=>if b=true then te σ2 H3 fun y H4=>N (zs++[y]) H4 else N zs H3)
  (hd:∀ zs H,Pv xs.length zs H→∀ p,H p=none→Q (.ref p) (upd H p (.lst zs))):CompGoal (Itlt K a b) k σ H g tt te Q:=by
 refine zFe (J:=Itlt K a b) (n:=xs.length) Pv h0 (fun i zs H lt p=>⟨xs,ys,xs[i],ys[i],(hl _ _ _ p).1,(hl _ _ _ p).2,Z3 lt,Z3 (by omega)⟩) (fun zs H p=>⟨xs,ys,(hl _ _ _ p).1,(hl _ _ _ p).2,.inl (Z7 _)⟩) hz ?_ hd;rintro i zs H x H' lt p ⟨q,u,v,rfl,hq,rfl,h1,h2⟩ N hN;exact hs i u v zs H q (h1 _ (hl _ _ _ p).1) (h2 _ (hl _ _ _ p).2) p hq N hN
theorem tagFi {K:PySem.W.Frag}{k g:Str}{i:Nat}{t u:TS}{D:Ends}{σ : St}{H:Hp}{a:Addr}{xs:List V} (h0 : σ[i]? = some (some (.ref a))) (ha:H a=some (.tup (.str g :: xs))) (n:g≠k) (h:u D σ H):tIfS (tTest (tOp rEq (tOp (rIxT K) (tVar i) (tC (.int 0))) (tC (.str k)))) t u D σ H :=
 ⟨_,h0,a,_,((0:Nat):Int),_,rfl,rfl,SqT.of ha,zB5 rfl,rfl,_,rfl,sF n h⟩
theorem tagTi {K:PySem.W.Frag}{k:Str}{i:Nat}{t u:TS}{D:Ends}{σ : St}{H:Hp}{a:Addr}{xs:List V} (h0 : σ[i]? = some (some (.ref a))) (ha:H a=some (.tup (.str k :: xs))) (h:t D σ H):tIfS (tTest (tOp rEq (tOp (rIxT K) (tVar i) (tC (.int 0))) (tC (.str k)))) t u D σ H :=
 ⟨_,h0,a,_,((0:Nat):Int),_,rfl,rfl,SqT.of ha,zB5 rfl,rfl,_,rfl,sT h⟩
theorem flds_at {G:Addr→Prop}{H:Hp}:∀ {xs:List V}{fs:List (Str×List Str)},HasAll G H xs (fs.map fieldD)→∃ es:List (Addr×Addr×(Str×List Str)),es.map (·.2.2)=fs∧xs=(es.map (·.1)).map V.ref∧∀ e∈es,H e.1=some (.tup [.str e.2.2.1,.ref e.2.1])∧H e.2.1=some (.lst (e.2.2.2.map V.str))
 | [],[],_=>⟨[],rfl,rfl,fun _ h=>nomatch h⟩
 | x :: xs,f :: fs,.cons h t=>by
  obtain ⟨es,e1,e2,e3⟩:=flds_at t;obtain ⟨b,lv,rfl,hb,hl⟩:=zB8 h;refine ⟨(b,lv,f) :: es,by rw [Zt,e1],by rw [e2];rfl,fun e he=>?_⟩;rcases List.mem_cons.mp he with rfl | he
  ·exact ⟨hb,hl⟩
  ·exact e3 e he
noncomputable def fkv (es:List (Addr×Addr×(Str×List Str))):List (Key×V):=es.map fun e=>(Sum.inr e.2.2.1,V.ref e.2.1)
theorem fkv_nd {es:List (Addr×Addr×(Str×List Str))} (nd:((es.map (·.2.2)).map (·.1)).Nodup):((fkv es).map (·.1)).Nodup:=by
 unfold fkv;rw [Zq] at nd ⊢;exact List.pairwise_map.mpr ((List.pairwise_map.mp nd).imp fun h e=>h (Sum.inr.inj e))
theorem fkv_get {es:List (Addr×Addr×(Str×List Str))} (nd:((es.map (·.2.2)).map (·.1)).Nodup) {f:Str}:(∀ i,placeOf (es.map (·.2.2)) f=some i→∃ e∈es,(es.map (·.2.2)).getD i (("",[]):Str×List Str)=e.2.2∧valV (fkv es) (Sum.inr f)=some (.ref e.2.1))∧(placeOf (es.map (·.2.2)) f=none→valV (fkv es) (Sum.inr f)=none):=by
 refine ⟨fun i hi=>?_,fun hn=>?_⟩
 ·obtain ⟨p1,_⟩:=zBk hi;rw [Zq,Z4] at p1;cases ee:es[i]? with
  | none=>rw [ee] at p1;cases p1
  | some e =>
   rw [ee] at p1;have me:=Z1 ee;refine ⟨e,me,by rw [List.getD_eq_getElem?_getD,Z4,ee];rfl,zEv (fkv_nd nd) ?_⟩;have:e.2.2.1=f:=Zf p1;rw [← this];exact List.mem_map.mpr ⟨e,me,rfl⟩
 ·unfold valV;rw [List.find?_eq_none.mpr fun kv hkv z=>?_]
  ·rfl
  ·obtain ⟨e,me,rfl⟩:=List.mem_map.mp hkv;have:e.2.2.1=f:=Sum.inr.inj (of_decide_eq_true z);exact zCs hn (by rw [← this,Zq];exact List.mem_map_of_mem (f:=fun e:Addr×Addr×(Str×List Str)=>e.2.2.1) me)
theorem setAt_get {st:List (Option Str)}{i j:Nat}{v:Str} (hj:j < st.length) (hi:i < st.length):(setAt st i v)[j]? = some (if j=i then some v else st.getD j none):=by
 have e:st[j]? = some (st.getD j none):=by rw [List.getD_eq_getElem?_getD,Z3 hj];rfl
 have l1:(st.take i).length=i:=by rw [Zk];omega
 unfold setAt;rw [List.append_assoc];by_cases c:j < i
 ·rw [Zo (by omega),List.getElem?_take,if_pos c,e,if_neg (by omega)]
 ·rw [Zy (by omega),l1];by_cases c2:j=i
  ·subst c2;rw [Nat.sub_self,if_pos rfl];rfl
  ·rw [Zy (by rw [List.length_singleton];omega),List.length_singleton,List.getElem?_drop,show i + 1 + (j - i - 1)=j by omega,e,if_neg c2]
theorem setAt_len {st:List (Option Str)}{i:Nat}{v:Str} (hi:i < st.length):(setAt st i v).length=st.length:=by
 unfold setAt;simp;omega
theorem hasVal_at {fs:List (Str×List Str)}{f:Str}{i:Nat} (h:placeOf fs f=some i) (v:Option Str):hasVal fs f v=(match v with | none=>false | some x=>decide (x∈(fs.getD i ("",[])).2)):=by
 unfold hasVal;rw [h];cases v <;> rfl
theorem hasVal_no {fs:List (Str×List Str)}{f:Str} (h:placeOf fs f=none) (v:Option Str):hasVal fs f v=false:=by
 unfold hasVal;rw [h]
noncomputable def AftAt (H:Hp) (ys:List V) (b:Bool) (out:Option (List (Option Str))):Prop:=(b=false→ys=[])∧(b=true→∃ y,ys=[y]∧OptAt H y out)
noncomputable def spAft:Sp:=fun vs H Q _=>∃ (v:V) (l a:Addr) (n:Str) (c:Chg) (t:Tr) (bs:List Str) (rs:List Row) (r:Row) (w o s:Option (List (Option Str))),vs=[v,.ref l,.ref a]∧Has Any H v (ruleD n c t bs)∧RlOk n c t bs∧Has Any H (.ref l) (.list (rs.map rowD))∧RowsP rs∧SitAt H a r w o s∧SitOk rs r w o s∧(r.owner.isNone || o.isSome)=true ∧
 ∀ lr ys H',Same H H'→H' lr=some (.lst ys)→AftAt H' ys (useB rs r w o s n c t) (outC r w s c)→Q (.ref lr) H'
end L2.W
namespace L2.W
open PySem My
theorem k_ownO {R F:Option Str→Hp→Prop}{B:Prop} (t:∀ l Hx,F l Hx→R l Hx) (h:(∀ l Hx,F l Hx→R l Hx)→B):B:=h t
theorem aim_none {r:Row}{w:Option (List (Option Str))}{f:Str}{v:Option Str} (h:v.isNone=true):aimS r w f v=valIn r.fields w f:=by cases v with | none=>rfl | some x=>cases h
theorem aim_some {r:Row}{w:Option (List (Option Str))}{f:Str}{v:Option Str} (h:v.isNone=false):aimS r w f v=v:=by cases v with | none=>cases h | some x=>rfl
theorem oneS_no {ns:List Str}{f:Str×List Str}{x:Option Str} (h:(decide (f.1∈ns) && x.isSome)=false):oneS ns f x=some (f.2.headD ""):=by unfold oneS;rw [h];rfl
section
variable {P:Program}{w:World}{K:PySem.W.Frag}{mg:Str→Option Value}{base:Heap}{CX:CXT}
noncomputable abbrev nAf:List Str:=["_law_rule_here", "_law_spec", "_law_situation", "_law_kind", "_law_wished", "_law_above", "_law_state", "_law_fields_here", "_law_change_here", "_law_found", "_law_k", "?1", "?2", "_law_cared", "_law_value_here", "_law_names"]
noncomputable abbrev nAg:List Str:=["_law_rule_here", "_law_spec", "_law_situation", "_law_kind", "_law_wished", "_law_above", "_law_state", "_law_fields_here", "_law_change_here", "_law_found", "_law_k", "_law_field", "_law_values", "_law_cared", "_law_value_here", "_law_names"]
theorem scAf:FnScope nAg ["_law_rule_here", "_law_spec", "_law_situation"] (defScope sAfter):=⟨rfl,rfl,rfl,by decide +kernel,rfl,by decide +kernel,by decide +kernel⟩
theorem sameAf:sameN nAg nAf [11,12]:=by unfold sameN;decide +kernel
theorem ndAf:(nAf:List Str).Nodup:=by decide +kernel
set_option maxHeartbeats 2000000 in
theorem ok_aft {f fv ff fh:Addr}{fd fdv fdf fdh:FuncData} (hC:Calm CX) (T:Tops K mg) (F:Fun K "_law_after" "_law_after" sAfter f fd) (DV:Def K mg "_law_value" sValue ["_law_fields_here", "_law_state", "_law_field"] fv fdv) (GV:FnOk P w K mg base CX 1 fv fdv ["_law_fields_here", "_law_state", "_law_field"] spVal)
  (DF:Def K mg "_law_fields" sLFields ["_law_spec", "_law_kind"] ff fdf) (GF:FnOk P w K mg base CX 1 ff fdf ["_law_spec", "_law_kind"] spLFl) (DH:Def K mg "_law_holds" sHolds ["_law_tree_here", "_law_spec", "_law_situation"] fh fdh) (GH:FnOk P w K mg base CX 6 fh fdh ["_law_tree_here", "_law_spec", "_law_situation"] (spLH 3)):FnOk P w K mg base CX 7 f fd ["_law_rule_here", "_law_spec", "_law_situation"] spAft:=by
 refine Fun.okC F scAf (fun vs H Q E h=>?_) (fun cdv Ar outer sh H vs Q E hr h=>?_)
 ·obtain ⟨v,l,a,n,c,t,bs,rs,r,w,o,s,rfl,_⟩:=h;rfl
 ·obtain ⟨v,l,a,n,c,t,bs,rs,r,w,o,s,rfl,hv,ok,hd,rp,st,so,own,q⟩:=h;have nd:=scAf.nd;have hu:=hu_of hr;have hr1:=hr.mono (show 1≤6 by decide)
  refine ⟨_,zA3 (zD5 (pv 2) (zC6 rfl (zAe (zA8 (i:=3) nd rfl (Or.inl rfl)) (zAe (zA8 (i:=4) nd rfl (Or.inl rfl)) (zAe (zA8 (i:=5) nd rfl (Or.inl rfl)) (zAe (zA8 (i:=6) nd rfl (Or.inl rfl)) zB2))))))
     (zA3 (zAi (i:=7) nd rfl (Or.inl rfl) (zA6 GF hr1 rfl DF.at_ DF.fn.kp DF.bind .nil (passC hC) (zA0 (pv 1) (zA0 (pv 3) zA2))))
     (zA3 (zAn (PW.pt (zBi (zAg op_ne (pv 3) (zAf zAd (pv 0) zA4 (fun _ _=>rfl)) (nomark _)) (zB9 (zAz (zAt (zA6 GH hr rfl DH.at_ DH.fn.kp DH.bind .nil (passC hC) (zA0 (zAf zAd (pv 0) zA4 (fun _ _=>rfl)) (zA0 (pv 1) (zA0 (pv 2) zA2)))))))))
     (zA5 (zA9 (zAm zA2))) zAb)
     (zA3 (zAi (i:=8) nd rfl (Or.inr rfl) (zAf zAd (pv 0) zA4 (fun _ _=>rfl)))
     (zA3 (zAn (zAg zBa (zAf zAd (pv 8) zA4 (fun _ _=>rfl)) zAl (nomark _))
     (zA5 (zA9 (zAv op_rep (zAm (zA0 zBd zA2)) (zAs zEc rfl T.int PyProof.Rows.boot_int (zA0 (zAq zCj (pv 6) zBd (nomark _)) zA2))))) zAb)
     (zA3 (zAn (zAg zBa (zAf zAd (pv 8) zA4 (fun _ _=>rfl)) zAl (nomark _))
     (zA3 (zAn (PW.pt (zBi (zB6 (zBn (pv 4))) (zB9 (zB6 (zC3 (pv 6))))))
     (zA5 (zA9 (zAm zA2))) zAb)
     (zA3 (zAi (i:=9) nd rfl (Or.inl rfl) (zAm zA2))
     (zA3 (zBt PassesOwn.never rfl (pi_enum rfl T.enum (zA0 (pv 7) zA2)) (zC6 rfl (zAe (zA8 (i:=10) nd rfl (Or.inl rfl)) (zAe (zC6 rfl (zAe (zA8 (i:=11) nd rfl (Or.inl rfl)) (zAe (zA8 (i:=12) nd rfl (Or.inl rfl)) zB2))) zB2)))
     (zA3 (zAi (i:=13) nd rfl (Or.inl rfl) (zCf (zAq zD9 (pv 11) (zAf zAd (pv 8) zA4 (fun _ _=>rfl)) rfl) (zCe (zAq zCj (zAf zAd (pv 4) (pv 10) (fun _ _=>rfl)) zBd (nomark _)))))
     (zA5 (zBj (zEi PySem.F.plainAttrs_list PySem.F.slot_list_append PySem.F.type_list_append zDa (pv 9) (zA0 (zCb (zAt (pv 13)) (zAf zAd (pv 4) (pv 10) (fun _ _=>rfl)) (zAf zAr (pv 12) zA4 (fun _ _=>rfl))) zA2))))))
     (zA5 (zA9 (zAm (zA0 (zAs zCd rfl T.tuple PyProof.Rows.boot_tuple (zA0 (pv 9) zA2)) zA2))))))) zAb)
     (zA3 (zAi (i:=14) nd rfl (Or.inr rfl) (zAf zAd (pv 8) zA4 (fun _ _=>rfl)))
     (zA3 (zAn (zB6 (zBn (pv 14)))
     (zA5 (zAi (i:=14) nd rfl (Or.inr rfl) (zA6 GV hr1 rfl DV.at_ DV.fn.kp DV.bind .nil (passC hC) (zA0 (pv 7) (zA0 (pv 4) (zA0 (zAf zAd (pv 8) zA4 (fun _ _=>rfl)) zA2)))))) zAb)
     (zA3 (zAn (PW.pt (zBi (zB6 (zBn (pv 6))) (zB9 (zAg zBz (pv 14) (zF3 hu (zAs (zEd (K:=K) rfl) rfl T.dict PyProof.Rows.boot_dict (zA0 (pv 7) zA2)) (zAf zAd (pv 8) zA4 (fun _ _=>rfl)) (zAm zA2) ⟨rfl,rfl,rfl,rfl⟩) rfl))))
     (zA5 (zA9 (zAm zA2))) zAb)
     (zA3 (ps_re nAf [11,12] sameAf (zAy (T:=["_law_field", "_law_values"]) (i:=15) rfl ScOk.auto (zAk (pv 7)) (fun _ _ _ _=>zBu (K:=K) (n:=2) rfl rfl (zAe (zA8 (i:=16) (by decide +kernel:(["_law_rule_here", "_law_spec", "_law_situation", "_law_kind", "_law_wished", "_law_above", "_law_state", "_law_fields_here", "_law_change_here", "_law_found", "_law_k", "?1", "?2", "_law_cared", "_law_value_here", "_law_names", "_law_field", "_law_values"]:List Str).Nodup) rfl (Or.inl rfl)) (zAe (zA8 (i:=17) (by decide +kernel:(["_law_rule_here", "_law_spec", "_law_situation", "_law_kind", "_law_wished", "_law_above", "_law_state", "_law_fields_here", "_law_change_here", "_law_found", "_law_k", "?1", "?2", "_law_cared", "_law_value_here", "_law_names", "_law_field", "_law_values"]:List Str).Nodup) rfl (Or.inl rfl)) zB2))) (fun _ _ _ _=>zB7) (fun _ _ _ _=>(pv 16)) ndAf rfl rfl rfl))
     (zA5 (zA9 (zAm (zA0 (zAs zCd rfl T.tuple PyProof.Rows.boot_tuple (zA0 (zB0 (T:=["_law_name", "_law_old"]) rfl ScOk.auto (pi_zipM rfl T.zip (zA0 (pv 15) (zA0 (pv 6) zA2))) (fun _ _ _ _=>zBu (K:=K) (n:=2) rfl rfl (zAe (zA8 (i:=16) (by decide +kernel:(["_law_rule_here", "_law_spec", "_law_situation", "_law_kind", "_law_wished", "_law_above", "_law_state", "_law_fields_here", "_law_change_here", "_law_found", "_law_k", "_law_field", "_law_values", "_law_cared", "_law_value_here", "_law_names", "_law_name", "_law_old"]:List Str).Nodup) rfl (Or.inl rfl)) (zAe (zA8 (i:=17) (by decide +kernel:(["_law_rule_here", "_law_spec", "_law_situation", "_law_kind", "_law_wished", "_law_above", "_law_state", "_law_fields_here", "_law_change_here", "_law_found", "_law_k", "_law_field", "_law_values", "_law_cared", "_law_value_here", "_law_names", "_law_name", "_law_old"]:List Str).Nodup) rfl (Or.inl rfl)) zB2))) (fun _ _ _ _=>zB7) (fun _ _ _ _=>(zCb (zAg zBa (pv 16) (zAf (r:=rIxT K) zAd (pv 8) zA4 (fun _ _=>rfl)) (nomark _)) (pv 14) (pv 17)))) zA2)) zA2))))))))))))),?_⟩
  have small:∀ n:Nat,n≤1000→n≤sizeLine:=fun n h=>Zn (small1000 h);obtain ⟨ra,vc,vt,lb,rfl,hra,hc,ht,hlb⟩:=zEz hv;obtain ⟨vw,vo,vs,h0,hw,ho,hs⟩:=id st;refine ⟨_,rfl,a,_,rfl,SqT.of h0,rfl,_,_,rfl,_,_,rfl,_,_,rfl,_,_,rfl,rfl,?_⟩;refine ⟨_,rfl,_,rfl,Any,l,rs,some r.name,rfl,hd,rp,fun lf H1 s1 hf=>?_⟩;have hf:=hf.any;rw [show fieldsO rs (some r.name)=r.fields from zB4 rp so.mem] at hf;have none_:∀ {Hx:Hp}{l0:Addr},Same H Hx→useB rs r w o s n c t=false→Hx l0=none→Q (.ref l0) (upd Hx l0 (.lst [])):=fun {Hx l0} sx ub fx=>q l0 [] _ (sx.trans (Same.new fx)) zA1 ⟨fun _=>rfl,fun z=>by rw [ub] at z;cases z⟩;refine ⟨_,rfl,_,rfl,ra,_,0,_,rfl,rfl,SqT.of (s1 _ _ hra),rfl,rfl,_,rfl,?_⟩;rw [show decide (V.str r.name=V.str n)=decide (r.name=n) by simp];cases cn:decide (r.name=n) with
  | false=>exact iteT (iteT ⟨Zj _,fun l0 f0=>none_ s1 (by unfold useB;rw [cn];rfl) f0⟩)
  | true =>
   refine iteF ⟨_,rfl,ra,_,2,_,rfl,rfl,SqT.of (s1 _ _ hra),rfl,_,rfl,_,rfl,vt,l,a,t,rs,r,w,o,s,rfl,ht.any.mono s1,ok.tr,ok.h,hd.mono s1,rp,st.same s1,so,fun H2 s2=>⟨_,rfl,?_⟩⟩;have s12:=s1.trans s2;cases ch:ev (evL rs r w o s) t with
   | false=>exact iteT ⟨Zj _,fun l0 f0=>none_ s12 (by unfold useB;rw [cn,ch];rfl) f0⟩
   | true =>
    have ub:useB rs r w o s n c t=posC r w o s c:=by unfold useB;rw [cn,ch];rfl
    rw [ub] at q none_;refine iteF ⟨_,rfl,ra,_,1,_,rfl,rfl,SqT.of (s12 _ _ hra),rfl,?_⟩;have hc2:=hc.any.mono s12;have hw2:=hw.same s12;have hs2:=hs.same s12;have hf2:=hf.mono s2;clear hc hv ub ch cn;cases c with
    | take =>
     obtain ⟨ca,xs,rfl,_,hca,_,hx⟩:=hc2.tup_inv;cases str1 hx;refine tagTi rfl hca ⟨small 1 (by decide),fun l1 f1=>?_⟩;cases s with
     | none =>
      cases (show vs=.non from hs2);exact ⟨_,rfl,rfl,.inr ⟨_,rfl,l1,0,[.non],rfl,rfl,zA1,by decide,by decide,Zj _,fun p fp=>q p [] _ (s12.trans ((Same.new f1).trans (Same.new fp))) zA1 ⟨fun _=>rfl,fun z=>nomatch z⟩⟩⟩
     | some ss =>
      obtain ⟨sa,rfl,hsa⟩:=hs2;exact ⟨_,rfl,rfl,.inr ⟨_,rfl,l1,1,[.non],rfl,rfl,zA1,by decide,by decide,small 1 (by decide),fun p fp=>q p [.non] _ (s12.trans ((Same.new f1).trans (Same.new fp))) zA1 ⟨(fun z=>nomatch z),fun _=>⟨.non,rfl,rfl⟩⟩⟩⟩
    | make ns =>
     obtain ⟨ca,xs,rfl,_,hca,_,hx⟩:=hc2.tup_inv;obtain ⟨ys,rfl,hy⟩:=strC hx;cases hy with
     | cons h1 h2 =>
      cases h2;obtain ⟨ln,zs,rfl,_,hln,_,hz⟩:=h1.list_inv;cases zDp hz;refine tagFi rfl hca (by decide +kernel) (tagTi rfl hca ⟨_,rfl,_,rfl,?_⟩);rw [hw2.non];cases w with
      | none=>exact iteT (iteT ⟨Zj _,fun l0 f0=>none_ s12 (by show (_ && (false && _))=false;rw [Bool.false_and,Bool.and_false]) f0⟩)
      | some ws =>
       refine iteF ⟨_,rfl,_,rfl,?_⟩;rw [hs2.non];cases s with
       | some ss=>exact iteT ⟨Zj _,fun l0 f0=>none_ s12 (by show (_ && (true && false))=false;rw [Bool.and_false,Bool.and_false]) f0⟩
       | none =>
        have wl:=so.lw ws rfl;obtain ⟨wa,rfl,hwa⟩:=hw2;refine iteF ⟨Zj _,fun lg fg=>?_⟩;have s3:Same H2 (upd H2 lg (.lst [])):=Same.new fg;have e3:(upd H2 lg (.lst [])) lg=some (.lst (([]:List (Option Str)).map ownV)):=zA1;generalize upd H2 lg (.lst [])=H3 at s3 e3 ⊢;obtain ⟨l',xs,e',_,hl,_,hx⟩:=(hf2.mono s3).list_inv;cases e';have xl:xs.length=r.fields.length:=by rw [hx.length,Z0]
        have f3:=(rp.ok r so.mem).2.le;have nlg:lf≠lg:=by
         obtain ⟨_,_,e',_,h',_⟩:=hf2.list_inv;cases e';exact zA7 h' fg
        refine ⟨_,rfl,lf,rfl,⟨_,SqL.of hl⟩,for_enum (K:=K) (a:=lf) (xs:=xs) (fun i σ H'=>∃ x10 x11 x12 x13:Option V,σ = [some (.ref ra),some (.ref l),some (.ref a),some (.str r.name),some (.ref wa),some vo,some vs,some (.ref lf),some (.ref ca),some (.ref lg),x10,x11,x12,x13,none,none]∧H' lg=some (.lst (((mkS r.fields ns ws).take i).map ownV))∧∀ b o,H3 b=some o→b≠lg→H' b=some o)
         ⟨_,_,_,_,rfl,e3,fun _ _ e _=>e⟩ (fun i σ H' _ ⟨_,_,_,_,_,_,k⟩=>SqL.of (k _ _ hl nlg)) ?_ ?_⟩
        ·rintro i x σ H4 pt hi ⟨x10,x11,x12,x13,rfl,h4,k4⟩ fpt;obtain ⟨d,hd',hv'⟩:=hx.get hi;rw [Z4] at hd';cases ef:r.fields[i]? with
         | none=>rw [ef] at hd';cases hd'
         | some f =>
          rw [ef] at hd';cases hd';have il:=(List.getElem?_eq_some_iff.mp ef).1;obtain ⟨b,lv,rfl,hb,hlv⟩:=zB8 hv';have up:∀ {b:Addr}{o:HO},H2 b=some o→(upd H4 pt (.tup [.int (i:Nat),.ref b])) b=some o:=fun {b o} e=>(Same.new fpt) _ _ (k4 _ _ (s3 _ _ e) (zA7 e fg));have nbl:∀ {b:Addr}{o:HO},H3 b=some o→(∀ z,o≠.lst z)→b≠lg:=fun {b o} e h z=>by
           rw [z,e3] at e;exact h _ (Zf e).symm
          have kp:∀ {b':Addr}{o:HO},H2 b'=some o→(upd H4 pt (.tup [.int (i:Nat),.ref b])) b'=some o:=fun {b' o} e=>(Same.new fpt) _ _ (k4 _ _ (s3 _ _ e) (zA7 e fg));have hb5:(upd H4 pt (.tup [.int (i:Nat),.ref b])) b=some (.tup [.str f.1,.ref lv]):=(Same.new fpt) _ _ (k4 _ _ hb (nbl hb fun _ z=>nomatch z));have nlv:lv≠lg:=by
           rintro rfl;rw [e3] at hlv;have hne:=((rp.ok r so.mem).2.ok f (Z1 ef)).2.ne;have:=congrArg (fun z:HO=>match z with | .lst ys=>ys.length | _=>0) (Zf hlv);simp at this;rw [← this] at hne;cases hne
          have hlv5:(upd H4 pt (.tup [.int (i:Nat),.ref b])) lv=some (.lst (f.2.map V.str)):=(Same.new fpt) _ _ (k4 _ _ hlv nlv);have hlg5:(upd H4 pt (.tup [.int (i:Nat),.ref b])) lg=some (.lst (((mkS r.fields ns ws).take i).map ownV)):=(Same.new fpt) _ _ h4;have hca5:=kp hca;have hln5:=kp hln;have hwa5:=kp hwa;have k5:∀ b' o,H3 b'=some o→b'≠lg→(upd H4 pt (.tup [.int (i:Nat),.ref b])) b'=some o:=fun b' o e ne=>(Same.new fpt) _ _ (k4 _ _ e ne);have pt5:(upd H4 pt (.tup [.int (i:Nat),.ref b])) pt=some (.tup [.int (i:Nat),.ref b]):=zA1;clear up kp;generalize upd H4 pt (.tup [.int (i:Nat),.ref b])=H5 at hb5 hlv5 hlg5 hca5 hln5 hwa5 k5 pt5 ⊢;have ew:ws[i]? = some (ws.getD i none):=by rw [List.getD_eq_getElem?_getD,Z3 (by omega)];rfl
          have em:(mkS r.fields ns ws)[i]? = some (oneS ns f (ws.getD i none)):=by
           unfold mkS;rw [List.getElem?_zipWith,ef,ew]
          obtain ⟨v0,vr,ev⟩:∃ v0 vr,f.2=v0 :: vr:=by
           have:=((rp.ok r so.mem).2.ok f (Z1 ef)).2.ne;cases e:f.2 with
           | nil=>rw [e] at this;cases this
           | cons v0 vr=>exact ⟨v0,vr,rfl⟩
          have sz:(((mkS r.fields ns ws).take i).map ownV).length < sizeLine:=by
           rw [Z0,Zk];exact small1000 (by omega)
          have fin:∀ {y:V}{x13:Option V},y=ownV (oneS ns f (ws.getD i none))→∃ x10' x11' x12' x13':Option V,([some (.ref ra),some (.ref l),some (.ref a),some (.str r.name),some (.ref wa),some vo,some vs,some (.ref lf),some (.ref ca),some (.ref lg),some (.int (i:Nat)),some (.str f.1),some (.ref lv),x13,none,none]:St)=[some (.ref ra),some (.ref l),some (.ref a),some (.str r.name),some (.ref wa),some vo,some vs,some (.ref lf),some (.ref ca),some (.ref lg),x10',x11',x12',x13',none,none]∧(upd H5 lg (.lst (((mkS r.fields ns ws).take i).map ownV++[y]))) lg=some (.lst (((mkS r.fields ns ws).take (i + 1)).map ownV))∧∀ b o,H3 b=some o→b≠lg→(upd H5 lg (.lst (((mkS r.fields ns ws).take i).map ownV++[y]))) b=some o:=fun {y x13} ey=>by
           refine ⟨_,_,_,_,rfl,?_,fun b' o e ne=>by rw [zAa ne];exact k5 _ _ e ne⟩;rw [zA1,ey,Z5,em,Z6];rfl
          have first:(decide (f.1∈ns) && (ws.getD i none).isSome)=false→V.str v0=ownV (oneS ns f (ws.getD i none)):=fun z=>by
           rw [oneS_no z,ev];rfl
          refine ⟨pt,_,rfl,SqT.of pt5,rfl,_,_,rfl,_,_,rfl,b,_,rfl,SqT.of hb5,rfl,_,_,rfl,_,_,rfl,rfl,rfl,?_⟩;refine ⟨_,rfl,_,rfl,ca,_,1,_,rfl,rfl,SqT.of hca5,rfl,ln,_,rfl,.inl (SqL.of hln5),rfl,flats _,_,rfl,?_⟩;show if inV (.str f.1) (ns.map V.str)=true then _ else _
          rw [zCm];cases c1:decide (f.1∈ns) with
          | false=>exact iteF ⟨_,rfl,.inl ⟨rfl,_,SqL.of hlg5⟩,_,rfl,_,rfl,iteF ⟨_,rfl,lv,_,((0:Nat):Int),.str v0,rfl,rfl,SqL.of hlv5,zB5 (by rw [ev];rfl),lg,_,_,rfl,rfl,hlg5,sz,fin (first (by rw [c1];rfl))⟩⟩
          | true =>
           have ix:atI (ws.map ownV) ((i:Nat):Int)=some (ownV (ws.getD i none)):=zB5 (by rw [Z4,ew];rfl);refine iteT ⟨_,rfl,_,rfl,wa,_,((i:Nat):Int),_,rfl,rfl,SqT.of hwa5,ix,rfl,_,rfl,.inl ⟨rfl,_,SqL.of hlg5⟩,_,rfl,_,rfl,?_⟩;rw [own_non];cases c2:ws.getD i none with
           | none=>
            rw [c2] at fin first
            exact iteF ⟨_,rfl,lv,_,((0:Nat):Int),.str v0,rfl,rfl,SqL.of hlv5,zB5 (by rw [ev];rfl),lg,_,_,rfl,rfl,hlg5,sz,fin (first (by rw [c1];rfl))⟩
           | some x =>
            rw [c2] at fin ix;exact iteT ⟨_,rfl,_,rfl,wa,_,((i:Nat):Int),_,rfl,rfl,SqT.of hwa5,ix,lg,_,_,rfl,rfl,hlg5,sz,fin (by unfold oneS;rw [c1];rfl)⟩
        ·rintro σ H4 ⟨x10,x11,x12,x13,rfl,h4,k4⟩;rw [xl,List.take_of_length_le (by rw [zE1 wl];exact Z7 _)] at h4;refine ⟨_,rfl,lg,_,rfl,.inl ⟨SqL.of h4,fun tz fz=>⟨small 1 (by decide),fun lr fr=>?_⟩⟩⟩;refine q lr [.ref tz] _ (fun b o e=>?_) zA1 ⟨fun z=>?_,fun _=>⟨_,rfl,tz,rfl,(Same.new fr) _ _ zA1⟩⟩
         ·have e2:=s12 _ _ e;exact (Same.new fr) _ _ ((Same.new fz) _ _ (k4 _ _ (s3 _ _ e2) (zA7 e2 fg)))
         ·have:((r.owner.isNone || o.isSome) && (true && true))=false:=z;rw [own] at this;cases this
    | set f v =>
     obtain ⟨ca,xs,rfl,_,hca,_,hx⟩:=hc2.tup_inv;obtain ⟨ys,rfl,hy⟩:=strC hx;obtain ⟨zs,rfl,hz⟩:=strC hy;cases hz with
     | cons h1 h2 =>
      cases h2;cases at_inv h1;refine tagFi rfl hca (by decide +kernel) (tagFi rfl hca (by decide +kernel) ⟨_,rfl,ca,_,2,_,rfl,rfl,SqT.of hca,rfl,?_⟩);refine' k_ownO (F:=fun u Hx=>Same H2 Hx∧aimS r w f v=u) _ (fun rest=>_);rotate_left 2
      ·refine ⟨_,rfl,_,rfl,?_⟩;rw [own_non];cases hvn:v.isNone with
       | true =>
        refine iteT ⟨_,rfl,_,rfl,_,rfl,ca,_,1,_,rfl,rfl,SqT.of hca,rfl,lf,vw,r.fields,w,f,rfl,hf2,hw2,fun st e i hi=>by rw [so.lw st e];exact zBr hi,fun H3 s3=>?_⟩;have ea:=aim_none (r:=r) (w:=w) (f:=f) hvn;generalize valIn r.fields w f=u at ea ⊢;exact rest u H3 ⟨s3,ea⟩
       | false=>exact iteF (rest v H2 ⟨Same.refl _,aim_some hvn⟩)
      ·rintro u H3 ⟨s3,ea⟩;dsimp only [gName];change tSeq _ _ _ [some (V.ref ra),some (V.ref l),some (V.ref a),some (V.str r.name),some vw,some vo,some vs,some (V.ref lf),some (V.ref ca),none,none,none,none,none,some (ownV u),none] H3;have s13:=s12.trans s3;have hs3:=hs2.same s3;have hca3:=s3 _ _ hca;refine ⟨_,rfl,_,rfl,?_⟩;rw [hs3.non];cases s with
       | none=>exact iteT (iteT ⟨Zj _,fun l0 f0=>none_ s13 rfl f0⟩)
       | some ss =>
        obtain ⟨sa,rfl,hsa⟩:=hs3;have sl:=so.ls ss rfl;obtain ⟨l',xs,e',_,hl,_,hx⟩:=(hf2.mono s3).list_inv;cases e';obtain ⟨es,e1,e2,e3⟩:=flds_at hx;have fok:=(rp.ok r so.mem).2;have fnd:=fok.nd;have f3:=fok.le;have nd2:((es.map (·.2.2)).map (·.1)).Nodup:=by rw [e1];exact fnd
        have no_:∀ {Hx:Hp}{l0:Addr},Same H Hx→hasVal r.fields f u=false→Hx l0=none→Q (.ref l0) (upd Hx l0 (.lst [])):=fun {Hx l0} sx hv fx=>none_ sx (by show (true && hasVal r.fields f (aimS r w f v))=false;rw [ea,hv];rfl) fx;refine iteF ⟨_,rfl,_,rfl,lf,es.map (·.1),fkv es,rfl,SqL.of (by rw [hl,e2]),rfl,fkv_nd nd2,by unfold fkv;rw [Z0,Z0],?_,fun pd fpd=>⟨pd,rfl,.inl ⟨_,.inl zA1⟩,_,rfl,ca,_,1,_,rfl,rfl,SqT.of ((Same.new fpd) _ _ hca3),rfl,Zj _,fun le fe=>⟨_,.inl ⟨_,Sum.inr f,.inl ((Same.new fe) _ _ zA1),rfl,rfl⟩,?_⟩⟩⟩
        ·intro i t k v' ht hk;unfold fkv at hk;rw [Z4] at ht hk;cases ee:es[i]? with
         | none=>rw [ee] at ht;cases ht
         | some e =>
          rw [ee] at ht hk;cases ht;cases hk;exact (e3 e (Z1 ee)).1
        ·have s5:=(Same.new (o:=HO.dK (fkv es)) fpd).trans (Same.new (o:=HO.lst []) fe);have ele:(upd (upd H3 pd (.dK (fkv es))) le (.lst [])) le=some (.lst []):=zA1;generalize upd (upd H3 pd (.dK (fkv es))) le (.lst [])=H5 at s5 ele ⊢;have s15:=s13.trans s5;obtain ⟨g1,g2⟩:=fkv_get nd2 (f:=f);rw [e1] at g1 g2;cases ep:placeOf r.fields f with
         | none =>
          rw [g2 ep];exact ⟨le,[],rfl,.inl (SqL.of ele),by cases u <;> rfl,rfl,_,rfl,iteT ⟨Zj _,fun l0 f0=>no_ s15 (hasVal_no ep u) f0⟩⟩
         | some i =>
          obtain ⟨e,me,eg,ev⟩:=g1 i ep;rw [ev];refine ⟨e.2.1,_,rfl,.inl (SqL.of (s5 _ _ (e3 e me).2)),by cases u <;> rfl,flats _,_,rfl,?_⟩;show if (!inV (ownV u) (e.2.2.2.map V.str))=true then _ else _
          rw [in_opt];have hv1:=hasVal_at ep u;rw [eg] at hv1;cases u with
          | none=>exact iteT ⟨Zj _,fun l0 f0=>no_ s15 hv1 f0⟩
          | some x =>
           show if (!decide (x∈e.2.2.2))=true then _ else _
           cases cx:decide (x∈e.2.2.2) with
           | false=>exact iteT ⟨Zj _,fun l0 f0=>no_ s15 (hv1.trans cx) f0⟩
           | true =>
            have hpos:posC r w o (some ss) (.set f v)=true:=by
             show (true && hasVal r.fields f (aimS r w f v))=true;rw [ea,hv1];exact cx
            have hout:outC r w (some ss) (.set f v)=some (setAt ss i x):=by simp only [outC,ep,ea]
            have ilt:=zBr ep;obtain ⟨pl1,_⟩:=zBk ep;have hca5:=s5 _ _ hca3;have hsa5:=s5 _ _ hsa;clear hl hx e2;obtain ⟨l5',xs,e5',_,hl,_,hx⟩:=((hf2.mono s3).mono s5).list_inv;cases e5';have xl:xs.length=r.fields.length:=by rw [hx.length,Z0]
            refine iteF ⟨_,rfl,lf,rfl,⟨_,SqL.of hl⟩,?_⟩;refine
             zAj (xs:=xs) (fun i ys H'=>H5=H'∧ys=((r.fields.take i).map (·.1)).map V.str) ⟨rfl,rfl⟩ (fun i ys H' p=>by rw [← p.1];exact SqL.of hl) (fun i ys H' hi p=>by rw [p.2,Z0,Z0,Zk];exact small _ (by omega)) (fun i x ys H' hi z N hN=>(by
              obtain ⟨rfl,rfl⟩:=z;obtain ⟨d,hd,hv⟩:=hx.get hi;rw [Z4] at hd;cases ef:r.fields[i]? with
              | none=>rw [ef] at hd;cases hd
              | some f =>
               rw [ef] at hd;cases hd;obtain ⟨b,lv,rfl,hb,_⟩:=zB8 hv;refine pickT (SqT.of hb) ⟨_,rfl,hN _ _ ⟨rfl,?_⟩⟩;rw [Z5,ef,Z6,Z6]
               rfl)) ?_
            rintro ys H' ⟨rfl,rfl⟩ lnm fnm;rw [xl,Zb];have s6:Same H5 (upd H5 lnm (.lst ((r.fields.map (·.1)).map V.str))):=Same.new fnm;have e6:(upd H5 lnm (.lst ((r.fields.map (·.1)).map V.str))) lnm=some (.lst ((r.fields.map (·.1)).map V.str)):=zA1;generalize upd H5 lnm (.lst ((r.fields.map (·.1)).map V.str))=H6 at s6 e6 ⊢;dsimp only [gName,Ends.hid,hide,List.set];change tRet _ _ [some (V.ref ra),some (V.ref l),some (V.ref a),some (V.str r.name),some vw,some vo,some (V.ref sa),some (V.ref lf),some (V.ref ca),none,none,none,none,none,some (ownV (some x)),some (V.ref lnm)] H6;have hsa6:=s6 _ _ hsa5;have hca6:=s6 _ _ hca5;have sal:=setAt_len (v:=x) (show i < ss.length by omega);refine ⟨_,rfl,_,rfl,lnm,sa,rfl,⟨_,SqL.of e6⟩,⟨_,SqT.of hsa6⟩,comp_zipm (xs:=(r.fields.map (·.1)).map V.str) (ys:=ss.map ownV) (by rw [Z0,Z0,Z0,sl]) (fun j zs H'=>Same H6 H'∧zs=((setAt ss i x).take j).map ownV) ⟨Same.refl _,rfl⟩ (fun j zs H' z=>⟨SqL.of (z.1 _ _ e6),SqT.of (z.1 _ _ hsa6)⟩) (fun j zs H' hj z=>?_) ?_ ?_⟩
            ·rw [z.2,Z0,Zk];exact small _ (by omega)
            ·rintro j nm old zs H' p hx1 hy1 ⟨s7,rfl⟩ fp N hN;rw [Z4,Z4] at hx1;cases ef:r.fields[j]? with
             | none=>rw [ef] at hx1;cases hx1
             | some fj =>
              rw [ef] at hx1;cases hx1;have jl:=(List.getElem?_eq_some_iff.mp ef).1;have es1:ss[j]? = some (ss.getD j none):=by rw [List.getD_eq_getElem?_getD,Z3 (by omega)];rfl
              rw [Z4,es1] at hy1;cases hy1;have eg2:=setAt_get (v:=x) (show j < ss.length by omega) (show i < ss.length by omega);refine pickT (SqT.of zA1) ⟨_,rfl,_,rfl,ca,_,1,_,rfl,rfl,SqT.of ((Same.new fp) _ _ (s7 _ _ hca6)),rfl,rfl,_,rfl,?_⟩;rw [show decide (V.str fj.1=V.str f)=decide (fj.1=f) by simp];cases cf:decide (fj.1=f) with
              | true =>
               have ej:j=i:=by
                have:=zEm fnd ef;rw [of_decide_eq_true cf,ep] at this;exact (Zf this).symm
               refine iteT ⟨_,rfl,hN _ _ ⟨s7.trans (Same.new fp),?_⟩⟩;rw [Z5,eg2,if_pos ej,Z6];rfl
              | false =>
               have ej:¬ j=i:=fun z=>by
                rw [← z,Z4,ef] at pl1;exact of_decide_eq_false cf (Zf pl1)
               refine iteF ⟨_,rfl,hN _ _ ⟨s7.trans (Same.new fp),?_⟩⟩;rw [Z5,eg2,if_neg ej,Z6];rfl
            ·rintro zs H' ⟨s7,rfl⟩ lz flz;rw [Z0,Z0,List.take_of_length_le (by omega)];refine ⟨lz,_,rfl,.inl ⟨SqL.of zA1,fun tz fz=>⟨small 1 (by decide),fun lr fr=>?_⟩⟩⟩;refine q lr [.ref tz] _ (((s15.trans s6).trans s7).trans ((Same.new flz).trans ((Same.new fz).trans (Same.new fr)))) zA1 ⟨fun z=>?_,fun _=>⟨_,rfl,?_⟩⟩
             ·rw [hpos] at z;cases z
             ·rw [hout];exact ⟨tz,rfl,(Same.new fr) _ _ zA1⟩
end
end L2.W
namespace L2.W
open PySem My
theorem eq_same {G G':Addr→Prop}{H:Hp}{x y:V}{Q:VK}{d:PyData} (hx:Has G H x d) (hy:Has G' H y d) (hd:d.depth≤64) (q:Q (.bl true) H):rEqD x y H Q:=⟨d,d,hx.any,hy.any,hd,hd,by rw [hx.eqv];exact q⟩
theorem zE9:∀ ks:List Str,PyData.depthAll (ks.map PyData.str)≤1
 | []=>by decide
 | k :: r=>by
  have:=zE9 r;have h1:PyData.depth (.str k)≤1:=zEa (some k);show max (PyData.depth (.str k)) (PyData.depthAll (r.map PyData.str))≤1;omega
theorem depth_strsX (ks:List Str):PyData.depth (.list (ks.map PyData.str))≤64:=by
 have:=zE9 ks;show PyData.depthAll (ks.map PyData.str) + 1≤64;omega
theorem oneS_ok {ns:List Str}{f:Str×List Str}{x:Option Str} (hf:ValsOk f.2) (hx:atOk x):atOk (oneS ns f x):=fun y hy=>by
 unfold oneS at hy;split at hy
 ·exact hx y hy
 ·cases e:f.2 with
  | nil=>have:=hf.ne;rw [e] at this;cases this
  | cons a t =>
   rw [e] at hy;cases hy;exact hf.ok _ (by rw [e];exact Zl)
theorem out_ok {r:Row}{w s:Option (List (Option Str))}{c:Chg} (fo:FieldsOk r.fields) (ow:optOk w) (os:optOk s) (ls:Len r.fields s) (oc:ChgOk c):optOk (outC r w s c):=by
 intro st e;cases c with
 | make ns =>
  have e:some (mkS r.fields ns (w.getD []))=some st:=e;cases e;have f3:=fo.le;refine ⟨?_,fun x hx=>?_⟩
  ·unfold mkS;rw [List.length_zipWith];omega
  ·unfold mkS at hx;obtain ⟨i,hi⟩:=List.getElem?_of_mem hx;rw [List.getElem?_zipWith] at hi;cases ef:r.fields[i]? with
   | none=>rw [ef] at hi;cases hi
   | some f =>
    rw [ef] at hi;cases ew:(w.getD [])[i]? with
    | none=>rw [ew] at hi;cases hi
    | some y =>
     rw [ew] at hi;cases hi;refine oneS_ok (fo.ok f (Z1 ef)).2 ?_;cases w with
     | none=>simp at ew
     | some ws=>exact (ow ws rfl).2 y (Z1 ew)
 | set f v =>
  cases s with
  | none=>cases e
  | some ss =>
   cases ep:placeOf r.fields f with
   | none=>simp only [outC,ep] at e;cases e
   | some i =>
    cases ea:aimS r w f v with
    | none=>simp only [outC,ep,ea] at e;cases e
    | some x =>
     simp only [outC,ep,ea] at e;cases e;have il:=zBr ep;have sl:=ls ss rfl;obtain ⟨s3,sok⟩:=os ss rfl;refine ⟨by rw [setAt_len (by omega)];exact s3,fun y hy=>?_⟩;unfold setAt at hy;rcases List.mem_append.mp hy with hy | hy
     ·rcases List.mem_append.mp hy with hy | hy
      ·exact sok y (Yc hy)
      ·rw [List.mem_singleton.mp hy];intro z hz;cases hz;cases v with
       | some v0=>cases ea;exact oc.2 _ rfl
       | none =>
        have ea:valIn r.fields w f=some x:=ea;unfold valIn at ea;rw [ep] at ea;cases w with
        | none=>cases ea
        | some ws =>
         have ea:ws.getD i none=some x:=ea;have:some x∈ws:=by
          rw [List.getD_eq_getElem?_getD] at ea;cases ew:ws[i]? with
          | none=>rw [ew] at ea;cases ea
          | some y=>rw [ew] at ea;cases ea;exact Z1 ew
         exact (ow ws rfl).2 _ this x rfl
     ·exact sok y (List.mem_of_mem_drop hy)
 | take=>cases e
theorem sit_of2 {H:Hp}{rs:List Row}{r:Row} (rp:RowsP rs) (hr:r∈rs) {G:Addr→Prop}{x:V}{d:PyData} (hd:d∈sitsOf rs r) (h:Has G H x d):∃ a w o s,x=.ref a∧SitAt H a r w o s∧SitOk rs r w o s∧(r.owner.isNone || o.isSome)=true∧optOk w∧optOk s:=by
 obtain ⟨w,hw,hd⟩:=List.mem_flatMap.mp hd;obtain ⟨o,ho,hd⟩:=List.mem_flatMap.mp hd;obtain ⟨s,hs,rfl⟩:=List.mem_map.mp hd;obtain ⟨a,xs,rfl,_,ha,_,hx⟩:=h.tup_inv;obtain ⟨ys,rfl,hy⟩:=strC hx;cases hy with
 | cons h1 hy =>
  cases hy with
  | cons h2 hy =>
   cases hy with
   | cons h3 hy =>
    cases hy;have fo:=(rp.ok r hr).2;refine ⟨a,w,o,s,rfl,⟨_,_,_,ha,.of h1,.of h2,.of h3⟩,⟨hr,wi_len fo hw,?_,fun n en=>?_⟩,?_,wi_ok fo w hw,now_ok fo s hs⟩
    ·intro st e;cases e;unfold nowS at hs;rcases List.mem_cons.mp hs with hs | hs
     ·cases hs
     ·exact st_len fo hs st rfl
    ·obtain ⟨r',h',rfl⟩:=rp.ownIn r hr n en;rw [zCi rp h' en] at ho;rw [zB4 rp h'];exact st_len (rp.ok r' h').2 ho
    ·cases en:r.owner with
     | none=>rfl
     | some n =>
      obtain ⟨r',h',rfl⟩:=rp.ownIn r hr n en;rw [zCi rp h' en] at ho;obtain ⟨st,_,rfl⟩:=List.mem_map.mp ho;rfl
noncomputable def spRt (A:CA) (B:CB) (CK C:Addr):Sp:=fun vs H Q _=>∃ (q p a:Addr) (v:V) (la:Addr) (rs:List Row) (r:Row) (w o s:Option (List (Option Str))) (n:Str) (c:Chg) (t:Tr) (bs:List Str) (pc pt l:Addr),vs=[.ref q,.ref p,v,.ref la,.ref a]∧Usd A B CK C H q p a rs r w o s n c t bs pc pt l∧Has Any H v (ruleD n c t bs)∧RlOk n c t bs∧Has Any H (.ref la) (.list (rs.map rowD))∧(r.owner.isNone || o.isSome)=true∧optOk w∧optOk s∧∀ H',Same H H'→Q (.bl true) H'
section
variable {P:Program}{w:World}{K:PySem.W.Frag}{mg:Str→Option Value}{base:Heap}{CX:CXT}
noncomputable abbrev nRt:List Str:=["_law_kinds_here", "_law_made_here", "_law_rule_here", "_law_spec", "_law_situation", "_law_due", "_law_used", "_law_found"]
theorem scRt:FnScope nRt ["_law_kinds_here", "_law_made_here", "_law_rule_here", "_law_spec", "_law_situation"] (defScope sRight):=⟨rfl,rfl,rfl,by decide +kernel,rfl,by decide +kernel,by decide +kernel⟩
theorem ok_rt {f fa fu fb CK C:Addr}{fd fda fdu fdb:FuncData}{A:CA}{B:CB} (hC:Calm CX) (T:Tops K mg) (F:Fun K "_law_right" "_law_right" sRight f fd) (DA:Def K mg "_law_after" sAfter ["_law_rule_here", "_law_spec", "_law_situation"] fa fda) (GA:FnOk P w K mg base CX 7 fa fda ["_law_rule_here", "_law_spec", "_law_situation"] spAft)
  (DU:Def K mg "can_be_used" sCanUse ["kinds", "rule", "situation"] fu fdu) (GU:FnOk P w K mg base CX 8 fu fdu ["kinds", "rule", "situation"] (spUse A B CK C)) (DB:Def K mg "state_behind" sBehind ["kinds", "rule", "situation"] fb fdb) (GB:FnOk P w K mg base CX 5 fb fdb ["kinds", "rule", "situation"] (spBeh A B CK C)):FnOk P w K mg base CX 9 f fd ["_law_kinds_here", "_law_made_here", "_law_rule_here", "_law_spec", "_law_situation"] (spRt A B CK C):=by
 refine Fun.okC F scRt (fun vs H Q E h=>?_) (fun cdv Ar outer sh H vs Q E hr h=>?_)
 ·obtain ⟨q,p,a,v,la,rs,r,w,o,s,n,c,t,bs,pc,pt,l,rfl,_⟩:=h;rfl
 ·obtain ⟨q,p,a,v,la,rs,r,w,o,s,n,c,t,bs,pc,pt,l,rfl,U,hv,ok,hd,own,ow,os,k⟩:=h;have nd:=scRt.nd;have hr7:=hr.mono (show 7≤8 by decide);have hr5:=hr.mono (show 5≤8 by decide)
  refine ⟨_,zA3 (zAi (i:=5) nd rfl (Or.inl rfl) (zA6 GA hr7 rfl DA.at_ DA.fn.kp DA.bind .nil (passC hC) (zA0 (pv 2) (zA0 (pv 3) (zA0 (pv 4) zA2)))))
     (zA3 (zAi (i:=6) nd rfl (Or.inl rfl) (zA6 GU hr rfl DU.at_ DU.fn.kp DU.bind .nil (passC hC) (zA0 (pv 0) (zA0 (pv 1) (zA0 (pv 4) zA2)))))
     (zA3 (zAn (PW.pt (zBi (zAz (zAt (zAh zAo rfl T.isinst PyProof.Rows.boot_isinstance (zA0 (pv 6) (zA0 (zBp (v:=.ty "bool") rfl T.bool PyProof.Rows.boot_bool rfl) zA2))))) (zB9 (zAg op_ne (pv 6) (zAq (zEn hr.units) (pv 5) (zAm zA2) (nomark _)) (nomark _)))))
     (zA5 (zA9 zC7)) zAb)
     (zA3 (zAn (zAz (zAt (pv 6)))
     (zA5 (zA9 zC7)) zAb)
     (zA3 (zAi (i:=7) nd rfl (Or.inl rfl) (zA6 GB hr5 rfl DB.at_ DB.fn.kp DB.bind .nil (passC hC) (zA0 (pv 0) (zA0 (pv 1) (zA0 (pv 4) zA2)))))
     (zA3 (zAn (PW.pt (zBx (zB6 (zC3 (pv 7))) (zBg (zAz (zAt (zAh zAo rfl T.isinst PyProof.Rows.boot_isinstance (zA0 (pv 7) (zA0 (zBp (v:=.ty "tuple") rfl T.tuple PyProof.Rows.boot_tuple rfl) zA2))))))))
     (zA5 (zA9 zC7)) zAb)
     (zA5 (zA9 (zAq (op_eqD hr.units) (pv 7) (zAf zAr (pv 5) zA4 (fun _ _=>rfl)) (nomark _))))))))),?_⟩
  refine ⟨_,rfl,_,rfl,_,rfl,v,la,a,n,c,t,bs,rs,r,w,o,s,rfl,hv,ok,hd,U.rp,U.st,U.so,own,fun lr ys H1 s1 h1 aft=>?_⟩;have U1:=U.same s1;refine ⟨_,rfl,_,rfl,_,rfl,q,p,a,rs,r,w,o,s,n,c,t,bs,pc,pt,l,rfl,U1,fun H2 s2=>?_⟩;have s12:=s1.trans s2;have oo:=out_ok (U.rp.ok r U.so.mem).2 ow os U.so.ls ok.cg;refine ⟨_,rfl,_,_,_,_,_,rfl,.bl _,rfl,rfl,_,rfl,iteF ⟨_,rfl,_,rfl,Zj _,fun l0 f0=>?_⟩⟩;have s3:Same H2 (upd H2 l0 (.lst [])):=Same.new f0;have e3:(upd H2 l0 (.lst [])) l0=some (.lst []):=zA1;generalize upd H2 l0 (.lst [])=H3 at s3 e3 ⊢;have s13:=s12.trans s3;have nil_:Has Any H3 (.ref l0) (.list []):=.lst trivial e3 (Zj _) .nil;cases ub:useB rs r w o s n c t with
  | false =>
   have ey:=aft.1 ub;subst ey;exact ⟨.list [],.list [],.lst trivial ((s2.trans s3) _ _ h1) (Zj _) .nil,nil_,by decide,by decide,rfl,_,rfl,iteF ⟨_,rfl,_,rfl,iteT (k _ s13)⟩⟩
  | true =>
   obtain ⟨y,ey,hy⟩:=aft.2 ub;subst ey;have dep:PyData.depth (optT (outC r w s c))≤2:=depth_opt _;have hyd:∀ {Hx:Hp},Same H1 Hx→Has Any Hx y (optT (outC r w s c)):=fun sx=>(hy.same sx).has oo fun _ _ _=>trivial;refine ⟨.list [optT (outC r w s c)],.list [],.lst trivial ((s2.trans s3) _ _ h1) (by show 1≤1000;decide) (.cons (hyd (s2.trans s3)) .nil),nil_,by show max (PyData.depth (optT (outC r w s c))) 0 + 1≤64;omega,by decide,rfl,_,rfl,iteF ⟨_,rfl,_,rfl,iteF ?_⟩⟩;refine ⟨_,rfl,_,rfl,_,rfl,q,p,a,rs,r,w,o,s,n,c,t,bs,pc,pt,l,rfl,U.same s13,ub,fun v' H4 s4 hv'=>?_⟩;have s14:=s13.trans s4;have sH1:=(s2.trans s3).trans s4;have hvd:Has Any H4 v' (optT (outC r w s c)):=hv'.has oo fun _ _ _=>trivial;cases eo:outC r w s c with
   | none =>
    rw [eo] at hv';have ev:v'=.non:=hv';subst ev;exact ⟨_,rfl,_,rfl,iteF (iteF ⟨_,rfl,_,rfl,lr,_,((0:Nat):Int),y,rfl,rfl,SqL.of (sH1 _ _ h1),zB5 rfl,eq_same hvd (hyd sH1) (by omega) (k _ s14)⟩)⟩
   | some st =>
    rw [eo] at hv';obtain ⟨cc,rfl,hcc⟩:=hv';exact ⟨_,rfl,_,rfl,iteT ⟨_,rfl,_,_,_,_,_,rfl,.tup hcc,rfl,rfl,_,rfl,iteF ⟨_,rfl,_,rfl,lr,_,((0:Nat):Int),y,rfl,rfl,SqL.of (sH1 _ _ h1),zB5 rfl,eq_same hvd (hyd sH1) (by omega) (k _ s14)⟩⟩⟩
end
end L2.W
namespace L2.W
open PySem My
noncomputable def spLaw33 (K:PySem.W.Frag) (Pt:Addr):Sp:=fun vs H Q _=>∃ (a:Addr) (ns:List Int),vs=[.ref a]∧SqL K H a (ns.map V.int)∧ns.length≤63∧TabOk H Pt lamPos lamQ∧∀ H',Q (.bl true) H'
structure Asks33 (P:Program) (w:World) (K:PySem.W.Frag) (mg:Str→Option Value) (base:Heap) (A:CA) (B:CB) (C CK fc fd fn fk fm fr fo fs ft Pt:Addr) (dc dd dn dk dm dr do_ ds dt:FuncData):Prop where
 T:Tops K mg
 N:Cng K mg B
 Dc:Def K mg "_law_cell_at" sCellAt ["_law_script", "_law_k"] fc dc
 Gc:FnOk P w K mg base (CXM P w) 1 fc dc ["_law_script", "_law_k"] (spCellAt K)
 Dd:Def K mg "_law_digits" sDigits ["_law_cell"] fd dd
 Gd:FnOk P w K mg base (CXM P w) 1 fd dd ["_law_cell"] spDigits
 Dn:Def K mg "_law_next" sNext ["_law_source", "_law_many"] fn dn
 Gn:FnOk P w K mg base (CXM P w) 2 fn dn ["_law_source", "_law_many"] spNext
 Dk:Def K mg "_law_kinds" sKinds ["_law_source"] fk dk
 Gk:FnOk P w K mg base (CXM P w) 3 fk dk ["_law_source"] spKinds
 Dm:Def K mg "_law_made" sMade ["_law_spec"] fm dm
 Gm:FnOk P w K mg base (CXM P w) 7 fm dm ["_law_spec"] (spMade CK C Pt)
 Dr:Def K mg "_law_rule" sRule ["_law_source", "_law_spec", "_law_strange"] fr dr
 Gr:FnOk P w K mg base (CXM P w) 8 fr dr ["_law_source", "_law_spec", "_law_strange"] spRul
 Do:Def K mg "_law_rule_object" sRuleObject ["_law_rule_here"] fo do_
 Go:FnOk P w K mg base (CXM P w) 8 fo do_ ["_law_rule_here"] (spRObj A B)
 Ds:Def K mg "_law_situations" sLSits ["_law_spec", "_law_kind"] fs ds
 Gs:FnOk P w K mg base (CXM P w) 2 fs ds ["_law_spec", "_law_kind"] spLSit
 Dt:Def K mg "_law_right" sRight ["_law_kinds_here", "_law_made_here", "_law_rule_here", "_law_spec", "_law_situation"] ft dt
 Gt:FnOk P w K mg base (CXM P w) 9 ft dt ["_law_kinds_here", "_law_made_here", "_law_rule_here", "_law_spec", "_law_situation"] (spRt A B CK C)
noncomputable abbrev nL33:List Str:=["_law_script", "_law_source", "_law_spec", "_law_kinds_here", "_law_strange", "_law_k", "_law_rule_here", "_law_made_here", "_law_name", "_law_fields_here", "_law_owner_here", "_law_situation"]
section
variable {P:Program}{w:World}{K:PySem.W.Frag}{mg:Str→Option Value}{base:Heap}
theorem scL33:FnScope nL33 ["_law_script"] (defScope sLaw):=⟨rfl,rfl,rfl,by decide +kernel,rfl,by decide +kernel,by decide +kernel⟩
theorem step2 {z:Int} (h:z=0∨z=1):∃ ep:Int,atI ([.int 1,.int (-1)]:List V) z=some (.int ep)∧(ep=1∨ep = -1):=by
 rcases h with rfl | rfl
 ·exact ⟨1,rfl,.inl rfl⟩
 ·exact ⟨-1,rfl,.inr rfl⟩
set_option maxHeartbeats 4000000 in
theorem ok_law33 {f C CK fc fd fn fk fm fr fo fs ft Pt:Addr}{fdl dc dd dn dk dm dr do_ ds dt:FuncData}{A0:CA}{B:CB} (F:Fun K "law" "law" sLaw f fdl) (A:Asks33 P w K mg base A0 B C CK fc fd fn fk fm fr fo fs ft Pt dc dd dn dk dm dr do_ ds dt):FnOk P w K mg base (CXM P w) 10 f fdl ["_law_script"] (spLaw33 K Pt):=by
 have T:=A.T;have N:=A.N;have hC:Calm (CXM P w):=calmM;refine Fun.okC F scL33 (fun vs H Q E h=>?_) (fun cdv Ar outer s H vs Q E hr h=>?_)
 ·obtain ⟨a,ns,rfl,_⟩:=h;rfl
 ·obtain ⟨a,nums,rfl,hS,hlen,hT,k⟩:=h;have nd:=scL33.nd;have hr1:=hr.mono (show 1≤9 by decide);have hr2:=hr.mono (show 2≤9 by decide);have hr3:=hr.mono (show 3≤9 by decide);have hr7:=hr.mono (show 7≤9 by decide);have hr8:=hr.mono (show 8≤9 by decide)
  refine ⟨_,zA3 (zAi (i:=1) nd rfl (Or.inl rfl) (zA6 A.Gd hr1 rfl A.Dd.at_ A.Dd.fn.kp A.Dd.bind .nil (passC hC) (zA0 (zA6 A.Gc hr1 rfl A.Dc.at_ A.Dc.fn.kp A.Dc.bind .nil (passC hC) (zA0 (pv 0) (zA0 zA4 zA2))) zA2)))
     (zA3 (zAi (i:=2) nd rfl (Or.inl rfl) (zA6 A.Gk hr3 rfl A.Dk.at_ A.Dk.fn.kp A.Dk.bind .nil (passC hC) (zA0 (pv 1) zA2)))
     (zA3 (zAi (i:=3) nd rfl (Or.inl rfl) (zA6 A.Gm hr7 rfl A.Dm.at_ A.Dm.fn.kp A.Dm.bind .nil (passC hC) (zA0 (pv 2) zA2)))
     (zA3 (zAi (i:=4) nd rfl (Or.inl rfl) (zAq zBa (zA6 A.Gn hr2 rfl A.Dn.at_ A.Dn.fn.kp A.Dn.bind .nil (passC hC) (zA0 (pv 1) (zA0 zA4 zA2))) zA4 (nomark _)))
     (zA3 (zBt PassesOwn.never rfl (zC5 rfl T.range (zA0 zA4 zA2)) (zA8 (i:=5) nd rfl (Or.inl rfl))
     (zA3 (zAi (i:=6) nd rfl (Or.inl rfl) (zA6 A.Gr hr8 rfl A.Dr.at_ A.Dr.fn.kp A.Dr.bind .nil (passC hC) (zA0 (pv 1) (zA0 (pv 2) (zA0 (pv 4) zA2)))))
     (zA3 (zAi (i:=7) nd rfl (Or.inl rfl) (zA6 A.Go hr8 rfl A.Do.at_ A.Do.fn.kp A.Do.bind .nil (passC hC) (zA0 (pv 6) zA2)))
     (zA3 (zBt PassesOwn.never rfl (zAk (zDf (pv 2) (zAf zAr (zAm (zA0 zA4 (zA0 (pe_un un_neg zA4) zA2))) (zAv zCk (pv 5) zA4) (fun _ _=>rfl)))) (zC6 rfl (zAe (zA8 (i:=8) nd rfl (Or.inl rfl)) (zAe (zA8 (i:=9) nd rfl (Or.inl rfl)) (zAe (zA8 (i:=10) nd rfl (Or.inl rfl)) zB2))))
     (zA5 (zBt PassesOwn.never rfl (zAk (zDf (zA6 A.Gs hr2 rfl A.Ds.at_ A.Ds.fn.kp A.Ds.bind .nil (passC hC) (zA0 (pv 2) (zA0 (pv 8) zA2))) (zAf zAr (zAm (zA0 zA4 (zA0 (pe_un un_neg zA4) zA2))) (zAv zDz (pv 5) zA4) (fun _ _=>rfl)))) (zA8 (i:=11) nd rfl (Or.inl rfl))
     (zA5 (zAn (zAz (zAt (zA6 A.Gt hr rfl A.Dt.at_ A.Dt.fn.kp A.Dt.bind .nil (passC hC) (zA0 (pv 3) (zA0 (pv 7) (zA0 (pv 6) (zA0 (pv 2) (zA0 (pv 11) zA2))))))))
     (zA5 (zA9 zC7)) zAb)))))
     (zA5 (zAn (PW.pt (zBi (zAg op_ne (zAw (pv 7) rfl) (zAf zAd (pv 6) zA4 (fun _ _=>rfl)) (nomark _)) (zB9 (zAg (zEn hr.units) (zAw (pv 7) rfl) (zAs zB1 rfl T.list PyProof.Rows.boot_list (zA0 (zAf zAd (pv 6) zA4 (fun _ _=>rfl)) zA2)) (nomark _)))))
     (zA5 (zA9 zC7)) zAb))))))
     (zA5 (zA9 zC7)))))),?_⟩
  have small:∀ n:Nat,n≤1000→n≤sizeLine:=fun n h=>Zn (small1000 h);refine ⟨_,rfl,a,nums,rfl,hS,fun z0=>⟨z0,rfl,fun q H1 hq S1 s1 k1=>?_⟩⟩;refine ⟨_,rfl,q,0,rfl,S1,by decide,fun l rs H2 dr S2 B2=>?_⟩;have rp:RowsP rs:=⟨_,dr.ok,List.Perm.refl _⟩;have le4:=dr.le;have ge1:=rp.le.1;have hT1:=hT.same s1;have noq:∀ {Hx:Hp}{j:Int},Src Hx q j→∀ {b:Addr}{o:HO},Hx b=some o→(∀ xs,o≠.lst xs)→b≠q:=fun S b o e h z=>by
   obtain ⟨_,_,_,e',_⟩:=S;rw [z,e'] at e;exact h _ (Zf e).symm
  have hT2:TabOk H2 Pt lamPos lamQ:=hT1.gen fun b o e h=>B2 b o e (noq S1 e (by
   rcases h with h | ⟨f,h⟩
   ·obtain ⟨ps,ep⟩:=TabOk.tb hT1;rw [h,ep] at e;cases e;exact fun _ z=>nomatch z
   ·rw [h];exact fun _ z=>nomatch z))
  have hq1:H1 q≠none:=by obtain ⟨_,_,_,e,_⟩:=S1;rw [e];exact fun z=>nomatch z
  have hl2:Has (fun a=>a≠q) H2 (.ref l) (.list (rs.map rowD)):=dr.has.frame fun b o g e=>⟨fun z=>hq1 (z ▸ g),e⟩;refine ⟨_,rfl,l,rs,rfl,hl2.any,rp,hT2,fun kq d ord kvs zs H8 ka nq8 nd8 hzs kf zr pl gr ol8 T8 g8=>?_⟩;have op:ord.Perm (zs.map fun z=>z.2.name):=by
   have:=ord_perm gr ol8 rp.nd;rw [← zr,Zq] at this;exact this
  have ndz:(zs.map fun z=>z.2.name).Nodup:=by
   have:=rp.nd;rw [← zr,Zq] at this;exact this
  have hl8:=has_grown hl2 hT2 g8;have S8:Src H8 q 60:=by
   obtain ⟨a1,c1,j1,e1,r1⟩:=S2;exact ⟨a1,c1,j1,g8 _ _ e1 (hT2.ne e1 fun _ z=>nomatch z),r1⟩
  have hq2:H2 q≠none:=by obtain ⟨_,_,_,e,_⟩:=S2;rw [e];exact fun z=>nomatch z
  have kdx:∀ {Hx:Hp},ButS q H8 Hx→Kd CK C Hx kq rs:=fun {Hx} b=>by
   have ka':KindsAt CK Hx kq d kvs:=ka.mono fun b' o e hs=>b _ _ e (noq S8 e (by rcases hs with ⟨_,_,_,rfl⟩ | ⟨_,rfl⟩ | ⟨_,_,rfl⟩ <;> exact fun _ z=>nomatch z));have:=kdOf ka' ndz (G:=Any) (fun z hz=>(kf z hz).frame (fun b' o e ⟨_,_,_,eo⟩=>b _ _ e (noq S8 e (by rw [eo];exact fun _ z=>nomatch z))) fun b' o g _ e=>⟨trivial,b _ _ e fun z=>hq2 (z ▸ g)⟩) pl op;rw [zr] at this;exact this
  clear hT1 hT2 T8 g8 hl2 S2 B2 S1 hT;refine ⟨_,rfl,q,3,_,rfl,S8,by decide,by decide,by decide,fun r9 H9 _ _ S9 k9=>⟨rfl,?_⟩⟩;generalize decide (V.int r9=V.int 0)=bs0;refine ⟨(4:Nat),rfl,by decide,by decide,zE8 (n:=4) (fun i σ H'=>∃ x5 x6 x7 x8 x9 x10 x11:Option V,σ = [some (.ref a),some (.ref q),some (.ref l),some (.ref kq),some (.bl bs0),x5,x6,x7,x8,x9,x10,x11]∧Src H' q (61 + 200 * i)∧ButS q H8 H') ⟨_,_,_,_,_,_,_,rfl,S9.mono (by omega),ButS.eq k9⟩ ?_ (fun σ H' _=>k H')⟩;rintro i σ H10 hi ⟨x5,x6,x7,x8,x9,x10,x11,rfl,S10,b10⟩;obtain ⟨tv,etv,t0,t4⟩:∃ tv:Int,(0 + (i:Int))=tv∧0≤tv∧tv < 4:=⟨_,rfl,by omega,by omega⟩;rw [etv];refine ⟨_,rfl,_,rfl,_,rfl,q,l,bs0,rs,_,rfl,S10,by omega,hl8.but b10,rp,le4,dr.noG,fun v n c t bs H11 ok hv S11 b11=>?_⟩;have b811:=b10.trans b11;refine ⟨_,rfl,v,n,c,t,bs,rfl,hv.any,ok,fun p pc pt lb HL ru sL=>?_⟩;have b8L:=b811.trans (ButS.same sL);have hvL:=hv.any.mono sL;have hlL:=(hl8.but b8L).any;have kdL:=kdx b8L;have SL:=S11.up sL;obtain ⟨l',xs2,e,_,hlxL,_,hxL⟩:=id hlL.list_inv;cases e;obtain ⟨e1,he1,he1'⟩:=step2 (z:=tv % 2) (by omega);obtain ⟨e2,he2,he2'⟩:=step2 (z:=tv / 2) (by omega);refine ⟨_,rfl,_,rfl,small 2 (by decide),fun l2 f2=>⟨_,rfl,_,_,rfl,rfl,by show (0:Int) < 2;decide,l2,_,tv % 2,_,rfl,rfl,SqL.of zA1,he1,l,xs2,e1,rfl,rfl,he1',SqL.of ((Same.new f2) _ _ hlxL),fun p3 f3=>?_⟩⟩;have s12:Same HL (upd (upd HL l2 (.lst [.int 1,.int (-1)])) p3 (.lst (stepL e1 xs2))):=(Same.new f2).trans (Same.new f3);have e12:(upd (upd HL l2 (.lst [.int 1,.int (-1)])) p3 (.lst (stepL e1 xs2))) p3=some (.lst (stepL e1 xs2)):=zA1;generalize upd (upd HL l2 (.lst [.int 1,.int (-1)])) p3 (.lst (stepL e1 xs2))=H12 at s12 e12 ⊢
  refine ⟨p3,rfl,⟨_,SqL.of e12⟩,zBs (K:=K) (a:=p3) (xs:=stepL e1 xs2) (fun m σ H'=>∃ x8 x9 x10 x11:Option V,σ = [some (.ref a),some (.ref q),some (.ref l),some (.ref kq),some (.bl bs0),some (.int tv),some v,some (.ref p),x8,x9,x10,x11]∧Same H12 H')
   ⟨_,_,_,_,rfl,Same.refl _⟩ (fun m σ H' _ ⟨_,_,_,_,_,s⟩=>SqL.of (s _ _ e12)) ?_ ?_⟩
  ·rintro m x σ H13 hm ⟨y8,y9,y10,y11,rfl,s13⟩;obtain ⟨jj,hjj⟩:=List.getElem?_of_mem (step_mem (Z1 hm));obtain ⟨dm',hdm,hvm⟩:=hxL.get hjj;obtain ⟨r,mr,rfl⟩:=List.mem_map.mp (Z1 hdm);have fit:=dr.fit r mr;have sL13:=s12.trans s13;obtain ⟨tm,lm,rfl,htm,_⟩:=zCx hvm;refine ⟨tm,_,rfl,SqT.of (sL13 _ _ htm),rfl,_,_,rfl,_,_,rfl,_,_,rfl,rfl,?_⟩;refine ⟨_,rfl,_,rfl,l,rs,r,rfl,hlL.mono sL13,rp,mr,fit,fun ls ys H16 s16 n16 h16 hy16=>?_⟩;refine ⟨_,rfl,small 2 (by decide),fun l4 f4=>⟨_,rfl,_,_,rfl,rfl,⟨by show (0:Int) < 2;decide,by show (2:Int) < 1073741824;decide⟩,l4,_,tv / 2,_,rfl,rfl,SqL.of zA1,he2,ls,ys,e2,rfl,rfl,he2',SqL.of ((Same.new f4) _ _ h16),fun p5 f5=>?_⟩⟩;have s17:Same H16 (upd (upd H16 l4 (.lst [.int 1,.int (-1)])) p5 (.lst (stepL e2 ys))):=(Same.new f4).trans (Same.new f5);have e17:(upd (upd H16 l4 (.lst [.int 1,.int (-1)])) p5 (.lst (stepL e2 ys))) p5=some (.lst (stepL e2 ys)):=zA1;generalize upd (upd H16 l4 (.lst [.int 1,.int (-1)])) p5 (.lst (stepL e2 ys))=H17 at s17 e17 ⊢;have s1317:=s16.trans s17
   refine ⟨p5,rfl,⟨_,SqL.of e17⟩,zBs (K:=K) (a:=p5) (xs:=stepL e2 ys) (fun m σ H'=>∃ x11:Option V,σ = [some (.ref a),some (.ref q),some (.ref l),some (.ref kq),some (.bl bs0),some (.int tv),some v,some (.ref p),some (.str r.name),some (.ref lm),some (ownV r.owner),x11]∧Same H17 H')
    ⟨_,rfl,Same.refl _⟩ (fun m σ H' _ ⟨_,_,s⟩=>SqL.of (s _ _ e17)) ?_ (fun σ H' ⟨_,e,s⟩=>⟨_,_,_,_,e,s13.trans (s1317.trans s)⟩)⟩
   rintro m2 x σ H18 hm2 ⟨y11',rfl,s18⟩;obtain ⟨j2,hj2⟩:=List.getElem?_of_mem (step_mem (Z1 hm2));obtain ⟨ds',hds,hvs⟩:=hy16.get hj2;obtain ⟨as,ww,oo,ss,rfl,sit,sok,own,ow,os⟩:=sit_of2 rp mr (Z1 hds) hvs;have sL18:=(sL13.trans s1317).trans s18;refine ⟨_,rfl,_,rfl,_,rfl,_,rfl,_,rfl,kq,p,as,v,l,rs,r,ww,oo,ss,n,c,t,bs,pc,pt,lb,rfl,⟨ru.same sL18,ok.cg,ok.tr,ok.h,kdL.same sL18,rp,sit.same (s17.trans s18),sok⟩,hvL.mono sL18,ok,hlL.mono sL18,own,ow,os,fun H19 s19=>⟨_,rfl,iteF ⟨_,rfl,s18.trans s19⟩⟩⟩
  ·rintro σ H13 ⟨y8,y9,y10,y11,rfl,s13⟩;have sL13:=s12.trans s13;obtain ⟨dxr,er⟩:=(ru.same sL13).e;obtain ⟨ra,vc,vt,lb2,rfl,hra,_,_,hlb2⟩:=zEz (hvL.mono sL13);refine ⟨_,rfl,p,B.ru,dxr,_,_,rfl,er,N.rcl,N.nRk,rF_k _ _ _ _,_,rfl,ra,_,0,_,rfl,rfl,SqT.of hra,rfl,rfl,_,rfl,?_⟩;rw [decide_eq_true rfl];refine iteF ⟨_,rfl,p,B.ru,dxr,_,_,rfl,er,N.rcl,N.nRb,rF_b _ _ _ _,_,rfl,ra,_,3,_,rfl,rfl,SqT.of hra,rfl,lb2,_,rfl,.inl (SqL.of hlb2),fun l9 f9=>?_⟩;have s9':=Same.new (o:=HO.lst (bs.map V.str)) f9;refine ne_same (d:=.list (bs.map .str)) (G:=Any) (G':=Any) (zDh trivial (s9' _ _ (ru.same sL13).l) ok.b) (zDh trivial zA1 ok.b) (depth_strsX bs) ⟨_,rfl,iteF ?_⟩;exact ⟨_,_,_,_,_,_,_,rfl,((SL.up sL13).up s9').mono (by push_cast;omega),(b8L.trans (ButS.same sL13)).trans (ButS.same s9')⟩
end
end L2.W
namespace L2.W
open PySem My
noncomputable def ckC (K:PySem.W.Frag) (cc C:Addr) (nos:List Str):Bool:=PySem.W.plainGet K C Str.empty && (PySem.W.hasDictIn K C && (PySem.W.plainOver K C && (decide (PySem.W.findIn K (.ref C) "__setattr__" = some (some (.builtin "object.__setattr__"))) && (decide (PySem.W.findIn K (.ref C) "__class__" = some (some (.builtin "object.__class__"))) && (decide (PySem.W.mroIn K C (.type "object")=some true) && (decide (PySem.W.kitOne K (.ref C) (.ref C)=some true) &&
 (decide (PySem.W.kitOne K (.ref C) (.ref cc)=some true) && (PySem.W.makesIn K C && (PySem.W.keepIn K (.ref C) && nos.all fun n=>decide (PySem.W.findIn K (.ref C) n=some none))))))))))
noncomputable def ckAll (K:PySem.W.Frag) (cc:Addr) (l:List (Addr×List Str)):Bool:=l.all fun x=>ckC K cc x.1 x.2
structure CkO (K:PySem.W.Frag) (cc C:Addr) (nos:List Str):Prop where
 c:CC1 K cc C
 ms:PySem.W.makesIn K C=true
 kp:PySem.W.keepIn K (.ref C)=true
 no:∀ n∈nos,NoAttr K C n
theorem zCq {K:PySem.W.Frag}{cc C:Addr}{nos:List Str} (hn:PySem.W.specialIn K (.builtin "object.__class__") "__get__" = some (some (.builtin "getset_descriptor.__get__"))) (htk:PySem.W.takesIn K (.builtin "object.__class__")=some true) {l:List (Addr×List Str)} (h:ckAll K cc l=true) (m:(C,nos)∈l):CkO K cc C nos:=by
 have z:ckC K cc C nos=true:=List.all_eq_true.mp h (C,nos) m;unfold ckC at z;simp only [Zu,decide_eq_true_eq,Yf] at z;obtain ⟨h1,h2,h3,h4,h5,h6,h7,h8,h9,h10,h11⟩:=z;exact ⟨⟨⟨h1,h2,h3,h4⟩,⟨h5,hn,htk,h6,h7⟩,h8⟩,h9,h10,h11⟩
section
variable {P:Program}{w:World}{K:PySem.W.Frag}{mg:Str→Option Value}{base:Heap}{CX:CXT}
theorem cnd_mk {A:CA} (hn:PySem.W.specialIn K (.builtin "object.__class__") "__get__" = some (some (.builtin "getset_descriptor.__get__"))) (htk:PySem.W.takesIn K (.builtin "object.__class__")=some true) (g:mg "Condition" = some (.ref A.cc)) (gAl:mg "Always" = some (.ref A.al)) (gWa:mg "Wanted" = some (.ref A.wa)) (gIs:mg "Is" = some (.ref A.is_)) (gMe:mg "Meets" = some (.ref A.me)) (gOw:mg "Owner" = some (.ref A.ow)) (gNo:mg "Not" = some (.ref A.no)) (gBo:mg "Both" = some (.ref A.bo)) (gEi:mg "Either" = some (.ref A.ei)) (ck:ckAll K A.cc [(A.al,[]),(A.wa,[]),(A.is_,["field", "value"]),(A.me,["field"]),(A.ow,["field", "value"]),(A.no,["condition"]),(A.bo,["conditions"]),(A.ei,["conditions"])]=true) (nAl:PySem.W.findIn K (.ref A.al) "__init__" = some (some (.builtin "object.__init__"))) (nWa:PySem.W.findIn K (.ref A.wa) "__init__" = some (some (.builtin "object.__init__"))) (nd:[A.al,A.wa,A.is_,A.me,A.ow,A.no,A.bo,A.ei].Nodup) (iIs:PySem.W.findIn K (.ref A.is_) "__init__" = some (some (.ref A.fIs))) (jIs:PySem.W.isFn K (.ref A.fIs)=true) (iMe:PySem.W.findIn K (.ref A.me) "__init__" = some (some (.ref A.fMe))) (jMe:PySem.W.isFn K (.ref A.fMe)=true) (iOw:PySem.W.findIn K (.ref A.ow) "__init__" = some (some (.ref A.fOw))) (jOw:PySem.W.isFn K (.ref A.fOw)=true) (iNo:PySem.W.findIn K (.ref A.no) "__init__" = some (some (.ref A.fNo))) (jNo:PySem.W.isFn K (.ref A.fNo)=true) (iBo:PySem.W.findIn K (.ref A.bo) "__init__" = some (some (.ref A.fBo))) (jBo:PySem.W.isFn K (.ref A.fBo)=true) (iEi:PySem.W.findIn K (.ref A.ei) "__init__" = some (some (.ref A.fEi))) (jEi:PySem.W.isFn K (.ref A.fEi)=true) (mAl:Meth K A.al "holds" A.hAl) (mWa:Meth K A.wa "holds" A.hWa) (mIs:Meth K A.is_ "holds" A.hIs) (mMe:Meth K A.me "holds" A.hMe) (mOw:Meth K A.ow "holds" A.hOw) (mNo:Meth K A.no "holds" A.hNo) (mBo:Meth K A.bo "holds" A.hBo) (mEi:Meth K A.ei "holds" A.hEi):Cnd K mg A:=by
 have kAl:CkO K A.cc A.al []:=zCq hn htk ck (.head _);have kWa:CkO K A.cc A.wa []:=zCq hn htk ck (.tail _ (.head _));have kIs:CkO K A.cc A.is_ ["field", "value"]:=zCq hn htk ck (.tail _ (.tail _ (.head _)));have kMe:CkO K A.cc A.me ["field"]:=zCq hn htk ck (.tail _ (.tail _ (.tail _ (.head _))));have kOw:CkO K A.cc A.ow ["field", "value"]:=zCq hn htk ck (.tail _ (.tail _ (.tail _ (.tail _ (.head _)))));have kNo:CkO K A.cc A.no ["condition"]:=zCq hn htk ck (.tail _ (.tail _ (.tail _ (.tail _ (.tail _ (.head _))))));have kBo:CkO K A.cc A.bo ["conditions"]:=zCq hn htk ck (.tail _ (.tail _ (.tail _ (.tail _ (.tail _ (.tail _ (.head _)))))));have kEi:CkO K A.cc A.ei ["conditions"]:=zCq hn htk ck (.tail _ (.tail _ (.tail _ (.tail _ (.tail _ (.tail _ (.tail _ (.head _))))))))
 exact ⟨(fun C h=>by
  unfold IsCond at h;rcases h with rfl | rfl | rfl | rfl | rfl | rfl | rfl | rfl
  ·exact kAl.c
  ·exact kWa.c
  ·exact kIs.c
  ·exact kMe.c
  ·exact kOw.c
  ·exact kNo.c
  ·exact kBo.c
  ·exact kEi.c),g,gAl,gWa,⟨kAl.ms,nAl,kAl.kp⟩,⟨kWa.ms,nWa,kWa.kp⟩,nd,gIs,⟨kIs.ms,iIs,jIs,kIs.kp⟩,gMe,⟨kMe.ms,iMe,jMe,kMe.kp⟩,gOw,⟨kOw.ms,iOw,jOw,kOw.kp⟩,gNo,⟨kNo.ms,iNo,jNo,kNo.kp⟩,gBo,⟨kBo.ms,iBo,jBo,kBo.kp⟩,gEi,⟨kEi.ms,iEi,jEi,kEi.kp⟩,kIs.no _ (.head _),kIs.no _ (.tail _ (.head _)),kMe.no _ (.head _),kOw.no _ (.head _),kOw.no _ (.tail _ (.head _)),kNo.no _ (.head _),kBo.no _ (.head _),kEi.no _ (.head _),mAl,mWa,mIs,mMe,mOw,mNo,mBo,mEi⟩
theorem ini_mk {A:CA}{fn fc:Addr}{dn dc:FuncData}{gIs gMe gOw gNo gBo gEi:FuncData} (hC:Calm CX) (T:Tops K mg) (N:Cnd K mg A) (DCn:Def K mg "check_names" sChkNames ["things"] fn dn) (GCn:FnOk P w K mg base CX 2 fn dn ["things"] spChkN) (DCc:Def K mg "check_conditions" sChkConds ["things"] fc dc) (GCc:FnOk P w K mg base CX 1 fc dc ["things"] (spChkC A)) (FIs:Fun K "__init__" "Is.__init__" sInitIs A.fIs gIs) (bIs:Binds K gIs ["self", "field", "value"] []) (FMe:Fun K "__init__" "Meets.__init__" sInitMe A.fMe gMe) (bMe:Binds K gMe ["self", "field"] []) (FOw:Fun K "__init__" "Owner.__init__" sInitOw A.fOw gOw) (bOw:Binds K gOw ["self", "field", "value"] []) (FNo:Fun K "__init__" "Not.__init__" sInitNo A.fNo gNo) (bNo:Binds K gNo ["self", "condition"] []) (FBo:Fun K "__init__" "Both.__init__" sInitBo A.fBo gBo) (bBo:Binds K gBo ["self", "conditions"] []) (FEi:Fun K "__init__" "Either.__init__" sInitEi A.fEi gEi) (bEi:Binds K gEi ["self", "conditions"] []):Ini P w K mg base CX A gIs gMe gOw gNo gBo gEi:=⟨ok_initIs hC N FIs DCn GCn,bIs,ok_initMe hC N FMe DCn GCn,bMe,ok_initOw hC N FOw DCn GCn,bOw,ok_initNo T N FNo,bNo,ok_initBo hC T N FBo DCc GCc,bBo,ok_initEi hC T N FEi DCc GCc,bEi⟩
theorem hld_mk {A:CA}{CK C fI fIk fOr fOf fOw fv fp:Addr}{fdO fdv fdp:FuncData}{dAl dWa dIs dMe dOw dNo dBo dEi:FuncData} (hC:Calm CX) (T:Tops K mg) (N:Cnd K mg A) (KC:KCls K mg C fI) (KS:KsCls K mg CK fIk fOr fOf fOw) (GO:FnOk P w K mg base CX 2 fOf fdO ["self", "name"] (spOf CK)) (bO:Binds K fdO ["self", "name"] []) (DV:Def K mg "value_in" sValueIn ["kind", "state", "field"] fv fdv) (GV:FnOk P w K mg base CX 2 fv fdv ["kind", "state", "field"] (spValIn C)) (DP:Def K mg "place_of" sPlaceOf ["kind", "field"] fp fdp) (GP:FnOk P w K mg base CX 1 fp fdp ["kind", "field"] (spPlace C)) (FAl:Fun K "holds" "Always.holds" sAlH A.hAl dAl) (bAl:Binds K dAl ["self", "kinds", "situation"] []) (FWa:Fun K "holds" "Wanted.holds" sWaH A.hWa dWa) (bWa:Binds K dWa ["self", "kinds", "situation"] []) (FIs:Fun K "holds" "Is.holds" sIsH A.hIs dIs) (bIs:Binds K dIs ["self", "kinds", "situation"] []) (FMe:Fun K "holds" "Meets.holds" sMeH A.hMe dMe) (bMe:Binds K dMe ["self", "kinds", "situation"] []) (FOw:Fun K "holds" "Owner.holds" sOwH A.hOw dOw) (bOw:Binds K dOw ["self", "kinds", "situation"] []) (FNo:Fun K "holds" "Not.holds" sNoH A.hNo dNo) (bNo:Binds K dNo ["self", "kinds", "situation"] []) (FBo:Fun K "holds" "Both.holds" sBoH A.hBo dBo) (bBo:Binds K dBo ["self", "kinds", "situation"] []) (FEi:Fun K "holds" "Either.holds" sEiH A.hEi dEi) (bEi:Binds K dEi ["self", "kinds", "situation"] []):Hld P w K mg base CX A CK C:=by
 have cAl:=(N.all A.al (by unfold IsCond;simp)).cl;have cWa:=(N.all A.wa (by unfold IsCond;simp)).cl;have cIs:=(N.all A.is_ (by unfold IsCond;simp)).cl;have cMe:=(N.all A.me (by unfold IsCond;simp)).cl;have cOw:=(N.all A.ow (by unfold IsCond;simp)).cl;have cNo:=(N.all A.no (by unfold IsCond;simp)).cl;have cBo:=(N.all A.bo (by unfold IsCond;simp)).cl;have cEi:=(N.all A.ei (by unfold IsCond;simp)).cl;refine ⟨fun d X z=>?_,fun d IH X z=>?_,fun X z=>?_⟩
 ·rcases z with rfl | rfl | rfl | rfl | rfl
  ·exact ⟨⟨_,_,cAl,N.mAl,(ok_hAl N FAl).mono (by decide),bAl⟩⟩
  ·exact ⟨⟨_,_,cWa,N.mWa,(ok_hWa N FWa).mono (by decide),bWa⟩⟩
  ·exact ⟨⟨_,_,cIs,N.mIs,ok_hIs (fI:=fI) hC N KS FIs GO bO DV GV,bIs⟩⟩
  ·exact ⟨⟨_,_,cMe,N.mMe,ok_hMe (fI:=fI) hC N KS FMe GO bO DV GV DP GP,bMe⟩⟩
  ·exact ⟨⟨_,_,cOw,N.mOw,ok_hOw hC N KC KS FOw GO bO DV GV,bOw⟩⟩
 ·rcases z with rfl | rfl | rfl
  ·exact ⟨⟨_,_,cNo,N.mNo,ok_hNo hC N FNo IH,bNo⟩⟩
  ·exact ⟨⟨_,_,cBo,N.mBo,ok_hBo hC T N FBo IH,bBo⟩⟩
  ·exact ⟨⟨_,_,cEi,N.mEi,ok_hEi hC T N FEi IH,bEi⟩⟩
 ·rcases z with rfl | rfl | rfl
  ·exact ⟨_,_,cNo,N.mNo,bNo⟩
  ·exact ⟨_,_,cBo,N.mBo,bBo⟩
  ·exact ⟨_,_,cEi,N.mEi,bEi⟩
end
end L2.W
namespace L2.W
open PySem My
section
variable {P:Program}{w:World}{K:PySem.W.Frag}{mg:Str→Option Value}{base:Heap}{CX:CXT}
theorem cng_mk {B:CB} (hn:PySem.W.specialIn K (.builtin "object.__class__") "__get__" = some (some (.builtin "getset_descriptor.__get__"))) (htk:PySem.W.takesIn K (.builtin "object.__class__")=some true) (g:mg "Change" = some (.ref B.ch)) (gTm:mg "ToMake" = some (.ref B.tm)) (gTs:mg "ToSet" = some (.ref B.ts)) (gTt:mg "ToTake" = some (.ref B.tt)) (gRu:mg "Rule" = some (.ref B.ru))
  (ck:ckAll K B.ch [(B.tm,["fields"]),(B.ts,["field", "value"]),(B.tt,[])]=true) (nTt:PySem.W.findIn K (.ref B.tt) "__init__" = some (some (.builtin "object.__init__"))) (nd:[B.tm,B.ts,B.tt].Nodup) (iTm:PySem.W.findIn K (.ref B.tm) "__init__" = some (some (.ref B.fTm))) (jTm:PySem.W.isFn K (.ref B.fTm)=true) (iTs:PySem.W.findIn K (.ref B.ts) "__init__" = some (some (.ref B.fTs))) (jTs:PySem.W.isFn K (.ref B.fTs)=true)
  (pTm:Meth K B.tm "is_possible" B.pTm) (oTm:Meth K B.tm "outcome" B.oTm) (pTs:Meth K B.ts "is_possible" B.pTs) (oTs:Meth K B.ts "outcome" B.oTs) (aTs:Meth K B.ts "aim" B.aTs) (pTt:Meth K B.tt "is_possible" B.pTt) (oTt:Meth K B.tt "outcome" B.oTt) (rcl:Cls K B.ru) (kRu:Mk K B.ru B.fRu) (n1:NoAttr K B.ru "kind") (n2:NoAttr K B.ru "change") (n3:NoAttr K B.ru "condition") (n4:NoAttr K B.ru "behind"):Cng K mg B:=by
 have k1:CkO K B.ch B.tm ["fields"]:=zCq hn htk ck (.head _);have k2:CkO K B.ch B.ts ["field", "value"]:=zCq hn htk ck (.tail _ (.head _));have k3:CkO K B.ch B.tt []:=zCq hn htk ck (.tail _ (.tail _ (.head _)))
 exact ⟨(fun C h=>by
  unfold IsChg at h;rcases h with rfl | rfl | rfl
  ·exact k1.c
  ·exact k2.c
  ·exact k3.c),g,gTm,⟨k1.ms,iTm,jTm,k1.kp⟩,gTs,⟨k2.ms,iTs,jTs,k2.kp⟩,gTt,⟨k3.ms,nTt,k3.kp⟩,nd,k1.no _ (.head _),k2.no _ (.head _),k2.no _ (.tail _ (.head _)),pTm,oTm,pTs,oTs,aTs,pTt,oTt,rcl,gRu,kRu,n1,n2,n3,n4⟩
theorem chg_all {B:CB}{d1 d2 d3:FuncData}{m:Str}{f1 f2 f3:Addr}{sp:Addr→Sp} (N:Cng K mg B) (m1:Meth K B.tm m f1) (m2:Meth K B.ts m f2) (m3:Meth K B.tt m f3) (G1:FnOk P w K mg base CX 4 f1 d1 ["self", "kind", "situation"] (sp B.tm)) (b1:Binds K d1 ["self", "kind", "situation"] []) (G2:FnOk P w K mg base CX 4 f2 d2 ["self", "kind", "situation"] (sp B.ts)) (b2:Binds K d2 ["self", "kind", "situation"] []) (G3:FnOk P w K mg base CX 4 f3 d3 ["self", "kind", "situation"] (sp B.tt)) (b3:Binds K d3 ["self", "kind", "situation"] []):∀ X,IsChg B X→Disp P w K mg base CX 4 m ["self", "kind", "situation"] (sp X) X:=fun X h=>by
 have c:=(N.all X h).cl;unfold IsChg at h;rcases h with rfl | rfl | rfl
 ·exact ⟨⟨_,_,c,m1,G1,b1⟩⟩
 ·exact ⟨⟨_,_,c,m2,G2,b2⟩⟩
 ·exact ⟨⟨_,_,c,m3,G3,b3⟩⟩
end
end L2.W
namespace L2.W
open PySem My
theorem len1 {α : Type}{us:List α} (h:us.length=1):∃ a,us=[a]:=List.length_eq_one_iff.mp h
theorem len2 {α : Type}{us:List α} (h:us.length=2):∃ a0 a1,us=[a0,a1]:=by
 cases us with
 | nil=>cases h
 | cons a0 r=>obtain ⟨a1,rfl⟩:=len1 (show r.length=1 from Nat.succ.inj h);exact ⟨a0,a1,rfl⟩
theorem len3 {α : Type}{us:List α} (h:us.length=3):∃ a0 a1 a2,us=[a0,a1,a2]:=by
 cases us with
 | nil=>cases h
 | cons a0 r=>obtain ⟨a1,a2,rfl⟩:=len2 (show r.length=2 from Nat.succ.inj h);exact ⟨a0,a1,a2,rfl⟩
theorem len4 {α : Type}{us:List α} (h:us.length=4):∃ a0 a1 a2 a3,us=[a0,a1,a2,a3]:=by
 cases us with
 | nil=>cases h
 | cons a0 r=>obtain ⟨a1,a2,a3,rfl⟩:=len3 (show r.length=3 from Nat.succ.inj h);exact ⟨a0,a1,a2,a3,rfl⟩
theorem len5 {α : Type}{us:List α} (h:us.length=5):∃ a0 a1 a2 a3 a4,us=[a0,a1,a2,a3,a4]:=by
 cases us with
 | nil=>cases h
 | cons a0 r=>obtain ⟨a1,a2,a3,a4,rfl⟩:=len4 (show r.length=4 from Nat.succ.inj h);exact ⟨a0,a1,a2,a3,a4,rfl⟩
structure DL (K:PySem.W.Frag) (x:Str) (st:Stmt) (f:Addr) (fd:FuncData):Prop where
 a:PySem.W.nsIn K mainGlobals x=some (some (.ref f))
 F:Fun K x x st f fd
structure ML (K:PySem.W.Frag) (C:Addr) (x q:Str) (st:Stmt) (f:Addr) (fd:FuncData):Prop where
 a:PySem.W.findIn K (.ref C) x=some (some (.ref f))
 i:PySem.W.isFn K (.ref f)=true
 F:Fun K x q st f fd
theorem mkD {K:PySem.W.Frag}{h:Heap}{mg:Str→Option Value}{x:Str}{st:Stmt}{f:Addr}{fd:FuncData}{ps:List Str} (X:K.In h) (G:h.Ns mainGlobals mg) (D:DL K x st f fd) (hb:∀ (kV doc pm:Value) (an:Option Addr) (cdv ct:Value) (us:List Value),us.length=ps.length→bindArgs (PySem.W.fnOf x x (defArgs st) (defBody st) (defScope st) .none kV doc pm an cdv ct) ⟨us,[]⟩=pure (ps.zip us)):Def K mg x st ps f fd:=⟨D.F,PySem.W.mg_of X G D.a,D.F.binds hb⟩
theorem zBb {K:PySem.W.Frag}{x:Str}{st:Stmt}{f:Addr}{oc:Value}{od an:Option Addr}{osl:Array (Option Value)}{kV doc pm cdv ct:Value} (a:PySem.W.nsIn K mainGlobals x=some (some (.ref f))) (l:K.lookup f=some ⟨oc,od,.func (PySem.W.fnOf x x (defArgs st) (defBody st) (defScope st) .none kV doc pm an cdv ct),osl⟩)
  (c:PySem.W.codeIn K cdv x=true) (k:PySem.W.keepIn K (.ref f)=true):DL K x st f (PySem.W.fnOf x x (defArgs st) (defBody st) (defScope st) .none kV doc pm an cdv ct):=⟨a,fun_mk l c k⟩
theorem zBo {K:PySem.W.Frag}{C:Addr}{x q:Str}{st:Stmt}{f:Addr}{oc:Value}{od an:Option Addr}{osl:Array (Option Value)}{kV doc pm cdv ct:Value} (a:PySem.W.findIn K (.ref C) x=some (some (.ref f))) (i:PySem.W.isFn K (.ref f)=true) (l:K.lookup f=some ⟨oc,od,.func (PySem.W.fnOf x q (defArgs st) (defBody st) (defScope st) .none kV doc pm an cdv ct),osl⟩)
  (c:PySem.W.codeIn K cdv q=true) (k:PySem.W.keepIn K (.ref f)=true):ML K C x q st f (PySem.W.fnOf x q (defArgs st) (defBody st) (defScope st) .none kV doc pm an cdv ct):=⟨a,i,fun_mk l c k⟩
set_option maxHeartbeats 0 in
theorem all_mk {l:PySem.W.OpenLaw}{w:World}{K:PySem.W.Frag}{h:Heap}{mg:Str→Option Value}{fx:Addr} (X:K.In h) (G:h.Ns mainGlobals mg) (hfa:mg "law" = some (.ref fx))
  {fN fU fP fF fCt fFi fPl fHv fVi fWv fA fCn fCc fOk fCu fSb fca fm fd fn flk flm fls flf flo fli fpr fle flt flb flv flh fcg fco frl fro faf frt fIk fOf fjIs fjMe fjOw fjNo fjBo fjEi fhAl fhWa fhIs fhMe fhOw fhNo fhBo fhEi fTm fTs fRu fpm fom fps fos fas fpt fot:Addr}{ts:List Addr}{dN dU dP dF dCt dFi dPl dHv dVi dWv dA dCn dCc dOk dCu dSb dca dm dd dn dlk dlm dls dlf dlo dli dpr dle dlt dlb dlv dlh dcg dco drl dro daf drt dIk dOf djIs djMe djOw djNo djBo djEi dhAl dhWa dhIs dhMe dhOw dhNo dhBo dhEi dTm dTs dRu dpm dom dps dos das dpt dot:FuncData}{C CK Qc Qa Qw Qi Qm Qo Qn Qb Qe Ra Rm Rs Rt Rr fI TD c Pt:Addr}{ocI kVI dcI pmI cdI ctI:Value}{odI anI:Option Addr}{slI:Array (Option Value)}{ocT:Value}{odT:Option Addr}{slT:Array (Option Value)}{nT:Nat}{t0 t1 t2 t3:Tok}
  {fp:Addr}{ocp kVp dcp pmp ctp:Value}{odp anp:Option Addr}{slp:Array (Option Value)}
  {fL:Addr}{ocL kVL dcL pmL ctL cdL:Value}{odL anL:Option Addr}{slL:Array (Option Value)}
  (aC:PySem.W.nsIn K mainGlobals "Kind" = some (some (.ref C)))
  (aCK:PySem.W.nsIn K mainGlobals "Kinds" = some (some (.ref CK)))
  (aQc:PySem.W.nsIn K mainGlobals "Condition" = some (some (.ref Qc)))
  (aQa:PySem.W.nsIn K mainGlobals "Always" = some (some (.ref Qa)))
  (aQw:PySem.W.nsIn K mainGlobals "Wanted" = some (some (.ref Qw)))
  (aQi:PySem.W.nsIn K mainGlobals "Is" = some (some (.ref Qi)))
  (aQm:PySem.W.nsIn K mainGlobals "Meets" = some (some (.ref Qm)))
  (aQo:PySem.W.nsIn K mainGlobals "Owner" = some (some (.ref Qo)))
  (aQn:PySem.W.nsIn K mainGlobals "Not" = some (some (.ref Qn)))
  (aQb:PySem.W.nsIn K mainGlobals "Both" = some (some (.ref Qb)))
  (aQe:PySem.W.nsIn K mainGlobals "Either" = some (some (.ref Qe)))
  (aRa:PySem.W.nsIn K mainGlobals "Change" = some (some (.ref Ra)))
  (aRm:PySem.W.nsIn K mainGlobals "ToMake" = some (some (.ref Rm)))
  (aRs:PySem.W.nsIn K mainGlobals "ToSet" = some (some (.ref Rs)))
  (aRt:PySem.W.nsIn K mainGlobals "ToTake" = some (some (.ref Rt)))
  (aRr:PySem.W.nsIn K mainGlobals "Rule" = some (some (.ref Rr)))
  (xN:DL K "is_name" sIsName fN dN)
  (xU:DL K "are_unlike_names" sUnlike fU dU)
  (xP:DL K "is_pair_with_values" sPair fP dP)
  (xF:DL K "are_fields" sFields fF dF)
  (xCt:DL K "count_states" sCount fCt dCt)
  (xFi:DL K "first_state" sFirst fFi dFi)
  (xPl:DL K "place_of" sPlaceOf fPl dPl)
  (xHv:DL K "has_value" sHasVal fHv dHv)
  (xVi:DL K "value_in" sValueIn fVi dVi)
  (xWv:DL K "with_value" sWithVal fWv dWv)
  (xA:DL K "are_kinds" sAreKinds fA dA)
  (xCn:DL K "check_names" sChkNames fCn dCn)
  (xCc:DL K "check_conditions" sChkConds fCc dCc)
  (xOk:DL K "are_other_kinds" sOtherKinds fOk dOk)
  (xCu:DL K "can_be_used" sCanUse fCu dCu)
  (xSb:DL K "state_behind" sBehind fSb dSb)
  (xca:DL K "_law_cell_at" sCellAt fca dca)
  (xm:DL K "_law_mixed" sMixed fm dm)
  (xd:DL K "_law_digits" sDigits fd dd)
  (xn:DL K "_law_next" sNext fn dn)
  (xlk:DL K "_law_kinds" sKinds flk dlk)
  (xlm:DL K "_law_made" sMade flm dlm)
  (xls:DL K "_law_states" sLStates fls dls)
  (xlf:DL K "_law_fields" sLFields flf dlf)
  (xlo:DL K "_law_owner" sOwner flo dlo)
  (xli:DL K "_law_situations" sLSits fli dli)
  (xpr:DL K "_law_pair" sLPair fpr dpr)
  (xle:DL K "_law_leaf" sLeaf fle dle)
  (xlt:DL K "_law_tree" sTree flt dlt)
  (xlb:DL K "_law_object" sObject flb dlb)
  (xlv:DL K "_law_value" sValue flv dlv)
  (xlh:DL K "_law_holds" sHolds flh dlh)
  (xcg:DL K "_law_change" sChange fcg dcg)
  (xco:DL K "_law_change_object" sChangeObject fco dco)
  (xrl:DL K "_law_rule" sRule frl drl)
  (xro:DL K "_law_rule_object" sRuleObject fro dro)
  (xaf:DL K "_law_after" sAfter faf daf)
  (xrt:DL K "_law_right" sRight frt drt)
  (xIk:ML K CK "__init__" "Kinds.__init__" sInitKs fIk dIk)
  (xOf:ML K CK "of" "Kinds.of" sOf fOf dOf)
  (xjIs:ML K Qi "__init__" "Is.__init__" sInitIs fjIs djIs)
  (xjMe:ML K Qm "__init__" "Meets.__init__" sInitMe fjMe djMe)
  (xjOw:ML K Qo "__init__" "Owner.__init__" sInitOw fjOw djOw)
  (xjNo:ML K Qn "__init__" "Not.__init__" sInitNo fjNo djNo)
  (xjBo:ML K Qb "__init__" "Both.__init__" sInitBo fjBo djBo)
  (xjEi:ML K Qe "__init__" "Either.__init__" sInitEi fjEi djEi)
  (xhAl:ML K Qa "holds" "Always.holds" sAlH fhAl dhAl)
  (xhWa:ML K Qw "holds" "Wanted.holds" sWaH fhWa dhWa)
  (xhIs:ML K Qi "holds" "Is.holds" sIsH fhIs dhIs)
  (xhMe:ML K Qm "holds" "Meets.holds" sMeH fhMe dhMe)
  (xhOw:ML K Qo "holds" "Owner.holds" sOwH fhOw dhOw)
  (xhNo:ML K Qn "holds" "Not.holds" sNoH fhNo dhNo)
  (xhBo:ML K Qb "holds" "Both.holds" sBoH fhBo dhBo)
  (xhEi:ML K Qe "holds" "Either.holds" sEiH fhEi dhEi)
  (xTm:ML K Rm "__init__" "ToMake.__init__" sInitTM fTm dTm)
  (xTs:ML K Rs "__init__" "ToSet.__init__" sInitTS fTs dTs)
  (xRu:ML K Rr "__init__" "Rule.__init__" sInitR fRu dRu)
  (xpm:ML K Rm "is_possible" "ToMake.is_possible" sTmP fpm dpm)
  (xom:ML K Rm "outcome" "ToMake.outcome" sTmO fom dom)
  (xps:ML K Rs "is_possible" "ToSet.is_possible" sTsP fps dps)
  (xos:ML K Rs "outcome" "ToSet.outcome" sTsO fos dos)
  (xas:ML K Rs "aim" "ToSet.aim" sTsA fas das)
  (xpt:ML K Rt "is_possible" "ToTake.is_possible" sTtP fpt dpt)
  (xot:ML K Rt "outcome" "ToTake.outcome" sTtO fot dot)
  (xap:PySem.W.nsIn K mainGlobals "placed_by_owners" = some (some (.ref fp))) (xlp:K.lookup fp=some ⟨ocp,odp,.func (PySem.W.fnOf "placed_by_owners" "placed_by_owners" (defArgs sPlaced) (defBody sPlaced) (defScope sPlaced) .none kVp dcp pmp anp (.ref c) ctp),slp⟩) (xcp:PySem.W.codeIn K (.ref c) "placed_by_owners" = true) (xkp:PySem.W.keepIn K (.ref fp)=true)
  (xaL:PySem.W.nsIn K mainGlobals "law" = some (some (.ref fL))) (xlL:K.lookup fL=some ⟨ocL,odL,.func (PySem.W.fnOf "law" "law" (defArgs sLaw) (defBody sLaw) (defScope sLaw) .none kVL dcL pmL anL cdL ctL),slL⟩) (xcL:PySem.W.codeIn K cdL "law" = true) (xkL:PySem.W.keepIn K (.ref fL)=true)
  (aI:PySem.W.findIn K (.ref C) "__init__" = some (some (.ref fI))) (iI:PySem.W.isFn K (.ref fI)=true)
  (lI:K.lookup fI=some ⟨ocI,odI,.func (PySem.W.fnOf "__init__" "Kind.__init__" (defArgs sInit) (defBody sInit) (defScope sInit) (.ref TD) kVI dcI pmI anI cdI ctI),slI⟩) (cI:PySem.W.codeIn K cdI "Kind.__init__" = true)
  (lT:K.lookup TD=some ⟨ocT,odT,.seq #[.none] nT,slT⟩)
  (kpg:PySem.W.plainGet K C Str.empty=true) (khd:PySem.W.hasDictIn K C=true) (kpo:PySem.W.plainOver K C=true) (ksa:PySem.W.findIn K (.ref C) "__setattr__" = some (some (.builtin "object.__setattr__"))) (kmk:PySem.W.makesIn K C=true) (kkc:PySem.W.keepIn K (.ref C)=true) (kno0:PySem.W.findIn K (.ref C) "name" = some none) (kno1:PySem.W.findIn K (.ref C) "fields" = some none) (kno2:PySem.W.findIn K (.ref C) "owner" = some none)
  (gpg:PySem.W.plainGet K CK Str.empty=true) (ghd:PySem.W.hasDictIn K CK=true) (gpo:PySem.W.plainOver K CK=true) (gsa:PySem.W.findIn K (.ref CK) "__setattr__" = some (some (.builtin "object.__setattr__"))) (gmk:PySem.W.makesIn K CK=true) (gkc:PySem.W.keepIn K (.ref CK)=true) (gno0:PySem.W.findIn K (.ref CK) "by_name" = some none)
  (rpg:PySem.W.plainGet K Rr Str.empty=true) (rhd:PySem.W.hasDictIn K Rr=true) (rpo:PySem.W.plainOver K Rr=true) (rsa:PySem.W.findIn K (.ref Rr) "__setattr__" = some (some (.builtin "object.__setattr__"))) (rmk:PySem.W.makesIn K Rr=true) (rkc:PySem.W.keepIn K (.ref Rr)=true) (rno0:PySem.W.findIn K (.ref Rr) "kind" = some none) (rno1:PySem.W.findIn K (.ref Rr) "change" = some none) (rno2:PySem.W.findIn K (.ref Rr) "condition" = some none) (rno3:PySem.W.findIn K (.ref Rr) "behind" = some none)
  (hn:PySem.W.specialIn K (.builtin "object.__class__") "__get__" = some (some (.builtin "getset_descriptor.__get__"))) (htk:PySem.W.takesIn K (.builtin "object.__class__")=some true)
  (iha:PySem.W.findIn K (.ref C) "__class__" = some (some (.builtin "object.__class__"))) (ihm:PySem.W.mroIn K C (.type "object")=some true) (ihki:PySem.W.kitOne K (.ref C) (.ref C)=some true)
  (hts:ts=[Pt])
  (hcdp:PySem.W.codeHdIn K c Pt=true) (houtp:K.lookup Pt=none)
  (c0:PySem.W.nsIn K mainGlobals "LETTERS" = some (some (.str letters t0)))
  (c1:PySem.W.nsIn K mainGlobals "MOST_LETTERS" = some (some (.int 8 t1)))
  (c2:PySem.W.nsIn K mainGlobals "MOST_STATES" = some (some (.int 8 t2)))
  (c3:PySem.W.nsIn K mainGlobals "LEAST_CONDITIONS" = some (some (.int 2 t3)))
  (qck:ckAll K Qc [(Qa,[]),(Qw,[]),(Qi,["field", "value"]),(Qm,["field"]),(Qo,["field", "value"]),(Qn,["condition"]),(Qb,["conditions"]),(Qe,["conditions"])]=true)
  (qnd:[Qa,Qw,Qi,Qm,Qo,Qn,Qb,Qe].Nodup)
  (qnAl:PySem.W.findIn K (.ref Qa) "__init__" = some (some (.builtin "object.__init__")))
  (qnWa:PySem.W.findIn K (.ref Qw) "__init__" = some (some (.builtin "object.__init__")))
  (rck:ckAll K Ra [(Rm,["fields"]),(Rs,["field", "value"]),(Rt,[])]=true)
  (rnd:[Rm,Rs,Rt].Nodup)
  (rnT:PySem.W.findIn K (.ref Rt) "__init__" = some (some (.builtin "object.__init__")))
  (z_isinstance:PySem.W.nsIn K mainGlobals "isinstance" = some none)
  (z_len:PySem.W.nsIn K mainGlobals "len" = some none)
  (z_all:PySem.W.nsIn K mainGlobals "all" = some none)
  (z_set:PySem.W.nsIn K mainGlobals "set" = some none)
  (z_range:PySem.W.nsIn K mainGlobals "range" = some none)
  (z_str:PySem.W.nsIn K mainGlobals "str" = some none)
  (z_list:PySem.W.nsIn K mainGlobals "list" = some none)
  (z_tuple:PySem.W.nsIn K mainGlobals "tuple" = some none)
  (z_zip:PySem.W.nsIn K mainGlobals "zip" = some none)
  (z_dict:PySem.W.nsIn K mainGlobals "dict" = some none)
  (z_min:PySem.W.nsIn K mainGlobals "min" = some none)
  (z_enumerate:PySem.W.nsIn K mainGlobals "enumerate" = some none)
  (z_int:PySem.W.nsIn K mainGlobals "int" = some none)
  (z_bool:PySem.W.nsIn K mainGlobals "bool" = some none)
  (z_any:PySem.W.nsIn K mainGlobals "any" = some none) :
  ∃ fd:FuncData,(∀ (s:Shared) (v:Value),BindsTo s fd ⟨[v],[]⟩ [("_law_script",v)])∧(∀ T∈ts,(K).lookup T=none∧∃ c,PySem.W.codeHdIn (K) c T=true)∧∃ Pt:Addr,Pt∈ts∧∀ base:Heap,(K).In base→base.Ns mainGlobals mg→BltAt mg base→FnOk l.prog w (K) mg base CX0 10 fx fd ["_law_script"] (spLaw33 K Pt):=by
 have e:=hfa.symm.trans (PySem.W.mg_of X G xaL);cases e;have T:Tops K mg:=⟨PySem.W.mg_none_of X G z_isinstance,PySem.W.mg_none_of X G z_len,PySem.W.mg_none_of X G z_all,PySem.W.mg_none_of X G z_set,PySem.W.mg_none_of X G z_range,PySem.W.mg_none_of X G z_str,PySem.W.mg_none_of X G z_list,PySem.W.mg_none_of X G z_tuple,PySem.W.mg_none_of X G z_zip,PySem.W.mg_none_of X G z_dict,PySem.W.mg_none_of X G z_min,PySem.W.mg_none_of X G z_enumerate,PySem.W.mg_none_of X G z_int,PySem.W.mg_none_of X G z_bool,PySem.W.mg_none_of X G z_any,⟨_,PySem.W.mg_of X G c0⟩,⟨_,PySem.W.mg_of X G c1⟩,⟨_,PySem.W.mg_of X G c2⟩,⟨_,PySem.W.mg_of X G c3⟩⟩;have DN:=mkD X G xN (ps:=["thing"]) fun _ _ _ _ _ _ us hl=>by obtain ⟨z0,rfl⟩:=len1 hl;rfl
 have DU:=mkD X G xU (ps:=["things"]) fun _ _ _ _ _ _ us hl=>by obtain ⟨z0,rfl⟩:=len1 hl;rfl
 have DP:=mkD X G xP (ps:=["thing"]) fun _ _ _ _ _ _ us hl=>by obtain ⟨z0,rfl⟩:=len1 hl;rfl
 have DF:=mkD X G xF (ps:=["things"]) fun _ _ _ _ _ _ us hl=>by obtain ⟨z0,rfl⟩:=len1 hl;rfl
 have DCt:=mkD X G xCt (ps:=["fields"]) fun _ _ _ _ _ _ us hl=>by obtain ⟨z0,rfl⟩:=len1 hl;rfl
 have DFi:=mkD X G xFi (ps:=["kind"]) fun _ _ _ _ _ _ us hl=>by obtain ⟨z0,rfl⟩:=len1 hl;rfl
 have DPl:=mkD X G xPl (ps:=["kind", "field"]) fun _ _ _ _ _ _ us hl=>by obtain ⟨z0,z1,rfl⟩:=len2 hl;rfl
 have DHv:=mkD X G xHv (ps:=["kind", "field", "value"]) fun _ _ _ _ _ _ us hl=>by obtain ⟨z0,z1,z2,rfl⟩:=len3 hl;rfl
 have DVi:=mkD X G xVi (ps:=["kind", "state", "field"]) fun _ _ _ _ _ _ us hl=>by obtain ⟨z0,z1,z2,rfl⟩:=len3 hl;rfl
 have DWv:=mkD X G xWv (ps:=["kind", "state", "field", "value"]) fun _ _ _ _ _ _ us hl=>by obtain ⟨z0,z1,z2,z3,rfl⟩:=len4 hl;rfl
 have DA:=mkD X G xA (ps:=["things"]) fun _ _ _ _ _ _ us hl=>by obtain ⟨z0,rfl⟩:=len1 hl;rfl
 have DCn:=mkD X G xCn (ps:=["things"]) fun _ _ _ _ _ _ us hl=>by obtain ⟨z0,rfl⟩:=len1 hl;rfl
 have DCc:=mkD X G xCc (ps:=["things"]) fun _ _ _ _ _ _ us hl=>by obtain ⟨z0,rfl⟩:=len1 hl;rfl
 have DOk:=mkD X G xOk (ps:=["kind", "things"]) fun _ _ _ _ _ _ us hl=>by obtain ⟨z0,z1,rfl⟩:=len2 hl;rfl
 have DCu:=mkD X G xCu (ps:=["kinds", "rule", "situation"]) fun _ _ _ _ _ _ us hl=>by obtain ⟨z0,z1,z2,rfl⟩:=len3 hl;rfl
 have DSb:=mkD X G xSb (ps:=["kinds", "rule", "situation"]) fun _ _ _ _ _ _ us hl=>by obtain ⟨z0,z1,z2,rfl⟩:=len3 hl;rfl
 have Dca:=mkD X G xca (ps:=["_law_script", "_law_k"]) fun _ _ _ _ _ _ us hl=>by obtain ⟨z0,z1,rfl⟩:=len2 hl;rfl
 have Dm:=mkD X G xm (ps:=["_law_cell", "_law_k"]) fun _ _ _ _ _ _ us hl=>by obtain ⟨z0,z1,rfl⟩:=len2 hl;rfl
 have Dd:=mkD X G xd (ps:=["_law_cell"]) fun _ _ _ _ _ _ us hl=>by obtain ⟨z0,rfl⟩:=len1 hl;rfl
 have Dn:=mkD X G xn (ps:=["_law_source", "_law_many"]) fun _ _ _ _ _ _ us hl=>by obtain ⟨z0,z1,rfl⟩:=len2 hl;rfl
 have Dlk:=mkD X G xlk (ps:=["_law_source"]) fun _ _ _ _ _ _ us hl=>by obtain ⟨z0,rfl⟩:=len1 hl;rfl
 have Dlm:=mkD X G xlm (ps:=["_law_spec"]) fun _ _ _ _ _ _ us hl=>by obtain ⟨z0,rfl⟩:=len1 hl;rfl
 have Dls:=mkD X G xls (ps:=["_law_fields_here"]) fun _ _ _ _ _ _ us hl=>by obtain ⟨z0,rfl⟩:=len1 hl;rfl
 have Dlf:=mkD X G xlf (ps:=["_law_spec", "_law_kind"]) fun _ _ _ _ _ _ us hl=>by obtain ⟨z0,z1,rfl⟩:=len2 hl;rfl
 have Dlo:=mkD X G xlo (ps:=["_law_spec", "_law_kind"]) fun _ _ _ _ _ _ us hl=>by obtain ⟨z0,z1,rfl⟩:=len2 hl;rfl
 have Dli:=mkD X G xli (ps:=["_law_spec", "_law_kind"]) fun _ _ _ _ _ _ us hl=>by obtain ⟨z0,z1,rfl⟩:=len2 hl;rfl
 have Dpr:=mkD X G xpr (ps:=["_law_source", "_law_fields_here", "_law_strange"]) fun _ _ _ _ _ _ us hl=>by obtain ⟨z0,z1,z2,rfl⟩:=len3 hl;rfl
 have Dle:=mkD X G xle (ps:=["_law_source", "_law_fields_here", "_law_owners", "_law_strange"]) fun _ _ _ _ _ _ us hl=>by obtain ⟨z0,z1,z2,z3,rfl⟩:=len4 hl;rfl
 have Dlt:=mkD X G xlt (ps:=["_law_source", "_law_fields_here", "_law_owners", "_law_strange", "_law_deep"]) fun _ _ _ _ _ _ us hl=>by obtain ⟨z0,z1,z2,z3,z4,rfl⟩:=len5 hl;rfl
 have Dlb:=mkD X G xlb (ps:=["_law_tree_here"]) fun _ _ _ _ _ _ us hl=>by obtain ⟨z0,rfl⟩:=len1 hl;rfl
 have Dlv:=mkD X G xlv (ps:=["_law_fields_here", "_law_state", "_law_field"]) fun _ _ _ _ _ _ us hl=>by obtain ⟨z0,z1,z2,rfl⟩:=len3 hl;rfl
 have Dlh:=mkD X G xlh (ps:=["_law_tree_here", "_law_spec", "_law_situation"]) fun _ _ _ _ _ _ us hl=>by obtain ⟨z0,z1,z2,rfl⟩:=len3 hl;rfl
 have Dcg:=mkD X G xcg (ps:=["_law_source", "_law_fields_here", "_law_strange"]) fun _ _ _ _ _ _ us hl=>by obtain ⟨z0,z1,z2,rfl⟩:=len3 hl;rfl
 have Dco:=mkD X G xco (ps:=["_law_change_here"]) fun _ _ _ _ _ _ us hl=>by obtain ⟨z0,rfl⟩:=len1 hl;rfl
 have Drl:=mkD X G xrl (ps:=["_law_source", "_law_spec", "_law_strange"]) fun _ _ _ _ _ _ us hl=>by obtain ⟨z0,z1,z2,rfl⟩:=len3 hl;rfl
 have Dro:=mkD X G xro (ps:=["_law_rule_here"]) fun _ _ _ _ _ _ us hl=>by obtain ⟨z0,rfl⟩:=len1 hl;rfl
 have Daf:=mkD X G xaf (ps:=["_law_rule_here", "_law_spec", "_law_situation"]) fun _ _ _ _ _ _ us hl=>by obtain ⟨z0,z1,z2,rfl⟩:=len3 hl;rfl
 have Drt:=mkD X G xrt (ps:=["_law_kinds_here", "_law_made_here", "_law_rule_here", "_law_spec", "_law_situation"]) fun _ _ _ _ _ _ us hl=>by obtain ⟨z0,z1,z2,z3,z4,rfl⟩:=len5 hl;rfl
 obtain ⟨xaIk,xiIk,FIk⟩:=xIk;have bIk:=FIk.binds (ps:=["self", "kinds"]) fun _ _ _ _ _ _ us hl=>by obtain ⟨z0,z1,rfl⟩:=len2 hl;rfl
 obtain ⟨xaOf,xiOf,FOf⟩:=xOf;have bOf:=FOf.binds (ps:=["self", "name"]) fun _ _ _ _ _ _ us hl=>by obtain ⟨z0,z1,rfl⟩:=len2 hl;rfl
 obtain ⟨xajIs,xijIs,FjIs⟩:=xjIs;have bjIs:=FjIs.binds (ps:=["self", "field", "value"]) fun _ _ _ _ _ _ us hl=>by obtain ⟨z0,z1,z2,rfl⟩:=len3 hl;rfl
 obtain ⟨xajMe,xijMe,FjMe⟩:=xjMe;have bjMe:=FjMe.binds (ps:=["self", "field"]) fun _ _ _ _ _ _ us hl=>by obtain ⟨z0,z1,rfl⟩:=len2 hl;rfl
 obtain ⟨xajOw,xijOw,FjOw⟩:=xjOw;have bjOw:=FjOw.binds (ps:=["self", "field", "value"]) fun _ _ _ _ _ _ us hl=>by obtain ⟨z0,z1,z2,rfl⟩:=len3 hl;rfl
 obtain ⟨xajNo,xijNo,FjNo⟩:=xjNo;have bjNo:=FjNo.binds (ps:=["self", "condition"]) fun _ _ _ _ _ _ us hl=>by obtain ⟨z0,z1,rfl⟩:=len2 hl;rfl
 obtain ⟨xajBo,xijBo,FjBo⟩:=xjBo;have bjBo:=FjBo.binds (ps:=["self", "conditions"]) fun _ _ _ _ _ _ us hl=>by obtain ⟨z0,z1,rfl⟩:=len2 hl;rfl
 obtain ⟨xajEi,xijEi,FjEi⟩:=xjEi;have bjEi:=FjEi.binds (ps:=["self", "conditions"]) fun _ _ _ _ _ _ us hl=>by obtain ⟨z0,z1,rfl⟩:=len2 hl;rfl
 obtain ⟨xahAl,xihAl,FhAl⟩:=xhAl;have bhAl:=FhAl.binds (ps:=["self", "kinds", "situation"]) fun _ _ _ _ _ _ us hl=>by obtain ⟨z0,z1,z2,rfl⟩:=len3 hl;rfl
 obtain ⟨xahWa,xihWa,FhWa⟩:=xhWa;have bhWa:=FhWa.binds (ps:=["self", "kinds", "situation"]) fun _ _ _ _ _ _ us hl=>by obtain ⟨z0,z1,z2,rfl⟩:=len3 hl;rfl
 obtain ⟨xahIs,xihIs,FhIs⟩:=xhIs;have bhIs:=FhIs.binds (ps:=["self", "kinds", "situation"]) fun _ _ _ _ _ _ us hl=>by obtain ⟨z0,z1,z2,rfl⟩:=len3 hl;rfl
 obtain ⟨xahMe,xihMe,FhMe⟩:=xhMe;have bhMe:=FhMe.binds (ps:=["self", "kinds", "situation"]) fun _ _ _ _ _ _ us hl=>by obtain ⟨z0,z1,z2,rfl⟩:=len3 hl;rfl
 obtain ⟨xahOw,xihOw,FhOw⟩:=xhOw;have bhOw:=FhOw.binds (ps:=["self", "kinds", "situation"]) fun _ _ _ _ _ _ us hl=>by obtain ⟨z0,z1,z2,rfl⟩:=len3 hl;rfl
 obtain ⟨xahNo,xihNo,FhNo⟩:=xhNo;have bhNo:=FhNo.binds (ps:=["self", "kinds", "situation"]) fun _ _ _ _ _ _ us hl=>by obtain ⟨z0,z1,z2,rfl⟩:=len3 hl;rfl
 obtain ⟨xahBo,xihBo,FhBo⟩:=xhBo;have bhBo:=FhBo.binds (ps:=["self", "kinds", "situation"]) fun _ _ _ _ _ _ us hl=>by obtain ⟨z0,z1,z2,rfl⟩:=len3 hl;rfl
 obtain ⟨xahEi,xihEi,FhEi⟩:=xhEi;have bhEi:=FhEi.binds (ps:=["self", "kinds", "situation"]) fun _ _ _ _ _ _ us hl=>by obtain ⟨z0,z1,z2,rfl⟩:=len3 hl;rfl
 obtain ⟨xaTm,xiTm,FTm⟩:=xTm;have bTm:=FTm.binds (ps:=["self", "fields"]) fun _ _ _ _ _ _ us hl=>by obtain ⟨z0,z1,rfl⟩:=len2 hl;rfl
 obtain ⟨xaTs,xiTs,FTs⟩:=xTs;have bTs:=FTs.binds (ps:=["self", "field", "value"]) fun _ _ _ _ _ _ us hl=>by obtain ⟨z0,z1,z2,rfl⟩:=len3 hl;rfl
 obtain ⟨xaRu,xiRu,FRu⟩:=xRu;have bRu:=FRu.binds (ps:=["self", "kind", "change", "condition", "behind"]) fun _ _ _ _ _ _ us hl=>by obtain ⟨z0,z1,z2,z3,z4,rfl⟩:=len5 hl;rfl
 obtain ⟨xapm,xipm,Fpm⟩:=xpm;have bpm:=Fpm.binds (ps:=["self", "kind", "situation"]) fun _ _ _ _ _ _ us hl=>by obtain ⟨z0,z1,z2,rfl⟩:=len3 hl;rfl
 obtain ⟨xaom,xiom,Fom⟩:=xom;have bom:=Fom.binds (ps:=["self", "kind", "situation"]) fun _ _ _ _ _ _ us hl=>by obtain ⟨z0,z1,z2,rfl⟩:=len3 hl;rfl
 obtain ⟨xaps,xips,Fps⟩:=xps;have bps:=Fps.binds (ps:=["self", "kind", "situation"]) fun _ _ _ _ _ _ us hl=>by obtain ⟨z0,z1,z2,rfl⟩:=len3 hl;rfl
 obtain ⟨xaos,xios,Fos⟩:=xos;have bos:=Fos.binds (ps:=["self", "kind", "situation"]) fun _ _ _ _ _ _ us hl=>by obtain ⟨z0,z1,z2,rfl⟩:=len3 hl;rfl
 obtain ⟨xaas,xias,Fas⟩:=xas;have bas:=Fas.binds (ps:=["self", "kind", "situation"]) fun _ _ _ _ _ _ us hl=>by obtain ⟨z0,z1,z2,rfl⟩:=len3 hl;rfl
 obtain ⟨xapt,xipt,Fpt⟩:=xpt;have bpt:=Fpt.binds (ps:=["self", "kind", "situation"]) fun _ _ _ _ _ _ us hl=>by obtain ⟨z0,z1,z2,rfl⟩:=len3 hl;rfl
 obtain ⟨xaot,xiot,Fot⟩:=xot;have bot:=Fot.binds (ps:=["self", "kind", "situation"]) fun _ _ _ _ _ _ us hl=>by obtain ⟨z0,z1,z2,rfl⟩:=len3 hl;rfl
 have Fp:FunL K "placed_by_owners" "placed_by_owners" sPlaced fp _ c:=⟨⟨ocp,odp,kVp,dcp,pmp,anp,ctp,slp,rfl,xlp,xcp⟩,xkp⟩;have bp:=Fp.fn.binds (ps:=["kinds"]) fun _ _ _ _ _ _ us hl=>by obtain ⟨z0,rfl⟩:=len1 hl;rfl
 have FL:=fun_mk (st:=sLaw) xlL xcL xkL;have FI:FunD K "__init__" "Kind.__init__" sInit (.ref TD) fI _:=⟨⟨ocI,odI,kVI,dcI,pmI,anI,cdI,ctI,slI,rfl,lI,cI⟩⟩;have bK:Binds K (PySem.W.fnOf "__init__" "Kind.__init__" (defArgs sInit) (defBody sInit) (defScope sInit) (.ref TD) kVI dcI pmI anI cdI ctI) ["self", "name", "fields", "owner"] []:=by
  intro s us hK hl;rw [List.append_nil] at hl ⊢;obtain ⟨a,n,f,o,rfl⟩:=len4 hl;exact PySem.W.binds_K hK rfl lT rfl (by rfl) (by rfl)
 have KC:KCls K mg C fI:=⟨⟨kpg,khd,kpo,ksa⟩,kno0,kno1,kno2,PySem.W.mg_of X G aC,⟨kmk,aI,iI,kkc⟩⟩;have KS:KsCls K mg CK fIk fOf fOf fOf:=⟨⟨gpg,ghd,gpo,gsa⟩,gno0,PySem.W.mg_of X G aCK,⟨gmk,xaIk,xiIk,gkc⟩,⟨xaOf,xiOf,FOf.kp⟩⟩;have Nc:Cnd K mg (⟨Qc,Qa,Qw,Qi,Qm,Qo,Qn,Qb,Qe,fjIs,fjMe,fjOw,fjNo,fjBo,fjEi,fhAl,fhWa,fhIs,fhMe,fhOw,fhNo,fhBo,fhEi⟩:CA):=cnd_mk hn htk (PySem.W.mg_of X G aQc) (PySem.W.mg_of X G aQa) (PySem.W.mg_of X G aQw) (PySem.W.mg_of X G aQi) (PySem.W.mg_of X G aQm) (PySem.W.mg_of X G aQo) (PySem.W.mg_of X G aQn) (PySem.W.mg_of X G aQb) (PySem.W.mg_of X G aQe) qck qnAl qnWa qnd xajIs xijIs xajMe xijMe xajOw xijOw xajNo xijNo xajBo xijBo xajEi xijEi ⟨xahAl,xihAl,FhAl.kp⟩ ⟨xahWa,xihWa,FhWa.kp⟩ ⟨xahIs,xihIs,FhIs.kp⟩ ⟨xahMe,xihMe,FhMe.kp⟩ ⟨xahOw,xihOw,FhOw.kp⟩ ⟨xahNo,xihNo,FhNo.kp⟩ ⟨xahBo,xihBo,FhBo.kp⟩ ⟨xahEi,xihEi,FhEi.kp⟩;have Ng:Cng K mg (⟨Ra,Rm,Rs,Rt,Rr,fTm,fTs,fRu,fpm,fps,fpt,fom,fos,fot,fas⟩:CB):=cng_mk hn htk (PySem.W.mg_of X G aRa) (PySem.W.mg_of X G aRm) (PySem.W.mg_of X G aRs) (PySem.W.mg_of X G aRt) (PySem.W.mg_of X G aRr) rck rnT rnd xaTm xiTm xaTs xiTs ⟨xapm,xipm,Fpm.kp⟩ ⟨xaom,xiom,Fom.kp⟩ ⟨xaps,xips,Fps.kp⟩ ⟨xaos,xios,Fos.kp⟩ ⟨xaas,xias,Fas.kp⟩ ⟨xapt,xipt,Fpt.kp⟩ ⟨xaot,xiot,Fot.kp⟩ ⟨rpg,rhd,rpo,rsa⟩ ⟨rmk,xaRu,xiRu,rkc⟩ rno0 rno1 rno2 rno3;subst hts;refine ⟨PySem.W.fnOf "law" "law" (defArgs sLaw) (defBody sLaw) (defScope sLaw) .none kVL dcL pmL anL cdL ctL,fun s v=>.of_eq rfl,fun T hT=>?_,Pt,.head _,fun base _ _ bl=>?_⟩
 ·simp only [Zv,Zr,or_false] at hT;rcases hT with rfl
  ·exact ⟨houtp,c,hcdp⟩
 ·have Lp:LamTxt K mg base c Pt:=⟨hcdp,bl⟩;have hC:Calm (CXM l.prog w):=calmM;have GK:=ok_init (P:=l.prog) (w:=w) (base:=base) hC T FI KC DN DU DP DF DCt;have GIk:=ok_initKs (P:=l.prog) (w:=w) (base:=base) hC T KC ⟨iha,hn,htk,ihm,ihki⟩ KS Lp FIk DN DU DA Fp (PySem.W.mg_of X G xap) bp;have Gn:=ok_next (P:=l.prog) (w:=w) (base:=base) hC Dn.fn Dm;have GOf:=ok_of (P:=l.prog) (w:=w) (base:=base) hC T KS FOf DN;have GVi:=ok_valIn (P:=l.prog) (w:=w) (base:=base) hC KC DVi.fn DPl;have GPl:=zDq (P:=l.prog) (w:=w) (base:=base) (CX:=CXM l.prog w) KC DPl.fn;have GCn:=ok_chkN (P:=l.prog) (w:=w) (base:=base) hC T DCn.fn DN;have GCc:=ok_chkC (P:=l.prog) (w:=w) (base:=base) (CX:=CXM l.prog w) T Nc DCc.fn;have J:=ini_mk (P:=l.prog) (w:=w) (base:=base) hC T Nc DCn GCn DCc GCc FjIs bjIs FjMe bjMe FjOw bjOw FjNo bjNo FjBo bjBo FjEi bjEi;have Hd:=hld_mk (P:=l.prog) (w:=w) (base:=base) hC T Nc KC KS GOf bOf DVi GVi DPl GPl FhAl bhAl FhWa bhWa FhIs bhIs FhMe bhMe FhOw bhOw FhNo bhNo FhBo bhBo FhEi bhEi;have GFi:=ok_first (P:=l.prog) (w:=w) (base:=base) (CX:=CXM l.prog w) T KC DFi.fn;have GWv:=ok_with (P:=l.prog) (w:=w) (base:=base) hC KC DWv.fn DPl;have GHv:=ok_hasV (P:=l.prog) (w:=w) (base:=base) hC KC DHv.fn DPl;have GTm:=ok_initTM (P:=l.prog) (w:=w) (base:=base) hC T Ng FTm DN DU;have GTs:=ok_initTS (P:=l.prog) (w:=w) (base:=base) hC T Ng FTs DN;have GOk:=ok_otherK (P:=l.prog) (w:=w) (base:=base) hC T DOk.fn DN DU;have GRu:=ok_ru (P:=l.prog) (w:=w) (base:=base) hC T Nc Ng FRu DN DOk GOk;have Gas:=ok_aim (P:=l.prog) (w:=w) (base:=base) hC Ng Fas DVi GVi;have Hp_:=chg_all (sp:=spPos (⟨Ra,Rm,Rs,Rt,Rr,fTm,fTs,fRu,fpm,fps,fpt,fom,fos,fot,fas⟩:CB) C) Ng Ng.pTm Ng.pTs Ng.pTt ((ok_tmP (P:=l.prog) (w:=w) (base:=base) (CX:=CXM l.prog w) KC Ng Fpm).mono (by decide)) bpm (ok_tsP (P:=l.prog) (w:=w) (base:=base) hC Ng Fps DHv GHv Gas bas) bps ((ok_ttP (P:=l.prog) (w:=w) (base:=base) (CX:=CXM l.prog w) (C:=C) Ng Fpt).mono (by decide)) bpt;have Ho_:=chg_all (sp:=spOut (⟨Ra,Rm,Rs,Rt,Rr,fTm,fTs,fRu,fpm,fps,fpt,fom,fos,fot,fas⟩:CB) C) Ng Ng.oTm Ng.oTs Ng.oTt ((ok_tmO (P:=l.prog) (w:=w) (base:=base) hC KC Ng Fom DFi GFi DVi GVi DWv GWv).mono (by decide)) bom (ok_tsO (P:=l.prog) (w:=w) (base:=base) hC Ng Fos DWv GWv Gas bas) bos ((ok_ttO (P:=l.prog) (w:=w) (base:=base) (CX:=CXM l.prog w) (C:=C) Ng Fot).mono (by decide)) bot;have GCu:=ok_use (P:=l.prog) (w:=w) (base:=base) hC Ng KS DCu.fn GOf bOf (hold_all Hd 3) Hp_;have GSb:=ok_beh (P:=l.prog) (w:=w) (base:=base) (A:=(⟨Qc,Qa,Qw,Qi,Qm,Qo,Qn,Qb,Qe,fjIs,fjMe,fjOw,fjNo,fjBo,fjEi,fhAl,fhWa,fhIs,fhMe,fhOw,fhNo,fhBo,fhEi⟩:CA)) hC Ng KS DSb.fn GOf bOf Ho_;have Glk:=ok_kinds31 (P:=l.prog) (w:=w) (base:=base) hC T Dlk.fn Dn Gn;have Glm:=ok_made (P:=l.prog) (w:=w) (base:=base) hC T KC KS GK bK GIk bIk Dlm.fn;have Gls:=ok_lst (P:=l.prog) (w:=w) (base:=base) (mg:=mg) (CX:=CXM l.prog w) Dls.fn;have Glf:=ok_lFl (P:=l.prog) (w:=w) (base:=base) (mg:=mg) (CX:=CXM l.prog w) Dlf.fn;have Glo:=ok_lOw (P:=l.prog) (w:=w) (base:=base) (mg:=mg) (CX:=CXM l.prog w) Dlo.fn;have Gli:=ok_lsits (P:=l.prog) (w:=w) (base:=base) hC Dli.fn Dlo Glo Dls Gls Dlf Glf;have Gpr:=ok_pairL (P:=l.prog) (w:=w) (base:=base) hC T Dpr.fn Dn Gn;have Gle:=ok_leaf (P:=l.prog) (w:=w) (base:=base) hC T Dle.fn Dn Gn Dpr Gpr;have Glt:=ok_tree (P:=l.prog) (w:=w) (base:=base) hC T Dlt Dn Gn Dle Gle 3;have Glb:=ok_obj (P:=l.prog) (w:=w) (base:=base) hC Nc J Dlb 3;have Glv:=ok_val (P:=l.prog) (w:=w) (base:=base) (mg:=mg) (CX:=CXM l.prog w) Dlv.fn;have Glh:=ok_lh (P:=l.prog) (w:=w) (base:=base) hC T Dlh Dlv Glv Dlf Glf Dlo Glo 3;have Gcg:=ok_chg (P:=l.prog) (w:=w) (base:=base) hC Dcg.fn Dn Gn Dpr Gpr;have Gco:=ok_cobj (P:=l.prog) (w:=w) (base:=base) hC T Ng Dco.fn GTm bTm GTs bTs;have Grl:=ok_rul (P:=l.prog) (w:=w) (base:=base) hC T Drl.fn Dn Gn Dlf Glf Dlt Glt Dcg Gcg;have Gro:=ok_robj (P:=l.prog) (w:=w) (base:=base) hC T Ng Dro.fn GRu bRu Dco Gco Dlb Glb;have Gaf:=ok_aft (P:=l.prog) (w:=w) (base:=base) hC T Daf.fn Dlv Glv Dlf Glf Dlh Glh;have Grt:=ok_rt (P:=l.prog) (w:=w) (base:=base) hC T Drt.fn Daf Gaf DCu GCu DSb GSb;exact (ok_law33 FL ⟨T,Ng,Dca,ok_cellAt T Dca.fn,Dd,ok_digits Dd.fn,Dn,Gn,Dlk,Glk,Dlm,Glm,Drl,Grl,Dro,Gro,Dli,Gli,Drt,Grt⟩).calm calmM
theorem walk {l:PySem.W.OpenLaw}{q:Program}{loose:List Str}{XP:(Str→Option Value)→Heap→Prop}{YP:World→Heap→Prop}{d:DefRec}{K:Params→PySem.W.Frag}{ts:List Addr} (hn:l.most=some 63) (hdf:d.params.defaults=[])
  (hY:∀ (w:World) (h:Heap),YP w h→(K w.params).In h∧∀ T∈ts,h.get? T=some (PySem.W.tabObj #[]))
  (F:∀ (w:World) (mg:Str→Option Value) (fa:Addr) (h:Heap),(K w.params).In h→h.Ns mainGlobals mg→mg d.name=some (.ref fa) →
   ∃ fd:FuncData,(∀ (s:Shared) (v:Value),BindsTo s fd ⟨[v],[]⟩ [("_law_script",v)])∧(∀ T∈ts,(K w.params).lookup T=none∧∃ c,PySem.W.codeHdIn (K w.params) c T=true)∧∃ Pt:Addr,Pt∈ts∧∀ base:Heap,(K w.params).In base→base.Ns mainGlobals mg→BltAt mg base→FnOk l.prog w (K w.params) mg base CX0 10 fa fd ["_law_script"] (spLaw33 (K w.params) Pt)) :
  PySem.W.WalkO q loose XP YP l.row.toRowW d [] (fun f vs=>PySem.call f vs):=by
 refine Att.attach_call hn hdf fun w s₀ s₁ mg mb fa o pm cd doc a vs ns G Y ho hd hcd hmg hobj hints hlen hg=>?_;obtain ⟨KX,hT⟩:=hY w _ Y;obtain ⟨fd,hb,hall,Pt,m0,hF⟩:=F w mg fa _ KX G.T.g hmg;exact law_callTs KX G.T.g G.T.b G.T.builtins G.T.nolimit hg (blt_of G.T) hT (fun T h=>(hall T h).1) (fun T h=>(hall T h).2) hobj hints (Zm hlen (by decide)) ⟨fun _=>rfl,by decide,by decide⟩ hF hb (fun H hO hS=>⟨a,ns,rfl,hS,hlen,.inl (hO.1 Pt m0),fun _=>rfl⟩) fun _ _ _ z=>z
end L2.W
theorem PySem.W.Fast.tw5346237939235389140:True:=trivial
theorem PySem.W.Fast.tw12250679765657449228:True:=trivial
theorem PySem.W.Fast.tw308276646852089442:True:=trivial
theorem PySem.W.Fast.tw4527833085728115526:True:=trivial
theorem PySem.W.Fast.tw8508582404259472827:True:=trivial
theorem PySem.W.Fast.tw13595984288020723031:True:=trivial
theorem PySem.W.Fast.tw5655596765213414508:True:=trivial
theorem PySem.W.Fast.tw7377893961759632081:True:=trivial
theorem PySem.W.Fast.tw8519334428482055776:True:=trivial
theorem PySem.W.Fast.tw13321669871069327471:True:=trivial
theorem PySem.W.Fast.tw17577836849360942038:True:=trivial
theorem PySem.W.Fast.tw14010723896536128017:True:=trivial
theorem PySem.W.Fast.tw11959234082953723670:True:=trivial
theorem PySem.W.Fast.tw11063980728101455047:True:=trivial
theorem PySem.W.Fast.tw17150309401198550488:True:=trivial
theorem PySem.W.Fast.tw4765450801910151519:True:=trivial
theorem PySem.W.Fast.tw17938782361362227658:True:=trivial
theorem PySem.W.Fast.tw17997143438939368531:True:=trivial
theorem PySem.W.Fast.tw11447431498454899934:True:=trivial
theorem PySem.W.Fast.tw3971902488974914305:True:=trivial
theorem PySem.W.Fast.tw813295976413319444:True:=trivial
theorem PySem.W.Fast.tw10439590701745081730:True:=trivial
theorem PySem.W.Fast.tw16305485119320767084:True:=trivial
theorem PySem.W.Fast.tw3695399369865449309:True:=trivial
theorem PySem.W.Fast.tw944226739581411259:True:=trivial
theorem PySem.W.Fast.tw6135838958049915892:True:=trivial
theorem PySem.W.Fast.tw13864767988619268115:True:=trivial
theorem PySem.W.Fast.tw18296455603865531769:True:=trivial
theorem PySem.W.Fast.tw8300265354549422156:True:=trivial
theorem PySem.W.Fast.tw1185229114093752013:True:=trivial
theorem PySem.W.Fast.tw3142658053858257028:True:=trivial
theorem PySem.W.Fast.tw16036440005554917799:True:=trivial
theorem PySem.W.Fast.tw14022982874003989483:True:=trivial
theorem PySem.W.Fast.tw13186801618483782370:True:=trivial
theorem PySem.W.Fast.tw16738222325582796288:True:=trivial
theorem PySem.W.Fast.tw13246057717853592281:True:=trivial
theorem PySem.W.Fast.tw3283478095820938329:True:=trivial
theorem PySem.W.Fast.tw8046860006919280151:True:=trivial
theorem PySem.W.Fast.tw12166813143385928024:True:=trivial
theorem PySem.W.Fast.tw10921661986057876575:True:=trivial
theorem PySem.W.Fast.tw14586310658205275168:True:=trivial
theorem PySem.W.Fast.tw11920435015121901086:True:=trivial
theorem PySem.W.Fast.tw14751097867079266290:True:=trivial
theorem PySem.W.Fast.tw5801849245401773948:True:=trivial
theorem PySem.W.Fast.tw14901938444300475034:True:=trivial
theorem PySem.W.Fast.tw9777791643391917400:True:=trivial
theorem PySem.W.Fast.tw11438981220041895352:True:=trivial
theorem PySem.W.Fast.tw6029552534470989882:True:=trivial
theorem PySem.W.Fast.tw17579164425991946040:True:=trivial
theorem PySem.W.Fast.tw1154837894886706928:True:=trivial
theorem PySem.W.Fast.tw1238736866781392063:True:=trivial
theorem PySem.W.Fast.tw18321951970614242692:True:=trivial
theorem PySem.W.Fast.tw16806571604430476051:True:=trivial
theorem PySem.W.Fast.tw2071046894245643747:True:=trivial
theorem PySem.W.Fast.tw9846765795936526550:True:=trivial
theorem PySem.W.Fast.tw13149298271732337812:True:=trivial
theorem PySem.W.Fast.tw2437967848623888679:True:=trivial
theorem PySem.W.Fast.tw18387938671383578675:True:=trivial
theorem PySem.W.Fast.tw17185251612055302945:True:=trivial
theorem PySem.W.Fast.tw1618582526682770822:True:=trivial
theorem PySem.W.Fast.tw17229024287997040789:True:=trivial
theorem PySem.W.Fast.tw5221563467776812970:True:=trivial
theorem PySem.W.Fast.tw2959685912167072998:True:=trivial
theorem PySem.W.Fast.tw6974816659126183414:True:=trivial
theorem PySem.W.Fast.tw8734624297089472731:True:=trivial
theorem PySem.W.Fast.tw18064200905381995180:True:=trivial
theorem PySem.W.Fast.tw10753245978454640062:True:=trivial
theorem PySem.W.Fast.tw4256376217928314805:True:=trivial
theorem PySem.W.Fast.tw6555920349912438716:True:=trivial
theorem PySem.W.Fast.tw9387640427644962615:True:=trivial
theorem PySem.W.Fast.tw14909328657903946508:True:=trivial
theorem PySem.W.Fast.tw15129835820048720331:True:=trivial
theorem PySem.W.Fast.tw8835733150487215033:True:=trivial
theorem PySem.W.Fast.tw2077657345866595079:True:=trivial
theorem PySem.W.Fast.tw1973740012242314300:True:=trivial
theorem PySem.W.Fast.tw13655845772702836484:True:=trivial
theorem PySem.W.Fast.tw12372656067449307079:True:=trivial
theorem PySem.W.Fast.tw15419867919949640992:True:=trivial
theorem PySem.W.Fast.tw14408175192651857298:True:=trivial
theorem PySem.W.Fast.tw357267078088793192:True:=trivial
theorem PySem.W.Fast.tw12880450971081316882:True:=trivial
theorem PySem.W.Fast.tw7990931102972261936:True:=trivial
theorem PySem.W.Fast.tw16087071063653006707:True:=trivial
theorem PySem.W.Fast.tw17393747834001766950:True:=trivial
theorem PySem.W.Fast.tw1668070212680576772:True:=trivial
theorem PySem.W.Fast.tw11941649705135678275:True:=trivial
theorem PySem.W.Fast.tw16378444448546233321:True:=trivial
theorem PySem.W.Fast.tw10883943938967841394:True:=trivial
theorem PySem.W.Fast.tw13228182472197755309:True:=trivial
theorem PySem.W.Fast.tw15621974985373233357:True:=trivial
theorem PySem.W.Fast.tw13129059069857361647:True:=trivial
theorem PySem.W.Fast.tw9704001888215792862:True:=trivial
theorem PySem.W.Fast.tw6773158394852192535:True:=trivial
theorem PySem.W.Fast.tw2995197134639098320:True:=trivial
theorem PySem.W.Fast.tw10338553488945492992:True:=trivial
theorem PySem.W.Fast.tw14814016509779264236:True:=trivial
theorem PySem.W.Fast.tw9247894935026532635:True:=trivial
theorem PySem.W.Fast.tw8774361943384073416:True:=trivial
theorem PySem.W.Fast.tw7917226799260933328:True:=trivial
theorem PySem.W.Fast.tw11018592996136496313:True:=trivial
theorem PySem.W.Fast.tw14868669798440002807:True:=trivial
theorem PySem.W.Fast.tw11819144699371822945:True:=trivial
theorem PySem.W.Fast.tw4379173463609733440:True:=trivial
theorem PySem.W.Fast.tw10534766996247510677:True:=trivial
theorem PySem.W.Fast.tw14441196279398619164:True:=trivial
theorem PySem.W.Fast.tw12185700629114645518:True:=trivial
theorem PySem.W.Fast.tw3560787526241983142:True:=trivial
theorem PySem.W.Fast.tw389268519098855606:True:=trivial
theorem PySem.W.Fast.tw7295369925423535787:True:=trivial
theorem PySem.W.Fast.tw7621902911182846243:True:=trivial
theorem PySem.W.Fast.tw14146533456505862717:True:=trivial
theorem PySem.W.Fast.tw12585090574055049453:True:=trivial
theorem PySem.W.Fast.tw13450760201315452622:True:=trivial
theorem PySem.W.Fast.tw16786383695322550345:True:=trivial
theorem PySem.W.Fast.tw4429383822960963872:True:=trivial
theorem PySem.W.Fast.tw7230494562200315398:True:=trivial
theorem PySem.W.Fast.tw4828289997349567239:True:=trivial
theorem PySem.W.Fast.tw6788511995394050773:True:=trivial
theorem PySem.W.Fast.tw4338535129101147742:True:=trivial
theorem PySem.W.Fast.tw16379860993812650630:True:=trivial
theorem PySem.W.Fast.tw10483516150833626002:True:=trivial
theorem PySem.W.Fast.tw4566600481653017640:True:=trivial
theorem PySem.W.Fast.tw3454548643078127582:True:=trivial
theorem PySem.W.Fast.tw1523685559813693669:True:=trivial
theorem PySem.W.Fast.tw16436724827484165507:True:=trivial
theorem PySem.W.Fast.tw17457221877293713703:True:=trivial
theorem PySem.W.Fast.tw8149618094979408113:True:=trivial
theorem PySem.W.Fast.tw8902521189295193034:True:=trivial
theorem PySem.W.Fast.tw13032158415230406890:True:=trivial
theorem PySem.W.Fast.tw17116857124696373720:True:=trivial
theorem PySem.W.Fast.tw11191999372298765799:True:=trivial
theorem PySem.W.Fast.tw7712847690322860244:True:=trivial
theorem PySem.W.Fast.tw14211253562410499366:True:=trivial
theorem PySem.W.Fast.tw14885405777623857095:True:=trivial
theorem PySem.W.Fast.tw14512871601331204346:True:=trivial
theorem PySem.W.Fast.tw14628438031292119083:True:=trivial
theorem PySem.W.Fast.tw1886496195249532761:True:=trivial
theorem PySem.W.Fast.tw7530792609225953062:True:=trivial
theorem PySem.W.Fast.tw689486802538481825:True:=trivial
theorem PySem.W.Fast.tw3179027224388859602:True:=trivial
theorem PySem.W.Fast.tw3539735654459115269:True:=trivial
theorem PySem.W.Fast.tw398791464274706438:True:=trivial
theorem PySem.W.Fast.tw151638862973467261:True:=trivial
theorem PySem.W.Fast.tw3602121754155012002:True:=trivial
theorem PySem.W.Fast.tw17428573277969667127:True:=trivial
theorem PySem.W.Fast.tw4170883113435453147:True:=trivial
theorem PySem.W.Fast.tw1337832300797498667:True:=trivial
theorem PySem.W.Fast.tw261365436224782741:True:=trivial
theorem PySem.W.Fast.tw16972353515587279130:True:=trivial
theorem PySem.W.Fast.tw272453487914984272:True:=trivial
theorem PySem.W.Fast.tw17676884019645744864:True:=trivial
theorem PySem.W.Fast.tw1909248989034368431:True:=trivial
theorem PySem.W.Fast.tw12546877515887834490:True:=trivial
theorem PySem.W.Fast.tw10075562016983605396:True:=trivial
theorem PySem.W.Fast.tw14095081060244999205:True:=trivial
theorem PySem.W.Fast.tw13204721773421127111:True:=trivial
theorem PySem.W.Fast.tw16929824492964280453:True:=trivial
theorem PySem.W.Fast.tw10449332186628991528:True:=trivial
theorem PySem.W.Fast.tw3127929030784706708:True:=trivial
theorem PySem.W.Fast.tw4100033433352836040:True:=trivial
theorem PySem.W.Fast.tw7431290027702709021:True:=trivial
theorem PySem.W.Fast.tw1224770480799442991:True:=trivial
theorem PySem.W.Fast.tw6150561368952116736:True:=trivial
theorem PySem.W.Fast.tw8176821765239352158:True:=trivial
theorem PySem.W.Fast.tw16075545788994764356:True:=trivial
theorem PySem.W.Fast.tw4935253387445018542:True:=trivial
open PySem PySem.W PyProof.Rows
set_option maxRecDepth 100000 in
set_option maxHeartbeats 0 in
theorem PySem.Challenge.cw_cometorest_k33_whole_what_comes_of_rules_holds : PySem.Challenge.rw_cometorest_k33_whole_what_comes_of_rules.Holds := by
 w_on;o_law;k_head;(case hw=>w_witness2)
 k_fill
 refine L2.W.walk (l:=PySem.Challenge.rw_cometorest_k33_whole_what_comes_of_rules) rfl rfl (fun w h Y=>⟨PySem.W.km_in_of Y,PySem.W.km_tabs_of Y⟩) ?F
 case F =>
  intro w mg fa h KX G hmg;refine' L2.W.all_mk KX G hmg ?aC ?aCK ?aQc ?aQa ?aQw ?aQi ?aQm ?aQo ?aQn ?aQb ?aQe ?aRa ?aRm ?aRs ?aRt ?aRr ?xN ?xU ?xP ?xF ?xCt ?xFi ?xPl ?xHv ?xVi ?xWv ?xA ?xCn ?xCc ?xOk ?xCu ?xSb ?xca ?xm ?xd ?xn ?xlk ?xlm ?xls ?xlf ?xlo ?xli ?xpr ?xle ?xlt ?xlb ?xlv ?xlh ?xcg ?xco ?xrl ?xro ?xaf ?xrt ?xIk ?xOf ?xjIs ?xjMe ?xjOw ?xjNo ?xjBo ?xjEi ?xhAl ?xhWa ?xhIs ?xhMe ?xhOw ?xhNo ?xhBo ?xhEi ?xTm ?xTs ?xRu ?xpm ?xom ?xps ?xos ?xas ?xpt ?xot ?xap ?xlp ?xcp ?xkp ?xaL ?xlL ?xcL ?xkL ?aI ?iI ?lI ?cI ?lT ?kpg ?khd ?kpo ?ksa ?kmk ?kkc ?kno0 ?kno1 ?kno2 ?gpg ?ghd ?gpo ?gsa ?gmk ?gkc ?gno0 ?rpg ?rhd ?rpo ?rsa ?rmk ?rkc ?rno0 ?rno1 ?rno2 ?rno3 ?hn ?htk ?iha ?ihm ?ihki ?hts ?hcdp ?houtp ?c0 ?c1 ?c2 ?c3 ?qck ?qnd ?qnAl ?qnWa ?rck ?rnd ?rnT ?z_isinstance ?z_len ?z_all ?z_set ?z_range ?z_str ?z_list ?z_tuple ?z_zip ?z_dict ?z_min ?z_enumerate ?z_int ?z_bool ?z_any
  (case aC=>k_is)
  (case aCK=>k_is)
  (case aQc=>k_is)
  (case aQa=>k_is)
  (case aQw=>k_is)
  (case aQi=>k_is)
  (case aQm=>k_is)
  (case aQo=>k_is)
  (case aQn=>k_is)
  (case aQb=>k_is)
  (case aQe=>k_is)
  (case aRa=>k_is)
  (case aRm=>k_is)
  (case aRs=>k_is)
  (case aRt=>k_is)
  (case aRr=>k_is)
  (case xN=>apply L2.W.zBb;iterate 4 k_is)
  (case xU=>apply L2.W.zBb;iterate 4 k_is)
  (case xP=>apply L2.W.zBb;iterate 4 k_is)
  (case xF=>apply L2.W.zBb;iterate 4 k_is)
  (case xCt=>apply L2.W.zBb;iterate 4 k_is)
  (case xFi=>apply L2.W.zBb;iterate 4 k_is)
  (case xPl=>apply L2.W.zBb;iterate 4 k_is)
  (case xHv=>apply L2.W.zBb;iterate 4 k_is)
  (case xVi=>apply L2.W.zBb;iterate 4 k_is)
  (case xWv=>apply L2.W.zBb;iterate 4 k_is)
  (case xA=>apply L2.W.zBb;iterate 4 k_is)
  (case xCn=>apply L2.W.zBb;iterate 4 k_is)
  (case xCc=>apply L2.W.zBb;iterate 4 k_is)
  (case xOk=>apply L2.W.zBb;iterate 4 k_is)
  (case xCu=>apply L2.W.zBb;iterate 4 k_is)
  (case xSb=>apply L2.W.zBb;iterate 4 k_is)
  (case xca=>apply L2.W.zBb;iterate 4 k_is)
  (case xm=>apply L2.W.zBb;iterate 4 k_is)
  (case xd=>apply L2.W.zBb;iterate 4 k_is)
  (case xn=>apply L2.W.zBb;iterate 4 k_is)
  (case xlk=>apply L2.W.zBb;iterate 4 k_is)
  (case xlm=>apply L2.W.zBb;iterate 4 k_is)
  (case xls=>apply L2.W.zBb;iterate 4 k_is)
  (case xlf=>apply L2.W.zBb;iterate 4 k_is)
  (case xlo=>apply L2.W.zBb;iterate 4 k_is)
  (case xli=>apply L2.W.zBb;iterate 4 k_is)
  (case xpr=>apply L2.W.zBb;iterate 4 k_is)
  (case xle=>apply L2.W.zBb;iterate 4 k_is)
  (case xlt=>apply L2.W.zBb;iterate 4 k_is)
  (case xlb=>apply L2.W.zBb;iterate 4 k_is)
  (case xlv=>apply L2.W.zBb;iterate 4 k_is)
  (case xlh=>apply L2.W.zBb;iterate 4 k_is)
  (case xcg=>apply L2.W.zBb;iterate 4 k_is)
  (case xco=>apply L2.W.zBb;iterate 4 k_is)
  (case xrl=>apply L2.W.zBb;iterate 4 k_is)
  (case xro=>apply L2.W.zBb;iterate 4 k_is)
  (case xaf=>apply L2.W.zBb;iterate 4 k_is)
  (case xrt=>apply L2.W.zBb;iterate 4 k_is)
  (case xIk=>apply L2.W.zBo;iterate 5 k_is)
  (case xOf=>apply L2.W.zBo;iterate 5 k_is)
  (case xjIs=>apply L2.W.zBo;iterate 5 k_is)
  (case xjMe=>apply L2.W.zBo;iterate 5 k_is)
  (case xjOw=>apply L2.W.zBo;iterate 5 k_is)
  (case xjNo=>apply L2.W.zBo;iterate 5 k_is)
  (case xjBo=>apply L2.W.zBo;iterate 5 k_is)
  (case xjEi=>apply L2.W.zBo;iterate 5 k_is)
  (case xhAl=>apply L2.W.zBo;iterate 5 k_is)
  (case xhWa=>apply L2.W.zBo;iterate 5 k_is)
  (case xhIs=>apply L2.W.zBo;iterate 5 k_is)
  (case xhMe=>apply L2.W.zBo;iterate 5 k_is)
  (case xhOw=>apply L2.W.zBo;iterate 5 k_is)
  (case xhNo=>apply L2.W.zBo;iterate 5 k_is)
  (case xhBo=>apply L2.W.zBo;iterate 5 k_is)
  (case xhEi=>apply L2.W.zBo;iterate 5 k_is)
  (case xTm=>apply L2.W.zBo;iterate 5 k_is)
  (case xTs=>apply L2.W.zBo;iterate 5 k_is)
  (case xRu=>apply L2.W.zBo;iterate 5 k_is)
  (case xpm=>apply L2.W.zBo;iterate 5 k_is)
  (case xom=>apply L2.W.zBo;iterate 5 k_is)
  (case xps=>apply L2.W.zBo;iterate 5 k_is)
  (case xos=>apply L2.W.zBo;iterate 5 k_is)
  (case xas=>apply L2.W.zBo;iterate 5 k_is)
  (case xpt=>apply L2.W.zBo;iterate 5 k_is)
  (case xot=>apply L2.W.zBo;iterate 5 k_is)
  (case xap=>k_is)
  (case xlp=>k_is)
  (case xcp=>k_is)
  (case xkp=>k_is)
  (case xaL=>k_is)
  (case xlL=>k_is)
  (case xcL=>k_is)
  (case xkL=>k_is)
  (case aI=>k_is)
  (case iI=>k_is)
  (case lI=>k_is)
  (case cI=>k_is)
  (case lT=>k_is)
  (case kpg=>k_is)
  (case khd=>k_is)
  (case kpo=>k_is)
  (case ksa=>k_is)
  (case kmk=>k_is)
  (case kkc=>k_is)
  (case kno0=>k_is)
  (case kno1=>k_is)
  (case kno2=>k_is)
  (case gpg=>k_is)
  (case ghd=>k_is)
  (case gpo=>k_is)
  (case gsa=>k_is)
  (case gmk=>k_is)
  (case gkc=>k_is)
  (case gno0=>k_is)
  (case rpg=>k_is)
  (case rhd=>k_is)
  (case rpo=>k_is)
  (case rsa=>k_is)
  (case rmk=>k_is)
  (case rkc=>k_is)
  (case rno0=>k_is)
  (case rno1=>k_is)
  (case rno2=>k_is)
  (case rno3=>k_is)
  (case hn=>k_is)
  (case htk=>k_is)
  (case iha=>k_is)
  (case ihm=>k_is)
  (case ihki=>first | k_is | rfl | kernel_rfl | decide +kernel)
  (case hts=>rfl)
  (case hcdp=>first | k_is | rfl | kernel_rfl | decide +kernel)
  (case houtp=>first | k_is | rfl | kernel_rfl | decide +kernel)
  (case c0=>k_is)
  (case c1=>k_is)
  (case c2=>k_is)
  (case c3=>k_is)
  (case qck=>first | k_is | rfl | kernel_rfl | decide +kernel)
  (case qnd=>first | k_is | rfl | kernel_rfl | decide +kernel)
  (case qnAl=>first | k_is | rfl | kernel_rfl | decide +kernel)
  (case qnWa=>first | k_is | rfl | kernel_rfl | decide +kernel)
  (case rck=>first | k_is | rfl | kernel_rfl | decide +kernel)
  (case rnd=>first | k_is | rfl | kernel_rfl | decide +kernel)
  (case rnT=>first | k_is | rfl | kernel_rfl | decide +kernel)
  (case z_isinstance=>k_is)
  (case z_len=>k_is)
  (case z_all=>k_is)
  (case z_set=>k_is)
  (case z_range=>k_is)
  (case z_str=>k_is)
  (case z_list=>k_is)
  (case z_tuple=>k_is)
  (case z_zip=>k_is)
  (case z_dict=>k_is)
  (case z_min=>k_is)
  (case z_enumerate=>k_is)
  (case z_int=>k_is)
  (case z_bool=>k_is)
  (case z_any=>k_is)
