import PyProof.Rows.All
import Wide.All
import OpenK.AllK
import Wide.FinOn
import Lean
import PyProof.EqAt
import PyProof.EqKinds
import PyProof.TupleCall
import PySem.Challenge.RW_cometorest_k02_kinds_made
import KE.KMinKey
import KE.KLam
import KE.KNestM
import KE.KDictList
import PyProof.EnumMake
import PyProof.EnumFor
import PyProof.EnumStmt
import PyProof.AttrMissHeap
import KE.KDictOf
import PyProof.StrLawsChain
import PyProof.StrLawsTight
import PyProof.Rows.StrItems
import PyProof.Rows.StrSplitCount
import PyProof.FString
import KE.KIntText
import KE.KTryMore
import PyProof.NsDelKeeps
import PyProof.ExcClass3
import PyProof.ExcBaseAll.ValueError
import PyProof.ExcAttrAll.ValueError
import PyProof.NeKinds
import PyProof.FactsAll.dict
import KE.KDictSum
import PyProof.DictItems
import KE.KPairComp
import KE.KxWritten
import PyProof.SumAny
import PyProof.Rows.StrLen
import PyProof.CallStr
import PyProof.StrCalls6
import PyProof.Rows.StrCase
import OpenK.KMake
import KE.KSortTup
set_option Elab.async false
set_option linter.all false
set_option maxRecDepth 100000
abbrev Z0:=@PySem.Heap.get?_push_of_some
abbrev Z1:=@List.length_map
abbrev Z2:=@PySem.Heap.lt_size
abbrev Z3:=@Nat.lt_of_lt_of_le
abbrev Z4:=@Nat.ne_of_lt
abbrev Z5:=@Nat.le_refl
abbrev Z6:=@List.size_toArray
abbrev Z7:=@PySem.Heap.get?_push_size
abbrev Z8:=@List.length_cons
abbrev Z9:=@List.mem_cons_of_mem
abbrev Za:=@List.mem_of_getElem?
abbrev Zb:=@List.length_append
abbrev Zc:=@List.getElem?_eq_getElem
abbrev Zd:=@Option.some.inj
abbrev Ze:=@Bool.false_ne_true
abbrev Zf:=@List.not_mem_nil
abbrev Zg:=@List.mem_cons_self
abbrev Zh:=@Nat.le_of_lt
abbrev Zi:=@List.mem_append_right
abbrev Zj:=@List.map_cons
abbrev Zk:=@List.mem_cons
abbrev Zl:=@List.length_take_le
abbrev Zm:=@List.getElem?_map
abbrev Zn:=@List.take_add_one
abbrev Zo:=@List.map_append
abbrev Zp:=@List.getElem?_append_left
abbrev Zq:=@Bool.and_eq_true
abbrev Zr:=@List.take_length
abbrev Zs:=@Nat.le_trans
abbrev Zt:=@List.getElem?_append_right
abbrev Zu:=@List.length_range
abbrev Zv:=@Nat.zero_le
abbrev Zw:=@List.foldl_cons
abbrev Zx:=@List.lookup_cons
abbrev Zy:=@Nat.lt_irrefl
abbrev Zz:=@List.map_map
abbrev Y0:=@Array.length_toList
abbrev Y1:=@PySem.Heap.get?_none_of_le
abbrev Y2:=@List.mem_append_left
abbrev Y3:=@List.filterMap_cons
abbrev Y4:=@Option.getD_some
abbrev Y5:=@List.getElem?_set_ne
abbrev Y6:=@PySem.Heap.size_push
abbrev Y7:=@List.length_take
abbrev Y8:=@Bool.eq_iff_iff
abbrev Y9:=@Int.emod_lt_of_pos
abbrev Ya:=@Nat.ne_of_gt
abbrev Yb:=@Nat.lt_succ_of_lt
abbrev Yc:=@Nat.mod_lt
abbrev Yd:=@List.all_cons
abbrev Ye:=@Bool.true_and
namespace L2
open PySem PySem.Spec PyProof.Rows
noncomputable abbrev Key:=Sum Int Str
noncomputable def keyIs:Key→Value→Bool
 | .inl k,v=>Value.isInt k v
 | .inr x,v=>Value.isStrOf x v
noncomputable def keyH (w:World):Key→Int
 | .inl k=>hashInt k
 | .inr x=>hashStr w x
theorem zAj:∀ {k:Key}{v:Value},keyIs k v=true→(∃ i t,k=Sum.inl i∧v=Value.int i t)∨(∃ x t,k=Sum.inr x∧v=Value.str x t)
 | .inl i,v,h=>by
  obtain ⟨t,e⟩:=Value.isInt_shape (k:=i) (v:=v) h;exact .inl ⟨i,t,rfl,e⟩
 | .inr x,v,h=>by
  obtain ⟨t,e⟩:=Value.isStrOf_shape (x:=x) (v:=v) h;exact .inr ⟨x,t,rfl,e⟩
theorem keyIs_int (i:Int) (t:Tok):keyIs (.inl i) (.int i t)=true:=by simp [keyIs,Value.isInt]
theorem keyIs_str (x:Str) (t:Tok):keyIs (.inr x) (.str x t)=true:=by simp [keyIs,Value.isStrOf]
theorem key_ll (a b:Int):decide ((Sum.inl a:Key)=Sum.inl b)=(a == b):=by
 by_cases e:a=b
 ·subst e;simp
 ·have h:¬ (Sum.inl a:Key)=Sum.inl b:=fun q=>e (Sum.inl.inj q);rw [decide_eq_false h];exact (beq_eq_false_iff_ne.mpr e).symm
theorem key_rr (a b:Str):decide ((Sum.inr a:Key)=Sum.inr b)=decide (a=b):=by
 by_cases e:a=b
 ·subst e;simp
 ·have h:¬ (Sum.inr a:Key)=Sum.inr b:=fun q=>e (Sum.inr.inj q);rw [decide_eq_false h,decide_eq_false e]
theorem key_lr (a:Int) (b:Str):decide ((Sum.inl a:Key)=Sum.inr b)=false:=decide_eq_false (fun q=>nomatch q)
theorem key_rl (a:Str) (b:Int):decide ((Sum.inr a:Key)=Sum.inl b)=false:=decide_eq_false (fun q=>nomatch q)
noncomputable def mixKind (prog:Program) (w:World):PySem.KeyKind prog w Key where
 is:=keyIs
 hash:=keyH w
 inj:=fun v a b ha hb=>by
  rcases zAj ha with ⟨i,t,rfl,rfl⟩ | ⟨x,t,rfl,rfl⟩
  ·rcases zAj hb with ⟨j,u,rfl,e⟩ | ⟨y,u,rfl,e⟩
   ·injection e with e1 _;rw [e1]
   ·exact nomatch e
  ·rcases zAj hb with ⟨j,u,rfl,e⟩ | ⟨y,u,rfl,e⟩
   ·exact nomatch e
   ·injection e with e1 _;rw [e1]
 byValue:=fun k v h=>by
  rcases zAj h with ⟨i,t,rfl,rfl⟩ | ⟨x,t,rfl,rfl⟩ <;> rfl
 pyHash:=fun hv h=>by
  rcases zAj hv with ⟨i,t,rfl,rfl⟩ | ⟨x,t,rfl,rfl⟩
  ·exact wpAny_pyHash_int h
  ·exact wpAny_pyHash_str h
 eqBool:=fun hu hv h=>by
  rcases zAj hu with ⟨i,t,rfl,rfl⟩ | ⟨x,t,rfl,rfl⟩
  ·rcases zAj hv with ⟨j,u,rfl,rfl⟩ | ⟨y,u,rfl,rfl⟩
   ·rw [key_ll] at h;exact wpAny_eqBool_int h
   ·rw [key_lr] at h;exact SeqAt.EqAt.int_str i t y u _ _ _ _ h
  ·rcases zAj hv with ⟨j,u,rfl,rfl⟩ | ⟨y,u,rfl,rfl⟩
   ·rw [key_rl] at h;exact SeqAt.EqAt.str_int x t j u _ _ _ _ h
   ·rw [key_rr] at h;exact wpAny_eqBool_str h
 «strs»:=fun k x t v h=>by
  rcases zAj h with ⟨i,u,rfl,e⟩ | ⟨y,u,rfl,e⟩
  ·exact nomatch e
  ·injection e with e1 _;subst e1;cases v <;> rfl
end L2
namespace L2
open PySem PySem.Spec PyProof.Rows
inductive V where
 | non | bl (b:Bool) | int (i:Int) | str (x:Str) | byt (b:Array UInt8) | flt (b:UInt64) | ref (a:Addr) | ty (n:String)
 deriving DecidableEq
noncomputable def RelV:V→Value→Prop
 | .non,u=>u=Value.none
 | .bl b,u=>u=Value.bool b
 | .int i,u=>∃ t,u=Value.int i t
 | .str x,u=>∃ t,u=Value.str x t
 | .byt b,u=>∃ t,u=Value.bytes b t
 | .flt b,u=>∃ t,u=Value.float b t
 | .ref a,u=>u=Value.ref a
 | .ty n,u=>u=Value.type n
noncomputable abbrev Vals:List V→List Value→Prop:=Paired RelV
theorem Vals.length {xs:List V}{us:List Value} (r:Vals xs us):xs.length=us.length:=Paired.length r
theorem Vals.get:∀ {xs:List V}{us:List Value}{i:Nat}{x:V},Vals xs us→xs[i]? = some x→∃ u,us[i]? = some u∧RelV x u
 | _,_,_,_,.nil,e=>by simp at e
 | _,_,0,_,.cons r _,e=>by simp at e;subst e;exact ⟨_,rfl,r⟩
 | _,_,i + 1,x,.cons _ t,e=>by
  obtain ⟨u,h1,h2⟩:=Vals.get (i:=i) (x:=x) t (by simpa using e);exact ⟨u,by simpa using h1,h2⟩
theorem Vals.set {x:V}{u:Value} (r:RelV x u):∀ {xs:List V}{us:List Value} (i:Nat),Vals xs us→Vals (xs.set i x) (us.set i u)
 | _,_,_,.nil=>.nil
 | _,_,0,.cons _ t=>.cons r t
 | _,_,i + 1,.cons q t=>.cons q (Vals.set r i t)
theorem Vals.append:∀ {xs ys:List V}{us ws:List Value},Vals xs us→Vals ys ws→Vals (xs++ys) (us++ws)
 | _,_,_,_,.nil,s=>s
 | _,_,_,_,.cons r t,s=>.cons r (Vals.append t s)
theorem Vals.take:∀ {xs:List V}{us:List Value} (n:Nat),Vals xs us→Vals (xs.take n) (us.take n)
 | _,_,0,_=>.nil
 | _,_,_ + 1,.nil=>.nil
 | _,_,n + 1,.cons r t=>.cons r (Vals.take n t)
theorem Vals.drop:∀ {xs:List V}{us:List Value} (n:Nat),Vals xs us→Vals (xs.drop n) (us.drop n)
 | _,_,0,r=>r
 | _,_,_ + 1,.nil=>.nil
 | _,_,n + 1,.cons _ t=>Vals.drop n t
noncomputable def RelO:Option V→Option Value→Prop
 | some v,some u=>RelV v u
 | none,none=>True
 | _,_=>False
noncomputable def KV {κ : Type}:List (κ×V)→List (κ×Value)→Prop:=Paired fun (p : κ×V) (q : κ×Value)=>p.1=q.1∧RelV p.2 q.2
noncomputable def kV:Key→V
 | .inl i=>.int i
 | .inr x=>.str x
inductive HO where
 | lst (xs:List V)
 | tup (xs:List V)
 | dK (kvs:List (Key×V)) | dT (kvs:List (List Key×V))
 | set (S:Int→Bool) (n:Nat)
 | ins (C dx:Addr) (fs:List (Str×V))
 | own (x:Addr)
 | xd (fs:List (Str×V))
 | met (f x:Addr)
 | rng (lo hi:Int)
 | frz (o:Obj) (u:HO)
 | tbl (ps:Array Value)
 | ext (φ : Heap→Prop)
noncomputable abbrev Hp:=Addr→Option HO
noncomputable def upd (H:Hp) (a:Addr) (o:HO):Hp:=fun b=>if b=a then some o else H b
theorem zA2 {H:Hp}{a:Addr}{o:HO}:upd H a o a=some o:=by unfold upd;rw [if_pos rfl]
theorem zA9 {H:Hp}{a b:Addr}{o:HO} (h:b≠a):upd H a o b=H b:=by unfold upd;rw [if_neg h]
theorem ne_of {H:Hp}{a b:Addr}{o u:HO} (h:H a=some o) (h':H b=some u) (d:o≠u):a≠b:=by
 intro e;subst e;rw [h] at h';exact d (Zd h')
theorem zA6 {H:Hp}{a b:Addr}{o:HO} (h:H a=some o) (h':H b=none):a≠b:=by
 intro e;subst e;rw [h] at h';cases h'
section
variable (P:Program) (w:World)
noncomputable def ObjOk (H:Hp) (h:Heap) (a:Addr):HO→Prop
 | .lst xs=>xs.length≤sizeLine∧∃ (its:List Value) (n:Nat),Vals xs its∧h.get? a=some { cls:=.type "list",data:=.seq its.toArray n }
 | .tup xs=>xs.length≤sizeLine∧∃ its:List Value,Vals xs its∧IsTup h a its.toArray
 | .dK kvs=>kvs.length≤sizeLine∧(a == sysModules)=false∧∃ vs,KV kvs vs∧h.DictOf (mixKind P w) a vs
 | .dT kvs=>kvs.length≤sizeLine∧(a == sysModules)=false∧∃ xs:List (List Key×Addr×Value),
   Paired (fun (p:List Key×V) (q:List Key×Addr×Value)=>p.1=q.1∧H q.2.1=some (.tup (p.1.map kV))∧RelV p.2 q.2.2) kvs xs ∧
   ∃ o es ep,h.get? a=some o∧o.ExactDict∧o.data=.dict es ep∧es.toList=xs.map (entryOfKey (tupleKind (mixKind P w)))∧(xs.map (·.1)).Nodup
 | .set S n=>h.SetOf (intKind P w) a S n
 | .ins C dx fs=>H dx=some (.own a)∧fs.length≤1000∧dx≠a∧h.get? a=some (PySem.W.instObj C dx) ∧
   ∃ mA,h.Ns1 dx mA∧(∀ f,RelO (fs.lookup f) (mA f))∧PySem.Within mA (fs.map (·.1))
 | .own _=>∃ o,h.get? a=some o
 | .xd fs=>∃ mA,h.Ns1 a mA∧∀ f,RelO (fs.lookup f) (mA f)
 | .rng lo hi=>∃ t u v,h.get? a=some { cls:=.type "range",data:=.fields #[.int lo t,.int hi u,.int 1 v] }
 | .frz o u=>h.get? a=some o∧ObjOk H h a u
 | .tbl ps=>h.get? a=some { cls:=.none,data:=.fields ps }
 | .met f x=>h.get? a=some (PySem.W.methodObj (.ref f) (.ref x))
 | .ext φ=>φ h∧(∃ o,h.get? a=some o)∧∀ h1 h2:Heap,φ h1→(∀ o,h1.get? a=some o→h2.get? a=some o)→φ h2
noncomputable def HOk (H:Hp) (h:Heap):Prop:=∀ a o,H a=some o→ObjOk P w H h a o
end
section
variable {P:Program}{w:World}{H H':Hp}{h h':Heap}{a:Addr}{o:HO}
theorem ObjOk.lt (x:ObjOk P w H h a o):a < h.objs.size:=by
 cases o with
 | lst xs=>obtain ⟨_,_,_,_,e⟩:=x;exact Z2 e
 | tup xs=>obtain ⟨_,_,_,p⟩:=x;exact p.lt
 | dK kvs=>obtain ⟨_,_,_,_,o,_,_,e,_⟩:=x;exact Z2 e
 | dT kvs=>obtain ⟨_,_,_,_,o,_,_,e,_⟩:=x;exact Z2 e
 | set S n=>obtain ⟨o,_,_,_,e,_⟩:=x;exact Z2 e
 | ins C dx fs=>obtain ⟨_,_,_,e,_⟩:=x;exact Z2 e
 | own y=>obtain ⟨_,e⟩:=x;exact Z2 e
 | xd fs=>obtain ⟨_,⟨_,_,_,e,_⟩,_⟩:=x;exact Z2 e
 | rng lo hi=>obtain ⟨_,_,_,e⟩:=x;exact Z2 e
 | frz ob u=>obtain ⟨e,_⟩:=x;exact Z2 e
 | tbl ps=>exact Z2 (show h.get? a=some _ from x)
 | met f y=>exact Z2 (show h.get? a=some _ from x)
 | ext φ=>obtain ⟨_,⟨_,e⟩,_⟩:=x;exact Z2 e
theorem Paired.mapP {α β : Type}{F G : α→β→Prop}:∀ {l₁ : List α}{l₂ : List β},Paired F l₁ l₂→(∀ a b,F a b→G a b)→Paired G l₁ l₂
 | _,_,.nil,_=>.nil
 | _,_,.cons r t,f=>.cons (f _ _ r) (Paired.mapP t f)
theorem ObjOk.stay (x:ObjOk P w H h a o) (k:∀ b u,(b=a∨H b=some (.own a))→h.get? b=some u→h'.get? b=some u)
  (ho:∀ b,H b=some (.own a)→H' b=some (.own a)) (ht:∀ b xs,H b=some (.tup xs)→H' b=some (.tup xs)):ObjOk P w H' h' a o:=by
 induction o with
 | lst xs=>obtain ⟨z,its,n,r,e⟩:=x;exact ⟨z,its,n,r,k _ _ (.inl rfl) e⟩
 | tup xs=>obtain ⟨z,its,r,ob,e,c⟩:=x;exact ⟨z,its,r,ob,k _ _ (.inl rfl) e,c⟩
 | dK kvs=>obtain ⟨z,y,vs,r,ob,es,ep,e,c⟩:=x;exact ⟨z,y,vs,r,ob,es,ep,k _ _ (.inl rfl) e,c⟩
 | dT kvs =>
  obtain ⟨z,y,xs,r,ob,es,ep,e,c⟩:=x;exact ⟨z,y,xs,Paired.mapP r fun p q z=>⟨z.1,ht _ _ z.2.1,z.2.2⟩,ob,es,ep,k _ _ (.inl rfl) e,c⟩
 | set S n=>obtain ⟨ob,es,ep,t,e,c⟩:=x;exact ⟨ob,es,ep,t,k _ _ (.inl rfl) e,c⟩
 | ins C dx fs =>
  obtain ⟨d,z,ne,e,mA,⟨od,es,ep,e2,c⟩,r⟩:=x;exact ⟨ho _ d,z,ne,k _ _ (.inl rfl) e,mA,⟨od,es,ep,k _ _ (.inr d) e2,c⟩,r⟩
 | own y=>obtain ⟨ob,e⟩:=x;exact ⟨ob,k _ _ (.inl rfl) e⟩
 | xd fs=>obtain ⟨mA,⟨od,es,ep,e,c⟩,r⟩:=x;exact ⟨mA,⟨od,es,ep,k _ _ (.inl rfl) e,c⟩,r⟩
 | rng lo hi=>obtain ⟨t,u,v,e⟩:=x;exact ⟨t,u,v,k _ _ (.inl rfl) e⟩
 | frz ob u ih=>obtain ⟨e,q⟩:=x;exact ⟨k _ _ (.inl rfl) e,ih q⟩
 | tbl ps =>
  have e:h.get? a=some { cls:=.none,data:=.fields ps }:=x;show h'.get? a=some { cls:=.none,data:=.fields ps };exact k a _ (.inl rfl) e
 | met f y =>
  have e:h.get? a=some (PySem.W.methodObj (.ref f) (.ref y)):=x;show h'.get? a=some (PySem.W.methodObj (.ref f) (.ref y));exact k a _ (.inl rfl) e
 | ext φ=>obtain ⟨p,⟨o,e⟩,st⟩:=x;exact ⟨st _ _ p fun o q=>k _ _ (.inl rfl) q,⟨o,k _ _ (.inl rfl) e⟩,st⟩
theorem HOk.lt (x:HOk P w H h) (e:H a=some o):a < h.objs.size:=(x a o e).lt
theorem HOk.fresh (x:HOk P w H h) (e:h.objs.size≤a):H a=none:=by
 cases q:H a with
 | none=>rfl
 | some u=>exact absurd (Z3 (x.lt q) e) (Zy _)
theorem HOk.kept (x:HOk P w H h) (k:∀ b u,h.get? b=some u→h'.get? b=some u):HOk P w H h':=fun a o e =>
 (x a o e).stay (fun b u _ q=>k b u q) (fun _ q=>q) fun _ _ q=>q
theorem HOk.laid (x:HOk P w H h) (k:∀ b u,h.get? b=some u→h'.get? b=some u) (hp:h.objs.size≤a) (new:ObjOk P w (upd H a o) h' a o):HOk P w (upd H a o) h':=fun b u e=>by
 have hn:=x.fresh hp;by_cases hb:b=a
 ·subst hb;rw [zA2] at e;cases e;exact new
 ·rw [zA9 hb] at e;exact (x b u e).stay (fun c v _ q=>k c v q) (fun c q=>by rw [zA9 (zA6 q hn)];exact q) fun c xs q=>by rw [zA9 (zA6 q hn)];exact q
end
noncomputable def Rd (H:Hp) (a:Addr) (u:HO):Prop:=H a=some u∨∃ o,H a=some (.frz o u)
theorem Rd.ok {P:Program}{w:World}{H:Hp}{h:Heap}{a:Addr}{u:HO} (r:Rd H a u) (x:HOk P w H h):ObjOk P w H h a u:=by
 rcases r with r | ⟨o,r⟩
 ·exact x a u r
 ·obtain ⟨_,q⟩:=x a _ r;exact q
noncomputable def Mut:Option HO→Prop
 | some (.lst _)=>True
 | some (.dK _)=>True
 | some (.dT _)=>True
 | some (.set _ _)=>True
 | some (.ins _ _ _)=>True
 | some (.ext _)=>True
 | _=>False
section
variable {P:Program}{w:World}{H:Hp}{h h':Heap}{x e:Addr}{o':HO}
theorem HOk.write (ok:HOk P w H h) (mu:Mut (H x)) (he:e=x∨H e=some (.own x)) (k:∀ b u,b≠e→h.get? b=some u→h'.get? b=some u) (heo:∃ u,h'.get? e=some u)
  (new:ObjOk P w (upd H x o') h' x o'):HOk P w (upd H x o') h':=fun b u q=>by
 have nown:∀ c y,H c=some (.own y)→c≠x:=fun c y r z=>by subst z;rw [r] at mu;exact mu
 have ntup:∀ c xs,H c=some (.tup xs)→c≠x:=fun c xs r z=>by subst z;rw [r] at mu;exact mu
 by_cases hb:b=x
 ·subst hb;rw [zA2] at q;cases q;exact new
 ·rw [zA9 hb] at q;by_cases hbe:b=e
  ·have q':H b=some (.own x):=by
    rcases he with z | z
    ·exact absurd (hbe.trans z) hb
    ·rw [hbe];exact z
   rw [q] at q';cases q';obtain ⟨v,hv⟩:=heo;exact ⟨v,by rw [hbe];exact hv⟩
  ·refine (ok b u q).stay (fun c v hc r=>k c v ?_ r) (fun c r=>by rw [zA9 (nown c b r)];exact r) fun c xs r=>by rw [zA9 (ntup c xs r)];exact r
   rcases hc with rfl | hc
   ·exact hbe
   ·rintro rfl;rcases he with z | z
    ·exact nown c b hc z
    ·rw [hc] at z;cases z;exact hb rfl
end
structure Un (fs ex:List Addr) (H H':Hp) (h h':Heap):Prop where
 keep:∀ b o,h.get? b=some o→H b=none→b∉fs→b∉ex→h'.get? b=some o
 slot:∀ b o,h.get? b=some o→H b=none→b∈fs→b∉ex→∃ sl,h'.get? b=some { o with slots:=sl }
 free:∀ b o,h.get? b=some o→H b=none→b∉ex→H' b=none
 there:∀ b o,h.get? b=some o→b∉ex→∃ o',h'.get? b=some o'
 tups:∀ b xs,H b=some (.tup xs)→H' b=some (.tup xs)
 frzs:∀ b o u,H b=some (.frz o u)→H' b=some (.frz o u)
 tbls:∀ b ps,H b=some (.tbl ps)→∃ more,H' b=some (.tbl (ps++more))
section
variable {fs fs' ex ex':List Addr}{H H1 H2:Hp}{h h1 h2 h':Heap}{a x e:Addr}{o:HO}
theorem Un.any (u:Un fs ex H H1 h h1) {b:Addr}{ob:Obj} (q:h.get? b=some ob) (n:H b=none) (hx:b∉ex):∃ sl,h1.get? b=some { ob with slots:=sl }:=by
 by_cases hb:b∈fs
 ·exact u.slot b ob q n hb hx
 ·exact ⟨ob.slots,u.keep b ob q n hb hx⟩
theorem Un.trans (a:Un fs ex H H1 h h1) (b:Un fs ex H1 H2 h1 h2):Un fs ex H H2 h h2 where
 keep:=fun c ob q n hc hx=>b.keep c ob (a.keep c ob q n hc hx) (a.free c ob q n hx) hc hx
 slot:=fun c ob q n hc hx=>by
  obtain ⟨sl,e1⟩:=a.slot c ob q n hc hx;obtain ⟨sl',e2⟩:=b.slot c _ e1 (a.free c ob q n hx) hc hx;exact ⟨sl',e2⟩
 free:=fun c ob q n hx=>by
  obtain ⟨o',e1⟩:=a.there c ob q hx;exact b.free c o' e1 (a.free c ob q n hx) hx
 there:=fun c ob q hx=>by
  obtain ⟨o',e1⟩:=a.there c ob q hx;exact b.there c o' e1 hx
 tups:=fun c xs q=>b.tups c xs (a.tups c xs q)
 frzs:=fun c ob xs q=>b.frzs c ob xs (a.frzs c ob xs q)
 tbls:=fun c ps q=>by
  obtain ⟨m1,e1⟩:=a.tbls c ps q;obtain ⟨m2,e2⟩:=b.tbls c _ e1;exact ⟨m1++m2,by rw [e2,Array.append_assoc]⟩
theorem Un.kept (k:∀ b u,h.get? b=some u→h'.get? b=some u):Un fs ex H H h h' :=
 ⟨fun b ob q _ _ _=>k b ob q,fun b ob q _ _ _=>⟨ob.slots,k b ob q⟩,fun _ _ _ n _=>n,fun b ob q _=>⟨ob,k b ob q⟩,fun _ _ q=>q,fun _ _ _ q=>q,fun _ ps q=>⟨#[],by rw [q];simp⟩⟩
theorem Un.refl:Un fs ex H H h h:=Un.kept fun _ _ q=>q
theorem Un.laid (k:∀ b u,h.get? b=some u→h'.get? b=some u) (hp:h.objs.size≤a) (hn:H a=none):Un fs ex H (upd H a o) h h' where
 keep:=fun b u q _ _ _=>k b u q
 slot:=fun b u q _ _ _=>⟨u.slots,k b u q⟩
 free:=fun b u q n _=>by rw [zA9 (Z4 (Z3 (Z2 q) hp))];exact n
 there:=fun b u q _=>⟨u,k b u q⟩
 tups:=fun b xs q=>by rw [zA9 (zA6 q hn)];exact q
 frzs:=fun b u xs q=>by rw [zA9 (zA6 q hn)];exact q
 tbls:=fun b ps q=>⟨#[],by rw [zA9 (zA6 q hn),q];simp⟩
theorem Un.write (mu:Mut (H x)) (he:e=x∨H e=some (.own x)) (k:∀ b u,b≠e→h.get? b=some u→h'.get? b=some u) (heo:∃ u,h'.get? e=some u):Un fs ex H (upd H x o) h h':=by
 have hx:∀ b,H b=none→b≠x:=fun b n z=>by subst z;rw [n] at mu;exact mu
 have hb:∀ b,H b=none→b≠e:=fun b n z=>by
  subst z;rcases he with r | r
  ·exact hx b n r
  ·rw [n] at r;cases r
 have hm:∀ b u,H b=some u→¬ Mut (some u)→b≠x:=fun b u q nm z=>by subst z;rw [q] at mu;exact nm mu
 refine ⟨fun b u q n _ _=>k b u (hb b n) q,fun b u q n _ _=>⟨u.slots,k b u (hb b n) q⟩,fun b u q n _=>by rw [zA9 (hx b n)];exact n,fun b u q _=>?_,
  fun b xs q=>by rw [zA9 (hm b _ q fun z=>z)];exact q,fun b u xs q=>by rw [zA9 (hm b _ q fun z=>z)];exact q,fun b ps q=>⟨#[],by rw [zA9 (hm b _ q fun z=>z),q];simp⟩⟩
 by_cases hbe:b=e
 ·subst hbe;exact heo
 ·exact ⟨u,k b u hbe q⟩
end
noncomputable def trk (h:Heap) (H:Hp):List Addr:=(List.range h.objs.size).filter fun a=>(H a).isSome
noncomputable def hidT (h:Heap) (H:Hp):Heap:=PySem.W.hideAll h (trk h H)
theorem hidT_size (h:Heap) (H:Hp):(hidT h H).objs.size=h.objs.size:=PySem.W.hideAll_size _ _
theorem hidT_get {h:Heap}{H:Hp}{b:Addr}{o:Obj} (e:h.get? b=some o) (n:H b=none):(hidT h H).get? b=some o :=
 PySem.W.hideAll_get _ e fun hm=>by
  have q:(H b).isSome=true:=(List.mem_filter.mp hm).2;rw [n] at q;simp at q
theorem of_hidT {h:Heap}{H:Hp}{b:Addr}{o:Obj} (e:(hidT h H).get? b=some o):h.get? b=some o∧H b=none:=by
 have e':h.get? b=some o:=PySem.W.of_hideAll (trk h H) e;refine ⟨e',?_⟩;cases q:H b with
 | none=>rfl
 | some x =>
  have hm:b∈trk h H:=List.mem_filter.mpr ⟨List.mem_range.mpr (Z2 e'),by simp [q]⟩;have z:(hidT h H).get? b=none:=PySem.W.hideAll_none (trk h H) hm;rw [z] at e;cases e
noncomputable def allNews (g h:Heap) (L:Addr):List (Addr×Obj):=(List.range h.objs.size).filterMap fun a=>if a=L∨(g.get? a).isSome=true then none else (h.get? a).map fun o=>(a,o)
noncomputable def rest (g h:Heap) (L d:Addr):List (Addr×Obj):=(allNews g h L).filter fun p=>decide (p.1≠d)
end L2
namespace L2
open PySem PySem.Spec PyProof.Rows
structure Mod (K:PySem.W.Frag) (mg:Str→Option Value) (base:Heap):Prop where
 kin:K.In base
 glob:base.Ns mainGlobals mg
 blt:∃ mb,base.Ns builtinsNs mb∧∀ x:Str,x≠"__name__"→mb x=bootBuiltins x
 nolimit:base.NoLimit
structure Cx where
 prog:Program
 w:World
 K:PySem.W.Frag
 mg:Str→Option Value
 base:Heap
 A:Around
 N:List Str
 s₀ : Shared
 H₀ : Hp
 env:Env
 outer:List Env
 stack:List Env
 ex:List Addr
 fn:Str→Bool
 calm:Bool
 pn:List (Addr×Obj)
 xe:Value→Shared→Prop
noncomputable def frs (l:List Env):List Addr:=l.filterMap (·.frame)
noncomputable abbrev Cx.fs (X:Cx):List Addr:=frs X.outer
noncomputable def Vis (sc:Scope) (x:Str):Prop:=sc.names.lookup x=some .local∨sc.names.lookup x=some .cell∨sc.names.lookup x=some .free
noncomputable def Loc (sc:Scope) (x:Str):Prop:=sc.names.lookup x=some .local∨sc.names.lookup x=some .cell
noncomputable def Look (env:Env) (h:Heap) (m:Str→Option Value) (x:Str) (u:Value):Prop :=
 (env.kindOf x=some .local∧m x=some u)∨((env.kindOf x=some .cell∨env.kindOf x=some .free)∧∃ c,env.cells.lookup x=some c∧h.IsCell c (some u))
structure Cx.Ok (X:Cx):Prop where
 mod:Mod X.K X.mg X.base
 kind:X.env.scope.kind=.function
 glob:X.env.globals=mainGlobals
 blt:X.env.builtins=builtinsNs
 above:X.s₀.heap.objs.size≤X.env.locals
 inj:∀ x y c,X.env.cells.lookup x=some c→X.env.cells.lookup y=some c→x=y
 has:∀ x,(X.env.kindOf x=some .cell∨X.env.kindOf x=some .free)→∃ c,X.env.cells.lookup x=some c
 cab:∀ x c,X.fn x=true→X.env.cells.lookup x=some c→X.s₀.heap.objs.size≤c
 hd:X.calm=true→X.A.handled=none
 frames:X.A.frames=some X.stack
 stk:X.stack=X.outer∨(X.stack=X.env :: X.outer∧X.env.frame=some X.env.locals)
 exf:∀ b∈X.ex,b≠X.env.locals∧∀ x c,X.env.cells.lookup x=some c→c≠b
 bs:∀ b o,X.base.get? b=some o→X.s₀.heap.get? b=some o∧X.H₀ b=none
 bsz:X.base.objs.size≤X.s₀.heap.objs.size
 noex:∀ b o,X.base.get? b=some o→b∉X.ex
 exfs:∀ b∈X.ex,b∉X.fs
 funs:X.s₀.heap.FunFrames X.base X.outer
 frf:∀ b∈X.fs,X.H₀ b=none
structure Inv (X:Cx) (pins:List (Addr×Obj)) (σ : List (Option V)) (H:Hp) (s:Shared):Prop where
 ok:X.Ok
 os:s.os=X.s₀.os
 bare:AllBare s.gens
 base:Un X.fs X.ex X.H₀ H X.s₀.heap s.heap
 loc:∃ m,s.heap.Ns X.env.locals m∧∀ (i:Nat) (x:Str) (v:V),X.N[i]? = some x→σ[i]? = some (some v)→Vis X.env.scope x→∃ u,RelV v u∧Look X.env s.heap m x u
 cell:∀ x c,X.env.cells.lookup x=some c→∃ v,s.heap.IsCell c v
 free:H X.env.locals=none
 freeC:∀ x c,X.env.cells.lookup x=some c→H c=none
 pin:∀ p∈X.pn++pins,s.heap.get? p.1=some p.2∧H p.1=none∧p.1≠X.env.locals∧p.1∉X.fs∧∀ v,p.2.data≠.cell v
 hok:HOk X.prog X.w H s.heap
 len : σ.length=X.N.length
section
variable {X:Cx}{pins:List (Addr×Obj)}{σ : List (Option V)}{H H':Hp}{s:Shared}{h':Heap}
theorem Cx.Ok.nofr (ok:X.Ok) {b:Addr}{o:Obj} (e:X.base.get? b=some o):b∉X.fs:=fun hb=>by
 have:=(ok.funs.mem hb).1;rw [e] at this;cases this
theorem Inv.bs (I:Inv X pins σ H s):∀ b o,X.base.get? b=some o→s.heap.get? b=some o∧H b=none:=fun b o e =>
 ⟨I.base.keep b o (I.ok.bs b o e).1 (I.ok.bs b o e).2 (I.ok.nofr e) (I.ok.noex b o e),I.base.free b o (I.ok.bs b o e).1 (I.ok.bs b o e).2 (I.ok.noex b o e)⟩
theorem Inv.bk (I:Inv X pins σ H s):∀ b o,X.base.get? b=some o→s.heap.get? b=some o:=fun b o e=>(I.bs b o e).1
theorem Inv.mod (I:Inv X pins σ H s):Mod X.K X.mg X.base:=I.ok.mod
theorem Inv.kIn (I:Inv X pins σ H s):X.K.In s.heap:=I.ok.mod.kin.keeps I.bk
theorem Inv.lt (I:Inv X pins σ H s):X.env.locals < s.heap.objs.size:=let ⟨_,hn,_⟩:=I.loc;hn.lt
theorem Inv.sz (I:Inv X pins σ H s):X.s₀.heap.objs.size≤s.heap.objs.size:=Zs I.ok.above (Zh I.lt)
theorem Inv.nofs (I:Inv X pins σ H s) {a:Addr} (h:s.heap.objs.size≤a):a∉X.fs:=fun hb=>by
 obtain ⟨_,o,ho,_⟩:=I.ok.funs.mem hb;exact absurd (Z3 (Z2 ho) (Zs I.sz h)) (Zy _)
theorem Inv.cne (I:Inv X pins σ H s):∀ x c,X.env.cells.lookup x=some c→c≠X.env.locals:=fun x c e z=>by
 obtain ⟨v,o,ho,hd⟩:=I.cell x c e;obtain ⟨m,⟨o',es,ep,ho',hd',_⟩,_⟩:=I.loc;rw [z,ho'] at ho;cases ho;rw [hd'] at hd;cases hd
theorem Inv.funs (I:Inv X pins σ H s):s.heap.FunFrames X.base X.outer:=by
 have all:∀ (l:List Env),(∀ b∈frs l,b∈X.fs)→X.s₀.heap.FunFrames X.base l→s.heap.FunFrames X.base l:=by
  intro l
  induction l with
  | nil=>intro _ _;trivial
  | cons env r ih =>
   intro hs hl;obtain ⟨hk,⟨L,o,hf,hn,ho,hd⟩,hr⟩:=hl;have hL:L∈X.fs:=hs L (by unfold frs;rw [Y3,hf];exact Zg);obtain ⟨sl,e⟩:=I.base.slot L o ho (I.ok.frf L hL) hL fun z=>I.ok.exfs L z hL;exact ⟨hk,⟨L,_,hf,hn,e,hd⟩,ih (fun b hb=>hs b (by unfold frs;rw [Y3,hf];exact Z9 _ hb)) hr⟩
 exact all X.outer (fun _ hb=>hb) I.ok.funs
theorem Inv.stack (I:Inv X pins σ H s):s.heap.FunFrames X.base X.stack:=by
 rcases I.ok.stk with e | ⟨e,hf⟩
 ·rw [e];exact I.funs
 ·rw [e];obtain ⟨m,hn,_⟩:=I.loc;refine .cons (by rw [I.ok.kind];decide) hf hn ?_ I.funs;exact Y1 (Zs I.ok.bsz I.ok.above)
theorem Inv.stkSub (I:Inv X pins σ H s):∀ b∈frs X.stack,b∈X.env.locals :: X.fs:=fun b hb=>by
 rcases I.ok.stk with e | ⟨e,hf⟩
 ·rw [e] at hb;exact Z9 _ hb
 ·rw [e] at hb;unfold frs at hb;rw [Y3,hf] at hb;exact hb
theorem Inv.stkFree (I:Inv X pins σ H s):∀ b∈frs X.stack,H b=none:=fun b hb=>by
 rcases List.mem_cons.mp (I.stkSub b hb) with e | hb
 ·rw [e];exact I.free
 ·obtain ⟨_,o,ho,_⟩:=I.ok.funs.mem hb;exact I.base.free b o ho (I.ok.frf b hb) fun z=>I.ok.exfs b z hb
theorem Inv.step {g':Array GenState}{t':Nat}{d':Drawn}{ch:List Addr} (I:Inv X pins σ H s)
  (hch:∀ b∈ch,(b∈X.ex∨X.s₀.heap.get? b=none)∧b≠X.env.locals∧(∀ x c,X.env.cells.lookup x=some c→c≠b)∧∀ p∈X.pn++pins,p.1≠b)
  (keep:∀ b o,b≠X.env.locals→b∉X.fs→b∉ch→s.heap.get? b=some o→H b=none→h'.get? b=some o)
  (slot:∀ b o,b≠X.env.locals→b∈X.fs→b∉ch→s.heap.get? b=some o→H b=none→∃ sl,h'.get? b=some { o with slots:=sl }) (free:∀ b o,b∉ch→s.heap.get? b=some o→H b=none→H' b=none)
  (there:∀ b o,b∉ch→s.heap.get? b=some o→∃ o',h'.get? b=some o')
  (tups:∀ b xs,H b=some (.tup xs)→H' b=some (.tup xs)) (frzs:∀ b o u,H b=some (.frz o u)→H' b=some (.frz o u)) (tbls:∀ b ps,H b=some (.tbl ps)→∃ more,H' b=some (.tbl (ps++more)))
  (ns:∀ m,s.heap.Ns X.env.locals m→h'.Ns X.env.locals m) (hok:HOk X.prog X.w H' h') (hg:AllBare g') :
  Inv X pins σ H' { s with heap:=h',gens:=g',drawn:=d',toks:=t' }:=by
 have neL:∀ b o,X.s₀.heap.get? b=some o→b≠X.env.locals:=fun b o e=>Z4 (Z3 (Z2 e) I.ok.above);have neC:∀ b o,X.s₀.heap.get? b=some o→b∉X.ex→b∉ch:=fun b o e hx hb=>by
  rcases (hch b hb).1 with z | z
  ·exact hx z
  ·rw [z] at e;cases e
 have cellK:∀ x c,X.env.cells.lookup x=some c→∀ v,s.heap.IsCell c v→h'.IsCell c v:=fun x c e v ⟨o,ho,hd⟩=>by
  have nch:c∉ch:=fun z=>(hch c z).2.2.1 x c e rfl;by_cases hc:c∈X.fs
  ·obtain ⟨sl,q⟩:=slot c o (I.cne x c e) hc nch ho (I.freeC x c e);exact ⟨_,q,hd⟩
  ·exact ⟨o,keep c o (I.cne x c e) hc nch ho (I.freeC x c e),hd⟩
 refine ⟨I.ok,I.os,hg,⟨fun b o e n hb hx=>?_,fun b o e n hb hx=>?_,fun b o e n hx=>?_,fun b o e hx=>?_,fun b xs e=>tups b xs (I.base.tups b xs e),fun b o xs e=>frzs b o xs (I.base.frzs b o xs e),fun b ps e=>?_⟩,?_,fun x c e=>?_,?_,fun x c e=>?_,fun p hp=>?_,hok,I.len⟩
 ·exact keep b o (neL b o e) hb (neC b o e hx) (I.base.keep b o e n hb hx) (I.base.free b o e n hx)
 ·obtain ⟨sl,e1⟩:=I.base.slot b o e n hb hx;obtain ⟨sl',e2⟩:=slot b _ (neL b o e) hb (neC b o e hx) e1 (I.base.free b o e n hx);exact ⟨sl',e2⟩
 ·obtain ⟨o',e1⟩:=I.base.there b o e hx;exact free b o' (neC b o e hx) e1 (I.base.free b o e n hx)
 ·obtain ⟨o',e1⟩:=I.base.there b o e hx;exact there b o' (neC b o e hx) e1
 ·obtain ⟨m1,e1⟩:=I.base.tbls b ps e;obtain ⟨m2,e2⟩:=tbls b _ e1;exact ⟨m1++m2,by rw [e2,Array.append_assoc]⟩
 ·obtain ⟨m,hn,hl⟩:=I.loc;refine ⟨m,ns m hn,fun i x v e1 e2 e3=>?_⟩;obtain ⟨u,r,l⟩:=hl i x v e1 e2 e3;refine ⟨u,r,?_⟩;rcases l with l | ⟨k,c,e,z⟩
  ·exact .inl l
  ·exact .inr ⟨k,c,e,cellK x c e _ z⟩
 ·obtain ⟨v,z⟩:=I.cell x c e;exact ⟨v,cellK x c e v z⟩
 ·obtain ⟨m,⟨o,_,_,ho,_⟩,_⟩:=I.loc;exact free _ o (fun z=>(hch _ z).2.1 rfl) ho I.free
 ·obtain ⟨v,o,ho,hd⟩:=I.cell x c e;exact free c o (fun z=>(hch c z).2.2.1 x c e rfl) ho (I.freeC x c e)
 ·obtain ⟨e,n,ne,nf,d⟩:=I.pin p hp;have nch:p.1∉ch:=fun z=>(hch p.1 z).2.2.2 p hp rfl;exact ⟨keep p.1 p.2 ne nf nch e n,free p.1 p.2 nch e n,ne,nf,d⟩
theorem Inv.un {t':Nat} (I:Inv X pins σ H s) (u:Un X.fs [] H H' s.heap h') (hok:HOk X.prog X.w H' h'):Inv X pins σ H' { s with heap:=h',toks:=t' }:=by
 obtain ⟨m,⟨o,es,ep,ho,r⟩,_⟩:=id I.loc;obtain ⟨sl,hL⟩:=u.any ho I.free (by simp)
 exact I.step (g':=s.gens) (d':=s.drawn) (ch:=[]) (fun _ z=>nomatch z) (fun b o _ hb _ e n=>u.keep b o e n hb (by simp)) (fun b o _ hb _ e n=>u.slot b o e n hb (by simp)) (fun b o _ e n=>u.free b o e n (by simp)) (fun b o _ e=>u.there b o e (by simp)) u.tups u.frzs u.tbls (fun m' hm=>by
  obtain ⟨o',es',ep',ho',r'⟩:=hm;rw [ho] at ho';cases ho'
  exact ⟨_,es',ep',hL,r'⟩) hok I.bare
theorem Inv.call {g':Array GenState}{t':Nat}{d':Drawn}{ch:List Addr} (I:Inv X pins σ H s) (u:Un (frs X.stack) ch H H' s.heap h') (hok:HOk X.prog X.w H' h') (hg:AllBare g')
  (hch:∀ b∈ch,(b∈X.ex∨X.s₀.heap.objs.size≤b)∧b≠X.env.locals∧(∀ x c,X.env.cells.lookup x=some c→c≠b)∧∀ p∈X.pn++pins,p.1≠b) :
  Inv X pins σ H' { s with heap:=h',gens:=g',drawn:=d',toks:=t' }:=by
 obtain ⟨m,⟨o,es,ep,ho,r⟩,_⟩:=id I.loc;obtain ⟨sl,hL⟩:=u.any ho I.free fun z=>(hch _ z).2.1 rfl
 exact I.step (ch:=ch) (fun b hb=>⟨(hch b hb).1.imp_right fun z=>Y1 z,(hch b hb).2⟩) (fun b o hL hb hc e n=>u.keep b o e n (fun z=>(List.mem_cons.mp (I.stkSub b z)).elim hL hb) hc) (fun b o _ _ hc e n=>u.any e n hc) (fun b o hc e n=>u.free b o e n hc) (fun b o hc e=>u.there b o e hc) u.tups u.frzs u.tbls (fun m' hm=>by
  obtain ⟨o',es',ep',ho',r'⟩:=hm;rw [ho] at ho';cases ho'
  exact ⟨_,es',ep',hL,r'⟩) hok hg
theorem Inv.turned {t':Nat}{it:Addr} (I:Inv X pins σ H s) (k:∀ b o,b≠it→s.heap.get? b=some o→h'.get? b=some o) (hn:H it=none) (hL:it≠X.env.locals)
  (h1:it∈X.ex∨X.s₀.heap.objs.size≤it) (h2:∀ x c,X.env.cells.lookup x=some c→c≠it) (h3:∀ p∈X.pn++pins,p.1≠it):Inv X pins σ H { s with heap:=h',toks:=t' }:=by
 have nit:∀ b u,H b=some u→b≠it:=fun b u e z=>by rw [z,hn] at e;cases e
 refine I.step (g':=s.gens) (d':=s.drawn) (ch:=[it]) (fun b hb=>?_) (fun b o _ _ hc e _=>k b o (fun z=>hc (by simp [z])) e) (fun b o _ _ hc e _=>⟨o.slots,k b o (fun z=>hc (by simp [z])) e⟩) (fun _ _ _ _ n=>n)
  (fun b o hc e=>⟨o,k b o (fun z=>hc (by simp [z])) e⟩) (fun _ _ e=>e) (fun _ _ _ e=>e) (fun b ps e=>⟨#[],by rw [e];simp⟩) (fun m hm=>?_) (fun b u e=>?_) I.bare
 ·have e:b=it:=by simpa using hb
  subst e;exact ⟨h1.imp_right fun z=>Y1 z,hL,h2,h3⟩
 ·obtain ⟨o,es,ep,ho,r⟩:=hm;exact ⟨o,es,ep,k _ o (Ne.symm hL) ho,r⟩
 ·refine (I.hok b u e).stay (fun c v hc q=>k c v ?_ q) (fun _ q=>q) fun _ _ q=>q;rcases hc with z | z
  ·rw [z];exact nit b u e
  ·exact nit c _ z
theorem Inv.tok (I:Inv X pins σ H s) (t:Nat):Inv X pins σ H { s with toks:=t }:=I.un (h':=s.heap) (t':=t) Un.refl I.hok
theorem Inv.kept {t':Nat} (I:Inv X pins σ H s) (k:∀ b u,s.heap.get? b=some u→h'.get? b=some u):Inv X pins σ H { s with heap:=h',toks:=t' }:=I.un (Un.kept k) (I.hok.kept k)
theorem Inv.laid {a:Addr}{o:HO}{t':Nat} (I:Inv X pins σ H s) (k:∀ b u,s.heap.get? b=some u→h'.get? b=some u) (hp:s.heap.objs.size≤a) (new:ObjOk X.prog X.w (upd H a o) h' a o) :
  Inv X pins σ (upd H a o) { s with heap:=h',toks:=t' }:=I.un (Un.laid k hp (I.hok.fresh hp)) (I.hok.laid k hp new)
theorem Inv.write {x e:Addr}{o:HO}{t':Nat} (I:Inv X pins σ H s) (mu:Mut (H x)) (he:e=x∨H e=some (.own x)) (k:∀ b u,b≠e→s.heap.get? b=some u→h'.get? b=some u) (heo:∃ u,h'.get? e=some u)
  (new:ObjOk X.prog X.w (upd H x o) h' x o):Inv X pins σ (upd H x o) { s with heap:=h',toks:=t' }:=I.un (Un.write mu he k heo) (I.hok.write mu he k heo new)
theorem Inv.pins_of {pins':List (Addr×Obj)} (I:Inv X pins σ H s) (h:∀ p∈pins',s.heap.get? p.1=some p.2∧H p.1=none∧p.1≠X.env.locals∧p.1∉X.fs∧∀ v,p.2.data≠.cell v):Inv X pins' σ H s :=
 ⟨I.ok,I.os,I.bare,I.base,I.loc,I.cell,I.free,I.freeC,fun p hp=>(List.mem_append.mp hp).elim (fun z=>I.pin p (Y2 _ z)) (h p),I.hok,I.len⟩
theorem zDc {N:List Str} (hN:N.Nodup) {i j:Nat}{x:Str} (a:N[i]? = some x) (b:N[j]? = some x):i=j:=by
 obtain ⟨h1,e1⟩:=List.getElem?_eq_some_iff.mp a;obtain ⟨h2,e2⟩:=List.getElem?_eq_some_iff.mp b;exact (List.getElem_inj hN).mp (e1.trans e2.symm)
theorem store_ok2 {M:Model}{A:Around}{E:Value→Shared→Prop}{i:Nat}{x:Str}{v:V}{u:Value}{Q:Unit→Shared→Prop} (I:Inv X pins σ H s) (hN:X.N.Nodup) (hi:X.N[i]? = some x) (hx:Loc X.env.scope x) (r:RelV v u)
  (h:∀ s',Inv X pins (σ.set i (some v)) H s'→(∃ a,Heap.SameBut a s.heap s'.heap∧(a=X.env.locals∨X.env.cells.lookup x=some a))→Q () s') (hf:X.fn x=true∨X.env.scope.names.lookup x=some .local:=by first | exact .inl rfl | exact .inr rfl | assumption):wpAny M A (storeName X.env x u) Q E s:=by
 obtain ⟨m,hn,hl⟩:=id I.loc;have hcls:(X.env.scope.kind == .class || (X.env.scope.kind == .module && X.env.locals != X.env.globals))=false:=by rw [I.ok.kind];rfl
 have hiσ : i < σ.length:=by rw [I.len];exact (List.getElem?_eq_some_iff.mp hi).1
 have cne:=I.cne;have tracked:∀ {a:Addr}{h':Heap},(∃ o,s.heap.get? a=some o∧H a=none)→Heap.SameBut a s.heap h'→HOk X.prog X.w H h':=fun {a h'} ha hs b ob e=>by
  obtain ⟨_,_,hfree⟩:=ha;refine (I.hok b ob e).stay (fun c w' hc q=>(hs.2 c ?_).trans q) (fun _ q=>q) fun _ _ q=>q;rintro rfl;rcases hc with rfl | hc
  ·rw [hfree] at e;cases e
  ·rw [hfree] at hc;cases hc
 rcases hx with hk | hk
 ·refine wpAny_storeName_local hk hn (fun h' hn' hs=>?_) hcls;obtain ⟨oL,_,_,hoL,_⟩:=id hn;refine h _ ⟨I.ok,I.os,I.bare,⟨fun b o e n hb hx=>?_,fun b o e n hb hx=>?_,I.base.free,fun b o e hx=>?_,I.base.tups,I.base.frzs,I.base.tbls⟩,⟨_,hn',fun j y v' e1 e2 e3=>?_⟩,fun y c e=>?_,I.free,I.freeC,fun p hp=>?_,tracked ⟨oL,hoL,I.free⟩ hs,by simpa using I.len⟩ ⟨_,hs,.inl rfl⟩
  ·exact (hs.2 b (Z4 (Z3 (Z2 e) I.ok.above))).trans (I.base.keep b o e n hb hx)
  ·obtain ⟨sl,e1⟩:=I.base.slot b o e n hb hx;exact ⟨sl,(hs.2 b (Z4 (Z3 (Z2 e) I.ok.above))).trans e1⟩
  ·obtain ⟨o',e1⟩:=I.base.there b o e hx;exact ⟨o',(hs.2 b (Z4 (Z3 (Z2 e) I.ok.above))).trans e1⟩
  ·by_cases hj:j=i
   ·subst hj;rw [hi] at e1;cases e1;rw [List.getElem?_set_self hiσ] at e2;cases e2;exact ⟨u,r,.inl ⟨hk,by simp⟩⟩
   ·rw [Y5 (Ne.symm hj)] at e2;obtain ⟨u',r',q⟩:=hl j y v' e1 e2 e3;refine ⟨u',r',?_⟩;rcases q with ⟨k,e⟩ | ⟨k,c,e,z⟩
    ·refine .inl ⟨k,?_⟩;have:y≠x:=fun e=>hj (zDc hN e1 (e ▸ hi));simp [this,e]
    ·exact .inr ⟨k,c,e,z.sameBut hs (cne y c e)⟩
  ·obtain ⟨w',z⟩:=I.cell y c e;exact ⟨w',z.sameBut hs (cne y c e)⟩
  ·obtain ⟨e,n,ne,nf,d⟩:=I.pin p hp;exact ⟨(hs.2 p.1 ne).trans e,n,ne,nf,d⟩
 ·have hfn:X.fn x=true:=by
   rcases hf with z | z
   ·exact z
   ·rw [z] at hk;cases hk
  obtain ⟨c,hc⟩:=I.ok.has x (.inl hk);obtain ⟨w',z⟩:=I.cell x c hc;refine wpAny_storeName_cell I.ok.kind hk hc z (fun h' hc' hs=>?_);obtain ⟨oc,hoc,hocd⟩:=id z;refine h { s with heap:=h' } ⟨I.ok,I.os,I.bare,⟨fun b o e n hb hx=>?_,fun b o e n hb hx=>?_,I.base.free,fun b o e hx=>?_,I.base.tups,I.base.frzs,I.base.tbls⟩,⟨m,hn.sameBut hs (Ne.symm (cne x c hc)),fun j y v' e1 e2 e3=>?_⟩,fun y c' e=>?_,I.free,I.freeC,fun p hp=>?_,tracked ⟨oc,hoc,I.freeC x c hc⟩ hs,by simpa using I.len⟩ ⟨c,hs,.inr hc⟩
  ·exact (hs.2 b (Z4 (Z3 (Z2 e) (I.ok.cab x c hfn hc)))).trans (I.base.keep b o e n hb hx)
  ·obtain ⟨sl,e1⟩:=I.base.slot b o e n hb hx;exact ⟨sl,(hs.2 b (Z4 (Z3 (Z2 e) (I.ok.cab x c hfn hc)))).trans e1⟩
  ·obtain ⟨o',e1⟩:=I.base.there b o e hx;exact ⟨o',(hs.2 b (Z4 (Z3 (Z2 e) (I.ok.cab x c hfn hc)))).trans e1⟩
  ·by_cases hj:j=i
   ·subst hj;rw [hi] at e1;cases e1;rw [List.getElem?_set_self hiσ] at e2;cases e2;exact ⟨u,r,.inr ⟨.inl hk,c,hc,hc'⟩⟩
   ·rw [Y5 (Ne.symm hj)] at e2;obtain ⟨u',r',q⟩:=hl j y v' e1 e2 e3;refine ⟨u',r',?_⟩;rcases q with q | ⟨k,c',e,z'⟩
    ·exact .inl q
    ·refine .inr ⟨k,c',e,z'.sameBut hs ?_⟩;rintro rfl;exact hj (zDc hN e1 (I.ok.inj _ _ _ e hc ▸ hi))
  ·by_cases hcc:c'=c
   ·subst hcc;exact ⟨_,hc'⟩
   ·obtain ⟨w2,z2⟩:=I.cell y c' e;exact ⟨w2,z2.sameBut hs hcc⟩
  ·obtain ⟨e,n,ne,nf,d⟩:=I.pin p hp;refine ⟨(hs.2 p.1 ?_).trans e,n,ne,nf,d⟩;intro q;rw [q,hoc] at e;have q':oc=p.2:=Zd e;exact d w' (by rw [← q'];exact hocd)
theorem zD1 {M:Model}{A:Around}{E:Value→Shared→Prop}{i:Nat}{x:Str}{v:V}{u:Value}{Q:Unit→Shared→Prop} (I:Inv X pins σ H s) (hN:X.N.Nodup) (hi:X.N[i]? = some x) (hx:Loc X.env.scope x) (r:RelV v u)
  (h:∀ s',Inv X pins (σ.set i (some v)) H s'→Q () s') (hf:X.fn x=true∨X.env.scope.names.lookup x=some .local:=by first | exact .inl rfl | exact .inr rfl | assumption):wpAny M A (storeName X.env x u) Q E s :=
 store_ok2 I hN hi hx r (fun s' I' _=>h s' I') hf
theorem Inv.call' {s':Shared}{ch:List Addr} (I:Inv X pins σ H s) (ho:s'.os=s.os) (u:Un (frs X.stack) ch H H' s.heap s'.heap) (hok:HOk X.prog X.w H' s'.heap) (hg:AllBare s'.gens)
  (hch:∀ b∈ch,(b∈X.ex∨X.s₀.heap.objs.size≤b)∧b≠X.env.locals∧(∀ x c,X.env.cells.lookup x=some c→c≠b)∧∀ p∈X.pn++pins,p.1≠b):Inv X pins σ H' s':=by
 obtain ⟨h',g',d',t',o'⟩:=s';have e:o'=s.os:=ho;subst e;exact I.call (g':=g') (t':=t') (d':=d') u hok hg hch
end
noncomputable abbrev XK:=Value→Option Addr→Hp→Prop
noncomputable abbrev St:=List (Option V)
noncomputable abbrev VK:=V→Hp→Prop
noncomputable abbrev TE:=St→Hp→VK→Prop
noncomputable abbrev TT:=St→Hp→(Bool→Hp→Prop)→Prop
noncomputable abbrev TA:=St→Hp→(List V→Hp→Prop)→Prop
structure Ends where
 nx:St→Hp→Prop
 rt:VK
 bk:St→Hp→Prop:=fun _ _=>False
 ct:St→Hp→Prop:=fun _ _=>False
noncomputable abbrev TS:=Ends→St→Hp→Prop
noncomputable def EP (X:Cx) (pins:List (Addr×Obj)) (σ : St) (Q:VK) (u:Value) (s':Shared):Prop:=∃ v H',Inv X pins σ H' s'∧RelV v u∧Q v H'
noncomputable def TP (X:Cx) (pins:List (Addr×Obj)) (σ : St) (Q:Bool→Hp→Prop) (b:Bool) (s':Shared):Prop:=∃ H',Inv X pins σ H' s'∧Q b H'
noncomputable def AP (X:Cx) (pins:List (Addr×Obj)) (σ : St) (Q:List V→Hp→Prop) (us:List Value) (s':Shared):Prop:=∃ vs H',Inv X pins σ H' s'∧Vals vs us∧Q vs H'
noncomputable def SP (X:Cx) (pins:List (Addr×Obj)) (D:Ends) (f:Flow) (s':Shared):Prop :=
 match f with
 | .next=>∃ σ' H',Inv X pins σ' H' s'∧D.nx σ' H'
 | .brk=>∃ σ' H',Inv X pins σ' H' s'∧D.bk σ' H'
 | .cont=>∃ σ' H',Inv X pins σ' H' s'∧D.ct σ' H'
 | .ret u=>∃ v σ' H',Inv X pins σ' H' s'∧RelV v u∧D.rt v H'
noncomputable def PE (X:Cx) (e:Expr) (t:TE):Prop :=
 ∀ (pins:List (Addr×Obj)) (s:Shared) (σ : St) (H:Hp) (Q:VK),Inv X pins σ H s→t σ H Q→wpAny (model X.prog X.w) X.A (eval e X.env) (EP X pins σ Q) X.xe s
noncomputable def PT (X:Cx) (e:Expr) (t:TT):Prop :=
 ∀ (pins:List (Addr×Obj)) (s:Shared) (σ : St) (H:Hp) (Q:Bool→Hp→Prop),Inv X pins σ H s→t σ H Q→wpAny (model X.prog X.w) X.A (isTrue e X.env (eval e X.env)) (TP X pins σ Q) X.xe s
noncomputable def PW (X:Cx) (e:Expr) (t:TT):Prop :=
 ∀ (whole:Sem Value) (pins:List (Addr×Obj)) (s:Shared) (σ : St) (H:Hp) (Q:Bool→Hp→Prop),Inv X pins σ H s→t σ H Q→wpAny (model X.prog X.w) X.A (isTrue e X.env whole) (TP X pins σ Q) X.xe s
theorem PW.pt {X:Cx}{e:Expr}{t:TT} (h:PW X e t):PT X e t:=h _
noncomputable def PA (X:Cx) (es:List Expr) (t:TA):Prop :=
 ∀ (pos:Pos) (pins:List (Addr×Obj)) (s:Shared) (σ : St) (H:Hp) (Q:List V→Hp→Prop),Inv X pins σ H s→t σ H Q→wpAny (model X.prog X.w) X.A (spliced (backTo pos (starEach es X.env))) (AP X pins σ Q) X.xe s
noncomputable def PS (X:Cx) (st:Stmt) (t:TS):Prop :=
 ∀ (pins:List (Addr×Obj)) (s:Shared) (σ : St) (H:Hp) (D:Ends),Inv X pins σ H s→t D σ H→wpAny (model X.prog X.w) X.A (exec st X.env) (SP X pins D) X.xe s
noncomputable def PSs (X:Cx) (st:List Stmt) (t:TS):Prop :=
 ∀ (pins:List (Addr×Obj)) (s:Shared) (σ : St) (H:Hp) (D:Ends),Inv X pins σ H s→t D σ H→wpAny (model X.prog X.w) X.A (execs st X.env) (SP X pins D) X.xe s
theorem thn {α : Type}{t:Sem α}{Q Q' : α→Shared→Prop}{M:Model}{A:Around}{E:Value→Shared→Prop}{s:Shared} (h:wpAny M A t Q E s) (hQ:∀ a s,Q a s→Q' a s):wpAny M A t Q' E s:=wpAny_mono h hQ fun _ _ x=>x
end L2
namespace L2
open PySem PySem.Spec PyProof.Rows
section
variable {X:Cx}
theorem bin {a b:Expr}{ta tb:TE} (ha:PE X a ta) (hb:PE X b tb) {pins:List (Addr×Obj)}{s:Shared}{σ : St}{H:Hp}{R:V→V→Hp→Prop} (I:Inv X pins σ H s) (h:ta σ H fun x H1=>tb σ H1 fun y H2=>R x y H2)
  {α : Type}{Q : α→Shared→Prop}{f:Value→Value→Sem α}
  (hf:∀ v u s2 x y H2,Inv X pins σ H2 s2→RelV x v→RelV y u→R x y H2→wpAny (model X.prog X.w) X.A (f v u) Q X.xe s2) :
  wpAny (model X.prog X.w) X.A (eval a X.env) (fun v s₁=>wpAny (model X.prog X.w) X.A (eval b X.env) (fun u s₂=>wpAny (model X.prog X.w) X.A (f v u) Q X.xe s₂) X.xe s₁) X.xe s:=by
 refine thn (ha pins s σ H _ I h) fun v s1 ⟨x,H1,I1,r1,q1⟩=>?_;refine thn (hb pins s1 σ H1 _ I1 q1) fun u s2 ⟨y,H2,I2,r2,q2⟩=>?_;exact hf v u s2 x y H2 I2 r1 r2 q2
noncomputable def tVar (i:Nat):TE:=fun σ H Q=>∃ v,σ[i]? = some (some v)∧Q v H
noncomputable def tC (v:V):TE:=fun _ H Q=>Q v H
theorem pe_var {i:Nat}{x:Str}{pos:Pos} (hN:X.N[i]? = some x) (hv:Vis X.env.scope x) (hd:(x == ("__debug__" : Str))=false:=by decide) (hcd:(x == ("__classdict__" : Str))=false:=by decide):PE X (.Name x pos) (tVar i):=by
 intro pins s σ H Q I h;obtain ⟨v,e,h⟩:=h;obtain ⟨m,hn,hl⟩:=I.loc;obtain ⟨u,r,l⟩:=hl i x v hN e hv;have fin:EP X pins σ Q u s:=⟨v,H,I,r,h⟩;rcases l with ⟨hk,hm⟩ | ⟨hk,c,hc,hcell⟩
 ·exact wpAny_Name (wpAny_loadName_local I.ok.kind hk hn hm fin) hd
 ·rcases hk with hk | hk
  ·exact wpAny_Name (wpAny_loadName_cell I.ok.kind hk hc hcell fin) hd
  ·exact wpAny_Name (wpAny_loadName_free I.ok.kind hk hc hcell fin hcd) hd
theorem zA4 {i j pos}:PE X (.Constant (.int i) j pos) (tC (.int i)):=fun _ _ _ H _ I h=>wpAny_Constant_int ⟨.int i,H,I.tok _,⟨_,rfl⟩,h⟩
theorem zBt {b j pos}:PE X (.Constant (.bool b) j pos) (tC (.bl b)):=fun _ _ _ H _ I h=>Constant_bool ⟨.bl b,H,I,rfl,h⟩
theorem zBq {j pos}:PE X (.Constant .none j pos) (tC .non):=fun _ _ _ H _ I h=>Constant_none ⟨.non,H,I,rfl,h⟩
theorem zAc {x j pos}:PE X (.Constant (.str x) j pos) (tC (.str x)):=fun _ _ _ H _ I h=>Calls.Constant_str ⟨.str x,H,I.tok _,⟨_,rfl⟩,h⟩
noncomputable def Gl (X:Cx) (x:Str):Prop:=X.env.kindOf x=some .globalImplicit
theorem zBl {E:Value→Shared→Prop}{pins:List (Addr×Obj)}{s:Shared}{σ : St}{H:Hp}{x:Str}{u:Value}{pos:Pos}{Q:Value→Shared→Prop} (I:Inv X pins σ H s) (hg:Gl X x) (hm:X.mg x=some u) (h:Q u s)
  (hd:(x == ("__debug__" : Str))=false:=by decide):wpAny (model X.prog X.w) X.A (eval (.Name x pos) X.env) Q E s :=
 Calls.Name_function_global I.ok.kind hg (Calls.loadGlobal_global (by rw [I.ok.glob];exact I.mod.glob.keeps I.bk) hm h) hd
theorem zCl {E:Value→Shared→Prop}{pins:List (Addr×Obj)}{s:Shared}{σ : St}{H:Hp}{x:Str}{u:Value}{pos:Pos}{Q:Value→Shared→Prop} (I:Inv X pins σ H s) (hg:Gl X x) (hm:X.mg x=none) (hv:bootBuiltins x=some u) (h:Q u s)
  (hn:x≠"__name__":=by decide) (hd:(x == ("__debug__" : Str))=false:=by decide):wpAny (model X.prog X.w) X.A (eval (.Name x pos) X.env) Q E s:=by
 obtain ⟨mb,h1,h2⟩:=I.mod.blt;exact Calls.Name_function_global I.ok.kind hg (Calls.loadGlobal_builtin (by rw [I.ok.glob];exact I.mod.glob.keeps I.bk) hm (by rw [I.ok.blt];exact h1.keeps I.bk) ((h2 x hn).trans hv) h) hd
theorem zAk {x:Str}{v:V}{u:Value}{pos:Pos} (hg:Gl X x) (hm:X.mg x=some u) (r:RelV v u) (hd:(x == ("__debug__" : Str))=false:=by decide):PE X (.Name x pos) (tC v) :=
 fun _ _ _ H _ I h=>zBl I hg hm ⟨v,H,I,r,h⟩ hd
theorem zB1 {x:Str}{v:V}{u:Value}{pos:Pos} (hg:Gl X x) (hm:X.mg x=none) (hv:bootBuiltins x=some u) (r:RelV v u) (hn:x≠"__name__":=by decide) (hd:(x == ("__debug__" : Str))=false:=by decide):PE X (.Name x pos) (tC v) :=
 fun _ _ _ H _ I h=>zCl I hg hm hv ⟨v,H,I,r,h⟩ hn hd
variable {a b:Expr}{ta tb:TE}{pos:Pos}
noncomputable def PC (X:Cx) (op:CmpOp) (a b:Expr) (t:TE):Prop :=
 ∀ (pins:List (Addr×Obj)) (s:Shared) (σ : St) (H:Hp) (Q:VK),Inv X pins σ H s→t σ H Q →
  wpAny (model X.prog X.w) X.A (eval a X.env) (fun v s₁=>wpAny (model X.prog X.w) X.A (eval b X.env) (fun u s₂=>wpAny (model X.prog X.w) X.A (compareOp op v u) (EP X pins σ Q) X.xe s₂) X.xe s₁) X.xe s
theorem nobehind (b:Expr) {op:CmpOp} (h:op≠.In) (h2:op≠.NotIn):behindInMarks op b=false:=by
 have e1:(op == CmpOp.In)=false:=by cases op <;> first | rfl | exact absurd rfl h
 have e2:(op == CmpOp.NotIn)=false:=by cases op <;> first | rfl | exact absurd rfl h2
 cases b <;> simp [behindInMarks,e1,e2]
noncomputable def tNotN (ta:TE):TE:=fun σ H Q=>ta σ H fun x H1=>Q (.bl (!decide (x=.non))) H1
theorem RelV.none_iff {x:V}{v:Value} (r:RelV x v):(v == Value.none)=decide (x=.non):=by
 cases x with
 | non=>cases r;rfl
 | bl _=>cases r;rfl
 | int _=>obtain ⟨t,rfl⟩:=r;rfl
 | str _=>obtain ⟨t,rfl⟩:=r;rfl
 | byt _=>obtain ⟨t,rfl⟩:=r;rfl
 | flt _=>obtain ⟨t,rfl⟩:=r;rfl
 | ref _=>cases r;rfl
 | ty _=>cases r;rfl
theorem zD8 {j pos'} (ha:PE X a ta):PC X .IsNot a (.Constant .none j pos') (tNotN ta):=by
 intro pins s σ H Q I h;refine thn (ha pins s σ H _ I h) fun v s1 ⟨x,H1,I1,r1,q1⟩=>?_;exact Constant_none (isnot_none_gen ⟨.bl _,H1,I1,by rw [r1.none_iff];rfl,q1⟩)
noncomputable def tB (t:TE):TT:=fun σ H Q=>t σ H fun x H1=>∃ c,x=.bl c∧Q c H1
theorem pt_cmp {op:CmpOp}{t:TE} (h:PC X op a b t) (h1:behindInMarks op b=false:=by first | exact nobehind _ (by decide) (by decide) | rfl):PT X (.Compare a [op] [b] pos) (tB t):=by
 intro pins s σ H Q I hw;refine wpAny_isTrue_Compare1 (thn (h pins s σ H _ I hw) fun v s1 h1=>thn h1 fun u s2 h2=>thn h2 fun c s3 ⟨x,H1,I1,r1,q1⟩=>?_) h1;obtain ⟨d,rfl,q⟩:=q1;cases r1;exact wpAny_truthy_bool ⟨H1,I1,q⟩
theorem zAt {e:Expr}{t:TE} (h:PE X e t) (he:∀ whole,isTrue e X.env whole=(do let v ← whole;standAt e.pos;holding [v] (truthy v)):=by intro _;rfl):PT X e (tB t):=by
 intro pins s σ H Q I hw;refine isTrue_plain (thn (h pins s σ H _ I hw) fun v s1 ⟨x,H1,I1,r1,q1⟩=>?_) (he _);obtain ⟨d,rfl,q⟩:=q1;cases r1;exact wpAny_truthy_bool ⟨H1,I1,q⟩
variable {tA tB':TT}{rest:List Expr}
noncomputable def tAnd (t u:TT):TT:=fun σ H Q=>t σ H fun c H1=>if c=true then u σ H1 Q else Q false H1
noncomputable def tOr (t u:TT):TT:=fun σ H Q=>t σ H fun c H1=>if c=true then Q true H1 else u σ H1 Q
noncomputable def tNot (t:TT):TT:=fun σ H Q=>t σ H fun c H1=>Q (!c) H1
theorem zCf (ha:PT X a tA):PW X (.BoolOp .And [a] pos) tA:=by
 intro wh pins s σ H Q I h;refine isTrue_and (thn (ha pins s σ H Q I h) fun c s1 e=>?_);cases c with
 | true=>exact isTrue_and_nil e
 | false=>exact e
theorem zBb (ha:PT X a tA):PW X (.BoolOp .Or [a] pos) tA:=by
 intro wh pins s σ H Q I h;refine isTrue_or (thn (ha pins s σ H Q I h) fun c s1 e=>?_);cases c with
 | false=>exact isTrue_or_nil e
 | true=>exact e
theorem pw_and (ha:PT X a tA) (hb:PW X (.BoolOp .And (b :: rest) pos) tB'):PW X (.BoolOp .And (a :: b :: rest) pos) (tAnd tA tB'):=by
 intro wh pins s σ H Q I h;refine isTrue_and (thn (ha pins s σ H _ I h) fun c s1 ⟨H1,I1,q1⟩=>?_);cases c with
 | true=>exact hb wh pins s1 σ H1 Q I1 q1
 | false=>exact ⟨H1,I1,q1⟩
theorem zCb (ha:PT X a tA) (hb:PW X (.BoolOp .Or (b :: rest) pos) tB'):PW X (.BoolOp .Or (a :: b :: rest) pos) (tOr tA tB'):=by
 intro wh pins s σ H Q I h;refine isTrue_or (thn (ha pins s σ H _ I h) fun c s1 ⟨H1,I1,q1⟩=>?_);cases c with
 | true=>exact ⟨H1,I1,q1⟩
 | false=>exact hb wh pins s1 σ H1 Q I1 q1
theorem zAu (ha:PT X a tA):PT X (.UnaryOp .Not a pos) (tNot tA):=by
 intro pins s σ H Q I h;exact isTrue_not (ha pins s σ H (fun c H1=>Q (!c) H1) I h)
noncomputable def tAndV (ta tb:TE):TE:=fun σ H Q=>ta σ H fun x H1=>∃ c,x=.bl c∧if c=true then tb σ H1 Q else Q (.bl false) H1
theorem zCi {op}{t:TE} (h:PE X a t):PE X (.BoolOp op [a] pos) t:=fun pins s σ H Q I hw=>BoolOp_one (h pins s σ H Q I hw)
theorem zBu (ha:PE X a ta) (hb:PE X (.BoolOp .And (b :: rest) pos) tb):PE X (.BoolOp .And (a :: b :: rest) pos) (tAndV ta tb):=by
 intro pins s σ H Q I h;refine BoolOp_and (thn (ha pins s σ H _ I h) fun v s1 ⟨x,H1,I1,r1,q1⟩=>?_);obtain ⟨c,rfl,q1⟩:=q1;cases r1;refine wpAny_truthy_bool ?_;cases c with
 | true=>exact hb pins s1 σ H1 Q I1 q1
 | false=>exact ⟨.bl false,H1,I1,rfl,q1⟩
end
end L2
namespace L2
open PySem PySem.Spec PyProof.Rows
noncomputable def SqL (K:PySem.W.Frag) (H:Hp) (a:Addr) (xs:List V):Prop :=
 Rd H a (.lst xs) ∨
  ∃ (o:Obj) (its:Array Value) (n:Nat),K.lookup a=some o∧o.cls=.type "list"∧o.dict=none∧o.data=.seq its n∧its.size≤sizeLine∧Vals xs its.toList
noncomputable def SqT (K:PySem.W.Frag) (H:Hp) (a:Addr) (xs:List V):Prop :=
 Rd H a (.tup xs) ∨
  ∃ (o:Obj) (its:Array Value) (n:Nat),K.lookup a=some o∧o.cls=.type "tuple"∧o.data=.seq its n∧its.size≤sizeLine∧Vals xs its.toList
noncomputable def absV:Value→Option V
 | .none=>some .non
 | .bool b=>some (.bl b)
 | .int i _=>some (.int i)
 | .str x _=>some (.str x)
 | .bytes b _=>some (.byt b)
 | .float b _=>some (.flt b)
 | .ref a=>some (.ref a)
 | .type n=>some (.ty n)
 | _=>none
theorem RelV.abs {x:V}{u:Value} (r:RelV x u):absV u=some x:=by
 cases x with
 | non=>cases r;rfl
 | bl _=>cases r;rfl
 | int _=>obtain ⟨t,rfl⟩:=r;rfl
 | str _=>obtain ⟨t,rfl⟩:=r;rfl
 | byt _=>obtain ⟨t,rfl⟩:=r;rfl
 | flt _=>obtain ⟨t,rfl⟩:=r;rfl
 | ref _=>cases r;rfl
 | ty _=>cases r;rfl
theorem RelV.inj {x y:V}{u:Value} (r:RelV x u) (q:RelV y u):x=y:=Zd (r.abs.symm.trans q.abs)
theorem Vals.inj:∀ {xs ys:List V}{us:List Value},Vals xs us→Vals ys us→xs=ys
 | _,_,_,.nil,.nil=>rfl
 | _,_,_,.cons r t,.cons r' t'=>by rw [r.inj r',Vals.inj t t']
section
variable {X:Cx}{pins:List (Addr×Obj)}{σ : St}{H:Hp}{s:Shared}{a:Addr}{xs ys:List V}
theorem SqL.of {K:PySem.W.Frag} (h:H a=some (.lst xs)):SqL K H a xs:=.inl (.inl h)
theorem SqT.of {K:PySem.W.Frag} (h:H a=some (.tup xs)):SqT K H a xs:=.inl (.inl h)
theorem Inv.list (I:Inv X pins σ H s) (h:SqL X.K H a xs):∃ its:List Value,Vals xs its∧PlainL s.heap a its.toArray∧xs.length≤sizeLine:=by
 rcases h with h | ⟨o,its,n,hk,hc,hd,hs,hz,r⟩
 ·obtain ⟨z,its,n,r,e⟩:=h.ok I.hok;exact ⟨its,r,⟨_,n,e,rfl,rfl,rfl⟩,z⟩
 ·refine ⟨its.toList,r,⟨o,n,I.kIn a o hk,hc,hd,by simpa using hs⟩,?_⟩;have e:=r.length;simp only [Y0] at e;omega
theorem Inv.tuple (I:Inv X pins σ H s) (h:SqT X.K H a xs):∃ its:List Value,Vals xs its∧IsTup s.heap a its.toArray∧xs.length≤sizeLine:=by
 rcases h with h | ⟨o,its,n,hk,hc,hs,hz,r⟩
 ·obtain ⟨z,its,r,p⟩:=h.ok I.hok;exact ⟨its,r,p,z⟩
 ·refine ⟨its.toList,r,⟨o,I.kIn a o hk,hc,n,by simpa using hs⟩,?_⟩;have e:=r.length;simp only [Y0] at e;omega
theorem Inv.list_inj (I:Inv X pins σ H s) (h:SqL X.K H a xs) (h':SqL X.K H a ys):xs=ys:=by
 obtain ⟨its,r,⟨o,n,e,_,_,d⟩,_⟩:=I.list h;obtain ⟨its',r',⟨o',n',e',_,_,d'⟩,_⟩:=I.list h';rw [e] at e';cases e';rw [d] at d';injection d' with d1 _;have:its=its':=by simpa using congrArg Array.toList d1
 subst this;exact r.inj r'
end
noncomputable abbrev Cx.wish (X:Cx) (E:Value→Shared→Prop):Cx:={ X with xe:=E }
noncomputable abbrev Cx.nox (X:Cx):Cx:=X.wish fun _ _=>False
theorem Cx.Ok.wish {X:Cx} (ok:X.Ok) (E:Value→Shared→Prop):(X.wish E).Ok :=
 ⟨ok.mod,ok.kind,ok.glob,ok.blt,ok.above,ok.inj,ok.has,ok.cab,ok.hd,ok.frames,ok.stk,ok.exf,ok.bs,ok.bsz,ok.noex,ok.exfs,ok.funs,ok.frf⟩
theorem Cx.Ok.unwish {X:Cx}{E:Value→Shared→Prop} (ok:(X.wish E).Ok):X.Ok :=
 ⟨ok.mod,ok.kind,ok.glob,ok.blt,ok.above,ok.inj,ok.has,ok.cab,ok.hd,ok.frames,ok.stk,ok.exf,ok.bs,ok.bsz,ok.noex,ok.exfs,ok.funs,ok.frf⟩
section
variable {X:Cx}{pins:List (Addr×Obj)}{σ : St}{H:Hp}{s:Shared}{E:Value→Shared→Prop}
theorem Inv.wish (I:Inv X pins σ H s) (E:Value→Shared→Prop):Inv (X.wish E) pins σ H s:=⟨I.ok.wish E,I.os,I.bare,I.base,I.loc,I.cell,I.free,I.freeC,I.pin,I.hok,I.len⟩
theorem Inv.unwish (I:Inv (X.wish E) pins σ H s):Inv X pins σ H s:=⟨I.ok.unwish,I.os,I.bare,I.base,I.loc,I.cell,I.free,I.freeC,I.pin,I.hok,I.len⟩
theorem SP.unwish {D:Ends}{f:Flow}{s':Shared} (h:SP (X.wish E) pins D f s'):SP X pins D f s':=by
 cases f with
 | next=>obtain ⟨σ',H',I,q⟩:=h;exact ⟨σ',H',I.unwish,q⟩
 | brk=>obtain ⟨σ',H',I,q⟩:=h;exact ⟨σ',H',I.unwish,q⟩
 | cont=>obtain ⟨σ',H',I,q⟩:=h;exact ⟨σ',H',I.unwish,q⟩
 | ret u=>obtain ⟨v,σ',H',I,r,q⟩:=h;exact ⟨v,σ',H',I.unwish,r,q⟩
theorem PE.nox {e:Expr}{t:TE} (h:PE X.nox e t):PE X e t:=fun pins s σ H Q I hw =>
 wpAny_mono (h pins s σ H Q (I.wish _) hw) (fun _ _ ⟨v,H',I',r,q⟩=>⟨v,H',I'.unwish,r,q⟩) fun _ _ z=>False.elim z
theorem PT.nox {e:Expr}{t:TT} (h:PT X.nox e t):PT X e t:=fun pins s σ H Q I hw =>
 wpAny_mono (h pins s σ H Q (I.wish _) hw) (fun _ _ ⟨H',I',q⟩=>⟨H',I'.unwish,q⟩) fun _ _ z=>False.elim z
theorem PSs.nox {st:List Stmt}{t:TS} (h:PSs X.nox st t):PSs X st t:=fun pins s σ H D I hw =>
 wpAny_mono (h pins s σ H D (I.wish _) hw) (fun _ _ q=>q.unwish) fun _ _ z=>False.elim z
end
section
variable {X:Cx}{st:Stmt}{rest:List Stmt}{t u:TS}{e:Expr}{te:TE}{pos:Pos}
noncomputable def tNext:TS:=fun D σ H=>D.nx σ H
noncomputable def tSeq (t u:TS):TS:=fun D σ H=>t { D with nx:=u D } σ H
theorem zAf:PSs X [] tNext:=fun _ _ σ H _ I h=>wpAny_execs_nil ⟨σ,H,I,h⟩
theorem zA3 (h1:PS X st t) (h2:PSs X rest u):PSs X (st :: rest) (tSeq t u):=by
 intro pins s σ H D I h;refine wpAny_execs_cons (thn (h1 pins s σ H { D with nx:=u D } I h) fun f s1 q=>?_);cases f with
 | next =>
  obtain ⟨σ',H',I',q⟩:=q;exact h2 pins s1 σ' H' D I' q
 | ret v=>exact q
 | brk=>exact q
 | cont=>exact q
theorem zA7 (h1:PS X st t):PSs X [st] t:=by
 intro pins s σ H D I h;refine wpAny_execs_cons (thn (h1 pins s σ H D I h) fun f s1 q=>?_);cases f with
 | next=>exact wpAny_execs_nil q
 | ret v=>exact q
 | brk=>exact q
 | cont=>exact q
theorem Inv.quiet {pins:List (Addr×Obj)}{σ : St}{H:Hp}{s:Shared} (I:Inv X pins σ H s):interactive X.env=false:=by simp [interactive,I.ok.kind]
noncomputable def tDrop (te:TE):TS:=fun D σ H=>te σ H fun _ H1=>D.nx σ H1
theorem zCg (he:PE X e te) (hs:swapsWith e none pos.line X.env=pure false:=by rfl):PS X (.Expr e pos) (tDrop te):=by
 intro pins s σ H D I h;exact wpAny_Expr_any (thn (he pins s σ H _ I h) fun v s1 ⟨x,H1,I1,r1,q1⟩=>⟨σ,H1,I1,q1⟩) I.quiet hs
noncomputable def tRet (te:TE):TS:=fun D σ H=>te σ H D.rt
theorem zAd (he:PE X e te):PS X (.Return (some e) pos) (tRet te):=by
 intro pins s σ H D I h;exact wpAny_Return_some (thn (he pins s σ H _ I h) fun v s1 ⟨x,H1,I1,r1,q1⟩=>⟨x,σ,H1,I1,r1,q1⟩)
noncomputable def tIfS (c:TT) (t u:TS):TS:=fun D σ H=>c σ H fun b H1=>if b=true then t D σ H1 else u D σ H1
theorem zB0 {c:Expr}{a b:List Stmt}{tc:TT} (hc:PT X c tc) (ha:PSs X a t) (hb:PSs X b u):PS X (.If c a b pos) (tIfS tc t u):=by
 intro pins s σ H D I h;refine wpAny_If (thn (hc pins s σ H _ I h) fun d s1 ⟨H1,I1,q1⟩=>?_);cases d with
 | true=>exact ha pins s1 σ H1 D I1 q1
 | false=>exact hb pins s1 σ H1 D I1 q1
noncomputable def tNever:TS:=fun _ _ _=>False
theorem zAx {sts:List Stmt}:PSs X sts tNever:=fun _ _ _ _ _ _ h=>h.elim
end
noncomputable abbrev TG:=V→St→Hp→(St→Hp→Prop)→Prop
noncomputable abbrev TGs:=List V→St→Hp→(St→Hp→Prop)→Prop
noncomputable def PG (X:Cx) (target:Expr) (t:TG):Prop :=
 ∀ (pins:List (Addr×Obj)) (s:Shared) (σ : St) (H:Hp) (v:V) (u:Value) (Q:St→Hp→Prop),Inv X pins σ H s→RelV v u→t v σ H Q →
  wpAny (model X.prog X.w) X.A (assign target X.env u) (fun _ s'=>∃ σ' H',Inv X pins σ' H' s'∧Q σ' H') X.xe s
noncomputable def PGs (X:Cx) (ts:List Expr) (t:TGs):Prop :=
 ∀ (pins:List (Addr×Obj)) (s:Shared) (σ : St) (H:Hp) (vs:List V) (us:List Value) (Q:St→Hp→Prop),Inv X pins σ H s→Vals vs us→t vs σ H Q →
  wpAny (model X.prog X.w) X.A (assignInOrder ((assignEach ts X.env).map (·.2)) us) (fun _ s'=>∃ σ' H',Inv X pins σ' H' s'∧Q σ' H') X.xe s
noncomputable abbrev TSet:=V→V→V→Hp→(Hp→Prop)→Prop
noncomputable def PSet (X:Cx) (t:TSet):Prop :=
 ∀ (pins:List (Addr×Obj)) (s:Shared) (σ : St) (H:Hp) (o i v:V) (ov iv u:Value) (Q:Hp→Prop),Inv X pins σ H s→RelV o ov→RelV i iv→RelV v u→t o i v H Q →
  wpAny (model X.prog X.w) X.A (setItem ov iv u) (fun _ s'=>∃ H',Inv X pins σ H' s'∧Q H') X.xe s
section
variable {X:Cx}{pos:Pos}
noncomputable def gName (i:Nat):TG:=fun v σ H Q=>Q (σ.set i (some v)) H
theorem zAe {i:Nat}{x:Str} (hN:X.N.Nodup) (hi:X.N[i]? = some x) (hx:Loc X.env.scope x) (hf:X.fn x=true∨X.env.scope.names.lookup x=some .local:=by first | exact .inl rfl | exact .inr rfl | assumption):PG X (.Name x pos) (gName i):=by
 intro pins s σ H v u Q I r h;exact wpAny_assign_Name (zD1 I hN hi hx r (fun s' I'=>⟨_,H,I',h⟩) hf)
noncomputable def gNil:TGs:=fun vs σ H Q=>vs=[]∧Q σ H
noncomputable def gCons (t:TG) (u:TGs):TGs:=fun vs σ H Q=>∃ v r,vs=v :: r∧t v σ H fun σ' H'=>u r σ' H' Q
theorem zBj:PGs X [] gNil:=by
 intro pins s σ H vs us Q I r h;obtain ⟨e,h⟩:=h;subst e;cases r;exact assignInOrder_nil ⟨σ,H,I,h⟩
theorem zAq {e:Expr}{es:List Expr}{t:TG}{u:TGs} (h1:PG X e t) (h2:PGs X es u)
  (hs:(assignEach (e :: es) X.env).map (·.2)=assign e X.env :: (assignEach es X.env).map (·.2):=by rfl):PGs X (e :: es) (gCons t u):=by
 intro pins s σ H vs us Q I r h;obtain ⟨v,vr,e1,h⟩:=h;subst e1;cases r with
 | cons r rr =>
  rw [hs];refine assignInOrder_cons (thn (h1 pins s σ H _ _ _ I r h) fun _ s1 ⟨σ1,H1,I1,q1⟩=>?_);exact h2 pins s1 σ1 H1 _ _ Q I1 rr q1
noncomputable def gTup (K:PySem.W.Frag) (n:Nat) (t:TGs):TG:=fun v σ H Q=>∃ a xs,v=.ref a∧SqT K H a xs∧xs.length=n∧t xs σ H Q
theorem pg_tup {es:List Expr}{k:Nat}{t:TGs}{n:Nat} (hc:X.calm=true) (h:PGs X es t)
  (hn:(assignEach es X.env).length=n:=by rfl) (hst:(assignEach es X.env).findIdx? (·.1)=none:=by rfl):PG X (.Tuple es k pos) (gTup X.K n t):=by
 intro pins s σ H v u Q I r hw;obtain ⟨a,xs,e1,hq,hl,hw⟩:=hw;subst e1;cases r;obtain ⟨its,rv,ht,hz⟩:=I.tuple hq;refine assign_Tuple_tuple (I.ok.hd hc) ht (by simp [hn,← hl,rv.length]) hst fun h' hx=>?_;have I1:Inv X pins σ H { s with heap:=h' }:=I.kept (t':=s.toks) fun b o e=>hx b o (Z4 (Z2 e)) e;exact h pins _ σ H xs _ Q I1 (by simpa using rv) hw
noncomputable def gSub (to ti:TE) (t:TSet):TG:=fun v σ H Q=>to σ H fun o H1=>ti σ H1 fun i H2=>t o i v H2 fun H3=>Q σ H3
theorem pg_sub {o i:Expr}{to ti:TE}{t:TSet} (ho:PE X o to) (hi:PE X i ti) (hs:PSet X t)
  (ha:∀ v,assign (.Subscript o i pos) X.env v=(do
   let ov ← holding [v] (eval o X.env)
   let iv ← holding [v,ov] (eval i X.env)
   standAt pos
   holding [v,ov,iv] (setItem ov iv v)
   release [v,ov,iv] []):=by intro _;rfl):PG X (.Subscript o i pos) (gSub to ti t):=by
 intro pins s σ H v u Q I r h;rw [ha];refine wpAny_bind (wpAny_holding (thn (ho pins s σ H _ I h) fun ov s1 ⟨x,H1,I1,r1,q1⟩=>?_));refine wpAny_bind (wpAny_holding (thn (hi pins s1 σ H1 _ I1 q1) fun iv s2 ⟨y,H2,I2,r2,q2⟩=>?_));refine wpAny_bind (wpAny_standAt (wpAny_bind (wpAny_holding (thn (hs pins s2 σ H2 x y v ov iv u _ I2 r1 r2 r q2) fun _ s3 ⟨H3,I3,q3⟩=>?_))));exact wpAny_release ⟨σ,H3,I3,q3⟩
noncomputable def tAsg (te:TE) (g:TG):TS:=fun D σ H=>te σ H fun x H1=>g x σ H1 D.nx
theorem ps_asg {tg e:Expr}{te:TE}{g:TG} (he:PE X e te) (hg:PG X tg g) (hs:swapsWithSole [tg] e pos.line X.env=pure false:=by rfl) (hw:swappedStores [tg] e X.env=pure none:=by rfl)
  (h1:(assignEach [tg] X.env).map (·.2)=[assign tg X.env]:=by rfl):PS X (.Assign [tg] e pos) (tAsg te g):=by
 intro pins s σ H D I h;refine wpAny_Assign_stores (thn (he pins s σ H _ I h) fun v s1 ⟨x,H1,I1,r1,q1⟩=>?_) hs hw;rw [h1];exact thn (hg pins s1 σ H1 x v _ I1 r1 q1) fun _ s2 q=>q
theorem zAb {i:Nat}{x:Str}{e:Expr}{te:TE}{pos':Pos} (hN:X.N.Nodup) (hi:X.N[i]? = some x) (hx:Loc X.env.scope x) (he:PE X e te) (hs:swapsWith e (some (.Name x pos')) pos.line X.env=pure false:=by rfl) (hf:X.fn x=true∨X.env.scope.names.lookup x=some .local:=by first | exact .inl rfl | exact .inr rfl | assumption) :
  PS X (.Assign [.Name x pos'] e pos) (tAsg te (gName i)):=by
 intro pins s σ H D I h;refine wpAny_Assign_Name (thn (he pins s σ H _ I h) fun v s1 ⟨y,H1,I1,r1,q1⟩=>?_) hs;exact zD1 I1 hN hi hx r1 (fun s2 I2=>⟨_,H1,I2,q1⟩) hf
end
section
variable {X:Cx}{pos:Pos}
end
structure It where
 go:Nat→Hp→Prop
 yld:Nat→Hp→V→Hp→Prop
 stop:Nat→Hp→Prop
noncomputable def FpOk (X:Cx) (pins:List (Addr×Obj)) (H:Hp) (b:Addr):Prop :=
 H b=none∧b≠X.env.locals∧b∉X.fs∧(b∈X.ex∨X.s₀.heap.objs.size≤b)∧(∀ x c,X.env.cells.lookup x=some c→c≠b)∧∀ p∈X.pn++pins,p.1≠b
theorem Inv.fpOk {X:Cx}{pins:List (Addr×Obj)}{σ : St}{H H':Hp}{s:Shared}{b:Addr} (I:Inv X pins σ H s) (hb:s.heap.objs.size≤b) (hn:H' b=none):FpOk X pins H' b:=by
 refine ⟨hn,Ya (Z3 I.lt hb),I.nofs hb,.inr (Zs I.sz hb),fun x c e z=>?_,fun p hp z=>?_⟩
 ·obtain ⟨v,q⟩:=I.cell x c e;exact absurd (Z3 q.lt (by rw [z];exact hb)) (Zy _)
 ·exact absurd (Z3 (Z2 (I.pin p hp).1) (by rw [z];exact hb)) (Zy _)
structure TurnP (Φ : Cx→Prop) (P:Program) (w:World) (K:PySem.W.Frag) (tg:Expr) (J:It) (fp:List Addr) (it:Addr) (tn:Nat→Heap→Prop):Prop where
 mem:it∈fp
 obj:∀ i h,tn i h→∀ b∈fp,∃ o,h.get? b=some o∧∀ v,o.data≠.cell v
 keep:∀ i h h',tn i h→(∀ b∈fp,∀ o,h.get? b=some o→h'.get? b=some o)→tn i h'
 item:∀ (X:Cx),X.prog=P→X.w=w→X.K=K→Φ X→∀ (i:Nat) (pins:List (Addr×Obj)) (s:Shared) (σ : St) (H:Hp) (E:Value→Shared→Prop),Inv X pins σ H s→(∀ b∈fp,FpOk X pins H b)→tn i s.heap→J.go i H →
  wpAny (model P w) X.A (pyNext (.ref it)) (fun r s1=>∃ u,r=some u ∧
   wpAny (model P w) X.A (letOwnedTupleGo tg (.ref it) u) (fun _ s2=>∃ x H',Inv X pins σ H' s2∧RelV x u∧J.yld i H x H'∧tn (i + 1) s2.heap∧∀ b∈fp,H' b=none) E s1) E s
 done:∀ (X:Cx),X.prog=P→X.w=w→X.K=K→Φ X→∀ (i:Nat) (pins:List (Addr×Obj)) (s:Shared) (σ : St) (H:Hp) (E:Value→Shared→Prop),Inv X pins σ H s→(∀ b∈fp,FpOk X pins H b)→tn i s.heap→J.stop i H →
  wpAny (model P w) X.A (pyNext (.ref it)) (fun r s1=>r=none∧Inv X pins σ H s1) E s
 self:∀ (A:Around) (i:Nat) (s:Shared) (Q:Value→Shared→Prop) (E:Value→Shared→Prop),tn i s.heap→Q (.ref it) s→wpAny (model P w) A (pyIter (.ref it)) Q E s
noncomputable abbrev Turn:=TurnP fun X=>X.calm=true
noncomputable abbrev TI:=St→Hp→(It→Hp→Prop)→Prop
noncomputable def PIE (X:Cx) (pins:List (Addr×Obj)) (σ : St) (tg:Expr) (R:It→Hp→Prop) (itv:Value) (s2:Shared):Prop :=
 ∃ (it:Addr) (fp:List Addr) (tn:Nat→Heap→Prop) (J:It) (H':Hp),itv=.ref it∧Inv X pins σ H' s2∧Turn X.prog X.w X.K tg J fp it tn∧tn 0 s2.heap∧(∀ b∈fp,FpOk X pins H' b)∧R J H'
noncomputable def PI (X:Cx) (tg iter:Expr) (wi:TI):Prop :=
 ∀ (pins:List (Addr×Obj)) (s:Shared) (σ : St) (H:Hp) (R:It→Hp→Prop),Inv X pins σ H s→wi σ H R →
  wpAny (model X.prog X.w) X.A (eval iter X.env) (fun v s1=>wpAny (model X.prog X.w) X.A (pyIter v) (PIE X pins σ tg R) X.xe s1) X.xe s
theorem go_of {M:Model}{A:Around}{E:Value→Shared→Prop}{s:Shared}{tg:Expr}{it:Addr}{u:Value}{o:Obj}{n:String}{vs:Array Value}{Q:Unit→Shared→Prop} (ho:s.heap.get? it=some o) (hc:o.cls=.type n) (hd:o.data=.fields vs)
  (hn:["enumerate", "zip", "dict_itemiterator", "dict_reverseitemiterator", "odict_iterator", "itertools.zip_longest", "itertools.pairwise"].contains n=false) (hQ:Q () s):wpAny M A (letOwnedTupleGo tg (.ref it) u) Q E s:=by
 unfold letOwnedTupleGo
 cases tg <;> first
  | exact wpAny_pure hQ
  | (cases u <;> first
    | exact wpAny_pure hQ
    | (refine wpAny_bind (wpAny_load ho ?_)
       rw [hc,hd];show wpAny M A (if (["enumerate", "zip", "dict_itemiterator", "dict_reverseitemiterator", "odict_iterator", "itertools.zip_longest", "itertools.pairwise"].contains n && vs[0]? == some (rawInt _))=true then _ else _) Q E s;rw [if_neg (by intro h;rw [hn,Bool.false_and] at h;cases h)]
       exact wpAny_pure hQ))
noncomputable def Itl (K:PySem.W.Frag) (a:Addr):It :=
 ⟨fun i H=>∃ xs x,SqL K H a xs∧xs[i]? = some x,fun i H x H'=>H'=H∧∀ xs,SqL K H a xs→xs[i]? = some x,fun i H=>∃ xs,SqL K H a xs∧xs.length≤i⟩
noncomputable def Itr (lo:Int) (n:Nat):It:=⟨fun i _=>i < n,fun i H x H'=>H'=H∧x=.int (lo + i),fun i _=>n≤i⟩
theorem turn_list {P:Program}{w:World}{K:PySem.W.Frag}{tg:Expr} (a it:Addr):Turn P w K tg (Itl K a) [it] it (fun i h=>h.IsListIter it a i) where
 mem:=by simp
 obj:=fun i h st b hb=>by
  have e:b=it:=by simpa using hb
  subst e;obtain ⟨o,e,c,d⟩:=st;exact ⟨o,e,fun v z=>by rw [d] at z;cases z⟩
 keep:=fun i h h' st k=>st.at fun o e=>k it (by simp) o e
 item:=by
  intro X hP hw hK hc i pins s σ H E I hf st hg;subst hP hw hK;obtain ⟨xs,x,hq,hx⟩:=hg;obtain ⟨its,rv,p,hz⟩:=I.list hq;obtain ⟨u,hu,ru⟩:=rv.get hx;obtain ⟨f0,f1,f2,f3,f4,f5⟩:=hf it (by simp);refine wpAny_pyNext_list_item st p.isList (x:=u) (by simpa using hu) fun h' st' sb=>?_;have I1:Inv X pins σ H { s with heap:=h' }:=I.turned (t':=s.toks) (fun b o hb e=>(sb.2 b hb).trans e) f0 f1 f3 f4 f5;obtain ⟨o,e,c,d⟩:=id st';exact ⟨u,rfl,go_of (s:={ s with heap:=h' }) e c d (by decide) ⟨x,H,I1,ru,⟨rfl,fun ys hy=>by rw [I.list_inj hy hq];exact hx⟩,st',fun b hb=>(hf b hb).1⟩⟩
 done:=by
  intro X hP hw hK hc i pins s σ H E I hf st hg;subst hP hw hK;obtain ⟨xs,hq,hx⟩:=hg;obtain ⟨its,rv,p,hz⟩:=I.list hq;obtain ⟨f0,f1,f2,f3,f4,f5⟩:=hf it (by simp);have hl:=rv.length;exact wpAny_pyNext_list_end (I.ok.hd hc) st p.isList (by simp;omega) fun h' eb=>⟨rfl,I.turned (t':=s.toks) (fun b o hb e=>eb b o hb e) f0 f1 f3 f4 f5⟩
 self:=fun _ _ _ _ _ st h=>wpAny_pyIter_listiter st h
theorem zCt {P:Program}{w:World}{K:PySem.W.Frag}{tg:Expr} (it:Addr) (lo:Int) (n:Nat):Turn P w K tg (Itr lo n) [it] it (fun i h=>IsRangeIter h it (lo + (i:Nat) * 1) ((n:Int) - (i:Nat)) 1) where
 mem:=by simp
 obj:=fun i h st b hb=>by
  have e:b=it:=by simpa using hb
  subst e
  exact ⟨_,st,fun v z=>by
   have z':Data.fields _=Data.cell v:=z
   cases z'⟩
 keep:=fun i h h' st k=>k it (by simp) _ st
 item:=by
  intro X hP hw hK hc i pins s σ H E I hf st hg;subst hP hw hK;obtain ⟨f0,f1,f2,f3,f4,f5⟩:=hf it (by simp);have W:=Walks.range (prog:=X.prog) (w:=X.w) (I.ok.hd hc) it lo 1 n;refine W.item i s _ _ hg st fun v h' tk hv st' kk=>?_;obtain ⟨t,rfl⟩:=hv;have I1:Inv X pins σ H { s with heap:=h',toks:=tk }:=I.turned (fun b o hb e=>kk b o (by simpa using hb) e) f0 f1 f3 f4 f5;refine ⟨_,rfl,go_of (s:={ s with heap:=h',toks:=tk }) (n:="range_iterator") st' rfl rfl (by decide) ⟨.int (lo + i),H,I1,⟨t,?_⟩,⟨rfl,rfl⟩,st',fun b hb=>(hf b hb).1⟩⟩;rw [Int.mul_one]
 done:=by
  intro X hP hw hK hc i pins s σ H E I hf st hg;subst hP hw hK;obtain ⟨f0,f1,f2,f3,f4,f5⟩:=hf it (by simp);exact wpAny_pyNext_range_end (I.ok.hd hc) st (by have:n≤i:=hg;omega) fun h' eb=>⟨rfl,I.turned (t':=s.toks) (fun b o hb e=>eb b o hb e) f0 f1 f3 f4 f5⟩
 self:=fun _ _ _ _ _ st h=>wpAny_pyIter_rangeiter st h
end L2
namespace L2
open PySem PySem.Spec PyProof.Rows
section
variable {X:Cx}{tg:Expr}
noncomputable def iList (K:PySem.W.Frag) (tl:TE):TI:=fun σ H R=>tl σ H fun x H1=>∃ a,x=.ref a∧(∃ xs,SqL K H1 a xs)∧R (Itl K a) H1
theorem zAv {l:Expr}{tl:TE} (hl:PE X l tl):PI X tg l (iList X.K tl):=by
 intro pins s σ H R I h;refine thn (hl pins s σ H _ I h) fun v s1 ⟨x,H1,I1,r1,q1⟩=>?_;obtain ⟨a,e,⟨xs,hq⟩,q⟩:=q1;subst e;cases r1;obtain ⟨its,rv,p,hz⟩:=I1.list hq;refine wpAny_pyIter_list p.isList ?_;refine ⟨s1.heap.objs.size,[s1.heap.objs.size],_,_,H1,rfl,I1.kept (t':=s1.toks) fun b o e=>Z0 _ e,turn_list a _,⟨_,Z7 _ rfl,rfl,rfl⟩,fun b hb=>?_,q⟩;have e:b=s1.heap.objs.size:=by simpa using hb
 subst e;exact I1.fpOk (Z5 _) (I1.hok.fresh (Z5 _))
theorem range_it {pins:List (Addr×Obj)}{σ : St}{H:Hp}{s:Shared}{R:It→Hp→Prop}{E:Value→Shared→Prop}{lo hi:Int}{t u v:Tok}{tk:Nat} (I:Inv X pins σ H s) (h1 : -(2 ^ 62)≤lo) (h2:lo < 2 ^ 62) (h3 : -(2 ^ 62)≤hi) (h4:hi < 2 ^ 62)
  (q:R (Itr lo (hi - lo).toNat) H):wpAny (model X.prog X.w) X.A (pyIter (.ref s.heap.objs.size)) (PIE X pins σ tg R) E { s with heap:=s.heap.push { cls:=.type "range",data:=.fields #[.int lo t,.int hi u,.int 1 v] },toks:=tk }:=by
 refine wpAny_pyIter_range (IsRange.new ..) (small_one h1 h2 h3 h4) ?_;have I1:Inv X pins σ H { s with heap:=s.heap.push { cls:=.type "range",data:=.fields #[.int lo t,.int hi u,.int 1 v] },toks:=tk }:=I.kept fun b o e=>Z0 _ e
 refine ⟨(s.heap.push { cls:=.type "range",data:=.fields #[.int lo t,.int hi u,.int 1 v] }).objs.size,[(s.heap.push { cls:=.type "range",data:=.fields #[.int lo t,.int hi u,.int 1 v] }).objs.size],_,_,H,rfl,
  I1.kept (t':=tk) fun b o e=>Z0 _ e,zCt _ lo (hi - lo).toNat,?_,fun b hb=>?_,q⟩
 ·have e1:lo + ((0:Nat):Int) * 1=lo:=by simp
  have e2:(((hi - lo).toNat:Nat):Int) - ((0:Nat):Int)=Builtin.Range.rangeSize lo hi 1:=by rw [rangeSize_one];split <;> omega
  show IsRangeIter _ _ (lo + ((0:Nat):Int) * 1) ((((hi - lo).toNat:Nat):Int) - ((0:Nat):Int)) 1;rw [e1,e2];exact Z7 _ rfl
 ·have e:b=(s.heap.push { cls:=.type "range",data:=.fields #[.int lo t,.int hi u,.int 1 v] }).objs.size:=by simpa using hb
  subst e;exact I1.fpOk (Z5 _) (I1.hok.fresh (Z5 _))
noncomputable def iRng1 (ta:TA):TI:=fun σ H R=>ta σ H fun vs H1=>∃ j:Int,vs=[.int j]∧-(2 ^ 62)≤j∧j < 2 ^ 62∧R (Itr 0 j.toNat) H1
theorem zBp {a:Expr}{ta:TA}{p pos:Pos} (hg:Gl X "range") (hm:X.mg "range" = none) (ha:PA X [a] ta) (hs:starEach [a] X.env=[(false,eval a X.env)]:=by rfl):PI X tg (.Call (.Name "range" p) [a] [] pos) (iRng1 ta):=by
 intro pins s σ H R I h;refine Call_ (zCl I hg hm boot_range (PyProof.Rows.callWith_type1 (thn (ha pos pins s σ H _ I h) fun us s1 ⟨vs,H1,I1,r1,q1⟩=>?_) hs rfl));obtain ⟨j,e,q1,q2,q⟩:=q1;subst e;cases r1 with
 | cons r rr =>
  cases rr;obtain ⟨t,rfl⟩:=r;exact call_range_1 (range_it I1 (by omega) (by omega) q1 q2 (by simpa using q))
noncomputable def tFor (wi:TI) (g:TG) (tb:TS):TS:=fun D σ H=>wi σ H fun J H1=>∃ W:Nat→Nat→St→Hp→Prop,(∃ m,W 0 m σ H1)∧∀ i m σ H,W i m σ H →
 (J.stop i H∧D.nx σ H)∨(J.go i H∧∃ N:St→Hp→Prop,(∀ σ' H',N σ' H'→∃ m',m' < m∧W (i + 1) m' σ' H')∧∀ x H',J.yld i H x H'→g x σ H' fun σ2 H2=>tb { D with nx:=N,ct:=N,bk:=D.nx } σ2 H2)
noncomputable def pinsAt (fp:List Addr) (h:Heap):List (Addr×Obj):=fp.filterMap fun b=>(h.get? b).map fun o=>(b,o)
theorem zC4 {fp:List Addr}{h:Heap}{b:Addr}{o:Obj} (hb:b∈fp) (e:h.get? b=some o):(b,o)∈pinsAt fp h:=List.mem_filterMap.mpr ⟨b,hb,by rw [e];rfl⟩
theorem of_pinsAt {fp:List Addr}{h:Heap}{p:Addr×Obj} (hp:p∈pinsAt fp h):p.1∈fp∧h.get? p.1=some p.2:=by
 obtain ⟨b,hb,e⟩:=List.mem_filterMap.mp hp;cases q:h.get? b with
 | none=>rw [q] at e;cases e
 | some o =>
  rw [q] at e;have e':(b,o)=p:=Zd e;subst e';exact ⟨hb,q⟩
theorem Inv.pinned {pins:List (Addr×Obj)}{σ : St}{H:Hp}{s:Shared}{fp:List Addr} (I:Inv X pins σ H s) (hf:∀ b∈fp,FpOk X pins H b) (ho:∀ b∈fp,∃ o,s.heap.get? b=some o∧∀ v,o.data≠.cell v):Inv X (pins++pinsAt fp s.heap) σ H s :=
 I.pins_of fun p hp=>(List.mem_append.mp hp).elim (fun z=>I.pin p (Zi _ z)) fun z=>by
  obtain ⟨hb,e⟩:=of_pinsAt z;obtain ⟨f0,f1,f2,_⟩:=hf p.1 hb;obtain ⟨o,e',d⟩:=ho p.1 hb;rw [e] at e';cases e';exact ⟨e,f0,f1,f2,d⟩
theorem Inv.unpinned {pins pl:List (Addr×Obj)}{σ : St}{H:Hp}{s:Shared} (I:Inv X (pins++pl) σ H s):Inv X pins σ H s:=I.pins_of fun p hp=>I.pin p (Zi _ (Y2 _ hp))
theorem zCu {iter:Expr}{body:List Stmt}{wi:TI}{g:TG}{tb:TS}{pos:Pos} (hp:PassesOwn (model X.prog X.w) X.A X.env X.xe) (hc:X.calm=true) (hi:PI X tg iter wi) (hg:PG X tg g) (hb:PSs X body tb)
  (hs:∀ x,foldedSetIterable iter X.env x=pure x:=by intro _;rfl):PS X (.For tg iter body [] pos) (tFor wi g tb):=by
 intro pins s σ H D I h;refine wpAny_For (thn (hi pins s σ H _ I h) fun v s1 h1=>thn h1 fun itv s2 h2=>?_) hs;obtain ⟨it,fp,tn,J,H2,e,I2,T,st2,f2,W,⟨m0,w0⟩,turn⟩:=h2;subst e;have stat:∀ {H':Hp},(∀ b∈fp,H' b=none)→∀ b∈fp,FpOk X pins H' b:=fun hn b hb=>⟨hn b hb,(f2 b hb).2⟩;refine codeAny_forLoop_any (fun n s'=>∃ i σ' H',Inv X pins σ' H' s'∧tn i s'.heap∧(∀ b∈fp,H' b=none)∧W i n σ' H') ?_ m0 ⟨0,σ,H2,I2,st2,fun b hb=>(f2 b hb).1,w0⟩;rintro n s3 ⟨i,σ3,H3,I3,st3,fr3,w3⟩;rcases turn i n σ3 H3 w3 with ⟨stop,qn⟩ | ⟨go,N,hN,step⟩
 ·refine wpAny_passesOwn hp (thn (T.done X rfl rfl rfl hc i pins s3 σ3 H3 X.xe I3 (stat fr3) st3 stop) fun r s4 ⟨hr,I4⟩=>?_);subst hr;exact wpAny_execs_nil ⟨σ3,H3,I4,qn⟩
 ·refine wpAny_passesOwn hp (thn (T.item X rfl rfl rfl hc i pins s3 σ3 H3 X.xe I3 (stat fr3) st3 go) fun r s4 ⟨u,hr,h4⟩=>?_);subst hr;refine wpAny_passesOwn hp (thn h4 fun _ s5 ⟨x,H5,I5,r5,y5,st5,fr5⟩=>?_);have I5':=I5.pinned (stat fr5) (T.obj _ _ st5);refine wpAny_passesOwn hp (thn (hg _ s5 σ3 H5 x u _ I5' r5 (step x H5 y5)) fun _ s6 ⟨σ6,H6,I6,q6⟩=>?_);refine wpAny_passesOwn hp (thn (hb _ s6 σ6 H6 _ I6 q6) fun f s7 q7=>?_);have again:∀ {σ7:St}{H7:Hp},Inv X (pins++pinsAt fp s5.heap) σ7 H7 s7→N σ7 H7→∃ m,m < n∧∃ i σ' H',Inv X pins σ' H' s7∧tn i s7.heap∧(∀ b∈fp,H' b=none)∧W i m σ' H':=fun {σ7 H7} I7 n7=>by
   obtain ⟨m',hm,w7⟩:=hN σ7 H7 n7;refine ⟨m',hm,i + 1,σ7,H7,I7.unpinned,T.keep _ _ _ st5 fun b hb o e=>(I7.pin (b,o) (Zi _ (Zi _ (zC4 hb e)))).1,fun b hb=>?_,w7⟩;obtain ⟨o,e,d⟩:=T.obj _ _ st5 b hb;exact (I7.pin (b,o) (Zi _ (Zi _ (zC4 hb e)))).2.1
  cases f with
  | next=>obtain ⟨σ7,H7,I7,n7⟩:=q7;exact again I7 n7
  | cont=>obtain ⟨σ7,H7,I7,n7⟩:=q7;exact again I7 n7
  | brk=>obtain ⟨σ7,H7,I7,q7⟩:=q7;exact ⟨σ7,H7,I7.unpinned,q7⟩
  | ret v=>obtain ⟨x7,σ7,H7,I7,r7,q7⟩:=q7;exact ⟨x7,σ7,H7,I7.unpinned,r7,q7⟩
end
theorem zDf {K:PySem.W.Frag}{a:Addr}{xs:List V}{g:TG}{tb:TS}{D:Ends}{σ : St}{H:Hp} (Pv:Nat→St→Hp→Prop) (h0:Pv 0 σ H) (hl:∀ i σ H,i≤xs.length→Pv i σ H→SqL K H a xs)
  (hs:∀ i x σ H,xs[i]? = some x→Pv i σ H→g x σ H fun σ2 H2=>tb { D with nx:=Pv (i + 1),ct:=Pv (i + 1),bk:=D.nx } σ2 H2) (hd:∀ σ H,Pv xs.length σ H→D.nx σ H) :
  ∃ W:Nat→Nat→St→Hp→Prop,(∃ m,W 0 m σ H)∧∀ i m σ H,W i m σ H →
   ((Itl K a).stop i H∧D.nx σ H)∨((Itl K a).go i H∧∃ N:St→Hp→Prop,(∀ σ' H',N σ' H'→∃ m',m' < m∧W (i + 1) m' σ' H')∧∀ x H',(Itl K a).yld i H x H'→g x σ H' fun σ2 H2=>tb { D with nx:=N,ct:=N,bk:=D.nx } σ2 H2):=by
 refine ⟨fun i m σ H=>m=xs.length - i∧i≤xs.length∧Pv i σ H,⟨xs.length,by simp,Zv _,h0⟩,?_⟩;rintro i m σ H ⟨rfl,hi,p⟩;have q:=hl i σ H hi p;by_cases hlt:i < xs.length
 ·refine .inr ⟨⟨xs,xs[i],q,by simp [hlt]⟩,Pv (i + 1),fun σ' H' p'=>⟨xs.length - (i + 1),by omega,rfl,hlt,p'⟩,fun x H' y=>?_⟩;obtain ⟨e,y⟩:=y;subst e;exact hs i x σ _ (y xs q) p
 ·have e:i=xs.length:=by omega
  subst e;exact .inl ⟨⟨xs,q,Z5 _⟩,hd σ H p⟩
end L2
namespace L2
open PySem PySem.Spec PyProof.Rows
noncomputable abbrev R2:=V→V→Hp→VK→Prop
noncomputable def OpR (X:Cx) (f:Value→Value→Sem Value) (r:R2):Prop :=
 ∀ (pins:List (Addr×Obj)) (s:Shared) (σ : St) (H:Hp) (x y:V) (v u:Value) (Q:VK),Inv X pins σ H s→RelV x v→RelV y u→r x y H Q →
  wpAny (model X.prog X.w) X.A (f v u) (EP X pins σ Q) X.xe s
noncomputable def UnR (X:Cx) (f:Value→Sem Value) (r:V→Hp→VK→Prop):Prop :=
 ∀ (pins:List (Addr×Obj)) (s:Shared) (σ : St) (H:Hp) (x:V) (v:Value) (Q:VK),Inv X pins σ H s→RelV x v→r x H Q →
  wpAny (model X.prog X.w) X.A (f v) (EP X pins σ Q) X.xe s
noncomputable def CallR (X:Cx) (f:Value) (r:List V→Hp→VK→Prop):Prop :=
 ∀ (pins:List (Addr×Obj)) (s:Shared) (σ : St) (H:Hp) (xs:List V) (us:List Value) (Q:VK),Inv X pins σ H s→Vals xs us→r xs H Q →
  wpAny (model X.prog X.w) X.A (call f us) (EP X pins σ Q) X.xe s
noncomputable def tOp (r:R2) (ta tb:TE):TE:=fun σ H Q=>ta σ H fun x H1=>tb σ H1 fun y H2=>r x y H2 Q
noncomputable def tUn (r:V→Hp→VK→Prop) (ta:TE):TE:=fun σ H Q=>ta σ H fun x H1=>r x H1 Q
noncomputable def rI (C:Int→Int→Prop) (g:Int→Int→V):R2:=fun x y H Q=>∃ i j,x=.int i∧y=.int j∧C i j∧Q (g i j) H
noncomputable def rI0 (g:Int→Int→V):R2:=fun x y H Q=>∃ i j,x=.int i∧y=.int j∧Q (g i j) H
noncomputable def rU (g:Int→V):V→Hp→VK→Prop:=fun x H Q=>∃ i,x=.int i∧Q (g i) H
section
variable {X:Cx}{a b c:Expr}{ta tb tc:TE}{pos:Pos}
theorem binT (ha:PE X a ta) (hb:PE X b tb) {pins:List (Addr×Obj)}{s:Shared}{σ : St}{H:Hp}{R:V→V→Hp→Prop} (I:Inv X pins σ H s)
  (h:ta σ H fun x H1=>tb σ H1 fun y H2=>R x y H2) {Q:Value→Shared→Prop}{f:Value→Value→Sem Value}
  (hf:∀ v u s2 x y H2,Inv X pins σ H2 s2→RelV x v→RelV y u→R x y H2→wpAny (model X.prog X.w) X.A (f v u) Q X.xe s2) :
  wpAny (model X.prog X.w) X.A (eval a X.env) (fun v s₁=>wpAny (model X.prog X.w) X.A (eval b X.env) (fun u s₂=>wpAny (model X.prog X.w) X.A (f v u) Q X.xe s₂) X.xe s₁) X.xe s:=by
 refine thn (ha pins s σ H _ I h) fun v s1 ⟨x,H1,I1,r1,q1⟩=>?_;refine thn (hb pins s1 σ H1 _ I1 q1) fun u s2 ⟨y,H2,I2,r2,q2⟩=>?_;exact hf v u s2 x y H2 I2 r1 r2 q2
theorem zAg {op:Operator}{r:R2} (ho:OpR X (binaryOp op) r) (ha:PE X a ta) (hb:PE X b tb):PE X (.BinOp a op b pos) (tOp r ta tb):=by
 intro pins s σ H Q I h;exact wpAny_BinOp (binT ha hb I h fun v u s2 x y H2 I2 rx ry q=>ho pins s2 σ H2 x y v u Q I2 rx ry q)
theorem pe_un {op:UnaryOp}{r:V→Hp→VK→Prop} (ho:UnR X (unaryOp op) r) (ha:PE X a ta):PE X (.UnaryOp op a pos) (tUn r ta):=by
 intro pins s σ H Q I h;exact UnaryOp_ (thn (ha pins s σ H _ I h) fun v s1 ⟨x,H1,I1,r1,q1⟩=>ho pins s1 σ H1 x v Q I1 r1 q1)
theorem opI {f:Value→Value→Sem Value}{C:Int→Int→Prop}{g:Int→Int→Int}
  (rule:∀ (i j:Int) (t u:Tok) (s:Shared) (Q:Value→Shared→Prop) (E:Value→Shared→Prop),C i j→Q (.int (g i j) s.toks) { s with toks:=s.toks + 1 }→wpAny (model X.prog X.w) X.A (f (.int i t) (.int j u)) Q E s) :
  OpR X f (rI C fun i j=>.int (g i j)):=by
 intro pins s σ H x y v u Q I rx ry h;obtain ⟨i,j,rfl,rfl,hc,q⟩:=h;obtain ⟨t,rfl⟩:=rx;obtain ⟨t',rfl⟩:=ry;exact rule i j t t' s _ _ hc ⟨.int (g i j),H,I.tok _,⟨_,rfl⟩,q⟩
theorem opI0 {f:Value→Value→Sem Value}{g:Int→Int→Int}
  (rule:∀ (i j:Int) (t u:Tok) (s:Shared) (Q:Value→Shared→Prop) (E:Value→Shared→Prop),Q (.int (g i j) s.toks) { s with toks:=s.toks + 1 }→wpAny (model X.prog X.w) X.A (f (.int i t) (.int j u)) Q E s) :
  OpR X f (rI0 fun i j=>.int (g i j)):=by
 intro pins s σ H x y v u Q I rx ry h;obtain ⟨i,j,rfl,rfl,q⟩:=h;obtain ⟨t,rfl⟩:=rx;obtain ⟨t',rfl⟩:=ry;exact rule i j t t' s _ _ ⟨.int (g i j),H,I.tok _,⟨_,rfl⟩,q⟩
theorem opB0 {f:Value→Value→Sem Value}{g:Int→Int→Bool}
  (rule:∀ (i j:Int) (t u:Tok) (s:Shared) (Q:Value→Shared→Prop) (E:Value→Shared→Prop),Q (.bool (g i j)) s→wpAny (model X.prog X.w) X.A (f (.int i t) (.int j u)) Q E s) :
  OpR X f (rI0 fun i j=>.bl (g i j)):=by
 intro pins s σ H x y v u Q I rx ry h;obtain ⟨i,j,rfl,rfl,q⟩:=h;obtain ⟨t,rfl⟩:=rx;obtain ⟨t',rfl⟩:=ry;exact rule i j t t' s _ _ ⟨.bl (g i j),H,I,rfl,q⟩
noncomputable def CDiv (i j:Int):Prop:=0 < j∧j < 1073741824
noncomputable def CPow (i j:Int):Prop:=0≤j∧j≤1000000∧i.natAbs < 2 ^ 64
noncomputable def CMul (i j:Int):Prop:=(-(2 ^ 64) < i∧i < 2 ^ 64)∨(-(2 ^ 64) < j∧j < 2 ^ 64)
theorem CMul.ok {i j:Int} (h:CMul i j):IntMulOk i j:=by
 rcases h with ⟨h1,h2⟩ | ⟨h1,h2⟩
 ·exact .of_left (intBits_le_64 h1 h2)
 ·exact .of_right (intBits_le_64 h1 h2)
theorem zBc:OpR X (binaryOp .Add) (rI0 fun i j=>.int (i + j)):=opI0 fun _ _ _ _ _ _ _ q=>add_int q
theorem op_sub:OpR X (binaryOp .Sub) (rI0 fun i j=>.int (i - j)):=opI0 fun _ _ _ _ _ _ _ q=>sub_int q
theorem zC7:OpR X (binaryOp .Mult) (rI CMul fun i j=>.int (i * j)):=opI fun _ _ _ _ _ _ _ hc q=>mul_int q hc.ok
theorem zDa:OpR X (binaryOp .FloorDiv) (rI CDiv fun i j=>.int (i / j)):=opI fun i j _ _ _ _ _ hc q=>by
 have h1:(0:Int) < j:=hc.1;have h2:j < 1073741824:=hc.2;exact floordiv_int (by omega) (by rw [Int.fdiv_eq_ediv_of_nonneg i (by omega)];exact q) (.inl (PyProof.noPylong_small (by omega)))
theorem zBh:OpR X (binaryOp .Mod) (rI (fun _ j=>0 < j) fun i j=>.int (i % j)):=opI fun i j _ _ _ _ _ hc q=>by
 have h1:(0:Int) < j:=hc;exact mod_int' (by omega) (by rw [Int.fmod_eq_emod_of_nonneg i (by omega)];exact q)
theorem op_pow:OpR X (binaryOp .Pow) (rI CPow fun i j=>.int (i ^ j.toNat)):=opI fun _ _ _ _ _ _ _ hc q=>pow_int_small hc.1 hc.2.1 hc.2.2 q
theorem unI {f:Value→Sem Value}{g:Int→Int}
  (rule:∀ (i:Int) (t:Tok) (s:Shared) (Q:Value→Shared→Prop) (E:Value→Shared→Prop),Q (.int (g i) s.toks) { s with toks:=s.toks + 1 }→wpAny (model X.prog X.w) X.A (f (.int i t)) Q E s) :
  UnR X f (rU fun i=>.int (g i)):=by
 intro pins s σ H x v Q I rx h;obtain ⟨i,rfl,q⟩:=h;obtain ⟨t,rfl⟩:=rx;exact rule i t s _ _ ⟨.int (g i),H,I.tok _,⟨_,rfl⟩,q⟩
theorem un_neg:UnR X (unaryOp .USub) (rU fun i=>.int (-i)):=unI fun _ _ _ _ _ q=>neg_int q
end
noncomputable def scal:V→V→Bool
 | .non,.non=>true | .non,.int _=>true | .int _,.non=>true | .non,.bl _=>true | .bl _,.non=>true | .non,.str _=>true | .str _,.non=>true
 | .int _,.int _=>true | .bl _,.bl _=>true | .str _,.str _=>true | .byt _,.byt _=>true
 | .int _,.str _=>true | .str _,.int _=>true | .bl _,.str _=>true | .str _,.bl _=>true
 | _,_=>false
noncomputable def rEq:R2:=fun x y H Q=>scal x y=true∧Q (.bl (decide (x=y))) H
noncomputable def rNe:R2:=fun x y H Q=>scal x y=true∧Q (.bl (!decide (x=y))) H
theorem dec_int {i j:Int}:decide (V.int i=V.int j)=(i == j):=by
 rw [Y8];simp
theorem dec_bl {i j:Bool}:decide (V.bl i=V.bl j)=(i == j):=by
 rw [Y8];simp
theorem dec_str {i j:Str}:decide (V.str i=V.str j)=(i == j):=by
 rw [Y8];simp
theorem dec_byt {i j:Array UInt8}:decide (V.byt i=V.byt j)=(i.toList == j.toList):=by
 rw [Y8];cases i;cases j;simp
section
variable {X:Cx}{a b c:Expr}{ta tb tc:TE}{pos:Pos}
theorem zAh {pins:List (Addr×Obj)}{σ : St}{H:Hp}{s:Shared}{Q:VK}{k k':Bool} (I:Inv X pins σ H s) (q:Q (.bl k) H) (e:k=k'):EP X pins σ Q (.bool k') s:=by
 subst e;exact ⟨.bl k,H,I,rfl,q⟩
theorem zCq:OpR X (compareOp .Eq) rEq:=by
 intro pins s σ H x y v u Q I rx ry h;obtain ⟨hs,q⟩:=h;cases x with
 | non =>
  cases rx;cases y with
  | non=>cases ry;exact PySem.EqNone.eq_none_none (zAh I q (by simp))
  | bl j=>cases ry;exact PySem.EqNone.eq_none_bool (zAh I q (by simp))
  | int j=>obtain ⟨t',rfl⟩:=ry;exact PySem.EqNone.eq_none_int (zAh I q (by simp))
  | str j=>obtain ⟨t',rfl⟩:=ry;exact PySem.EqNone.eq_none_str (zAh I q (by simp))
  | _=>exact absurd (show false=true from hs) Ze
 | bl i =>
  cases rx;cases y with
  | non=>cases ry;exact PySem.EqNone.eq_bool_none (zAh I q (by simp))
  | bl j=>cases ry;exact eq_bool (zAh I q dec_bl)
  | str j=>obtain ⟨t',rfl⟩:=ry;exact PySem.EqMixed.eq_bool_str (zAh I q (by simp))
  | _=>exact absurd (show false=true from hs) Ze
 | int i =>
  obtain ⟨t,rfl⟩:=rx;cases y with
  | non=>cases ry;exact PySem.EqNone.eq_int_none (zAh I q (by simp))
  | int j=>obtain ⟨t',rfl⟩:=ry;exact eq_int (zAh I q dec_int)
  | str j=>obtain ⟨t',rfl⟩:=ry;exact PySem.EqMixed.eq_int_str (zAh I q (by simp))
  | _=>exact absurd (show false=true from hs) Ze
 | str i =>
  obtain ⟨t,rfl⟩:=rx;cases y with
  | non=>cases ry;exact PySem.EqNone.eq_str_none (zAh I q (by simp))
  | bl j=>cases ry;exact PySem.EqMixed.eq_str_bool (zAh I q (by simp))
  | int j=>obtain ⟨t',rfl⟩:=ry;exact PySem.EqMixed.eq_str_int (zAh I q (by simp))
  | str j=>obtain ⟨t',rfl⟩:=ry;exact eq_str (zAh I q dec_str)
  | _=>exact absurd (show false=true from hs) Ze
 | byt i =>
  obtain ⟨t,rfl⟩:=rx;cases y with
  | byt j=>obtain ⟨t',rfl⟩:=ry;exact PySem.W.eq_bytes (zAh I q dec_byt)
  | _=>exact absurd (show false=true from hs) Ze
 | _=>cases y <;> exact absurd (show false=true from hs) Ze
theorem op_ne:OpR X (compareOp .NotEq) rNe:=by
 intro pins s σ H x y v u Q I rx ry h;obtain ⟨hs,q⟩:=h;cases x with
 | non =>
  cases rx;cases y with
  | non=>cases ry;exact PySem.EqNone.ne_none_none (zAh I q (by simp))
  | bl j=>cases ry;exact PySem.EqNone.ne_none_bool (zAh I q (by simp))
  | int j=>obtain ⟨t',rfl⟩:=ry;exact PySem.EqNone.ne_none_int (zAh I q (by simp))
  | str j=>obtain ⟨t',rfl⟩:=ry;exact PySem.EqNone.ne_none_str (zAh I q (by simp))
  | _=>exact absurd (show false=true from hs) Ze
 | bl i =>
  cases rx;cases y with
  | non=>cases ry;exact PySem.EqNone.ne_bool_none (zAh I q (by simp))
  | bl j=>cases ry;exact ne_bool (zAh I q (congrArg not dec_bl))
  | str j=>obtain ⟨t',rfl⟩:=ry;exact PySem.EqMixed.ne_bool_str (zAh I q (by simp))
  | _=>exact absurd (show false=true from hs) Ze
 | int i =>
  obtain ⟨t,rfl⟩:=rx;cases y with
  | non=>cases ry;exact PySem.EqNone.ne_int_none (zAh I q (by simp))
  | int j=>obtain ⟨t',rfl⟩:=ry;exact ne_int (zAh I q (congrArg not dec_int))
  | str j=>obtain ⟨t',rfl⟩:=ry;exact PySem.EqMixed.ne_int_str (zAh I q (by simp))
  | _=>exact absurd (show false=true from hs) Ze
 | str i =>
  obtain ⟨t,rfl⟩:=rx;cases y with
  | non=>cases ry;exact PySem.EqNone.ne_str_none (zAh I q (by simp))
  | bl j=>cases ry;exact PySem.EqMixed.ne_str_bool (zAh I q (by simp))
  | int j=>obtain ⟨t',rfl⟩:=ry;exact PySem.EqMixed.ne_str_int (zAh I q (by simp))
  | str j=>obtain ⟨t',rfl⟩:=ry;exact ne_str (zAh I q (congrArg not dec_str))
  | _=>exact absurd (show false=true from hs) Ze
 | byt i =>
  obtain ⟨t,rfl⟩:=rx;cases y with
  | byt j=>obtain ⟨t',rfl⟩:=ry;exact PySem.W.ne_bytes (zAh I q (congrArg not dec_byt))
  | _=>exact absurd (show false=true from hs) Ze
 | _=>cases y <;> exact absurd (show false=true from hs) Ze
theorem op_le:OpR X (compareOp .LtE) (rI0 fun i j=>.bl (decide (i≤j))):=opB0 fun _ _ _ _ _ _ _ q=>le_int q
theorem op_gt:OpR X (compareOp .Gt) (rI0 fun i j=>.bl (decide (j < i))):=opB0 fun _ _ _ _ _ _ _ q=>gt_int q
theorem op_in_str:OpR X (compareOp .In) (fun x y H Q=>∃ i j,x=.str i∧y=.str j∧Q (.bl (!(Builtin.Str.occurrences j i 0 j.length 1).isEmpty)) H):=by
 intro pins s σ H x y v u Q I rx ry h;obtain ⟨i,j,rfl,rfl,q⟩:=h;obtain ⟨t,rfl⟩:=rx;obtain ⟨t',rfl⟩:=ry;exact in_str (zAh I q rfl)
theorem op_isN:OpR X (compareOp .Is) (fun x y H Q=>y=.non∧Q (.bl (decide (x=.non))) H):=by
 intro pins s σ H x y v u Q I rx ry h;obtain ⟨rfl,q⟩:=h;cases ry;refine is_none_gen (zAh I q ?_)
 cases x <;> first
  | (cases rx;rfl)
  | (obtain ⟨t,rfl⟩:=rx;rfl)
theorem nomark (b:Expr) {op:CmpOp} (h:op≠.In:=by decide) (h2:op≠.NotIn:=by decide):behindInMarks op b=false:=by
 have e1:(op == CmpOp.In)=false:=by cases op <;> first | rfl | exact absurd rfl h
 have e2:(op == CmpOp.NotIn)=false:=by cases op <;> first | rfl | exact absurd rfl h2
 cases b <;> simp [behindInMarks,e1,e2]
theorem zB4 {op:CmpOp}{r:R2} (ho:OpR X (compareOp op) r) (ha:PE X a ta) (hb:PE X b tb) (hm:behindInMarks op b=false):PE X (.Compare a [op] [b] pos) (tOp r ta tb):=by
 intro pins s σ H Q I h;exact wpAny_Compare1 (binT ha hb I h fun v u s2 x y H2 I2 rx ry q=>ho pins s2 σ H2 x y v u Q I2 rx ry q) hm
noncomputable def tTest (t:TE):TT:=fun σ H Q=>t σ H fun x H'=>∃ k,x=.bl k∧Q k H'
theorem zAl {op:CmpOp}{r:R2} (ho:OpR X (compareOp op) r) (ha:PE X a ta) (hb:PE X b tb) (hm:behindInMarks op b=false):PT X (.Compare a [op] [b] pos) (tTest (tOp r ta tb)):=by
 intro pins s σ H Q I h
 refine wpAny_isTrue_Compare1 (thn (ha pins s σ H _ I h) fun v s1 ⟨x,H1,I1,r1,q1⟩=>thn (hb pins s1 σ H1 _ I1 q1) fun u s2 ⟨y,H2,I2,r2,q2⟩ =>
  thn (ho pins s2 σ H2 x y v u _ I2 r1 r2 q2) fun c s3 ⟨z,H3,I3,r3,k,e,q3⟩=>?_) hm
 subst e;cases r3;exact wpAny_truthy_bool ⟨H3,I3,q3⟩
noncomputable def tChain (r r':R2) (ta tb tc:TE):TE:=fun σ H Q=>ta σ H fun x H1=>tb σ H1 fun y H2=>r x y H2 fun z H3=>∃ k,z=.bl k ∧
 (if k=true then tc σ H3 fun w' H4=>r' y w' H4 Q else Q (.bl false) H3)
theorem zD6 {op op':CmpOp}{r r':R2} (ho:OpR X (compareOp op) r) (ho':OpR X (compareOp op') r') (ha:PE X a ta) (hb:PE X b tb) (hc:PE X c tc)
  (hm:lastMarks [op,op'] [b,c]=false:=by with_unfolding_all rfl):PE X (.Compare a [op,op'] [b,c] pos) (tChain r r' ta tb tc):=by
 intro pins s σ H Q I h
 refine Compare_chain (thn (ha pins s σ H _ I h) fun v s1 ⟨x,H1,I1,r1,q1⟩=>chain_link (thn (hb pins s1 σ H1 _ I1 q1) fun u s2 ⟨y,H2,I2,r2,q2⟩ =>
  thn (ho pins s2 σ H2 x y v u _ I2 r1 r2 q2) fun d s3 ⟨z,H3,I3,r3,k,e,q3⟩=>?_)) hm
 subst e;cases r3;refine wpAny_truthy_bool ?_;cases k with
 | false=>exact ite_ff ⟨.bl false,H3,I3,rfl,q3⟩
 | true=>exact ite_tt (chain_last (thn (hc pins s3 σ H3 _ I3 q3) fun w' s4 ⟨z',H4,I4,r4,q4⟩=>ho' pins s4 σ H4 y z' u w' Q I4 r2 r4 q4))
theorem line63:(sizeLine:Nat) < 2 ^ 63:=by rw [sizeLine_eq];decide
theorem vals1 {x:V}{us:List Value} (r:Vals [x] us):∃ u,us=[u]∧RelV x u:=by
 cases r with
 | cons r1 r2=>cases r2;exact ⟨_,rfl,r1⟩
theorem call_int1:CallR X (.type "int") (fun xs H Q=>(∃ i,xs=[.int i]∧Q (.int i) H)∨∃ k,xs=[.bl k]∧Q (.int (if k then 1 else 0)) H):=by
 intro pins s σ H xs us Q I r h;rcases h with ⟨i,rfl,q⟩ | ⟨k,rfl,q⟩
 ·obtain ⟨u,rfl,t,rfl⟩:=vals1 r;exact call_int_int ⟨.int i,H,I,⟨_,rfl⟩,q⟩
 ·obtain ⟨u,rfl,r1⟩:=vals1 r;cases r1;exact call_int_bool ⟨.int (if k then 1 else 0),H,I.tok _,⟨_,rfl⟩,q⟩
end
end L2
namespace L2
open PySem PySem.Spec PyProof.Rows
structure ObjM (h:Heap) (x dx C:Addr) (mA:Str→Option Value):Prop where
 obj:h.get? x=some (PySem.W.instObj C dx)
 ns:h.Ns1 dx mA
 ne:dx≠x
theorem lookIn_ns {h:Heap}{dx:Addr}{mA:Str→Option Value} (n:h.Ns1 dx mA):∃ od,h.get? dx=some od∧∀ name,PySem.W.lookIn name od=some (mA name):=by
 obtain ⟨o,es,ep,ho,hd,hk,_,hm⟩:=n;refine ⟨o,ho,fun name=>?_⟩;have e:=hm name;unfold nsFind findBy at e;rw [← Array.find?_toList] at e;unfold PySem.W.lookIn;rw [hd];dsimp only;split
 ·rename_i y q
  rw [q] at e;exact congrArg some e
 ·rename_i q
  rw [q] at e;have a:es.toList.any (·.refKey)=false:=by
   rw [List.any_eq_false];intro y hy;obtain ⟨z,t,hkey⟩:=hk y (Array.mem_toList_iff.mp hy);simp [DictEntry.refKey,hkey]
  have a':¬ es.toList.any (·.refKey)=true:=by rw [a];exact Ze
  rw [if_neg a'];exact congrArg some e
theorem ObjM.look {h:Heap}{x dx C:Addr}{mA:Str→Option Value} (I:ObjM h x dx C mA):∃ od,PySem.W.InstAt h x (PySem.W.instObj C dx) C (some od)∧∀ name,PySem.W.lookIn name od=some (mA name) :=
 let ⟨od,ho,hl⟩:=lookIn_ns I.ns
 ⟨od,⟨I.obj,rfl,rfl,ho⟩,hl⟩
section
variable {prog:Program}{w:World}{A:Around}{E:Value→Shared→Prop}{s:Shared}{K:PySem.W.Frag}{x dx C f:Addr}{mA:Str→Option Value}{name:Str}{v:Value}
theorem get_map {expr:Bool}{Q:Value→Shared→Prop} (X:K.In s.heap) (I:ObjM s.heap x dx C mA) (hg:PySem.W.plainGet K C name=true) (hh:PySem.W.hasDictIn K C=true)
  (ha:PySem.W.findIn K (.ref C) name=some none) (hv:mA name=some v) (hv':PySem.W.handedIn v=true) (h:Q v { s with toks:=s.toks + 1 }) :
  wpAny (model prog w) A (getAttr (.ref x) name expr) Q E s:=by
 obtain ⟨od,J,hl⟩:=I.look;exact PySem.W.get_value X J (PySem.W.plainGet_of hg).1 (PySem.W.findObj_own hh ha rfl (by rw [hl,hv])) hv' h
theorem set_map {ns:List Str}{Q:Unit→Shared→Prop} (X:K.In s.heap) (I:ObjM s.heap x dx C mA)
  (hs:PySem.W.findIn K (.ref C) "__setattr__" = some (some (.builtin "object.__setattr__"))) (hp:PySem.W.plainOver K C=true) (ht:PySem.W.takerIn K C name=some none) (hh:PySem.W.hasDictIn K C=true)
  (hw:PySem.Within mA ns) (hsz:ns.length≤sizeLine)
  (h:∀ h',ObjM h' x dx C (fun y=>if y=name then some v else mA y)→Heap.SameBut dx s.heap h'→Q () { s with heap:=h',toks:=s.toks + 2 }) :
  wpAny (model prog w) A (setAttr (.ref x) name v) Q E s:=by
 obtain ⟨od,J,hl⟩:=I.look;refine PySem.W.set_plain X J hs (PySem.W.osa_open (s:={ s with toks:=s.toks + 1 }) (r:=none) X J hp ht fun b=>?_);obtain ⟨cd,hc,hd'⟩:=PySem.W.any_some hh;have hx:s.heap.get? x=some ⟨.ref C,some dx,.plain,#[]⟩:=I.obj;refine wpAny_bind (wpAny_pure (wpAny_bind (wpAny_bind (wpAny_loadPart hx (wpAny_bind (PySem.W.Looks.here (s:={ s with toks:=s.toks + 1 }) (PySem.W.looks_clsIn X hc) ?_))))));rw [hd'];refine wpAny_pure (a:=some dx) (wpAny_bind (wpAny_pure (wpAny_bind ?_)));refine wpAny_nsSet1 (s:={ s with toks:=s.toks + 1 }) I.ns fun h' hn2 hs2=>?_;obtain ⟨oD,esD,epD,hoD,hdD,hcD⟩:=hn2.count (PySem.Within.cons name v hw);refine wpAny_bind (wpAny_lookBehind hoD (by rw [hdD];exact pastItsLine_dict (Zs hcD (by rw [Z8];omega))) ?_);exact wpAny_pure (h _ ⟨(hs2.2 _ (Ne.symm I.ne)).trans I.obj,hn2,I.ne⟩ hs2)
theorem make_map {R:Result→Shared→Prop}{vs:List Value}{kw:List (Str×Value)} (X:K.In s.heap) (hm:PySem.W.makesIn K C=true)
  (hi:PySem.W.findIn K (.ref C) "__init__" = some (some (.ref f))) (hf:PySem.W.typeIn K (.ref f)=some (.type "function"))
  (h:codeAny (model prog w) (A.under (.builtin "type.__call__" ⟨.ref C :: vs,kw⟩)) (.call (.ref f) ⟨.ref (s.heap.objs.size + 1) :: vs,kw⟩) (PySem.W.InitBack (s.heap.objs.size + 1) R)
   { s with heap:=(s.heap.push PySem.W.emptyDict).push (PySem.W.instObj C s.heap.objs.size) }) :
  codeAny (model prog w) A (.call (.ref C) ⟨vs,kw⟩) R s:=by
 obtain ⟨hh,g,d,t,os⟩:=s;exact PySem.W.make_core (PySem.W.makes_of X hm) (PySem.W.looks_findIn X hi) (fun self=>PySem.W.bind_fn X self hf) (.inl rfl) h
end
noncomputable def putF (f:Str) (v:V):List (Str×V)→List (Str×V)
 | []=>[(f,v)]
 | (g,x) :: r=>if g=f then (g,v) :: r else (g,x) :: putF f v r
theorem zAo (f g:Str) (v:V):∀ fs:List (Str×V),(putF f v fs).lookup g=if g=f then some v else fs.lookup g
 | []=>by
  show List.lookup g [(f,v)]=_;by_cases h:g=f
  ·have hb:(g == f)=true:=beq_iff_eq.mpr h;simp only [List.lookup,hb,if_pos h]
  ·have hb:(g == f)=false:=beq_eq_false_iff_ne.mpr h;simp only [List.lookup,hb,if_neg h]
 | (k,x) :: r=>by
  have ih:=zAo f g v r;rw [show putF f v ((k,x) :: r)=(if k=f then (k,v) :: r else (k,x) :: putF f v r) from rfl];by_cases hk:k=f
  ·rw [if_pos hk];by_cases h:g=k
   ·have hb:(g == k)=true:=beq_iff_eq.mpr h;simp only [List.lookup,hb,if_pos (h.trans hk)]
   ·have hb:(g == k)=false:=beq_eq_false_iff_ne.mpr h;simp only [List.lookup,hb,if_neg (fun e:g=f=>h (e.trans hk.symm))]
  ·rw [if_neg hk];by_cases h:g=k
   ·have hb:(g == k)=true:=beq_iff_eq.mpr h;simp only [List.lookup,hb,if_neg (fun e:g=f=>hk (h.symm.trans e))]
   ·have hb:(g == k)=false:=beq_eq_false_iff_ne.mpr h;simp only [List.lookup,hb];exact ih
theorem zCm (f:Str) (v:V):∀ fs:List (Str×V),f∈(putF f v fs).map (·.1)∧∀ g,g∈fs.map (·.1)→g∈(putF f v fs).map (·.1)
 | []=>⟨by simp [putF],fun g h=>by simp at h⟩
 | (k,x) :: r=>by
  obtain ⟨i1,i2⟩:=zCm f v r;rw [show putF f v ((k,x) :: r)=(if k=f then (k,v) :: r else (k,x) :: putF f v r) from rfl];by_cases hk:k=f
  ·rw [if_pos hk];subst hk;exact ⟨by simp,fun g h=>by simpa using h⟩
  ·rw [if_neg hk];refine ⟨?_,fun g h=>?_⟩
   ·rw [Zj];exact Z9 _ i1
   ·rw [Zj] at h ⊢;rcases List.mem_cons.mp h with e | e
    ·exact List.mem_cons.mpr (.inl e)
    ·exact Z9 _ (i2 g e)
theorem zBk (f:Str) (v:V):∀ fs:List (Str×V),(putF f v fs).length≤fs.length + 1
 | []=>by simp [putF]
 | (k,x) :: r=>by
  have ih:=zBk f v r;rw [show putF f v ((k,x) :: r)=(if k=f then (k,v) :: r else (k,x) :: putF f v r) from rfl];by_cases hk:k=f
  ·rw [if_pos hk,Z8,Z8];omega
  ·rw [if_neg hk,Z8,Z8];omega
theorem RelO.some_of {v:V}{o:Option Value} (r:RelO (some v) o):∃ u,o=some u∧RelV v u:=by
 cases o with
 | none=>exact (show False from r).elim
 | some u=>exact ⟨u,rfl,r⟩
theorem handed_of {v:V}{u:Value} (r:RelV v u):PySem.W.handedIn u=true:=by
 cases v with
 | non=>cases (show u=Value.none from r);rfl
 | bl b=>cases (show u=Value.bool b from r);rfl
 | int i=>obtain ⟨t,e⟩:=(show ∃ t,u=Value.int i t from r);cases e;rfl
 | str x=>obtain ⟨t,e⟩:=(show ∃ t,u=Value.str x t from r);cases e;rfl
 | byt b=>obtain ⟨t,e⟩:=(show ∃ t,u=Value.bytes b t from r);cases e;rfl
 | flt b=>obtain ⟨t,e⟩:=(show ∃ t,u=Value.float b t from r);cases e;rfl
 | ref a=>cases (show u=Value.ref a from r);rfl
 | ty n=>cases (show u=Value.type n from r);rfl
section
variable {P:Program}{w:World}{H H':Hp}{h h':Heap}{a C dx:Addr}{fs fs':List (Str×V)}
theorem ins_get (hok:HOk P w H h) (e:H a=some (.ins C dx fs)):∃ mA,ObjM h a dx C mA∧(∀ f,RelO (fs.lookup f) (mA f))∧PySem.Within mA (fs.map (·.1))∧fs.length≤1000∧H dx=some (.own a):=by
 obtain ⟨d,z,ne,ob,mA,n,r,q⟩:=(show ObjOk P w H h a (.ins C dx fs) from hok a _ e);exact ⟨mA,⟨ob,n,ne⟩,r,q,z,d⟩
end
structure Cls (K:PySem.W.Frag) (C:Addr):Prop where
 pg:PySem.W.plainGet K C Str.empty=true
 hd:PySem.W.hasDictIn K C=true
 po:PySem.W.plainOver K C=true
 sa:PySem.W.findIn K (.ref C) "__setattr__" = some (some (.builtin "object.__setattr__"))
theorem Cls.get {K:PySem.W.Frag}{C:Addr} (c:Cls K C) (f:Str):PySem.W.plainGet K C f=true:=c.pg
noncomputable def NoAttr (K:PySem.W.Frag) (C:Addr) (f:Str):Prop:=PySem.W.findIn K (.ref C) f=some none
theorem NoAttr.taker {K:PySem.W.Frag}{C:Addr}{f:Str} (n:NoAttr K C f):PySem.W.takerIn K C f=some none:=by
 unfold PySem.W.takerIn;rw [show PySem.W.findIn K (.ref C) f=some none from n];rfl
section
variable {X:Cx}{pins:List (Addr×Obj)}{σ : St}{H:Hp}{s:Shared}{a C dx:Addr}{fs:List (Str×V)}{f:Str}{v:V}{A:Around}{E:Value→Shared→Prop}
theorem getattr_ok {b:Bool}{Q:Value→Shared→Prop} (I:Inv X pins σ H s) (e:H a=some (.ins C dx fs)) (c:Cls X.K C) (n:NoAttr X.K C f) (l:fs.lookup f=some v)
  (h:∀ u s',Inv X pins σ H s'→RelV v u→Q u s'):wpAny (model X.prog X.w) A (getAttr (.ref a) f b) Q E s:=by
 obtain ⟨mA,O,r,_,_,_⟩:=ins_get I.hok e;obtain ⟨u,hu,ru⟩:=RelO.some_of (v:=v) (o:=mA f) (by rw [← l];exact r f);exact get_map I.kIn O (c.get f) c.hd n hu (handed_of ru) (h u _ (I.tok _) ru)
theorem setattr_ok {y:V}{u:Value}{Q:Unit→Shared→Prop} (I:Inv X pins σ H s) (e:H a=some (.ins C dx fs)) (c:Cls X.K C) (n:NoAttr X.K C f) (hl:fs.length < 1000) (ry:RelV y u)
  (h:∀ s',Inv X pins σ (upd H a (.ins C dx (putF f y fs))) s'→Q () s'):wpAny (model X.prog X.w) A (setAttr (.ref a) f u) Q E s:=by
 obtain ⟨mA,O,r,wi,_,ho⟩:=ins_get I.hok e;have hz:(fs.map (·.1)).length≤sizeLine:=by rw [Z1,sizeLine_eq];omega
 refine set_map I.kIn O c.sa c.po n.taker c.hd wi hz fun h' O' sb=>h _ ?_;have hd:∃ o,h'.get? dx=some o:=let ⟨o,_,_,e',_⟩:=O'.ns;⟨o,e'⟩;refine I.write (x:=a) (e:=dx) (by rw [e];exact True.intro) (.inr ho) (fun b q hb z=>(sb.2 b hb).trans z) hd ?_;refine ⟨by rw [zA9 O.ne];exact ho,?_,O.ne,O'.obj,_,O'.ns,fun g=>?_,fun g hg=>?_⟩
 ·have:=zBk f y fs;omega
 ·show RelO ((putF f y fs).lookup g) (if g=f then some u else mA g);rw [zAo];by_cases q:g=f
  ·rw [if_pos q,if_pos q];exact ry
  ·rw [if_neg q,if_neg q];exact r g
 ·by_cases q:g=f
  ·rw [q];exact (zCm f y fs).1
  ·refine (zCm f y fs).2 g (wi g fun z=>hg ?_);show (if g=f then some u else mA g)=none;rw [if_neg q];exact z
theorem Inv.made (I:Inv X pins σ H s):Inv X pins σ (upd (upd H s.heap.objs.size (.own (s.heap.objs.size + 1))) (s.heap.objs.size + 1) (.ins C s.heap.objs.size []))
  { s with heap:=(s.heap.push PySem.W.emptyDict).push (PySem.W.instObj C s.heap.objs.size) }:=by
 have e1:(s.heap.push PySem.W.emptyDict).get? s.heap.objs.size=some PySem.W.emptyDict:=Z7 s.heap rfl;have e2:((s.heap.push PySem.W.emptyDict).push (PySem.W.instObj C s.heap.objs.size)).get? (s.heap.objs.size + 1)=some (PySem.W.instObj C s.heap.objs.size):=by
  have:=Z7 (s.heap.push PySem.W.emptyDict) (o:=PySem.W.instObj C s.heap.objs.size) rfl
  rwa [Y6] at this
 have e3:(s.heap.push PySem.W.emptyDict).Ns s.heap.objs.size (fun _=>none):=⟨PySem.W.emptyDict,#[],_,e1,rfl,(fun e he=>absurd he (by simp)),fun _=>rfl⟩;have I1:=I.laid (a:=s.heap.objs.size) (o:=.own (s.heap.objs.size + 1)) (h':=s.heap.push PySem.W.emptyDict) (t':=s.toks) (fun b u q=>Z0 _ q) (Z5 _) ⟨_,e1⟩;refine I1.laid (a:=s.heap.objs.size + 1) (o:=.ins C s.heap.objs.size []) (t':=s.toks) (fun b u q=>Z0 _ q) (Nat.le_of_eq (Y6 _ _)) ?_;have ne:s.heap.objs.size≠s.heap.objs.size + 1:=Z4 (Nat.lt_succ_self _);refine ⟨by rw [zA9 ne,zA2],Zv _,ne,e2,fun _=>none,(Heap.Ns1.of_empty e3).at fun o q=>Z0 _ q,fun _=>True.intro,fun y hy=>absurd rfl hy⟩
theorem attr_of {prog:Program}{w:World}{env:Env}{e:Expr}{f:Str}{pos:Pos}{s:Shared}{Q:Value→Shared→Prop} (hb:attributeBase e f env (eval e env)=eval e env)
  (h:wpAny (model prog w) A (eval e env) (fun o s₁=>wpAny (model prog w) A (getAttr o f true) Q E s₁) E s):wpAny (model prog w) A (eval (.Attribute e f pos) env) Q E s :=
 Attribute_any_ h (by rw [arm_eval_Attribute,hb])
end
noncomputable def tFld (K:PySem.W.Frag) (ta:TE) (f:Str):TE:=fun σ H Q=>ta σ H fun x H1=>∃ a C dx fs v,x=.ref a∧H1 a=some (.ins C dx fs)∧Cls K C∧NoAttr K C f∧fs.lookup f=some v∧Q v H1
noncomputable def sFld (K:PySem.W.Frag) (ta tv:TE) (f:Str):TS:=fun D σ H=>tv σ H fun y H1=>ta σ H1 fun x H2=>∃ a C dx fs,x=.ref a∧H2 a=some (.ins C dx fs)∧Cls K C∧NoAttr K C f∧fs.length < 1000 ∧
 D.nx σ (upd H2 a (.ins C dx (putF f y fs)))
section
variable {X:Cx}{o e value:Expr}{f:Str}{pos pos' tpos:Pos}{ta tv:TE}
theorem zBr (he:PE X e ta) (hb:attributeBase e f X.env (eval e X.env)=eval e X.env):PE X (.Attribute e f pos) (tFld X.K ta f):=by
 intro pins s σ H Q I h;refine attr_of hb (thn (he pins s σ H _ I h) fun u s1 ⟨x,H1,I1,rx,a,C,dx,fs,v,ex,ea,c,n,l,q⟩=>?_);subst ex;obtain rfl:u=Value.ref a:=rx;exact getattr_ok I1 ea c n l fun u' s2 I2 ru=>⟨v,H1,I2,ru,q⟩
theorem ps_fld (ha:PE X o ta) (hv:PE X value tv) (hs:swapsWith value (some (.Attribute o f pos')) pos.line X.env=pure false):PS X (.Assign [.Attribute o f pos'] value pos) (sFld X.K ta tv f):=by
 intro pins s σ H D I h;refine plainObj_wpAny_Assign_Attribute (thn (hv pins s σ H _ I h) fun u s1 ⟨y,H1,I1,ry,q⟩=>thn (ha pins s1 σ H1 _ I1 q) fun ov s2 ⟨x,H2,I2,rx,a,C,dx,fs,ex,ea,c,n,l,q2⟩=>?_) hs;subst ex;obtain rfl:ov=Value.ref a:=rx;exact setattr_ok I2 ea c n l ry fun s3 I3=>⟨σ,_,I3,q2⟩
end
section
variable {X:Cx}{pins:List (Addr×Obj)}{σ : St}{H:Hp}{s:Shared}{A:Around}{E:Value→Shared→Prop}{Q:Value→Shared→Prop}{c:Value}{b:Bool}
inductive TyOf (K:PySem.W.Frag) (H:Hp):V→Value→Prop where
 | non:TyOf K H .non (.type "NoneType")
 | bl (x:Bool):TyOf K H (.bl x) (.type "bool")
 | int (i:Int):TyOf K H (.int i) (.type "int")
 | str (x:Str):TyOf K H (.str x) (.type "str")
 | flt (x:UInt64):TyOf K H (.flt x) (.type "float")
 | lst {a:Addr}{xs:List V} (e:H a=some (.lst xs)):TyOf K H (.ref a) (.type "list")
 | frz {a:Addr}{o:Obj}{xs:List V} (e:H a=some (.frz o (.lst xs))):TyOf K H (.ref a) (.type "list")
 | tup {a:Addr}{xs:List V} (e:H a=some (.tup xs)):TyOf K H (.ref a) (.type "tuple")
 | dK {a:Addr}{kvs:List (Key×V)} (e:H a=some (.dK kvs)):TyOf K H (.ref a) (.type "dict")
 | dT {a:Addr}{kvs:List (List Key×V)} (e:H a=some (.dT kvs)):TyOf K H (.ref a) (.type "dict")
 | ins {a C dx:Addr}{fs:List (Str×V)} (e:H a=some (.ins C dx fs)) (cl:Cls K C) (ha:PySem.W.findIn K (.ref C) "__class__" = some (some (.builtin "object.__class__")))
   (hn:PySem.W.specialIn K (.builtin "object.__class__") "__get__" = some (some (.builtin "getset_descriptor.__get__"))) (htk:PySem.W.takesIn K (.builtin "object.__class__")=some true)
   (hm:PySem.W.mroIn K C (.type "object")=some true):TyOf K H (.ref a) (.ref C)
theorem isinst_ok {x:V}{u t:Value} (I:Inv X pins σ H s) (rx:RelV x u) (ty:TyOf X.K H x t) (e:PySem.W.kitOne X.K t c=some b) (h:∀ tk,Q (.bool b) { s with toks:=tk }) :
  wpAny (model X.prog X.w) A (call (.builtin "isinstance") [u,c]) Q E s:=by
 cases ty with
 | non=>cases (show u=Value.none from rx);exact PySem.W.kia_one PySem.W.kitx_none I.kIn True.intro e (fun z=>nomatch z) h
 | bl y=>cases (show u=Value.bool y from rx);exact PySem.W.kia_one PySem.W.kitx_bool I.kIn True.intro e (fun z=>nomatch z) h
 | int i=>obtain ⟨t,q⟩:=(show ∃ t,u=Value.int i t from rx);cases q;exact PySem.W.kia_one PySem.W.kitx_int I.kIn True.intro e (fun z=>nomatch z) h
 | str y=>obtain ⟨t,q⟩:=(show ∃ t,u=Value.str y t from rx);cases q;exact PySem.W.kia_one PySem.W.kitx_str I.kIn True.intro e (fun z=>nomatch z) h
 | flt y=>obtain ⟨t,q⟩:=(show ∃ t,u=Value.float y t from rx);cases q;exact PySem.W.kia_one PySem.W.kitx_float I.kIn True.intro e (fun z=>nomatch z) h
 | @lst a xs ea =>
  cases (show u=Value.ref a from rx);obtain ⟨_,_,n,_,h1⟩:=(show ObjOk X.prog X.w H s.heap a (.lst xs) from I.hok a _ ea);exact PySem.W.kia_one PySem.W.kitx_list I.kIn ⟨_,h1,rfl⟩ e (fun z=>nomatch z) h
 | @frz a ob xs ea =>
  cases (show u=Value.ref a from rx);obtain ⟨_,_,_,n,_,h1⟩:=(show ObjOk X.prog X.w H s.heap a (.frz ob (.lst xs)) from I.hok a _ ea);exact PySem.W.kia_one PySem.W.kitx_list I.kIn ⟨_,h1,rfl⟩ e (fun z=>nomatch z) h
 | @tup a xs ea =>
  cases (show u=Value.ref a from rx);obtain ⟨_,_,_,p⟩:=(show ObjOk X.prog X.w H s.heap a (.tup xs) from I.hok a _ ea);obtain ⟨o,h1,h2,_⟩:=p;exact PySem.W.kia_one PySem.W.kitx_tuple I.kIn ⟨o,h1,h2⟩ e (fun z=>nomatch z) h
 | @dK a kvs ea =>
  cases (show u=Value.ref a from rx);obtain ⟨_,_,vs,_,p⟩:=(show ObjOk X.prog X.w H s.heap a (.dK kvs) from I.hok a _ ea);obtain ⟨o,es,ep,h1,h2,_⟩:=p;exact PySem.W.kia_one PySem.W.kitx_dict I.kIn ⟨o,h1,h2.1⟩ e (fun z=>nomatch z) h
 | @dT a kvs ea =>
  cases (show u=Value.ref a from rx);obtain ⟨_,_,xs,_,o,es,ep,h1,h2,_⟩:=(show ObjOk X.prog X.w H s.heap a (.dT kvs) from I.hok a _ ea);exact PySem.W.kia_one PySem.W.kitx_dict I.kIn ⟨o,h1,h2.1⟩ e (fun z=>nomatch z) h
 | @ins a C dx fs ea cl ha hn htk hm =>
  cases (show u=Value.ref a from rx);obtain ⟨mA,O,_⟩:=ins_get I.hok ea;obtain ⟨od,J,_⟩:=O.look;exact PySem.W.kia_one (PySem.W.kitx_own (cl.get _) cl.hd ha hn htk hm) I.kIn J e (fun z=>nomatch z) h
end
end L2
namespace L2
open PySem PySem.Spec PyProof.Rows
structure RoomQ (q:Bool) (k:Nat) (A:Around):Prop where
 hd:q=true→A.handled=none
 dp:A.depth + 3 * k + 5 < recursionLimit
 un:A.units + 16 * k + 200 < cLine
noncomputable abbrev Room:=RoomQ true
theorem RoomQ.mono {q:Bool}{j k:Nat}{A:Around} (r:RoomQ q k A) (h:j≤k):RoomQ q j A:=⟨r.hd,by have:=r.dp;omega,by have:=r.un;omega⟩
theorem RoomQ.deeper {q:Bool}{k:Nat}{A:Around} (r:RoomQ q (k + 1) A) (env:Env):RoomQ q k (A.deeper env) :=
 ⟨r.hd,by have:=r.dp;show A.depth + 1 + 3 * k + 5 < _;omega,by have:=r.un;show A.units + 3 + 16 * k + 200 < _;omega⟩
theorem make_depth {A:Around}{C:Addr}{us:List Value}{kw:List (Str×Value)}:(A.under (.builtin "type.__call__" ⟨.ref C :: us,kw⟩)).depth=A.depth + 1:=by
 first | rfl | simp [Around.under,Code.weight,Code.isCreation,Code.isGuard,Code.isCaller,Code.frames,Code.isFrame,guardIds]
theorem make_units {A:Around}{C:Addr}{us:List Value}{kw:List (Str×Value)}:(A.under (.builtin "type.__call__" ⟨.ref C :: us,kw⟩)).units=A.units + 1:=by
 first | rfl | simp [Around.under,Code.cUnits,Code.frames,Code.isFrame]
theorem RoomQ.make {q:Bool}{k:Nat}{A:Around} (r:RoomQ q (k + 1) A) (C:Addr) (us:List Value) (kw:List (Str×Value)):RoomQ q k (A.under (.builtin "type.__call__" ⟨.ref C :: us,kw⟩)) :=
 ⟨r.hd,by have:=r.dp;rw [make_depth];omega,by have:=r.un;rw [make_units];omega⟩
theorem RoomQ.depth {q:Bool}{k:Nat}{A:Around} (r:RoomQ q k A):A.depth < recursionLimit:=by have:=r.dp;omega
theorem RoomQ.units {q:Bool}{k:Nat}{A:Around} (r:RoomQ q k A):A.units + 64 < cLine:=by have:=r.un;omega
noncomputable def tNil:TA:=fun _ H Q=>Q [] H
noncomputable def tCons (ta:TE) (tr:TA):TA:=fun σ H Q=>ta σ H fun x H1=>tr σ H1 fun xs H2=>Q (x :: xs) H2
section
variable {X:Cx}{e:Expr}{es:List Expr}{te:TE}{t:TA}{pos:Pos}
theorem zA1:PA X [] tNil:=fun _ _ _ _ H Q I h=>Calls.spliced_nil ⟨[],H,I,.nil,h⟩
theorem zA0 (ha:PE X e te) (hr:PA X es t) (hs:starEach (e :: es) X.env=(false,eval e X.env) :: starEach es X.env:=by rfl):PA X (e :: es) (tCons te t):=by
 intro pos pins s σ H Q I h;rw [hs];show wpAny _ _ (spliced ((false,eval e X.env) :: backTo pos (starEach es X.env))) _ _ s;refine Calls.spliced_cons (thn (ha pins s σ H _ I h) fun u s1 ⟨x,H1,I1,r1,q1⟩=>?_);exact thn (hr pos pins s1 σ H1 _ I1 q1) fun us s2 ⟨xs,H2,I2,r2,q2⟩=>⟨x :: xs,H2,I2,.cons r1 r2,q2⟩
noncomputable def tTup (t:TA):TE:=fun σ H Q=>t σ H fun xs H1=>xs.length≤sizeLine∧∀ p,H1 p=none→Q (.ref p) (upd H1 p (.tup xs))
noncomputable def tLst (t:TA):TE:=fun σ H Q=>t σ H fun xs H1=>xs.length≤sizeLine∧∀ p,H1 p=none→Q (.ref p) (upd H1 p (.lst xs))
theorem zB5 {x1} (h:PA X es t):PE X (.Tuple es x1 pos) (tTup t):=by
 intro pins s σ H Q I hq;refine wpAny_Tuple_spliced (thn (h pos pins s σ H _ I hq) fun us s1 ⟨xs,H1,I1,r,z,q⟩=>⟨by rw [← r.length];exact z,?_⟩);have hf:H1 s1.heap.objs.size=none:=I1.hok.fresh (Z5 _);refine ⟨.ref s1.heap.objs.size,upd H1 s1.heap.objs.size (.tup xs),I1.laid (t':=s1.toks) (fun b u e=>Z0 _ e) (Z5 _) ?_,rfl,q _ hf⟩;exact ⟨z,us,r,⟨_,Z7 _ rfl,rfl,_,rfl⟩⟩
theorem zAi (h:PA X es t):PE X (.List es pos) (tLst t):=by
 intro pins s σ H Q I hq;refine wpAny_List_spliced (thn (h pos pins s σ H _ I hq) fun us s1 ⟨xs,H1,I1,r,z,q⟩=>⟨by rw [← r.length];exact z,?_⟩);have hf:H1 s1.heap.objs.size=none:=I1.hok.fresh (Z5 _);refine ⟨.ref s1.heap.objs.size,upd H1 s1.heap.objs.size (.lst xs),I1.laid (t':=s1.toks) (fun b u e=>Z0 _ e) (Z5 _) ?_,rfl,q _ hf⟩;exact ⟨z,us,0,r,Z7 _ rfl⟩
end
noncomputable abbrev Sp:=List V→Hp→VK→XK→Prop
noncomputable abbrev CXT:=List Env→Hp→Shared→XK→Value→Shared→Prop
structure Env0 (P:Program) (w:World) (K:PySem.W.Frag) (mg:Str→Option Value) (base:Heap) (A:Around) (outer:List Env) (s:Shared) (H:Hp):Prop where
 frames:A.frames=some outer
 mod:Mod K mg base
 bs:∀ b o,base.get? b=some o→s.heap.get? b=some o∧H b=none
 bsz:base.objs.size≤s.heap.objs.size
 funs:s.heap.FunFrames base outer
 frf:∀ b∈frs outer,H b=none
 hok:HOk P w H s.heap
 bare:AllBare s.gens
noncomputable def CE (outer:List Env) (P:Program) (w:World) (H:Hp) (s:Shared) (Q:VK) (u:Value) (s':Shared):Prop :=
 ∃ v H',s'.os=s.os∧AllBare s'.gens∧Un (frs outer) [] H H' s.heap s'.heap∧HOk P w H' s'.heap∧RelV v u∧Q v H'
noncomputable def CR (CX:CXT) (outer:List Env) (P:Program) (w:World) (H:Hp) (s:Shared) (Q:VK) (E:XK) (r:Result) (s':Shared):Prop :=
 match r with
 | .ok (.ret u)=>CE outer P w H s Q u s'
 | .ok _=>False
 | .error e=>CX outer H s E e s'
structure FnOkQ (q:Bool) (P:Program) (w:World) (K:PySem.W.Frag) (mg:Str→Option Value) (base:Heap) (CX:CXT) (k:Nat) (f:Addr) (fd:FuncData) (ps:List Str) (sp:Sp):Prop where
 len:∀ vs H Q E,sp vs H Q E→vs.length=ps.length
 run:∀ (A:Around) (outer:List Env) (s:Shared) (H:Hp) (args:Args) (us:List Value) (vs:List V) (Q:VK) (E:XK),RoomQ q k A→Env0 P w K mg base A outer s H→BindsTo s fd args (ps.zip us)→Vals vs us→sp vs H Q E →
  codeAny (model P w) A (.call (.ref f) args) (CR CX outer P w H s Q E) s
noncomputable abbrev FnOk:=FnOkQ true
theorem FnOk.imp {P:Program}{w:World}{K:PySem.W.Frag}{mg:Str→Option Value}{base:Heap}{CX:CXT}{k:Nat}{f:Addr}{fd:FuncData}{ps:List Str}{sp sp':Sp} (F:FnOk P w K mg base CX k f fd ps sp)
  (h:∀ vs H Q E,sp' vs H Q E→sp vs H Q E):FnOk P w K mg base CX k f fd ps sp' :=
 ⟨fun vs H Q E q=>F.len vs H Q E (h _ _ _ _ q),fun A outer s H args us vs Q E hr he hb hv hs=>F.run A outer s H args us vs Q E hr he hb hv (h _ _ _ _ hs)⟩
theorem Env0.make {P:Program}{w:World}{K:PySem.W.Frag}{mg:Str→Option Value}{base:Heap}{A:Around}{outer:List Env}{s:Shared}{H:Hp} (e:Env0 P w K mg base A outer s H) (C:Addr) (us:List Value) (kw:List (Str×Value)) :
  Env0 P w K mg base (A.under (.builtin "type.__call__" ⟨.ref C :: us,kw⟩)) outer s H:=⟨by first | exact e.frames | (simpa [Around.under,Code.envs,Code.isFrame,pushEnvs] using e.frames),e.mod,e.bs,e.bsz,e.funs,e.frf,e.hok,e.bare⟩
section
variable {X:Cx}{pins:List (Addr×Obj)}{σ : St}{H:Hp}{s s':Shared}
theorem Inv.env0 (I:Inv X pins σ H s):Env0 X.prog X.w X.K X.mg X.base X.A X.stack s H :=
 ⟨I.ok.frames,I.ok.mod,I.bs,Zs I.ok.bsz I.sz,I.stack,I.stkFree,I.hok,I.bare⟩
theorem Inv.after {Q:VK}{u:Value} (I:Inv X pins σ H s) (h:CE X.stack X.prog X.w H s Q u s'):EP X pins σ Q u s':=by
 obtain ⟨v,H',os,bare,un,hok,r,q⟩:=h;obtain ⟨hh,g,d,t,os'⟩:=s';obtain rfl:os'=s.os:=os;exact ⟨v,H',I.call (h':=hh) (g':=g) (d':=d) (t':=t) (ch:=[]) un hok bare (fun b z=>absurd z (by simp)),r,q⟩
end
noncomputable def tCall (sp:Sp) (dvs:List V) (E:St→XK) (t:TA):TE:=fun σ H Q=>t σ H fun vs H1=>sp (vs++dvs) H1 Q (E σ)
noncomputable def tMake (C:Addr) (sp:Sp) (dvs:List V) (E:St→XK) (t:TA):TE:=fun σ H Q=>t σ H fun vs H1=>∀ x dx,H1 x=none→H1 dx=none→dx≠x →
 sp (.ref x :: (vs++dvs)) (upd (upd H1 dx (.own x)) x (.ins C dx [])) (fun v H2=>v=.non∧Q (.ref x) H2) (E σ)
noncomputable def Binds (K:PySem.W.Frag) (fd:FuncData) (ps:List Str) (ds:List Value):Prop :=
 ∀ (s:Shared) (us:List Value),K.In s.heap→(us++ds).length=ps.length→BindsTo s fd ⟨us,[]⟩ (ps.zip (us++ds))
theorem Binds.all {K:PySem.W.Frag}{fd:FuncData}{ps:List Str} (h:∀ us:List Value,us.length=ps.length→bindArgs fd ⟨us,[]⟩=pure (ps.zip us)):Binds K fd ps []:=fun s us _ hl=>by
 rw [List.append_nil] at hl ⊢;exact .of_eq (h us hl)
noncomputable def Passes (CX:CXT) (X:Cx) (E:St→XK):Prop:=∀ (pins:List (Addr×Obj)) (σ : St) (H:Hp) (s:Shared) (e:Value) (s':Shared),Inv X pins σ H s→CX X.stack H s (E σ) e s'→X.xe e s'
section
variable {X:Cx}{CX:CXT}{k:Nat}{f C:Addr}{fd:FuncData}{ps:List Str}{sp:Sp}{dvs:List V}{ds:List Value}{E:St→XK}{x m:Str}{p pos apos:Pos}{e o:Expr}{es:List Expr}{ta:TE}{t:TA}
theorem run_fn {pins:List (Addr×Obj)}{σ : St}{H:Hp}{s:Shared}{Q:VK}{us:List Value}{vs:List V}{q:Bool} (F:FnOkQ q X.prog X.w X.K X.mg X.base CX k f fd ps sp) (hr:RoomQ q k X.A) (hb:Binds X.K fd ps ds) (hd:Vals dvs ds) (hx:Passes CX X E)
  (I:Inv X pins σ H s) (r:Vals vs us) (h:sp (vs++dvs) H Q (E σ)):wpAny (model X.prog X.w) X.A (call (.ref f) us) (EP X pins σ Q) X.xe s:=by
 have r2:Vals (vs++dvs) (us++ds):=r.append hd;have hl:(us++ds).length=ps.length:=by rw [← r2.length];exact F.len _ _ _ _ h
 refine wpAny_call (codeAny_mono (F.run X.A X.stack s H ⟨us,[]⟩ (us++ds) (vs++dvs) Q (E σ) hr I.env0 (hb s us I.kIn hl) r2 h) fun r s' hq=>?_);cases r with
 | error e=>exact hx pins σ H s e s' I hq
 | ok fl =>
  cases fl with
  | ret u=>exact I.after hq
  | next=>exact False.elim hq
  | brk=>exact False.elim hq
  | cont=>exact False.elim hq
theorem zA8 {q:Bool} (F:FnOkQ q X.prog X.w X.K X.mg X.base CX k f fd ps sp) (hr:RoomQ q k X.A) (hg:Gl X x) (hm:X.mg x=some (.ref f)) (hk:PySem.W.keepIn X.K (.ref f)=true) (hb:Binds X.K fd ps ds) (hd:Vals dvs ds) (hx:Passes CX X E)
  (ha:PA X (e :: es) t) (hdb:(x == ("__debug__" : Str))=false:=by decide) (he:starEach (e :: es) X.env=(false,eval e X.env) :: starEach es X.env:=by rfl) (hpl:(backTo pos (starEach es X.env)).any (·.1)=false:=by rfl) :
  PE X (.Call (.Name x p) (e :: es) [] pos) (tCall sp dvs E t):=by
 intro pins s σ H Q I h;refine wpAny_Call_Name_kw (zBl I hg hm ?_ hdb);refine PySem.W.callWith_K (h₀:=X.base) I.ok.mod.kin hk (thn (ha pos pins s σ H _ I h) fun us s1 ⟨vs,H1,I1,r,q⟩=>⟨I1.kIn,?_⟩) he hpl;exact run_fn F hr hb hd hx I1 r q
theorem zD7 (F:FnOk X.prog X.w X.K X.mg X.base CX k f fd ps sp) (hr:Room k X.A) (hg:Gl X x) (hm:X.mg x=some (.ref f)) (hk:PySem.W.keepIn X.K (.ref f)=true) (hb:Binds X.K fd ps ds) (hd:Vals dvs ds) (hx:Passes CX X E)
  (hdb:(x == ("__debug__" : Str))=false:=by decide):PE X (.Call (.Name x p) [] [] pos) (tCall sp dvs E tNil):=by
 intro pins s σ H Q I h;refine wpAny_Call_Name_kw (zBl I hg hm ?_ hdb);exact PySem.W.callWith_K0 I.kIn hk (run_fn (us:=[]) F hr hb hd hx I .nil h)
structure Mk (K:PySem.W.Frag) (C f:Addr):Prop where
 makes:PySem.W.makesIn K C=true
 init:PySem.W.findIn K (.ref C) "__init__" = some (some (.ref f))
 fn:PySem.W.isFn K (.ref f)=true
 kp:PySem.W.keepIn K (.ref C)=true
theorem run_make {pins:List (Addr×Obj)}{σ : St}{H:Hp}{s:Shared}{Q:VK}{us:List Value}{vs:List V} (M:Mk X.K C f) (F:FnOk X.prog X.w X.K X.mg X.base CX k f fd ps sp) (hr:Room (k + 1) X.A) (hb:Binds X.K fd ps ds) (hd:Vals dvs ds)
  (hx:Passes CX X E) (I:Inv X pins σ H s) (r:Vals vs us)
  (h:∀ x dx,H x=none→H dx=none→dx≠x→sp (.ref x :: (vs++dvs)) (upd (upd H dx (.own x)) x (.ins C dx [])) (fun v H2=>v=.non∧Q (.ref x) H2) (E σ)) :
  wpAny (model X.prog X.w) X.A (call (.ref C) us) (EP X pins σ Q) X.xe s:=by
 have hq:=h (s.heap.objs.size + 1) s.heap.objs.size (I.hok.fresh (Nat.le_succ _)) (I.hok.fresh (Z5 _)) (Z4 (Nat.lt_succ_self _));have I2:=Inv.made (C:=C) I;have r2:Vals (V.ref (s.heap.objs.size + 1) :: (vs++dvs)) (Value.ref (s.heap.objs.size + 1) :: (us++ds)):=.cons rfl (r.append hd);have hl:(Value.ref (s.heap.objs.size + 1) :: us++ds).length=ps.length:=by
  have e:=r2.length;rw [F.len _ _ _ _ hq] at e;exact e.symm
 refine wpAny_call (make_map (f:=f) I.kIn M.makes M.init (beq_iff_eq.mp M.fn) (codeAny_mono (F.run _ X.stack _ _ ⟨Value.ref (s.heap.objs.size + 1) :: us,[]⟩ (Value.ref (s.heap.objs.size + 1) :: (us++ds)) _ _ (E σ) (hr.make C us [])
  (I2.env0.make C us []) (hb _ (Value.ref (s.heap.objs.size + 1) :: us) I2.kIn hl) r2 hq) fun r s' hq'=>?_))
 cases r with
 | error e=>exact hx pins σ _ _ e s' I2 hq'
 | ok fl =>
  cases fl with
  | ret u =>
   obtain ⟨v,H',I3,rv,ev,q3⟩:=I2.after hq';subst ev;exact ⟨rv,⟨V.ref (s.heap.objs.size + 1),H',I3,rfl,q3⟩⟩
  | next=>exact False.elim hq'
  | brk=>exact False.elim hq'
  | cont=>exact False.elim hq'
theorem zC3 (M:Mk X.K C f) (F:FnOk X.prog X.w X.K X.mg X.base CX k f fd ps sp) (hr:Room (k + 1) X.A) (hg:Gl X x) (hm:X.mg x=some (.ref C)) (hb:Binds X.K fd ps ds) (hd:Vals dvs ds) (hx:Passes CX X E)
  (ha:PA X (e :: es) t) (hdb:(x == ("__debug__" : Str))=false:=by decide) (he:starEach (e :: es) X.env=(false,eval e X.env) :: starEach es X.env:=by rfl) (hpl:(backTo pos (starEach es X.env)).any (·.1)=false:=by rfl) :
  PE X (.Call (.Name x p) (e :: es) [] pos) (tMake C sp dvs E t):=by
 intro pins s σ H Q I h;refine wpAny_Call_Name_kw (zBl I hg hm ?_ hdb);refine PySem.W.callWith_K (h₀:=X.base) I.ok.mod.kin M.kp (thn (ha pos pins s σ H _ I h) fun us s1 ⟨vs,H1,I1,r,q⟩=>⟨I1.kIn,?_⟩) he hpl;exact run_make M F hr hb hd hx I1 r q
end
section
variable {X:Cx}{CX:CXT}{k:Nat}{f C:Addr}{fd:FuncData}{ps ks:List Str}{sp:Sp}{E:St→XK}{x m:Str}{p pos apos kpos:Pos}{e o:Expr}{es:List Expr}{kws:List Keyword}{te ta:TE}{t tk:TA}{nm:Option Str}
variable {g:List Value→List Value→List Value}{gV:List V→List V→List V}
end
structure FnScope (N P:List Str) (sc:Scope):Prop where
 kind:sc.kind=.function
 co:sc.isCoroutine=false
 gen:sc.isGenerator=false
 nd:N.Nodup
 pre:N.take P.length=P
 par:∀ x∈P,sc.names.lookup x=some .local∨sc.names.lookup x=some .cell
 nofree:∀ y∈sc.names,y.2≠.free
theorem bindL_out {kindOf:Str→Option NameKind}{x:Str}:∀ {binds:List (Str×Value)}{m:Str→Option Value},(∀ v,(x,v)∉binds)→bindL kindOf binds m x=m x
 | [],_,_=>rfl
 | (n,v) :: r,m,h=>by
  unfold bindL;rw [bindL_out fun w hw=>h w (Z9 _ hw)];split
  ·have:x≠n:=by rintro rfl;exact h v Zg
   simp [this]
  ·rfl
theorem bindC_out {kindOf:Str→Option NameKind}{x:Str}:∀ {binds:List (Str×Value)}{m:Str→Option Value},(∀ v,(x,v)∉binds)→bindC kindOf binds m x=m x
 | [],_,_=>rfl
 | (n,v) :: r,m,h=>by
  unfold bindC;rw [bindC_out fun w hw=>h w (Z9 _ hw)];split
  ·rfl
  ·have:x≠n:=by rintro rfl;exact h v Zg
   simp [this]
theorem bindL_get {kindOf:Str→Option NameKind}{x:Str}{v:Value}:∀ {P:List Str}{vs:List Value}{i:Nat}{m:Str→Option Value},P.Nodup→P[i]? = some x→vs[i]? = some v→kindOf x=some .local →
  bindL kindOf (P.zip vs) m x=some v
 | [],_,_,_,_,h,_,_=>by simp at h
 | _ :: _,[],_,_,_,_,h,_=>by simp at h
 | p :: P,w :: vs,0,m,nd,h1,h2,hk=>by
  simp at h1 h2;subst h1;subst h2;show bindL kindOf ((p,w) :: P.zip vs) m p=_;unfold bindL;rw [bindL_out fun v hv=>(List.nodup_cons.mp nd).1 (List.of_mem_zip hv).1,if_pos hk];simp
 | p :: P,w :: vs,i + 1,m,nd,h1,h2,hk=>by
  show bindL kindOf ((p,w) :: P.zip vs) m x=_;unfold bindL;exact bindL_get (i:=i) (List.nodup_cons.mp nd).2 (by simpa using h1) (by simpa using h2) hk
theorem bindC_get {kindOf:Str→Option NameKind}{x:Str}{v:Value}:∀ {P:List Str}{vs:List Value}{i:Nat}{m:Str→Option Value},P.Nodup→P[i]? = some x→vs[i]? = some v→kindOf x≠some .local →
  bindC kindOf (P.zip vs) m x=some v
 | [],_,_,_,_,h,_,_=>by simp at h
 | _ :: _,[],_,_,_,_,h,_=>by simp at h
 | p :: P,w :: vs,0,m,nd,h1,h2,hk=>by
  simp at h1 h2;subst h1;subst h2;show bindC kindOf ((p,w) :: P.zip vs) m p=_;unfold bindC;rw [bindC_out fun v hv=>(List.nodup_cons.mp nd).1 (List.of_mem_zip hv).1,if_neg hk];simp
 | p :: P,w :: vs,i + 1,m,nd,h1,h2,hk=>by
  show bindC kindOf ((p,w) :: P.zip vs) m x=_;unfold bindC;exact bindC_get (i:=i) (List.nodup_cons.mp nd).2 (by simpa using h1) (by simpa using h2) hk
noncomputable def start (N:List Str) (vs:List V):St:=vs.map some++List.replicate (N.length - vs.length) none
noncomputable def cxOfC (q:Bool) (CX:CXT) (P:Program) (w:World) (K:PySem.W.Frag) (mg:Str→Option Value) (base:Heap) (N:List Str) (qual:Str) (scope:Scope) (f:Addr) (cd:Value) (A:Around) (outer:List Env) (s:Shared) (H:Hp) (E:XK):Cx where
 prog:=P
 w:=w
 K:=K
 mg:=mg
 base:=base
 A:=A.deeper (envOfC qual scope s.heap.objs.size f cd)
 N:=N
 s₀:=s
 H₀:=H
 env:=envOfC qual scope s.heap.objs.size f cd
 outer:=outer
 stack:=envOfC qual scope s.heap.objs.size f cd :: outer
 ex:=[]
 calm:=q
 fn:=fun _=>true
 pn:=[]
 xe:=fun e s'=>wpAny (model P w) (A.deeper (envOfC qual scope s.heap.objs.size f cd)) (leaving (envOfC qual scope s.heap.objs.size f cd) e) (fun _ s''=>CX outer H s E e s'') (fun e' s''=>CX outer H s E e' s'') s'
noncomputable abbrev cxOf:=cxOfC true
theorem cell_has {sc:Scope}{n:Nat}{x:Str} (h:sc.names.lookup x=some .cell):∃ c,(cellsFrom n sc.names []).lookup x=some c:=by
 have q:=PySem.W.cellsFrom_some sc.names n [] (.inl h);exact Option.isSome_iff_exists.mp q
theorem inv_start {q:Bool}{CX:CXT}{P:Program}{w:World}{K:PySem.W.Frag}{mg:Str→Option Value}{base:Heap}{N ps:List Str}{qual:Str}{scope:Scope}{f:Addr}{cd:Value}{A:Around}{outer:List Env}{s s1:Shared}{H:Hp}{E:XK}{us:List Value}{vs:List V}
  (S:FnScope N ps scope) (hd:q=true→A.handled=none) (e0:Env0 P w K mg base A outer s H) (hl:vs.length=ps.length) (r:Vals vs us)
  (x:InCallC s s.heap.objs.size (bindL (envOfC qual scope s.heap.objs.size f cd).kindOf (ps.zip us) fun _=>none) (cellsFrom (s.heap.objs.size + 1) scope.names []) (bindC (envOfC qual scope s.heap.objs.size f cd).kindOf (ps.zip us) fun _=>none) s1) :
  Inv (cxOfC q CX P w K mg base N qual scope f cd A outer s H E) [] (start N vs) H s1:=by
 have hpl:ps.length≤N.length:=by have:=congrArg List.length S.pre;rw [Y7] at this;omega
 obtain ⟨h1,tk,rfl,hk⟩:=x.done;have noA:∀ b:Addr,b∉(cxOfC q CX P w K mg base N qual scope f cd A outer s H E).ex:=fun b z=>absurd (show b∈([]:List Addr) from z) (by simp)
 refine ⟨⟨e0.mod,S.kind,rfl,rfl,Z5 _,fun y z c h1 h2=>?_,fun y hy=>?_,fun y c _ h=>?_,hd,Around.frames_deeper e0.frames,.inr ⟨rfl,rfl⟩,fun b z=>absurd z (noA b),e0.bs,e0.bsz,fun b _ _=>noA b,fun b z=>absurd z (noA b),e0.funs,e0.frf⟩,
  rfl,e0.bare,Un.kept hk,⟨_,x.toInCall.ns,fun i y v h1 h2 h3=>?_⟩,fun y c h=>⟨_,x.cell y c h⟩,e0.hok.fresh (Z5 _),fun y c h=>?_,fun p hp=>absurd (show p∈([]:List (Addr×Obj)) from hp) (by simp),e0.hok.kept hk,?_⟩
 ·exact name_of_addr x.apart (PySem.mem_of_lookup h1) (PySem.mem_of_lookup h2)
 ·have hy:scope.names.lookup y=some .cell∨scope.names.lookup y=some .free:=hy;rcases hy with hy | hy
  ·exact cell_has hy
  ·exact absurd rfl (S.nofree _ (PySem.mem_of_lookup hy))
 ·exact Zh (x.above y c (PySem.mem_of_lookup h))
 ·have hi:i < vs.length:=by
   unfold start at h2;by_cases hi:i < vs.length
   ·exact hi
   ·rw [Zt (by simpa using hi)] at h2;rw [List.getElem?_replicate] at h2;split at h2 <;> cases h2
  have ha:vs[i]? = some v:=by
   unfold start at h2;rw [Zp (by simpa using hi),Zm] at h2;cases e:vs[i]? with
   | none=>rw [e] at h2;cases h2
   | some a=>rw [e] at h2;cases h2;rfl
  obtain ⟨u,hu,rv⟩:=r.get ha;have hp:ps[i]? = some y:=by
   rw [← S.pre,List.getElem?_take_of_lt (by omega)];exact h1
  have ndP:ps.Nodup:=by rw [← S.pre];exact S.nd.sublist (List.take_sublist _ _)
  refine ⟨u,rv,?_⟩;rcases S.par y (Za hp) with k | k
  ·exact .inl ⟨k,bindL_get ndP hp hu k⟩
  ·obtain ⟨c,e⟩:=cell_has (n:=s.heap.objs.size + 1) k;refine .inr ⟨.inl k,c,e,?_⟩;have q:=x.cell y c e;rw [bindC_get ndP hp hu (by show scope.names.lookup y≠_;rw [k];decide)] at q;exact q
 ·exact e0.hok.fresh (Zh (x.above y c (PySem.mem_of_lookup h)))
 ·unfold start;show _=N.length;rw [Zb,Z1,List.length_replicate];omega
theorem zCr {q:Bool}{CX:CXT}{P:Program}{w:World}{K:PySem.W.Frag}{mg:Str→Option Value}{base:Heap}{k:Nat}{f:Addr}{name qual:Str}{params:Arguments}{body:List Stmt}{scope:Scope}{dV kV doc pm cdv ct oc:Value}{an od:Option Addr}
  {osl:Array (Option Value)}{N ps:List Str}{sp:Sp} (lk:K.lookup f=some ⟨oc,od,.func (PySem.W.fnOf name qual params body scope dV kV doc pm an cdv ct),osl⟩) (hcd:PySem.W.codeIn K cdv qual=true) (S:FnScope N ps scope)
  (len:∀ vs H Q E,sp vs H Q E→vs.length=ps.length)
  (hbody:∀ (A:Around) (outer:List Env) (s:Shared) (H:Hp) (vs:List V) (Q:VK) (E:XK),RoomQ q k (A.deeper (envOfC qual scope s.heap.objs.size f cdv))→sp vs H Q E →
   ∃ t,PSs (cxOfC q CX P w K mg base N qual scope f cdv A outer s H E) body t∧t { nx:=fun _ H'=>Q .non H',rt:=Q } (start N vs) H) :
  FnOkQ q P w K mg base CX (k + 1) f (PySem.W.fnOf name qual params body scope dV kV doc pm an cdv ct) ps sp:=by
 refine ⟨len,fun A outer s H args us vs Q E hr e0 hb r hsp=>?_⟩;have hl:=len _ _ _ _ hsp;have KX:K.In s.heap:=e0.mod.kin.keeps fun b o e=>(e0.bs b o e).1;have lim:s.heap.NoLimit:=e0.mod.nolimit.keeps fun b o e=>(e0.bs b o e).1;have hkind:∀ y∈ps.zip us,scope.names.lookup y.1=some .local∨(scope.names.lookup y.1=some .cell∧((cellsFrom (s.heap.objs.size + 1) scope.names []).lookup y.1).isSome=true):=fun ⟨n,v⟩ hy=>by
  rcases S.par n (List.of_mem_zip hy).1 with q | q
  ·exact .inl q
  ·exact .inr ⟨q,PySem.W.cellsFrom_some _ _ _ (.inl q)⟩
 refine codeAny_call_function hr.depth (KX _ _ lk) rfl S.co S.gen rfl (PySem.W.codeRec_of KX hcd) (hb _ _ _ _ ?_);refine wpAny_newFunctionEnv_cells S.kind hkind fun env he s1 x=>?_;subst he;refine ⟨lim.keeps x.toInCall.keep,codeAny_func ?_⟩;obtain ⟨t,ht,hq⟩:=hbody A outer s H vs Q E (hr.deeper _) hsp;have I:Inv (cxOfC q CX P w K mg base N qual scope f cdv A outer s H E) [] (start N vs) H s1:=inv_start S hr.hd e0 hl r x;refine wpAny_mono (ht [] s1 (start N vs) H _ I hq) (fun fl s' hs=>?_) fun e s' hs=>hs;have fin:∀ {σ':St}{H':Hp}{v:V}{u:Value},Inv (cxOfC q CX P w K mg base N qual scope f cdv A outer s H E) [] σ' H' s'→RelV v u→Q v H'→CE outer P w H s Q u s' :=
  fun {σ' H' v u} J rv z=>⟨v,H',J.os,J.bare,J.base,J.hok,rv,z⟩
 cases fl with
 | ret u =>
  obtain ⟨v,σ',H',J,rv,q⟩:=hs;exact fin J rv q
 | next =>
  obtain ⟨σ',H',J,q⟩:=hs;exact fin (v:=V.non) (u:=Value.none) J rfl q
 | brk =>
  obtain ⟨_,_,_,q⟩:=hs;exact False.elim q
 | cont =>
  obtain ⟨_,_,_,q⟩:=hs;exact False.elim q
end L2
namespace L2
open PySem PySem.Spec PyProof.Rows
section
variable {X:Cx}{x:Str}{p pos:Pos}{e:Expr}{es:List Expr}{t:TA}{id T:String}{r:List V→Hp→VK→Prop}
noncomputable def tCB (r:List V→Hp→VK→Prop) (t:TA):TE:=fun σ H Q=>t σ H fun vs H1=>r vs H1 Q
theorem zA5 (hc:CallR X (.builtin id) r) (hg:Gl X x) (hm:X.mg x=none) (hv:bootBuiltins x=some (.builtin id)) (ha:PA X (e :: es) t) (hn:x≠"__name__":=by decide) (hdb:(x == ("__debug__" : Str))=false:=by decide)
  (he:starEach (e :: es) X.env=(false,eval e X.env) :: starEach es X.env:=by rfl) (hpl:(backTo pos (starEach es X.env)).any (·.1)=false:=by rfl):PE X (.Call (.Name x p) (e :: es) [] pos) (tCB r t):=by
 intro pins s σ H Q I h;refine wpAny_Call_Name_kw (zCl I hg hm hv ?_ hn hdb);exact PyProof.Rows.callWith_builtin1 (thn (ha pos pins s σ H _ I h) fun us s1 ⟨vs,H1,I1,r1,q1⟩=>hc pins s1 σ H1 vs us Q I1 r1 q1) he hpl
theorem zAy (hc:CallR X (.type T) r) (hg:Gl X x) (hm:X.mg x=none) (hv:bootBuiltins x=some (.type T)) (ha:PA X (e :: es) t) (hn:x≠"__name__":=by decide) (hdb:(x == ("__debug__" : Str))=false:=by decide)
  (he:starEach (e :: es) X.env=(false,eval e X.env) :: starEach es X.env:=by rfl) (hpl:(backTo pos (starEach es X.env)).any (·.1)=false:=by rfl):PE X (.Call (.Name x p) (e :: es) [] pos) (tCB r t):=by
 intro pins s σ H Q I h;refine wpAny_Call_Name_kw (zCl I hg hm hv ?_ hn hdb);exact PyProof.Rows.callWith_type1 (thn (ha pos pins s σ H _ I h) fun us s1 ⟨vs,H1,I1,r1,q1⟩=>hc pins s1 σ H1 vs us Q I1 r1 q1) he hpl
end
end L2
namespace HT
open PySem PyProof.Rows
section
open PySem.SeqAt
open PySem.AutoSeq1 (wpAny_loadPart')
open PySem.MeetsSeq PySem.MeetsSeq2 PySem.MeetsSeq3
end
section
variable {prog:Program}{w:World}{A:Around}{E:Value→Shared→Prop}{s:Shared}
noncomputable def sIx (n d:Nat):Option Int→Nat
 | none=>d
 | some v=>if v < 0 then (v + (n:Int)).toNat else min v.toNat n
end
end HT
namespace L2
open PySem PySem.Spec PyProof.Rows
noncomputable abbrev TO:=St→Hp→(Option Int→Hp→Prop)→Prop
noncomputable def PO (X:Cx) (e:Option Expr) (t:TO):Prop :=
 ∀ (pins:List (Addr×Obj)) (s:Shared) (σ : St) (H:Hp) (Q:Option Int→Hp→Prop),Inv X pins σ H s→t σ H Q →
  wpAny (model X.prog X.w) X.A (evalPart e X.env) (fun u s'=>∃ o H',Inv X pins σ H' s'∧IsPart u o∧Q o H') X.xe s
noncomputable def tNoPart:TO:=fun _ H Q=>Q none H
noncomputable def tPart (t:TE):TO:=fun σ H Q=>t σ H fun x H1=>∃ i,x=.int i∧Q (some i) H1
section
variable {X:Cx}{e:Expr}{te:TE}{lo hi:Option Expr}{tl th:TO}{pos p2:Pos}
theorem zCh:PO X none tNoPart:=by
 intro pins s σ H Q I h;rw [evalPart_none];exact wpAny_pure ⟨none,H,I,.none,h⟩
theorem zBi (h:PE X e te):PO X (some e) (tPart te):=by
 intro pins s σ H Q I hw;rw [evalPart_some];refine thn (h pins s σ H _ I hw) fun u s1 ⟨x,H1,I1,r1,q1⟩=>?_;obtain ⟨i,rfl,q⟩:=q1;obtain ⟨t,rfl⟩:=r1;exact ⟨some i,H1,I1,.int i t,q⟩
noncomputable def SlR (X:Cx) (r:V→Option Int→Option Int→Hp→VK→Prop):Prop :=
 ∀ (pins:List (Addr×Obj)) (s:Shared) (σ : St) (H:Hp) (x:V) (v vl vu:Value) (lo hi:Option Int) (sl:Addr) (Q:VK),Inv X pins σ H s→RelV x v→s.heap.IsSliceOf sl vl vu .none→IsPart vl lo→IsPart vu hi→r x lo hi H Q →
  ∃ T id,typeLookup (.type T) "__getitem__" = pure (some (.builtin id))∧s.TypeIs v T∧wpAny (model X.prog X.w) X.A (getItem v (.ref sl)) (EP X pins σ Q) X.xe s
noncomputable def tSl (r:V→Option Int→Option Int→Hp→VK→Prop) (te:TE) (tl th:TO):TE:=fun σ H Q=>te σ H fun x H1=>tl σ H1 fun l H2=>th σ H2 fun u H3=>r x l u H3 Q
theorem zB8 {r:V→Option Int→Option Int→Hp→VK→Prop} (hr:SlR X r) (he:PE X e te) (hl:PO X lo tl) (hu:PO X hi th):PE X (.Subscript e (.Slice lo hi none p2) pos) (tSl r te tl th):=by
 intro pins s σ H Q I h;refine Subscript_ (thn (he pins s σ H _ I h) fun v s1 ⟨x,H1,I1,r1,q1⟩=>?_);refine wpAny_Slice (thn (hl pins s1 σ H1 _ I1 q1) fun vl s2 ⟨l,H2,I2,pl,q2⟩=>thn (hu pins s2 σ H2 _ I2 q2) fun vu s3 ⟨u,H3,I3,pu,q3⟩=>?_);rw [evalPart_none];refine wpAny_pure ?_;have I4:Inv X pins σ H3 { s3 with heap:=s3.heap.push { cls:=.type "slice",data:=.fields #[vl,vu,.none] } }:=I3.kept (t':=s3.toks) fun b ob q=>Z0 _ q;obtain ⟨T,id,hT,ht,hg⟩:=hr pins { s3 with heap:=s3.heap.push { cls:=.type "slice",data:=.fields #[vl,vu,.none] } } σ H3 x v vl vu l u s3.heap.objs.size Q I4 r1 (Heap.IsSliceOf.new ..) pl pu q3;show wpAny (model X.prog X.w) X.A (subscriptTail e (.Slice lo hi none p2) v (.ref s3.heap.objs.size)) (EP X pins σ Q) X.xe { s3 with heap:=s3.heap.push { cls:=.type "slice",data:=.fields #[vl,vu,.none] } };exact tail_any (ops:=[.ref s3.heap.objs.size,v]) ht hT hg (by with_unfolding_all rfl)
noncomputable def cutV (xs:List V) (lo hi:Option Int):List V:=(xs.drop (HT.sIx xs.length 0 lo)).take (HT.sIx xs.length xs.length hi - HT.sIx xs.length 0 lo)
theorem cutV_length (xs:List V) (lo hi:Option Int):(cutV xs lo hi).length≤xs.length:=by
 unfold cutV;rw [Y7,List.length_drop];omega
end
end L2
namespace L2
open PySem PySem.Spec PyProof.Rows
noncomputable def ixN (n:Nat) (i:Int):Option Nat:=if 0≤i then (if i < n then some i.toNat else none) else if -(n:Int)≤i then some (i + n).toNat else none
noncomputable def atI {α : Type} (xs:List α) (i:Int):Option α:=(ixN xs.length i).bind fun j=>xs[j]?
theorem ixN_seq {n:Nat}{i:Int}{j:Nat} (h:ixN n i=some j):seqIndex? i n=some j∧j < n∧-(n:Int)≤i∧i < n:=by
 unfold ixN at h;by_cases h0:0≤i
 ·rw [if_pos h0] at h;by_cases h1:i < n
  ·rw [if_pos h1] at h;have e:i.toNat=j:=Zd h;exact ⟨by rw [seqIndex_of h0 h1,e],by omega,by omega,h1⟩
  ·rw [if_neg h1] at h;cases h
 ·rw [if_neg h0] at h;by_cases h1 : -(n:Int)≤i
  ·rw [if_pos h1] at h;have e:(i + n).toNat=j:=Zd h;exact ⟨by rw [seqIndex_neg (by omega) h1,e],by omega,h1,by omega⟩
  ·rw [if_neg h1] at h;cases h
theorem atI_get {α : Type}{xs:List α}{i:Int}{v : α} (h:atI xs i=some v):∃ j,seqIndex? i xs.length=some j∧xs[j]? = some v∧j < xs.length∧-(xs.length:Int)≤i∧i < xs.length:=by
 unfold atI at h;cases e:ixN xs.length i with
 | none=>rw [e] at h;cases h
 | some j =>
  rw [e] at h;obtain ⟨h1,h2,h3,h4⟩:=ixN_seq e;exact ⟨j,h1,h,h2,h3,h4⟩
theorem atI_nat {α : Type}{xs:List α}{j:Nat}{v : α} (h:xs[j]? = some v):atI xs (j:Int)=some v:=by
 have hj:j < xs.length:=(List.getElem?_eq_some_iff.mp h).1;have e:ixN xs.length (j:Int)=some j:=by
  unfold ixN;rw [if_pos (by omega),if_pos (by omega)];simp
 unfold atI;rw [e];exact h
noncomputable def PlainIx (b:Expr):Prop:=∀ o i,subscripted b false o i=operate [o,i] (getItem o i)
noncomputable def IxR (X:Cx) (r:R2):Prop :=
 ∀ (value slice:Expr) (pins:List (Addr×Obj)) (s:Shared) (σ : St) (H:Hp) (x y:V) (v u:Value) (Q:VK),Inv X pins σ H s→RelV x v→RelV y u→r x y H Q →
  subscripted slice false v u=operate [v,u] (getItem v u)→wpAny (model X.prog X.w) X.A (subscriptTail value slice v u) (EP X pins σ Q) X.xe s
noncomputable def MtR (X:Cx) (id:String) (r:V→List V→Hp→VK→Prop):Prop :=
 ∀ (pins:List (Addr×Obj)) (s:Shared) (σ : St) (H:Hp) (x:V) (xs:List V) (v:Value) (us:List Value) (Q:VK),Inv X pins σ H s→RelV x v→Vals xs us→r x xs H Q →
  wpAny (model X.prog X.w) X.A (call (.builtin id) (v :: us)) (EP X pins σ Q) X.xe s
section
variable {X:Cx}{a b:Expr}{ta tb:TE}{pos:Pos}
theorem zAs {r:R2} (hr:IxR X r) (ha:PE X a ta) (hb:PE X b tb) (hs:PlainIx b):PE X (.Subscript a b pos) (tOp r ta tb):=by
 intro pins s σ H Q I h;exact Subscript_ (binT ha hb I h fun v u s2 x y H2 I2 rx ry q=>hr a b pins s2 σ H2 x y v u Q I2 rx ry q (hs _ _))
noncomputable def rIxL (K:PySem.W.Frag):R2:=fun x y H Q=>∃ p xs i v,x=.ref p∧y=.int i∧SqL K H p xs∧atI xs i=some v∧Q v H
noncomputable def rIxT (K:PySem.W.Frag):R2:=fun x y H Q=>∃ p xs i v,x=.ref p∧y=.int i∧SqT K H p xs∧atI xs i=some v∧Q v H
noncomputable def rIxS:R2:=fun x y H Q=>∃ z i c,x=.str z∧y=.int i∧z.length≤sizeLine∧atI z.cps.toList i=some c∧Q (.str ⟨#[c]⟩) H
theorem zAn:IxR X (rIxL X.K):=by
 intro value slice pins s σ H x y v u Q I rx ry h hs;obtain ⟨p,xs,i,z,rfl,rfl,hq,he,q⟩:=h;cases rx;obtain ⟨t,rfl⟩:=ry;obtain ⟨its,r,pl,hz⟩:=I.list hq;obtain ⟨j,h1,h2,h3,h4,h5⟩:=atI_get he;obtain ⟨w,ew,rw'⟩:=r.get h2;have hl:=r.length;have hn:=line63;have fin:EP X pins σ Q w s:=⟨z,H,I,rw',q⟩;by_cases h0:0≤i
 ·have hj:i.toNat=j:=by
   rw [seqIndex_of h0 h5] at h1;exact Zd h1
  exact item_listR pl.isList h0 (by omega) (by rw [hj];simpa using ew) fin hs
 ·have hj:(i + (its.toArray.size:Int)).toNat=j:=by
   rw [seqIndex_neg (by omega) h4] at h1;rw [Z6,← hl];exact Zd h1
  exact subscriptTail_builtinR (x:=w) pl.isList.typeIs slot_list_getitem.lookup
   (wpAny_getItem_list_neg (Q:=fun r s'=>r=w∧EP X pins σ Q r s') pl.isList (by omega) (by rw [Z6] <;> omega) (by omega) (by rw [hj];simpa using ew) ⟨rfl,fin⟩) hs
theorem zBy:IxR X (rIxT X.K):=by
 intro value slice pins s σ H x y v u Q I rx ry h hs;obtain ⟨p,xs,i,z,rfl,rfl,hq,he,q⟩:=h;cases rx;obtain ⟨t,rfl⟩:=ry;obtain ⟨its,r,pl,hz⟩:=I.tuple hq;obtain ⟨j,h1,h2,h3,h4,h5⟩:=atI_get he;obtain ⟨w,ew,rw'⟩:=r.get h2;have hl:=r.length;have hn:=line63;have fin:EP X pins σ Q w s:=⟨z,H,I,rw',q⟩;exact subscriptTail_builtinR (x:=w) pl.typeIs slot_tuple_getitem.lookup
  (getItem_tuple (j:=j) (Q:=fun r s'=>r=w∧EP X pins σ Q r s') pl (by omega) (by omega) (by rw [Z6,← hl];exact h1) (by simpa using ew) ⟨rfl,fin⟩) hs
theorem ix_str:IxR X rIxS:=by
 intro value slice pins s σ H x y v u Q I rx ry h hs;obtain ⟨z,i,c,rfl,rfl,hz,he,q⟩:=h;obtain ⟨t,rfl⟩:=rx;obtain ⟨t',rfl⟩:=ry;obtain ⟨j,h1,h2,h3,h4,h5⟩:=atI_get he;have hl:z.cps.toList.length=z.length:=by simp [Str.length]
 rw [hl] at h1 h4 h5;have hn:=line63
 exact tail_any (typeIs_str s z t) slot_str_getitem.lookup (getItem_str (c:=c) (by
  have e1:decide (i < -(2 ^ 63:Int))=false:=decide_eq_false (by omega);have e2:decide (i ≥ 2 ^ 63)=false:=decide_eq_false (by omega)
  rw [e1,e2,Bool.or_false]) (by rw [h1];simpa using h2) ⟨.str ⟨#[c]⟩,H,I.tok _,⟨_,rfl⟩,q⟩) hs
theorem mapSeq_set (its:List Value) (n j:Nat) (u:Value):Obj.mapSeq (·.setIfInBounds j u) { cls:=.type "list",data:=.seq its.toArray n }={ cls:=.type "list",data:=.seq (its.set j u).toArray n }:=by
 simp [Obj.mapSeq]
theorem Inv.lst {pins:List (Addr×Obj)}{σ : St}{H:Hp}{s:Shared}{p:Addr}{xs:List V} (I:Inv X pins σ H s) (h:H p=some (.lst xs)) :
  ∃ (its:List Value) (n:Nat),Vals xs its∧s.heap.get? p=some { cls:=.type "list",data:=.seq its.toArray n }∧xs.length≤sizeLine:=by
 obtain ⟨z,its,n,r,e⟩:=I.hok p _ h;exact ⟨its,n,r,e,z⟩
theorem Inv.lstUpd {pins:List (Addr×Obj)}{σ : St}{H:Hp}{s:Shared}{p:Addr}{xs ys:List V}{its its':List Value}{n n':Nat}{f:Obj→Obj} (I:Inv X pins σ H s) (h:H p=some (.lst xs))
  (ho:s.heap.get? p=some { cls:=.type "list",data:=.seq its.toArray n }) (hf:f { cls:=.type "list",data:=.seq its.toArray n }={ cls:=.type "list",data:=.seq its'.toArray n' }) (r:Vals ys its') (hz:ys.length≤sizeLine) (t:Nat) :
  Inv X pins σ (upd H p (.lst ys)) { s with heap:=s.heap.update p f,toks:=t }:=by
 have e:(s.heap.update p f).get? p=some { cls:=.type "list",data:=.seq its'.toArray n' }:=by
  rw [Heap.get?_update_self f ho (by rw [hf] <;> rfl),hf]
 refine I.write (x:=p) (e:=p) (by rw [h];trivial) (.inl rfl) (fun b u hb q=>(Heap.get?_update_other _ _ (Ne.symm hb)).trans q) ⟨_,e⟩ ?_;exact ⟨hz,its',n',r,e⟩
noncomputable def rSetL:V→V→V→Hp→(Hp→Prop)→Prop:=fun o i v H Q=>∃ p xs k j,o=.ref p∧i=.int k∧H p=some (.lst xs)∧ixN xs.length k=some j∧Q (upd H p (.lst (xs.set j v)))
theorem set_list:PSet X rSetL:=by
 intro pins s σ H o i v ov iv u Q I ro ri rv h;obtain ⟨p,xs,k,j,rfl,rfl,hp,hj,q⟩:=h;cases ro;obtain ⟨t,rfl⟩:=ri;obtain ⟨its,n,r,ho,hz⟩:=I.lst hp;obtain ⟨h1,h2,h3,h4⟩:=ixN_seq hj;have hl:=r.length;have hn:=line63;have I':Inv X pins σ (upd H p (.lst (xs.set j v))) { s with heap:=s.heap.update p (Obj.mapSeq (·.setIfInBounds j u)) } :=
  I.lstUpd hp ho (mapSeq_set its n j u) (r.set rv j) (by rw [List.length_set];exact hz) s.toks
 by_cases h0:0≤k
 ·have hk:k.toNat=j:=by
   rw [seqIndex_of h0 h4] at h1;exact Zd h1
  exact PySem.W.ki_setAt ho h0 (by omega) (by rw [Z6,← hl];exact h4) (by rw [hk];exact ⟨_,I',q⟩)
 ·have hk:(k + (its.toArray.size:Int)).toNat=j:=by
   rw [seqIndex_neg (by omega) h3] at h1;rw [Z6,← hl];exact Zd h1
  exact PySem.W.ki_setBack ho (by omega) (by rw [Z6,← hl];exact h3) (by omega) (by rw [hk];exact ⟨_,I',q⟩)
theorem slice_bounds (lo hi:Option Int) (n:Nat):(sliceBounds lo hi none n).1=((HT.sIx n 0 lo:Nat):Int)∧(sliceBounds lo hi none n).2.1=((HT.sIx n n hi:Nat):Int)∧(sliceBounds lo hi none n).2.2=1:=by
 refine ⟨?_,?_,rfl⟩
 ·cases lo with
  | none=>simp [sliceBounds,HT.sIx]
  | some i =>
   simp only [sliceBounds,HT.sIx,Option.getD_none,show (1:Int) > 0 by decide,if_true];by_cases h:i < 0
   ·simp only [h,if_true] <;> omega
   ·simp only [h,if_false] <;> omega
 ·cases hi with
  | none=>simp [sliceBounds,HT.sIx]
  | some i =>
   simp only [sliceBounds,HT.sIx,Option.getD_none,show (1:Int) > 0 by decide,if_true];by_cases h:i < 0
   ·simp only [h,if_true] <;> omega
   ·simp only [h,if_false] <;> omega
theorem zD2 (its:List Value) (lo hi:Option Int):slicePick its.toArray lo hi none=((its.drop (HT.sIx its.length 0 lo)).take (HT.sIx its.length its.length hi - HT.sIx its.length 0 lo)).toArray:=by
 obtain ⟨h1,h2,h3⟩:=slice_bounds lo hi its.toArray.size;unfold slicePick;rw [h1,h2,h3];simp only [sliceRange_one,pick_run,Z6] <;> rfl
noncomputable def rSlL (K:PySem.W.Frag):V→Option Int→Option Int→Hp→VK→Prop:=fun x lo hi H Q=>∃ a xs,x=.ref a∧SqL K H a xs∧∀ p,H p=none→Q (.ref p) (upd H p (.lst (cutV xs lo hi)))
theorem zCe:SlR X (rSlL X.K):=by
 intro pins s σ H x v vl vu lo hi sl Q I rx hs pl pu h;obtain ⟨a,xs,rfl,hx,q⟩:=h;cases rx;obtain ⟨its,r,ht,hz⟩:=I.list hx;have hlen:=r.length;refine ⟨"list",_,slot_list_getitem.lookup,ht.isList.typeIs,?_⟩;refine wpAny_getItem_list_slice ht.isList hs pl pu .none (by simp) ?_ (by rw [Z6] <;> omega);rw [zD2,← hlen];refine ⟨.ref s.heap.objs.size,_,I.laid (t':=s.toks) (o:=.lst (cutV xs lo hi)) (fun b ob q=>Z0 _ q) (Z5 _) ?_,rfl,q _ (I.hok.fresh (Z5 _))⟩;exact ⟨Zs (cutV_length xs lo hi) hz,_,0,(r.drop (HT.sIx xs.length 0 lo)).take (HT.sIx xs.length xs.length hi - HT.sIx xs.length 0 lo),Z7 _ rfl⟩
theorem zAp:CallR X (.builtin "len") (fun xs H Q=>∃ p ys,xs=[.ref p]∧(SqL X.K H p ys∨SqT X.K H p ys)∧Q (.int ys.length) H):=by
 intro pins s σ H xs us Q I r h;obtain ⟨p,ys,rfl,hq,q⟩:=h;obtain ⟨u,rfl,rx⟩:=vals1 r;cases rx;have hn:=line63;rcases hq with hq | hq
 ·obtain ⟨its,r',pl,hz⟩:=I.list hq;have hlen:=r'.length;exact Calls.call_len_list pl.isList (by simp only [Z6] <;> omega) ⟨.int ys.length,H,I.tok _,⟨s.toks + 1,by rw [Z6,hlen]⟩,q⟩
 ·obtain ⟨its,r',pl,hz⟩:=I.tuple hq;have hlen:=r'.length;exact len_tuple pl (by simp only [Z6] <;> omega) ⟨.int ys.length,H,I.tok _,⟨s.toks + 1,by rw [Z6,hlen]⟩,q⟩
theorem call_len_str:CallR X (.builtin "len") (fun xs H Q=>∃ z,xs=[.str z]∧z.length≤sizeLine∧Q (.int z.length) H):=by
 intro pins s σ H xs us Q I r h;obtain ⟨z,rfl,hz,q⟩:=h;obtain ⟨u,rfl,t,rfl⟩:=vals1 r;have hn:=line63;exact len_str (by omega) ⟨.int z.length,H,I.tok _,⟨_,rfl⟩,q⟩
theorem zC9:CallR X (.type "list") (fun xs H Q=>∃ p ys,xs=[.ref p]∧(SqL X.K H p ys∨SqT X.K H p ys)∧∀ l,H l=none→Q (.ref l) (upd H l (.lst ys))):=by
 intro pins s σ H xs us Q I r h;obtain ⟨p,ys,rfl,hq,q⟩:=h;obtain ⟨u,rfl,rx⟩:=vals1 r;cases rx
 have fin:∀ (its:List Value),Vals ys its→ys.length≤sizeLine→∀ (h':Heap) (c':Nat),(∀ b o',s.heap.get? b=some o'→h'.get? b=some o') →
   h'.get? s.heap.objs.size=some { cls:=.type "list",dict:=none,data:=.seq its.toArray c',slots:=#[] }→EP X pins σ Q (.ref s.heap.objs.size) { s with heap:=h' }:=fun its r' hz h' c' kp e =>
  ⟨.ref s.heap.objs.size,_,I.laid (t':=s.toks) kp (Z5 _) (show ObjOk X.prog X.w _ h' _ (.lst ys) from ⟨hz,its,c',r',e⟩),rfl,q _ (I.hok.fresh (Z5 _))⟩
 rcases hq with hq | hq
 ·obtain ⟨its,r',pl,hz⟩:=I.list hq;have hlen:=r'.length;obtain ⟨o,ho,hc,n,hd⟩:=pl.isList;exact call_list_seq p (.inl rfl) ho hc hd (fun h' c' kp e=>fin its r' hz h' c' kp e) (by simp only [Z6] <;> omega)
 ·obtain ⟨its,r',pl,hz⟩:=I.tuple hq;have hlen:=r'.length;obtain ⟨o,ho,hc,n,hd⟩:=pl;exact call_list_seq p (.inr rfl) ho hc hd (fun h' c' kp e=>fin its r' hz h' c' kp e) (by simp only [Z6] <;> omega)
theorem zDk:CallR X (.type "tuple") (fun xs H Q=>∃ p ys,xs=[.ref p]∧((SqL X.K H p ys∧∀ l,H l=none→Q (.ref l) (upd H l (.tup ys)))∨(SqT X.K H p ys∧Q (.ref p) H))):=by
 intro pins s σ H xs us Q I r h;obtain ⟨p,ys,rfl,h⟩:=h;obtain ⟨u,rfl,rx⟩:=vals1 r;cases rx;rcases h with ⟨hq,q⟩ | ⟨hq,q⟩
 ·obtain ⟨its,r',pl,hz⟩:=I.list hq;have hlen:=r'.length;refine call_tuple_list pl.isList (fun h' kp=>?_) (by simp only [Z6] <;> omega);have I1:Inv X pins σ H { s with heap:=h' }:=I.kept (t':=s.toks) kp;have I2:Inv X pins σ (upd H h'.objs.size (.tup ys)) { s with heap:=h'.push { cls:=.type "tuple",data:=.seq its.toArray } } :=
   I1.laid (t':=s.toks) (fun b o e=>Z0 _ e) (Z5 _) (show ObjOk X.prog X.w _ _ _ (.tup ys) from ⟨hz,its,r',IsTup.new _ _⟩)
  exact ⟨.ref h'.objs.size,_,I2,rfl,q _ (I1.hok.fresh (Z5 _))⟩
 ·obtain ⟨its,r',pl,hz⟩:=I.tuple hq;exact call_tuple_same pl ⟨.ref p,H,I,rfl,q⟩
noncomputable def tyV (K:PySem.W.Frag) (T:String) (x:V) (H:Hp):Prop:=match x with
 | .str _=>T = "str"
 | .int _=>T = "int"
 | .ref p=>(T = "list"∧∃ xs,SqL K H p xs)∨(T = "tuple"∧∃ o,K.lookup p=some o∧o.cls=.type "tuple"∧o.dict=none) ∨
   (T = "dict"∧((∃ kvs,H p=some (.dK kvs))∨∃ kvs,H p=some (.dT kvs)))∨(T = "set"∧∃ S n,H p=some (.set S n))
 | _=>False
theorem tyV_is {pins:List (Addr×Obj)}{σ : St}{H:Hp}{s:Shared}{T:String}{x:V}{v:Value} (I:Inv X pins σ H s) (r:RelV x v) (ty:tyV X.K T x H) :
  s.TypeIs v T∧∀ a,v=.ref a→∃ ob,s.heap.get? a=some ob∧ob.dict=none:=by
 cases x with
 | str z =>
  obtain ⟨t,rfl⟩:=r;cases (show T = "str" from ty);exact ⟨typeIs_str s z t,fun _ e=>nomatch e⟩
 | int i =>
  obtain ⟨t,rfl⟩:=r;cases (show T = "int" from ty);exact ⟨typeIs_int s i t,fun _ e=>nomatch e⟩
 | ref p =>
  cases r;rcases ty with ⟨rfl,xs,hq⟩ | ⟨rfl,o,hk,hc,hd⟩ | ⟨rfl,hk⟩ | ⟨rfl,S,n,hk⟩
  ·obtain ⟨its,_,pl,_⟩:=I.list hq;refine ⟨pl.isList.typeIs,fun a e=>?_⟩;cases e;obtain ⟨o,n,e,c,hd,_⟩:=pl;exact ⟨o,e,hd⟩
  ·refine ⟨⟨o,I.kIn p o hk,hc⟩,fun a e=>?_⟩;cases e;exact ⟨o,I.kIn _ o hk,hd⟩
  ·have z:∃ o,s.heap.get? p=some o∧o.ExactDict:=by
    rcases hk with ⟨kvs,hk⟩ | ⟨kvs,hk⟩
    ·obtain ⟨_,_,_,_,o,_,_,e,ex,_⟩:=I.hok p _ hk;exact ⟨o,e,ex⟩
    ·obtain ⟨_,_,_,_,o,_,_,e,ex,_⟩:=I.hok p _ hk;exact ⟨o,e,ex⟩
   obtain ⟨o,e,ex⟩:=z;refine ⟨⟨o,e,ex.1⟩,fun a e2=>?_⟩;cases e2;exact ⟨o,e,ex.2.1⟩
  ·obtain ⟨o,_,_,_,e,ex,_⟩:=I.hok p _ hk;refine ⟨⟨o,e,ex.1⟩,fun a e2=>?_⟩;cases e2;exact ⟨o,e,ex.2.1⟩
 | _=>exact False.elim ty
noncomputable def tBM (K:PySem.W.Frag) (T:String) (r:V→List V→Hp→VK→Prop) (to:TE) (t:TA):TE:=fun σ H Q=>to σ H fun x H1=>tyV K T x H1∧t σ H1 fun xs H2=>r x xs H2 Q
variable {o e:Expr}{es:List Expr}{to:TE}{t:TA}{name:Str}{apos cpos:Pos}{T id:String}{r:V→List V→Hp→VK→Prop}
theorem pe_bm (pa:PlainAttrs T) (slot:Slot T name id) (hty:typeOf (.builtin id)=pure (.type "method_descriptor")) (hm:MtR X id r) (ho:PE X o to) (ha:PA X (e :: es) t)
  (hbase:attributeBase o name X.env (eval o X.env)=eval o X.env:=by rfl)
  (hfew:((backTo cpos (starEach (e :: es) X.env)).all (fun x=>!x.1) && (backToKw cpos (keywordEach [] X.env)).all (fun x=>x.1.isSome)
   && decide ((e :: es).length + ([]:List Keyword).length + (if ([]:List Keyword).isEmpty then 0 else 1) < 30))=true:=by rfl)
  (hline:(apos.endLine == cpos.line)=true:=by rfl) (hs:starEach (e :: es) X.env=(false,eval e X.env) :: starEach es X.env:=by rfl) (hplain:(backTo cpos (starEach es X.env)).any (·.1)=false:=by rfl) :
  PE X (.Call (.Attribute o name apos) (e :: es) [] cpos) (tBM X.K T r to t):=by
 intro pins s σ H Q I h;refine wpAny_Call_method_late hbase hfew hline rfl (thn (ho pins s σ H _ I h) fun v s1 ⟨x,H1,I1,r1,ty,q1⟩=>?_);obtain ⟨h1,h2⟩:=tyV_is I1 r1 ty;refine ⟨T,id,pa,slot,hty,h1,h2,?_⟩;have hA:=ha cpos pins s1 σ H1 _ I1 q1;rw [hs] at hA ⊢;refine Calls.callWith_builtin (by show (false || (backTo cpos (starEach es X.env)).any (·.1))=false;rw [hplain] <;> rfl) (Calls.evalArgs_plain ?_);exact thn hA fun us s2 ⟨vs,H2,I2,r2,q2⟩=>hm pins s2 σ H2 x vs v us Q I2 r1 r2 q2
end
end L2
namespace L2
open PySem PySem.Spec PyProof.Rows
noncomputable def MtM (X:Cx) (id:String) (r:V→List V→Hp→VK→Prop):Prop :=
 ∀ (pins:List (Addr×Obj)) (s:Shared) (σ : St) (H:Hp) (x:V) (xs:List V) (v:Value) (us:List Value) (Q:VK),Inv X pins σ H s→RelV x v→Vals xs us→r x xs H Q →
  wpAny (model X.prog X.w) X.A (call (.builtin id) (v :: us)) (EP X pins σ Q) X.xe s
theorem Vals.one:∀ {x:V}{us:List Value},Vals [x] us→∃ u,us=[u]∧RelV x u
 | _,_,.cons r .nil=>⟨_,rfl,r⟩
theorem Vals.dropLast {xs:List V}{us:List Value} (h:Vals xs us):Vals xs.dropLast us.dropLast:=by
 induction h with
 | nil=>exact .nil
 | cons r t ih =>
  cases t with
  | nil=>exact .nil
  | cons q t'=>exact .cons r ih
theorem Vals.eraseIdx:∀ {xs:List V}{us:List Value} (i:Nat),Vals xs us→Vals (xs.eraseIdx i) (us.eraseIdx i)
 | _,_,_,.nil=>.nil
 | _,_,0,.cons _ t=>t
 | _,_,i + 1,.cons r t=>.cons r (Vals.eraseIdx i t)
theorem erase_last {α : Type} (l:List α):l.eraseIdx (l.length - 1)=l.dropLast:=by
 induction l with
 | nil=>rfl
 | cons a r ih =>
  cases r with
  | nil=>rfl
  | cons b r =>
   have e:(a :: b :: r).length - 1=((b :: r).length - 1) + 1:=by
    have h1:(a :: b :: r).length=r.length + 2:=rfl;have h2:(b :: r).length=r.length + 1:=rfl;omega
   rw [e,List.eraseIdx_cons_succ,ih]
   all_goals rfl
section
variable {X:Cx}{pins:List (Addr×Obj)}{σ : St}{H:Hp}{s:Shared}{l b:Addr}{xs ys zs:List V}
theorem Inv.lset {its its':List Value}{n:Nat}{f:Array Value→Array Value}{t':Nat} (I:Inv X pins σ H s) (hH:H l=some (.lst xs))
  (e:s.heap.get? l=some { cls:=.type "list",data:=.seq its.toArray n }) (hf:f its.toArray=its'.toArray) (hv:Vals ys its') (hz:ys.length≤sizeLine) :
  Inv X pins σ (upd H l (.lst ys)) { s with heap:=s.heap.update l (Obj.mapSeq f),toks:=t' }:=by
 have q:=PySem.IsL.update e f;rw [hf] at q;refine I.write (x:=l) (e:=l) (by rw [hH];exact trivial) (.inl rfl) (fun b' u hb hu=>(Heap.get?_update_other s.heap (Obj.mapSeq f) (Ne.symm hb)).trans hu) ⟨_,q⟩ ?_;exact ⟨hz,its',_,hv,q⟩
theorem Inv.lnew {its:List Value}{t':Nat} (I:Inv X pins σ H s) (hv:Vals ys its) (hz:ys.length≤sizeLine) :
  Inv X pins σ (upd H s.heap.objs.size (.lst ys)) { s with heap:=s.heap.push { cls:=.type "list",data:=.seq its.toArray },toks:=t' } :=
 I.laid (fun _ _ q=>Z0 _ q) (Z5 _) ⟨hz,its,0,hv,Z7 _ rfl⟩
theorem Inv.fresh (I:Inv X pins σ H s):H s.heap.objs.size=none:=I.hok.fresh (Z5 _)
theorem Inv.lstM (I:Inv X pins σ H s) (hH:H l=some (.lst xs)):xs.length≤sizeLine∧∃ (its:List Value) (n:Nat),Vals xs its∧xs.length=its.length∧s.heap.get? l=some { cls:=.type "list",data:=.seq its.toArray n }:=by
 obtain ⟨z,its,n,r,e⟩:=I.hok l _ hH;exact ⟨z,its,n,r,r.length,e⟩
theorem notLongL {n:Nat} (h:n≤sizeLine):Builtin.List.listTooLong n=false:=by
 unfold Builtin.List.listTooLong;exact decide_eq_false (by omega)
end
section
variable {X:Cx}
noncomputable def rAppend:V→List V→Hp→VK→Prop:=fun x vs H Q=>∃ l xs y,x=.ref l∧vs=[y]∧H l=some (.lst xs)∧xs.length < sizeLine∧Q .non (upd H l (.lst (xs++[y])))
theorem mt_append:MtM X "list.append" rAppend:=by
 intro pins s σ H x vs v us Q I rx rv h;obtain ⟨l,xs,y,rfl,rfl,hH,hz,q⟩:=h;cases rx;obtain ⟨u,rfl,ru⟩:=rv.one;obtain ⟨z,its,n,r,hl,e⟩:=I.lstM hH;refine call_meets F.slot_list_append ⟨_,e,rfl⟩ F.entry_list_append (F.args_list_append_2 _ _) (PySem.list_append l its.toArray n u (by rw [Z6];omega)) ⟨e,?_⟩;refine ⟨.non,_,I.lset (its':=its++[u]) hH e (by simp) (r.append (.cons ru .nil)) ?_,rfl,q⟩;rw [Zb,List.length_singleton];omega
noncomputable def rExtend:V→List V→Hp→VK→Prop:=fun x vs H Q=>∃ l b xs zs,x=.ref l∧vs=[.ref b]∧H l=some (.lst xs)∧H b=some (.lst zs)∧xs.length + zs.length≤sizeLine∧Q .non (upd H l (.lst (xs++zs)))
theorem mt_extend:MtM X "list.extend" rExtend:=by
 intro pins s σ H x vs v us Q I rx rv h;obtain ⟨l,b,xs,zs,rfl,rfl,hH,hB,hz,q⟩:=h;cases rx;obtain ⟨u,rfl,ru⟩:=rv.one;cases ru;obtain ⟨z,its,n,r,hl,e⟩:=I.lstM hH;obtain ⟨z2,its2,n2,r2,hl2,e2⟩:=I.lstM hB;have hsz:its.toArray.size + its2.toArray.size≤sizeLine:=by rw [Z6,Z6];omega
 have hlong:¬ (!its.toArray.isEmpty && Builtin.List.listTooLong (its.toArray.size + its2.toArray.size))=true:=by
  rw [notLongL hsz,Bool.and_false];exact Ze
 refine call_meets F.slot_list_extend ⟨_,e,rfl⟩ F.entry_list_extend (F.args_list_extend_2 _ _)
  (AutoSeq1.list_extend_list_list_0 l its.toArray n b its2.toArray n2 hlong (by rw [Z6];omega) (by omega)) ⟨e,e2,?_⟩
 refine ⟨.non,_,I.lset (its':=its++its2) hH e (by simp) (r.append r2) ?_,rfl,q⟩;rw [Zb];omega
noncomputable def rCat:R2:=fun x y H Q=>∃ l b xs zs,x=.ref l∧y=.ref b∧H l=some (.lst xs)∧H b=some (.lst zs)∧xs.length + zs.length≤sizeLine∧∀ p,H p=none→Q (.ref p) (upd H p (.lst (xs++zs)))
theorem zB9:OpR X (binaryOp .Add) rCat:=by
 intro pins s σ H x y v u Q I rx ry h;obtain ⟨l,b,xs,zs,rfl,rfl,hH,hB,hz,q⟩:=h;cases rx;cases ry;obtain ⟨z,its,n,r,hl,e⟩:=I.lstM hH;obtain ⟨z2,its2,n2,r2,hl2,e2⟩:=I.lstM hB;refine PySem.P.add_list e e2 ?_ (by rw [Z6,Z6];omega);have ea:its.toArray++its2.toArray=(its++its2).toArray:=by simp
 rw [ea];exact ⟨.ref _,_,I.lnew (t':=s.toks) (r.append r2) (by rw [Zb];omega),rfl,q _ I.fresh⟩
end
section
variable {prog:Program}{w:World}{A:Around}{E:Value→Shared→Prop}{s:Shared}
set_option maxRecDepth 100000 in
end
section
variable {X:Cx}
end
end L2
namespace Att
open PySem PySem.W PySem.Calls PyProof.Rows
theorem zCn {P:Params}{h:Heap}:∀ (ns:List Int) (vs:List Value),WellAll P h vs (ns.map WData.int)→IntsAre vs ns:=by
 intro ns
 induction ns with
 | nil =>
  intro vs w;rw [List.map_nil] at w;cases w;exact .nil
 | cons n ns ih =>
  intro vs w;rw [Zj] at w;cases w with
  | cons a b =>
   cases a;exact .cons _ _ (ih _ b)
theorem script_of {l:OpenLaw}{n:Nat} (hn:l.most=some n) {P:Params}{h:Heap}{args:List WData}{vals:List Value}
  (hpre:l.row.toRowW.claim.pre args=true) (hwl:WellAll P h vals args) :
  ∃ a vs ns,vals=[Value.ref a]∧args=[WData.list (ns.map WData.int)]∧h.get? a=some { cls:=.type "list",data:=.seq vs.toArray }∧IntsAre vs ns∧ns.length≤n:=by
 have hsh:WShape.hasAll [] args [.list .int]=true:=(pre_splitW hpre).1;have hc:l.pre.holds [] { args:=args }=true:=(pre_splitW hpre).2;obtain ⟨d,r,rfl,h1,h2⟩:=hasAllW_cons hsh;obtain rfl:=hasAllW_nil h2;obtain ⟨xs,rfl,h3⟩:=hasW_list h1;obtain ⟨ns,rfl⟩:=items_int h3;have hlen:ns.length≤n:=by
  unfold OpenLaw.pre at hc;have h4:(WTm.not (.lt (.lit (.int (n:Int))) (.len (.arg 0)))).holds [] { args:=[.list (ns.map .int)] }=true:=by
   have h4:=(holds_andW hc).1;rw [hn] at h4;exact h4
  have h5:=condW_of h4 (w_not (w_lt w_lit (w_len_list (w_arg rfl))));rw [Z1] at h5;refine Nat.le_of_not_lt fun q=>?_;have q':(n:Int) < ((ns.length:Nat):Int):=by omega
  first
   | (rw [decide_eq_true q'] at h5;exact absurd h5 (by decide))
   | (simp at h5;omega)
 cases hwl with
 | cons w1 w2 =>
  cases w2;cases w1 with
  | list ho hall=>exact ⟨_,_,ns,rfl,rfl,ho,zCn ns _ hall,hlen⟩
theorem post_true (l:OpenLaw) (args:List WData):l.row.toRowW.claim.post args (.bool true) args=true :=
 postW_of (r:=l.row.toRowW) (X:=(true == true))
  (show WShape.has [] (.bool true) .bool=true by first | rfl | decide | simp [WShape.has,WShape.arms,WShape.armsAll])
  (show (WTm.eq .res (.lit (.bool true))).value [] { args:=args,res:=some (.bool true),after:=args }=some (.bool (true == true)) from w_eq_bool (w_res rfl) w_lit) rfl
theorem attach_call {l:OpenLaw}{n:Nat}{q:Program}{loose:List Str}{XP:(Str→Option Value)→Heap→Prop}{YP:World→Heap→Prop}{d:DefRec}
  (hn:l.most=some n) (hdf:d.params.defaults=[])
  (call:∀ (w:World) (s₀ s₁ : Shared) (mg mb:Str→Option Value) (fa:Addr) (o:Obj) (pm cd doc:Value) (a:Addr) (vs:List Value) (ns:List Int),
   Ground q loose [] XP w s₀ mg mb s₁.heap→YP w s₁.heap →
   s₁.heap.get? fa=some o→o.data=.func (docDef d.name d.params d.body d.scope pm cd doc)→s₁.heap.CodeRec cd d.name→mg d.name=some (.ref fa) →
   s₁.heap.get? a=some { cls:=.type "list",data:=.seq vs.toArray }→IntsAre vs ns→ns.length≤n→s₁.gens = #[] →
   codeAny (model l.prog w) callerA (.call (.ref fa) ⟨[.ref a],[]⟩) (fun r s'=>r=.ok (.ret (.bool true))∧OldK s₁.heap s'.heap∧s'.os=s₁.os∧AllBare s'.gens) s₁) :
  WalkO q loose XP YP l.row.toRowW d [] (fun f vs=>PySem.call f vs):=by
 intro w s₀ s₁ mg mb G Y fa o pm cd doc dV kV ho hd hcd hD hmg hg args vals as hpre hlay hrd hwl hlo;obtain rfl:dV=.none:=Dflts.none hD hdf;obtain rfl:kV=.none:=Dflts.noKw hD;obtain ⟨a,vs,ns,rfl,rfl,hobj,hints,hlen⟩:=script_of hn hpre hwl;refine enter_call (codeAny_mono (call w s₀ s₁ mg mb fa o pm cd doc a vs ns G Y ho (fd_plain hd) hcd hmg hobj hints hlen hg) fun r s' hq=>?_);obtain ⟨rfl,h2,h3,h4⟩:=hq;exact ⟨.inl ⟨.bool true,.bool true,[],rfl,fun _=>rfl,.bool true,post_true l _,fun _=>⟨List.Pairwise.nil,fun _ hm=>(nomatch hm)⟩⟩,h2,h3,h4⟩
section
variable {prog:Program}{w:World}{A:Around}{E:Value→Shared→Prop}{s:Shared}{K:Frag}
noncomputable def ledger (h:Heap) (L d:Addr):List (Addr×Obj):=(List.range h.objs.size).filterMap fun a=>if a=L∨a=d then none else (h.get? a).map fun o=>(a,o)
end
end Att
namespace L2
open PySem PySem.Spec PyProof.Rows
theorem vals_ints:∀ {vs:List Value}{ns:List Int},IntsAre vs ns→Vals (ns.map V.int) vs
 | _,_,.nil=>.nil
 | _,_,.cons n t h=>.cons ⟨t,rfl⟩ (vals_ints h)
end L2
namespace L2
open PySem PySem.Spec PyProof.Rows
noncomputable abbrev KOf {K:PySem.W.Frag}{h:Heap} (_:K.In h):PySem.W.Frag:=K
end L2
namespace L2
open PySem PySem.Spec PyProof.Rows
noncomputable def inClass (s:Stmt) (j:Nat):Stmt:=match s with
 | .ClassDef _ _ _ body _ _ _ _ _ _ _=>body.getD j (.Pass ⟨0,0,0,0⟩)
 | _=>.Pass ⟨0,0,0,0⟩
noncomputable def defArgs (s:Stmt):Arguments:=match s with
 | .FunctionDef _ a _ _ _ _ _ _ _ _=>a
 | _=>{ posonlyargs:=[],args:=[],vararg:=none,kwonlyargs:=[],kw_defaults:=[],kwarg:=none,defaults:=[] }
noncomputable def defBody (s:Stmt):List Stmt:=match s with
 | .FunctionDef _ _ b _ _ _ _ _ _ _=>b
 | _=>[]
noncomputable def defScope (s:Stmt):Scope:=match s with
 | .FunctionDef _ _ _ _ _ _ sc _ _ _=>sc
 | _=>{ kind:=.function,names:=[],isGenerator:=false,isCoroutine:=false }
noncomputable abbrev CX0:CXT:=fun _ _ _ _ _ _=>False
noncomputable abbrev E0:St→XK:=fun _ _ _ _=>False
structure Fun (K:PySem.W.Frag) (x qual:Str) (st:Stmt) (f:Addr) (fd:FuncData):Prop where
 ex:∃ (oc:Value) (od:Option Addr) (kV doc pm:Value) (an:Option Addr) (cdv ct:Value) (osl:Array (Option Value)),
  fd=PySem.W.fnOf x qual (defArgs st) (defBody st) (defScope st) .none kV doc pm an cdv ct∧K.lookup f=some ⟨oc,od,.func fd,osl⟩∧PySem.W.codeIn K cdv qual=true
 kp:PySem.W.keepIn K (.ref f)=true
section
variable {P:Program}{w:World}{K:PySem.W.Frag}{mg:Str→Option Value}{base:Heap}
theorem Fun.ok {x qual:Str}{st:Stmt}{f:Addr}{fd:FuncData}{N ps:List Str}{k:Nat}{sp:Sp} (F:Fun K x qual st f fd) (S:FnScope N ps (defScope st)) (len:∀ vs H Q E,sp vs H Q E→vs.length=ps.length)
  (hbody:∀ (cdv:Value) (A:Around) (outer:List Env) (s:Shared) (H:Hp) (vs:List V) (Q:VK) (E:XK),Room k (A.deeper (envOfC qual (defScope st) s.heap.objs.size f cdv))→sp vs H Q E →
   ∃ t,PSs (cxOf CX0 P w K mg base N qual (defScope st) f cdv A outer s H E).nox (defBody st) t∧t { nx:=fun _ H'=>Q .non H',rt:=Q } (start N vs) H):FnOk P w K mg base CX0 (k + 1) f fd ps sp:=by
 obtain ⟨oc,od,kV,doc,pm,an,cdv,ct,osl,rfl,lk,hcd⟩:=F.ex;refine zCr lk hcd S len fun A outer s H vs Q E hr hsp=>?_;obtain ⟨t,h,q⟩:=hbody cdv A outer s H vs Q E hr hsp;exact ⟨t,h.nox,q⟩
theorem Fun.binds {x qual:Str}{st:Stmt}{f:Addr}{fd:FuncData}{ps:List Str} (F:Fun K x qual st f fd)
  (h:∀ (kV doc pm:Value) (an:Option Addr) (cdv ct:Value) (us:List Value),us.length=ps.length→bindArgs (PySem.W.fnOf x qual (defArgs st) (defBody st) (defScope st) .none kV doc pm an cdv ct) ⟨us,[]⟩=pure (ps.zip us)):Binds K fd ps []:=by
 obtain ⟨oc,od,kV,doc,pm,an,cdv,ct,osl,rfl,lk,hcd⟩:=F.ex;exact .all (h kV doc pm an cdv ct)
theorem fun_mk {x qual:Str}{st:Stmt}{f:Addr}{oc:Value}{od an:Option Addr}{osl:Array (Option Value)}{kV doc pm cdv ct:Value} (l:K.lookup f=some ⟨oc,od,.func (PySem.W.fnOf x qual (defArgs st) (defBody st) (defScope st) .none kV doc pm an cdv ct),osl⟩)
  (c:PySem.W.codeIn K cdv qual=true) (k:PySem.W.keepIn K (.ref f)=true):Fun K x qual st f (PySem.W.fnOf x qual (defArgs st) (defBody st) (defScope st) .none kV doc pm an cdv ct):=⟨⟨oc,od,kV,doc,pm,an,cdv,ct,osl,rfl,l,c⟩,k⟩
end
theorem small1000 {n:Nat} (h:n≤1000):n < sizeLine:=Nat.lt_of_le_of_lt h (by decide)
section
variable {X:Cx}
theorem pv (i:Nat) {x:Str}{pos:Pos} (hN:X.N[i]? = some x:=by rfl) (hv:Vis X.env.scope x:=by first | exact Or.inl rfl | exact Or.inr (Or.inl rfl) | exact Or.inr (Or.inr rfl)) (hd:(x == ("__debug__" : Str))=false:=by decide)
  (hcd:(x == ("__classdict__" : Str))=false:=by decide):PE X (.Name x pos) (tVar i):=pe_var hN hv hd hcd
end
theorem iteF {A B:Prop} (h:B):if false=true then A else B:=by
 rw [if_neg Ze];exact h
theorem iteT {A B:Prop} (h:A):if true=true then A else B:=by
 rw [if_pos rfl];exact h
theorem ite2 {c A B:Prop} [Decidable c] (h1:c→A) (h2:¬ c→B):if c then A else B:=by
 by_cases h:c
 ·rw [if_pos h];exact h1 h
 ·rw [if_neg h];exact h2 h
noncomputable def Same (H H':Hp):Prop:=∀ b o,H b=some o→H' b=some o
theorem Same.refl (H:Hp):Same H H:=fun _ _ h=>h
theorem Same.trans {H H1 H2:Hp} (a:Same H H1) (b:Same H1 H2):Same H H2:=fun c o h=>b c o (a c o h)
theorem Same.free {H H':Hp} (e:Same H H') {l:Addr} (h:H' l=Option.none):H l=Option.none:=by
 cases q:H l with
 | none=>rfl
 | some o =>
  rw [e l o q] at h;cases h
end L2
namespace L2
open PySem PySem.Spec PyProof.Rows
section
variable {κ : Type} [DecidableEq κ]
noncomputable def valV (kvs:List (κ×V)) (k : κ):Option V:=(kvs.find? fun kv=>decide (kv.1=k)).map (·.2)
noncomputable def putK (kvs:List (κ×V)) (k : κ) (v:V):List (κ×V) :=
 if (kvs.any fun kv=>decide (kv.1=k))=true then kvs.map (fun kv=>if kv.1=k then (kv.1,v) else kv) else kvs++[(k,v)]
theorem KV.any {kvs:List (κ×V)}{vs:List (κ×Value)} (r:KV kvs vs) (k : κ):(kvs.any fun kv=>decide (kv.1=k))=vs.any fun kv=>decide (kv.1=k):=by
 unfold KV at r
 induction r with
 | nil=>rfl
 | cons h t ih=>rw [List.any_cons,List.any_cons,ih,h.1]
theorem KV.length {kvs:List (κ×V)}{vs:List (κ×Value)} (r:KV kvs vs):kvs.length=vs.length:=Paired.length r
end
section
variable {P:Program}{w:World}{H:Hp}{h:Heap}{a:Addr}
end
noncomputable def DGet (H:Hp) (a:Addr) (y:V) (r:Option V):Prop :=
 (∃ kvs k,Rd H a (.dK kvs)∧y=kV k∧r=valV kvs k)∨∃ kvs k b,Rd H a (.dT kvs)∧y=.ref b∧H b=some (.tup (k.map kV))∧r=valV kvs k
noncomputable def DPut (H:Hp) (a:Addr) (y v:V) (H':Hp):Prop :=
 (∃ kvs k,H a=some (.dK kvs)∧y=kV k∧kvs.length < sizeLine∧H'=upd H a (.dK (putK kvs k v))) ∨
 ∃ kvs k b,H a=some (.dT kvs)∧y=.ref b∧H b=some (.tup (k.map kV))∧kvs.length < sizeLine∧H'=upd H a (.dT (putK kvs k v))
theorem DGet.k {H:Hp}{a:Addr}{kvs:List (Key×V)}{k:Key} (e:H a=some (.dK kvs)):DGet H a (kV k) (valV kvs k):=.inl ⟨kvs,k,.inl e,rfl,rfl⟩
theorem DGet.t {H:Hp}{a b:Addr}{kvs:List (List Key×V)}{k:List Key} (e:H a=some (.dT kvs)) (eb:H b=some (.tup (k.map kV))):DGet H a (.ref b) (valV kvs k):=.inr ⟨kvs,k,b,.inl e,rfl,eb,rfl⟩
theorem DPut.k {H:Hp}{a:Addr}{kvs:List (Key×V)}{k:Key}{v:V} (e:H a=some (.dK kvs)) (hl:kvs.length < sizeLine):DPut H a (kV k) v (upd H a (.dK (putK kvs k v))):=.inl ⟨kvs,k,e,rfl,hl,rfl⟩
theorem DPut.t {H:Hp}{a b:Addr}{kvs:List (List Key×V)}{k:List Key}{v:V} (e:H a=some (.dT kvs)) (eb:H b=some (.tup (k.map kV))) (hl:kvs.length < sizeLine) :
  DPut H a (.ref b) v (upd H a (.dT (putK kvs k v))):=.inr ⟨kvs,k,b,e,rfl,eb,hl,rfl⟩
section
variable {X:Cx}{pins:List (Addr×Obj)}{σ : St}{H:Hp}{s:Shared}{a:Addr}{y v:V}{u r:Value}{o:Option V}{A:Around}{E:Value→Shared→Prop}
theorem Inv.big (I:Inv X pins σ H s):sysModules < s.heap.objs.size:=by
 have h:mainGlobals < s.heap.objs.size:=(I.mod.glob.keeps I.bk).lt;exact Nat.lt_trans (by decide) h
end
section
variable {X:Cx}{pins:List (Addr×Obj)}{σ : St}{H:Hp}{s:Shared}{a:Addr}{kvs:List (Key×V)}{k:Key}{u:Value}{A:Around}{E:Value→Shared→Prop}
end
section
variable {X:Cx}{o i e value:Expr}{pos pos' tpos:Pos}{td ty tv:TE}
end
section
variable {X:Cx}{pos:Pos}
end
section
variable {X:Cx}{pins:List (Addr×Obj)}{σ : St}{H:Hp}{s:Shared}{a:Addr}{y d:V}{u r:Value}{o:Option V}{A:Around}{E:Value→Shared→Prop}
end
section
variable {X:Cx}{o e f:Expr}{apos cpos:Pos}{td ty tx:TE}
end
section
variable {X:Cx}{pins:List (Addr×Obj)}{σ : St}{H:Hp}{s:Shared}{a:Addr}{kvs:List (Key×V)}{A:Around}{E:Value→Shared→Prop}
end
section
variable {X:Cx}{pins:List (Addr×Obj)}{σ : St}{H:Hp}{s:Shared}{a:Addr}{y:V}{u:Value}{A:Around}{E:Value→Shared→Prop}
end
end L2
namespace L2
open PySem PySem.Spec PyProof.Rows
noncomputable def PFs (X:Cx) (ifs:List Expr) (t:TT):Prop :=
 ∀ (pins:List (Addr×Obj)) (s:Shared) (σ : St) (H:Hp) (Q:Bool→Hp→Prop),Inv X pins σ H s→t σ H Q →
  wpAny (model X.prog X.w) X.A (forIn ifs true fun c r=>if r=true then do let ok ← isTrue c X.env (eval c X.env);pure (ForInStep.yield ok) else pure (ForInStep.yield r)) (TP X pins σ Q) X.xe s
noncomputable def tYes:TT:=fun _ H Q=>Q true H
theorem zAz {X:Cx}:PFs X [] tYes:=fun _ _ _ H _ I h=>wpAny_tests_nil ⟨H,I,h⟩
section
variable {prog:Program}{w:World}{A:Around}{R:Result→Shared→Prop}
theorem comp_loop {elt tg iter:Expr}{ifs:List Expr}{sc:Scope}{pos:Pos}{it acc:Value}{env:Env} (J:Nat→Shared→Prop) (N:Value→Shared→Prop)
  (hN:N=notedBy (model prog w) A env fun e z=>R (.error e) z)
  (turn:∀ k z,J k z→wpAny (model prog w) A (pyNext it) (fun r z1=>match r with
   | none=>R (.ok .next) z1
   | some v=>wpAny (model prog w) A (letOwnedTupleGo tg it v) (fun _ z2=>wpAny (model prog w) A (assign tg env v) (fun _ z3 =>
     wpAny (model prog w) A (forIn ifs true fun c r=>if r=true then do let ok ← isTrue c env (eval c env);pure (ForInStep.yield ok) else pure (ForInStep.yield r)) (fun ok z4 =>
      if ok=true then wpAny (model prog w) A (eval elt env) (fun y z5=>wpAny (model prog w) A (call (.builtin "list.append") [acc,y]) (fun _ z6=>∃ j,j < k∧J j z6) N z5) N z4
      else ∃ j,j < k∧J j z4) N z3) N z2) N z1) N z)
  {z:Shared} (k:Nat) (h:J k z):codeAny (model prog w) A (.compLoop (.ListComp elt [⟨tg,iter,ifs,0⟩] sc pos) 0 it acc env) R z:=by
 subst hN;refine codeAny_loop rfl J (fun k z hJ=>?_) k h;show wpAny _ A ((compTurn (.ListComp elt [⟨tg,iter,ifs,0⟩] sc pos) 0 it acc env).onRaise (fun x=>do noteFrame x env;theTreesLotGoes x)) _ _ z;refine wpAny_noted ?_;rw [compTurn_list];refine wpAny_bind (wpAny_standAt (wpAny_bind (thn (turn k z hJ) fun r z1 h1=>?_)));cases r with
 | none=>exact wpAny_pure h1
 | some v =>
  refine wpAny_bind (thn h1 fun _ z2 h2=>?_);refine wpAny_bind (thn h2 fun _ z3 h3=>?_);refine wpAny_bind (thn h3 fun ok z4 h4=>?_);cases ok with
  | false=>exact wpAny_pure ⟨rfl,h4⟩
  | true=>exact wpAny_bind (wpAny_bind (thn h4 fun y z5 h5=>wpAny_bind (thn h5 fun _ z6 h6=>wpAny_pure (wpAny_pure ⟨rfl,h6⟩))))
end
noncomputable def cxComp (X:Cx) (sc:Scope) (cl:List (Str×Addr)) (T:List Str) (C:Addr) (s2:Shared) (H2:Hp) (fp:List Addr):Cx where
 prog:=X.prog
 w:=X.w
 K:=X.K
 mg:=X.mg
 base:=X.base
 A:=X.A
 N:=X.N++T
 s₀:=s2
 H₀:=H2
 env:=compEnvC sc cl C X.env
 outer:=X.stack
 stack:=X.stack
 ex:=fp
 fn:=fun _=>false
 calm:=X.calm
 pn:=[]
 xe:=fun _ _=>False
noncomputable def ClOk (X:Cx):List (Str×Addr)→Prop
 | []=>True
 | p :: r=>X.env.cells.lookup p.1=some p.2∧ClOk X r
theorem ClOk.look {X:Cx}:∀ {cl:List (Str×Addr)},ClOk X cl→∀ x c,cl.lookup x=some c→X.env.cells.lookup x=some c
 | [],_,_,_,h=>by cases h
 | p :: r,k,x,c,h=>by
  cases e:x == p.1 with
  | true =>
   rw [Zx,e] at h;have ex:x=p.1:=by simpa using e
   rw [ex,k.1];exact h
  | false =>
   rw [Zx,e] at h;exact ClOk.look k.2 x c h
structure ScOk (X:Cx) (sc:Scope) (cl:List (Str×Addr)) (T:List Str):Prop where
 clos:closureFor sc X.env=pure cl
 cell:∀ y∈sc.names,y.2≠.cell
 kind:sc.kind=.function
 names:∀ x∈sc.names,x.2=.local→sc.names.lookup x.1=some .local
 cls:ClOk X cl
 has:∀ x∈sc.names,x.2=.free→(cl.lookup x.1).isSome=true∧(X.env.scope.names.lookup x.1=some .cell∨X.env.scope.names.lookup x.1=some .free)
 out:∀ x∈X.N,sc.names.lookup x≠some .local
theorem zC2 {sc:Scope}{env:Env}{x:Str}{k:NameKind}:∀ {names:List (Str×NameKind)},
  (names.map fun (n,k)=>if (k == NameKind.free && env.scope.kind == .function && env.kindOf n == some .cell) then (n,NameKind.cell) else (n,k)).lookup x=some k →
  ∃ j,(x,j)∈names∧names.lookup x=some j∧(j=k∨(j=.free∧k=.cell))
 | [],h=>by cases h
 | (n,j) :: r,h=>by
  cases e:x == n with
  | true =>
   have ex:x=n:=by simpa using e
   subst ex;refine ⟨j,Zg,by rw [Zx,e],?_⟩;have h':List.lookup x ((if (j == NameKind.free && env.scope.kind == .function && env.kindOf x == some .cell)=true then (x,NameKind.cell) else (x,j)) :: _)=some k:=h;by_cases c:(j == NameKind.free && env.scope.kind == .function && env.kindOf x == some .cell)=true
   ·rw [if_pos c,Zx,e] at h';have c1:(j == NameKind.free)=true:=by
     cases q:(j == NameKind.free) with
     | true=>rfl
     | false=>rw [q] at c;simp at c
    exact .inr ⟨by simpa using c1,(Zd h').symm⟩
   ·rw [if_neg c,Zx,e] at h';exact .inl (Zd h')
  | false =>
   have h':List.lookup x ((if (j == NameKind.free && env.scope.kind == .function && env.kindOf n == some .cell)=true then (n,NameKind.cell) else (n,j)) :: _)=some k:=h;have h2:(List.map (fun (n,k)=>if (k == NameKind.free && env.scope.kind == .function && env.kindOf n == some .cell) then (n,NameKind.cell) else (n,k)) r).lookup x=some k:=by
    by_cases c:(j == NameKind.free && env.scope.kind == .function && env.kindOf n == some .cell)=true
    ·rw [if_pos c,Zx,e] at h';exact h'
    ·rw [if_neg c,Zx,e] at h';exact h'
   obtain ⟨i,m,l,q⟩:=zC2 (sc:=sc) (env:=env) h2;exact ⟨i,Z9 _ m,by rw [Zx,e];exact l,q⟩
section
variable {X:Cx}{sc:Scope}{cl:List (Str×Addr)}{T:List Str}
theorem ScOk.seen (S:ScOk X sc cl T) {C:Addr}{x:Str} (h:(compEnvC sc cl C X.env).scope.names.lookup x=some .cell∨(compEnvC sc cl C X.env).scope.names.lookup x=some .free) :
  (∃ c,cl.lookup x=some c)∧(X.env.scope.names.lookup x=some .cell∨X.env.scope.names.lookup x=some .free):=by
 have key:∀ k,(k=.cell∨k=.free)→(relabel sc X.env).names.lookup x=some k→(∃ c,cl.lookup x=some c)∧(X.env.scope.names.lookup x=some .cell∨X.env.scope.names.lookup x=some .free):=by
  intro k hk h;obtain ⟨j,m,l,q⟩:=zC2 (sc:=sc) (env:=X.env) h;have jf:j=.free:=by
   rcases q with rfl | ⟨q,_⟩
   ·rcases hk with rfl | rfl
    ·exact absurd rfl (S.cell _ m)
    ·rfl
   ·exact q
  subst jf;obtain ⟨a,b⟩:=S.has _ m rfl;exact ⟨Option.isSome_iff_exists.mp a,b⟩
 rcases h with h | h
 ·exact key _ (.inl rfl) h
 ·exact key _ (.inr rfl) h
theorem ScOk.local_out (S:ScOk X sc cl T) {C:Addr}{x:Str} (hx:x∈X.N):(compEnvC sc cl C X.env).scope.names.lookup x≠some .local:=by
 intro h;obtain ⟨j,m,l,q⟩:=zC2 (sc:=sc) (env:=X.env) h;rcases q with rfl | ⟨_,q⟩
 ·exact S.out x hx l
 ·cases q
variable {pins:List (Addr×Obj)}{σ : St}{H:Hp}{s:Shared}{fp:List Addr}{C:Addr}
theorem comp_ok (S:ScOk X sc cl T) (I:Inv X pins σ H s) (hf:∀ b∈fp,FpOk X pins H b) (hl:∀ b∈fp,b < s.heap.objs.size) (hC:s.heap.objs.size≤C):(cxComp X sc cl T C s H fp).Ok where
 mod:=I.ok.mod
 kind:=S.kind
 glob:=I.ok.glob
 blt:=I.ok.blt
 above:=hC
 inj:=fun x y c h1 h2=>I.ok.inj x y c (S.cls.look x c h1) (S.cls.look y c h2)
 has:=fun x hx=>(S.seen hx).1
 cab:=fun x c h=>by cases h
 hd:=I.ok.hd
 frames:=I.ok.frames
 stk:=.inl rfl
 exf:=fun b hb=>⟨Z4 (Z3 (hl b hb) hC),fun x c h=>(hf b hb).2.2.2.2.1 x c (S.cls.look x c h)⟩
 bs:=I.bs
 bsz:=Zs I.ok.bsz I.sz
 noex:=fun b o e hb=>by
  rcases (hf b hb).2.2.2.1 with z | z
  ·exact I.ok.noex b o e z
  ·exact absurd (Z3 (Z2 e) (Zs I.ok.bsz z)) (Zy _)
 exfs:=fun b hb z=>by
  rcases List.mem_cons.mp (I.stkSub b z) with e | e
  ·exact (hf b hb).2.1 e
  ·exact (hf b hb).2.2.1 e
 funs:=I.stack
 frf:=I.stkFree
theorem comp_inv (S:ScOk X sc cl T) (I:Inv X pins σ H s) (hf:∀ b∈fp,FpOk X pins H b) (hl:∀ b∈fp,b < s.heap.objs.size) (hC:s.heap.objs.size≤C) {h1:Heap}{m:Str→Option Value}{t1:Nat}
  (k:∀ b o,s.heap.get? b=some o→h1.get? b=some o) (hn:h1.Ns C m):Inv (cxComp X sc cl T C s H fp) [] (σ++List.replicate T.length none) H { s with heap:=h1,toks:=t1 } where
 ok:=comp_ok S I hf hl hC
 os:=rfl
 bare:=I.bare
 base:=Un.kept k
 loc:=by
  refine ⟨m,hn,fun i x v e1 e2 e3=>?_⟩;have hi:i < σ.length:=by
   by_cases hi:i < σ.length
   ·exact hi
   ·rw [Zt (Nat.not_lt.mp hi),List.getElem?_replicate] at e2;split at e2 <;> cases e2
  rw [Zp hi] at e2;have e1':X.N[i]? = some x:=by
   have e:(X.N++T)[i]? = some x:=e1
   rwa [Zp (by rw [← I.len];exact hi)] at e
  have hx:x∈X.N:=Za e1';have e3':(compEnvC sc cl C X.env).scope.names.lookup x=some .cell∨(compEnvC sc cl C X.env).scope.names.lookup x=some .free:=by
   rcases e3 with z | z | z
   ·exact absurd z (S.local_out hx)
   ·exact .inl z
   ·exact .inr z
  obtain ⟨⟨c,hc⟩,ko⟩:=S.seen e3';obtain ⟨m0,hn0,hl0⟩:=I.loc;obtain ⟨u,r,l⟩:=hl0 i x v e1' e2 (.inr ko);refine ⟨u,r,.inr ⟨e3',c,hc,?_⟩⟩;have hc':=S.cls.look x c hc;rcases l with ⟨kl,_⟩ | ⟨_,c',hc2,z⟩
  ·have kl':X.env.scope.names.lookup x=some .local:=kl;rcases ko with q | q
   ·rw [q] at kl';cases kl'
   ·rw [q] at kl';cases kl'
  ·rw [hc'] at hc2;cases hc2;obtain ⟨o,ho,hd⟩:=z;exact ⟨o,k _ _ ho,hd⟩
 cell:=fun x c hc=>by
  obtain ⟨v,o,ho,hd⟩:=I.cell x c (S.cls.look x c hc);exact ⟨v,o,k _ _ ho,hd⟩
 free:=I.hok.fresh hC
 freeC:=fun x c hc=>I.freeC x c (S.cls.look x c hc)
 pin:=fun p hp=>absurd (show p∈([]:List (Addr×Obj)) from hp) (by simp)
 hok:=I.hok.kept k
 len:=by
  show (σ++List.replicate T.length none).length=(X.N++T).length;rw [Zb,Zb,List.length_replicate,I.len]
theorem comp_out (S:ScOk X sc cl T) (I:Inv X pins σ H s) (hf:∀ b∈fp,FpOk X pins H b) {D:Addr} (hD:s.heap.objs.size≤D) (hC:s.heap.objs.size≤C) (hDC:D≠C) {s1:Shared}{H1:Hp}{σ1:St}{p1:List (Addr×Obj)}{ys:List V}{its:List Value}
  (J:Inv (cxComp X sc cl T C s H fp) p1 σ1 H1 s1) (hH:H1 D=none) (rv:Vals ys its) (hz:ys.length≤sizeLine) (hget:s1.heap.get? D=some (LCg.lst its)) :
  Inv X pins σ (upd H1 D (.lst ys)) s1:=by
 have fD:H D=none:=I.hok.fresh hD;have nD:∀ b o,s.heap.get? b=some o→b≠D:=fun b o e=>Z4 (Z3 (Z2 e) hD);refine I.call' (ch:=fp) J.os ⟨fun b o e n hb hx=>J.base.keep b o e n hb hx,fun b o e n hb hx=>J.base.slot b o e n hb hx,fun b o e n hx=>?_,fun b o e hx=>J.base.there b o e hx,fun b xs e=>?_,fun b o u e=>?_,fun b ps e=>?_⟩ (fun b u e=>?_) J.bare fun b hb=>⟨(hf b hb).2.2.2.1,(hf b hb).2.1,(hf b hb).2.2.2.2.1,(hf b hb).2.2.2.2.2⟩
 ·rw [zA9 (nD b o e)];exact J.base.free b o e n hx
 ·rw [zA9 (zA6 e fD)];exact J.base.tups b xs e
 ·rw [zA9 (zA6 e fD)];exact J.base.frzs b o u e
 ·rw [zA9 (zA6 e fD)];exact J.base.tbls b ps e
 ·by_cases hb:b=D
  ·subst hb;rw [zA2] at e;cases e;exact ⟨hz,its,its.length,rv,hget⟩
  ·rw [zA9 hb] at e;exact (J.hok b u e).stay (fun c v _ q=>q) (fun c q=>by rw [zA9 (zA6 q hH)];exact q) fun c xs q=>by rw [zA9 (zA6 q hH)];exact q
end
noncomputable def CompGoal (J:It) (k:Nat) (σ : St) (H1:Hp) (g:TG) (tt:TT) (te:TE) (Q:VK):Prop:=∃ W:Nat→Nat→List V→Hp→Prop,(∃ m,W 0 m [] H1)∧∀ i m ys H,W i m ys H →
 (J.stop i H∧ys.length≤sizeLine∧∀ p,H p=none→Q (.ref p) (upd H p (.lst ys))) ∨
 (J.go i H∧ys.length≤sizeLine∧∀ x H',J.yld i H x H'→g x (σ++List.replicate k none) H' fun σ2 H2=>tt σ2 H2 fun b H3 =>
  if b=true then te σ2 H3 fun y H4=>∃ m',m' < m∧W (i + 1) m' (ys++[y]) H4 else ∃ m',m' < m∧W (i + 1) m' ys H3)
noncomputable def tComp (k:Nat) (wi:TI) (g:TG) (tt:TT) (te:TE):TE:=fun σ H Q=>wi σ H fun J H1=>CompGoal J k σ H1 g tt te Q
section
variable {X:Cx}{elt tg iter:Expr}{ifs:List Expr}{sc:Scope}{pos:Pos}{cl:List (Str×Addr)}{T:List Str}{wi:TI}{g:TG}{tt:TT}{te:TE}
theorem zBz {pins:List (Addr×Obj)}{σ : St}{s2:Shared}{H2:Hp}{Q:VK}{E:Value→Shared→Prop}{R:Value→Addr→Result→Shared→Prop}{it:Addr}{fp:List Addr}{tn:Nat→Heap→Prop}{J:It}
  {Φ : Cx→Prop} (hc:∀ C s H fp,Φ (cxComp X sc cl T C s H fp)) (S:ScOk X sc cl T)
  (hg:∀ C s H fp,PG (cxComp X sc cl T C s H fp) tg g) (hf:∀ C s H fp,PFs (cxComp X sc cl T C s H fp) ifs tt) (he:∀ C s H fp,PE (cxComp X sc cl T C s H fp) elt te)
  (I:Inv X pins σ H2 s2) (TT':TurnP Φ X.prog X.w X.K tg J fp it tn) (st:tn 0 s2.heap) (f2:∀ b∈fp,FpOk X pins H2 b)
  (W:Nat→Nat→List V→Hp→Prop) (m0:Nat) (w0:W 0 m0 [] H2)
  (turn:∀ i m ys H,W i m ys H→(J.stop i H∧ys.length≤sizeLine∧∀ p,H p=none→Q (.ref p) (upd H p (.lst ys))) ∨
   (J.go i H∧ys.length≤sizeLine∧∀ x H',J.yld i H x H'→g x (σ++List.replicate T.length none) H' fun σ2 H2=>tt σ2 H2 fun b H3 =>
    if b=true then te σ2 H3 fun y H4=>∃ m',m' < m∧W (i + 1) m' (ys++[y]) H4 else ∃ m',m' < m∧W (i + 1) m' ys H3))
  (hR:∀ (D C:Addr) (s1:Shared) (H1:Hp) (m:Str→Option Value),Inv X pins σ H1 s1→H1 C=none→C≠X.env.locals→X.s₀.heap.objs.size≤C→(∀ x c,X.env.cells.lookup x=some c→c≠C)→(∀ p∈X.pn++pins,p.1≠C) →
   s1.heap.Ns C m→Q (.ref D) H1→R (.ref D) C (.ok .next) s1) :
  wpAny (model X.prog X.w) X.A (newList []) (fun acc s₃=>wpAny (model X.prog X.w) X.A (newFunctionEnv sc X.env.globals cl [] X.env.qual none .none (some X.env)) (fun cenv s₄ =>
   codeAny (model X.prog X.w) X.A (.compStart (.ListComp elt [⟨tg,iter,ifs,0⟩] sc pos) 0 (.ref it) acc { cenv with scope:=relabel sc X.env }) (R acc cenv.locals) s₄) E s₃) E s2:=by
 refine wpAny_newObj_type (wpAny_newFunctionEnv S.cell (by intro y hy;simp at hy) (fun h1 hn1 sb1=>?_) S.kind);dsimp only at hn1 sb1 ⊢;generalize hH:s2.heap.push { cls:=.type "list",dict:=none,data:=.seq ([]:List Value).toArray }=G at hn1 sb1 ⊢;have hC:G.objs.size=s2.heap.objs.size + 1:=by rw [← hH,Y6]
 have hDC:s2.heap.objs.size≠G.objs.size:=by rw [hC];exact Z4 (Nat.lt_succ_self _)
 have hCle:s2.heap.objs.size≤G.objs.size:=by rw [hC];exact Nat.le_succ _
 have old:∀ b o,s2.heap.get? b=some o→h1.get? b=some o:=fun b o e=>by
  exact sb1.extBut b o (Z4 (Z3 (Z2 e) hCle)) (Z0 _ (hH ▸ Z0 _ e))
 have hacc:h1.get? s2.heap.objs.size=some (LCg.lst []):=sb1.extBut _ _ hDC (Z0 _ (hH ▸ Z7 _ rfl));have fl:∀ b∈fp,b < s2.heap.objs.size:=fun b hb=>by
  obtain ⟨o,e,_⟩:=TT'.obj _ _ st b hb;exact Z2 e
 have DS:s2.heap.objs.size∉frs X.stack:=fun z=>by
  rcases List.mem_cons.mp (I.stkSub _ z) with e | e
  ·exact Z4 I.lt e.symm
  ·exact I.nofs (Z5 _) e
 have keepT:∀ (i:Nat) (h h':Heap),tn i h→(∀ b o,b < s2.heap.objs.size→h.get? b=some o→h'.get? b=some o)→tn i h':=fun i h h' z k=>TT'.keep i h h' z fun b hb o e=>k b o (fl b hb) e;have fpo:∀ {H':Hp}{pl:List (Addr×Obj)},(∀ b∈fp,H' b=none)→(∀ p∈pl,s2.heap.objs.size≤p.1)→∀ b∈fp,FpOk (cxComp X sc cl T G.objs.size s2 H2 fp) pl H' b:=fun {H' pl} hn hp b hb=>by
  refine ⟨hn b hb,fun z=>?_,fun z=>?_,.inl hb,fun x c h=>(f2 b hb).2.2.2.2.1 x c (S.cls.look x c h),fun p hp' z=>?_⟩
  ·exact Z4 (Z3 (fl b hb) hCle) z
  ·rcases List.mem_cons.mp (I.stkSub b z) with e | e
   ·exact (f2 b hb).2.1 e
   ·exact (f2 b hb).2.2.1 e
  ·exact Z4 (Z3 (fl b hb) (hp p (show p∈pl from hp'))) z.symm
 let Y:=cxComp X sc cl T G.objs.size s2 H2 fp
 have loop:∀ z:Shared,z={ s2 with heap:=h1,toks:=s2.toks + ([]:List (Str×Value)).length } →
   codeAny (model X.prog X.w) X.A (.compLoop (.ListComp elt [⟨tg,iter,ifs,0⟩] sc pos) 0 (.ref it) (.ref s2.heap.objs.size) (compEnvC sc cl G.objs.size X.env)) (R (.ref s2.heap.objs.size) G.objs.size) z:=by
  rintro z rfl;refine comp_loop (fun n z=>∃ i ys its H',Inv Y [] (σ++List.replicate T.length none) H' z∧tn i z.heap∧(∀ b∈fp,H' b=none)∧H' s2.heap.objs.size=none∧Vals ys its∧z.heap.get? s2.heap.objs.size=some (LCg.lst its)∧W i n ys H') _ rfl ?_ m0
   ⟨0,[],[],H2,comp_inv S I f2 fl hCle old hn1,TT'.keep _ _ _ st fun b hb o e=>old b o e,fun b hb=>(f2 b hb).1,I.hok.fresh (Z5 _),.nil,hacc,w0⟩
  rintro n z ⟨i,ys,its,H',IY,stz,frz,fD,rv,hget,wz⟩;have IP:Inv Y [(s2.heap.objs.size,LCg.lst its)] (σ++List.replicate T.length none) H' z:=IY.pins_of fun p hp=>by
   have e:p=(s2.heap.objs.size,LCg.lst its):=by simpa using hp
   subst e;exact ⟨hget,fD,hDC,DS,fun v q=>by cases (show Data.seq _ _=Data.cell v from q)⟩
  have hpl:∀ p∈[(s2.heap.objs.size,LCg.lst its)],s2.heap.objs.size≤p.1:=fun p hp=>by
   have e:p=(s2.heap.objs.size,LCg.lst its):=by simpa using hp
   subst e;exact Z5 _
  rcases turn i n ys H' wz with ⟨stop,hz,q⟩ | ⟨go,hz,step⟩
  ·refine thn (TT'.done Y rfl rfl rfl (hc _ _ _ _) i _ z _ H' _ IP (fpo frz hpl) stz stop) fun r z1 ⟨hr,I1⟩=>?_;subst hr;have g1:z1.heap.get? s2.heap.objs.size=some (LCg.lst its):=(I1.pin (s2.heap.objs.size,LCg.lst its) (by simp [Y,cxComp])).1;obtain ⟨mC,hnC,_⟩:=I1.loc;have out:=comp_out S I f2 (Z5 _) hCle hDC I1 fD rv hz g1;refine hR _ _ z1 _ mC out ?_ ?_ ?_ ?_ ?_ hnC (q _ fD)
   ·rw [zA9 (Ne.symm hDC)];exact I1.free
   ·exact (Z4 (Z3 I.lt hCle)).symm
   ·exact Zs I.sz hCle
   ·intro x c hcc;obtain ⟨v,zc⟩:=I.cell x c hcc;exact Z4 (Z3 zc.lt hCle)
   ·intro p hp;exact Z4 (Z3 (Z2 (I.pin p hp).1) hCle)
  ·refine thn (TT'.item Y rfl rfl rfl (hc _ _ _ _) i _ z _ H' _ IP (fpo frz hpl) stz go) fun r z1 ⟨u,hr,h1'⟩=>?_;subst hr;refine thn h1' fun _ z2 ⟨x,H3,I3,r3,y3,st3,fr3⟩=>?_;have I3':=I3.pinned (fpo fr3 hpl) (TT'.obj _ _ st3);have fin:∀ {H':Hp}{σ':St}{z':Shared},Inv Y ([(s2.heap.objs.size,LCg.lst its)]++pinsAt fp z2.heap) σ' H' z'→tn (i + 1) z'.heap∧(∀ b∈fp,H' b=none)∧H' s2.heap.objs.size=none∧z'.heap.get? s2.heap.objs.size=some (LCg.lst its):=fun {H' σ' z'} I'=>by
    have a1:∀ b∈fp,∀ o,z2.heap.get? b=some o→z'.heap.get? b=some o∧H' b=none:=fun b hb o e =>
     let p:=I'.pin (b,o) (Zi _ (Zi _ (zC4 hb e)))
     ⟨p.1,p.2.1⟩
    have a2:=I'.pin (s2.heap.objs.size,LCg.lst its) (Zi _ (by simp))
    exact ⟨TT'.keep _ _ _ st3 fun b hb o e=>(a1 b hb o e).1,fun b hb=>by
     obtain ⟨o,e,_⟩:=TT'.obj _ _ st3 b hb
     exact (a1 b hb o e).2,a2.2.1,a2.1⟩
   have bare:∀ {H':Hp}{σ':St}{z':Shared},Inv Y ([(s2.heap.objs.size,LCg.lst its)]++pinsAt fp z2.heap) σ' H' z'→Inv Y [] σ' H' z':=fun I'=>I'.pins_of fun p hp=>absurd hp (by simp);refine wpAny_mono (hg G.objs.size s2 H2 fp _ z2 _ H3 x u _ I3' r3 (step x H3 y3)) (fun _ z3 ⟨σ4,H4,I4,q4⟩=>?_) fun _ _ e=>e.elim;refine wpAny_mono (hf G.objs.size s2 H2 fp _ z3 _ H4 _ I4 q4) (fun ok z4 ⟨H5,I5,q5⟩=>?_) fun _ _ e=>e.elim;have lenσ : ∀ {H':Hp}{σ':St}{z':Shared}{pl},Inv Y pl σ' H' z'→(σ++List.replicate T.length none).length = σ'.length:=fun I'=>by rw [I'.len];exact IY.len
   have weak:∀ {H':Hp}{z':Shared},Inv Y [] σ4 H' z'→Inv Y [] (σ++List.replicate T.length none) H' z':=fun {H' z'} I'=>by
    have c0:=comp_inv (T:=T) (t1:=z'.toks) S I f2 fl hCle old hn1;obtain ⟨m',hn',hl'⟩:=I'.loc;obtain ⟨_,_,hl0⟩:=I.loc;refine ⟨I'.ok,I'.os,I'.bare,I'.base,⟨m',hn',fun j x v e1 e2 e3=>?_⟩,I'.cell,I'.free,I'.freeC,I'.pin,I'.hok,(lenσ I').trans I'.len⟩;have hj:j < σ.length:=by
     by_cases hj:j < σ.length
     ·exact hj
     ·rw [Zt (Nat.not_lt.mp hj),List.getElem?_replicate] at e2;split at e2 <;> cases e2
    have e2':=e2;rw [Zp hj] at e2';have e1':X.N[j]? = some x:=by
     have e:(X.N++T)[j]? = some x:=e1
     rwa [Zp (by rw [← I.len];exact hj)] at e
    have hx:x∈X.N:=Za e1';have e3':(compEnvC sc cl G.objs.size X.env).scope.names.lookup x=some .cell∨(compEnvC sc cl G.objs.size X.env).scope.names.lookup x=some .free:=by
     rcases e3 with z | z | z
     ·exact absurd z (S.local_out hx)
     ·exact .inl z
     ·exact .inr z
    obtain ⟨⟨c,hc'⟩,ko⟩:=S.seen e3';obtain ⟨u,r,l⟩:=hl0 j x v e1' e2' (.inr ko);have hcX:=S.cls.look x c hc';refine ⟨u,r,.inr ⟨e3',c,hc',?_⟩⟩;rcases l with ⟨kl,_⟩ | ⟨_,c',hc2,zc⟩
    ·have kl':X.env.scope.names.lookup x=some .local:=kl;rcases ko with q | q
     ·rw [q] at kl';cases kl'
     ·rw [q] at kl';cases kl'
    ·rw [hcX] at hc2;cases hc2;obtain ⟨o,ho,hd⟩:=zc;have nfp:c∉fp:=fun hb=>(f2 c hb).2.2.2.2.1 x c hcX rfl;obtain ⟨sl,e⟩:=I'.base.any ho (I.freeC x c hcX) nfp;exact ⟨_,e,hd⟩
   cases ok with
   | false =>
    rw [if_neg Ze] at q5 ⊢;obtain ⟨m',hm,w'⟩:=q5;obtain ⟨b1,b2,b3,b4⟩:=fin I5;exact ⟨m',hm,i + 1,ys,its,H5,weak (bare I5),b1,b2,b3,rv,b4,w'⟩
   | true =>
    rw [if_pos rfl] at q5 ⊢;refine wpAny_mono (he G.objs.size s2 H2 fp _ z4 _ H5 _ I5 q5) (fun y z5 ⟨yv,H6,I6,r6,q6⟩=>?_) fun _ _ e=>e.elim;obtain ⟨m',hm,w'⟩:=q6;obtain ⟨b1,b2,b3,b4⟩:=fin I6;refine append_at (hsz:=by show its.toArray.size≤sizeLine;rw [Z6,← rv.length];exact hz) b4 fun h6 sb6 g6=>?_
    have I7:Inv Y [] (σ++List.replicate T.length none) H6 { z5 with heap:=h6 }:=(weak (bare I6)).turned (t':=z5.toks) (it:=s2.heap.objs.size) (fun b o hb e=>(sb6.2 b hb).trans e) b3 hDC (.inr (Z5 _)) (fun x c h=>by
     obtain ⟨v,zc⟩:=I.cell x c (S.cls.look x c h)
     exact Z4 zc.lt) fun p hp=>absurd (show p∈([]:List (Addr×Obj)) from hp) (by simp)
    refine ⟨m',hm,i + 1,ys++[yv],its++[y],H6,I7,keepT _ _ _ b1 fun b o hb e=>(sb6.2 b (Z4 hb)).trans e,b2,b3,rv.append (.cons r6 .nil),g6.trans (congrArg some (LCg.lst_snoc its y)),w'⟩
 exact codeAny_compStart_list (loop _ rfl) (TT'.self _ 0 _ _ _ (TT'.keep _ _ _ st fun b hb o e=>old b o e) (loop _ rfl))
theorem zAw (hc:X.calm=true) (S:ScOk X sc cl T) (hi:PI X tg iter wi)
  (hg:∀ C s H fp,PG (cxComp X sc cl T C s H fp) tg g) (hf:∀ C s H fp,PFs (cxComp X sc cl T C s H fp) ifs tt) (he:∀ C s H fp,PE (cxComp X sc cl T C s H fp) elt te)
  (hs:∀ x,foldedSetIterable iter X.env x=pure x:=by intro _;rfl):PE X (.ListComp elt [⟨tg,iter,ifs,0⟩] sc pos) (tComp T.length wi g tt te):=by
 intro pins s σ H Q I h;rw [eval_ListComp];refine wpAny_comprehension_free (use:=none) rfl hs S.clos S.kind S.names (thn (hi pins s σ H _ I h) fun v s1 h1=>thn h1 fun itv s2 h2=>?_);obtain ⟨it,fp,tn,J,H2,e,I2,TT',st2,f2,W,⟨m0,w0⟩,turn⟩:=h2;subst e;refine zBz (Q:=Q) (fun _ _ _ _=>hc) S hg hf he I2 TT' st2 f2 W m0 w0 turn fun D C z H1 m I1 n1 n2 n3 n4 n5 hn q=>?_;exact ⟨m,hn,fun h' sb=>⟨.ref D,H1,I1.turned (t':=z.toks) (it:=C) (fun b o hb e=>(sb.2 b hb).trans e) n1 n2 (.inr n3) n4 n5,rfl,q⟩⟩
theorem zBg {i:Nat}{y:Str}{py spos:Pos} (hc:X.calm=true) (S:ScOk X sc cl T) (hi:PI X tg iter wi)
  (hg:∀ C s H fp,PG (cxComp X sc cl T C s H fp) tg g) (hf:∀ C s H fp,PFs (cxComp X sc cl T C s H fp) ifs tt) (he:∀ C s H fp,PE (cxComp X sc cl T C s H fp) elt te)
  (hN:X.N.Nodup) (hix:X.N[i]? = some y) (hx:X.env.scope.names.lookup y=some .local)
  (hsw:swapsWith (.ListComp elt [⟨tg,iter,ifs,0⟩] sc pos) (some (.Name y py)) spos.line X.env=pure true)
  (hs:∀ x,foldedSetIterable iter X.env x=pure x:=by intro _;rfl) :
  PS X (.Assign [.Name y py] (.ListComp elt [⟨tg,iter,ifs,0⟩] sc pos) spos) (tAsg (tComp T.length wi g tt te) (gName i)):=by
 intro pins s σ H D I h;rw [exec_Assign_Name_used _ _ _ _ hsw];refine wpAny_bind (wpAny_standAt (wpAny_bind ?_));show wpAny _ X.A (do let _ ← comprehension (.ListComp elt [⟨tg,iter,ifs,0⟩] sc pos) sc X.env _ (newList []) false (eval iter X.env) (some (assign (.Name y py) X.env))) _ _ s;refine wpAny_bind (thn (wpAny_comprehension_free (use:=some (assign (.Name y py) X.env)) (Q:=fun _ s'=>SP X pins D .next s') rfl hs S.clos S.kind S.names (thn (hi pins s σ H _ I h) fun v s1 h1=>thn h1 fun itv s2 h2=>?_)) fun _ s' hq=>wpAny_pure (wpAny_pure hq));obtain ⟨it,fp,tn,J,H2,e,I2,TT',st2,f2,W,⟨m0,w0⟩,turn⟩:=h2;subst e;refine zBz (Q:=fun x H1=>gName i x σ H1 D.nx) (fun _ _ _ _=>hc) S hg hf he I2 TT' st2 f2 W m0 w0 turn fun A C z H1 m I1 n1 n2 n3 n4 n5 hn q=>?_;show wpAny _ X.A (assign (.Name y py) X.env (.ref A)) _ _ z;refine wpAny_assign_Name (store_ok2 (v:=.ref A) I1 hN hix (.inl hx) rfl (fun z' I' ⟨a,sb,ha⟩=>?_) (.inr hx));have hCa:C≠a:=by
  rcases ha with e | e
  ·rw [e];exact n2
  ·exact (n4 y a e).symm
 refine ⟨m,hn.sameBut sb hCa,fun h' sb'=>⟨_,H1,I'.turned (t':=z'.toks) (it:=C) (fun b o hb e=>(sb'.2 b hb).trans e) n1 n2 (.inr n3) n4 n5,q⟩⟩
end
end L2
namespace L2
open PySem PySem.Spec PyProof.Rows
section
variable {X:Cx}
theorem v1 {x:V}{us:List Value} (r:Vals [x] us):∃ u,us=[u]∧RelV x u:=by
 cases r with
 | cons a b=>cases b;exact ⟨_,rfl,a⟩
theorem v2 {x y:V}{us:List Value} (r:Vals [x,y] us):∃ u v,us=[u,v]∧RelV x u∧RelV y v:=by
 cases r with
 | cons a b =>
  cases b with
  | cons c d=>cases d;exact ⟨_,_,rfl,a,c⟩
theorem zAr:CallR X (.builtin "isinstance") (fun xs H Q=>∃ x c t cv b,xs=[x,c]∧TyOf X.K H x t∧RelV c cv∧PySem.W.kitOne X.K t cv=some b∧Q (.bl b) H):=by
 intro pins s σ H xs us Q I r h;obtain ⟨x,c,t,cv,b,rfl,ty,rc,e,q⟩:=h;obtain ⟨u,v,rfl,ru,rv⟩:=v2 r;have hv:v=cv:=by
  cases c with
  | non=>exact (show v=Value.none from rv).trans (show cv=Value.none from rc).symm
  | bl z=>exact (show v=Value.bool z from rv).trans (show cv=Value.bool z from rc).symm
  | int i =>
   obtain ⟨t1,rfl⟩:=rc;exact absurd e (by unfold PySem.W.kitOne;cases ty <;> simp [PySem.W.kitCls])
  | str i =>
   obtain ⟨t1,rfl⟩:=rc;exact absurd e (by unfold PySem.W.kitOne;cases ty <;> simp [PySem.W.kitCls])
  | byt i =>
   obtain ⟨t1,rfl⟩:=rc;exact absurd e (by unfold PySem.W.kitOne;cases ty <;> simp [PySem.W.kitCls])
  | flt i =>
   obtain ⟨t1,rfl⟩:=rc;exact absurd e (by unfold PySem.W.kitOne;cases ty <;> simp [PySem.W.kitCls])
  | ref a=>exact (show v=Value.ref a from rv).trans (show cv=Value.ref a from rc).symm
  | ty n=>exact (show v=Value.type n from rv).trans (show cv=Value.type n from rc).symm
 subst hv;exact isinst_ok I ru ty e fun tk=>⟨.bl b,H,I.tok tk,rfl,q⟩
theorem bools_get:∀ {bs:List Bool}{us:List Value}{i:Nat}{v:Value},Vals (bs.map V.bl) us→us[i]? = some v→∃ b,bs[i]? = some b∧v=Value.bool b
 | [],_,i,v,.nil,h=>by simp at h
 | b :: r,_,0,v,.cons a t,h=>by
  simp at h;subst h;exact ⟨b,rfl,a⟩
 | b :: r,_,i + 1,v,.cons a t,h=>by
  obtain ⟨b',e,q⟩:=bools_get (bs:=r) (i:=i) t (by simpa using h);exact ⟨b',by simpa using e,q⟩
theorem all_range:∀ (bs:List Bool),((List.range bs.length).all fun i=>(bs[i]?).getD true)=bs.all id
 | []=>rfl
 | b :: r=>by
  rw [Z8,List.range_succ_eq_map,Yd,List.all_map,Yd];have e:=all_range r;simp only [Function.comp_def,List.getElem?_cons_succ,List.getElem?_cons_zero,Y4,id] at *;rw [← e]
theorem zC0 (hc:X.calm=true):CallR X (.builtin "all") (fun xs H Q=>∃ (p:Addr) (bs:List Bool),xs=[.ref p]∧SqL X.K H p (bs.map V.bl)∧Q (.bl (bs.all id)) H):=by
 intro pins s σ H xs us Q I r h;obtain ⟨p,bs,rfl,hp,q⟩:=h;obtain ⟨u,rfl,ru⟩:=v1 r;cases (show u=Value.ref p from ru);obtain ⟨its,rv,pl,hz⟩:=I.list hp;have hl:=pl.isList;have hlt:p < s.heap.objs.size:=by obtain ⟨_,e,_⟩:=hl;exact Z2 e
 have hlen:its.length=bs.length:=by rw [← rv.length,Z1]
 refine call_all_walk (wpAny_pyIter_list hl ?_)
 refine ⟨s.heap.objs.size,[s.heap.objs.size,p],[s.heap.objs.size],its.toArray.size,_,_,fun i=>(bs[i]?).getD true,rfl,Walks.list (A:=X.A.in1) (I.ok.hd hc) _ p (Z4 hlt) its.toArray,
  ⟨⟨_,Z7 _ rfl,rfl,rfl⟩,hl.push _⟩,fun i v s' Q' E' hP hQ=>?_,fun h' tk hk=>?_⟩
 ·obtain ⟨b,e,rfl⟩:=bools_get rv (by simpa using hP);simp only [e,Y4] at hQ;exact wpAny_truthy_bool hQ
 ·rw [Z6,hlen,all_range];exact ⟨.bl _,H,I.kept (t':=tk) fun b o e=>hk b o (fun hm=>by rw [List.mem_singleton.mp hm] at e;exact Zy _ (Z2 e)) (Z0 _ e),rfl,q⟩
noncomputable def Its (x:Str):It:=⟨fun i _=>i < x.length,fun i H v H'=>H'=H∧∃ c,x.cps[i]? = some c∧v=.str ⟨#[c]⟩,fun i _=>x.length≤i⟩
noncomputable def iStr (tl:TE):TI:=fun σ H R=>tl σ H fun v H1=>∃ x,v=.str x∧R (Its x) H1
theorem turn_str {P:Program}{w:World}{K:PySem.W.Frag}{y:Str}{py:Pos}{x:Str}{it:Addr}{St:Nat→Heap→Prop} (ho:∀ i h,St i h→∃ o,h.get? it=some o∧∀ v,o.data≠.cell v)
  (W:∀ A':Around,A'.handled=none→Walks P w A' it [it] [it] x.cps.size (SignAt x) St) (hself:∀ (A:Around) (i:Nat) (s:Shared) (Q:Value→Shared→Prop) (E:Value→Shared→Prop),St i s.heap→Q (.ref it) s→wpAny (model P w) A (pyIter (.ref it)) Q E s)
  (hst:∀ i h,St i h→i≤x.cps.size→True):Turn P w K (.Name y py) (Its x) [it] it (fun i h=>i≤x.cps.size∧St i h) where
 mem:=by simp
 obj:=fun i h st b hb=>by
  have e:b=it:=by simpa using hb
  subst e;exact ho i h st.2
 keep:=fun i h h' st k=>⟨st.1,(W { callerA with handled:=none } rfl).frame i h h' st.2 k⟩
 item:=by
  intro X hP hw hK hc i pins s σ H E I hf st hg;subst hP hw hK;obtain ⟨f0,f1,f2,f3,f4,f5⟩:=hf it (by simp);refine (W X.A (I.ok.hd hc)).item i s _ _ hg st.2 fun v h' tk hv st' kk=>?_;obtain ⟨c,u,hc',rfl⟩:=hv;have I1:Inv X pins σ H { s with heap:=h',toks:=tk }:=I.turned (fun b o hb e=>kk b o (by simpa using hb) e) f0 f1 f3 f4 f5;exact ⟨_,rfl,wpAny_pure ⟨.str ⟨#[c]⟩,H,I1,⟨u,rfl⟩,⟨rfl,c,hc',rfl⟩,⟨hg,st'⟩,fun b hb=>(hf b hb).1⟩⟩
 done:=by
  intro X hP hw hK hc i pins s σ H E I hf st hg;subst hP hw hK;obtain ⟨f0,f1,f2,f3,f4,f5⟩:=hf it (by simp);have e:i=x.cps.size:=Nat.le_antisymm st.1 hg;have st2:=st.2;rw [e] at st2;exact (W X.A (I.ok.hd hc)).done s _ _ st2 fun h' tk kk=>⟨rfl,I.turned (fun b o hb e=>kk b o (by simpa using hb) e) f0 f1 f3 f4 f5⟩
 self:=fun A i s Q E st h=>hself A i s Q E st.2 h
theorem pi_str {y:Str}{py:Pos}{l:Expr}{tl:TE} (hl:PE X l tl):PI X (.Name y py) l (iStr tl):=by
 intro pins s σ H R I h;refine thn (hl pins s σ H _ I h) fun v s1 ⟨x,H1,I1,r1,q1⟩=>?_;obtain ⟨z,rfl,q⟩:=q1;obtain ⟨t,rfl⟩:=r1;have fin:∀ {o:Obj}{St:Nat→Heap→Prop},Turn X.prog X.w X.K (.Name y py) (Its z) [s1.heap.objs.size] s1.heap.objs.size St→St 0 (s1.heap.push o)→PIE X pins σ (.Name y py) R (.ref s1.heap.objs.size) { s1 with heap:=s1.heap.push o }:=fun {o St} T st=>by
  refine ⟨s1.heap.objs.size,[s1.heap.objs.size],St,_,H1,rfl,I1.kept (t':=s1.toks) fun b o e=>Z0 _ e,T,st,fun b hb=>?_,q⟩;have e:b=s1.heap.objs.size:=by simpa using hb
  subst e;exact I1.fpOk (Z5 _) (I1.hok.fresh (Z5 _))
 cases ha:z.cps.all (· < 128)
 ·refine wpAny_pyIter_wide ha (fin (turn_str (fun i h st=>?_) (fun A' hA=>Walks.strWide hA _ z t) (fun A i s Q E st h=>wpAny_pyIter_striter_wide st h) fun _ _ _ _=>trivial) ⟨Zv _,⟨_,Z7 _ rfl,rfl,rfl⟩⟩);obtain ⟨o,e,c,d⟩:=st;exact ⟨o,e,fun v q=>by rw [d] at q;cases q⟩
 ·refine wpAny_pyIter_ascii ha (fin (turn_str (fun i h st=>?_) (fun A' hA=>Walks.strAscii hA _ z t) (fun A i s Q E st h=>wpAny_pyIter_striter_ascii st h) fun _ _ _ _=>trivial) ⟨Zv _,⟨_,Z7 _ rfl,rfl,rfl⟩⟩);obtain ⟨o,e,c,d⟩:=st;exact ⟨o,e,fun v q=>by rw [d] at q;cases q⟩
end
section
variable {X:Cx}{CX:CXT}{k:Nat}{f C:Addr}{fd:FuncData}{ps ks:List Str}{sp:Sp}{E:St→XK}{x:Str}{p pos:Pos}{e:Expr}{es:List Expr}{kws:List Keyword}{t tk:TA}{g:List Value→List Value→List Value}{gV:List V→List V→List V}
end
end L2
namespace L2
open PySem PySem.Spec PyProof.Rows
theorem log2_lt64 {j:Int} (h0:0 < j) (h1:j < 2 ^ 64):j.natAbs.log2 < 9000:=by
 have:j.natAbs < 2 ^ 64:=by omega
 have h:j.natAbs.log2 < 64:=(Nat.log2_lt (by omega)).mpr this;omega
noncomputable def CDivB (i j:Int):Prop:=0 < j∧j < 2 ^ 64
theorem op_fdivB {X:Cx}:OpR X (binaryOp .FloorDiv) (rI CDivB fun i j=>.int (i / j)):=opI fun i j _ _ _ _ _ hc q=>by
 have h1:(0:Int) < j:=hc.1;exact floordiv_int (by omega) (by rw [Int.fdiv_eq_ediv_of_nonneg i (by omega)];exact q) (.inl (PyProof.noPylong_of_log2 (log2_lt64 hc.1 hc.2)))
mutual
inductive Has (G:Addr→Prop) (H:Hp):V→PyData→Prop where
 | non:Has G H .non .none
 | bl (b:Bool):Has G H (.bl b) (.bool b)
 | int (i:Int):Has G H (.int i) (.int i)
 | str (x:Str) (hx:x.length≤1000) (ho:PyData.strOk x=true):Has G H (.str x) (.str x)
 | lst {a:Addr}{xs:List V}{ds:List PyData}:G a→H a=some (.lst xs)→xs.length≤1000→HasAll G H xs ds→Has G H (.ref a) (.list ds)
 | tup {a:Addr}{xs:List V}{ds:List PyData}:G a→H a=some (.tup xs)→xs.length≤1000→HasAll G H xs ds→Has G H (.ref a) (.tuple ds)
inductive HasAll (G:Addr→Prop) (H:Hp):List V→List PyData→Prop where
 | nil:HasAll G H [] []
 | cons {x:V}{xs:List V}{d:PyData}{ds:List PyData}:Has G H x d→HasAll G H xs ds→HasAll G H (x :: xs) (d :: ds)
end
noncomputable abbrev Any:Addr→Prop:=fun _=>True
noncomputable def isSeq:HO→Prop
 | .lst _=>True
 | .tup _=>True
 | _=>False
mutual
theorem Has.frameS {G G':Addr→Prop}{H H':Hp} (e:∀ a o,G a→isSeq o→H a=some o→G' a∧H' a=some o):∀ {v:V}{d:PyData},Has G H v d→Has G' H' v d
 | _,_,.non=>.non
 | _,_,.bl b=>.bl b
 | _,_,.int i=>.int i
 | _,_,.str x hx ho=>.str x hx ho
 | _,_,.lst (xs:=xs) g s z h=>.lst (e _ (.lst xs) g trivial s).1 (e _ (.lst xs) g trivial s).2 z (HasAll.frameS e h)
 | _,_,.tup (xs:=xs) g s z h=>.tup (e _ (.tup xs) g trivial s).1 (e _ (.tup xs) g trivial s).2 z (HasAll.frameS e h)
theorem HasAll.frameS {G G':Addr→Prop}{H H':Hp} (e:∀ a o,G a→isSeq o→H a=some o→G' a∧H' a=some o):∀ {vs:List V}{ds:List PyData},HasAll G H vs ds→HasAll G' H' vs ds
 | _,_,.nil=>.nil
 | _,_,.cons h t=>.cons (Has.frameS e h) (HasAll.frameS e t)
end
theorem Has.frame {G G':Addr→Prop}{H H':Hp}{v:V}{d:PyData} (h:Has G H v d) (e:∀ a o,G a→H a=some o→G' a∧H' a=some o):Has G' H' v d:=h.frameS fun a o g _ q=>e a o g q
theorem HasAll.frame {G G':Addr→Prop}{H H':Hp}{v:List V}{d:List PyData} (h:HasAll G H v d) (e:∀ a o,G a→H a=some o→G' a∧H' a=some o):HasAll G' H' v d:=h.frameS fun a o g _ q=>e a o g q
theorem Has.mono {G:Addr→Prop}{H H':Hp}{v:V}{d:PyData} (h:Has G H v d) (e:Same H H'):Has G H' v d:=h.frame fun a o g q=>⟨g,e a o q⟩
theorem HasAll.mono {G:Addr→Prop}{H H':Hp}{v:List V}{d:List PyData} (h:HasAll G H v d) (e:Same H H'):HasAll G H' v d:=h.frame fun a o g q=>⟨g,e a o q⟩
theorem Has.any {G:Addr→Prop}{H:Hp}{v:V}{d:PyData} (h:Has G H v d):Has Any H v d:=h.frame fun _ _ _ q=>⟨trivial,q⟩
theorem HasAll.any {G:Addr→Prop}{H:Hp}{v:List V}{d:List PyData} (h:HasAll G H v d):HasAll Any H v d:=h.frame fun _ _ _ q=>⟨trivial,q⟩
section
variable {G:Addr→Prop}{H:Hp}
theorem HasAll.length:∀ {xs:List V}{ds:List PyData},HasAll G H xs ds→xs.length=ds.length
 | _,_,.nil=>rfl
 | _,_,.cons _ t=>by rw [Z8,Z8,HasAll.length t]
theorem HasAll.get:∀ {xs:List V}{ds:List PyData}{i:Nat}{x:V},HasAll G H xs ds→xs[i]? = some x→∃ d,ds[i]? = some d∧Has G H x d
 | _,_,i,x,.nil,h=>by simp at h
 | _,_,0,x,.cons a t,h=>by simp at h;subst h;exact ⟨_,rfl,a⟩
 | _,_,i + 1,x,.cons a t,h=>by
  obtain ⟨d,e,q⟩:=HasAll.get (i:=i) t (by simpa using h);exact ⟨d,by simpa using e,q⟩
theorem HasAll.snoc:∀ {xs:List V}{ds:List PyData}{x:V}{d:PyData},HasAll G H xs ds→Has G H x d→HasAll G H (xs++[x]) (ds++[d])
 | _,_,_,_,.nil,h=>.cons h .nil
 | _,_,_,_,.cons a t,h=>.cons a (HasAll.snoc t h)
theorem HasAll.append:∀ {xs ys:List V}{ds es:List PyData},HasAll G H xs ds→HasAll G H ys es→HasAll G H (xs++ys) (ds++es)
 | _,_,_,_,.nil,h=>h
 | _,_,_,_,.cons a t,h=>.cons a (HasAll.append t h)
theorem HasAll.take:∀ (n:Nat) {xs:List V}{ds:List PyData},HasAll G H xs ds→HasAll G H (xs.take n) (ds.take n)
 | 0,_,_,_=>.nil
 | n + 1,_,_,.nil=>.nil
 | n + 1,_,_,.cons a t=>.cons a (HasAll.take n t)
theorem HasAll.drop:∀ (n:Nat) {xs:List V}{ds:List PyData},HasAll G H xs ds→HasAll G H (xs.drop n) (ds.drop n)
 | 0,_,_,h=>h
 | n + 1,_,_,.nil=>.nil
 | n + 1,_,_,.cons a t=>HasAll.drop n t
theorem Has.list_inv {v:V}{ds:List PyData} (h:Has G H v (.list ds)):∃ a xs,v=.ref a∧G a∧H a=some (.lst xs)∧xs.length≤1000∧HasAll G H xs ds:=by
 cases h with
 | lst g s z q=>exact ⟨_,_,rfl,g,s,z,q⟩
mutual
theorem Has.lay:∀ {v:V}{d:PyData},Has G H v d→d.canLay0=true
 | _,_,.non=>rfl
 | _,_,.bl b=>rfl
 | _,_,.int i=>rfl
 | _,_,.str x _ ho=>ho
 | _,_,.lst _ _ _ h=>HasAll.lay h
 | _,_,.tup _ _ _ h=>HasAll.lay h
theorem HasAll.lay:∀ {vs:List V}{ds:List PyData},HasAll G H vs ds→PyData.canLayAll0 ds=true
 | _,_,.nil=>rfl
 | _,_,.cons h t=>by
  show (PyData.canLay0 _ && PyData.canLayAll0 _)=true;rw [Has.lay h,HasAll.lay t];rfl
end
end
section
variable {X:Cx}{pins:List (Addr×Obj)}{σ : St}{H:Hp}{s:Shared}{G:Addr→Prop}
mutual
theorem Has.reads (I:Inv X pins σ H s):∀ {v:V}{d:PyData}{u:Value},Has G H v d→RelV v u→∃ as,Reads s.heap u d as
 | _,_,u,.non,r=>by cases (show u=Value.none from r);exact ⟨_,.none⟩
 | _,_,u,.bl b,r=>by cases (show u=Value.bool b from r);exact ⟨_,.bool b⟩
 | _,_,u,.int i,r=>by obtain ⟨t,rfl⟩:=(show ∃ t,u=Value.int i t from r);exact ⟨_,.int i t⟩
 | _,_,u,.str x _ _,r=>by obtain ⟨t,rfl⟩:=(show ∃ t,u=Value.str x t from r);exact ⟨_,.str x t⟩
 | _,_,u,.lst (a:=a) _ q _ h,r=>by
  cases (show u=Value.ref a from r);obtain ⟨_,its,n,rv,e⟩:=I.hok a _ q;obtain ⟨as,ra⟩:=HasAll.reads I h rv;exact ⟨_,.list e rfl rfl (by simpa using ra)⟩
 | _,_,u,.tup (a:=a) _ q _ h,r=>by
  cases (show u=Value.ref a from r);obtain ⟨_,its,rv,⟨o,e,c,n,d⟩⟩:=I.hok a _ q;obtain ⟨as,ra⟩:=HasAll.reads I h rv;exact ⟨_,.tuple e c d (by simpa using ra)⟩
theorem HasAll.reads (I:Inv X pins σ H s):∀ {vs:List V}{ds:List PyData}{us:List Value},HasAll G H vs ds→Vals vs us→∃ as,ReadsAll s.heap us ds as
 | _,_,_,.nil,.nil=>⟨_,.nil⟩
 | _,_,_,.cons h t,.cons r rr=>by
  obtain ⟨as,ra⟩:=Has.reads I h r;obtain ⟨bs,rb⟩:=HasAll.reads I t rr;exact ⟨_,.cons ra rb⟩
end
end
theorem Has.shaped {G:Addr→Prop}{H:Hp}{v:V}{d:PyData} (h:Has G H v d) (hd:d.depth≤64):SeqAt.shaped d=true:=by
 unfold SeqAt.shaped;rw [h.lay,decide_eq_true hd];rfl
noncomputable def rEqD:R2:=fun x y H Q=>∃ d e,Has Any H x d∧Has Any H y e∧d.depth≤64∧e.depth≤64∧Q (.bl (PyData.eqv d e)) H
noncomputable def rNeD:R2:=fun x y H Q=>∃ d e,Has Any H x d∧Has Any H y e∧d.depth≤64∧e.depth≤64∧Q (.bl (!PyData.eqv d e)) H
theorem op_eqD {X:Cx} (hu:X.A.units + 64 < cLine):OpR X (compareOp .Eq) rEqD:=by
 intro pins s σ H x y u v Q I rx ry h;obtain ⟨d,e,hd,he,sd,se,q⟩:=h;obtain ⟨as,ra⟩:=hd.reads I rx;obtain ⟨bs,rb⟩:=he.reads I ry;exact eq_dataH ra rb (hd.shaped sd) (he.shaped se) hu ⟨.bl _,H,I,rfl,q⟩
theorem op_neD {X:Cx} (hu:X.A.units + 64 < cLine):OpR X (compareOp .NotEq) rNeD:=by
 intro pins s σ H x y u v Q I rx ry h;obtain ⟨d,e,hd,he,sd,se,q⟩:=h;obtain ⟨as,ra⟩:=hd.reads I rx;obtain ⟨bs,rb⟩:=he.reads I ry;exact ne_dataH ra rb (hd.shaped sd) (he.shaped se) hu ⟨.bl _,H,I,rfl,q⟩
theorem Has.eqv {G:Addr→Prop}{H:Hp}{v:V}{d:PyData} (h:Has G H v d):PyData.eqv d d=true:=SeqAt.eqv_refl d h.lay
section
variable {κ : Type} [DecidableEq κ]
noncomputable def dstep (acc:List κ) (x : κ):List κ:=if x∈acc then acc else acc++[x]
noncomputable def dl (l:List κ):List κ:=l.foldl dstep []
theorem dl_snoc (l:List κ) (x : κ):dl (l++[x])=dstep (dl l) x:=by unfold dl;rw [List.foldl_append];rfl
theorem zBd:∀ (l acc:List κ) (k : κ),k∈l.foldl dstep acc ↔ k∈acc∨k∈l
 | [],acc,k=>by simp
 | x :: r,acc,k=>by
  rw [Zw,zBd r];unfold dstep;by_cases h:x∈acc
  ·rw [if_pos h];constructor
   ·rintro (a | a)
    ·exact .inl a
    ·exact .inr (Z9 _ a)
   ·rintro (a | a)
    ·exact .inl a
    ·rcases List.mem_cons.mp a with rfl | a
     ·exact .inl h
     ·exact .inr a
  ·rw [if_neg h];simp only [List.mem_append,Zk,Zf,or_false];constructor
   ·rintro ((a | a) | a)
    ·exact .inl a
    ·exact .inr (.inl a)
    ·exact .inr (.inr a)
   ·rintro (a | a | a)
    ·exact .inl (.inl a)
    ·exact .inl (.inr a)
    ·exact .inr a
theorem mem_dl {l:List κ}{k : κ}:k∈dl l ↔ k∈l:=by unfold dl;rw [zBd];simp
theorem zB2:∀ (l acc:List κ),(l.foldl dstep acc).length≤acc.length + l.length
 | [],acc=>Z5 _
 | x :: r,acc=>by
  rw [Zw];refine Zs (zB2 r _) ?_;unfold dstep;split
  ·rw [Z8];omega
  ·simp only [Zb,Z8,List.length_nil];omega
theorem dl_len_le (l:List κ):(dl l).length≤l.length:=by have:=zB2 l [];simpa [dl] using this
theorem zB7:∀ (l acc:List κ),(∀ x∈l,x∉acc)→l.Nodup→(l.foldl dstep acc).length=acc.length + l.length
 | [],acc,_,_=>rfl
 | x :: r,acc,h,hn=>by
  obtain ⟨h1,h2⟩:=List.nodup_cons.mp hn;have hx:x∉acc:=h x Zg;rw [Zw,show dstep acc x=acc++[x] from if_neg hx,zB7 r _ (fun y hy m=>?_) h2]
  ·simp;omega
  ·rcases List.mem_append.mp m with m | m
   ·exact h y (Z9 _ hy) m
   ·rw [List.mem_singleton.mp m] at hy;exact h1 hy
theorem zBe:∀ (l acc:List κ),((∃ x∈l,x∈acc)∨¬ l.Nodup)→(l.foldl dstep acc).length < acc.length + l.length
 | [],acc,h=>by
  rcases h with ⟨x,hx,_⟩ | h
  ·simp at hx
  ·exact absurd List.nodup_nil h
 | x :: r,acc,h=>by
  rw [Zw];by_cases hx:x∈acc
  ·rw [show dstep acc x=acc from if_pos hx];have:=zB2 r acc;simp only [Z8];omega
  ·rw [show dstep acc x=acc++[x] from if_neg hx];have ih:=zBe r (acc++[x]) ?_
   ·simp only [Zb,Z8,List.length_nil] at *;omega
   ·rcases h with ⟨y,hy,ha⟩ | h
    ·rcases List.mem_cons.mp hy with rfl | hy
     ·exact absurd ha hx
     ·exact .inl ⟨y,hy,Y2 _ ha⟩
    ·by_cases hr:x∈r
     ·exact .inl ⟨x,hr,by simp⟩
     ·exact .inr fun z=>h (List.nodup_cons.mpr ⟨hr,z⟩)
theorem dl_len_iff (l:List κ):decide ((dl l).length=l.length)=decide l.Nodup:=by
 by_cases h:l.Nodup
 ·have:=zB7 l [] (fun _ _ z=>by simp at z) h;rw [decide_eq_true h,decide_eq_true (by simpa [dl] using this)]
 ·have:=zBe l [] (.inr h);rw [decide_eq_false h,decide_eq_false (by simp [dl] at *;omega)]
variable {prog:Program}{w:World}{A:Around}{R:Result→Shared→Prop}{I:Addr}{fp wr:List Addr}{n:Nat}{P:Nat→Value→Prop}{St:Nat→Heap→Prop}
theorem SetOf_eqv {knd:KeyKind prog w κ}{h:Heap}{a:Addr}{S S' : κ→Bool}{m m':Nat} (x:h.SetOf knd a S m) (e:∀ k,S k=S' k) (em:m=m'):h.SetOf knd a S' m':=by
 have e':S=S':=funext e;subst e' em;exact x
theorem set_loopK (W:Walks prog w A.in1 I fp wr n P St) {D:Addr} (hD:D∉fp) {knd:KeyKind prog w κ}{ks:List κ} (hn:ks.length=n) (hval:∀ i v k,P i v→ks[i]? = some k→knd.is k v=true∧v.scannable=true) (hb:n + 1 < scanBound) :
  ∀ (j i:Nat) (z:Shared),n - i=j→i≤n→St i z.heap→z.heap.SetOf knd D (fun k=>decide (k∈ks.take i)) (dl (ks.take i)).length →
   (∀ h' tk,(∀ b o,b∉D :: wr→z.heap.get? b=some o→h'.get? b=some o)→h'.SetOf knd D (fun k=>decide (k∈ks)) (dl ks).length→R (.ok (.ret .none)) { z with heap:=h',toks:=tk }) →
   codeAny (model prog w) A (.builtin "set.update.loop" ⟨[.ref D,.ref I],[]⟩) R z:=by
 have hDw:D∉wr:=fun h=>hD (W.sub _ h);intro j
 induction j with
 | zero =>
  intro i z hj hi st hS hR;obtain rfl:i=n:=by omega
  refine codeAny_builtin PyProof.Rows.F.entry_set_update_loop ?_;rw [Around.under_plainId PyProof.Rows.F.plain_set_update_loop _];show wpAny _ A.in1 (pyNext (.ref I) >>= _) _ _ z;refine wpAny_bind (W.done z _ _ st fun h' tk kk=>?_);rw [List.take_of_length_le (Nat.le_of_eq hn)] at hS;obtain ⟨o,es,ep,t,ho,more⟩:=hS;exact wpAny_pure (hR h' tk (fun b o hb e=>kk b o (fun m=>hb (Z9 _ m)) e) ⟨o,es,ep,t,kk D _ hDw ho,more⟩)
 | succ j ih =>
  intro i z hj hi st hS hR;have lt:i < n:=by omega
  refine codeAny_builtin PyProof.Rows.F.entry_set_update_loop ?_;rw [Around.under_plainId PyProof.Rows.F.plain_set_update_loop _];show wpAny _ A.in1 (pyNext (.ref I) >>= _) _ _ z;refine wpAny_bind (W.item i z _ _ lt st fun v h1 tk1 hP st1 k1=>?_);have hk:ks[i]? = some (ks[i]'(by omega)):=Zc _;obtain ⟨hv,hs⟩:=hval i v _ hP hk;obtain ⟨o,es,ep,t,ho,more⟩:=hS;have hS1:h1.SetOf knd D (fun k=>decide (k∈ks.take i)) (dl (ks.take i)).length:=⟨o,es,ep,t,k1 D _ hDw ho,more⟩;show wpAny _ A.in1 (holding [v] (setAdd D v) >>= _) _ _ _;refine wpAny_bind (wpAny_holding ?_);unfold setAdd;refine wpAny_holding (wpAny_bind (knd.pyHash hv ?_));have room:(dl (ks.take i)).length + 1 < scanBound:=by
   have a1:=dl_len_le (ks.take i);have a2:(ks.take i).length≤i:=Zl _ _;omega
  refine wpAny_setAddHashed_of (knd:=knd) (s:={ z with heap:=h1,toks:=tk1 + 1 }) hv hs hS1 room fun h2 sb2 hS2=>?_;have et:ks.take (i + 1)=ks.take i++[ks[i]'(by omega)]:=by rw [Zn,hk];rfl
  have hS3:h2.SetOf knd D (fun k=>decide (k∈ks.take (i + 1))) (dl (ks.take (i + 1))).length:=by
   refine SetOf_eqv hS2 (fun k=>?_) ?_
   ·rw [et,Y8];simp only [Bool.or_eq_true,decide_eq_true_eq,List.mem_append,List.mem_singleton]
   ·rw [et,dl_snoc];unfold dstep;by_cases q:ks[i]'(by omega)∈ks.take i
    ·rw [if_pos (by simpa using q),if_pos (mem_dl.mpr q)]
    ·rw [if_neg (by simpa using q),if_neg (fun z=>q (mem_dl.mp z)),Zb,List.length_singleton]
  refine wpAny_pure ⟨plainId_quiet PyProof.Rows.F.plain_set_update_loop _,ih (i + 1) _ (by omega) lt (W.frame _ h1 _ st1 fun b hb o e=>?_) hS3 fun h' tk kk hS'=>hR h' tk (fun b o hb e=>kk b o hb ?_) hS'⟩
  ·rw [sb2.2 b (fun q:b=D=>hD (by rw [← q];exact hb))];exact e
  ·rw [sb2.2 b (fun q:b=D=>hb (by rw [q];exact Zg))];exact k1 b o (fun m=>hb (Z9 _ m)) e
end
end L2
namespace L2
open PySem PySem.Spec PyProof.Rows
noncomputable abbrev bareSet (b:Bool):Obj:={ cls:=.type "set",dict:=none,data:=.set #[] 0 (.fresh 0 0 b) }
section
variable {κ : Type} [DecidableEq κ] {prog:Program}{w:World}{A:Around}{E:Value→Shared→Prop}{z:Shared}
noncomputable def SetMade (knd:KeyKind prog w κ) (ks:List κ) (z:Shared) (r:Value) (z':Shared):Prop :=
 r=.none∧∃ h' tk,z'={ z with heap:=h',toks:=tk }∧h'.SetOf knd z.heap.objs.size (fun k=>decide (k∈ks)) (dl ks).length∧∀ b o,b < z.heap.objs.size→z.heap.get? b=some o→h'.get? b=some o
set_option maxHeartbeats 6400000 in
theorem call_setK {knd:KeyKind prog w κ}{l:Addr}{its:Array Value}{ks:List κ}{Q:Value→Shared→Prop} (hh:A.handled=none) (hl:z.heap.IsList l its) (hn:ks.length=its.size)
  (hv:∀ (i:Nat) (v:Value) (k : κ),its[i]? = some v→ks[i]? = some k→knd.is k v=true∧v.scannable=true) (hb:its.size + 1 < scanBound)
  (h:∀ z',SetMade knd ks z .none z'→Q (.ref z.heap.objs.size) z'):wpAny (model prog w) A (call (.type "set") [.ref l]) Q E z:=by
 obtain ⟨mc,mt,m0⟩:=PySem.F.called_set.mro;have m1:=PySem.F.called_set.made;have m2:=PySem.F.called_set.sub;refine wpAny_call (codeAny_of_tree ?_);show wpAny _ _ (callAny (.type "set") _) _ _ _;refine wpAny_pure ⟨Code.quiet_builtin _ (by decide +kernel),codeAny_builtin PySem.F.entry_type_call ?_⟩;rw [Around.under_plain (weight_type_call_type "set" [.ref l] []) rfl];have m3:=PySem.F.called_set.notType;have m4:=PySem.F.called_set.canCreate;have m5:=PySem.F.typeCall_set_1 (.ref l)
 repeat (any_goals (first | assumption | wp_step))
 refine codeAny_mono (code_set_new_1 (.ref l) (E:=E) (Q₁:=fun r z1=>∃ b:Bool,r=.ref z.heap.objs.size∧z1={ z with heap:=z.heap.push (bareSet b) }) fun b=>⟨b,rfl,rfl⟩) fun r z1 hr=>?_;cases r with
 | error e=>exact hr
 | ok fl =>
  cases fl with
  | next=>exact hr.elim
  | brk=>exact hr.elim
  | cont=>exact hr.elim
  | ret r =>
   obtain ⟨b,rfl,rfl⟩:=hr;have g0:(z.heap.push (bareSet b)).get? z.heap.objs.size=some (bareSet b):=Z7 _ rfl;have ty:Shared.TypeIs { z with heap:=z.heap.push (bareSet b) } (.ref z.heap.objs.size) "set":=⟨_,g0,rfl⟩;have i1:=PySem.F.called_set.init.lookup;have i2:=PySem.F.called_set.init.bind (.ref z.heap.objs.size)
   repeat (any_goals (first | assumption | wp_step))
   refine codeAny_mono (codeAny_call_builtin (R:=wants (SetMade knd ks z) E) PySem.F.called_set.init.plain PySem.F.entry_set_init (check_set_init_1 ty ?_)) fun r2 z2 hr2=>?_
   ·obtain ⟨⟨oc,od,odt,osl⟩,ho,c1,nl,d1⟩:=hl;simp only at c1 d1;subst c1 d1;have ho1:(z.heap.push (bareSet b)).get? l=some { cls:=.type "list",dict:=od,data:=.seq its nl,slots:=osl }:=Z0 _ ho;have s1:=PySem.F.sub_list_set;have s2:=PySem.F.sub_list_frozenset;have s3:(Value.type "list" == Value.type "dict")=false:=by decide
    have hl1:(z.heap.push (bareSet b)).IsList l its:=⟨_,ho1,rfl,nl,rfl⟩;unfold Builtin.«set.__init__» noKeywords Builtin.Frozenset.updateFrom;generalize ePI:pyIter=PI
    wp_walk
    subst ePI;refine wpAny_pyIter_list hl1 ?_;refine wpAny_bind (wpAny_runValue ?_);have lt:l < z.heap.objs.size:=Z2 ho;have sz1:(z.heap.push (bareSet b)).objs.size=z.heap.objs.size + 1:=Y6 _ _;have neI:l≠(z.heap.push (bareSet b)).objs.size:=by rw [sz1];exact Z4 (Yb lt)
    have nD:z.heap.objs.size∉[(z.heap.push (bareSet b)).objs.size,l]:=by
     rw [sz1];simp only [Zk,Zf,or_false,not_or];exact ⟨Z4 (Nat.lt_succ_self _),Ya lt⟩
    refine set_loopK (Walks.list (by simp [hh]) _ l neI its) nD (knd:=knd) (ks:=ks) hn hv hb (its.size - 0) 0 _ (by omega) (Zv _) ⟨⟨_,Z7 _ rfl,rfl,rfl⟩,hl1.push _⟩ ?_ fun h' tk kk hS=>?_
    ·refine SetOf_eqv ((PyProof.Rows.setObjOf_fresh (knd:=knd) b).setOf (Z0 _ g0) (by unfold scanBound;omega)) (fun k=>?_) rfl;simp
    ·show wpAny _ _ _ _ _ _;refine wpAny_pure ?_;show wpAny _ _ (ret Value.none) _ _ _;refine wpAny_pure ⟨rfl,h',tk,rfl,hS,fun c o hc e=>kk c o ?_ (Z0 _ (Z0 _ e))⟩;rw [sz1];simp only [Zk,Zf,or_false,not_or];exact ⟨Z4 hc,Z4 (Yb hc)⟩
   ·cases r2 with
    | error e=>exact hr2
    | ok fl2 =>
     cases fl2 with
     | next=>exact hr2.elim
     | brk=>exact hr2.elim
     | cont=>exact hr2.elim
     | ret r =>
      have hs:=hr2;obtain ⟨rfl,h',tk,rfl,hS,kk⟩:=hr2
      repeat (any_goals (first | assumption | wp_step))
      exact h _ hs
end
noncomputable def SetS (P:Program) (w:World) (p:Addr) (ks:List Str):HO:=.ext fun h=>h.SetOf (strKind P w) p (fun k=>decide (k∈ks)) (dl ks).length
section
variable {X:Cx}
theorem strs_get:∀ {ks:List Str}{us:List Value}{i:Nat}{v:Value}{k:Str},Vals (ks.map V.str) us→us[i]? = some v→ks[i]? = some k→∃ t,v=Value.str k t
 | [],_,i,v,k,.nil,h,_=>by simp at h
 | b :: r,_,0,v,k,.cons a t,h,hk=>by
  simp at h hk;subst h hk;exact a
 | b :: r,_,i + 1,v,k,.cons a t,h,hk=>strs_get (ks:=r) (i:=i) t (by simpa using h) (by simpa using hk)
theorem zDl (hc:X.calm=true):CallR X (.type "set") (fun xs H Q=>∃ (p:Addr) (ks:List Str),xs=[.ref p]∧SqL X.K H p (ks.map V.str)∧ks.length≤4000∧∀ d,H d=none→Q (.ref d) (upd H d (SetS X.prog X.w d ks))):=by
 intro pins s σ H xs us Q I r h;obtain ⟨p,ks,rfl,hp,hz,q⟩:=h;obtain ⟨u,rfl,ru⟩:=v1 r;cases (show u=Value.ref p from ru);obtain ⟨its,rv,pl,_⟩:=I.list hp;have hlen:its.length=ks.length:=by rw [← rv.length,Z1]
 refine call_setK (knd:=strKind X.prog X.w) (ks:=ks) (I.ok.hd hc) pl.isList (by rw [Z6,hlen]) (fun i v k h1 h2=>?_) (by rw [Z6,hlen];unfold scanBound;omega) fun z' hs=>?_
 ·obtain ⟨t,rfl⟩:=strs_get rv (by simpa using h1) h2;exact ⟨strKind_is _ _ _ _,rfl⟩
 ·obtain ⟨_,h',tk,rfl,hS,kk⟩:=hs;refine ⟨.ref s.heap.objs.size,_,I.laid (t':=tk) (a:=s.heap.objs.size) (o:=SetS X.prog X.w s.heap.objs.size ks) (fun b o e=>kk b o (Z2 e) e) (Z5 _) ?_,rfl,q _ (I.hok.fresh (Z5 _))⟩;refine ⟨hS,?_,fun h1 h2 hs1 k12=>?_⟩
  ·obtain ⟨o,_,_,_,e,_⟩:=hS;exact ⟨o,e⟩
  ·obtain ⟨o,es,ep,t,e,more⟩:=hs1;exact ⟨o,es,ep,t,k12 o e,more⟩
theorem zC6:CallR X (.builtin "len") (fun xs H Q=>∃ (d:Addr) (ks:List Str),xs=[.ref d]∧H d=some (SetS X.prog X.w d ks)∧ks.length≤4000∧Q (.int (dl ks).length) H):=by
 intro pins s σ H xs us Q I r h;obtain ⟨d,ks,rfl,hd,hz,q⟩:=h;obtain ⟨u,rfl,ru⟩:=v1 r;cases (show u=Value.ref d from ru);obtain ⟨hS,_,_⟩:=I.hok d _ hd;obtain ⟨o,es,ep,t,e,hex,hdt,_,_,hb,hf,hn⟩:=hS;refine call_len_set e hex hdt hf ?_ ?_
 ·unfold scanBound at hb;omega
 ·rw [hn];exact ⟨.int _,H,I.tok _,⟨_,rfl⟩,q⟩
end
end L2
namespace L2
open PySem PySem.Spec PyProof.Rows
theorem ScOk.auto {X:Cx}{sc:Scope}{cl:List (Str×Addr)}{T:List Str} (h1:closureFor sc X.env=pure cl:=by rfl) (h2:(sc.names.all fun y=>y.2 != .cell)=true:=by rfl) (h3:sc.kind=.function:=by rfl)
  (h4:(sc.names.all fun x=>x.2 != .local || sc.names.lookup x.1 == some .local)=true:=by rfl)
  (h5:ClOk X cl:=by first | exact trivial | exact ⟨rfl,trivial⟩ | exact ⟨rfl,rfl,trivial⟩ | exact ⟨rfl,rfl,rfl,trivial⟩ | exact ⟨rfl,rfl,rfl,rfl,trivial⟩)
  (h6:(sc.names.all fun x=>x.2 != .free || ((cl.lookup x.1).isSome && (X.env.scope.names.lookup x.1 == some .cell || X.env.scope.names.lookup x.1 == some .free)))=true:=by rfl)
  (h7:(X.N.all fun x=>sc.names.lookup x != some .local)=true:=by rfl):ScOk X sc cl T where
 clos:=h1
 cell:=fun y hy=>by have:=List.all_eq_true.mp h2 y hy;simpa using this
 kind:=h3
 names:=fun x hx hl=>by
  have:=List.all_eq_true.mp h4 x hx;rw [hl] at this
  simpa using this
 cls:=h5
 has:=fun x hx hf=>by
  have:=List.all_eq_true.mp h6 x hx;rw [hf] at this
  simpa using this
 out:=fun x hx=>by have:=List.all_eq_true.mp h7 x hx;simpa using this
theorem zC5 {J:It}{n k:Nat}{σ : St}{H:Hp}{g:TG}{tt:TT}{te:TE}{Q:VK} (Pv:Nat→List V→Hp→Prop) (h0:Pv 0 [] H) (go:∀ i ys H,i < n→Pv i ys H→J.go i H) (stop:∀ ys H,Pv n ys H→J.stop n H)
  (hz:∀ i ys H,i≤n→Pv i ys H→ys.length≤sizeLine)
  (hs:∀ i ys H x H',i < n→Pv i ys H→J.yld i H x H'→∀ N:List V→Hp→Prop,(∀ ys H,Pv (i + 1) ys H→N ys H)→g x (σ++List.replicate k none) H' fun σ2 H2=>tt σ2 H2 fun b H3=>if b=true then te σ2 H3 fun y H4=>N (ys++[y]) H4 else N ys H3)
  (hd:∀ ys H,Pv n ys H→∀ p,H p=none→Q (.ref p) (upd H p (.lst ys))):CompGoal J k σ H g tt te Q:=by
 refine ⟨fun i m ys H=>m=n - i∧i≤n∧Pv i ys H,⟨n,by simp,Zv _,h0⟩,?_⟩;rintro i m ys H ⟨rfl,hi,p⟩;by_cases lt:i < n
 ·exact .inr ⟨go i ys H lt p,hz _ _ _ hi p,fun x H' y=>hs i ys H x H' lt p y (fun ys' H'=>∃ m',m' < n - i∧m'=n - (i + 1)∧i + 1≤n∧Pv (i + 1) ys' H') fun ys' H' q=>⟨n - (i + 1),by omega,rfl,lt,q⟩⟩
 ·obtain rfl:i=n:=by omega
  exact .inl ⟨stop _ _ p,hz _ _ _ hi p,hd _ _ p⟩
theorem comp_chars {x:Str}{k:Nat}{σ : St}{H:Hp}{g:TG}{tt:TT}{te:TE}{Q:VK} (p:Nat→Bool) (f:Nat→V) (hz:x.length≤sizeLine)
  (hs:∀ c (Ry:VK) (Rn:Hp→Prop),(p c=true→Ry (f c) H)→(p c=false→Rn H)→g (.str ⟨#[c]⟩) (σ++List.replicate k none) H fun σ2 H2=>tt σ2 H2 fun b H3=>if b=true then te σ2 H3 Ry else Rn H3)
  (hd:∀ q,H q=none→Q (.ref q) (upd H q (.lst ((x.cps.toList.filter p).map f)))):CompGoal (Its x) k σ H g tt te Q:=by
 have hlen:x.cps.toList.length=x.length:=by rw [Y0];rfl
 refine zC5 (J:=Its x) (n:=x.length) (fun i ys H'=>H'=H∧ys=((x.cps.toList.take i).filter p).map f) ⟨rfl,rfl⟩ (fun i ys H' lt _=>lt) (fun ys H' _=>Z5 _) (fun i ys H' hi q=>?_) ?_ ?_
 ·obtain ⟨_,rfl⟩:=q;rw [Z1];have a:=List.length_filter_le p (x.cps.toList.take i);have b:=Zl i x.cps.toList;omega
 ·rintro i ys H' v H2 lt ⟨rfl,rfl⟩ ⟨rfl,c,hc,rfl⟩ N hN;have hc':x.cps.toList[i]? = some c:=by rw [Array.getElem?_toList];exact hc
  refine hs c _ _ (fun e=>hN _ _ ⟨rfl,?_⟩) (fun e=>hN _ _ ⟨rfl,?_⟩)
  ·rw [Zn,hc',List.filter_append];simp [e]
  ·rw [Zn,hc',List.filter_append];simp [e]
 ·rintro ys H' ⟨rfl,rfl⟩ q hq;rw [← hlen,Zr];exact hd q hq
theorem zB3 {K:PySem.W.Frag}{a:Addr}{xs:List V}{k:Nat}{σ : St}{H:Hp}{g:TG}{tt:TT}{te:TE}{Q:VK} (Pv:Nat→List V→Hp→Prop) (h0:Pv 0 [] H) (hl:∀ i ys H,Pv i ys H→SqL K H a xs)
  (hz:∀ i ys H,i≤xs.length→Pv i ys H→ys.length≤sizeLine)
  (hs:∀ i x ys H,xs[i]? = some x→Pv i ys H→∀ N:List V→Hp→Prop,(∀ ys H,Pv (i + 1) ys H→N ys H)→g x (σ++List.replicate k none) H fun σ2 H2=>tt σ2 H2 fun b H3=>if b=true then te σ2 H3 fun y H4=>N (ys++[y]) H4 else N ys H3)
  (hd:∀ ys H,Pv xs.length ys H→∀ p,H p=none→Q (.ref p) (upd H p (.lst ys))):CompGoal (Itl K a) k σ H g tt te Q:=by
 refine zC5 (J:=Itl K a) (n:=xs.length) Pv h0 (fun i ys H lt p=>⟨xs,xs[i],hl i ys H p,Zc lt⟩) (fun ys H p=>⟨xs,hl _ ys H p,Z5 _⟩) hz ?_ hd;rintro i ys H x H' lt p ⟨rfl,y⟩ N hN;exact hs i x ys _ (y xs (hl _ _ _ p)) p N hN
theorem zD0 {lo:Int}{n k:Nat}{σ : St}{H:Hp}{g:TG}{tt:TT}{te:TE}{Q:VK} (Pv:Nat→List V→Hp→Prop) (h0:Pv 0 [] H)
  (hz:∀ i ys H,i≤n→Pv i ys H→ys.length≤sizeLine)
  (hs:∀ i ys H,i < n→Pv i ys H→∀ N:List V→Hp→Prop,(∀ ys H,Pv (i + 1) ys H→N ys H)→g (.int (lo + i)) (σ++List.replicate k none) H fun σ2 H2=>tt σ2 H2 fun b H3=>if b=true then te σ2 H3 fun y H4=>N (ys++[y]) H4 else N ys H3)
  (hd:∀ ys H,Pv n ys H→∀ p,H p=none→Q (.ref p) (upd H p (.lst ys))):CompGoal (Itr lo n) k σ H g tt te Q:=by
 refine zC5 (J:=Itr lo n) (n:=n) Pv h0 (fun i ys H lt p=>lt) (fun ys H p=>Z5 _) hz ?_ hd;rintro i ys H x H' lt p ⟨rfl,rfl⟩ N hN;exact hs i ys _ lt p N hN
theorem pick {A B:St→Hp→Prop}{σ : St}{H:Hp}{i:Nat}{x:V} (h:A (σ.set i (some x)) H):gName i x σ H fun σ2 H2=>tYes σ2 H2 fun b H3=>if b=true then A σ2 H3 else B σ2 H3:=by
 show if true=true then A (σ.set i (some x)) H else B (σ.set i (some x)) H
 rw [if_pos rfl];exact h
theorem Fun.okC {P:Program}{w:World}{K:PySem.W.Frag}{mg:Str→Option Value}{base:Heap}{CX:CXT}{x qual:Str}{st:Stmt}{f:Addr}{fd:FuncData}{N ps:List Str}{k:Nat}{sp:Sp} (F:Fun K x qual st f fd) (S:FnScope N ps (defScope st)) (len:∀ vs H Q E,sp vs H Q E→vs.length=ps.length)
  (hbody:∀ (cdv:Value) (A:Around) (outer:List Env) (s:Shared) (H:Hp) (vs:List V) (Q:VK) (E:XK),Room k (A.deeper (envOfC qual (defScope st) s.heap.objs.size f cdv))→sp vs H Q E →
   ∃ t,PSs (cxOf CX P w K mg base N qual (defScope st) f cdv A outer s H E).nox (defBody st) t∧t { nx:=fun _ H'=>Q .non H',rt:=Q } (start N vs) H):FnOk P w K mg base CX (k + 1) f fd ps sp:=by
 obtain ⟨oc,od,kV,doc,pm,an,cdv,ct,osl,rfl,lk,hcd⟩:=F.ex;refine zCr lk hcd S len fun A outer s H vs Q E hr hsp=>?_;obtain ⟨t,h,q⟩:=hbody cdv A outer s H vs Q E hr hsp;exact ⟨t,h.nox,q⟩
noncomputable def Calm (CX:CXT):Prop:=∀ o H s e s',CX o H s (fun _ _ _=>False) e s'→False
theorem passC {CX:CXT} (h:Calm CX) {X:Cx}:Passes CX X E0:=fun _ _ _ _ _ _ _ q=>(h _ _ _ _ _ q).elim
structure Def (K:PySem.W.Frag) (mg:Str→Option Value) (x:Str) (st:Stmt) (ps:List Str) (f:Addr) (fd:FuncData):Prop where
 fn:Fun K x x st f fd
 at_:mg x=some (.ref f)
 bind:Binds K fd ps []
theorem Same.new {H:Hp}{p:Addr}{o:HO} (h:H p=none):Same H (upd H p o):=fun b u e=>by rw [zA9 (zA6 e h)];exact e
end L2
namespace L2
open PySem PySem.Spec PyProof.Rows
section
variable {X:Cx}{pins:List (Addr×Obj)}{σ : St}{H:Hp}{s:Shared}
theorem Inv.adopt {T:Addr}{o:HO} (I:Inv X pins σ H s) (hn:H T=none) (h1:X.s₀.heap.objs.size≤T) (hL:T≠X.env.locals) (h2:∀ x c,X.env.cells.lookup x=some c→c≠T) (h3:∀ p∈X.pn++pins,p.1≠T)
  (new:ObjOk X.prog X.w (upd H T o) s.heap T o):Inv X pins σ (upd H T o) s:=by
 refine I.step (h':=s.heap) (g':=s.gens) (d':=s.drawn) (t':=s.toks) (ch:=[T]) (fun b hb=>?_) (fun b o _ _ _ e _=>e) (fun b o _ _ _ e _=>⟨o.slots,e⟩) (fun b o hc e n=>?_) (fun b o _ e=>⟨o,e⟩)
  (fun b xs e=>?_) (fun b o u e=>?_) (fun b ps e=>⟨#[],?_⟩) (fun m h=>h) (fun b u e=>?_) I.bare
 ·have e:b=T:=by simpa using hb
  subst e;exact ⟨.inr (Y1 h1),hL,h2,h3⟩
 ·rw [zA9 (fun z=>hc (by simp [z]))];exact n
 ·rw [zA9 (zA6 e hn)];exact e
 ·rw [zA9 (zA6 e hn)];exact e
 ·rw [zA9 (zA6 e hn),e];simp
 ·by_cases hb:b=T
  ·subst hb;rw [zA2] at e;cases e;exact new
  ·rw [zA9 hb] at e;exact (I.hok b u e).stay (fun c v _ q=>q) (fun c q=>by rw [zA9 (zA6 q hn)];exact q) fun c xs q=>by rw [zA9 (zA6 q hn)];exact q
theorem Inv.turns {h':Heap}{t':Nat}{ch:List Addr} (I:Inv X pins σ H s) (k:∀ b o,b∉ch→s.heap.get? b=some o→h'.get? b=some o) (hf:∀ b∈ch,FpOk X pins H b):Inv X pins σ H { s with heap:=h',toks:=t' }:=by
 have nit:∀ b u,H b=some u→b∉ch:=fun b u e z=>by rw [(hf b z).1] at e;cases e
 refine I.step (g':=s.gens) (d':=s.drawn) (ch:=ch) (fun b hb=>⟨(hf b hb).2.2.2.1.imp_right fun z=>Y1 z,(hf b hb).2.1,(hf b hb).2.2.2.2.1,(hf b hb).2.2.2.2.2⟩) (fun b o _ _ hc e _=>k b o hc e) (fun b o _ _ hc e _=>⟨o.slots,k b o hc e⟩) (fun _ _ _ _ n=>n)
  (fun b o hc e=>⟨o,k b o hc e⟩) (fun _ _ e=>e) (fun _ _ _ e=>e) (fun b ps e=>⟨#[],by rw [e];simp⟩) (fun m hm=>?_) (fun b u e=>?_) I.bare
 ·obtain ⟨o,es,ep,ho,r⟩:=hm;exact ⟨o,es,ep,k _ o (fun z=>(hf _ z).2.1 rfl) ho,r⟩
 ·refine (I.hok b u e).stay (fun c v hc q=>k c v ?_ q) (fun _ q=>q) fun _ _ q=>q;rcases hc with z | z
  ·rw [z];exact nit b u e
  ·exact nit c _ z
end
noncomputable def Itz (K:PySem.W.Frag) (a b:Addr):It :=
 ⟨fun i H=>∃ xs ys x y,SqL K H a xs∧SqL K H b ys∧xs[i]? = some x∧ys[i]? = some y,
  fun i H v H'=>∃ p x y,v=.ref p∧H p=none∧H'=upd H p (.tup [x,y])∧(∀ xs,SqL K H a xs→xs[i]? = some x)∧∀ ys,SqL K H b ys→ys[i]? = some y,
  fun i H=>∃ xs ys,SqL K H a xs∧SqL K H b ys∧(xs.length≤i∨ys.length≤i)⟩
theorem turn_zip {P:Program}{w:World}{K:PySem.W.Frag}{es:List Expr}{x1:_}{pos:Pos}{l1 l2 z TI TO i1 i2:Addr} (D:ZipApart z TI TO i1 i2 l1 l2) :
  Turn P w K (.Tuple es x1 pos) (Itz K l1 l2) [z,TO,i1,i2,TI] z (fun i h=>IsZip h z TI TO .none∧IsPair h TI (.ref i1) (.ref i2)∧(∃ a b,IsPair h TO a b)∧h.IsListIter i1 l1 i∧h.IsListIter i2 l2 i) where
 mem:=by simp
 obj:=fun i h st b hb=>by
  obtain ⟨h1,h2,⟨a,c,h3⟩,⟨o4,h4,_,d4⟩,⟨o5,h5,_,d5⟩⟩:=st;simp only [Zk,Zf,or_false] at hb;rcases hb with rfl | rfl | rfl | rfl | rfl
  ·exact ⟨_,h1,fun v q=>by cases (show Data.fields _=Data.cell v from q)⟩
  ·exact ⟨_,h3,fun v q=>by cases (show Data.seq _ _=Data.cell v from q)⟩
  ·exact ⟨_,h4,fun v q=>by rw [d4] at q;cases q⟩
  ·exact ⟨_,h5,fun v q=>by rw [d5] at q;cases q⟩
  ·exact ⟨_,h2,fun v q=>by cases (show Data.seq _ _=Data.cell v from q)⟩
 keep:=fun i h h' st k=>by
  obtain ⟨h1,h2,⟨a,c,h3⟩,h4,h5⟩:=st;exact ⟨k z (by simp) _ h1,k TI (by simp) _ h2,⟨a,c,k TO (by simp) _ h3⟩,h4.at fun o e=>k i1 (by simp) o e,h5.at fun o e=>k i2 (by simp) o e⟩
 item:=by
  intro X hP hw hK hc i pins s σ H E I hf st hg;subst hP hw hK;obtain ⟨h1,h2,⟨a,c,h3⟩,h4,h5⟩:=st;obtain ⟨xs,ys,x,y,qx,qy,ex,ey⟩:=hg;obtain ⟨its,rx,px,_⟩:=I.list qx;obtain ⟨jts,ry,py,_⟩:=I.list qy;obtain ⟨u,hu,ru⟩:=rx.get ex;obtain ⟨v,hv,rv⟩:=ry.get ey;refine wpAny_pyNext_zip_item D h1 h2 h3 h4 h5 px.isList py.isList (by simpa using hu) (by simpa using hv) fun h' a1 a2 a3 a4 a5 a6 a7=>?_;refine ⟨_,rfl,wpAny_letOwnedTupleGo_zip a1 fun h2' b1 sb=>?_⟩;have nz:s.heap.objs.size≠z:=fun e=>by have:=Z2 h1;rw [← e] at this;exact Zy _ this
  have J:Inv X pins σ H { s with heap:=h2' }:=I.turns (t':=s.toks) (ch:=[z,TO,i1,i2,TI]) (fun b o hb e=>by
   simp only [Zk,Zf,or_false,not_or] at hb
   exact (sb.2 b hb.1).trans (a7 b o hb.1 hb.2.1 hb.2.2.1 hb.2.2.2.1 e)) hf
  have gT:h2'.get? s.heap.objs.size=some { cls:=.type "tuple",data:=.seq #[u,v] }:=(sb.2 _ nz).trans a5;have fT:H s.heap.objs.size=none:=I.hok.fresh (Z5 _)
  have J2:Inv X pins σ (upd H s.heap.objs.size (.tup [x,y])) { s with heap:=h2' }:=J.adopt fT I.sz (Ya I.lt) (fun n c e=>by
    obtain ⟨w',q⟩:=I.cell n c e
    exact Z4 q.lt) (fun p hp=>Z4 (Z2 (I.pin p hp).1)) ⟨by show 2≤sizeLine;decide,[u,v],.cons ru (.cons rv .nil),⟨_,gT,rfl,_,rfl⟩⟩
  have keepB:∀ b o,b≠z→h'.get? b=some o→h2'.get? b=some o:=fun b o hb e=>(sb.2 b hb).trans e;refine ⟨.ref s.heap.objs.size,_,J2,rfl,⟨_,x,y,rfl,fT,rfl,fun zs hz=>by rw [I.list_inj hz qx];exact ex,fun zs hz=>by rw [I.list_inj hz qy];exact ey⟩,⟨b1,keepB _ _ D.TIz (a7 _ _ D.TIz D.TITO D.TIi1 D.TIi2 h2),⟨_,_,keepB _ _ D.TOz a2⟩,a3.at fun o e=>keepB _ _ D.i1z e,a4.at fun o e=>keepB _ _ D.i2z e⟩,fun b hb=>?_⟩;have hb':=(hf b hb).1;have:b≠s.heap.objs.size:=by
   rintro rfl;obtain ⟨o,e⟩:∃ o,s.heap.get? s.heap.objs.size=some o:=by
    simp only [Zk,Zf,or_false] at hb;rcases hb with e | e | e | e | e <;> rw [e]
    ·exact ⟨_,h1⟩
    ·exact ⟨_,h3⟩
    ·obtain ⟨o,q,_⟩:=h4;exact ⟨o,q⟩
    ·obtain ⟨o,q,_⟩:=h5;exact ⟨o,q⟩
    ·exact ⟨_,h2⟩
   exact Zy _ (Z2 e)
  rw [zA9 this];exact hb'
 done:=by
  intro X hP hw hK hc i pins s σ H E I hf st hg;subst hP hw hK;obtain ⟨h1,h2,⟨a,c,h3⟩,h4,h5⟩:=st;obtain ⟨xs,ys,qx,qy,hend⟩:=hg;obtain ⟨its,rx,px,_⟩:=I.list qx;obtain ⟨jts,ry,py,_⟩:=I.list qy;have e1:=rx.length;have e2:=ry.length;refine wpAny_pyNext_zip_end (I.ok.hd hc) D h1 h2 h3 h4 h5 px.isList py.isList ?_ fun h' kk=>⟨rfl,I.turns (t':=s.toks) (ch:=[z,TO,i1,i2,TI]) (fun b o hb e=>?_) hf⟩
  ·rcases hend with q | q
   ·exact .inl (by simp;omega)
   ·exact .inr (by simp;omega)
  ·simp only [Zk,Zf,or_false,not_or] at hb;exact kk b o hb.1 hb.2.1 hb.2.2.1 hb.2.2.2.1 e
 self:=fun _ _ _ _ _ st h=>wpAny_pyIter_zip st.1 h
noncomputable def iZip (K:PySem.W.Frag) (ta:TA):TI:=fun σ H R=>ta σ H fun vs H1=>∃ a b,vs=[.ref a,.ref b]∧(∃ xs,SqL K H1 a xs)∧(∃ ys,SqL K H1 b ys)∧R (Itz K a b) H1
section
variable {X:Cx}
theorem pi_zip {es:List Expr}{x1:_}{tp:Pos}{e1 e2:Expr}{ta:TA}{p pos:Pos} (hg:Gl X "zip") (hm:X.mg "zip" = none) (ha:PA X [e1,e2] ta) (hs:starEach [e1,e2] X.env=[(false,eval e1 X.env),(false,eval e2 X.env)]:=by rfl) (hs2:starEach [e2] X.env=[(false,eval e2 X.env)]:=by rfl) :
  PI X (.Tuple es x1 tp) (.Call (.Name "zip" p) [e1,e2] [] pos) (iZip X.K ta):=by
 intro pins s σ H R I h;refine Call_ (zCl I hg hm boot_zip (PyProof.Rows.callWith_type1 (thn (ha pos pins s σ H _ I h) fun us s1 ⟨vs,H1,I1,r1,q1⟩=>?_) (by rw [hs,hs2]) (by rw [hs2];rfl)));obtain ⟨a,b,rfl,⟨xs,qx⟩,⟨ys,qy⟩,q⟩:=q1;obtain ⟨u,v,rfl,ru,rv⟩:=v2 r1;cases (show u=Value.ref a from ru);cases (show v=Value.ref b from rv);obtain ⟨its,rx,px,_⟩:=I1.list qx;obtain ⟨jts,ry,py,_⟩:=I1.list qy;have la:a < s1.heap.objs.size:=by obtain ⟨_,e,_⟩:=px.isList;exact Z2 e
 have lb:b < s1.heap.objs.size:=by obtain ⟨_,e,_⟩:=py.isList;exact Z2 e
 refine call_zip_2 px.isList py.isList fun h' a1 a2 a3 a4 a5 a6 a7=>wpAny_pyIter_zip a1 ?_;have I2:Inv X pins σ H1 { s1 with heap:=h' }:=I1.kept (t':=s1.toks) a7;refine ⟨s1.heap.objs.size + 4,[s1.heap.objs.size + 4,s1.heap.objs.size + 3,s1.heap.objs.size,s1.heap.objs.size + 1,s1.heap.objs.size + 2],_,_,H1,rfl,I2,turn_zip (PyProof.Rows.zipApart_new la lb),⟨a1,a2,⟨_,_,a3⟩,a4,a5⟩,fun c hc=>?_,q⟩;have hc':s1.heap.objs.size≤c:=by
  simp only [Zk,Zf,or_false] at hc;rcases hc with e | e | e | e | e
  ·rw [e];exact Nat.le_add_right _ _
  ·rw [e];exact Nat.le_add_right _ _
  ·rw [e];exact Z5 _
  ·rw [e];exact Nat.le_add_right _ _
  ·rw [e];exact Nat.le_add_right _ _
 exact I1.fpOk hc' (I1.hok.fresh hc')
theorem mt_index:MtR X "str.index" (fun x xs H Q=>∃ z y i r,x=.str z∧xs=[.str y]∧Builtin.Str.occurrences z y 0 z.length 1=i :: r∧Q (.int (i:Nat)) H):=by
 intro pins s σ H x xs v us Q I rx rs h;obtain ⟨z,y,i,r,rfl,rfl,ho,q⟩:=h;obtain ⟨t,rfl⟩:=rx;obtain ⟨u,rfl,ru⟩:=v1 rs;obtain ⟨t',rfl⟩:=ru;exact PySem.SC.index ho ⟨.int _,H,I.tok _,⟨_,rfl⟩,q⟩
theorem strs_vals:∀ {ks:List Str}{us:List Value},Vals (ks.map V.str) us→∃ l:List (Str×Tok),us=strValues l∧l.map (·.1)=ks
 | [],_,.nil=>⟨[],rfl,rfl⟩
 | k :: r,_,.cons a t=>by
  obtain ⟨tk,rfl⟩:=a;obtain ⟨l,e1,e2⟩:=strs_vals t;exact ⟨(k,tk) :: l,by rw [e1];rfl,by rw [Zj,e2]⟩
theorem mt_join {K:PySem.W.Frag} (hK:X.K=K):MtR X "str.join" (fun x xs H Q=>∃ (z:Str) (p:Addr) (ks:List Str),x=.str z∧xs=[.ref p]∧SqL K H p (ks.map V.str)∧PySem.JoinOk z ks=true∧Q (.str (Txt.join z ks)) H):=by
 subst hK;intro pins s σ H x xs v us Q I rx rs h;obtain ⟨z,p,ks,rfl,rfl,hp,hj,q⟩:=h;obtain ⟨t,rfl⟩:=rx;obtain ⟨u,rfl,ru⟩:=v1 rs;cases (show u=Value.ref p from ru);obtain ⟨its,rv,pl,_⟩:=I.list hp;obtain ⟨l,rfl,el⟩:=strs_vals rv;exact PySem.SC.join pl.isList el hj fun t' k=>⟨.str _,H,I.tok k,⟨t',rfl⟩,q⟩
end
end L2
namespace L2
open PySem PySem.Spec PyProof.Rows
section
variable {X:Cx}{K:PySem.W.Frag}{o e:Expr}{es:List Expr}{to ta tl:TE}{t:TA}{name f:Str}{apos cpos pos:Pos}{T id:String}{r:V→List V→Hp→VK→Prop}{tg:Expr}
theorem pe_bmK (hK:X.K=K) (pa:PlainAttrs T) (slot:Slot T name id) (hty:typeOf (.builtin id)=pure (.type "method_descriptor")) (hm:MtR X id r) (ho:PE X o to) (ha:PA X (e :: es) t)
  (hbase:attributeBase o name X.env (eval o X.env)=eval o X.env:=by rfl)
  (hfew:((backTo cpos (starEach (e :: es) X.env)).all (fun x=>!x.1) && (backToKw cpos (keywordEach [] X.env)).all (fun x=>x.1.isSome)
   && decide ((e :: es).length + ([]:List Keyword).length + (if ([]:List Keyword).isEmpty then 0 else 1) < 30))=true:=by rfl)
  (hline:(apos.endLine == cpos.line)=true:=by rfl) (hs:starEach (e :: es) X.env=(false,eval e X.env) :: starEach es X.env:=by rfl) (hplain:(backTo cpos (starEach es X.env)).any (·.1)=false:=by rfl) :
  PE X (.Call (.Attribute o name apos) (e :: es) [] cpos) (tBM K T r to t):=by
 subst hK;exact pe_bm pa slot hty hm ho ha hbase hfew hline hs hplain
theorem zD3 (hK:X.K=K) {es:List Expr}{k:Nat}{t:TGs}{n:Nat} (hc:X.calm=true) (h:PGs X es t)
  (hn:(assignEach es X.env).length=n:=by rfl) (hst:(assignEach es X.env).findIdx? (·.1)=none:=by rfl):PG X (.Tuple es k pos) (gTup K n t):=by
 subst hK;exact pg_tup hc h hn hst
end
end L2
namespace L2
open PySem PySem.Spec PyProof.Rows
noncomputable def constV:Expr→Option V
 | .Constant (.int i) _ _=>some (.int i)
 | .Constant (.str x) _ _=>some (.str x)
 | .Constant (.bool b) _ _=>some (.bl b)
 | .Constant .none _ _=>some .non
 | _=>none
theorem zDj {X:Cx}{e:Expr}{v:V} (h:constV e=some v):PE X e (tC v)∧∀ es,starEach (e :: es) X.env=(false,eval e X.env) :: starEach es X.env:=by
 unfold constV at h;split at h
 ·cases h;exact ⟨zA4,fun _=>rfl⟩
 ·cases h;exact ⟨zAc,fun _=>rfl⟩
 ·cases h;exact ⟨zBt,fun _=>rfl⟩
 ·cases h;exact ⟨zBq,fun _=>rfl⟩
 ·cases h
noncomputable def tConsts (vs:List V):TA:=fun _ H Q=>Q vs H
theorem zB6 {X:Cx}:∀ {es:List Expr}{vs:List V},es.map constV=vs.map some→PA X es (tConsts vs)
 | [],[],_=>zA1
 | [],_ :: _,h=>by cases h
 | _ :: _,[],h=>by cases h
 | e :: es,v :: vs,h=>by
  rw [Zj,Zj] at h;injection h with h1 h2;obtain ⟨p,q⟩:=zDj (X:=X) h1;exact zA0 p (zB6 h2) (q es)
noncomputable def constL:Expr→Option (List V)
 | .List es _=>es.mapM constV
 | _=>none
theorem zCx:∀ {es:List Expr}{vs:List V},es.mapM constV=some vs→es.map constV=vs.map some
 | [],vs,h=>by
  rw [List.mapM_nil] at h;cases h;rfl
 | e :: es,vs,h=>by
  rw [List.mapM_cons] at h;cases q:constV e with
  | none=>rw [q] at h;cases h
  | some v =>
   rw [q] at h;cases r:es.mapM constV with
   | none=>rw [r] at h;cases h
   | some ws =>
    rw [r] at h;cases h;rw [Zj,Zj,q,zCx r]
noncomputable def Laid (H H':Hp):List (List V)→List V→Prop:=Paired fun vs r=>∃ a,r=V.ref a∧H a=none∧H' a=some (.lst vs)
theorem Laid.mono {H0 H H' H2:Hp} (s0:Same H0 H) (s:Same H' H2) {vss:List (List V)}{rs:List V} (h:Laid H H' vss rs):Laid H0 H2 vss rs :=
 Paired.mapP h fun vs r ⟨a,e,n,q⟩=>⟨a,e,s0.free n,s _ _ q⟩
noncomputable def tLists (vss:List (List V)):TA:=fun _ H Q=>∀ rs H',Same H H'→Laid H H' vss rs→Q rs H'
theorem zCd {X:Cx}:∀ {es:List Expr}{vss:List (List V)},es.map constL=vss.map some→(vss.all fun vs=>decide (vs.length≤1000))=true→PA X es (tLists vss)
 | [],[],_,_=>fun pos pins s σ H Q I h=>zA1 pos pins s σ H Q I (h [] H (Same.refl _) .nil)
 | [],_ :: _,h,_=>by cases h
 | _ :: _,[],h,_=>by cases h
 | e :: es,vs :: vss,h,hz=>by
  rw [Zj,Zj] at h;injection h with h1 h2;rw [Yd,Zq] at hz;have ih:=zCd (X:=X) h2 hz.2;cases e with
  | List ls lp =>
   have hc:=zCx (show ls.mapM constV=some vs from h1);have pe:PE X (.List ls lp) (tLst (tConsts vs)):=zAi (zB6 hc);intro pos pins s σ H Q I q;refine zA0 pe ih rfl pos pins s σ H Q I ?_;refine ⟨Zh (small1000 (of_decide_eq_true hz.1)),fun p hp rs H' s' l'=>?_⟩;exact q _ _ ((Same.new hp).trans s') (.cons ⟨p,rfl,hp,s' _ _ zA2⟩ (l'.mono (Same.new hp) (Same.refl _)))
  | _=>cases h1
end L2
namespace L2
open PySem PySem.Spec PyProof.Rows
section
variable {X:Cx}
end
end L2
namespace L2
open PySem PySem.Spec PyProof.Rows
noncomputable def Kept (h h':Heap):Prop:=∀ b o,h.get? b=some o→h'.get? b=some o
theorem Kept.trans {a b c:Heap} (x:Kept a b) (y:Kept b c):Kept a c:=fun p o e=>y p o (x p o e)
theorem Kept.push (h:Heap) (o:Obj):Kept h (h.push o):=fun _ _ e=>Z0 _ e
theorem Kept.same {g h h':Heap}{a:Addr} (k:Kept g h) (ha:g.objs.size≤a) (sb:Heap.SameBut a h h'):Kept g h':=fun b o e =>
 (sb.2 b (Z4 (Z3 (Z2 e) ha))).trans (k b o e)
theorem Kept.but {g h h':Heap}{a:Addr} (k:Kept g h) (ha:g.objs.size≤a) (sb:∀ b o,b∉[a]→h.get? b=some o→h'.get? b=some o):Kept g h':=fun b o e =>
 sb b o (fun z=>Z4 (Z3 (Z2 e) ha) (List.mem_singleton.mp z)) (k b o e)
noncomputable def ltS (a b:Str):Prop:=a.cps.toList < b.cps.toList
noncomputable instance (a b:Str):Decidable (ltS a b):=inferInstanceAs (Decidable (a.cps.toList < b.cps.toList))
section
variable {P:Program}{w:World}{A:Around}{E:Value→Shared→Prop}{z:Shared}{g:Heap}{l q I S:Addr}{vs:List Value}{R:Result→Shared→Prop}
end
end L2
namespace L2
open PySem PySem.Spec PyProof.Rows
noncomputable def CodeO (c:Addr) (q:Str):HO:=.ext fun h=>h.CodeRec (.ref c) q
noncomputable def TabOk (H:Hp) (P:Addr) (pos:Pos) (q:Str):Prop:=H P=some (.tbl #[])∨∃ c,H P=some (.tbl #[rawInt pos.line,rawInt pos.col,.ref c])∧H c=some (CodeO c q)
theorem TabOk.ne {H:Hp}{P:Addr}{pos:Pos}{q:Str} (T:TabOk H P pos q) {a:Addr}{o:HO} (e:H a=some o) (h:∀ ps,o≠.tbl ps):a≠P:=by
 rintro rfl;rcases T with z | ⟨c,z,_⟩ <;> rw [e] at z <;> exact h _ (Zd z)
noncomputable def BltAt (mg:Str→Option Value) (base:Heap):Prop:=∃ (bm:Addr) (ob:Obj),mg "__builtins__" = some (.ref bm)∧bm≠builtinsNs∧bm≠mainGlobals∧base.get? bm=some ob∧ob.cls=.type "module"∧ob.dict=some builtinsNs∧ob.data=.plain
section
variable {X:Cx}{pins:List (Addr×Obj)}{σ : St}{H:Hp}{s:Shared}{A:Around}{E:Value→Shared→Prop}
end
section
variable {P:Program}{w:World}{A:Around}{z:Shared}
end
section
variable {X:Cx}
end
end L2
namespace L2
open PySem PySem.Spec PyProof.Rows
theorem blt_of {p:Program}{loose:List Str}{mean:ExcName→Option Value}{mg mb:Str→Option Value}{h:Heap} (T:PyProof.Rows.Top p loose mean mg mb h):BltAt mg h:=by
 obtain ⟨bm,ob,b1,b2,b3,b4,b5,b6⟩:=T.bmain;refine ⟨bm,ob,b1,b2,fun q=>?_,b3,b4,b5,b6⟩;obtain ⟨o,es,ep,e,hd,_⟩:=T.g;rw [q,e] at b3;cases b3;rw [hd] at b6;cases b6
end L2
namespace L2
open PySem PySem.Spec PyProof.Rows
noncomputable def Ite (K:PySem.W.Frag) (a:Addr):It :=
 ⟨fun i H=>∃ xs x,SqL K H a xs∧xs[i]? = some x,
  fun i H v H'=>∃ p x,v=.ref p∧H p=none∧H'=upd H p (.tup [.int (i:Nat),x])∧∀ xs,SqL K H a xs→xs[i]? = some x,
  fun i H=>∃ xs,SqL K H a xs∧xs.length≤i⟩
theorem turn_enum {P:Program}{w:World}{K:PySem.W.Frag}{es:List Expr}{x1:_}{pos:Pos}{l e it:Addr} (D:e≠it) :
  Turn P w K (.Tuple es x1 pos) (Ite K l) [e,it] e (fun i h=>(∃ old,IsEnum h e it ((i:Nat):Int) old)∧h.IsListIter it l i) where
 mem:=by simp
 obj:=fun i h st b hb=>by
  obtain ⟨⟨old,h1⟩,⟨o4,h4,_,d4⟩⟩:=st;simp only [Zk,Zf,or_false] at hb;rcases hb with rfl | rfl
  ·exact ⟨_,h1,fun v q=>by cases (show Data.fields _=Data.cell v from q)⟩
  ·exact ⟨_,h4,fun v q=>by rw [d4] at q;cases q⟩
 keep:=fun i h h' st k=>by
  obtain ⟨⟨old,h1⟩,h4⟩:=st;exact ⟨⟨old,k e (by simp) _ h1⟩,h4.at fun o q=>k it (by simp) o q⟩
 item:=by
  intro X hP hw hK hc i pins s σ H E I hf st hg;subst hP hw hK;obtain ⟨⟨old,h1⟩,h4⟩:=st;obtain ⟨xs,x,qx,ex⟩:=hg;obtain ⟨its,rx,px,_⟩:=I.list qx;obtain ⟨u,hu,ru⟩:=rx.get ex;refine wpAny_pyNext_enum_item h1 h4 px.isList (x:=u) (by simpa using hu) D fun h' a1 a2 a3 a4 a5=>?_;refine ⟨_,rfl,wpAny_letOwnedTupleGo_enum a1 fun h2' b1 sb=>?_⟩;have ne:s.heap.objs.size≠e:=fun q=>by have:=Z2 h1;rw [← q] at this;exact Zy _ this
  have J:Inv X pins σ H { s with heap:=h2',toks:=s.toks + 1 }:=I.turns (t':=s.toks + 1) (ch:=[e,it]) (fun b o hb q=>by
   simp only [Zk,Zf,or_false,not_or] at hb
   exact (sb.2 b hb.1).trans (a5 b o hb.1 hb.2 q)) hf
  have gT:h2'.get? s.heap.objs.size=some { cls:=.type "tuple",data:=.seq #[.int (i:Nat) s.toks,u] }:=(sb.2 _ ne).trans a3;have fT:H s.heap.objs.size=none:=I.hok.fresh (Z5 _)
  have J2:Inv X pins σ (upd H s.heap.objs.size (.tup [.int (i:Nat),x])) { s with heap:=h2',toks:=s.toks + 1 }:=J.adopt fT I.sz (Ya I.lt) (fun n c q=>by
    obtain ⟨w',q⟩:=I.cell n c q
    exact Z4 q.lt) (fun p hp=>Z4 (Z2 (I.pin p hp).1)) ⟨by show 2≤sizeLine;decide,[.int (i:Nat) s.toks,u],.cons ⟨_,rfl⟩ (.cons ru .nil),⟨_,gT,rfl,_,rfl⟩⟩
  refine ⟨.ref s.heap.objs.size,_,J2,rfl,⟨_,x,rfl,fT,rfl,fun zs hz=>by rw [I.list_inj hz qx];exact ex⟩,⟨⟨u,?_⟩,a2.at fun o q=>(sb.2 _ (Ne.symm D)).trans q⟩,fun b hb=>?_⟩
  ·have:(((i + 1:Nat)):Int)=(i:Int) + 1:=by push_cast;rfl
   rw [this];exact b1
  ·have hb':=(hf b hb).1;have:b≠s.heap.objs.size:=by
    rintro rfl;obtain ⟨o,q⟩:∃ o,s.heap.get? s.heap.objs.size=some o:=by
     simp only [Zk,Zf,or_false] at hb;rcases hb with q | q <;> rw [q]
     ·exact ⟨_,h1⟩
     ·obtain ⟨o,q,_⟩:=h4;exact ⟨o,q⟩
    exact Zy _ (Z2 q)
   rw [zA9 this];exact hb'
 done:=by
  intro X hP hw hK hc i pins s σ H E I hf st hg;subst hP hw hK;obtain ⟨⟨old,h1⟩,h4⟩:=st;obtain ⟨xs,qx,hend⟩:=hg;obtain ⟨its,rx,px,_⟩:=I.list qx;have e1:=rx.length;refine wpAny_pyNext_enum_end (I.ok.hd hc) h1 h4 px.isList (by simp;omega) fun h' kk=>⟨rfl,I.turns (t':=s.toks) (ch:=[e,it]) (fun b o hb q=>?_) hf⟩;simp only [Zk,Zf,or_false,not_or] at hb;exact kk b o hb.2 q
 self:=fun _ _ _ _ _ st h=>wpAny_pyIter_enum st.1.choose_spec h
noncomputable def iEnum (K:PySem.W.Frag) (ta:TA):TI:=fun σ H R=>ta σ H fun vs H1=>∃ a,vs=[.ref a]∧(∃ xs,SqL K H1 a xs)∧R (Ite K a) H1
section
variable {X:Cx}
theorem pi_enum {es:List Expr}{x1:_}{tp:Pos}{e1:Expr}{ta:TA}{p pos:Pos} (hg:Gl X "enumerate") (hm:X.mg "enumerate" = none) (ha:PA X [e1] ta) (hs:starEach [e1] X.env=[(false,eval e1 X.env)]:=by rfl) :
  PI X (.Tuple es x1 tp) (.Call (.Name "enumerate" p) [e1] [] pos) (iEnum X.K ta):=by
 intro pins s σ H R I h;refine Call_ (zCl I hg hm boot_enumerate (PyProof.Rows.callWith_type1 (thn (ha pos pins s σ H _ I h) fun us s1 ⟨vs,H1,I1,r1,q1⟩=>?_) hs rfl));obtain ⟨a,rfl,⟨xs,qx⟩,q⟩:=q1;obtain ⟨u,rfl,ru⟩:=v1 r1;cases (show u=Value.ref a from ru);obtain ⟨its,rx,px,_⟩:=I1.list qx;refine call_enumerate_list px.isList fun h' a1 a2 a3 a4=>wpAny_pyIter_enum a1 ?_;have I2:Inv X pins σ H1 { s1 with heap:=h' }:=I1.kept (t':=s1.toks) a4;refine ⟨s1.heap.objs.size + 1,[s1.heap.objs.size + 1,s1.heap.objs.size],_,_,H1,rfl,I2,turn_enum (Nat.succ_ne_self _),⟨⟨_,a1⟩,a2⟩,fun c hc=>?_,q⟩;have hc':s1.heap.objs.size≤c:=by
  simp only [Zk,Zf,or_false] at hc;rcases hc with q | q
  ·rw [q];exact Nat.le_succ _
  ·rw [q];exact Z5 _
 exact I1.fpOk hc' (I1.hok.fresh hc')
end
noncomputable def Froze (H:Hp) (d:Addr) (kvs:List (Key×V)) (H':Hp):Prop:=∃ o,H'=upd H d (.frz o (.dK kvs))
theorem Froze.at {H H':Hp}{d:Addr}{kvs:List (Key×V)} (z:Froze H d kvs H'):Rd H' d (.dK kvs):=by
 obtain ⟨o,rfl⟩:=z;exact .inr ⟨o,zA2⟩
theorem Froze.ne {H H':Hp}{d:Addr}{kvs:List (Key×V)} (z:Froze H d kvs H') {b:Addr} (h:b≠d):H' b=H b:=by
 obtain ⟨o,rfl⟩:=z;exact zA9 h
section
variable {X:Cx}{pins:List (Addr×Obj)}{σ : St}{H:Hp}{s:Shared}{d:Addr}{kvs:List (Key×V)}
end
theorem KV.len {κ : Type}{kvs:List (κ×V)}{vs:List (κ×Value)} (h:KV kvs vs):kvs.length=vs.length:=Paired.length h
theorem key_rel {k:Key}{v:Value} (h:keyIs k v=true):RelV (kV k) v:=by
 rcases zAj h with ⟨i,t,rfl,rfl⟩ | ⟨x,t,rfl,rfl⟩
 ·exact ⟨t,rfl⟩
 ·exact ⟨t,rfl⟩
section
variable {X:Cx}{tg:Expr}
end
end L2
namespace L2
open PySem PySem.Spec PyProof.Rows
theorem lk_list_keys:typeLookup (.type "list") "keys" = pure none:=by rw [typeLookup_type,builtinLookup_eq_fast];kernel_rfl
theorem entry_dul:entryFor table "dict.update.loop" = some Builtin.«dict.update.loop»:=entryFor_of_tree (by kernel_rfl)
theorem zBo:plainId "dict.update.loop" = true:=by decide +kernel
section
variable {P:Program}{w:World}{A:Around}{E:Value→Shared→Prop}
theorem no_keys {s:Shared}{a:Addr}{o:Obj}{xs:Array Value}{k:Nat}{Q:Option Value→Shared→Prop} (hx:s.heap.get? a=some o) (hc:o.cls=.type "list") (hdat:o.data=.seq xs k) (hd:o.dict=none) (hA:A.handled=none)
  (h:∀ h' tk,Kept s.heap h'→Q none { s with heap:=h',toks:=tk }):wpAny (model P w) A (getAttr? (.ref a) "keys") Q E s:=by
 obtain ⟨c,dct,dat,sl⟩:=o;simp only at hc hdat hd;subst hc hdat hd;obtain ⟨hp,g,d,tk,os⟩:=s;have hT:∀ n,(⟨hp,g,d,n,os⟩:Shared).TypeIs (.ref a) "list":=fun _=>⟨_,hx,rfl⟩;have f1:=sub_AttributeError;have f3:=F.slot_list_getattribute.lookup;have f4:=F.slot_list_getattribute.bind (.ref a);have f5:=am_list_getattr_none;unfold getAttr? getAttrBy? getAttrBy
 repeat (any_goals (first | assumption | exact hT _ | ((with_reducible show wpAny _ _ (call (Value.builtin "list.__getattribute__") _ _) _ _ _);refine call_meets F.slot_list_getattribute (hT _) am_entry_list_getattribute (F.args_list_getattribute_2 _ _) (meets_getattribute_miss_list a xs k sl "keys" _ lk_list_keys (by decide) (by size_fits)) ⟨hx,hA,fun h' tk' e hx'=>?_⟩) | wp_step))
 obtain ⟨t',u',he⟩:=hx'.there;show wpAny _ _ (getattributeRaised _ _ _ _ _ _ _) _ _ _;unfold getattributeRaised hookOrError attributeErrorLeaves
 repeat (any_goals (first | assumption | wp_step))
 exact h _ _ hx'.of.keeps
theorem nodup_at {α : Type}{l:List α} (h:l.Nodup) {i j:Nat}{x : α} (a:l[i]? = some x) (b:l[j]? = some x):i=j:=by
 obtain ⟨h1,e1⟩:=List.getElem?_eq_some_iff.mp a;obtain ⟨h2,e2⟩:=List.getElem?_eq_some_iff.mp b;exact (List.getElem_inj h).mp (e1.trans e2.symm)
theorem pairs_loop {z:Shared}{g:Heap}{l I d:Addr}{its:List Value}{ps:List (Key×Value)}{R:Result→Shared→Prop} (hh:A.handled=none) (hl:g.IsList l its.toArray) (hI:g.objs.size≤I) (hd:g.objs.size≤d) (ne:d≠I) (hz:its.length≤sizeLine)
  (len:ps.length=its.length) (nd:(ps.map (·.1)).Nodup) (hp:∀ (i:Nat) (v:Value) (k:Key) (u:Value),its[i]? = some v→ps[i]? = some (k,u)→∃ (t:Addr) (y:Value),v=.ref t∧IsTup g t #[y,u]∧keyIs k y=true)
  (fin:∀ h tk,Kept g h→h.DictOf (mixKind P w) d ps→R (.ok (.ret .none)) { z with heap:=h,toks:=tk }) :
  ∀ (r i:Nat) (h:Heap) (tk:Nat),its.length - i=r→i≤its.length→Kept g h→h.DictOf (mixKind P w) d (ps.take i)→h.IsListIter I l i →
   codeAny (model P w) A (.builtin "dict.update.loop" ⟨[.ref d,.ref I,rawInt (i:Nat),.none],[]⟩) R { z with heap:=h,toks:=tk }:=by
 have hlI:l≠I:=by
  obtain ⟨o,e,_⟩:=hl;exact Z4 (Z3 (Z2 e) hI)
 have W:=Walks.list (prog:=P) (w:=w) (A:=A.in1) hh I l hlI its.toArray;have sz:its.toArray.size=its.length:=by simp
 have lst:∀ {h},Kept g h→h.IsList l its.toArray:=fun {h} k=>by
  obtain ⟨o,e,r⟩:=hl;exact ⟨o,k _ _ e,r⟩
 have dk:∀ {h h':Heap}{q:List (Key×Value)},h.DictOf (mixKind P w) d q→(∀ b o,b∉[I]→h.get? b=some o→h'.get? b=some o)→h'.DictOf (mixKind P w) d q:=fun ⟨o,es,ep,e,r⟩ k=>⟨o,es,ep,k _ _ (by simpa using ne) e,r⟩;intro r
 induction r with
 | zero =>
  intro i h tk hr hi k hm it;have hin:i=its.length:=by omega
  subst hin;refine codeAny_builtin entry_dul ?_;rw [Around.under_plainId zBo _];show wpAny _ A.in1 (pyNext (Value.ref I) >>= _) _ _ _;refine wpAny_bind (W.done _ _ _ ⟨by rw [sz];exact it,lst k⟩ fun h1 tk1 k1=>?_);show wpAny _ A.in1 (Builtin.Dict.addKeywords d [] >>= _) _ _ _;refine wpAny_bind (wpAny_pure (wpAny_pure ?_));rw [← len,Zr] at hm;exact fin _ _ (k.but hI k1) (dk hm k1)
 | succ r ih =>
  intro i h tk hr hi k hm it;have hlt:i < its.length:=by omega
  refine codeAny_builtin entry_dul ?_;rw [Around.under_plainId zBo _];show wpAny _ A.in1 (pyNext (Value.ref I) >>= _) _ _ _;refine wpAny_bind (W.item i _ _ _ (by rw [sz];exact hlt) ⟨it,lst k⟩ fun v h1 tk1 hv st k1=>?_);have hv':its[i]? = some v:=by simpa using hv
  obtain ⟨⟨key,u⟩,hk⟩:∃ p,ps[i]? = some p:=⟨_,Zc (by omega)⟩;obtain ⟨t,y,rfl,ht,hy⟩:=hp i v key u hv' hk;have kg:=k.but hI k1;have ht1:=ht.keeps kg;obtain ⟨o,ho,hc,n,hdt⟩:=id ht1;have hT:({ z with heap:=h1,toks:=tk1 }:Shared).TypeIs (.ref t) "tuple":=⟨o,ho,hc⟩;refine wpAny_bind (wpAny_holding (wpAny_bind (wpAny_tryCatch ?_)));unfold Builtin.Dict.pairItems;refine wpAny_bind (wpAny_typeOf hT ?_);rw [if_pos (by decide)];refine wpAny_bind (wpAny_seqItems ho hdt (wpAny_pure ?_));show wpAny _ A.in1 (holding [y,u] (dictSet d y u)) _ _ _;have hm1:=dk hm k1;have nk:key∉(ps.take i).map (·.1):=fun m=>by
   obtain ⟨q,hq,e⟩:=List.mem_map.mp m;obtain ⟨j,hj,ej⟩:=List.getElem_of_mem hq;have hj':j < i:=by simp at hj;omega
   have e1:(ps.map (·.1))[j]? = some key:=by
    have:ps[j]? = some q:=by
     have:=Zc hj;rw [List.getElem?_take_of_lt hj'] at this;rw [this,ej]
    simp [this,e]
   have e2:(ps.map (·.1))[i]? = some key:=by simp [hk]
   have:=nodup_at nd e1 e2;omega
  have st1:stored (ps.take i) key u=ps.take (i + 1):=by
   have hany:¬ ((ps.take i).any fun kv=>decide (kv.1=key))=true:=by
    rw [List.any_eq_true];rintro ⟨kv,h1,h2⟩;exact nk (List.mem_map.mpr ⟨kv,h1,of_decide_eq_true h2⟩)
   rw [stored,if_neg hany,Zn,hk];rfl
  refine wpAny_holding (wpAny_dictSet_pairs (knd:=mixKind P w) (k:=key) hy hm1 (fun h2 hm2 sb=>?_) (by have:=Zl i ps;omega));rw [st1] at hm2;refine wpAny_pure ⟨plainId_quiet zBo _,?_⟩;have e3:((i:Nat):Int) + 1=((i + 1:Nat):Int):=by push_cast;rfl
  show codeAny _ A (.builtin "dict.update.loop" ⟨[.ref d,.ref I,rawInt (((i:Nat):Int) + 1),.none],[]⟩) _ _;rw [e3];exact ih (i + 1) h2 _ (by omega) (by omega) (kg.same hd sb) hm2 (st.1.at fun o e=>(sb.2 I (Ne.symm ne)).trans e)
theorem call_pairs {z:Shared}{l:Addr}{its:List Value}{ps:List (Key×Value)}{Q:Value→Shared→Prop} (hh:A.handled=none) (hl:PlainL z.heap l its.toArray) (hz:its.length≤sizeLine)
  (len:ps.length=its.length) (nd:(ps.map (·.1)).Nodup) (hp:∀ (i:Nat) (v:Value) (k:Key) (u:Value),its[i]? = some v→ps[i]? = some (k,u)→∃ (t:Addr) (y:Value),v=.ref t∧IsTup z.heap t #[y,u]∧keyIs k y=true)
  (fin:∀ h tk,Kept z.heap h→h.DictOf (mixKind P w) z.heap.objs.size ps→Q (.ref z.heap.objs.size) { z with heap:=h,toks:=tk }) :
  wpAny (model P w) A (call (.type "dict") [.ref l]) Q E z:=by
 refine callType_codes (Q₁:=fun obj s₁=>obj=.ref z.heap.objs.size∧s₁ = { z with heap:=z.heap.push { cls:=.type "dict",data:=.dict #[] } }) F.kt_called_dict (F.kt_typeCall_dict_1 _) F.entry_dict_init (kt_code_dict_new _ ⟨rfl,rfl⟩) ?_;rintro obj s₁ ⟨rfl,rfl⟩;have hnew:(z.heap.push { cls:=.type "dict",data:=.dict #[] }).DictOf (mixKind P w) z.heap.objs.size []:=Heap.DictOf.new z.heap;have k0:Kept z.heap (z.heap.push { cls:=.type "dict",data:=.dict #[] }):=Kept.push _ _;obtain ⟨ol,n,el,cl,dl,sl⟩:=id hl;refine ⟨hnew.typeIs,F.args_dict_init_2 _ _,?_⟩;unfold Builtin.«dict.__init__»;refine wpAny_bind ?_;unfold Builtin.Dict.selfAndRest;refine wpAny_bind (wpAny_notOrdered_dict hnew.typeIs ?_);show wpAny _ _ (pure (z.heap.objs.size,[Value.ref l])) _ _ _;refine wpAny_pure ?_;show wpAny _ _ (Builtin.Dict.updateFrom "dict.__init__" z.heap.objs.size (.ref l) [] .none) _ _ _;unfold Builtin.Dict.updateFrom;have hT:({ z with heap:=z.heap.push { cls:=.type "dict",data:=.dict #[] } }:Shared).TypeIs (.ref l) "list":=⟨ol,k0 _ _ el,cl⟩;refine wpAny_bind (wpAny_typeOf hT ?_);rw [if_pos (by decide)];refine wpAny_bind (no_keys (k0 _ _ el) cl sl dl hh fun h1 tk1 k1=>?_);simp only [Option.isNone_none,if_true];have hl1:h1.IsList l its.toArray:=by
  obtain ⟨o,e,r⟩:=hl.isList;exact ⟨o,k1 _ _ (k0 _ _ e),r⟩
 refine wpAny_bind (wpAny_rule (wpAny_bind (wpAny_pyIter_list hl1 (wpAny_pure ⟨plainId_quiet zBo _,?_⟩))));have sz1:z.heap.objs.size + 1≤h1.objs.size:=by
  have:=Z2 (k1 _ _ (Z7 z.heap (o:={ cls:=.type "dict",data:=.dict #[] }) rfl));exact this
 refine pairs_loop (g:=z.heap) (z:=z) (A:=A.in1) hh hl.isList (I:=h1.objs.size) (d:=z.heap.objs.size) (by omega) (Z5 _) (Z4 (by omega)) hz len nd hp (fun h tk kk hm=>⟨rfl,fin h tk kk hm⟩) _ 0 _ _ rfl (Zv _) ((k0.trans k1).trans (Kept.push _ _)) ?_ ⟨_,Z7 _ rfl,rfl,rfl⟩;obtain ⟨o,es,ep,e,r⟩:=hnew;exact ⟨o,es,ep,Z0 _ (k1 _ _ e),r⟩
end
section
variable {X:Cx}
theorem zCp {K:PySem.W.Frag} (hK:X.K=K):CallR X (.type "dict") (fun vs H Q=>∃ (l:Addr) (ts:List Addr) (kvs:List (Key×V)),vs=[.ref l]∧SqL K H l (ts.map V.ref)∧X.calm=true∧(kvs.map (·.1)).Nodup∧kvs.length=ts.length ∧
  (∀ (i:Nat) (t:Addr) (k:Key) (v:V),ts[i]? = some t→kvs[i]? = some (k,v)→H t=some (.tup [kV k,v]))∧∀ p,H p=none→Q (.ref p) (upd H p (.dK kvs))):=by
 subst hK;intro pins s σ H vs us Q I rv h;obtain ⟨l,ts,kvs,rfl,hl,hc,nd,ln,ht,q⟩:=h;obtain ⟨u,rfl,ru⟩:=v1 rv;cases (show u=Value.ref l from ru);obtain ⟨its,rx,pl,hz⟩:=I.list hl;have il:=rx.length;simp only [Z1] at il hz;have one:∀ (i:Nat) (v:Value),its[i]? = some v→∃ (t:Addr) (k:Key) (x:V) (y u:Value),v=.ref t∧kvs[i]? = some (k,x)∧IsTup s.heap t #[y,u]∧keyIs k y=true∧RelV x u:=fun i v e=>by
  have hi:i < its.length:=(List.getElem?_eq_some_iff.mp e).1;obtain ⟨t,et⟩:∃ t,ts[i]? = some t:=⟨_,Zc (by omega)⟩;obtain ⟨⟨k,x⟩,ek⟩:∃ p,kvs[i]? = some p:=⟨_,Zc (by omega)⟩;obtain ⟨v',hv',r⟩:=rx.get (i:=i) (x:=.ref t) (by simp [et]);rw [e] at hv';cases hv';cases (show v=Value.ref t from r);obtain ⟨_,is,rr,it⟩:=I.hok t _ (ht i t k x et ek);obtain ⟨y,u,rfl,ry,ru⟩:=v2 rr;refine ⟨t,k,x,y,u,rfl,ek,it,?_,ru⟩;cases k with
  | inl n=>obtain ⟨tk,rfl⟩:=ry;exact keyIs_int n tk
  | inr z=>obtain ⟨tk,rfl⟩:=ry;exact keyIs_str z tk
 obtain ⟨ps,lp,hps⟩:∃ ps:List (Key×Value),ps.length=its.length∧∀ i,i < its.length→∃ (t:Addr) (k:Key) (x:V) (y u:Value),its[i]? = some (.ref t)∧kvs[i]? = some (k,x)∧IsTup s.heap t #[y,u]∧keyIs k y=true∧RelV x u∧ps[i]? = some (k,u):=by
  have:∀ i:Fin its.length,∃ p:Key×Value,∃ (t:Addr) (k:Key) (x:V) (y u:Value),its[i.1]? = some (.ref t)∧kvs[i.1]? = some (k,x)∧IsTup s.heap t #[y,u]∧keyIs k y=true∧RelV x u∧p=(k,u):=fun i=>by
   obtain ⟨v,hv⟩:∃ v,its[i.1]? = some v:=⟨_,Zc i.2⟩;obtain ⟨t,k,x,y,u,rfl,h2,h3,h4,h5⟩:=one i.1 v hv;exact ⟨(k,u),t,k,x,y,u,hv,h2,h3,h4,h5,rfl⟩
  refine ⟨List.ofFn fun i=>(this i).choose,by simp,fun i hi=>?_⟩;obtain ⟨t,k,x,y,u,a1,a2,a3,a4,a5,a6⟩:=(this ⟨i,hi⟩).choose_spec;exact ⟨t,k,x,y,u,a1,a2,a3,a4,a5,by rw [List.getElem?_ofFn,dif_pos hi,a6]⟩
 have keys:ps.map (·.1)=kvs.map (·.1):=by
  refine List.ext_getElem? fun i=>?_;by_cases hi:i < its.length
  ·obtain ⟨t,k,x,y,u,a1,a2,a3,a4,a5,a6⟩:=hps i hi;simp [a2,a6]
  ·rw [List.getElem?_eq_none (by simp;omega),List.getElem?_eq_none (by simp;omega)]
 have kv:KV kvs ps:=by
  have:∀ (a:List (Key×V)) (b:List (Key×Value)),a.length=b.length→(∀ (i:Nat) (k:Key) (x:V) (k':Key) (u:Value),a[i]? = some (k,x)→b[i]? = some (k',u)→k=k'∧RelV x u)→KV a b:=by
   intro a
   induction a with
   | nil =>
    intro b hb _;cases b with
    | nil=>exact .nil
    | cons _ _=>cases hb
   | cons p t ih =>
    intro b hb hr;cases b with
    | nil=>cases hb
    | cons c d=>exact .cons (hr 0 p.1 p.2 c.1 c.2 rfl rfl) (ih d (by simpa using hb) fun i k x k' u h1 h2=>hr (i + 1) k x k' u (by simpa using h1) (by simpa using h2))
  refine this _ _ (by omega) fun i k x k' u h1 h2=>?_;obtain ⟨t,k2,x2,y,u2,a1,a2,a3,a4,a5,a6⟩:=hps i (by rw [← lp];exact (List.getElem?_eq_some_iff.mp h2).1);rw [h1] at a2;cases a2;rw [h2] at a6;cases a6;exact ⟨rfl,a5⟩
 have fr:H s.heap.objs.size=none:=I.hok.fresh (Z5 _);refine call_pairs (P:=X.prog) (w:=X.w) (ps:=ps) (I.ok.hd hc) pl (by omega) lp (by rw [keys];exact nd) (fun i v k u hv hk=>?_) fun h tk kk hm=>?_
 ·obtain ⟨t,k2,x2,y,u2,a1,a2,a3,a4,a5,a6⟩:=hps i (List.getElem?_eq_some_iff.mp hv).1;rw [hv] at a1;cases a1;rw [hk] at a6;cases a6;exact ⟨t,y,rfl,a3,a4⟩
 ·refine ⟨.ref s.heap.objs.size,_,I.laid (t':=tk) (a:=s.heap.objs.size) (o:=.dK kvs) kk (Z5 _) ⟨by omega,?_,ps,kv,hm⟩,rfl,q _ fr⟩;have:=I.big;exact beq_false_of_ne (Ya this)
end
end L2
namespace L2
open PySem PySem.Spec PyProof.Rows
section
variable {X:Cx}
end
structure FunL (K:PySem.W.Frag) (x qual:Str) (st:Stmt) (f:Addr) (fd:FuncData) (c:Addr):Prop where
 ex:∃ (oc:Value) (od:Option Addr) (kV doc pm:Value) (an:Option Addr) (ct:Value) (osl:Array (Option Value)),
  fd=PySem.W.fnOf x qual (defArgs st) (defBody st) (defScope st) .none kV doc pm an (.ref c) ct∧K.lookup f=some ⟨oc,od,.func fd,osl⟩∧PySem.W.codeIn K (.ref c) qual=true
 kp:PySem.W.keepIn K (.ref f)=true
theorem FunL.okC {P:Program}{w:World}{K:PySem.W.Frag}{mg:Str→Option Value}{base:Heap}{CX:CXT}{x qual:Str}{st:Stmt}{f c:Addr}{fd:FuncData}{N ps:List Str}{k:Nat}{sp:Sp} (F:FunL K x qual st f fd c) (S:FnScope N ps (defScope st)) (len:∀ vs H Q E,sp vs H Q E→vs.length=ps.length)
  (hbody:∀ (A:Around) (outer:List Env) (s:Shared) (H:Hp) (vs:List V) (Q:VK) (E:XK),Room k (A.deeper (envOfC qual (defScope st) s.heap.objs.size f (.ref c)))→sp vs H Q E →
   ∃ t,PSs (cxOf CX P w K mg base N qual (defScope st) f (.ref c) A outer s H E).nox (defBody st) t∧t { nx:=fun _ H'=>Q .non H',rt:=Q } (start N vs) H):FnOk P w K mg base CX (k + 1) f fd ps sp:=by
 obtain ⟨oc,od,kV,doc,pm,an,ct,osl,rfl,lk,hcd⟩:=F.ex;refine zCr lk hcd S len fun A outer s H vs Q E hr hsp=>?_;obtain ⟨t,h,q⟩:=hbody A outer s H vs Q E hr hsp;exact ⟨t,h.nox,q⟩
end L2
namespace L2
open PySem PySem.Spec PyProof.Rows
end L2
namespace L2
open PySem PySem.Spec PyProof.Rows
section
variable {X:Cx}
end
end L2
namespace L2
open PySem PySem.Spec PyProof.Rows
noncomputable abbrev OKey:=Option Str
section
variable {P:Program}{w:World}{H:Hp}{h:Heap}{a:Addr}{kvs:List (OKey×V)}
end
section
variable {X:Cx}{o i e value:Expr}{pos pos' tpos:Pos}{td ty tv tk:TE}
end
end L2
namespace L2
open PySem PySem.Spec PyProof.Rows
end L2
namespace L2
open PySem PySem.Spec PyProof.Rows
noncomputable def P2 (e:Addr) (h:Heap):Prop:=∃ o vs,h.get? e=some o∧o.data=.fields vs∧vs[2]? = some Value.none
noncomputable def Kp (e:Addr) {α : Type} (t:Sem α):Prop:=∀ (M:Model) (Γ : PySem.Ctx) (Q : α→Pos→Shared→Prop) (E:Value→Pos→Shared→Prop) (p:Pos) (s:Shared),P2 e s.heap→Sem.wp M Γ t Q E p s →
 Sem.wp M Γ t (fun a p' s'=>Q a p' s'∧P2 e s'.heap) (fun v p' s'=>E v p' s'∧P2 e s'.heap) p s
section
variable {e:Addr}{α β : Type}
theorem Kp.pure (a : α):Kp e (Pure.pure a:Sem α):=fun M Γ Q E p s h w=>by
 rw [Sem.wp_pure'] at w ⊢;exact ⟨w,h⟩
theorem Kp.bind {m:Sem α}{f : α→Sem β} (hm:Kp e m) (hf:∀ a,Kp e (f a)):Kp e (m >>= f):=fun M Γ Q E p s h w=>by
 rw [Sem.wp_bind'] at w ⊢;exact Sem.wp_mono M Γ m (fun a p' s' z=>hf a M Γ Q E p' s' z.2 z.1) (fun _ _ _ z=>z) p s (hm M Γ _ E p s h w)
theorem Kp.un (x:String):Kp e (unsupported x:Sem α):=fun M Γ Q E p s h w=>by
 have z:False:=by simpa [unsupported] using w
 exact z.elim
theorem Kp.ld (a:Addr):Kp e (load a):=fun M Γ Q E p s h w=>by
 obtain ⟨o,h1,h2⟩:=(show ∃ o,s.heap.get? a=some o∧Q o p s from w);exact ⟨o,h1,h2,h⟩
theorem Kp.stk:Kp e stack:=fun M Γ Q E p s h w=>⟨w,h⟩
theorem Kp.alc (o:Obj):Kp e (alloc o):=fun M Γ Q E p s ⟨o',vs,h1,h2⟩ w=>⟨w,o',vs,Z0 _ h1,h2⟩
theorem Kp.upt (a:Addr) (f:Obj→Obj) (hf:∀ o vs,o.data=.fields vs→vs[2]? = some Value.none→∃ vs',(f o).data=.fields vs'∧vs'[2]? = some Value.none):Kp e (update a f):=fun M Γ Q E p s ⟨o,vs,h1,h2,h3⟩ ⟨w1,w2⟩=>by
 refine ⟨w1,w2,?_⟩;obtain ⟨vs',h4,h5⟩:=hf o vs h2 h3;by_cases z:a=e
 ·subst z;exact ⟨_,vs',Heap.get?_update_self f h1 (Obj.isFreed_of_fields h4),h4,h5⟩
 ·exact ⟨o,vs,(Heap.get?_update_other _ f z).trans h1,h2,h3⟩
theorem Kp.fld (v:Value) (i:Nat):Kp e (field v i):=by
 unfold field fieldsOf;cases v with
 | ref a =>
  refine .bind (.bind (.ld a) fun o=>?_) fun vs=>?_
  ·split
   ·exact .pure _
   ·exact .un _
  ·split
   ·exact .pure _
   ·exact .un _
 | _=>exact .bind (.un _) fun vs=>by split <;> first | exact .pure _ | exact .un _
theorem Kp.setF (v:Value) (i:Nat) (x:Value) (hi:i≠2):Kp e (setField v i x):=by
 unfold setField;cases v with
 | ref a =>
  unfold updateField;refine .bind (.ld a) fun o=>?_;split
  ·split
   ·refine .upt a _ fun o vs h1 h2=>⟨_,Obj.data_mapFields h1 _,?_⟩;rw [Array.getElem?_setIfInBounds_ne hi];exact h2
   ·exact .un _
  ·exact .un _
 | _=>exact .un _
theorem Kp.ite {c:Prop} [Decidable c] {a b:Sem α} (h1:Kp e a) (h2:Kp e b):Kp e (if c then a else b):=by
 split
 ·exact h1
 ·exact h2
theorem Kp.flt (v:Value) (f:Option Addr):Kp e (setFlight v f):=by
 unfold setFlight;exact .bind (.fld v 1) fun tb=>.ite (.setF _ _ _ (by decide)) (.pure _)
theorem Kp.kept (env:Env) (b:Bool):∀ l,Kp e (keptBack env b l)
 | []=>by
  unfold keptBack underTheClaimsCaller;exact .ite (.pure _) (.bind (.bind .stk fun _=>.pure _) fun b=>by cases b <;> exact .pure _)
 | _ :: _=>.pure _
theorem Kp.ready:∀ l,Kp e (readyFrames l)
 | []=>.pure _
 | env :: outer=>by
  unfold readyFrames;split
  ·refine .bind (.ld _) fun o=>.ite (.pure _) (.bind ?_ fun b=>.bind (.kept _ _ _) fun v=>.bind (.upt _ _ fun o vs h1 h2=>⟨vs,h1,h2⟩) fun _=>Kp.ready outer);unfold behindIsImport;exact .ite (.pure _) (.ite (.pure _) (.bind (.fld _ _) fun _=>.pure _))
  ·exact .un _
theorem Kp.frm (env:Env):Kp e (PySem.frameOf env):=by
 unfold PySem.frameOf frameEnvs;refine .bind (.bind .stk fun _=>.pure _) fun l=>.bind ?_ fun r=>?_
 ·generalize l.dropWhile _=k;cases k with
  | nil=>exact .pure _
  | cons a b=>exact .bind (.ready _) fun _=>.pure _
 ·split
  ·exact .pure _
  ·exact .un _
theorem Kp.place (f:Addr) (b:Bool):Kp e (entryPlaceOf f b):=by
 unfold entryPlaceOf;refine .bind .stk fun l=>?_;split
 ·exact .pure _
 ·exact .pure _
theorem Kp.note (v:Value) (env:Env):Kp e (noteFrame v env):=by
 unfold noteFrame;split
 ·refine .bind (.fld v 1) fun hd=>?_;have rest:Kp e (do setField v 1 (← EntryCells.newEntry hd (← PySem.frameOf env) .none (rawInt ‹Addr›) .none (← entryPlaceOf ‹Addr› (hd != .none)))):=by
   refine .bind (.frm env) fun _=>.bind (.place _ _) fun _=>.bind ?_ fun _=>.setF _ _ _ (by decide);unfold EntryCells.newEntry newFields newObj;have z:∀ d,Kp e (newObjAsIs (.type "traceback") d):=fun d=>.bind (.alc _) fun _=>.pure _;exact .ite (.bind (.un _) fun _=>z _) (z _)
  exact .ite (.bind (.fld hd 3) fun _=>.ite (.pure _) (.bind (.setF _ _ _ (by decide)) fun _=>rest)) rest
 ·exact .un _
theorem Kp.leave (v:Value) (env:Env):Kp e (leaving env v):=.bind (.note v env) fun _=>.flt v none
theorem zBm {M:Model}{A:Around}{E:Value→Shared→Prop}{s:Shared}{t:Sem α}{Q : α→Shared→Prop} (k:Kp e t) (h:P2 e s.heap) (w:wpAny M A t (fun a s'=>P2 e s'.heap→Q a s') E s):wpAny M A t Q E s:=fun Γ p hΓ =>
 Sem.wp_mono M Γ t (fun _ _ _ z=>z.1 z.2) (fun _ _ _ z=>z.1) p s (k M Γ _ _ p s h (w Γ p hΓ))
end
end L2
namespace L2.W
open PySem PySem.Spec PyProof.Rows
@[irreducible] noncomputable def PE (X:Cx) (e:Expr) (t:TE):Prop:=L2.PE X e t
theorem ePE : @L2.PE = @PE:=by unfold PE;rfl
@[irreducible] noncomputable def PT (X:Cx) (e:Expr) (t:TT):Prop:=L2.PT X e t
theorem ePT : @L2.PT = @PT:=by unfold PT;rfl
@[irreducible] noncomputable def PW (X:Cx) (e:Expr) (t:TT):Prop:=L2.PW X e t
theorem ePW : @L2.PW = @PW:=by unfold PW;rfl
@[irreducible] noncomputable def PA (X:Cx) (es:List Expr) (t:TA):Prop:=L2.PA X es t
theorem ePA : @L2.PA = @PA:=by unfold PA;rfl
@[irreducible] noncomputable def PS (X:Cx) (st:Stmt) (t:TS):Prop:=L2.PS X st t
theorem ePS : @L2.PS = @PS:=by unfold PS;rfl
@[irreducible] noncomputable def PSs (X:Cx) (st:List Stmt) (t:TS):Prop:=L2.PSs X st t
theorem ePSs : @L2.PSs = @PSs:=by unfold PSs;rfl
@[irreducible] noncomputable def PG (X:Cx) (g:Expr) (t:TG):Prop:=L2.PG X g t
theorem ePG : @L2.PG = @PG:=by unfold PG;rfl
@[irreducible] noncomputable def PGs (X:Cx) (ts:List Expr) (t:TGs):Prop:=L2.PGs X ts t
theorem ePGs : @L2.PGs = @PGs:=by unfold PGs;rfl
@[irreducible] noncomputable def PI (X:Cx) (tg iter:Expr) (wi:TI):Prop:=L2.PI X tg iter wi
theorem ePI : @L2.PI = @PI:=by unfold PI;rfl
@[irreducible] noncomputable def PFs (X:Cx) (ifs:List Expr) (t:TT):Prop:=L2.PFs X ifs t
theorem ePFs : @L2.PFs = @PFs:=by unfold PFs;rfl
noncomputable def zB0:=by have h:=@L2.zB0;rw [ePS,ePSs,ePT] at h;exact @h
noncomputable def zBr:=by have h:=@L2.zBr;rw [ePE] at h;exact @h
noncomputable def zAt:=by have h:=@L2.zAt;rw [ePE,ePT] at h;exact @h
noncomputable def ps_asg:=by have h:=@L2.ps_asg;rw [ePE,ePS,ePG] at h;exact @h
noncomputable def zAy:=by have h:=@L2.zAy;rw [ePE,ePA] at h;exact @h
noncomputable def zA5:=by have h:=@L2.zA5;rw [ePE,ePA] at h;exact @h
noncomputable def zAd:=by have h:=@L2.zAd;rw [ePE,ePS] at h;exact @h
noncomputable def zCr:=by have h:=@L2.zCr;rw [ePSs] at h;exact @h
noncomputable def zC3:=by have h:=@L2.zC3;rw [ePE,ePA] at h;exact @h
noncomputable def zAs:=by have h:=@L2.zAs;rw [ePE] at h;exact @h
noncomputable def pe_un:=by have h:=@L2.pe_un;rw [ePE] at h;exact @h
noncomputable def pe_bm:=by have h:=@L2.pe_bm;rw [ePE,ePA] at h;exact @h
noncomputable def zCf:=by have h:=@L2.zCf;rw [ePT,ePW] at h;exact @h
noncomputable def zBu:=by have h:=@L2.zBu;rw [ePE] at h;exact @h
noncomputable def zAg:=by have h:=@L2.zAg;rw [ePE] at h;exact @h
noncomputable def pv:=by have h:=@L2.pv;rw [ePE] at h;exact @h
noncomputable def ps_fld:=by have h:=@L2.ps_fld;rw [ePE,ePS] at h;exact @h
noncomputable def zA7:=by have h:=@L2.zA7;rw [ePS,ePSs] at h;exact @h
noncomputable def zB1:=by have h:=@L2.zB1;rw [ePE] at h;exact @h
noncomputable def zBj:=by have h:=@L2.zBj;rw [ePGs] at h;exact @h
noncomputable def pg_tup:=by have h:=@L2.pg_tup;rw [ePG,ePGs] at h;exact @h
noncomputable def zA3:=by have h:=@L2.zA3;rw [ePS,ePSs] at h;exact @h
noncomputable def bin:=by have h:=@L2.bin;rw [ePE] at h;exact @h
noncomputable def zD8:=by have h:=@L2.zD8;rw [ePE] at h;exact @h
noncomputable def zAx:=by have h:=@L2.zAx;rw [ePSs] at h;exact @h
noncomputable def zAk:=by have h:=@L2.zAk;rw [ePE] at h;exact @h
noncomputable def zAq:=by have h:=@L2.zAq;rw [ePG,ePGs] at h;exact @h
noncomputable def pe_var:=by have h:=@L2.pe_var;rw [ePE] at h;exact @h
noncomputable def zAe:=by have h:=@L2.zAe;rw [ePG] at h;exact @h
noncomputable def zBp:=by have h:=@L2.zBp;rw [ePA,ePI] at h;exact @h
noncomputable def zCu:=by have h:=@L2.zCu;rw [ePS,ePSs,ePG,ePI] at h;exact @h
noncomputable def zAl:=by have h:=@L2.zAl;rw [ePE,ePT] at h;exact @h
noncomputable def zA8:=by have h:=@L2.zA8;rw [ePE,ePA] at h;exact @h
noncomputable def zD7:=by have h:=@L2.zD7;rw [ePE] at h;exact @h
noncomputable def zBb:=by have h:=@L2.zBb;rw [ePT,ePW] at h;exact @h
noncomputable def zB5:=by have h:=@L2.zB5;rw [ePE,ePA] at h;exact @h
noncomputable def zCi:=by have h:=@L2.zCi;rw [ePE] at h;exact @h
noncomputable def binT:=by have h:=@L2.binT;rw [ePE] at h;exact @h
noncomputable def zB4:=by have h:=@L2.zB4;rw [ePE] at h;exact @h
noncomputable def zAf:=by have h:=@L2.zAf;rw [ePSs] at h;exact @h
noncomputable def PW.pt:=by have h:=@L2.PW.pt;rw [ePT,ePW] at h;exact @h
noncomputable def pw_and:=by have h:=@L2.pw_and;rw [ePT,ePW] at h;exact @h
noncomputable def pt_cmp:=by have h:=@L2.pt_cmp;rw [ePT] at h;exact @h
noncomputable def zB8:=by have h:=@L2.zB8;rw [ePE] at h;exact @h
noncomputable def zD6:=by have h:=@L2.zD6;rw [ePE] at h;exact @h
noncomputable def zA1:=by have h:=@L2.zA1;rw [ePA] at h;exact @h
noncomputable def zA4:=by have h:=@L2.zA4;rw [ePE] at h;exact @h
noncomputable def zAv:=by have h:=@L2.zAv;rw [ePE,ePI] at h;exact @h
noncomputable def PT.nox:=by have h:=@L2.PT.nox;rw [ePT] at h;exact @h
noncomputable def zAc:=by have h:=@L2.zAc;rw [ePE] at h;exact @h
noncomputable def zAb:=by have h:=@L2.zAb;rw [ePE,ePS] at h;exact @h
noncomputable def zBt:=by have h:=@L2.zBt;rw [ePE] at h;exact @h
noncomputable def zBi:=by have h:=@L2.zBi;rw [ePE] at h;exact @h
noncomputable def Fun.ok:=by have h:=@L2.Fun.ok;rw [ePSs] at h;exact @h
noncomputable def zAu:=by have h:=@L2.zAu;rw [ePT] at h;exact @h
noncomputable def pg_sub:=by have h:=@L2.pg_sub;rw [ePE,ePG] at h;exact @h
noncomputable def zBq:=by have h:=@L2.zBq;rw [ePE] at h;exact @h
noncomputable def zAi:=by have h:=@L2.zAi;rw [ePE,ePA] at h;exact @h
noncomputable def PSs.nox:=by have h:=@L2.PSs.nox;rw [ePSs] at h;exact @h
noncomputable def zA0:=by have h:=@L2.zA0;rw [ePE,ePA] at h;exact @h
noncomputable def PE.nox:=by have h:=@L2.PE.nox;rw [ePE] at h;exact @h
noncomputable def zCg:=by have h:=@L2.zCg;rw [ePE,ePS] at h;exact @h
noncomputable def zCb:=by have h:=@L2.zCb;rw [ePT,ePW] at h;exact @h
noncomputable def zBz:=by have h:=@L2.zBz;rw [ePE,ePG,ePFs] at h;exact @h
noncomputable def zBg:=by have h:=@L2.zBg;rw [ePE,ePS,ePG,ePI,ePFs] at h;exact @h
noncomputable def zAw:=by have h:=@L2.zAw;rw [ePE,ePG,ePI,ePFs] at h;exact @h
noncomputable def zAz:=by have h:=@L2.zAz;rw [ePFs] at h;exact @h
noncomputable def pi_str:=by have h:=@L2.pi_str;rw [ePE,ePI] at h;exact @h
noncomputable def Fun.okC:=by have h:=@L2.Fun.okC;rw [ePSs] at h;exact @h
noncomputable def pi_zip:=by have h:=@L2.pi_zip;rw [ePA,ePI] at h;exact @h
noncomputable def zD3:=by have h:=@L2.zD3;rw [ePG,ePGs] at h;exact @h
noncomputable def pe_bmK:=by have h:=@L2.pe_bmK;rw [ePE,ePA] at h;exact @h
noncomputable def zCd:=by have h:=@L2.zCd;rw [ePA] at h;exact @h
noncomputable def zB6:=by have h:=@L2.zB6;rw [ePA] at h;exact @h
noncomputable def zDj:=by have h:=@L2.zDj;rw [ePE] at h;exact @h
noncomputable def pi_enum:=by have h:=@L2.pi_enum;rw [ePA,ePI] at h;exact @h
noncomputable def FunL.okC:=by have h:=@L2.FunL.okC;rw [ePSs] at h;exact @h
end L2.W
namespace L2
open PySem PySem.Spec PyProof.Rows
noncomputable def XO (C a:Addr):HO:=.ext fun h=>∃ o vs,h.get? a=some o∧o.cls=.ref C∧o.data=.fields vs∧vs[2]? = some Value.none
section
variable {P:Program}{w:World}{H:Hp}{h:Heap}{a C:Addr}{o:HO}
theorem xo_ok {ob:Obj}{vs:Array Value} (e:h.get? a=some ob) (c:ob.cls=.ref C) (d:ob.data=.fields vs) (n:vs[2]? = some Value.none):ObjOk P w H h a (XO C a) :=
 ⟨⟨ob,vs,e,c,d,n⟩,⟨ob,e⟩,fun _ _ ⟨o,vs,e,c,d⟩ k=>⟨o,vs,k _ e,c,d⟩⟩
theorem xo_of (ok:HOk P w H h) (e:H a=some (XO C a)):∃ o vs,h.get? a=some o∧o.cls=.ref C∧o.data=.fields vs∧vs[2]? = some Value.none:=(show ObjOk P w H h a (XO C a) from ok a _ e).1
theorem xo_p2 (ok:HOk P w H h) (e:H a=some (XO C a)):P2 a h:=let ⟨o,vs,h1,_,h2⟩:=xo_of ok e;⟨o,vs,h1,h2⟩
theorem ObjOk.ex (x:ObjOk P w H h a o):∃ ob,h.get? a=some ob:=by
 cases o with
 | lst xs=>obtain ⟨_,_,_,_,e⟩:=x;exact ⟨_,e⟩
 | tup xs=>obtain ⟨_,_,_,ob,e,_⟩:=x;exact ⟨_,e⟩
 | dK kvs=>obtain ⟨_,_,_,_,o,_,_,e,_⟩:=x;exact ⟨_,e⟩
 | dT kvs=>obtain ⟨_,_,_,_,o,_,_,e,_⟩:=x;exact ⟨_,e⟩
 | set S n=>obtain ⟨o,_,_,_,e,_⟩:=x;exact ⟨_,e⟩
 | ins C dx fs=>obtain ⟨_,_,_,e,_⟩:=x;exact ⟨_,e⟩
 | own y=>exact x
 | xd fs=>obtain ⟨_,⟨_,_,_,e,_⟩,_⟩:=x;exact ⟨_,e⟩
 | rng lo hi=>obtain ⟨_,_,_,e⟩:=x;exact ⟨_,e⟩
 | frz ob u=>exact ⟨_,x.1⟩
 | tbl ps=>exact ⟨_,x⟩
 | met f y=>exact ⟨_,x⟩
 | ext φ=>exact x.2.1
theorem HOk.noth (ok:HOk P w H h) (e:h.get? a=none):H a=none:=by
 cases q:H a with
 | none=>rfl
 | some u =>
  obtain ⟨ob,eb⟩:=(ok a u q).ex;rw [e] at eb;cases eb
end
noncomputable def Tr (G:Addr→Prop) (H:Hp) (h:Heap) (e:Addr):Prop:=∃ o vs a0 T oT ts,h.get? e=some o∧o.data=.fields vs∧vs[0]? = some a0∧vs[1]? = some (.ref T)∧G T∧H T=none∧h.get? T=some oT∧oT.data=.fields ts∧ts[3]? = some .none
noncomputable def Fresh (h:Heap) (e:Addr):Prop:=∃ o vs a0,h.get? e=some o∧o.data=.fields vs∧vs[0]? = some a0∧vs[1]? = some .none
theorem Tr.imp {G G':Addr→Prop}{H:Hp}{h:Heap}{e:Addr} (x:Tr G H h e) (f:∀ T,G T→G' T):Tr G' H h e :=
 let ⟨o,vs,a0,T,oT,ts,h1,h2,h3,h4,g,r⟩:=x
 ⟨o,vs,a0,T,oT,ts,h1,h2,h3,h4,f _ g,r⟩
noncomputable def CXM (P:Program) (w:World):CXT:=fun outer H s E u s'=>∃ e C H',u=.ref e∧s'.os=s.os∧AllBare s'.gens∧Un (frs outer) [] H H' s.heap s'.heap∧HOk P w H' s'.heap∧H' e=some (XO C e)∧Tr (fun T=>s.heap.get? T=none) H' s'.heap e∧E (.ref C) (some e) H'
theorem calmM {P:Program}{w:World}:Calm (CXM P w):=fun _ _ _ _ _ ⟨_,_,_,_,_,_,_,_,_,_,q⟩=>q
structure Mvd (l:List Env) (e T0:Addr) (cls a0 fl:Value) (h h':Heap):Prop where
 keep:∀ b o,h.get? b=some o→b≠e→b≠T0→b∉frs l→h'.get? b=some o
 slot:∀ b o,h.get? b=some o→b∈frs l→∃ sl,h'.get? b=some { o with slots:=sl }
 tr:∃ oe vs T oT ts,h'.get? e=some oe∧oe.cls=cls∧vs[0]? = some a0∧oe.data=.fields vs∧vs[1]? = some (.ref T)∧(T=T0∨h.get? T=none)∧T≠e∧h'.get? T=some oT∧oT.data=.fields ts∧ts[3]? = some fl
 p2:P2 e h'
noncomputable abbrev bas (h:Heap) (l:List Env) (e T0:Addr):Heap:=PySem.W.hideAll h (e :: T0 :: frs l)
section
variable {base h h':Heap}{l:List Env}{e T0:Addr}{cls a0 fl:Value}
theorem moved (hl:h.FunFrames base l) (st:(bas h l e T0).StaysIn h') (ff:h'.FunFrames (bas h l e T0) l) (tr:h'.TracedAtW (bas h l e T0) e cls a0 fl) (up:h.UpToSlots h') (p2:P2 e h'):Mvd l e T0 cls a0 fl h h':=by
 refine ⟨fun b o q n1 n2 n3=>st b o (PySem.W.hideAll_get _ q ?_),fun b o q hb=>?_,?_,p2⟩
 ·intro z;rcases List.mem_cons.mp z with z | z
  ·exact n1 z
  ·rcases List.mem_cons.mp z with z | z
   ·exact n2 z
   ·exact n3 z
 ·obtain ⟨_,o',ho,hn⟩:=hl.mem hb;rw [q] at ho;cases ho;exact up b o q hn
 ·obtain ⟨oe,vs,T,oT,ts,he,⟨hc,h0⟩,hd,h1,hn,hne,hT,hdT,h3⟩:=tr;refine ⟨oe,vs,T,oT,ts,he,hc,h0,hd,h1,?_,hne,hT,hdT,h3⟩;cases q:h.get? T with
  | none=>exact .inr rfl
  | some o =>
   refine .inl (Classical.byContradiction fun nT=>?_);have:(bas h l e T0).get? T=some o:=PySem.W.hideAll_get _ q fun z=>by
    rcases List.mem_cons.mp z with z | z
    ·exact hne z
    ·rcases List.mem_cons.mp z with z | z
     ·exact nT z
     ·obtain ⟨_,o',ho,hnf⟩:=ff.mem z;rw [hT] at ho;cases ho;exact hnf _ hdT
   rw [hn] at this;cases this
theorem fly_of (hl:h.FunFrames base l) {oe oT:Obj}{vs ts:Array Value} (he:h.get? e=some oe) (hd:oe.data=.fields vs) (h0:vs[0]? = some a0) (h1:vs[1]? = some (.ref T0)) (hne:T0≠e) (hT:h.get? T0=some oT) (hdT:oT.data=.fields ts) (h3:ts[3]? = some .none) :
  Heap.FlyingW (bas h l e T0) l e oe.cls a0 h :=
 ⟨fun b o q=>PySem.W.of_hideAll _ q,PySem.W.hideAll_none _ (.head _),PySem.W.funFrames_hide hl fun env he a ea=>.tail _ (.tail _ (List.mem_filterMap.mpr ⟨env,he,ea⟩)),oe,vs,T0,oT,ts,he,⟨rfl,h0⟩,hd,h1,PySem.W.hideAll_none _ (.tail _ (.head _)),hne,hT,hdT,h3⟩
end
section
variable {X:Cx}{pins:List (Addr×Obj)}{σ : St}{H:Hp}{s:Shared}{e C T0:Addr}{h':Heap}{cls a0 fl:Value}
theorem Mvd.ex (m:Mvd X.stack e T0 cls a0 fl s.heap h') (b:Addr) (o:Obj) (q:s.heap.get? b=some o) (h2:b≠T0):∃ o',h'.get? b=some o':=by
 obtain ⟨oe,_,_,_,_,he,_⟩:=m.tr;by_cases h1:b=e
 ·rw [h1];exact ⟨oe,he⟩
 ·by_cases h3:b∈frs X.stack
  ·obtain ⟨sl,z⟩:=m.slot b o q h3;exact ⟨_,z⟩
  ·exact ⟨o,m.keep b o q h1 h2 h3⟩
theorem Mvd.hok (m:Mvd X.stack e T0 (.ref C) a0 fl s.heap h') (I:Inv X pins σ H s) (he:H e=some (XO C e)) (hT:T0=e∨H T0=none):HOk X.prog X.w H h':=fun b u eb=>by
 by_cases h1:b=e
 ·subst h1;rw [he] at eb;cases eb;obtain ⟨oe,vs,_,_,_,h2,h3,_,h4,_⟩:=m.tr;obtain ⟨o',vs',h5,h6,h7⟩:=m.p2;rw [h2] at h5;cases h5;exact xo_ok h2 h3 h6 h7
 ·refine (I.hok b u eb).stay (fun c v hc q=>m.keep c v q ?_ ?_ ?_) (fun _ q=>q) fun _ _ q=>q
  ·rintro rfl;rcases hc with z | z
   ·exact h1 z.symm
   ·rw [he] at z;cases z
  ·rintro rfl;rcases hT with z | z
   ·subst z;rcases hc with z | z
    ·exact h1 z.symm
    ·rw [he] at z;cases z
   ·rcases hc with y | y
    ·rw [← y,z] at eb;cases eb
    ·rw [z] at y;cases y
  ·intro z;have:=I.stkFree c z;rcases hc with y | y
   ·rw [← y,this] at eb;cases eb
   ·rw [this] at y;cases y
theorem Inv.moved {t':Nat} (I:Inv X pins σ H s) (he:H e=some (XO C e)) (hT:H T0=none) (h0:X.s₀.heap.get? T0=none) (hp:∀ p∈X.pn++pins,p.1≠T0) {oT:Obj}{ts:Array Value} (eT:s.heap.get? T0=some oT) (dT:oT.data=.fields ts)
  (m:Mvd X.stack e T0 (.ref C) a0 fl s.heap h'):Inv X pins σ H { s with heap:=h',toks:=t' }:=by
 have nL:T0≠X.env.locals:=by
  rintro rfl;obtain ⟨_,⟨o,es,ep,ho,hd,_⟩,_⟩:=I.loc;rw [ho] at eT;cases eT;rw [hd] at dT;cases dT
 have nC:∀ x c,X.env.cells.lookup x=some c→c≠T0:=by
  rintro x c hc rfl;obtain ⟨v,o,ho,hd⟩:=I.cell x c hc;rw [ho] at eT;cases eT;rw [hd] at dT;cases dT
 have neS:∀ b,H b=none→b≠e:=fun b n z=>by rw [z,he] at n;cases n
 have sub:∀ b,b∈X.fs→b∈frs X.stack:=fun b hb=>by
  rcases I.ok.stk with z | ⟨z,hf⟩
  ·rw [z];exact hb
  ·rw [z];unfold frs;rw [Y3,hf];exact Z9 _ hb
 refine I.step (g':=s.gens) (d':=s.drawn) (ch:=[T0]) (fun b hb=>?_) (fun b o n1 n2 n3 q n=>m.keep b o q (neS b n) (fun z=>n3 (by simp [z])) fun z=>(List.mem_cons.mp (I.stkSub b z)).elim n1 n2)
  (fun b o n1 n2 n3 q n=>m.slot b o q (sub b n2)) (fun b o _ _ n=>n) (fun b o n q=>m.ex b o q fun z=>n (by simp [z])) (fun _ _ q=>q) (fun _ _ _ q=>q) (fun b ps q=>⟨#[],by rw [q];simp⟩) (fun mm hm=>?_) (m.hok I he (.inr hT)) I.bare
 ·have:b=T0:=by simpa using hb
  subst this;exact ⟨.inr h0,nL,nC,hp⟩
 ·obtain ⟨o,es,ep,ho,hd,r⟩:=hm;by_cases z:X.env.locals∈frs X.stack
  ·obtain ⟨sl,q⟩:=m.slot _ _ ho z;exact ⟨_,es,ep,q,hd,r⟩
  ·exact ⟨o,es,ep,m.keep _ _ ho (neS _ I.free) (Ne.symm nL) z,hd,r⟩
theorem leave_cx {E:XK}{E':Value→Shared→Prop} (I:Inv X pins σ H s) (hx:X.ex=[]) (hs:X.stack=X.env :: X.outer) (hf:X.env.frame=some X.env.locals) (he:H e=some (XO C e)) (fl:Fresh s.heap e∨Tr (fun T=>X.s₀.heap.get? T=none) H s.heap e) (q:E (.ref C) (some e) H) :
  wpAny (model X.prog X.w) X.A (leaving X.env (.ref e)) (fun _ s''=>CXM X.prog X.w X.outer X.H₀ X.s₀ E (.ref e) s'') E' s:=by
 have hfr:X.A.frames=some (X.env :: X.outer):=by rw [← hs];exact I.ok.frames
 have hl:s.heap.FunFrames X.base (X.env :: X.outer):=by rw [← hs];exact I.stack
 obtain ⟨ox,vx,hox,hcx,hdx⟩:=xo_of I.hok he;have fin:∀ (T0:Addr) (h':Heap) (a0:Value),(T0=e∨(H T0=none∧X.s₀.heap.get? T0=none))→Mvd X.stack e T0 (.ref C) a0 .none s.heap h'→CXM X.prog X.w X.outer X.H₀ X.s₀ E (.ref e) { s with heap:=h' }:=by
  intro T0 h' a0 hT m;have hT1:T0=e∨H T0=none:=hT.imp_right fun z=>z.1;have back:∀ b o,X.s₀.heap.get? b=some o→∃ o',s.heap.get? b=some o':=fun b o z=>I.base.there b o z (by rw [hx];simp);have nT:∀ b o,X.s₀.heap.get? b=some o→H b=none→b≠T0:=fun b o z n y=>by
   rcases hT with w | ⟨_,w⟩
   ·rw [y,w,he] at n;cases n
   ·rw [y,w] at z;cases z
  have nE:∀ b,H b=none→b≠e:=fun b n z=>by rw [z,he] at n;cases n
  have nL:∀ b o,X.s₀.heap.get? b=some o→b≠X.env.locals:=fun b o z=>Z4 (Z3 (Z2 z) I.ok.above);have inS:∀ b,b∈frs X.stack→b=X.env.locals∨b∈frs X.outer:=fun b z=>List.mem_cons.mp (I.stkSub b z);obtain ⟨oe,vs,T,oT,ts,h1,h2,h3,h4,h5,h6,h7,h8,h9,h10⟩:=m.tr;refine ⟨e,C,H,rfl,I.os,I.bare,⟨fun b o z n hb _=>?_,fun b o z n hb _=>?_,fun b o z n _=>I.base.free b o z n (by rw [hx];simp),fun b o z _=>?_,I.base.tups,I.base.frzs,I.base.tbls⟩,m.hok I he hT1,he,⟨oe,vs,a0,T,oT,ts,h1,h4,h3,h5,?_,?_,h8,h9,h10⟩,q⟩
  ·have n':=I.base.free b o z n (by rw [hx];simp);exact m.keep b o (I.base.keep b o z n hb (by rw [hx];simp)) (nE b n') (nT b o z n') fun y=>(inS b y).elim (nL b o z) hb
  ·obtain ⟨sl,z1⟩:=I.base.slot b o z n hb (by rw [hx];simp);obtain ⟨sl',z2⟩:=m.slot b _ z1 (by rw [hs];unfold frs;rw [Y3,hf];exact Z9 _ hb);exact ⟨sl',z2⟩
  ·obtain ⟨o',z1⟩:=back b o z;by_cases y:b=T0
   ·rcases hT with w | ⟨_,w⟩
    ·rw [y,w];exact ⟨oe,h1⟩
    ·rw [y,w] at z;cases z
   ·exact m.ex b o' z1 y
  ·show X.s₀.heap.get? T=none;rcases h6 with z | z
   ·rcases hT with y | ⟨_,y⟩
    ·exact absurd (z.trans y) h7
    ·rw [z];exact y
   ·cases y:X.s₀.heap.get? T with
    | none=>rfl
    | some o =>
     obtain ⟨o',y1⟩:=back T o y;rw [z] at y1;cases y1
  ·rcases h6 with z | z
   ·rcases hT with y | ⟨y,_⟩
    ·exact absurd (z.trans y) h7
    ·rw [z];exact y
   ·exact I.hok.noth z
 rcases fl with ⟨oe,vs,a0,h1,h2,h3,h4⟩ | ⟨oe,vs,a0,T0,oT,ts,h1,h2,h3,h4,g,n,h5,h6,h7⟩
 ·rw [h1] at hox;cases hox;refine zBm (.leave _ _) (xo_p2 I.hok he) (wpAny_leaving_firstW (base:=bas s.heap (X.env :: X.outer) e e) (a0:=a0) hfr (PySem.W.funFrames_hide hl fun env he a ea=>.tail _ (.tail _ (List.mem_filterMap.mpr ⟨env,he,ea⟩))) hf h1 (fun b o z=>PySem.W.of_hideAll _ z) (PySem.W.hideAll_none _ (.head _)) h2 h4 h3 fun h' hL p2=>?_);obtain ⟨k1,k2,k3,k4⟩:=hL;rw [hcx] at k3;refine fin e h' a0 (.inl rfl) ?_;rw [hs];exact L2.moved hl k1 k2 k3 k4 p2
 ·rw [h1] at hox;cases hox;have hne:T0≠e:=fun z=>by rw [z,he] at n;cases n
  have F:=fly_of hl h1 h2 h3 h4 hne h5 h6 h7;rw [hcx] at F;refine zBm (.leave _ _) (xo_p2 I.hok he) (wpAny_leaving_nextW hfr F.2.2.1 hf F.2.2.2 F.1 F.2.1 fun h' hL p2=>?_);obtain ⟨k1,k2,k3,k4⟩:=hL;have m:=L2.moved hl k1 k2 k3 k4 p2;exact fin T0 h' a0 (.inr ⟨n,g⟩) (by rw [hs];exact m)
end
end L2
namespace L2
open PySem PySem.Spec PyProof.Rows
theorem zCo {K:PySem.W.Frag}{h:Heap}{C:Addr}{bmB:List Value}{newId:String} (X:K.In h) (q:PySem.W.excIn K C bmB newId=true) :
  ∃ bm N nm q bs hdct sn sub ab col dd k0 k1 k2 k3 k5 mN,h.get? C=some (excClassObj nm q C N bs bm hdct sn sub ab col dd k0 k1 k2 k3 k5 newId)∧h.Ns N mN∧mN "__init__" = none∧OwnTail h bmB bm:=by
 unfold PySem.W.excIn at q;split at q
 ·rename_i dd cd sl ho
  split at q
  ·rename_i C' bm k0 k1 k2 k3 n k5 hm hs
   simp only [Zq,beq_iff_eq,Bool.not_eq_true'] at q;obtain ⟨⟨⟨⟨⟨rfl,rfl⟩,hdel⟩,ht⟩,hok⟩,hni⟩:=q;obtain ⟨nm,bs,mro,ns,qn,hd,sn,sub,ab,col,del⟩:=cd;dsimp only at hm hdel hok hni;subst hm hdel;have hsl:sl = #[k0,k1,k2,k3,some (.builtin n),k5]:=by
    obtain ⟨l⟩:=sl;simp only at hs;rw [hs]
   subst hsl;exact ⟨bm,ns,nm,qn,bs,hd,sn,sub,ab,col,dd,k0,k1,k2,k3,k5,_,X _ _ ho,.of_isNs (PySem.W.isNs_of_in X hok),PySem.W.nsMap_none_of_in X hok hni,PySem.W.tail_of_in X ht⟩
  ·cases q
 ·cases q
section
variable {X:Cx}{pins:List (Addr×Obj)}{σ : St}{H H':Hp}{s:Shared}{e C:Addr}{h h':Heap}{o:HO}
theorem Un.born {fs ex:List Addr} (k:∀ b u,h.get? b=some u→h'.get? b=some u) (hp:h.get? e=none) (hn:H e=none):Un fs ex H (upd H e o) h h' where
 keep:=fun b u q _ _ _=>k b u q
 slot:=fun b u q _ _ _=>⟨u.slots,k b u q⟩
 free:=fun b u q n _=>by rw [zA9 (fun z=>by rw [z,hp] at q;cases q)];exact n
 there:=fun b u q _=>⟨u,k b u q⟩
 tups:=fun b xs q=>by rw [zA9 (zA6 q hn)];exact q
 frzs:=fun b u xs q=>by rw [zA9 (zA6 q hn)];exact q
 tbls:=fun b ps q=>⟨#[],by rw [zA9 (zA6 q hn),q];simp⟩
theorem HOk.born {P:Program}{w:World} (x:HOk P w H h) (k:∀ b u,h.get? b=some u→h'.get? b=some u) (hp:h.get? e=none) (new:ObjOk P w (upd H e o) h' e o):HOk P w (upd H e o) h':=fun b u q=>by
 have hn:=x.noth hp;by_cases hb:b=e
 ·subst hb;rw [zA2] at q;cases q;exact new
 ·rw [zA9 hb] at q;exact (x b u q).stay (fun c v _ q=>k c v q) (fun c q=>by rw [zA9 (zA6 q hn)];exact q) fun c xs q=>by rw [zA9 (zA6 q hn)];exact q
theorem Inv.born {t':Nat} (I:Inv X pins σ H s) (k:∀ b u,s.heap.get? b=some u→h'.get? b=some u) (hp:s.heap.get? e=none) (new:ObjOk X.prog X.w (upd H e o) h' e o):Inv X pins σ (upd H e o) { s with heap:=h',toks:=t' } :=
 I.un (Un.born k hp (I.hok.noth hp)) (I.hok.born k hp new)
theorem Inv.cx {s':Shared}{E:XK}{u:Value} (I:Inv X pins σ H s) (c:CXM X.prog X.w X.stack H s E u s') :
  ∃ e C H',u=.ref e∧Inv X pins σ H' s'∧H' e=some (XO C e)∧Tr (fun T=>s.heap.get? T=none) H' s'.heap e∧E (.ref C) (some e) H':=by
 obtain ⟨e,C,H',rfl,os,bare,un,hok,he,tr,q⟩:=c;exact ⟨e,C,H',rfl,I.call' (ch:=[]) os un hok bare (fun b z=>absurd z (by simp)),he,tr,q⟩
theorem Inv.back (I:Inv X pins σ H s) (hx:X.ex=[]) {T:Addr} (n:s.heap.get? T=none):X.s₀.heap.get? T=none:=by
 cases y:X.s₀.heap.get? T with
 | none=>rfl
 | some o =>
  obtain ⟨o',y1⟩:=I.base.there T o y (by rw [hx];simp);rw [n] at y1;cases y1
end
section
variable {P:Program}{w:World}{K:PySem.W.Frag}{mg:Str→Option Value}{base:Heap}{N:List Str}{qual:Str}{scope:Scope}{f:Addr}{cd:Value}{A:Around}{outer:List Env}{s:Shared}{H:Hp}{E:XK}
noncomputable abbrev cxM (P:Program) (w:World) (K:PySem.W.Frag) (mg:Str→Option Value) (base:Heap) (N:List Str) (qual:Str) (scope:Scope) (f:Addr) (cd:Value) (A:Around) (outer:List Env) (s:Shared) (H:Hp) (E:XK):Cx:=cxOf (CXM P w) P w K mg base N qual scope f cd A outer s H E
theorem xe_new {pins:List (Addr×Obj)}{σ : St}{H':Hp}{s':Shared}{e C:Addr} (I:Inv (cxM P w K mg base N qual scope f cd A outer s H E) pins σ H' s') (he:H' e=some (XO C e)) (fl:Fresh s'.heap e∨Tr (fun T=>s.heap.get? T=none) H' s'.heap e) (q:E (.ref C) (some e) H') :
  (cxM P w K mg base N qual scope f cd A outer s H E).xe (.ref e) s':=leave_cx I rfl rfl rfl he fl q
end
section
variable {X:Cx}{x:Str}{np cpos pos:Pos}{a:Expr}{as:List Expr}{t:TA}{C:Addr}{W:St→Addr→Hp→Prop}
theorem zBn (hc:PySem.W.excIn X.K C [.type "ValueError",.type "Exception",.type "BaseException",.type "object"] "ValueError.__new__" = true) (hg:Gl X x) (hm:X.mg x=some (.ref C)) (hcm:X.calm=true) (ha:PA X (a :: as) t)
  (hx:∀ pins σ H s e,Inv X pins σ H s→H e=some (XO C e)→Fresh s.heap e→W σ e H→X.xe (.ref e) s) (hdb:(x == ("__debug__" : Str))=false:=by decide)
  (he:starEach (a :: as) X.env=(false,eval a X.env) :: starEach as X.env:=by rfl) (hpl:(backTo cpos (starEach as X.env)).any (·.1)=false:=by rfl) :
  PS X (.Raise (some (.Call (.Name x np) (a :: as) [] cpos)) none pos) (fun _ σ H=>t σ H fun vs H1=>vs.length≤sizeLine∧∀ e,H1 e=none→W σ e (upd H1 e (XO C e))):=by
 intro pins s σ H D I h;obtain ⟨bm,N,nm,q,bs,hdct,sn,sub,ab,col,dd,k0,k1,k2,k3,k5,mN,hC,hN,hni,T⟩:=zCo I.ok.mod.kin hc;have hA:=ha cpos pins s σ H _ I h;refine wpAny_Raise_call_subU (C:=C) (nm:=nm) (q:=q) (N:=N) (bs:=bs) (bm:=bm) (hdct:=hdct) (sn:=sn) (sub:=sub) (ab:=ab) (col:=col) (dd:=dd) (k0:=k0) (k1:=k1) (k2:=k2) (k3:=k3) (k5:=k5)
  PySem.F.excBase_ValueError PySem.F.excBase_ValueError.hasB PySem.F.excBase_ValueError (mN:=mN) (T.hasType PySem.F.excBase_ValueError.hasBase) (I.ok.hd hcm) (by rw [he];show (false || (backTo cpos (starEach as X.env)).any (·.1))=false;rw [hpl];rfl) hni (zBl I hg hm ⟨rfl,?_⟩ hdb)
 rw [he] at hA ⊢;refine Calls.evalArgs_plain (thn hA fun us s2 ⟨vs,H2,I2,r,hz,k⟩=>⟨rfl,by rw [← r.length];exact hz,I2.bk _ _ hC,hN.keeps I2.bk,T.keeps I2.bk,fun h' e hm=>?_⟩);obtain ⟨tt,h1,h2,h3⟩:=hm.there;exact hx pins σ _ { s2 with heap:=h' } e (I2.born (t':=s2.toks) (o:=XO C e) hm.keeps hm.new (xo_ok h1 rfl rfl rfl)) zA2 ⟨_,_,_,h1,rfl,rfl,rfl⟩ (k e (I2.hok.noth hm.new))
end
end L2
namespace L2
open PySem PySem.Spec PyProof.Rows
noncomputable abbrev TW:=St→Addr→Addr→Hp→Prop
noncomputable def Cx.tri (X:Cx) (pins:List (Addr×Obj)) (W:TW):Cx:={ X with
 pn:=X.pn++pins
 xe:=fun u s'=>∃ e C σ' H',u=.ref e∧Inv X pins σ' H' s'∧H' e=some (XO C e)∧Tr (fun T=>X.s₀.heap.get? T=none∧∀ p∈X.pn++pins,p.1≠T) H' s'.heap e∧W σ' e C H' }
noncomputable def Cx.hnd (X:Cx) (e:Addr):Cx:={ X with
 A:=X.A.mark (some (.ref e))
 calm:=false
 xe:=fun _ _=>False }
section
variable {X:Cx}{pins pins':List (Addr×Obj)}{σ : St}{H:Hp}{s:Shared}{W:TW}{e:Addr}
theorem Cx.Ok.tri (ok:X.Ok):(X.tri pins W).Ok:=⟨ok.mod,ok.kind,ok.glob,ok.blt,ok.above,ok.inj,ok.has,ok.cab,ok.hd,ok.frames,ok.stk,ok.exf,ok.bs,ok.bsz,ok.noex,ok.exfs,ok.funs,ok.frf⟩
theorem Cx.Ok.untri (ok:(X.tri pins W).Ok):X.Ok:=⟨ok.mod,ok.kind,ok.glob,ok.blt,ok.above,ok.inj,ok.has,ok.cab,ok.hd,ok.frames,ok.stk,ok.exf,ok.bs,ok.bsz,ok.noex,ok.exfs,ok.funs,ok.frf⟩
theorem Cx.Ok.hnd (ok:X.Ok):(X.hnd e).Ok:=⟨ok.mod,ok.kind,ok.glob,ok.blt,ok.above,ok.inj,ok.has,ok.cab,(fun z=>Bool.noConfusion (show false=true from z)),ok.frames,ok.stk,ok.exf,ok.bs,ok.bsz,ok.noex,ok.exfs,ok.funs,ok.frf⟩
theorem Inv.tri (I:Inv X pins σ H s):Inv (X.tri pins W) [] σ H s:=⟨I.ok.tri,I.os,I.bare,I.base,I.loc,I.cell,I.free,I.freeC,fun p hp=>I.pin p (by simpa [Cx.tri] using hp),I.hok,I.len⟩
theorem Inv.untri (I:Inv (X.tri pins W) pins' σ H s):Inv X pins σ H s:=⟨I.ok.untri,I.os,I.bare,I.base,I.loc,I.cell,I.free,I.freeC,fun p hp=>I.pin p (Y2 _ hp),I.hok,I.len⟩
theorem Inv.hnd (I:Inv X pins σ H s):Inv (X.hnd e) pins σ H s:=⟨I.ok.hnd,I.os,I.bare,I.base,I.loc,I.cell,I.free,I.freeC,I.pin,I.hok,I.len⟩
theorem Inv.unhnd (ok:X.Ok) (I:Inv (X.hnd e) pins σ H s):Inv X pins σ H s:=⟨ok,I.os,I.bare,I.base,I.loc,I.cell,I.free,I.freeC,I.pin,I.hok,I.len⟩
theorem SP.untri {D:Ends}{f:Flow}{s':Shared} (h:SP (X.tri pins W) pins' D f s'):SP X pins D f s':=by
 cases f with
 | next=>obtain ⟨σ',H',I,q⟩:=h;exact ⟨σ',H',I.untri,q⟩
 | brk=>obtain ⟨σ',H',I,q⟩:=h;exact ⟨σ',H',I.untri,q⟩
 | cont=>obtain ⟨σ',H',I,q⟩:=h;exact ⟨σ',H',I.untri,q⟩
 | ret u=>obtain ⟨v,σ',H',I,r,q⟩:=h;exact ⟨v,σ',H',I.untri,r,q⟩
theorem pass_try (hx:X.ex=[]):Passes (CXM X.prog X.w) (X.tri pins W) (fun σ cls eo H'=>∃ e C,cls=.ref C∧eo=some e∧W σ e C H'):=fun pins' σ H1 s1 u s2 I c=>by
 obtain ⟨e,C,H',rfl,I',he,tr,e',C',h1,h2,q⟩:=I.cx c;cases h1;cases h2
 exact ⟨e,C,σ,H',rfl,I'.untri,he,tr.imp fun T n=>⟨I.back hx n,fun p hp z=>by
  have:=(I.pin p (Y2 _ hp)).1;rw [z,n] at this
  cases this⟩,q⟩
theorem Inv.gone {i:Nat}{n:Str}{v:Option Value}{m:Str→Option Value}{h':Heap}{t':Nat} (I:Inv X pins σ H s) (hN:X.N.Nodup) (hi:X.N[i]? = some n)
  (hl:∀ (j:Nat) (x:Str) (v:V),X.N[j]? = some x→σ[j]? = some (some v)→Vis X.env.scope x→∃ u,RelV v u∧Look X.env s.heap m x u) (hn:h'.Ns X.env.locals (fun x=>if x=n then v else m x)) (hs:Heap.SameBut X.env.locals s.heap h') :
  Inv X pins (σ.set i none) H { s with heap:=h',toks:=t' }:=by
 obtain ⟨oL,_,_,hoL,_⟩:=id I.loc.choose_spec.1;have cne:=I.cne;refine ⟨I.ok,I.os,I.bare,⟨fun b o e n hb hx=>?_,fun b o e n hb hx=>?_,I.base.free,fun b o e hx=>?_,I.base.tups,I.base.frzs,I.base.tbls⟩,⟨_,hn,fun j y v' e1 e2 e3=>?_⟩,fun y c e=>?_,I.free,I.freeC,fun p hp=>?_,fun b ob e=>?_,by simpa using I.len⟩
 ·exact (hs.2 b (Z4 (Z3 (Z2 e) I.ok.above))).trans (I.base.keep b o e n hb hx)
 ·obtain ⟨sl,e1⟩:=I.base.slot b o e n hb hx;exact ⟨sl,(hs.2 b (Z4 (Z3 (Z2 e) I.ok.above))).trans e1⟩
 ·obtain ⟨o',e1⟩:=I.base.there b o e hx;exact ⟨o',(hs.2 b (Z4 (Z3 (Z2 e) I.ok.above))).trans e1⟩
 ·have hj:j≠i:=by
   rintro rfl;rw [List.getElem?_set] at e2;simp only [if_true] at e2;split at e2 <;> cases e2
  rw [Y5 (Ne.symm hj)] at e2;obtain ⟨u',r',q⟩:=hl j y v' e1 e2 e3;refine ⟨u',r',?_⟩;rcases q with ⟨k,e⟩ | ⟨k,c,e,z⟩
  ·refine .inl ⟨k,?_⟩;have:y≠n:=fun e=>hj (zDc hN e1 (e ▸ hi));simp [this,e]
  ·exact .inr ⟨k,c,e,z.sameBut hs (cne y c e)⟩
 ·obtain ⟨w',z⟩:=I.cell y c e;exact ⟨w',z.sameBut hs (cne y c e)⟩
 ·obtain ⟨e,n,ne,nf,d⟩:=I.pin p hp;exact ⟨(hs.2 p.1 ne).trans e,n,ne,nf,d⟩
 ·refine (I.hok b ob e).stay (fun c w' hc q=>(hs.2 c ?_).trans q) (fun _ q=>q) fun _ _ q=>q;rintro rfl;rcases hc with hc | hc
  ·rw [← hc,I.free] at e;cases e
  ·rw [I.free] at hc;cases hc
end
noncomputable def Ends.but (D:Ends) (i:Nat):Ends:={ nx:=fun σ H=>D.nx (σ.set i none) H,rt:=D.rt,bk:=fun σ H=>D.bk (σ.set i none) H,ct:=fun σ H=>D.ct (σ.set i none) H }
section
variable {X:Cx}{x n:Str}{np hpos pos:Pos}{body suite:List Stmt}{b₀ : Stmt}{i:Nat}{B:Addr}{tb:TW→TS}{th:Addr→TS}
theorem ps_try (hx:X.ex=[]) (hs:X.stack=X.env :: X.outer) (hf:X.env.frame=some X.env.locals) (hN:X.N.Nodup) (hi:X.N[i]? = some n) (hl:X.env.scope.names.lookup n=some .local) (hg:Gl X x) (hm:X.mg x=some (.ref B))
  (hb:∀ pins W,PSs (X.tri pins W) body (tb W)) (hh:∀ e,PSs (X.hnd e) (b₀ :: suite) (th e)) (hdb:(x == ("__debug__" : Str))=false:=by decide) :
  PS X (.Try body [.ExceptHandler (some (.Name x np)) (some n) (b₀ :: suite) hpos] [] [] pos) (fun D σ H=>∃ W:TW,tb W D σ H∧∀ σ' e C H',H' e=some (XO C e)→W σ' e C H'→PySem.W.exmOne X.K (.ref C) (.ref B)=some true∧th e (D.but i) (σ'.set i (some (.ref e))) H'):=by
 intro pins s σ H D I ⟨W,hbW,hW⟩;refine wpAny_Try_except (wpAny_mono (hb pins W [] s σ H D I.tri hbW) (fun f s1 h1=>?_) (fun u s1 h1=>?_))
 ·have h1:=h1.untri;cases f with
  | next =>
   obtain ⟨σ',H',I',q⟩:=h1;exact zAf pins s1 σ' H' D I' q
  | brk=>exact h1
  | cont=>exact h1
  | ret u=>exact h1
 ·obtain ⟨e,C,σ',H',rfl,I',he,tr,w⟩:=h1;obtain ⟨oe,vs,a0,T0,oT,ts,h1,h2,h3,h4,⟨g1,g2⟩,nT,h5,h6,h7⟩:=tr;obtain ⟨hK,hT⟩:=hW σ' e C H' he w;have hfr:X.A.frames=some (X.env :: X.outer):=by rw [← hs];exact I.ok.frames
  have hl':s1.heap.FunFrames X.base (X.env :: X.outer):=by rw [← hs];exact I'.stack
  obtain ⟨ox,vx,hox,hcx,hdx⟩:=xo_of I'.hok he;rw [h1] at hox;cases hox;have hne:T0≠e:=fun z=>by rw [z,he] at nT;cases nT
  have F:=fly_of hl' h1 h2 h3 h4 hne h5 h6 h7;rw [hcx] at F;have mv:∀ {h':Heap}{t':Nat},Heap.FlyingW (bas s1.heap (X.env :: X.outer) e T0) (X.env :: X.outer) e (.ref C) a0 h'→s1.heap.UpToSlots h'→P2 e h'→Inv X pins σ' H' { s1 with heap:=h',toks:=t' }:=fun {h'}{t'} F up p2=>by
   have m:=L2.moved (fl:=.none) hl' F.1 F.2.2.1 F.2.2.2 up p2;rw [← hs] at m;exact I'.moved he nT g1 g2 h5 h6 m
  refine zBm (.note _ _) (xo_p2 I'.hok he) (wpAny_looks_onW hfr hf F fun h₄ H4 up4 p4=>?_);refine zBm (.flt _ _) p4 (wpAny_landsW H4 fun h₅ F5 up5 p5=>?_);have I5:=mv (t':=s1.toks) F5 (up4.trans up5) p5;have I5h:=I5.hnd (e:=e);refine wpAny_handleBy_cons (codeAny_handlers_test (zBl I5h hg hm ?_ hdb)) (by intro q;cases q);obtain ⟨o5,ho5,hc5⟩:=F5.there;have LT:PySem.W.Looks (model X.prog X.w) h₅ (typeOf (.ref e)) (.ref C):=by
   rw [← hc5];exact (PySem.W.Looks.ld ho5).andThen .now
  refine PySem.W.exm_one I5.kIn LT hK _ _ _ _ (fun _ _ q=>q) ?_;refine codeAny_handlers_suite_as ?_;refine zBm (.flt _ _) p5 (lands_againW F5 fun h₆ F6 up6 p6=>?_);have I6:=(mv (t':=s1.toks) F6 ((up4.trans up5).trans up6) p6).hnd (e:=e);refine zD1 (X:=X.hnd e) (i:=i) I6 hN hi (.inl hl) (v:=.ref e) rfl (fun s7 I7=>?_) (.inr hl);refine wpAny_mono (hh e pins s7 _ H' (D.but i) I7 hT) (fun f s8 h8=>?_) (fun _ _ z=>False.elim z);have done:∀ {σ8:St}{H8:Hp}{R:Unit→Shared→Prop}{E:Value→Shared→Prop},Inv (X.hnd e) pins σ8 H8 s8→(∀ s9,Inv X pins (σ8.set i none) H8 s9→R () s9)→wpAny (model X.prog X.w) X.A (do bindName X.env n .none;unbindBehindTheSuite X.env n hpos) R E s8:=fun {σ8 H8 R E} J r=>by
   have J:=J.unhnd I.ok;obtain ⟨m,hn,hloc⟩:=id J.loc;exact wpAny_nameGoes_keeps hl hn (by rw [I.ok.kind];rfl) fun h9 v hn9 hs9=>r _ (J.gone hN hi hloc hn9 hs9)
  cases f with
  | next=>obtain ⟨σ8,H8,J,q⟩:=h8;exact done J fun s9 J9=>⟨_,_,J9,q⟩
  | brk=>obtain ⟨σ8,H8,J,q⟩:=h8;exact done J fun s9 J9=>⟨_,_,J9,q⟩
  | cont=>obtain ⟨σ8,H8,J,q⟩:=h8;exact done J fun s9 J9=>⟨_,_,J9,q⟩
  | ret u=>obtain ⟨v,σ8,H8,J,r,q⟩:=h8;exact done J fun s9 J9=>⟨v,_,_,J9,r,q⟩
end
end L2
namespace L2
open PySem PySem.Spec PyProof.Rows PySem.W
section
variable {prog:Program}{w:World}{A:Around}{E:Value→Shared→Prop}{h:Heap}{g:Array GenState}{d:Drawn}{t:Nat}{os:OsState}{a:Addr}{o:Obj}
 {nm q:Str}{C N:Addr}{bs bm:List Value}{hdct:Bool}{sn:List Str}{sub:List Value}{ab:Bool}{col:Option Bool}{dd:Option Addr}{k0 k1 k2 k3 k5:Option Value}{newId:String}
theorem check_ga {M:Model}{nameV:Value}{Q:Unit→Shared→Prop} (hC:h.get? C=some (excClassObj nm q C N bs bm hdct sn sub ab col dd k0 k1 k2 k3 k5 newId)) (hcB:(Value.ref C :: bm).contains (.type "BaseException")=true)
  (hx:h.get? a=some o) (hc:o.cls=.ref C) (hq:Q () ⟨h,g,d,t,os⟩):wpAny M A (checkBuiltinCall "BaseException.__getattribute__" ⟨[.ref a,nameV],[]⟩) Q E ⟨h,g,d,t,os⟩:=by
 have hk:builtinKind "BaseException.__getattribute__" = some .slot:=by decide +kernel
 have hsplit:splitId "BaseException.__getattribute__" = some ("BaseException", "__getattribute__"):=by decide +kernel
 have ha:=PySem.F.args_bexc_ga (.ref a) nameV;simp only [checkBuiltinCall,hk,hsplit];refine wpAny_bind ?_
 ·unfold isInstance
  repeat (first | (with_reducible refine wpAny_loadPart_at hx ?_;rw [hc]) | (with_reducible refine wpAny_isSubtype_exc hC ?_;rw [hcB]) | wp_step)
  exact hq
end
section
variable {prog:Program}{w:World}{A:Around}{E:Value→Shared→Prop}{s:Shared}{K:Frag}{x C D:Addr}{ox:Obj}
open Builtin Builtin.ObjectAttr Builtin.Getset_descriptor in
theorem xc_get {R:Result→Shared→Prop}{tp:Value} (X:K.In s.heap) (L0:Looks (model prog w) s.heap (typeOf (.ref x)) (.ref D)) (hm:mroIn K D (.type "object")=some true) (h:R (.ok (.ret (.ref D))) s) :
  codeAny (model prog w) A (.call (.builtin "getset_descriptor.__get__") ⟨[.builtin "object.__class__",.ref x,tp],[]⟩) R s:=by
 obtain ⟨hh,g,dr,t,os⟩:=s;have L1:=looks_mroIn (M:=model prog w) X hm;refine codeAny_call_builtin KF.slot_gs.plain KF.entry_gs (KF.slot_gs.check _ _ _ _ _ _ _ _ KF.type_class (KF.args_gs _ _ _) ?_);unfold Builtin.«getset_descriptor.__get__» descrGet;rw [dga_obj];refine wpAny_bind (wpAny_pure ?_);unfold descrGetter descrCheckInstance descrNameAndClass isInstance;simp only [KF.owner_class];repeat lk
 refine ⟨Code.quiet_builtin _ (by decide +kernel),codeAny_builtin KF.entry_class ?_⟩;unfold Builtin.«object.__class__» shownTypeOf
 repeat lk
 exact h
theorem xc_class {Q:Option Value→Shared→Prop} (X:K.In s.heap) (hx:s.heap.get? x=some ox) (hc:ox.cls=.ref D) (hga:findIn K (.ref D) "__getattribute__" = some (some (.builtin "BaseException.__getattribute__"))) (hgt:findIn K (.ref D) "__getattr__" = some none)
  (hcf:findIn K (.ref D) "__class__" = some (some (.builtin "object.__class__"))) (hm:mroIn K D (.type "object")=some true) (hexc:excIn K D [.type "ValueError",.type "Exception",.type "BaseException",.type "object"] "ValueError.__new__" = true)
  (h:Q (some (.ref D)) { s with toks:=s.toks + 1 }):wpAny (model prog w) A (getAttr? (.ref x) "__class__") Q E s:=by
 obtain ⟨hh,g,d,t,os⟩:=s;have L0:Looks (model prog w) hh (typeOf (.ref x)) (.ref D):=by rw [← hc];exact (Looks.ld hx).andThen .now
 have L1:=looks_findIn (M:=model prog w) X hga;have L2:=looks_findIn (M:=model prog w) X hgt;have hx2:(Value.builtin "BaseException.__getattribute__" == Value.builtin "object.__getattribute__")=false:=by decide +kernel
 have hx1:(onTheHeap (Value.ref D) && Value.builtin "BaseException.__getattribute__" == Value.builtin "object.__getattribute__")=false:=by rw [hx2];rfl
 have f3:=PySem.F.attr_ValueError.ga.bind (.ref x);unfold getAttr? getAttrBy? getAttrBy;refine wpAny_bind (wpAny_mkText (wpAny_bind (wpAny_attempt (wpAny_holding (wpAny_bind (L0.at (wpAny_bind (L1.at ?_))))))));simp only [hx1,hx2];rw [if_neg (by simp)];unfold getAttrByItsOwn
 repeat (any_goals (first | assumption | with_reducible refine L2.at ?_ | with_reducible refine L0.at ?_ | with_reducible refine L1.at ?_ | wp_step))
 obtain ⟨bm,N,nm,q,bs,hdct,sn,sub,ab,col,dd,k0,k1,k2,k3,k5,mN,hC,hN,hni,T⟩:=zCo X hexc;refine codeAny_call_builtin PySem.F.attr_ValueError.ga.plain PySem.F.entry_bexc_ga (check_ga hC (by rw [List.contains_cons,T.hasType PySem.F.excBase_ValueError.hasBase];rfl) hx hc ?_);have L3:=looks_findIn (M:=model prog w) X hcf;have f5:typeOf (.builtin "object.__class__")=pure (.type "getset_descriptor"):=by kernel_rfl
 have f6:=PySem.F.slot_gs_get.lookup;have f7:=PySem.F.slot_gs_set.lookup
 repeat (any_goals (first | assumption | with_reducible refine L3.at ?_ | with_reducible refine L0.at ?_ | wp_step))
 refine xc_get X L0 hm ?_;exact wpAny_pure (handed_on rfl (wpAny_pure h))
structure XCls (K:Frag) (C:Addr):Prop where
 exc:excIn K C [.type "ValueError",.type "Exception",.type "BaseException",.type "object"] "ValueError.__new__" = true
 ga:findIn K (.ref C) "__getattribute__" = some (some (.builtin "BaseException.__getattribute__"))
 gt:findIn K (.ref C) "__getattr__" = some none
 cf:findIn K (.ref C) "__class__" = some (some (.builtin "object.__class__"))
 ob:mroIn K C (.type "object")=some true
theorem kitx_exc {e:Addr} (c:XCls K C):KitX K (.ref e) (.ref C) (fun h=>∃ ox,h.get? e=some ox∧ox.cls=.ref C) where
 ty:=fun _ _ _ ⟨_,hx,hc⟩=>by rw [← hc];exact (Looks.ld hx).andThen .now
 it:=fun _ _ X _=>by
  obtain ⟨bm,N,nm,q,bs,hdct,sn,sub,ab,col,dd,k0,k1,k2,k3,k5,mN,hC,_⟩:=zCo X c.exc;intro A' Q' E' s' k q;unfold isType loadHead;exact wpAny_bind (wpAny_loadPart (k _ _ hC) (wpAny_pure q))
 ne:=fun h tp dd its n sl X htp=>by
  obtain ⟨bm,N,nm,q,bs,hdct,sn,sub,ab,col,dd,k0,k1,k2,k3,k5,mN,hC,_⟩:=zCo X c.exc;refine Bool.eq_false_iff.mpr fun q=>?_;have e:C=tp:=Value.ref.inj (beq_iff_eq.mp q);subst e;rw [hC] at htp;exact nomatch congrArg Obj.data (Zd htp)
 ca:=fun X ⟨_,hx,hc⟩ k=>xc_class X hx hc c.ga c.gt c.cf c.ob c.exc k
end
section
variable {X:Cx}
theorem zAa {K:Frag} (hK:X.K=K):CallR X (.builtin "isinstance") (fun xs H Q=>∃ a C c cv b,xs=[.ref a,c]∧H a=some (XO C a)∧XCls K C∧absV cv=some c∧kitOne K (.ref C) cv=some b∧((∀ t,cv≠.ref t)→∃ T,cv=.type T)∧Q (.bl b) H):=by
 intro pins s σ H xs us Q I rv ⟨a,C,c,cv,b,ex,ha,hc,rc,hk,hT,q⟩;subst ex hK;obtain ⟨u1,u2,rfl,r1,r2⟩:=L2.v2 rv;cases (show u1=Value.ref a from r1);obtain ⟨o,vs,h1,h2,h3⟩:=xo_of I.hok ha;have e2:u2=cv:=by
  cases cv with
  | ref t=>cases (Zd rc);exact r2
  | type T=>cases (Zd rc);exact r2
  | _=>obtain ⟨T,z⟩:=hT (fun _ z=>nomatch z);cases z
 subst e2;exact kia_one (kitx_exc hc) I.kIn ⟨o,h1,h2⟩ hk (fun z=>nomatch z) fun tk=>⟨.bl b,H,I.tok tk,rfl,q⟩
end
end L2
namespace L2
open PySem PySem.Spec PyProof.Rows
theorem Fun.okX {P:Program}{w:World}{K:PySem.W.Frag}{mg:Str→Option Value}{base:Heap}{CX:CXT}{x qual:Str}{st:Stmt}{f:Addr}{fd:FuncData}{N ps:List Str}{k:Nat}{sp:Sp} (F:Fun K x qual st f fd) (S:FnScope N ps (defScope st)) (len:∀ vs H Q E,sp vs H Q E→vs.length=ps.length)
  (hbody:∀ (cdv:Value) (A:Around) (outer:List Env) (s:Shared) (H:Hp) (vs:List V) (Q:VK) (E:XK),Room k (A.deeper (envOfC qual (defScope st) s.heap.objs.size f cdv))→sp vs H Q E →
   ∃ t,PSs (cxOf CX P w K mg base N qual (defScope st) f cdv A outer s H E) (defBody st) t∧t { nx:=fun _ H'=>Q .non H',rt:=Q } (start N vs) H):FnOk P w K mg base CX (k + 1) f fd ps sp:=by
 obtain ⟨oc,od,kV,doc,pm,an,cdv,ct,osl,rfl,lk,hcd⟩:=F.ex;exact zCr lk hcd S len fun A outer s H vs Q E hr hsp=>hbody cdv A outer s H vs Q E hr hsp
theorem FnOk.or {P:Program}{w:World}{K:PySem.W.Frag}{mg:Str→Option Value}{base:Heap}{CX:CXT}{k:Nat}{f:Addr}{fd:FuncData}{ps:List Str}{sp sp':Sp} (F:FnOk P w K mg base CX k f fd ps sp) (G:FnOk P w K mg base CX k f fd ps sp'):FnOk P w K mg base CX k f fd ps (fun vs H Q E=>sp vs H Q E∨sp' vs H Q E) :=
 ⟨fun vs H Q E h=>h.elim (F.len vs H Q E) (G.len vs H Q E),fun A outer s H args us vs Q E hr he hb hv h=>h.elim (F.run A outer s H args us vs Q E hr he hb hv) (G.run A outer s H args us vs Q E hr he hb hv)⟩
namespace W
noncomputable def zBn:=by have h:=@L2.zBn;rw [ePS,ePA] at h;exact @h
noncomputable def ps_try:=by have h:=@L2.ps_try;rw [ePS,ePSs] at h;exact @h
noncomputable def Fun.okX:=by have h:=@L2.Fun.okX;rw [ePSs] at h;exact @h
end W
end L2
namespace L2
open PySem PySem.Spec PyProof.Rows
noncomputable def Cx.re (X:Cx) (N':List Str):Cx:={ X with N:=N' }
noncomputable def hide:List Nat→St→St
 | [],σ=>σ
 | i :: is,σ=>hide is (σ.set i none)
theorem zDd:∀ (is:List Nat) (σ : St),(hide is σ).length = σ.length
 | [],_=>rfl
 | i :: is,σ=>by rw [hide,zDd is,List.length_set]
theorem zDe:∀ (is:List Nat) (σ : St) (i:Nat) (v:V),(hide is σ)[i]? = some (some v)→i∉is∧σ[i]? = some (some v)
 | [],_,_,_,h=>⟨by simp,h⟩
 | j :: is,σ,i,v,h=>by
  obtain ⟨h1,h2⟩:=zDe is _ i v h;have ne:j≠i:=by
   rintro rfl;rw [List.getElem?_set] at h2;simp only [if_true] at h2;split at h2 <;> cases h2
  rw [Y5 ne] at h2;exact ⟨by simp [h1,Ne.symm ne],h2⟩
noncomputable def Ends.hid (D:Ends) (is:List Nat):Ends:={ nx:=fun σ H=>D.nx (hide is σ) H,rt:=D.rt,bk:=fun σ H=>D.bk (hide is σ) H,ct:=fun σ H=>D.ct (hide is σ) H }
noncomputable def sameN (N N':List Str) (is:List Nat):Prop:=N'.length=N.length∧∀ i,i < N.length→i∉is→N'[i]? = N[i]?
section
variable {X:Cx}{pins:List (Addr×Obj)}{σ : St}{H:Hp}{s:Shared}{N':List Str}{is:List Nat}{st:Stmt}{t:TS}
theorem Inv.re (h:sameN X.N N' is) (I:Inv X pins σ H s):Inv (X.re N') pins (hide is σ) H s :=
 ⟨⟨I.ok.mod,I.ok.kind,I.ok.glob,I.ok.blt,I.ok.above,I.ok.inj,I.ok.has,I.ok.cab,I.ok.hd,I.ok.frames,I.ok.stk,I.ok.exf,I.ok.bs,I.ok.bsz,I.ok.noex,I.ok.exfs,I.ok.funs,I.ok.frf⟩,I.os,I.bare,I.base,by
  obtain ⟨m,hn,hl⟩:=I.loc;refine ⟨m,hn,fun i x v e1 e2 e3=>?_⟩;obtain ⟨n,e2⟩:=zDe is σ i v e2;have il:i < X.N.length:=by rw [← h.1];exact (List.getElem?_eq_some_iff.mp e1).1
  exact hl i x v ((h.2 i il n).symm.trans e1) e2 e3,I.cell,I.free,I.freeC,I.pin,I.hok,by rw [zDd,I.len];exact h.1.symm⟩
theorem Inv.unre (ok:X.Ok) (h:sameN X.N N' is) (I:Inv (X.re N') pins σ H s):Inv X pins (hide is σ) H s :=
 ⟨ok,I.os,I.bare,I.base,by
  obtain ⟨m,hn,hl⟩:=I.loc;refine ⟨m,hn,fun i x v e1 e2 e3=>?_⟩;obtain ⟨n,e2⟩:=zDe is σ i v e2;have il:i < X.N.length:=(List.getElem?_eq_some_iff.mp e1).1
  exact hl i x v ((h.2 i il n).trans e1) e2 e3,I.cell,I.free,I.freeC,I.pin,I.hok,by rw [zDd,I.len];exact h.1⟩
theorem ps_re (N':List Str) (is:List Nat) (h:sameN X.N N' is) (hs:PS (X.re N') st t):PS X st (fun D σ H=>t (D.hid is) (hide is σ) H):=by
 intro pins s σ H D I hw;refine wpAny_mono (hs pins s (hide is σ) H (D.hid is) (I.re h) hw) (fun f s1 h1=>?_) (fun _ _ e=>e);cases f with
 | next=>obtain ⟨σ',H',J,q⟩:=h1;exact ⟨_,_,J.unre I.ok h,q⟩
 | brk=>obtain ⟨σ',H',J,q⟩:=h1;exact ⟨_,_,J.unre I.ok h,q⟩
 | cont=>obtain ⟨σ',H',J,q⟩:=h1;exact ⟨_,_,J.unre I.ok h,q⟩
 | ret u=>obtain ⟨v,σ',H',J,r,q⟩:=h1;exact ⟨v,_,_,J.unre I.ok h,r,q⟩
end
theorem FnOk.calm {P:Program}{w:World}{K:PySem.W.Frag}{mg:Str→Option Value}{base:Heap}{CX:CXT}{k:Nat}{f:Addr}{fd:FuncData}{ps:List Str}{sp:Sp} (hC:Calm CX) (F:FnOk P w K mg base CX k f fd ps sp):FnOk P w K mg base CX0 k f fd ps (fun vs H Q E=>sp vs H Q fun _ _ _=>False) :=
 ⟨fun vs H Q E h=>F.len vs H Q _ h,fun A outer s H args us vs Q E hr he hb hv h=>by
  have:=F.run A outer s H args us vs Q (fun _ _ _=>False) hr he hb hv h;refine codeAny_mono this fun r s' h'=>?_;cases r with
  | ok c =>
   cases c with
   | ret u=>exact h'
   | _=>exact h'
  | error e=>exact hC _ _ _ _ _ h'⟩
namespace W
noncomputable def ps_re:=by have h:=@L2.ps_re;rw [ePS] at h;exact @h
end W
end L2
namespace L2
open PySem PySem.Spec PyProof.Rows
structure TabM (H:Hp) (P:Addr) (q:Str):Prop where
 ex:∃ ps:Array Value,H P=some (.tbl ps)∧TriplesOk ps.toList∧∀ (pos:Pos) (v:Value),codeAmong pos ps.toList=some v→∃ a,v=.ref a∧H a=some (CodeO a q)
theorem TabM.ne {H:Hp}{P:Addr}{q:Str} (T:TabM H P q) {a:Addr}{o:HO} (e:H a=some o) (h:∀ ps,o≠.tbl ps):a≠P:=by
 rintro rfl;obtain ⟨ps,z,_⟩:=T.ex;rw [e] at z;exact h _ (Zd z)
theorem TabM.upd {H:Hp}{P:Addr}{q:Str}{p:Addr}{u o:HO} (T:TabM H P q) (hp:H p=some u) (h1:∀ ps,u≠.tbl ps) (h2:∀ f,u≠.ext f):TabM (L2.upd H p o) P q:=by
 have n1:=T.ne hp h1;obtain ⟨ps,z,t,c⟩:=T.ex;refine ⟨ps,by rw [zA9 (Ne.symm n1)];exact z,t,fun pos v e=>?_⟩;obtain ⟨a,e1,e2⟩:=c pos v e;refine ⟨a,e1,?_⟩;rw [zA9 ?_]
 ·exact e2
 ·rintro rfl;rw [hp] at e2;exact h2 _ (Zd e2)
section
variable {f c':Addr}{q:Str}{params:Arguments}{body:Expr}{scope:Scope}{cl:List (Str×Addr)}{N:List Str}{ws:List V}{h h':Heap}{H:Hp}
end
section
variable {CX:CXT}{P:Program}{w:World}{K:PySem.W.Frag}{mg:Str→Option Value}{base:Heap}{k:Nat}{f c':Addr}{q:Str}{params:Arguments}{body:Expr}{scope:Scope}{cl:List (Str×Addr)}{N:List Str}{ws:List V}
end
section
variable {X:Cx}{CX:CXT}{k:Nat}{f c':Addr}{q x:Str}{params:Arguments}{body:Expr}{scope:Scope}{cl:List (Str×Addr)}{N:List Str}{ws:List V}{sp:Hp→VK→XK→Prop}{E:St→XK}{i:Nat}{p pos:Pos}
end
section
variable {X:Cx}{pins:List (Addr×Obj)}{σ : St}{H:Hp}{s:Shared}{A:Around}{E:Value→Shared→Prop}
end
section
variable {X:Cx}{CX:CXT}{k:Nat}{fw c P:Addr}{fd:FuncData}{q x y:Str}{params:Arguments}{body:Expr}{scope:Scope}{N:List Str}{ix:List Nat}{sp:Addr→Addr→List (Str×Addr)→List V→Sp}{E:St→XK}{p lpos pos:Pos}
end
theorem FunL.okX {P:Program}{w:World}{K:PySem.W.Frag}{mg:Str→Option Value}{base:Heap}{CX:CXT}{x qual:Str}{st:Stmt}{f c:Addr}{fd:FuncData}{N ps:List Str}{k:Nat}{sp:Sp} (F:FunL K x qual st f fd c) (S:FnScope N ps (defScope st)) (len:∀ vs H Q E,sp vs H Q E→vs.length=ps.length)
  (hbody:∀ (A:Around) (outer:List Env) (s:Shared) (H:Hp) (vs:List V) (Q:VK) (E:XK),Room k (A.deeper (envOfC qual (defScope st) s.heap.objs.size f (.ref c)))→sp vs H Q E →
   ∃ t,PSs (cxOf CX P w K mg base N qual (defScope st) f (.ref c) A outer s H E) (defBody st) t∧t { nx:=fun _ H'=>Q .non H',rt:=Q } (start N vs) H):FnOk P w K mg base CX (k + 1) f fd ps sp:=by
 obtain ⟨oc,od,kV,doc,pm,an,ct,osl,rfl,lk,hcd⟩:=F.ex;exact zCr lk hcd S len fun A outer s H vs Q E hr hsp=>hbody A outer s H vs Q E hr hsp
namespace W
noncomputable def FunL.okX:=by have h:=@L2.FunL.okX;rw [ePSs] at h;exact @h
end W
end L2
namespace PySem.SeqAt
open AutoSeq1 (wpAny_loadPart')
open MeetsSeq
section
variable {A:Around}{s:Shared}
end
end PySem.SeqAt
namespace L2
open PySem PySem.Spec PyProof.Rows
section
variable {X:Cx}{pins:List (Addr×Obj)}{σ : St}{H:Hp}{s:Shared}
end
end L2
namespace L2
open PySem PySem.Spec PyProof.Rows
noncomputable def OnlyTs (ts:List Addr) (H:Hp):Prop:=(∀ T∈ts,H T=some (.tbl #[]))∧∀ b,b∉ts→H b=none∨∃ o xs,H b=some (.frz o (.lst xs))
theorem law_callTs {P:Program}{w:World}{K:PySem.W.Frag}{mg mb:Str→Option Value}{CX:CXT}{k:Nat}{fa a:Addr}{ts:List Addr}{fd:FuncData}{x:Str}{sp:Sp}{s₁ : Shared}{vs:List Value}{ns:List Int}
  (KX:K.In s₁.heap) (hns:s₁.heap.Ns mainGlobals mg) (hb:s₁.heap.Ns builtinsNs mb) (hbb:∀ x:Str,x≠"__name__"→mb x=bootBuiltins x) (hlim:s₁.heap.NoLimit) (hg:s₁.gens = #[]) (hBl:BltAt mg s₁.heap) (hT:∀ T∈ts,s₁.heap.get? T=some (PySem.W.tabObj #[])) (hKT:∀ T∈ts,K.lookup T=none) (hCd:∀ T∈ts,∃ c,PySem.W.codeHdIn K c T=true)
  (ha:s₁.heap.get? a=some { cls:=.type "list",data:=.seq vs.toArray }) (hi:IntsAre vs ns) (hl:ns.length≤sizeLine) (hr:Room k callerA)
  (F:∀ base:Heap,K.In base→base.Ns mainGlobals mg→BltAt mg base→FnOk P w K mg base CX k fa fd [x] sp) (hbind:∀ (s:Shared) (u:Value),BindsTo s fd ⟨[u],[]⟩ [(x,u)])
  (hsp:∀ H:Hp,OnlyTs ts H→SqL K H a (ns.map V.int)→sp [.ref a] H (fun v _=>v=.bl true) fun _ _ _=>False)
  (hCX:∀ H e s',CX [] H s₁ (fun _ _ _=>False) e s'→False) :
  codeAny (model P w) callerA (.call (.ref fa) ⟨[.ref a],[]⟩) (fun r s'=>r=.ok (.ret (.bool true))∧OldK s₁.heap s'.heap∧s'.os=s₁.os∧AllBare s'.gens) s₁:=by
 have rv:=vals_ints hi;have lenV:=hi.length;have aT:a∉ts:=fun h=>by
  have:=hT a h;rw [ha] at this;cases this
 have core:∀ H:Hp,OnlyTs ts H→SqL K H a (ns.map V.int)→HOk P w H s₁.heap→(∀ b,H b≠none→b=a∨b∈ts)→(H a≠none→K.lookup a=none) →
   codeAny (model P w) callerA (.call (.ref fa) ⟨[.ref a],[]⟩) (fun r s'=>r=.ok (.ret (.bool true))∧OldK s₁.heap s'.heap∧s'.os=s₁.os∧AllBare s'.gens) s₁:=by
  intro H hO hS hok hA hK;have base_of:∀ {b:Addr}{o:Obj},s₁.heap.get? b=some o→H b=none→(hidT s₁.heap H).get? b=some o:=fun e n=>hidT_get e n;have noA:∀ {b:Addr}{o:Obj}{es:Array DictEntry}{ep:Nat},s₁.heap.get? b=some o→o.data=.dict es ep→H b=none:=fun {b o es ep} e d=>by
   cases q:H b with
   | none=>rfl
   | some u =>
    rcases hA b (by rw [q];simp) with e' | e'
    ·subst e';rw [ha] at e;cases e;have d':Data.seq vs.toArray _=Data.dict es ep:=d;cases d'
    ·rw [hT b e'] at e;cases e;cases d
  have nsK:∀ {b:Addr}{m:Str→Option Value},s₁.heap.Ns b m→(hidT s₁.heap H).Ns b m:=fun {b m} ⟨o,es,ep,e,d,r⟩=>⟨o,es,ep,base_of e (noA e d),d,r⟩
  have hKb:K.In (hidT s₁.heap H):=fun b o e=>base_of (KX b o e) (by
   cases q:H b with
   | none=>rfl
   | some u =>
    rcases hA b (by rw [q];simp) with e' | e'
    ·subst e';rw [hK (by rw [q];simp)] at e;cases e
    ·rw [hKT b e'] at e;cases e)
  have hBl2:BltAt mg (hidT s₁.heap H):=by
   obtain ⟨bm,ob,e1,e2,e3,e4,e5,e6,e7⟩:=hBl;refine ⟨bm,ob,e1,e2,e3,base_of e4 ?_,e5,e6,e7⟩;cases q:H bm with
   | none=>rfl
   | some u =>
    rcases hA bm (by rw [q];simp) with e' | e'
    ·subst e';rw [ha] at e4;cases e4;exact absurd (show Value.type "list" = Value.type "module" from e5) (by decide)
    ·rw [hT bm e'] at e4;cases e4;exact absurd (show Value.none=Value.type "module" from e5) (by decide)
  have hM:Mod K mg (hidT s₁.heap H):=⟨hKb,nsK hns,⟨mb,nsK hb,hbb⟩,let ⟨mc,h1,h2⟩:=hlim;⟨mc,nsK h1,h2⟩⟩;have e0:Env0 P w K mg (hidT s₁.heap H) callerA [] s₁ H:=⟨rfl,hM,fun b o e=>of_hidT e,Nat.le_of_eq (hidT_size _ _),trivial,fun b hb=>absurd (show b∈([]:List Addr) from hb) (by simp),hok,.of_eq hg⟩;refine codeAny_mono ((F _ hKb (nsK hns) hBl2).run callerA [] s₁ H ⟨[.ref a],[]⟩ [.ref a] [.ref a] _ _ hr e0 (hbind s₁ (.ref a)) (.cons rfl .nil) (hsp H hO hS)) fun r s' h=>?_;cases r with
  | error e=>exact (hCX H e s' h).elim
  | ok fl =>
   cases fl with
   | next=>exact False.elim h
   | brk=>exact False.elim h
   | cont=>exact False.elim h
   | ret u =>
    obtain ⟨v,H',os,bare,un,hok',r',q⟩:=h;have q':v=.bl true:=q;subst q';obtain rfl:u=Value.bool true:=r';have keep:∀ b o,b∉ts→s₁.heap.get? b=some o→s'.heap.get? b=some o:=fun b o nb e=>by
     cases q:H b with
     | none=>exact un.keep b o e q (by intro z;exact absurd (show b∈([]:List Addr) from z) (by simp)) (by simp)
     | some u =>
      rcases hO.2 b nb with z | ⟨ob,xs,z⟩
      ·rw [q] at z;cases z
      ·have z2:=un.frzs b ob _ z;obtain ⟨e1,_⟩:=hok b _ z;obtain ⟨e2,_⟩:=hok' b _ z2;rw [e] at e1;cases e1;exact e2
    have gT:∀ T∈ts,∃ more,s'.heap.get? T=some { cls:=.none,data:=.fields (#[]++more) }:=fun T hm=>by
     obtain ⟨more,eT⟩:=un.tbls T _ (hO.1 T hm);exact ⟨more,hok' T _ eT⟩
    refine ⟨rfl,⟨fun b o e=>?_,fun b o e=>?_⟩,os,bare⟩
    ·by_cases nb:b∈ts
     ·obtain ⟨more,g⟩:=gT b nb;rw [hT b nb] at e;cases e;obtain ⟨c,hc⟩:=hCd b nb;obtain ⟨oc,vsc,_,_,_,_,_,_,_,g1,g2,g3,g4,_⟩:=PySem.W.codeHd_of_K KX hc;exact .inr (.inl ⟨⟨c,oc,vsc,g1,g2,g3,g4⟩,rfl,#[],more,rfl,g⟩)
     ·exact .inl (keep b o nb e)
    ·by_cases nb:b∈ts
     ·obtain ⟨more,g⟩:=gT b nb;exact ⟨_,g⟩
     ·exact ⟨o,keep b o nb e⟩
 cases hk:K.lookup a with
 | some o =>
  have e:=KX a o hk;rw [ha] at e;cases e;refine core (fun b=>if b∈ts then some (.tbl #[]) else none) ⟨fun T hm=>if_pos hm,fun b nb=>.inl (if_neg nb)⟩ (.inr ⟨_,vs.toArray,_,hk,rfl,rfl,rfl,by rw [Z6,lenV];exact hl,by simpa using rv⟩) (fun b u z=>?_) (fun b z=>?_) fun z=>absurd (if_neg aT) z
  ·by_cases nb:b∈ts
   ·have z':=(if_pos nb).symm.trans z;cases z';exact hT b nb
   ·have z':=(if_neg nb).symm.trans z;cases z'
  ·by_cases nb:b∈ts
   ·exact .inr nb
   ·exact absurd (if_neg nb) z
 | none =>
  refine core (fun b=>if b∈ts then some (.tbl #[]) else if b=a then some (.frz { cls:=.type "list",data:=.seq vs.toArray } (.lst (ns.map V.int))) else none) ⟨fun T hm=>if_pos hm,fun b nb=>?_⟩ (.inl (.inr ⟨{ cls:=.type "list",data:=.seq vs.toArray },?_⟩)) (fun b u z=>?_) (fun b z=>?_) fun _=>hk
  ·by_cases hb:b=a
   ·exact .inr ⟨_,_,(if_neg nb).trans (if_pos hb)⟩
   ·exact .inl ((if_neg nb).trans (if_neg hb))
  ·exact (if_neg aT).trans (if_pos rfl)
  ·by_cases nb:b∈ts
   ·have z':=(if_pos nb).symm.trans z;cases z';exact hT b nb
   ·have z':=(if_neg nb).symm.trans z;by_cases hb:b=a
    ·have z2:=(if_pos hb).symm.trans z';cases z2;subst hb;exact ⟨ha,by rw [Z1];exact hl,vs,_,rv,ha⟩
    ·have z2:=(if_neg hb).symm.trans z';cases z2
  ·by_cases nb:b∈ts
   ·exact .inr nb
   ·by_cases hb:b=a
    ·exact .inl hb
    ·exact absurd ((if_neg nb).trans (if_neg hb)) z
end L2
namespace L2
open PySem PySem.Spec PyProof.Rows
section
variable {X:Cx}
end
end L2
namespace L2
open PySem PySem.Spec PyProof.Rows
section
variable {X:Cx}
end
namespace W
end W
end L2
namespace L2
open PySem PySem.Spec PyProof.Rows
section
variable {X:Cx}
end
namespace W
end W
end L2
namespace L2
open PySem PySem.Spec PyProof.Rows
theorem _root_.PyProof.Rows.IsTupIter.kp {h h':Heap}{it l:Addr}{k:Nat} (x:IsTupIter h it l k) (e:∀ o,h.get? it=some o→h'.get? it=some o):IsTupIter h' it l k:=by
 obtain ⟨o,q,r⟩:=x;exact ⟨o,e o q,r⟩
section
variable {P:Program}{w:World}{A:Around}{E:Value→Shared→Prop}{s:Shared}
end
section
variable {P:Program}{w:World}{A:Around}{E:Value→Shared→Prop}{s:Shared}
end
end L2
namespace L2.W
open PySem PySem.Spec PyProof.Rows
end L2.W
namespace L2
open PySem PySem.Spec PyProof.Rows
section
variable {X:Cx}{CX:CXT}{k:Nat}{f C:Addr}{fd:FuncData}{ps:List Str}{sp:Sp}{dvs:List V}{ds:List Value}{E:St→XK}{x m:Str}{p pos apos:Pos}{e:Expr}{es:List Expr}{t:TA}
end
end L2
namespace L2.W
open PySem PySem.Spec PyProof.Rows
end L2.W
namespace L2
open PySem PySem.Spec PyProof.Rows
noncomputable def dataE:Nat→Expr→Option PyData
 | 0,_=>none
 | n + 1,e=>match e with
  | .Constant (.int i) _ _=>some (.int i)
  | .Constant (.str x) _ _=>if decide ((x:Str).length≤1000) && PyData.strOk x then some (.str x) else none
  | .Constant (.bool b) _ _=>some (.bool b)
  | .Constant .none _ _=>some .none
  | .List es _=>if es.length≤1000 then (es.mapM (dataE n)).map .list else none
  | .Tuple es _ _=>if es.length≤1000 then (es.mapM (dataE n)).map .tuple else none
  | .UnaryOp .USub e _=>match dataE n e with | some (.int i)=>some (.int (-i)) | _=>none
  | .BinOp a .Sub b _=>match dataE n a,dataE n b with | some (.int i),some (.int j)=>some (.int (i - j)) | _,_=>none
  | .BinOp a .Pow b _=>match dataE n a,dataE n b with | some (.int i),some (.int j)=>if 0≤j∧j≤1000∧i.natAbs≤1000 then some (.int (i ^ j.toNat)) else none | _,_=>none
  | _=>none
noncomputable def tData (d:PyData):TE:=fun _ H Q=>∀ v H',Same H H'→Has (fun a=>H a=none) H' v d→Q v H'
noncomputable def tDatas (ds:List PyData):TA:=fun _ H Q=>∀ vs H',Same H H'→HasAll (fun a=>H a=none) H' vs ds→Q vs H'
noncomputable def starOk (X:Cx) (e:Expr):Prop:=∀ es,starEach (e :: es) X.env=(false,eval e X.env) :: starEach es X.env
theorem zDi {X:Cx}{n:Nat} (ih:∀ {e:Expr}{d:PyData},dataE n e=some d→PE X e (tData d)∧starOk X e):∀ {es:List Expr}{ds:List PyData},es.mapM (dataE n)=some ds→PA X es (tDatas ds)
 | [],ds,h=>by
  rw [List.mapM_nil] at h;cases h;exact fun pos pins s σ H Q I q=>zA1 pos pins s σ H Q I (q [] H (Same.refl _) .nil)
 | e :: es,ds,h=>by
  rw [List.mapM_cons] at h;cases q:dataE n e with
  | none=>rw [q] at h;cases h
  | some d =>
   rw [q] at h;cases r:es.mapM (dataE n) with
   | none=>rw [r] at h;cases h
   | some ws =>
    rw [r] at h;cases h;obtain ⟨p1,p2⟩:=ih q;intro pos pins s σ H Q I k;refine zA0 p1 (zDi ih r) (p2 es) pos pins s σ H Q I fun v H1 s1 h1 vs H2 s2 h2=>k _ _ (s1.trans s2) (.cons (h1.mono s2) (h2.frame fun b o g e=>⟨s1.free g,e⟩))
theorem zBw {α β : Type}{f : α→Option β}:∀ {l:List α}{m:List β},l.mapM f=some m→m.length=l.length
 | [],m,h=>by rw [List.mapM_nil] at h;cases h;rfl
 | a :: l,m,h=>by
  rw [List.mapM_cons] at h;cases q:f a with
  | none=>rw [q] at h;cases h
  | some b =>
   rw [q] at h;cases r:l.mapM f with
   | none=>rw [r] at h;cases h
   | some ws=>rw [r] at h;cases h;rw [Z8,Z8,zBw r]
theorem data_of {X:Cx}:∀ {n:Nat}{e:Expr}{d:PyData},dataE n e=some d→PE X e (tData d)∧starOk X e
 | 0,_,_,h=>by cases h
 | n + 1,e,d,h=>by
  have ih:∀ {e:Expr}{d:PyData},dataE n e=some d→PE X e (tData d)∧starOk X e:=fun h=>data_of h;unfold dataE at h;split at h
  ·cases h;exact ⟨fun pins s σ H Q I k=>zA4 pins s σ H Q I (k _ H (Same.refl _) (.int _)),fun _=>rfl⟩
  ·split at h
   ·rename_i c
    rw [Zq] at c;cases h;exact ⟨fun pins s σ H Q I k=>zAc pins s σ H Q I (k _ H (Same.refl _) (.str _ (of_decide_eq_true c.1) c.2)),fun _=>rfl⟩
   ·cases h
  ·cases h;exact ⟨fun pins s σ H Q I k=>zBt pins s σ H Q I (k _ H (Same.refl _) (.bl _)),fun _=>rfl⟩
  ·cases h;exact ⟨fun pins s σ H Q I k=>zBq pins s σ H Q I (k _ H (Same.refl _) .non),fun _=>rfl⟩
  ·rename_i es pos
   split at h
   ·rename_i c
    obtain ⟨ds,hm,rfl⟩:=Option.map_eq_some_iff.mp h;refine ⟨fun pins s σ H Q I k=>zAi (zDi ih hm) pins s σ H Q I fun vs H1 s1 h1=>?_,fun _=>rfl⟩;have l1:vs.length≤1000:=by rw [h1.length,zBw hm];exact c
    exact ⟨Zh (small1000 l1),fun p hp=>k _ _ (s1.trans (Same.new hp)) (.lst (s1.free hp) zA2 l1 (h1.mono (Same.new hp)))⟩
   ·cases h
  ·rename_i es kk pos
   split at h
   ·rename_i c
    obtain ⟨ds,hm,rfl⟩:=Option.map_eq_some_iff.mp h;refine ⟨fun pins s σ H Q I k=>zB5 (zDi ih hm) pins s σ H Q I fun vs H1 s1 h1=>?_,fun _=>rfl⟩;have l1:vs.length≤1000:=by rw [h1.length,zBw hm];exact c
    exact ⟨Zh (small1000 l1),fun p hp=>k _ _ (s1.trans (Same.new hp)) (.tup (s1.free hp) zA2 l1 (h1.mono (Same.new hp)))⟩
   ·cases h
  ·split at h
   ·rename_i i hi
    cases h;exact ⟨fun pins s σ H Q I k=>pe_un un_neg (ih hi).1 pins s σ H Q I fun v H1 s1 h1=>by cases h1;exact ⟨_,rfl,k _ _ s1 (.int _)⟩,fun _=>rfl⟩
   ·cases h
  ·split at h
   ·rename_i i j hi hj
    cases h;exact ⟨fun pins s σ H Q I k=>zAg op_sub (ih hi).1 (ih hj).1 pins s σ H Q I fun v H1 s1 h1 v2 H2 s2 h2=>by cases h1;cases h2;exact ⟨_,_,rfl,rfl,k _ _ (s1.trans s2) (.int _)⟩,fun _=>rfl⟩
   ·cases h
  ·split at h
   ·rename_i i j hi hj
    split at h
    ·rename_i c
     cases h;exact ⟨fun pins s σ H Q I k=>zAg op_pow (ih hi).1 (ih hj).1 pins s σ H Q I fun v H1 s1 h1 v2 H2 s2 h2=>by cases h1;cases h2;exact ⟨_,_,rfl,rfl,⟨c.1,by omega,by omega⟩,k _ _ (s1.trans s2) (.int _)⟩,fun _=>rfl⟩
    ·cases h
   ·cases h
  ·cases h
theorem zD4 {X:Cx}{e:Expr}{d:PyData} (n:Nat) (h:dataE n e=some d):PE X e (tData d):=(data_of h).1
end L2
namespace L2.W
open PySem PySem.Spec PyProof.Rows
noncomputable def zD4:=by have h:=@L2.zD4;rw [ePE] at h;exact @h
end L2.W
namespace L2
open PySem PySem.Spec PyProof.Rows
section
variable {prog:Program}{w:World}{A:Around}{R:Result→Shared→Prop}{I:Addr}{fp wr:List Addr}{G:Array GenState→Array GenState→Prop}{n:Nat}{P:Nat→Value→Prop}{St:Nat→Shared→Prop}
end
section
variable {prog:Program}{w:World}{A:Around}{E:Value→Shared→Prop}{s:Shared}
end
section
variable {X:Cx}
end
end L2
namespace L2
open PySem PySem.Spec PyProof.Rows
section
variable {X:Cx}
end
end L2
namespace L2
open PySem PySem.Spec PyProof.Rows
section
variable {X:Cx}{e:Expr}{es:List Expr}{te:TE}{t:TA}
end
end L2
namespace L2.W
open PySem PySem.Spec PyProof.Rows
end L2.W
namespace L2
open PySem PySem.Spec PyProof.Rows
section
variable {X:Cx}{CX:CXT}{k:Nat}{fw c P:Addr}{fd:FuncData}{q x y:Str}{params:Arguments}{body:Expr}{scope:Scope}{N:List Str}{ix:List Nat}{sp:Addr→Addr→List (Str×Addr)→List V→Sp}{E:St→XK}{p lpos pos:Pos}
end
namespace W
end W
end L2
namespace L2
open PySem PySem.Spec PyProof.Rows
section
variable {X:Cx}{x n:Str}{np hpos pos:Pos}{body suite:List Stmt}{b₀ : Stmt}{i:Nat}{B:Addr}{tb:TW→TS}{th:Addr→TS}
end
section
variable {X:Cx}
end
namespace W
end W
end L2
namespace L2
open PySem PySem.Spec PyProof.Rows
namespace W
end W
end L2
namespace L2
open PySem PySem.Spec PyProof.Rows
section
variable {P:Program}{w:World}{A:Around}{E:Value→Shared→Prop}{s:Shared}{r:Addr}{n:Nat}
end
section
variable {X:Cx}{pins:List (Addr×Obj)}{σ : St}{H:Hp}{s:Shared}{r f:Addr}{n:Nat}{Q:VK}
end
end L2
namespace L2
open PySem PySem.Spec PyProof.Rows
section
variable {X:Cx}{pins:List (Addr×Obj)}{σ : St}{H:Hp}{s:Shared}{A:Around}{E:Value→Shared→Prop}
end
section
variable {CX:CXT}{P:Program}{w:World}{K:PySem.W.Frag}{mg:Str→Option Value}{base:Heap}{k:Nat}{f c':Addr}{q x:Str}{params:Arguments}{body:Expr}{scope:Scope}{cl:List (Str×Addr)}{N:List Str}{ws:List V}
end
section
variable {X:Cx}{CX:CXT}{k:Nat}{c P:Addr}{q:Str}{params:Arguments}{body:Expr}{scope:Scope}{N:List Str}{ix:List Nat}{sp:Addr→Addr→List (Str×Addr)→List V→V→Hp→VK→XK→Prop}{e:Expr}{ta:TA}{p lpos kpos pos:Pos}
end
namespace W
end W
end L2
namespace L2
open PySem PySem.Spec PyProof.Rows PySem.W
section
variable {prog:Program}{w:World}{A:Around}{E:Value→Shared→Prop}{s:Shared}
end
section
variable {X:Cx}
end
end L2
namespace L2
open PySem PySem.Spec PyProof.Rows
theorem zDg:entryFor table "proto.unchain" = some Builtin.«proto.unchain»:=entryFor_of_tree (by kernel_rfl)
section
variable {prog:Program}{w:World}{A:Around}{E:Value→Shared→Prop}{s:Shared}{it e:Addr}
theorem raise_under {α : Type}{n:Addr}{on:Obj}{ws:Array Value}{Q : α→Shared→Prop} (hh:A.handled=some (.ref e)) (p:P2 e s.heap) (hn:s.heap.get? n=some on) (hd:on.data=.fields ws) (h2:2 < ws.size) (ne:n≠e)
  (h:∀ h',Heap.SameBut n s.heap h'→(∃ o,h'.get? n=some o∧o.cls=on.cls)→E (.ref n) { s with heap:=h' }):wpAny (model prog w) A (raiseNew (.ref n):Sem α) Q E s:=by
 obtain ⟨oe,vs,he,hde,hc⟩:=p;unfold raiseNew;refine wpAny_bind (wpAny_handled ?_);rw [hh];have q:(Value.ref e != Value.ref n)=true:=by simpa using Ne.symm ne
 show wpAny _ _ (if (Value.ref e != Value.ref n)=true then _ else _) _ _ _;rw [if_pos q];refine wpAny_bind (wpAny_holding (wpAny_runValue (codeAny_builtin zDg ?_)));unfold Builtin.«proto.unchain»;refine wpAny_bind (wpAny_field he hde hc ?_);rw [if_pos (by rfl)];refine wpAny_bind (wpAny_pure (wpAny_pure ?_));unfold updateField;refine wpAny_bind (wpAny_bind (wpAny_load hn ?_));rw [hd];show wpAny _ _ (if 2 < ws.size then _ else _) _ _ _;rw [if_pos h2];refine wpAny_update hn (wpAny_throw (h _ (.update ..) ⟨_,Heap.get?_update_self _ hn (Obj.isFreed_of_fields (Obj.data_mapFields hd _)),Obj.cls_mapFields _ _⟩))
theorem range_endH {x left step:Int}{Q:Option Value→Shared→Prop} (hh:A.handled=some (.ref e)) (p:P2 e s.heap) (hit:IsRangeIter s.heap it x left step) (hl:left≤0) (hQ:∀ h',Heap.ExtBut it s.heap h'→Q none { s with heap:=h' }) :
  wpAny (model prog w) A (pyNext (.ref it)) Q E s:=by
 have hT:s.TypeIs (.ref it) "range_iterator":=⟨_,hit,rfl⟩;obtain ⟨oe,vs,he,hde,hc⟩:=id p;unfold pyNext
 refine wpAny_bind (wpAny_attempt (wpAny_callSpecial?_slot hT F.slot_range_iterator_next (wpAny_call_entry F.slot_range_iterator_next hT F.entry_range_iterator_next (show wpAny _ _ (field (.ref it) 0 >>= _) _ _ s from wpAny_bind (wpAny_field hit rfl (x:=rawInt x) rfl
  (wpAny_bind (wpAny_field hit rfl (x:=rawInt left) rfl (wpAny_bind (wpAny_field hit rfl (x:=rawInt step) rfl ?_)))))) (F.args_range_iterator_next_1 _))))
 show wpAny _ _ (if left≤0 then _ else _) _ _ s;rw [if_pos hl];refine wpAny_bind (wpAny_rule (wpAny_bind ?_));show wpAny _ _ (newExc (.type "StopIteration") [] >>= fun v=>raiseNew v) _ _ _;unfold newExc newTuple;refine wpAny_bind (wpAny_bind (wpAny_newObj_type ?_ (by size_fits)));refine wpAny_bind (wpAny_of_eq (t:=firstArgMember _ _) (a:=Value.none) (by first | rfl | (simp only [firstArgMember];rfl)) ?_);refine wpAny_newObj_type ?_ (by size_fits);refine raise_under (show A.in1.handled=some (.ref e) from hh) ⟨oe,vs,Z0 _ (Z0 _ he),hde,hc⟩ (Z7 _ rfl) rfl (show 2 < 6 by decide) ?_ fun h' sb ⟨o,h1,h2⟩=>?_
 ·have:=Z2 he;rw [Y6];exact Ya (Yb this)
 ·refine wpAny_bind (wpAny_isInstance (T:="StopIteration") (b:=true) ⟨o,h1,h2⟩ isSubtype_stop (wpAny_pure (hQ h' ?_)));exact fun b ob hb q=>(sb.2 b (Z4 (by rw [Y6];exact Yb (Z2 q)))).trans (Z0 _ (Z0 _ q))
end
noncomputable def ItrH (e:Addr) (lo:Int) (n:Nat):It:=⟨fun i _=>i < n,fun i H x H'=>H'=H∧x=.int (lo + i),fun i H=>n≤i∧∃ C,H e=some (XO C e)⟩
theorem turn_rangeH {P:Program}{w:World}{K:PySem.W.Frag}{tg:Expr} (it e:Addr) (lo:Int) (n:Nat):TurnP (fun X=>X.A.handled=some (.ref e)) P w K tg (ItrH e lo n) [it] it (fun i h=>IsRangeIter h it (lo + (i:Nat) * 1) ((n:Int) - (i:Nat)) 1) where
 mem:=by simp
 obj:=(zCt (P:=P) (w:=w) (K:=K) (tg:=tg) it lo n).obj
 keep:=fun i h h' st k=>k it (by simp) _ st
 item:=by
  intro X hP hw hK hc i pins s σ H E I hf st hg;subst hP hw hK;obtain ⟨f0,f1,f2,f3,f4,f5⟩:=hf it (by simp);refine wpAny_pyNext_range_item st (by have:i < n:=hg;omega) fun h' st' sb=>?_;have I1:Inv X pins σ H { s with heap:=h',toks:=s.toks + 1 }:=I.turned (fun b o hb e=>(sb.2 b hb).trans e) f0 f1 f3 f4 f5;have st2:IsRangeIter h' it (lo + ((i + 1:Nat):Int) * 1) ((n:Int) - ((i + 1:Nat):Int)) 1:=by
   have e1:lo + (i:Int) * 1 + 1=lo + ((i + 1:Nat):Int) * 1:=by omega
   have e2:(n:Int) - (i:Int) - 1=(n:Int) - ((i + 1:Nat):Int):=by omega
   rw [← e1,← e2];exact st'
  refine ⟨_,rfl,go_of (s:={ s with heap:=h',toks:=s.toks + 1 }) (n:="range_iterator") st' rfl rfl (by decide) ⟨.int (lo + i),H,I1,⟨s.toks,?_⟩,⟨rfl,rfl⟩,st2,fun b hb=>(hf b hb).1⟩⟩;rw [Int.mul_one]
 done:=by
  intro X hP hw hK hc i pins s σ H E I hf st ⟨hn,C,he⟩;subst hP hw hK;obtain ⟨f0,f1,f2,f3,f4,f5⟩:=hf it (by simp);exact range_endH hc (xo_p2 I.hok he) st (by omega) fun h' eb=>⟨rfl,I.turned (t':=s.toks) (fun b o hb e=>eb b o hb e) f0 f1 f3 f4 f5⟩
 self:=fun _ _ _ _ _ st h=>wpAny_pyIter_rangeiter st h
noncomputable def iRngH (e:Addr) (ta:TA):TI:=fun σ H R=>ta σ H fun vs H1=>∃ j:Int,vs=[.int j]∧0≤j∧j < 2 ^ 62∧R (ItrH e 0 j.toNat) H1
section
variable {X:Cx}{elt tg a:Expr}{ifs:List Expr}{sc:Scope}{p rp pos:Pos}{cl:List (Str×Addr)}{T:List Str}{ta:TA}{g:TG}{tt:TT}{te:TE}{e:Addr}
theorem zD5 (hh:X.A.handled=some (.ref e)) (S:ScOk X sc cl T) (hgl:Gl X "range") (hm:X.mg "range" = none) (ha:PA X [a] ta)
  (hg:∀ C s H fp,PG (cxComp X sc cl T C s H fp) tg g) (hf:∀ C s H fp,PFs (cxComp X sc cl T C s H fp) ifs tt) (he:∀ C s H fp,PE (cxComp X sc cl T C s H fp) elt te)
  (hs:starEach [a] X.env=[(false,eval a X.env)]:=by rfl) (hfs:∀ x,foldedSetIterable (.Call (.Name "range" p) [a] [] rp) X.env x=pure x:=by intro _;rfl):PE X (.ListComp elt [⟨tg,.Call (.Name "range" p) [a] [] rp,ifs,0⟩] sc pos) (tComp T.length (iRngH e ta) g tt te):=by
 intro pins s σ H Q I h;rw [eval_ListComp];refine wpAny_comprehension_free (use:=none) rfl hfs S.clos S.kind S.names ?_;refine Call_ (zCl I hgl hm boot_range (PyProof.Rows.callWith_type1 (thn (ha rp pins s σ H _ I h) fun us s1 ⟨vs,H1,I1,r1,q1⟩=>?_) hs rfl));obtain ⟨j,e',q1,q2,W,⟨m0,w0⟩,turn⟩:=q1;subst e';cases r1 with
 | cons r rr =>
  cases rr;obtain ⟨t,rfl⟩:=r;refine call_range_1 (wpAny_pyIter_range (IsRange.new ..) (small_one (by omega) (by omega) (by omega) q2) ?_);generalize hG:s1.heap.push { cls:=.type "range",data:=.fields #[.int 0 _,.int j _,.int 1 _] }=G;have I2:Inv X pins σ H1 { s1 with heap:=G }:=hG ▸ I1.kept (t':=s1.toks) fun b o e=>Z0 _ e;have I3:∀ {o:Obj}{t':Nat},Inv X pins σ H1 { s1 with heap:=G.push o,toks:=t' }:=fun {o t'}=>I2.kept (t':=t') fun b o e=>Z0 _ e;refine zBz (Φ:=fun X=>X.A.handled=some (.ref e)) (fp:=[G.objs.size]) (J:=ItrH e 0 j.toNat) (Q:=Q) (fun _ _ _ _=>hh) S hg hf he I3 (turn_rangeH _ e 0 j.toNat) ?_ (fun b hb=>?_) W m0 w0 turn fun D C z H1 m I1 n1 n2 n3 n4 n5 hn q=>?_
  ·have e1:(0:Int) + ((0:Nat):Int) * 1=0:=by simp
   have e2:((j.toNat:Nat):Int) - ((0:Nat):Int)=Builtin.Range.rangeSize 0 j 1:=by rw [rangeSize_one];split <;> omega
   show IsRangeIter _ _ ((0:Int) + ((0:Nat):Int) * 1) (((j.toNat:Nat):Int) - ((0:Nat):Int)) 1;rw [e1,e2];exact Z7 _ rfl
  ·have e':b=G.objs.size:=by simpa using hb
   subst e';exact I2.fpOk (Z5 _) (I2.hok.fresh (Z5 _))
  ·exact ⟨m,hn,fun h' sb=>⟨.ref D,H1,I1.turned (t':=z.toks) (it:=C) (fun b o hb e=>(sb.2 b hb).trans e) n1 n2 (.inr n3) n4 n5,rfl,q⟩⟩
noncomputable def gLst2 (K:PySem.W.Frag) (t:TGs):TG:=fun v σ H Q=>∃ a x y,v=.ref a∧SqL K H a [x,y]∧t [x,y] σ H Q
theorem pg_lst2 {es:List Expr}{k:Nat}{t:TGs} (hc:X.calm=true) (h:PGs X es t) (hn:(assignEach es X.env).length=2:=by rfl) (hst:(assignEach es X.env).findIdx? (·.1)=none:=by rfl):PG X (.Tuple es k pos) (gLst2 X.K t):=by
 intro pins s σ H v u Q I r ⟨a,x,y,e1,hq,hw⟩;subst e1;cases r;obtain ⟨its,rv,pl,hz⟩:=I.list hq;obtain ⟨u1,u2,rfl,r1,r2⟩:=v2 rv;have hl:=pl.isList;have hlt:a < s.heap.objs.size:=let ⟨_,q,_⟩:=hl;Z2 q;have ne:a≠s.heap.objs.size:=Z4 hlt;rw [PyProof.Rows.assign_Tuple];refine wpAny_bind (wpAny_standAt ?_);unfold unpack;rw [hn,hst];refine wpAny_bind (wpAny_holding ?_);unfold unpackItems;refine wpAny_bind ?_;unfold notIterableAtAll;refine wpAny_bind (wpAny_specialOf hl.typeIs PySem.F.slot_list_iter.lookup (wpAny_pure ?_));simp only [Bool.false_eq_true,if_false];refine wpAny_bind (wpAny_holding (wpAny_pyIter_list hl ?_));have l0:=hl.push { cls:=.type "list_iterator",data:=.fields #[.ref a,.int 0 0] };have i0:(s.heap.push { cls:=.type "list_iterator",data:=.fields #[.ref a,.int 0 0] }).IsListIter s.heap.objs.size a 0:=⟨_,Z7 _ rfl,rfl,rfl⟩;refine wpAny_bind (wpAny_holding (wpAny_bind (wpAny_pyNext_list_item i0 l0 (x:=u1) rfl fun h1 i1 s1=>?_)));have l1:h1.IsList a #[u1,u2]:=let ⟨o,q,r⟩:=l0;⟨o,(s1.2 a ne).trans q,r⟩;refine wpAny_bind (wpAny_holding (wpAny_bind (wpAny_pyNext_list_item i1 l1 (x:=u2) rfl fun h2 i2 s2=>?_)));have l2:h2.IsList a #[u1,u2]:=let ⟨o,q,r⟩:=l1;⟨o,(s2.2 a ne).trans q,r⟩;refine wpAny_bind (wpAny_holding (wpAny_pure (wpAny_pure (wpAny_pure ?_))));rw [if_neg (by simp)];refine wpAny_bind (wpAny_holding (wpAny_pyNext_list_end (I.ok.hd hc) i2 l2 rfl fun h3 e3=>?_));simp only [Option.isSome_none,Bool.false_eq_true,if_false];refine wpAny_pure ?_;have I1:Inv X pins σ H { s with heap:=h3 }:=I.kept (t':=s.toks) fun b o e=>by
  have nb:b≠s.heap.objs.size:=Z4 (Z2 e);exact e3 b o nb ((s2.2 b nb).trans ((s1.2 b nb).trans (Z0 _ e)))
 exact h pins _ σ H [x,y] _ Q I1 rv hw
theorem zAm {x:Str}{np cpos:Pos}{a:Expr}{as:List Expr}{t:TA}{C:Addr} (hc:PySem.W.excIn X.K C [.type "ValueError",.type "Exception",.type "BaseException",.type "object"] "ValueError.__new__" = true) (hk:PySem.W.keepIn X.K (.ref C)=true) (hg:Gl X x) (hm:X.mg x=some (.ref C)) (ha:PA X (a :: as) t)
  (hdb:(x == ("__debug__" : Str))=false:=by decide) (he:starEach (a :: as) X.env=(false,eval a X.env) :: starEach as X.env:=by rfl) (hpl:(backTo cpos (starEach as X.env)).any (·.1)=false:=by rfl) :
  PE X (.Call (.Name x np) (a :: as) [] cpos) (fun σ H Q=>t σ H fun vs H1=>vs.length≤sizeLine∧∀ e,H1 e=none→Q (.ref e) (upd H1 e (XO C e))):=by
 intro pins s σ H Q I h;refine wpAny_Call_Name_kw (zBl I hg hm ?_ hdb);refine PySem.W.callWith_K (h₀:=X.base) I.ok.mod.kin hk (thn (ha cpos pins s σ H _ I h) fun us s2 ⟨vs,H2,I2,r,hz,k⟩=>⟨I2.kIn,?_⟩) he hpl;obtain ⟨bm,N,nm,q,bs,hdct,sn,sub,ab,col,dd,k0,k1,k2,k3,k5,mN,hC,hN,hni,T⟩:=zCo I2.kIn hc;refine wpAny_call_exc_subU (hrest:=by rw [List.nil_append,← r.length];exact hz) PySem.F.excBase_ValueError PySem.F.excBase_ValueError.hasB PySem.F.excBase_ValueError T hC hN hni fun h' e hm=>?_;obtain ⟨tt,h1,h2,h3⟩:=hm.there;exact ⟨.ref e,_,I2.born (t':=s2.toks) (o:=XO C e) hm.keeps hm.new (xo_ok h1 rfl rfl rfl),rfl,k e (I2.hok.noth hm.new)⟩
end
theorem Fun.okQ {q:Bool}{P:Program}{w:World}{K:PySem.W.Frag}{mg:Str→Option Value}{base:Heap}{CX:CXT}{x qual:Str}{st:Stmt}{f:Addr}{fd:FuncData}{N ps:List Str}{k:Nat}{sp:Sp} (F:Fun K x qual st f fd) (S:FnScope N ps (defScope st)) (len:∀ vs H Q E,sp vs H Q E→vs.length=ps.length)
  (hbody:∀ (cdv:Value) (A:Around) (outer:List Env) (s:Shared) (H:Hp) (vs:List V) (Q:VK) (E:XK),RoomQ q k (A.deeper (envOfC qual (defScope st) s.heap.objs.size f cdv))→sp vs H Q E →
   ∃ t,PSs (cxOfC q CX P w K mg base N qual (defScope st) f cdv A outer s H E).nox (defBody st) t∧t { nx:=fun _ H'=>Q .non H',rt:=Q } (start N vs) H):FnOkQ q P w K mg base CX (k + 1) f fd ps sp:=by
 obtain ⟨oc,od,kV,doc,pm,an,cdv,ct,osl,rfl,lk,hcd⟩:=F.ex;refine zCr lk hcd S len fun A outer s H vs Q E hr hsp=>?_;obtain ⟨t,h,z⟩:=hbody cdv A outer s H vs Q E hr hsp;exact ⟨t,h.nox,z⟩
theorem Room.hnd {k:Nat}{X:Cx}{e:Addr} (r:Room k X.A):RoomQ false k (X.hnd e).A:=⟨(fun z=>nomatch z),r.dp,r.un⟩
namespace W
noncomputable def zD5:=by have h:=@L2.zD5;rw [ePE,ePA,ePG,ePFs] at h;exact @h
noncomputable def pg_lst2:=by have h:=@L2.pg_lst2;rw [ePG,ePGs] at h;exact @h
noncomputable def zAm:=by have h:=@L2.zAm;rw [ePE,ePA] at h;exact @h
noncomputable def Fun.okQ:=by have h:=@L2.Fun.okQ;rw [ePSs] at h;exact @h
end W
end L2
namespace L2
open PySem PySem.Spec PyProof.Rows
noncomputable def dataY (y n:Str):Nat→Expr→Option PyData
 | 0,_=>none
 | k + 1,e=>match e with
  | .Constant (.int i) _ _=>some (.int i)
  | .Constant (.str x) _ _=>if decide ((x:Str).length≤1000) && PyData.strOk x then some (.str x) else none
  | .Constant .none _ _=>some .none
  | .Name x _=>if x=y then some (.str n) else none
  | .List es _=>if es.length≤1000 then (es.mapM (dataY y n k)).map .list else none
  | .Tuple es _ _=>if es.length≤1000 then (es.mapM (dataY y n k)).map .tuple else none
  | _=>none
noncomputable def tDY (i:Nat) (n:Str) (d:PyData):TE:=fun σ H Q=>σ[i]? = some (some (.str n))∧∀ v H',Same H H'→Has (fun a=>H a=none) H' v d→Q v H'
noncomputable def tDYs (i:Nat) (n:Str) (ds:List PyData):TA:=fun σ H Q=>σ[i]? = some (some (.str n))∧∀ vs H',Same H H'→HasAll (fun a=>H a=none) H' vs ds→Q vs H'
section
variable {X:Cx}{y n:Str}{i:Nat}
theorem datasY {k:Nat} (ih:∀ {e:Expr}{d:PyData},dataY y n k e=some d→PE X e (tDY i n d)∧starOk X e):∀ {es:List Expr}{ds:List PyData},es.mapM (dataY y n k)=some ds→PA X es (tDYs i n ds)
 | [],ds,h=>by
  rw [List.mapM_nil] at h;cases h;exact fun pos pins s σ H Q I q=>zA1 pos pins s σ H Q I (q.2 [] H (Same.refl _) .nil)
 | e :: es,ds,h=>by
  rw [List.mapM_cons] at h;cases q:dataY y n k e with
  | none=>rw [q] at h;cases h
  | some d =>
   rw [q] at h;cases r:es.mapM (dataY y n k) with
   | none=>rw [r] at h;cases h
   | some ws =>
    rw [r] at h;cases h;obtain ⟨p1,p2⟩:=ih q;intro pos pins s σ H Q I ⟨hs,k⟩;refine zA0 p1 (datasY ih r) (p2 es) pos pins s σ H Q I ⟨hs,fun v H1 s1 h1=>⟨hs,fun vs H2 s2 h2=>k _ _ (s1.trans s2) (.cons (h1.mono s2) (h2.frame fun b o g e=>⟨s1.free g,e⟩))⟩⟩
theorem data_ofY (hv:∀ p,PE X (.Name y p) (tVar i)) (n1:n.length≤1000) (n2:PyData.strOk n=true):∀ {k:Nat}{e:Expr}{d:PyData},dataY y n k e=some d→PE X e (tDY i n d)∧starOk X e
 | 0,_,_,h=>by cases h
 | k + 1,e,d,h=>by
  have ih:∀ {e:Expr}{d:PyData},dataY y n k e=some d→PE X e (tDY i n d)∧starOk X e:=fun h=>data_ofY hv n1 n2 h;unfold dataY at h;split at h
  ·cases h;exact ⟨fun pins s σ H Q I k=>zA4 pins s σ H Q I (k.2 _ H (Same.refl _) (.int _)),fun _=>rfl⟩
  ·split at h
   ·rename_i c
    rw [Zq] at c;cases h;exact ⟨fun pins s σ H Q I k=>zAc pins s σ H Q I (k.2 _ H (Same.refl _) (.str _ (of_decide_eq_true c.1) c.2)),fun _=>rfl⟩
   ·cases h
  ·cases h;exact ⟨fun pins s σ H Q I k=>zBq pins s σ H Q I (k.2 _ H (Same.refl _) .non),fun _=>rfl⟩
  ·split at h
   ·rename_i c
    subst c;cases h;exact ⟨fun pins s σ H Q I k=>hv _ pins s σ H Q I ⟨_,k.1,k.2 _ H (Same.refl _) (.str _ n1 n2)⟩,fun _=>rfl⟩
   ·cases h
  ·split at h
   ·rename_i c
    obtain ⟨ds,hm,rfl⟩:=Option.map_eq_some_iff.mp h;refine ⟨fun pins s σ H Q I k=>zAi (datasY ih hm) pins s σ H Q I ⟨k.1,fun vs H1 s1 h1=>?_⟩,fun _=>rfl⟩;have l1:vs.length≤1000:=by rw [h1.length,zBw hm];exact c
    exact ⟨Zh (small1000 l1),fun p hp=>k.2 _ _ (s1.trans (Same.new hp)) (.lst (s1.free hp) zA2 l1 (h1.mono (Same.new hp)))⟩
   ·cases h
  ·split at h
   ·rename_i c
    obtain ⟨ds,hm,rfl⟩:=Option.map_eq_some_iff.mp h;refine ⟨fun pins s σ H Q I k=>zB5 (datasY ih hm) pins s σ H Q I ⟨k.1,fun vs H1 s1 h1=>?_⟩,fun _=>rfl⟩;have l1:vs.length≤1000:=by rw [h1.length,zBw hm];exact c
    exact ⟨Zh (small1000 l1),fun p hp=>k.2 _ _ (s1.trans (Same.new hp)) (.tup (s1.free hp) zA2 l1 (h1.mono (Same.new hp)))⟩
   ·cases h
  ·cases h
theorem zBs {e:Expr} (y:Str) (i k:Nat) (hv:∀ p,PE X (.Name y p) (tVar i)):PE X e (fun σ H Q=>∃ n d,σ[i]? = some (some (.str n))∧n.length≤1000∧PyData.strOk n=true∧dataY y n k e=some d∧∀ v H',Same H H'→Has (fun a=>H a=none) H' v d→Q v H') :=
 fun pins s σ H Q I ⟨n,d,h1,h2,h3,h4,q⟩=>(data_ofY hv h2 h3 h4).1 pins s σ H Q I ⟨h1,q⟩
end
end L2
namespace L2.W
open PySem PySem.Spec PyProof.Rows
noncomputable def zBs:=by have h:=@L2.zBs;rw [ePE] at h;exact @h
end L2.W
namespace My
open PySem L2
noncomputable def top (i:Nat):Stmt:=PySem.Challenge.pw_cometorest_k02_kinds_made.main.body.getD i (.Pass ⟨0,0,0,0⟩)
noncomputable abbrev sIsName:Stmt:=top 20
noncomputable abbrev sUnlike:Stmt:=top 21
noncomputable abbrev sPair:Stmt:=top 22
noncomputable abbrev sFields:Stmt:=top 23
noncomputable abbrev sCount:Stmt:=top 24
noncomputable abbrev sInit:Stmt:=inClass (top 25) 0
noncomputable abbrev sMixed:Stmt:=top 28
noncomputable abbrev sDigits:Stmt:=top 29
noncomputable abbrev sNext:Stmt:=top 30
noncomputable abbrev sSign:Stmt:=top 31
noncomputable abbrev sNames:Stmt:=top 32
noncomputable abbrev sLFields:Stmt:=top 33
noncomputable abbrev sMarks:Stmt:=top 34
noncomputable abbrev sClasses:Stmt:=top 35
noncomputable abbrev sWord:Stmt:=top 36
noncomputable abbrev sOdd:Stmt:=top 37
noncomputable abbrev sBadFields:Stmt:=top 38
noncomputable abbrev sBad:Stmt:=top 39
noncomputable abbrev sLaw:Stmt:=top 40
noncomputable def letters:Str:="abcdefghijklmnopqrstuvwxyz"
structure Tops (K:PySem.W.Frag) (mg:Str→Option Value):Prop where
 isinst:mg "isinstance" = none
 len:mg "len" = none
 all:mg "all" = none
 set:mg "set" = none
 range:mg "range" = none
 str:mg "str" = none
 list:mg "list" = none
 tuple:mg "tuple" = none
 zip:mg "zip" = none
 dict:mg "dict" = none
 enum:mg "enumerate" = none
 int:mg "int" = none
 lets:∃ t,mg "LETTERS" = some (.str letters t)
 most:∃ t,mg "MOST_LETTERS" = some (.int 8 t)
 mostS:∃ t,mg "MOST_STATES" = some (.int 8 t)
noncomputable def charB (c:Nat):Bool:=decide (c∈letters.cps.toList)
noncomputable def nameB (x:Str):Bool:=decide (1≤x.length) && decide (x.length≤8) && x.cps.toList.all charB
noncomputable def spIsName (K:PySem.W.Frag):Sp:=fun vs H Q _=>(∃ x,vs=[.str x]∧x.length≤1000∧∀ H',Same H H'→Q (.bl (nameB x)) H') ∨
 ∃ v t,vs=[v]∧TyOf K H v t∧PySem.W.kitOne K t (.type "str")=some false∧Q (.bl false) H
section
variable {P:Program}{w:World}{K:PySem.W.Frag}{mg:Str→Option Value}{base:Heap}{CX:CXT}
theorem scIN:FnScope ["thing"] ["thing"] (defScope sIsName):=⟨rfl,rfl,rfl,by decide +kernel,rfl,by decide +kernel,by decide +kernel⟩
theorem ok_isName {f:Addr}{fd:FuncData} (F:Fun K "is_name" "is_name" sIsName f fd) (T:Tops K mg):FnOk P w K mg base CX 1 f fd ["thing"] (spIsName K):=by
 refine F.okC scIN (fun vs H Q E h=>?_) (fun cdv A outer s H vs Q E hr h=>?_)
 ·rcases h with ⟨x,rfl,_⟩ | ⟨v,t,rfl,_⟩ <;> rfl
 ·obtain ⟨tl,hlets⟩:=T.lets;obtain ⟨tm,hmost⟩:=T.most
  refine ⟨_,zA3 (zB0 (zAu (zAt (zA5 zAr rfl T.isinst PyProof.Rows.boot_isinstance (zA0 (pv 0) (zA0 (zB1 (v:=.ty "str") rfl T.str PyProof.Rows.boot_str rfl) zA1))))) (zA7 (zAd zBt)) zAf)
   (zA7 (zAd (zBu (zD6 op_le op_le zA4 (zA5 call_len_str rfl T.len PySem.boot_len (zA0 (pv 0) zA1)) (zAk (v:=.int 8) rfl hmost ⟨_,rfl⟩))
    (zCi (zA5 (zC0 rfl) rfl T.all PyProof.Rows.boot_all (zA0 (zAw (T:=["sign"]) rfl ScOk.auto (pi_str (pv 0)) (fun _ _ _ _=>zAe (i:=1) (by decide +kernel:(["thing", "sign"]:List Str).Nodup) rfl (Or.inl rfl)) (fun _ _ _ _=>zAz)
     (fun _ _ _ _=>zB4 op_in_str (pv 1) (zAk (v:=.str letters) rfl hlets ⟨_,rfl⟩) rfl)) zA1)))))),?_⟩
  rcases h with ⟨x,rfl,hx,k⟩ | ⟨v,t,rfl,ty,hk,k⟩
  ·refine ⟨_,rfl,_,_,_,_,_,rfl,.str x,rfl,rfl,_,rfl,iteF ?_⟩;have hz:x.length≤sizeLine:=Zh (small1000 hx);refine ⟨_,rfl,x,rfl,hz,_,_,rfl,rfl,_,rfl,?_⟩;refine ite2 (fun h1=>?_) (fun h1=>?_)
   ·refine ⟨_,_,rfl,rfl,_,rfl,?_⟩;refine ite2 (fun h2=>?_) (fun h2=>?_)
    ·refine ⟨_,rfl,x,rfl,comp_chars (fun _=>true) (fun c=>.bl (charB c)) hz (fun c Ry Rn q _=>?_) (fun d hd=>?_)⟩
     ·refine iteT (B:=Rn H) ⟨_,rfl,_,_,rfl,rfl,?_⟩;rw [PySem.StrLaws.found_one];exact q rfl
     ·refine ⟨d,x.cps.toList.map charB,rfl,SqL.of ?_,?_⟩
      ·rw [zA2,List.filter_eq_self.mpr (fun _ _=>rfl),Zz];rfl
      ·have e:nameB x=(x.cps.toList.map charB).all id:=by
        have a1:1≤x.length:=by have:=of_decide_eq_true h1;omega
        have a2:x.length≤8:=by have:=of_decide_eq_true h2;omega
        unfold nameB;rw [decide_eq_true a1,decide_eq_true a2,List.all_map];rfl
       rw [← e];exact k _ (Same.new hd)
    ·have a2:¬ x.length≤8:=fun z=>h2 (decide_eq_true (by omega));have e:nameB x=false:=by unfold nameB;rw [decide_eq_false a2];simp
     rw [← e];exact k _ (Same.refl _)
   ·have a1:¬ 1≤x.length:=fun z=>h1 (decide_eq_true (by omega));have e:nameB x=false:=by unfold nameB;rw [decide_eq_false a1];simp
    refine ⟨false,rfl,iteF ?_⟩;rw [← e];exact k _ (Same.refl _)
  ·exact ⟨_,rfl,_,_,_,_,_,rfl,ty,rfl,hk,_,rfl,iteT k⟩
end
noncomputable def spMixed:Sp:=fun vs H Q _=>∃ c k:Int,vs=[.int c,.int k]∧0≤k∧k≤1000000∧∀ n:Int,0≤n→n < 2147483629→Q (.int n) H
noncomputable def Src (H:Hp) (p:Addr) (k:Int):Prop:=∃ a c j:Int,H p=some (.lst [.int a,.int c,.int j])∧0≤j∧j≤k
noncomputable def spDigits:Sp:=fun vs H Q _=>∃ c:Int,vs=[.int c]∧∀ p H',H p=none→Src H' p 0→Same H H'→(∀ b,b≠p→H' b=H b)→Q (.ref p) H'
noncomputable def spNext:Sp:=fun vs H Q _=>∃ (p:Addr) (m k:Int),vs=[.ref p,.int m]∧Src H p k∧k≤999998∧0 < m∧m < 2 ^ 64 ∧
 ∀ (r:Int) (H':Hp),0≤r→r < m→Src H' p (k + 1)→(∀ b,b≠p→H' b=H b)→Q (.int r) H'
section
variable {P:Program}{w:World}{K:PySem.W.Frag}{mg:Str→Option Value}{base:Heap}{CX:CXT}
theorem scMx:FnScope ["_law_cell", "_law_k", "_law_number"] ["_law_cell", "_law_k"] (defScope sMixed):=⟨rfl,rfl,rfl,by decide +kernel,rfl,by decide +kernel,by decide +kernel⟩
theorem ok_mixed {f:Addr}{fd:FuncData} (F:Fun K "_law_mixed" "_law_mixed" sMixed f fd):FnOk P w K mg base CX 1 f fd ["_law_cell", "_law_k"] spMixed:=by
 refine F.okC scMx (fun vs H Q E h=>?_) (fun cdv A outer s H vs Q E hr h=>?_)
 ·obtain ⟨c,k,rfl,_⟩:=h;rfl
 ·obtain ⟨c,k,rfl,h0,h1,q⟩:=h
  refine ⟨_,zA3 (zAb (i:=2) scMx.nd rfl (Or.inl rfl) (zAg zBh (zAg zC7 (zAg zBc (zAg zBc (zAg zBh (pv 0) zA4) (zAg zC7 zA4 (pv 1))) zA4) zA4) zA4))
   (zA3 (zAb (i:=2) scMx.nd rfl (Or.inl rfl) (zAg zBh (zAg zC7 (pv 2) (zAg zBc (zAg zDa (pv 2) zA4) zA4)) zA4))
   (zA3 (zAb (i:=2) scMx.nd rfl (Or.inl rfl) (zAg zBh (zAg zC7 (pv 2) (zAg zBc (zAg zBc (zAg zDa (pv 2) zA4) zA4) (pv 1))) zA4))
   (zA7 (zAd (zAg zBh (zAg zC7 (pv 2) (zAg zBc (zAg zDa (pv 2) zA4) zA4)) zA4))))),?_⟩
  have M:(0:Int) < 2147483629:=by decide
  have lo:∀ z:Int,0≤z % 2147483629:=fun z=>Int.emod_nonneg _ (by decide);have hi:∀ z:Int,z % 2147483629 < 2147483629:=fun z=>Y9 _ M;have cm:∀ z y:Int,CMul (z % 2147483629) y:=fun z y=>by have:=lo z;have:=hi z;exact .inl ⟨by omega,by omega⟩
  refine ⟨_,rfl,_,_,rfl,rfl,M,_,rfl,_,_,rfl,rfl,.inl ⟨by decide,by decide⟩,_,_,rfl,rfl,_,_,rfl,rfl,_,_,rfl,rfl,.inr ⟨by decide,by decide⟩,_,_,rfl,rfl,M,?_⟩;refine ⟨_,rfl,_,rfl,_,_,rfl,rfl,⟨by decide,by decide⟩,_,_,rfl,rfl,_,_,rfl,rfl,cm _ _,_,_,rfl,rfl,M,?_⟩;refine ⟨_,rfl,_,rfl,_,_,rfl,rfl,⟨by decide,by decide⟩,_,_,rfl,rfl,_,rfl,_,_,rfl,rfl,_,_,rfl,rfl,cm _ _,_,_,rfl,rfl,M,?_⟩;refine ⟨_,rfl,_,rfl,_,_,rfl,rfl,⟨by decide,by decide⟩,_,_,rfl,rfl,_,_,rfl,rfl,cm _ _,_,_,rfl,rfl,M,?_⟩;exact q _ (lo _) (hi _)
theorem scDg:FnScope ["_law_cell"] ["_law_cell"] (defScope sDigits):=⟨rfl,rfl,rfl,by decide +kernel,rfl,by decide +kernel,by decide +kernel⟩
theorem ok_digits {f:Addr}{fd:FuncData} (F:Fun K "_law_digits" "_law_digits" sDigits f fd):FnOk P w K mg base CX 1 f fd ["_law_cell"] spDigits:=by
 refine F.okC scDg (fun vs H Q E h=>?_) (fun cdv A outer s H vs Q E hr h=>?_)
 ·obtain ⟨c,rfl,_⟩:=h;rfl
 ·obtain ⟨c,rfl,q⟩:=h;refine ⟨_,zA7 (zAd (zAi (zA0 (zAg zC7 (zAg zDa (pv 0) zA4) (zAg op_sub zA4 (zAg zBh (pv 0) zA4))) (zA0 (pv 0) (zA0 zA4 zA1))))),?_⟩;have a1:0≤c % 2:=Int.emod_nonneg _ (by decide);have a2:c % 2 < 2:=Y9 _ (by decide);refine ⟨_,rfl,_,_,rfl,rfl,⟨by decide,by decide⟩,_,rfl,_,_,rfl,rfl,(by show (0:Int) < 2;decide),_,_,rfl,rfl,_,_,rfl,rfl,.inr ⟨by omega,by omega⟩,_,rfl,(by show 3≤sizeLine;decide),fun p hp=>?_⟩;exact q p _ hp ⟨_,_,0,zA2,by decide,by decide⟩ (Same.new hp) fun b hb=>zA9 hb
theorem scNx:FnScope ["_law_source", "_law_many", "_law_got"] ["_law_source", "_law_many"] (defScope sNext):=⟨rfl,rfl,rfl,by decide +kernel,rfl,by decide +kernel,by decide +kernel⟩
theorem ok_next {f fm:Addr}{fd fdm:FuncData} (hC:Calm CX) (F:Fun K "_law_next" "_law_next" sNext f fd) (DM:Def K mg "_law_mixed" sMixed ["_law_cell", "_law_k"] fm fdm):FnOk P w K mg base CX 2 f fd ["_law_source", "_law_many"] spNext:=by
 have GM:FnOk P w K mg base CX 1 fm fdm ["_law_cell", "_law_k"] spMixed:=ok_mixed DM.fn;refine F.okC scNx (fun vs H Q E h=>?_) (fun cdv A outer s H vs Q E hr h=>?_)
 ·obtain ⟨p,m,k,rfl,_⟩:=h;rfl
 ·obtain ⟨p,m,k,rfl,⟨a,c,j,hp,j0,j1⟩,hk,m0,m1,q⟩:=h
  refine ⟨_,zA3 (zB0 (zAl op_gt (zAs zAn (pv 0) zA4 (fun _ _=>rfl)) zA4 (nomark _))
    (zA3 (zAb (i:=2) scNx.nd rfl (Or.inl rfl) (zAg zBh (zAs zAn (pv 0) zA4 (fun _ _=>rfl)) (pv 1)))
    (zA3 (ps_asg (zAg op_fdivB (zAs zAn (pv 0) zA4 (fun _ _=>rfl)) (pv 1)) (pg_sub (pv 0) zA4 set_list))
    (zA7 (zAd (pv 2))))) zAf)
   (zA3 (ps_asg (zAg zBc (zAs zAn (pv 0) zA4 (fun _ _=>rfl)) zA4) (pg_sub (pv 0) zA4 set_list))
   (zA7 (zAd (zAg zBh (zA8 GM hr rfl DM.at_ DM.fn.kp DM.bind .nil (passC hC) (zA0 (zAs zAn (pv 0) zA4 (fun _ _=>rfl)) (zA0 (zAs zAn (pv 0) zA4 (fun _ _=>rfl)) zA1))) (pv 1))))),?_⟩
  have S0:SqL K H p [.int a,.int c,.int j]:=SqL.of hp;refine ⟨_,rfl,p,_,_,_,rfl,rfl,S0,rfl,_,_,rfl,rfl,_,rfl,?_⟩;refine ite2 (fun h0=>?_) (fun h0=>?_)
  ·refine ⟨_,rfl,p,_,_,_,rfl,rfl,S0,rfl,_,rfl,_,_,rfl,rfl,m0,?_⟩;refine ⟨_,rfl,p,_,_,_,rfl,rfl,S0,rfl,_,rfl,_,_,rfl,rfl,⟨m0,m1⟩,?_⟩;refine ⟨_,rfl,p,_,_,0,rfl,rfl,hp,rfl,?_⟩;refine ⟨_,rfl,q _ _ (Int.emod_nonneg _ (by omega)) (Y9 _ m0) ⟨_,_,j,zA2,j0,by omega⟩ fun b hb=>zA9 hb⟩
  ·refine ⟨_,rfl,p,_,_,_,rfl,rfl,S0,rfl,_,_,rfl,rfl,?_⟩;refine ⟨_,rfl,p,_,_,2,rfl,rfl,hp,rfl,?_⟩;have S1:SqL K (upd H p (.lst [.int a,.int c,.int (j + 1)])) p [.int a,.int c,.int (j + 1)]:=SqL.of zA2;refine ⟨_,rfl,p,_,_,_,rfl,rfl,S1,rfl,_,rfl,p,_,_,_,rfl,rfl,S1,rfl,c,j + 1,rfl,by omega,by omega,fun n n0 n1=>?_⟩;refine ⟨_,rfl,_,_,rfl,rfl,m0,?_⟩;exact q _ _ (Int.emod_nonneg _ (by omega)) (Y9 _ m0) ⟨_,_,j + 1,zA2,by omega,by omega⟩ fun b hb=>zA9 hb
end
theorem zCa {α : Type} (xs:List α) {i:Int} (h0:0≤i) (h1:i < xs.length):∃ c,atI xs i=some c∧c∈xs:=by
 have lt:i.toNat < xs.length:=by omega
 refine ⟨xs[i.toNat],?_,List.getElem_mem _⟩;unfold atI ixN;rw [if_pos h0,if_pos h1];simp [lt]
theorem Src.mono {H:Hp}{p:Addr}{k l:Int} (h:Src H p k) (hl:k≤l):Src H p l:=by
 obtain ⟨a,c,j,e,j0,j1⟩:=h;exact ⟨a,c,j,e,j0,by omega⟩
noncomputable def nameD:PyData→Bool
 | .str x=>nameB x
 | _=>false
noncomputable def strsOf:List PyData→List Str
 | .str x :: r=>x :: strsOf r
 | _ :: r=>strsOf r
 | []=>[]
noncomputable def unlikeB (ds:List PyData):Bool:=ds.all nameD && decide (strsOf ds).Nodup
noncomputable def pairB:PyData→Bool
 | .tuple [_,.list vs]=>decide (0 < vs.length) && unlikeB vs
 | _=>false
noncomputable def firstD:PyData→PyData
 | .tuple (d :: _)=>d
 | _=>.none
noncomputable def fieldsB:PyData→Bool
 | .list ds=>ds.all pairB && unlikeB (ds.map firstD)
 | _=>false
noncomputable def spNameD:Sp:=fun vs H Q _=>∃ v d,vs=[v]∧Has Any H v d∧∀ H',Same H H'→Q (.bl (nameD d)) H'
noncomputable def spUnlike:Sp:=fun vs H Q _=>∃ v ds,vs=[v]∧Has Any H v (.list ds)∧∀ H',Same H H'→Q (.bl (unlikeB ds)) H'
noncomputable def spPair:Sp:=fun vs H Q _=>∃ v d,vs=[v]∧Has Any H v d∧∀ H',Same H H'→Q (.bl (pairB d)) H'
noncomputable def spFields:Sp:=fun vs H Q _=>∃ v d,vs=[v]∧Has Any H v d∧∀ H',Same H H'→Q (.bl (fieldsB d)) H'
theorem strs_all {G:Addr→Prop}{H:Hp}:∀ {xs:List V}{ds:List PyData},HasAll G H xs ds→ds.all nameD=true→xs=(strsOf ds).map V.str∧(strsOf ds).length=ds.length
 | _,_,.nil,_=>⟨rfl,rfl⟩
 | _,_,.cons h t,e=>by
  rw [Yd,Zq] at e;obtain ⟨e1,e2⟩:=e;obtain ⟨q1,q2⟩:=strs_all t e2;cases h with
  | str x _ _=>exact ⟨by rw [q1];rfl,by rw [strsOf,Z8,Z8,q2]⟩
  | non=>cases e1
  | bl b=>cases e1
  | int i=>cases e1
  | lst _ _ _ _=>cases e1
  | tup _ _ _ _=>cases e1
section
variable {P:Program}{w:World}{K:PySem.W.Frag}{mg:Str→Option Value}{base:Heap}{CX:CXT}
theorem name_imp {vs:List V}{H:Hp}{Q:VK}{E:XK} (h:spNameD vs H Q E):spIsName K vs H Q E:=by
 obtain ⟨v,d,rfl,hd,q⟩:=h;cases hd with
 | str x hx ho=>exact .inl ⟨x,rfl,hx,q⟩
 | non=>exact .inr ⟨_,_,rfl,.non,rfl,q _ (Same.refl _)⟩
 | bl b=>exact .inr ⟨_,_,rfl,.bl b,rfl,q _ (Same.refl _)⟩
 | int i=>exact .inr ⟨_,_,rfl,.int i,rfl,q _ (Same.refl _)⟩
 | lst _ e _ _=>exact .inr ⟨_,_,rfl,.lst e,rfl,q _ (Same.refl _)⟩
 | tup _ e _ _=>exact .inr ⟨_,_,rfl,.tup e,rfl,q _ (Same.refl _)⟩
theorem zDb {f:Addr}{fd:FuncData} (F:Fun K "is_name" "is_name" sIsName f fd) (T:Tops K mg):FnOk P w K mg base CX 1 f fd ["thing"] spNameD:=(ok_isName F T).imp fun _ _ _ _ h=>name_imp h
theorem scUl:FnScope ["things"] ["things"] (defScope sUnlike):=⟨rfl,rfl,rfl,by decide +kernel,rfl,by decide +kernel,by decide +kernel⟩
theorem ok_unlike {f fn:Addr}{fd fdn:FuncData} (hC:Calm CX) (T:Tops K mg) (F:Fun K "are_unlike_names" "are_unlike_names" sUnlike f fd) (DN:Def K mg "is_name" sIsName ["thing"] fn fdn):FnOk P w K mg base CX 2 f fd ["things"] spUnlike:=by
 have GN:FnOk P w K mg base CX 1 fn fdn ["thing"] spNameD:=zDb DN.fn T;refine F.okC scUl (fun vs H Q E h=>?_) (fun cdv A outer s H vs Q E hr h=>?_)
 ·obtain ⟨v,ds,rfl,_⟩:=h;rfl
 ·obtain ⟨v,ds,rfl,hd,k⟩:=h;obtain ⟨a,xs,rfl,_,ha,hz,hx⟩:=hd.list_inv;have hzl:xs.length≤sizeLine:=Zh (small1000 hz)
  refine ⟨_,zA7 (zAd (zBu (zA5 (zC0 rfl) rfl T.all PyProof.Rows.boot_all (zA0 (zAw (T:=["thing"]) rfl ScOk.auto (zAv (pv 0)) (fun _ _ _ _=>zAe (i:=1) (by decide +kernel:(["things", "thing"]:List Str).Nodup) rfl (Or.inl rfl)) (fun _ _ _ _=>zAz)
    (fun _ _ _ _=>zA8 GN hr rfl DN.at_ DN.fn.kp DN.bind .nil (passC hC) (zA0 (pv 1) zA1))) zA1))
   (zCi (zB4 zCq (zA5 zC6 rfl T.len PySem.boot_len (zA0 (zAy (zDl rfl) rfl T.set PyProof.Rows.boot_set (zA0 (pv 0) zA1)) zA1)) (zA5 zAp rfl T.len PySem.boot_len (zA0 (pv 0) zA1)) (nomark _))))),?_⟩
  refine ⟨_,rfl,a,rfl,⟨xs,SqL.of ha⟩,zB3 (xs:=xs) (fun i ys H'=>Same H H'∧ys=(ds.take i).map fun d=>V.bl (nameD d)) ⟨Same.refl _,rfl⟩ (fun i ys H' p=>SqL.of (p.1 _ _ ha)) (fun i ys H' hi p=>?_) ?_ ?_⟩
  ·rw [p.2,Z1];have:=Zl i ds;omega
  ·rintro i x ys H' hi ⟨s1,rfl⟩ N hN;obtain ⟨d,hd',hv⟩:=hx.get hi;refine pick ?_;refine ⟨_,rfl,_,d,rfl,hv.mono s1,fun H2 s2=>hN _ _ ⟨s1.trans s2,?_⟩⟩;rw [Zn,hd',Zo];rfl
  ·rintro ys H' ⟨s1,rfl⟩ p hp;have e:(ds.take xs.length).map (fun d=>V.bl (nameD d))=(ds.map nameD).map V.bl:=by
    rw [hx.length,Zr,Zz];rfl
   have s2:Same H (upd H' p (.lst ((ds.take xs.length).map fun d=>V.bl (nameD d)))):=s1.trans (Same.new hp);refine ⟨p,ds.map nameD,rfl,SqL.of (by rw [zA2,e]),_,rfl,?_⟩;have ea:(ds.map nameD).all id=ds.all nameD:=by rw [List.all_map];rfl
   rw [ea];cases eb:ds.all nameD with
   | false =>
    refine iteF ?_;have e0:unlikeB ds=false:=by unfold unlikeB;rw [eb];rfl
    rw [← e0];exact k _ s2
   | true =>
    refine iteT ?_;obtain ⟨q1,q2⟩:=strs_all hx eb;subst q1;have ha2:=s2 _ _ ha;have hz4:(strsOf ds).length≤4000:=by rw [Z1] at hz;omega
    refine ⟨_,rfl,a,strsOf ds,rfl,SqL.of ha2,hz4,fun d hd2=>?_⟩;refine ⟨d,strsOf ds,rfl,zA2,hz4,?_⟩;refine ⟨_,rfl,a,_,rfl,.inl (SqL.of ((Same.new hd2) _ _ ha2)),rfl,?_⟩;have e1:decide (V.int ((dl (strsOf ds)).length:Int)=V.int (((strsOf ds).map V.str).length:Int))=unlikeB ds:=by
     unfold unlikeB;rw [eb,Ye,← dl_len_iff,Z1];by_cases q:(dl (strsOf ds)).length=(strsOf ds).length
     ·rw [decide_eq_true q,q];simp
     ·rw [decide_eq_false q,decide_eq_false];intro z;injection z with z;omega
    rw [e1];exact k _ (s2.trans (Same.new hd2))
end
noncomputable def sizeD:PyData→Nat
 | .tuple [_,.list vs]=>vs.length
 | _=>0
noncomputable def countD (ds:List PyData):Int:=ds.foldl (fun m d=>m * (sizeD d:Int)) 1
noncomputable def spCount:Sp:=fun vs H Q _=>∃ v ds,vs=[v]∧Has Any H v (.list ds)∧ds.all pairB=true∧Q (.int (countD ds)) H
theorem zD9 {G:Addr→Prop}{H:Hp}{v:V}{d:PyData} (h:Has G H v d) (e:pairB d=true) :
  ∃ a x y n l vs ys,v=.ref a∧G a∧H a=some (.tup [x,y])∧d=.tuple [n,.list vs]∧Has G H x n∧y=.ref l∧G l∧H l=some (.lst ys)∧ys.length≤1000∧HasAll G H ys vs∧0 < vs.length∧unlikeB vs=true:=by
 cases h with
 | non=>cases e
 | bl b=>cases e
 | int i=>cases e
 | str x _ _=>cases e
 | lst _ _ _ _=>cases e
 | tup g s z q =>
  cases q with
  | nil=>cases e
  | cons h1 q =>
   cases q with
   | nil=>cases e
   | cons h2 q =>
    cases q with
    | cons _ _=>cases h2 <;> cases e
    | nil =>
     cases h2 with
     | non=>cases e
     | bl b=>cases e
     | int i=>cases e
     | str x _ _=>cases e
     | tup _ _ _ _=>cases e
     | lst g2 s2 z2 q2 =>
      have e':(decide _ && unlikeB _)=true:=e;rw [Zq] at e';exact ⟨_,_,_,_,_,_,_,rfl,g,s,rfl,h1,rfl,g2,s2,z2,q2,of_decide_eq_true e'.1,e'.2⟩
section
variable {P:Program}{w:World}{K:PySem.W.Frag}{mg:Str→Option Value}{base:Heap}{CX:CXT}
theorem scPr:FnScope ["thing", "values"] ["thing"] (defScope sPair):=⟨rfl,rfl,rfl,by decide +kernel,rfl,by decide +kernel,by decide +kernel⟩
theorem ok_pair {f fu fn:Addr}{fd fdu fdn:FuncData} (hC:Calm CX) (T:Tops K mg) (F:Fun K "is_pair_with_values" "is_pair_with_values" sPair f fd) (DN:Def K mg "is_name" sIsName ["thing"] fn fdn)
  (DU:Def K mg "are_unlike_names" sUnlike ["things"] fu fdu):FnOk P w K mg base CX 3 f fd ["thing"] spPair:=by
 have GU:FnOk P w K mg base CX 2 fu fdu ["things"] spUnlike:=ok_unlike hC T DU.fn DN;refine F.okC scPr (fun vs H Q E h=>?_) (fun cdv A outer s H vs Q E hr h=>?_)
 ·obtain ⟨v,d,rfl,_⟩:=h;rfl
 ·obtain ⟨v,d,rfl,hd,k⟩:=h
  refine ⟨_,zA3 (zB0 (PW.pt (zCb (zAu (zAt (zA5 zAr rfl T.isinst PyProof.Rows.boot_isinstance (zA0 (pv 0) (zA0 (zB1 (v:=.ty "tuple") rfl T.tuple PyProof.Rows.boot_tuple rfl) zA1)))))
    (zBb (zAl op_ne (zA5 zAp rfl T.len PySem.boot_len (zA0 (pv 0) zA1)) zA4 (nomark _))))) (zA7 (zAd zBt)) zAf)
   (zA3 (zAb (i:=1) scPr.nd rfl (Or.inl rfl) (zAs zBy (pv 0) zA4 (fun _ _=>rfl)))
   (zA7 (zAd (zBu (zA5 zAr rfl T.isinst PyProof.Rows.boot_isinstance (zA0 (pv 1) (zA0 (zB1 (v:=.ty "list") rfl T.list PyProof.Rows.boot_list rfl) zA1)))
    (zBu (zB4 op_gt (zA5 zAp rfl T.len PySem.boot_len (zA0 (pv 1) zA1)) zA4 (nomark _))
     (zCi (zA8 GU hr rfl DU.at_ DU.fn.kp DU.bind .nil (passC hC) (zA0 (pv 1) zA1)))))))),?_⟩
  have k0:pairB d=false→Q (.bl false) H:=fun e=>by rw [← e];exact k _ (Same.refl _)
  refine ⟨_,rfl,?_⟩;cases hd with
  | non=>exact ⟨_,_,_,_,_,rfl,.non,rfl,rfl,_,rfl,iteT (iteT (k0 rfl))⟩
  | bl b=>exact ⟨_,_,_,_,_,rfl,(.bl b),rfl,rfl,_,rfl,iteT (iteT (k0 rfl))⟩
  | int i=>exact ⟨_,_,_,_,_,rfl,(.int i),rfl,rfl,_,rfl,iteT (iteT (k0 rfl))⟩
  | str x _ _=>exact ⟨_,_,_,_,_,rfl,(.str x),rfl,rfl,_,rfl,iteT (iteT (k0 rfl))⟩
  | lst _ e _ _=>exact ⟨_,_,_,_,_,rfl,(.lst e),rfl,rfl,_,rfl,iteT (iteT (k0 rfl))⟩
  | @tup a xs ds _ e z q =>
   refine ⟨_,_,_,_,_,rfl,.tup e,rfl,rfl,_,rfl,iteF ?_⟩;refine ⟨_,rfl,a,xs,rfl,.inr (SqT.of e),rfl,_,rfl,?_⟩;have hl:=q.length;by_cases h2:xs.length=2
   ·rw [decide_eq_true (show V.int (xs.length:Int)=V.int 2 by rw [h2];rfl)];refine iteF ?_;obtain ⟨d0,d1,rfl⟩:∃ d0 d1,ds=[d0,d1]:=by
     match ds,hl.symm.trans h2 with
     | [d0,d1],_=>exact ⟨d0,d1,rfl⟩
    cases q with
    | @cons x0 _ _ _ q0 q =>
     cases q with
     | @cons x1 _ _ _ q1 q =>
      cases q;refine ⟨_,rfl,a,_,_,x1,rfl,rfl,SqT.of e,rfl,?_⟩;refine ⟨_,rfl,?_⟩;cases q1 with
      | non=>exact ⟨_,_,_,_,_,rfl,.non,rfl,rfl,_,rfl,iteF (k0 rfl)⟩
      | bl b=>exact ⟨_,_,_,_,_,rfl,(.bl b),rfl,rfl,_,rfl,iteF (k0 rfl)⟩
      | int i=>exact ⟨_,_,_,_,_,rfl,(.int i),rfl,rfl,_,rfl,iteF (k0 rfl)⟩
      | str x _ _=>exact ⟨_,_,_,_,_,rfl,(.str x),rfl,rfl,_,rfl,iteF (k0 rfl)⟩
      | tup _ e1 _ _=>exact ⟨_,_,_,_,_,rfl,(.tup e1),rfl,rfl,_,rfl,iteF (k0 rfl)⟩
      | @lst l ys vs g1 e1 z1 q1 =>
       refine ⟨_,_,_,_,_,rfl,.lst e1,rfl,rfl,_,rfl,iteT ?_⟩;refine ⟨_,rfl,l,ys,rfl,.inl (SqL.of e1),_,_,rfl,rfl,_,rfl,?_⟩;refine ite2 (fun h0=>?_) (fun h0=>?_)
       ·refine ⟨_,rfl,_,vs,rfl,.lst g1 e1 z1 q1,fun H' s'=>?_⟩;have e0:pairB (.tuple [d0,.list vs])=unlikeB vs:=by
         show (decide (0 < vs.length) && unlikeB vs)=_;rw [decide_eq_true,Ye];have:=q1.length;have:=of_decide_eq_true h0;omega
        rw [← e0];exact k _ s'
       ·refine k0 ?_;show (decide (0 < vs.length) && unlikeB vs)=_;rw [decide_eq_false,Bool.false_and];have:=q1.length;intro z0;exact h0 (decide_eq_true (by omega))
   ·rw [decide_eq_false (show ¬ V.int (xs.length:Int)=V.int 2 by intro z0;injection z0 with z0;omega)];refine iteT (k0 ?_)
    match ds,hl with
    | [],_=>rfl
    | [_],_=>rfl
    | [_,_],hl=>exact absurd hl h2
    | _ :: d1 :: _ :: _,_=>cases d1 <;> rfl
end
theorem all_get {ds:List PyData}{f:PyData→Bool}{i:Nat}{d:PyData} (h:ds.all f=true) (e:ds[i]? = some d):f d=true:=List.all_eq_true.mp h d (Za e)
section
variable {P:Program}{w:World}{K:PySem.W.Frag}{mg:Str→Option Value}{base:Heap}{CX:CXT}
theorem scFd:FnScope ["things"] ["things"] (defScope sFields):=⟨rfl,rfl,rfl,by decide +kernel,rfl,by decide +kernel,by decide +kernel⟩
theorem ok_fields {f fp fu fn:Addr}{fd fdp fdu fdn:FuncData} (hC:Calm CX) (T:Tops K mg) (F:Fun K "are_fields" "are_fields" sFields f fd) (DN:Def K mg "is_name" sIsName ["thing"] fn fdn)
  (DU:Def K mg "are_unlike_names" sUnlike ["things"] fu fdu) (DP:Def K mg "is_pair_with_values" sPair ["thing"] fp fdp):FnOk P w K mg base CX 4 f fd ["things"] spFields:=by
 have GU:FnOk P w K mg base CX 2 fu fdu ["things"] spUnlike:=ok_unlike hC T DU.fn DN;have GP:FnOk P w K mg base CX 3 fp fdp ["thing"] spPair:=ok_pair hC T DP.fn DN DU;refine F.okC scFd (fun vs H Q E h=>?_) (fun cdv A outer s H vs Q E hr h=>?_)
 ·obtain ⟨v,d,rfl,_⟩:=h;rfl
 ·obtain ⟨v,d,rfl,hd,k⟩:=h;have hr2:=hr.mono (show 2≤3 by decide)
  refine ⟨_,zA3 (zB0 (PW.pt (zCb (zAu (zAt (zA5 zAr rfl T.isinst PyProof.Rows.boot_isinstance (zA0 (pv 0) (zA0 (zB1 (v:=.ty "list") rfl T.list PyProof.Rows.boot_list rfl) zA1)))))
    (zBb (zAu (zAt (zA5 (zC0 rfl) rfl T.all PyProof.Rows.boot_all (zA0 (zAw (T:=["thing"]) rfl ScOk.auto (zAv (pv 0)) (fun _ _ _ _=>zAe (i:=1) (by decide +kernel:(["things", "thing"]:List Str).Nodup) rfl (Or.inl rfl)) (fun _ _ _ _=>zAz)
    (fun _ _ _ _=>zA8 GP hr rfl DP.at_ DP.fn.kp DP.bind .nil (passC hC) (zA0 (pv 1) zA1))) zA1))))))) (zA7 (zAd zBt)) zAf)
   (zA7 (zAd (zA8 GU hr2 rfl DU.at_ DU.fn.kp DU.bind .nil (passC hC) (zA0 (zAw (T:=["thing"]) rfl ScOk.auto (zAv (pv 0)) (fun _ _ _ _=>zAe (i:=1) (by decide +kernel:(["things", "thing"]:List Str).Nodup) rfl (Or.inl rfl)) (fun _ _ _ _=>zAz)
    (fun _ _ _ _=>zAs (r:=rIxT K) zBy (pv 1) zA4 (fun _ _=>rfl))) zA1)))),?_⟩
  have k0:fieldsB d=false→∀ H',Same H H'→Q (.bl false) H':=fun e H' s'=>by rw [← e];exact k _ s'
  refine ⟨_,rfl,?_⟩;cases hd with
  | non=>exact ⟨_,_,_,_,_,rfl,.non,rfl,rfl,_,rfl,iteT (iteT (k0 rfl _ (Same.refl _)))⟩
  | bl b=>exact ⟨_,_,_,_,_,rfl,(.bl b),rfl,rfl,_,rfl,iteT (iteT (k0 rfl _ (Same.refl _)))⟩
  | int i=>exact ⟨_,_,_,_,_,rfl,(.int i),rfl,rfl,_,rfl,iteT (iteT (k0 rfl _ (Same.refl _)))⟩
  | str x _ _=>exact ⟨_,_,_,_,_,rfl,(.str x),rfl,rfl,_,rfl,iteT (iteT (k0 rfl _ (Same.refl _)))⟩
  | tup _ e _ _=>exact ⟨_,_,_,_,_,rfl,(.tup e),rfl,rfl,_,rfl,iteT (iteT (k0 rfl _ (Same.refl _)))⟩
  | @lst a xs ds _ ha hz hx =>
   refine ⟨_,_,_,_,_,rfl,.lst ha,rfl,rfl,_,rfl,iteF ?_⟩;refine ⟨_,rfl,a,rfl,⟨xs,SqL.of ha⟩,zB3 (xs:=xs) (fun i ys H'=>Same H H'∧ys=(ds.take i).map fun d=>V.bl (pairB d)) ⟨Same.refl _,rfl⟩ (fun i ys H' p=>SqL.of (p.1 _ _ ha)) (fun i ys H' hi p=>?_) ?_ ?_⟩
   ·rw [p.2,Z1];have:=Zl i ds;have:=small1000 hz;omega
   ·rintro i x ys H' hi ⟨s1,rfl⟩ N hN;obtain ⟨d,hd',hv⟩:=hx.get hi;refine pick ?_;refine ⟨_,rfl,_,d,rfl,hv.mono s1,fun H2 s2=>hN _ _ ⟨s1.trans s2,?_⟩⟩;rw [Zn,hd',Zo];rfl
   ·rintro ys H' ⟨s1,rfl⟩ p hp;have e:(ds.take xs.length).map (fun d=>V.bl (pairB d))=(ds.map pairB).map V.bl:=by
     rw [hx.length,Zr,Zz];rfl
    have s2:Same H (upd H' p (.lst ((ds.take xs.length).map fun d=>V.bl (pairB d)))):=s1.trans (Same.new hp);refine ⟨p,ds.map pairB,rfl,SqL.of (by rw [zA2,e]),_,rfl,?_⟩;have ea:(ds.map pairB).all id=ds.all pairB:=by rw [List.all_map];rfl
    rw [ea];cases eb:ds.all pairB with
    | false =>
     refine iteT (k0 ?_ _ s2);show (ds.all pairB && _)=false;rw [eb];rfl
    | true =>
     refine iteF ?_;have ha2:=s2 _ _ ha;generalize upd H' p (.lst ((ds.take xs.length).map fun d=>V.bl (pairB d)))=H3 at s2 ha2 ⊢;refine ⟨_,rfl,a,rfl,⟨xs,SqL.of ha2⟩,zB3 (xs:=xs) (fun i ys H'=>H'=H3∧HasAll Any H3 ys ((ds.take i).map firstD)) ⟨rfl,.nil⟩ (fun i ys H' p=>by rw [p.1];exact SqL.of ha2) (fun i ys H' hi p=>?_) ?_ ?_⟩
     ·have:=p.2.length;rw [Z1] at this;have:=Zl i ds;have:=small1000 hz;omega
     ·rintro i x ys H' hi ⟨rfl,hy⟩ N hN;obtain ⟨d,hd',hv⟩:=hx.get hi;obtain ⟨b,x0,y0,n,l,vs,zs,rfl,_,hb,rfl,hn,_⟩:=zD9 hv (all_get eb hd');refine pick ?_;refine ⟨_,rfl,b,_,_,x0,rfl,rfl,SqT.of (s2 _ _ hb),rfl,hN _ _ ⟨rfl,?_⟩⟩;rw [Zn,hd',Zo];exact hy.snoc (hn.mono s2)
     ·rintro ys H' ⟨rfl,hy⟩ q hq;have s3:=s2.trans (Same.new (o:=.lst ys) hq);have hl:ys.length≤1000:=by
       have:=hy.length;rw [Z1] at this;have:=Zl xs.length ds;omega
      refine ⟨_,ds.map firstD,rfl,.lst trivial zA2 hl ?_,fun H4 s4=>?_⟩
      ·rw [hx.length,Zr] at hy;exact hy.mono (Same.new hq)
      ·have e1:fieldsB (.list ds)=unlikeB (ds.map firstD):=by
        show (ds.all pairB && unlikeB (ds.map firstD))=_;rw [eb];rfl
       rw [← e1];exact k _ (s3.trans s4)
theorem scCt:FnScope ["fields", "many", "field"] ["fields"] (defScope sCount):=⟨rfl,rfl,rfl,by decide +kernel,rfl,by decide +kernel,by decide +kernel⟩
theorem ok_count {f:Addr}{fd:FuncData} (T:Tops K mg) (F:Fun K "count_states" "count_states" sCount f fd):FnOk P w K mg base CX 1 f fd ["fields"] spCount:=by
 refine F.okC scCt (fun vs H Q E h=>?_) (fun cdv A outer s H vs Q E hr h=>?_)
 ·obtain ⟨v,ds,rfl,_⟩:=h;rfl
 ·obtain ⟨v,ds,rfl,hd,eb,k⟩:=h;obtain ⟨a,xs,rfl,_,ha,hz,hx⟩:=hd.list_inv
  refine ⟨_,zA3 (zAb (i:=1) scCt.nd rfl (Or.inl rfl) zA4)
   (zA3 (zCu PassesOwn.never rfl (zAv (pv 0)) (zAe (i:=2) scCt.nd rfl (Or.inl rfl))
    (zA7 (zAb (i:=1) scCt.nd rfl (Or.inl rfl) (zAg zC7 (pv 1) (zA5 zAp rfl T.len PySem.boot_len (zA0 (zAs zBy (pv 2) zA4 (fun _ _=>rfl)) zA1))))))
   (zA7 (zAd (pv 1)))),?_⟩
  refine ⟨_,rfl,a,rfl,⟨xs,SqL.of ha⟩,zDf (K:=K) (a:=a) (xs:=xs) (fun i σ H2=>∃ u,σ = [some (.ref a),some (.int (countD (ds.take i))),u]∧H2=H) ⟨none,rfl,rfl⟩ (fun i σ H2 _ ⟨_,_,e⟩=>by rw [e];exact SqL.of ha) ?_ ?_⟩
  ·rintro i x σ H2 hi ⟨u,rfl,rfl⟩;obtain ⟨d,hd',hv⟩:=hx.get hi;obtain ⟨b,x0,y0,n,l,vs,zs,rfl,_,hb,rfl,hn,rfl,_,hl,hzl,hvs,_⟩:=zD9 hv (all_get eb hd');refine ⟨_,rfl,_,rfl,b,_,_,_,rfl,rfl,SqT.of hb,rfl,l,zs,rfl,.inl (SqL.of hl),_,_,rfl,rfl,.inr ⟨by omega,by omega⟩,⟨some (.ref b),?_,rfl⟩⟩;have e:countD (ds.take (i + 1))=countD (ds.take i) * (zs.length:Int):=by
    rw [Zn,hd'];unfold countD;rw [List.foldl_append];show _ * ((sizeD (.tuple [n,.list vs]):Nat):Int)=_;rw [hvs.length];rfl
   rw [e];rfl
  ·rintro σ H2 ⟨u,rfl,rfl⟩;refine ⟨_,rfl,?_⟩;rw [hx.length,Zr];exact k
end
structure FunD (K:PySem.W.Frag) (x qual:Str) (st:Stmt) (dV:Value) (f:Addr) (fd:FuncData):Prop where
 ex:∃ (oc:Value) (od:Option Addr) (kV doc pm:Value) (an:Option Addr) (cdv ct:Value) (osl:Array (Option Value)),
  fd=PySem.W.fnOf x qual (defArgs st) (defBody st) (defScope st) dV kV doc pm an cdv ct∧K.lookup f=some ⟨oc,od,.func fd,osl⟩∧PySem.W.codeIn K cdv qual=true
theorem FunD.okC {P:Program}{w:World}{K:PySem.W.Frag}{mg:Str→Option Value}{base:Heap}{CX:CXT}{x qual:Str}{st:Stmt}{dV:Value}{f:Addr}{fd:FuncData}{N ps:List Str}{k:Nat}{sp:Sp} (F:FunD K x qual st dV f fd) (S:FnScope N ps (defScope st)) (len:∀ vs H Q E,sp vs H Q E→vs.length=ps.length)
  (hbody:∀ (cdv:Value) (A:Around) (outer:List Env) (s:Shared) (H:Hp) (vs:List V) (Q:VK) (E:XK),Room k (A.deeper (PyProof.Rows.envOfC qual (defScope st) s.heap.objs.size f cdv))→sp vs H Q E →
   ∃ t,PSs (cxOf CX P w K mg base N qual (defScope st) f cdv A outer s H E).nox (defBody st) t∧t { nx:=fun _ H'=>Q .non H',rt:=Q } (start N vs) H):FnOk P w K mg base CX (k + 1) f fd ps sp:=by
 obtain ⟨oc,od,kV,doc,pm,an,cdv,ct,osl,rfl,lk,hcd⟩:=F.ex;refine zCr lk hcd S len fun A outer s H vs Q E hr hsp=>?_;obtain ⟨t,h,q⟩:=hbody cdv A outer s H vs Q E hr hsp;exact ⟨t,h.nox,q⟩
theorem fnf:¬ (("name" : Str) = "fields"):=by decide +kernel
theorem fno:¬ (("name" : Str) = "owner"):=by decide +kernel
theorem ffo:¬ (("fields" : Str) = "owner"):=by decide +kernel
noncomputable def kflds (n f o:V):List (Str×V):=putF "owner" o (putF "fields" f (putF "name" n []))
theorem kf_name (n f o:V):(kflds n f o).lookup ("name" : Str)=some n:=by
 unfold kflds;rw [zAo,if_neg fno,zAo,if_neg fnf,zAo,if_pos rfl]
theorem zBx (n f o:V):(kflds n f o).lookup ("fields" : Str)=some f:=by
 unfold kflds;rw [zAo,if_neg ffo,zAo,if_pos rfl]
theorem kf_owner (n f o:V):(kflds n f o).lookup ("owner" : Str)=some o:=by
 unfold kflds;rw [zAo,if_pos rfl]
structure KCls (K:PySem.W.Frag) (mg:Str→Option Value) (C fI:Addr):Prop where
 cl:Cls K C
 nN:NoAttr K C "name"
 nF:NoAttr K C "fields"
 nO:NoAttr K C "owner"
 mgC:mg "Kind" = some (.ref C)
 mkd:Mk K C fI
theorem name_any {G G':Addr→Prop}{H H':Hp}{v:V}{d:PyData} (h:Has G H v d) (e:nameD d=true):Has G' H' v d:=by
 cases h with
 | str x a b=>exact .str x a b
 | non=>cases e
 | bl b=>cases e
 | int i=>cases e
 | lst _ _ _ _=>cases e
 | tup _ _ _ _=>cases e
theorem names_any {G G':Addr→Prop}{H H':Hp}:∀ {xs:List V}{ds:List PyData},HasAll G H xs ds→ds.all nameD=true→HasAll G' H' xs ds
 | _,_,.nil,_=>.nil
 | _,_,.cons h t,e=>by
  rw [Yd,Zq] at e;exact .cons (name_any h e.1) (names_any t e.2)
theorem zCs {ds:List PyData} (h:unlikeB ds=true):ds.all nameD=true:=by
 have z:(ds.all nameD && decide (strsOf ds).Nodup)=true:=h;rw [Zq] at z;exact z.1
noncomputable def ownerD (n:Str):PyData→Bool
 | .none=>true
 | .str o=>nameB o && !decide (o=n)
 | _=>false
noncomputable def spInit (C:Addr):Sp:=fun vs H Q _=>∃ (p dx:Addr) (vf vo:V) (n:Str) (ds:List PyData) (od:PyData),vs=[.ref p,.str n,vf,vo]∧H p=some (.ins C dx [])∧n.length≤1000∧PyData.strOk n=true∧nameB n=true ∧
 Has Any H vf (.list ds)∧fieldsB (.list ds)=true∧Has Any H vo od∧ownerD n od=true∧countD ds≤8 ∧
 ∀ (H':Hp) (l:Addr),H' p=some (.ins C dx (kflds (.str n) (.ref l) vo))→Has (fun a=>H a=none) H' (.ref l) (.list ds)→(∀ b o,H b=some o→b≠p→H' b=some o)→Q .non H'
section
variable {P:Program}{w:World}{K:PySem.W.Frag}{mg:Str→Option Value}{base:Heap}{CX:CXT}
theorem scKi:FnScope ["self", "name", "fields", "owner"] ["self", "name", "fields", "owner"] (defScope sInit):=⟨rfl,rfl,rfl,by decide +kernel,rfl,by decide +kernel,by decide +kernel⟩
theorem k_both {R:Hp→Prop}{H1:Hp}{B:Prop} (t:∀ Hx,Same H1 Hx→R Hx) (h:(∀ Hx,Same H1 Hx→R Hx)→B):B:=h t
theorem ok_init {f C ff fc fp fu fn:Addr}{fd fdf fdc fdp fdu fdn:FuncData}{dV:Value} (hC:Calm CX) (T:Tops K mg) (F:FunD K "__init__" "Kind.__init__" sInit dV f fd) (KC:KCls K mg C f) (DN:Def K mg "is_name" sIsName ["thing"] fn fdn)
  (DU:Def K mg "are_unlike_names" sUnlike ["things"] fu fdu) (DP:Def K mg "is_pair_with_values" sPair ["thing"] fp fdp) (DF:Def K mg "are_fields" sFields ["things"] ff fdf) (DC:Def K mg "count_states" sCount ["fields"] fc fdc) :
  FnOk P w K mg base CX 5 f fd ["self", "name", "fields", "owner"] (spInit C):=by
 have GN:FnOk P w K mg base CX 1 fn fdn ["thing"] spNameD:=zDb DN.fn T;have GF:FnOk P w K mg base CX 4 ff fdf ["things"] spFields:=ok_fields hC T DF.fn DN DU DP;have GC:FnOk P w K mg base CX 1 fc fdc ["fields"] spCount:=ok_count T DC.fn;refine F.okC scKi (fun vs H Q E h=>?_) (fun cdv A outer s H vs Q E hr h=>?_)
 ·obtain ⟨p,dx,vf,vo,n,ds,od,rfl,_⟩:=h;rfl
 ·obtain ⟨p,dx,vf,vo,n,ds,od,rfl,hp,hn1,hn2,hn3,hf,hfb,ho,hob,hc8,k⟩:=h;have hr1:=hr.mono (show 1≤4 by decide);obtain ⟨tm,hmost⟩:=T.mostS
  refine ⟨_,zA3 (zB0 (zAu (zAt (zA8 GN hr1 rfl DN.at_ DN.fn.kp DN.bind .nil (passC hC) (zA0 (pv 1) zA1)))) zAx zAf)
   (zA3 (zB0 (zAu (zAt (zA8 GF hr rfl DF.at_ DF.fn.kp DF.bind .nil (passC hC) (zA0 (pv 2) zA1)))) zAx zAf)
   (zA3 (zB0 (PW.pt (pw_and (pt_cmp (zD8 (pv 3))) (zCf (PW.pt (zCb (zAu (zAt (zA8 GN hr1 rfl DN.at_ DN.fn.kp DN.bind .nil (passC hC) (zA0 (pv 3) zA1)))) (zBb (zAl zCq (pv 3) (pv 1) (nomark _)))))))) zAx zAf)
   (zA3 (zB0 (zAl op_gt (zA8 GC hr1 rfl DC.at_ DC.fn.kp DC.bind .nil (passC hC) (zA0 (pv 2) zA1)) (zAk (v:=.int 8) rfl hmost ⟨_,rfl⟩) (nomark _)) zAx zAf)
   (zA3 (ps_fld (pv 0) (pv 1) rfl)
   (zA3 (ps_fld (pv 0) (zAw (T:=["field"]) rfl ScOk.auto (zAv (pv 2)) (fun _ _ _ _=>zAe (i:=4) (by decide +kernel:(["self", "name", "fields", "owner", "field"]:List Str).Nodup) rfl (Or.inl rfl)) (fun _ _ _ _=>zAz)
    (fun _ _ _ _=>zB5 (zA0 (zAs (r:=rIxT K) zBy (pv 4) zA4 (fun _ _=>rfl)) (zA0 (zAy (r:=fun xs H Q=>∃ p ys,xs=[.ref p]∧(SqL K H p ys∨SqT K H p ys)∧∀ l,H l=none→Q (.ref l) (upd H l (.lst ys))) zC9 rfl T.list PyProof.Rows.boot_list (zA0 (zAs (r:=rIxT K) zBy (pv 4) zA4 (fun _ _=>rfl)) zA1)) zA1)))) rfl)
   (zA7 (ps_fld (pv 0) (pv 3) rfl))))))),?_⟩
  refine ⟨_,rfl,_,.str n,rfl,.str n hn1 hn2,fun H1 s1=>⟨_,rfl,?_⟩⟩;rw [show nameD (.str n)=true from hn3];refine iteF ⟨_,rfl,_,.list ds,rfl,hf.mono s1,fun H2 s2=>⟨_,rfl,?_⟩⟩;rw [hfb];have s12:=s1.trans s2;refine iteF ?_;have fb:ds.all pairB=true∧unlikeB (ds.map firstD)=true:=by
   have z:(ds.all pairB && unlikeB (ds.map firstD))=true:=hfb;rw [Zq] at z;exact z
  have sh:vo=V.non∨∃ o,vo=V.str o∧o.length≤1000∧PyData.strOk o=true∧nameB o=true∧¬ o=n:=by
   cases ho with
   | bl b=>cases hob
   | int i=>cases hob
   | lst _ _ _ _=>cases hob
   | tup _ _ _ _=>cases hob
   | non=>exact .inl rfl
   | str o o1 o2 =>
    have z:(nameB o && !decide (o=n))=true:=hob;rw [Zq] at z;exact .inr ⟨o,rfl,o1,o2,z.1,by simpa using z.2⟩
  refine' k_both (H1:=H) _ (fun k2=>_);rotate_left 2
  ·rcases sh with e | ⟨o,e,o1,o2,e1,e2⟩
   ·refine ⟨_,rfl,_,rfl,?_⟩;rw [decide_eq_true e];exact iteF (iteF (k2 H2 s12))
   ·refine ⟨_,rfl,_,rfl,?_⟩;rw [decide_eq_false (show ¬ vo=V.non by rw [e];intro z;cases z)];refine iteT ?_;refine ⟨_,rfl,vo,.str o,rfl,(by rw [e];exact .str o o1 o2),fun H3 s3=>⟨_,rfl,?_⟩⟩;rw [show nameD (.str o)=true from e1];refine iteF ⟨_,rfl,_,rfl,(by rw [e];rfl),_,rfl,?_⟩;rw [decide_eq_false (show ¬ vo=V.str n by rw [e];intro z;injection z with z;exact e2 z)];exact iteF (k2 H3 (s12.trans s3))
  ·intro H3 s3;refine ⟨_,rfl,_,ds,rfl,hf.mono s3,fb.1,_,_,rfl,rfl,_,rfl,?_⟩;refine ite2 (fun h=>absurd (of_decide_eq_true h) (by omega)) (fun _=>?_);refine ⟨_,rfl,_,rfl,p,C,dx,[],rfl,s3 _ _ hp,KC.cl,KC.nN,(by show 0 < 1000;decide),?_⟩;have fr:∀ (H':Hp) (o':HO),(∃ fs,H' p=some (.ins C dx fs))→∀ (a:Addr) (o:HO),Any a→isSeq o→H' a=some o→Any a∧(upd H' p o') a=some o:=by
    rintro H' o' ⟨fs,e⟩ a o _ hs q;refine ⟨trivial,?_⟩;rw [zA9]
    ·exact q
    ·rintro rfl;rw [e] at q;cases q;exact hs
   have hf4:Has Any (upd H3 p (.ins C dx (putF "name" (.str n) []))) vf (.list ds):=(hf.mono s3).frameS (fr _ _ ⟨_,s3 _ _ hp⟩);obtain ⟨a,xs,rfl,_,ha,hz,hx⟩:=hf4.list_inv;have hp4:(upd H3 p (.ins C dx (putF "name" (.str n) []))) p=some (.ins C dx (putF "name" (.str n) [])):=zA2;have k4:∀ b o,H b=some o→b≠p→(upd H3 p (.ins C dx (putF "name" (.str n) []))) b=some o:=fun b o e hb=>by rw [zA9 hb];exact s3 _ _ e
   have n4:∀ b,(upd H3 p (.ins C dx (putF "name" (.str n) []))) b=none→H b=none:=fun b e=>by
    cases q:H b with
    | none=>rfl
    | some o =>
     by_cases hb:b=p
     ·subst hb;rw [hp4] at e;cases e
     ·rw [k4 b o q hb] at e;cases e
   generalize upd H3 p (.ins C dx (putF "name" (.str n) []))=H4 at ha hx hp4 k4 n4 ⊢;refine ⟨_,rfl,a,rfl,⟨xs,SqL.of ha⟩,zB3 (xs:=xs) (fun i ys H'=>Same H4 H'∧HasAll (fun a=>H a=none) H' ys (ds.take i)) ⟨Same.refl _,.nil⟩ (fun i ys H' q=>SqL.of (q.1 _ _ ha)) (fun i ys H' hi q=>?_) ?_ ?_⟩
   ·have:=q.2.length;have:=Zl i ds;have:=small1000 hz;have:=hx.length;omega
   ·rintro i x ys H' hi ⟨s5,hy⟩ N hN;obtain ⟨d,hd',hv⟩:=hx.get hi;obtain ⟨b,x0,y0,nd,l,vs,zs,rfl,_,hb,rfl,hnm,rfl,_,hl,hzl,hvs,_,hun⟩:=zD9 hv (all_get fb.1 hd');have hnn:nameD nd=true:=by
     have z:=List.all_eq_true.mp (zCs fb.2) nd (List.mem_map.mpr ⟨_,Za hd',rfl⟩);exact z
    refine pick ?_;refine ⟨_,rfl,b,_,_,x0,rfl,rfl,SqT.of (s5 _ _ hb),rfl,_,rfl,b,_,_,_,rfl,rfl,SqT.of (s5 _ _ hb),rfl,l,zs,rfl,.inl (SqL.of (s5 _ _ hl)),fun l2 hl2=>⟨by show 2≤sizeLine;decide,fun t ht=>hN _ _ ⟨?_,?_⟩⟩⟩
    ·exact (s5.trans (Same.new hl2)).trans (Same.new ht)
    ·rw [Zn,hd'];have s6:Same H' (upd (upd H' l2 (.lst zs)) t (.tup [x0,.ref l2])):=(Same.new hl2).trans (Same.new ht);refine (hy.mono s6).snoc (.tup ?_ zA2 (by show 2≤1000;decide) (.cons (name_any hnm hnn) (.cons (.lst ?_ ?_ hzl (names_any hvs (zCs hun))) .nil)))
     ·exact n4 _ (s5.free ((Same.new (o:=.lst zs) hl2).free ht))
     ·exact n4 _ (s5.free hl2)
     ·exact (Same.new ht) _ _ zA2
   ·rintro ys H' ⟨s5,hy⟩ l hl;have ll:ys.length≤1000:=by
     have:=hy.length;have:=Zl xs.length ds;have:=hx.length;omega
    rw [hx.length,Zr] at hy;have hp5:(upd H' l (.lst ys)) p=some (.ins C dx (putF "name" (.str n) [])):=(Same.new hl) _ _ (s5 _ _ hp4);refine ⟨_,rfl,p,C,dx,_,rfl,hp5,KC.cl,KC.nF,(by show 1 < 1000;decide),?_⟩;refine ⟨_,rfl,_,rfl,p,C,dx,_,rfl,zA2,KC.cl,KC.nO,(by have:=zBk "fields" (V.ref l) (putF "name" (V.str n) []);have:(putF "name" (V.str n) []).length=1:=rfl;omega),?_⟩;refine k _ l zA2 ?_ fun b o e hb=>?_
    ·have h0:Has (fun a=>H a=none) (upd H' l (.lst ys)) (.ref l) (.list ds):=.lst (n4 _ (s5.free hl)) zA2 ll (hy.mono (Same.new hl));refine h0.frame fun b o g q=>⟨g,?_⟩;have hb:b≠p:=fun z=>by rw [z,hp] at g;cases g
     rw [zA9 hb,zA9 hb];exact q
    ·rw [zA9 hb,zA9 hb];exact (Same.new hl) _ _ (s5 _ _ (k4 b o e hb))
end
end My
namespace My
open PySem L2
noncomputable def words:List Str:=["a", "ac", "ab", "b", "box", "boxes", "bo", "zzzzzzzz", "abcdefgh", "of", "kind", "lid", "l", "is", "not", "want", "red", "lids", "wanted"]
noncomputable def lets:List Nat:=[97,98,99,100,101,102,103,104,105,106,107,108,109,110,111,112,113,114,115,116,117,118,119,120,121,122]
theorem zCy:letters.cps.toList=lets:=by decide +kernel
theorem mem_lets {c:Nat}:c∈lets ↔ 97≤c∧c≤122:=by
 refine ⟨fun h=>(by decide +kernel:∀ c∈lets,97≤c∧c≤122) c h,fun ⟨h1,h2⟩=>?_⟩;have:=(by decide +kernel:∀ i < 26,97 + i∈lets) (c - 97) (by omega)
 rwa [Nat.add_sub_cancel' h1] at this
theorem charB_iff {c:Nat}:charB c=true ↔ 97≤c∧c≤122:=by
 unfold charB;rw [zCy,decide_eq_true_eq,mem_lets]
theorem zCc:∀ x∈words,(1≤x.length∧x.length≤8)∧∀ c∈x.cps.toList,97≤c∧c≤122:=by decide +kernel
theorem words_nodup:words.Nodup:=by decide +kernel
noncomputable def rotC (t c:Nat):Nat:=97 + (c - 97 + t) % 26
noncomputable def rotS (t:Nat) (x:Str):Str:=⟨(x.cps.toList.map (rotC t)).toArray⟩
theorem rotC_in (t c:Nat):97≤rotC t c∧rotC t c≤122:=by unfold rotC;omega
theorem rotC_inj {t c d:Nat} (hc:97≤c∧c≤122) (hd:97≤d∧d≤122) (h:rotC t c=rotC t d):c=d:=by unfold rotC at h;omega
theorem rotS_len (t:Nat) (x:Str):(rotS t x).length=x.length:=by
 show ((x.cps.toList.map (rotC t)).toArray).size=x.cps.size;rw [Z6,Z1,Y0]
theorem zCw {f:Nat→Nat}:∀ {l m:List Nat},(∀ c∈l,∀ d∈m,f c=f d→c=d)→l.map f=m.map f→l=m
 | [],[],_,_=>rfl
 | [],_ :: _,_,h=>by cases h
 | _ :: _,[],_,h=>by cases h
 | a :: l,b :: m,k,h=>by
  rw [Zj,Zj] at h;injection h with h1 h2;rw [k a Zg b Zg h1,zCw (fun c hc d hd=>k c (Z9 _ hc) d (Z9 _ hd)) h2]
theorem rotS_inj {t:Nat}{x y:Str} (hx:∀ c∈x.cps.toList,97≤c∧c≤122) (hy:∀ c∈y.cps.toList,97≤c∧c≤122) (h:rotS t x=rotS t y):x=y:=by
 unfold rotS at h;injection h with h;have h':x.cps.toList.map (rotC t)=y.cps.toList.map (rotC t):=by simpa using congrArg Array.toList h
 have e:=zCw (fun c hc d hd q=>rotC_inj (hx c hc) (hy d hd) q) h';cases x;cases y;exact congrArg Str.mk (Array.toList_inj.mp e)
theorem rotS_name {t:Nat}{x:Str} (h1:1≤x.length) (h8:x.length≤8):nameB (rotS t x)=true:=by
 unfold nameB;rw [rotS_len,decide_eq_true h1,decide_eq_true h8,Ye,Ye,List.all_eq_true];intro c hc;have hc':c∈x.cps.toList.map (rotC t):=by simpa [rotS] using hc
 obtain ⟨d,_,rfl⟩:=List.mem_map.mp hc';exact charB_iff.mpr (rotC_in t d)
theorem rotS_ok (t:Nat) (x:Str):PyData.strOk (rotS t x)=true:=by
 unfold PyData.strOk;rw [Array.all_eq_true'];intro c hc;have hc':c∈x.cps.toList.map (rotC t):=by simpa [rotS] using hc
 obtain ⟨d,_,rfl⟩:=List.mem_map.mp hc';have:=rotC_in t d;simp only [decide_eq_true_eq];omega
theorem mul19:∀ s < 19,∀ d < 19,0 < s→0 < d→(s * d) % 19≠0:=by decide +kernel
theorem place_inj {a s i j:Nat} (hs:0 < s) (hs':s < 19) (hi:i < j) (hj:j < 19) (h:(a + s * i) % 19=(a + s * j) % 19):False:=by
 have e:s * j=s * i + s * (j - i):=by rw [← Nat.mul_add];congr 1;omega
 refine mul19 s hs' (j - i) (by omega) hs (by omega) ?_;rw [e] at h;omega
noncomputable def nm (a s t k:Nat):Str:=rotS t (words[(a + s * k) % 19]?.getD "")
theorem zBa (i:Nat) (h:i < 19):∃ x,words[i]? = some x∧x∈words:=by
 have h':i < words.length:=h;exact ⟨words[i],Zc h',List.getElem_mem _⟩
theorem nm_ok (a s t k:Nat):nameB (nm a s t k)=true∧PyData.strOk (nm a s t k)=true∧(nm a s t k).length≤8:=by
 obtain ⟨x,e,hx⟩:=zBa ((a + s * k) % 19) (Yc _ (by decide));unfold nm;rw [e,Y4];obtain ⟨⟨h1,h8⟩,_⟩:=zCc x hx;exact ⟨rotS_name h1 h8,rotS_ok t x,by rw [rotS_len];exact h8⟩
theorem nm_ne {a s t i j:Nat} (hs:0 < s) (hs':s < 19) (hi:i < j) (hj:j < 19):nm a s t i≠nm a s t j:=by
 intro h;obtain ⟨x,e,hx⟩:=zBa ((a + s * i) % 19) (Yc _ (by decide));obtain ⟨y,e',hy⟩:=zBa ((a + s * j) % 19) (Yc _ (by decide));unfold nm at h;rw [e,e',Y4,Y4] at h;have q:=rotS_inj (zCc x hx).2 (zCc y hy).2 h;subst q;have z:=(List.getElem?_inj (show (a + s * i) % 19 < words.length from Yc _ (by decide)) words_nodup).mp (e.trans e'.symm);exact place_inj hs hs' hi hj z
theorem nms_nodup {a s t:Nat} (hs:0 < s) (hs':s < 19):∀ n,n≤19→((List.range n).map (nm a s t)).Nodup
 | 0,_=>List.nodup_nil
 | n + 1,h=>by
  rw [List.range_succ,Zo];refine List.nodup_append.mpr ⟨nms_nodup hs hs' n (by omega),by simp,?_⟩;intro x hx y hy;simp only [Zj,List.map_nil,Zk,Zf,or_false] at hy;subst hy;obtain ⟨i,hi,rfl⟩:=List.mem_map.mp hx;exact nm_ne hs hs' (List.mem_range.mp hi) (by omega)
theorem index_of:∀ c∈lets,Builtin.Str.occurrences letters ⟨#[c]⟩ 0 letters.length 1=[c - 97]:=by decide +kernel
theorem join1:∀ cs:List Nat,Str.join ⟨#[]⟩ (cs.map fun c=>(⟨#[c]⟩:Str))=⟨cs.toArray⟩
 | []=>rfl
 | [c]=>rfl
 | c :: d :: r=>by
  show (⟨#[c]⟩:Str)++⟨#[]⟩++Str.join ⟨#[]⟩ ((d :: r).map fun c=>(⟨#[c]⟩:Str))=_;rw [join1 (d :: r)];show (⟨(#[c]++#[])++(d :: r).toArray⟩:Str)=_
  congr 1
  apply Array.toList_inj.mp;simp
theorem joinOk1 {cs:List Nat} (h:cs.length≤1000):PySem.JoinOk (⟨#[]⟩:Str) (cs.map fun c=>(⟨#[c]⟩:Str))=true:=by
 have key:∀ (l:List Nat) (n:Nat),(l.map fun c=>(⟨#[c]⟩:Str)).foldl (fun a x=>a + x.length + (⟨#[]⟩:Str).length) n=n + l.length:=by
  intro l
  induction l with
  | nil=>intro n;rfl
  | cons c r ih =>
   intro n;rw [Zj,Zw,ih,Z8];show n + 1 + 0 + r.length=_;omega
 unfold PySem.JoinOk;rw [List.foldl_toArray,key];have:=small1000 h;unfold Builtin.Str.tooLong;simp;omega
theorem comp_charsM {x:Str}{k:Nat}{σ : St}{H:Hp}{g:TG}{tt:TT}{te:TE}{Q:VK} (f:Nat→V) (hz:x.length≤sizeLine)
  (hs:∀ c (Ry:VK),c∈x.cps.toList→Ry (f c) H→∀ Rn:Hp→Prop,g (.str ⟨#[c]⟩) (σ++List.replicate k none) H fun σ2 H2=>tt σ2 H2 fun b H3=>if b=true then te σ2 H3 Ry else Rn H3)
  (hd:∀ q,H q=none→Q (.ref q) (upd H q (.lst (x.cps.toList.map f)))):CompGoal (Its x) k σ H g tt te Q:=by
 have hlen:x.cps.toList.length=x.length:=by rw [Y0];rfl
 refine zC5 (J:=Its x) (n:=x.length) (fun i ys H'=>H'=H∧ys=(x.cps.toList.take i).map f) ⟨rfl,rfl⟩ (fun i ys H' lt _=>lt) (fun ys H' _=>Z5 _) (fun i ys H' hi q=>?_) ?_ ?_
 ·obtain ⟨_,rfl⟩:=q;rw [Z1];have b:=Zl i x.cps.toList;omega
 ·rintro i ys H' v H2 lt ⟨rfl,rfl⟩ ⟨rfl,c,hc,rfl⟩ N hN;have hc':x.cps.toList[i]? = some c:=by rw [Array.getElem?_toList];exact hc
  refine hs c _ (Za hc') (hN _ _ ⟨rfl,?_⟩) _;rw [Zn,hc',Zo];rfl
 ·rintro ys H' ⟨rfl,rfl⟩ q hq;rw [← hlen,Zr];exact hd q hq
noncomputable def spSign:Sp:=fun vs H Q _=>∃ (c t:Nat),vs=[.str ⟨#[c]⟩,.int t]∧(97≤c∧c≤122)∧Q (.str ⟨#[rotC t c]⟩) H
noncomputable def spNames:Sp:=fun vs H Q _=>∃ (p:Addr) (m k:Int),vs=[.ref p,.int m]∧Src H p k∧k≤990000∧0≤m∧m≤19 ∧
 ∀ (l:Addr) (ks:List Str) (H':Hp),(ks.length:Int)=m→ks.Nodup→(∀ x∈ks,nameB x=true∧PyData.strOk x=true∧x.length≤8)→H' l=some (.lst (ks.map V.str))→H l=none→Src H' p (k + 5)→(∀ b o,H b=some o→b≠p→H' b=some o)→Q (.ref l) H'
section
variable {P:Program}{w:World}{K:PySem.W.Frag}{mg:Str→Option Value}{base:Heap}{CX:CXT}
theorem scSg:FnScope ["_law_sign_here", "_law_turn", "_law_small"] ["_law_sign_here", "_law_turn"] (defScope sSign):=⟨rfl,rfl,rfl,by decide +kernel,rfl,by decide +kernel,by decide +kernel⟩
theorem ok_sign {f:Addr}{fd:FuncData} (F:Fun K "_law_sign" "_law_sign" sSign f fd):FnOk P w K mg base CX 1 f fd ["_law_sign_here", "_law_turn"] spSign:=by
 refine Fun.okC F scSg (fun vs H Q E h=>?_) (fun cdv A outer s H vs Q E hr h=>?_)
 ·obtain ⟨c,t,rfl,_⟩:=h;rfl
 ·obtain ⟨c,t,rfl,hc,k⟩:=h
  refine ⟨_,zA3 (zAb (i:=2) scSg.nd rfl (Or.inl rfl) zAc)
   (zA7 (zAd (zAs ix_str (pv 2) (zAg zBh (zAg zBc (pe_bm PySem.F.plainAttrs_str PySem.F.slot_str_index PySem.F.type_str_index mt_index (pv 2) (zA0 (pv 0) zA1)) (pv 1)) zA4) (fun _ _=>rfl)))),?_⟩
  refine ⟨_,rfl,_,rfl,rfl,_,rfl,letters,_,c - 97,[],rfl,rfl,index_of c (mem_lets.mpr hc),?_⟩;refine ⟨_,rfl,_,_,rfl,rfl,_,_,rfl,rfl,(by show (0:Int) < 26;decide),?_⟩;have hi:(c - 97 + t) % 26 < 26:=Yc _ (by decide);have e:lets[(c - 97 + t) % 26]? = some (rotC t c):=by
   have key:∀ i < 26,lets[i]? = some (97 + i):=by decide +kernel
   exact key _ hi
  refine ⟨letters,_,rotC t c,rfl,rfl,Zh (small1000 (by decide +kernel)),?_,k⟩;have e2:(((c - 97:Nat):Int) + (t:Int)) % 26=(((c - 97 + t) % 26:Nat):Int):=by omega
  show atI letters.cps.toList ((((c - 97:Nat):Int) + (t:Int)) % 26)=some (rotC t c);rw [e2,zCy];exact atI_nat e
end
end My
namespace L2.W
open PySem My
section
variable {P:Program}{w:World}{K:PySem.W.Frag}{mg:Str→Option Value}{base:Heap}{CX:CXT}
theorem scNm:FnScope ["_law_source", "_law_many", "_law_words", "_law_start", "_law_step", "_law_turn", "_law_some"] ["_law_source", "_law_many"] (defScope sNames):=⟨rfl,rfl,rfl,by decide +kernel,rfl,by decide +kernel,by decide +kernel⟩
set_option maxHeartbeats 4000000 in
theorem ok_names {f fm fn fs:Addr}{fd fdm fdn fds:FuncData} (hC:Calm CX) (T:Tops K mg) (F:Fun K "_law_names" "_law_names" sNames f fd) (DM:Def K mg "_law_mixed" sMixed ["_law_cell", "_law_k"] fm fdm)
  (DN:Def K mg "_law_next" sNext ["_law_source", "_law_many"] fn fdn) (DS:Def K mg "_law_sign" sSign ["_law_sign_here", "_law_turn"] fs fds):FnOk P w K mg base CX 3 f fd ["_law_source", "_law_many"] spNames:=by
 have GN:FnOk P w K mg base CX 2 fn fdn ["_law_source", "_law_many"] spNext:=ok_next hC DN.fn DM;have GS:FnOk P w K mg base CX 1 fs fds ["_law_sign_here", "_law_turn"] spSign:=ok_sign DS.fn;refine Fun.okC F scNm (fun vs H Q E h=>?_) (fun cdv A outer s H vs Q E hr h=>?_)
 ·obtain ⟨p,m,k,rfl,_⟩:=h;rfl
 ·obtain ⟨p,m,k,rfl,S0,hk,m0,m1,q⟩:=h;have nd:=scNm.nd;have hr1:=hr.mono (show 1≤2 by decide)
  refine ⟨_,zA3 (zAb (i:=2) nd rfl (Or.inr rfl) (zAi (zB6 (vs:=[.str "a",.str "ac",.str "ab",.str "b",.str "box",.str "boxes",.str "bo",.str "zzzzzzzz",.str "abcdefgh",.str "of"]) (by decide +kernel))))
   (zA3 (zAb (i:=2) nd rfl (Or.inr rfl) (zAg zB9 (pv 2) (zAi (zB6 (vs:=[.str "kind",.str "lid",.str "l",.str "is",.str "not",.str "want",.str "red",.str "lids",.str "wanted"]) (by decide +kernel)))))
   (zA3 (zAb (i:=3) nd rfl (Or.inr rfl) (zA8 GN hr rfl DN.at_ DN.fn.kp DN.bind .nil (passC hC) (zA0 (pv 0) (zA0 zA4 zA1))))
   (zA3 (zAb (i:=4) nd rfl (Or.inr rfl) (zAg zBc zA4 (zA8 GN hr rfl DN.at_ DN.fn.kp DN.bind .nil (passC hC) (zA0 (pv 0) (zA0 zA4 zA1)))))
   (zA3 (zAb (i:=5) nd rfl (Or.inr rfl) (zAs zAn (zAi (zA0 zA4 (zA0 (zA8 GN hr rfl DN.at_ DN.fn.kp DN.bind .nil (passC hC) (zA0 (pv 0) (zA0 zA4 zA1))) zA1))) (zA8 GN hr rfl DN.at_ DN.fn.kp DN.bind .nil (passC hC) (zA0 (pv 0) (zA0 zA4 zA1))) (fun _ _=>rfl)))
   (zA3 (zBg (T:=["_law_k"]) (i:=6) rfl ScOk.auto (zBp rfl T.range (zA0 (pv 1) zA1)) (fun _ _ _ _=>zAe (i:=7) (by decide +kernel:(["_law_source", "_law_many", "_law_words", "_law_start", "_law_step", "_law_turn", "_law_some", "_law_k"]:List Str).Nodup) rfl (Or.inl rfl)) (fun _ _ _ _=>zAz)
    (fun _ _ _ _=>zAs (r:=rIxL K) zAn (pv 2) (zAg zBh (zAg zBc (pv 3) (zAg zC7 (pv 4) (pv 7))) zA4) (fun _ _=>rfl)) nd rfl rfl rfl)
   (zA7 (zAd (zAw (T:=["_law_word_here"]) rfl ScOk.auto (zAv (pv 6)) (fun _ _ _ _=>zAe (i:=7) (by decide +kernel:(["_law_source", "_law_many", "_law_words", "_law_start", "_law_step", "_law_turn", "_law_some", "_law_word_here"]:List Str).Nodup) rfl (Or.inl rfl)) (fun _ _ _ _=>zAz)
    (fun _ _ _ _=>pe_bmK rfl PySem.F.plainAttrs_str PySem.F.slot_str_join PySem.F.type_str_join (mt_join (K:=K) rfl) zAc (zA0 (zAw (T:=["_law_sign_here"]) rfl ScOk.auto (pi_str (pv 7)) (fun _ _ _ _=>zAe (i:=8) (by decide +kernel:(["_law_source", "_law_many", "_law_words", "_law_start", "_law_step", "_law_turn", "_law_some", "_law_word_here", "_law_sign_here"]:List Str).Nodup) rfl (Or.inl rfl)) (fun _ _ _ _=>zAz)
     (fun _ _ _ _=>zA8 GS hr1 rfl DS.at_ DS.fn.kp DS.bind .nil (passC hC) (zA0 (pv 8) (zA0 (pv 5) zA1)))) zA1)))))))))),?_⟩
  have small:∀ n:Nat,n≤1000→n≤sizeLine:=fun n h=>Zh (small1000 h);have src:∀ {H1 H2:Hp}{j:Int},Src H1 p j→(∀ o,H1 p=some o→H2 p=some o)→Src H2 p j:=fun ⟨a,c,i,e,r⟩ h=>⟨a,c,i,h _ e,r⟩;have hp0:∀ b,H b=none→b≠p:=fun b hb=>by obtain ⟨a,c,j,e,_⟩:=S0;exact (zA6 e hb).symm
  refine ⟨small _ (by simp),fun w1 h1=>?_⟩;refine ⟨_,rfl,small _ (by simp),fun w2 h2=>⟨w1,w2,_,_,rfl,rfl,(Same.new h2) _ _ zA2,zA2,small _ (by simp),fun w3 h3=>?_⟩⟩;have hw3:(upd (upd (upd H w1 (.lst [.str "a",.str "ac",.str "ab",.str "b",.str "box",.str "boxes",.str "bo",.str "zzzzzzzz",.str "abcdefgh",.str "of"])) w2 (.lst [.str "kind",.str "lid",.str "l",.str "is",.str "not",.str "want",.str "red",.str "lids",.str "wanted"])) w3 (.lst ([.str "a",.str "ac",.str "ab",.str "b",.str "box",.str "boxes",.str "bo",.str "zzzzzzzz",.str "abcdefgh",.str "of"]++[.str "kind",.str "lid",.str "l",.str "is",.str "not",.str "want",.str "red",.str "lids",.str "wanted"]))) w3=some (.lst (words.map V.str)):=zA2;have sH:Same H (upd (upd (upd H w1 (.lst [.str "a",.str "ac",.str "ab",.str "b",.str "box",.str "boxes",.str "bo",.str "zzzzzzzz",.str "abcdefgh",.str "of"])) w2 (.lst [.str "kind",.str "lid",.str "l",.str "is",.str "not",.str "want",.str "red",.str "lids",.str "wanted"])) w3 (.lst ([.str "a",.str "ac",.str "ab",.str "b",.str "box",.str "boxes",.str "bo",.str "zzzzzzzz",.str "abcdefgh",.str "of"]++[.str "kind",.str "lid",.str "l",.str "is",.str "not",.str "want",.str "red",.str "lids",.str "wanted"]))):=((Same.new h1).trans (Same.new h2)).trans (Same.new h3);have fw3:H w3=none:=((Same.new h1).trans (Same.new h2)).free h3;generalize upd (upd (upd H w1 (.lst [.str "a",.str "ac",.str "ab",.str "b",.str "box",.str "boxes",.str "bo",.str "zzzzzzzz",.str "abcdefgh",.str "of"])) w2 (.lst [.str "kind",.str "lid",.str "l",.str "is",.str "not",.str "want",.str "red",.str "lids",.str "wanted"])) w3 (.lst ([.str "a",.str "ac",.str "ab",.str "b",.str "box",.str "boxes",.str "bo",.str "zzzzzzzz",.str "abcdefgh",.str "of"]++[.str "kind",.str "lid",.str "l",.str "is",.str "not",.str "want",.str "red",.str "lids",.str "wanted"]))=G0 at *;have S1:Src G0 p k:=src S0 fun o e=>sH _ _ e;have np3:w3≠p:=hp0 _ fw3;refine ⟨_,rfl,p,_,k,rfl,S1,by omega,by decide,by decide,fun a G1 a0 a1 S2 k1=>?_⟩;refine ⟨_,rfl,p,_,_,rfl,S2,by omega,by decide,by decide,fun b G2 b0 b1 S3 k2=>⟨_,_,rfl,rfl,?_⟩⟩;refine ⟨_,rfl,p,_,_,rfl,S3,by omega,by decide,by decide,fun c G3 c0 c1 S4 k3=>⟨small _ (by simp),fun q1 hq1=>?_⟩⟩;have nq:q1≠p:=by obtain ⟨_,_,_,e,_⟩:=S4;exact (zA6 e hq1).symm
  have S5:Src (upd G3 q1 (.lst [.int 0,.int c])) p (k + 1 + 1 + 1):=src S4 fun o e=>(Same.new hq1) _ _ e;refine ⟨_,rfl,p,_,_,rfl,S5,by omega,by decide,by decide,fun d G4 d0 d1 S6 k4=>?_⟩;have hq4:G4 q1=some (.lst [.int 0,.int c]):=by rw [k4 q1 nq];exact zA2
  obtain ⟨t,ht⟩:∃ t:Nat,atI [V.int 0,V.int c] d=some (.int (t:Int)):=by
   rcases (show d=0∨d=1 by omega) with rfl | rfl
   ·exact ⟨0,rfl⟩
   ·exact ⟨c.toNat,by rw [show ((c.toNat:Nat):Int)=c by omega];rfl⟩
  refine ⟨q1,_,_,_,rfl,rfl,SqL.of hq4,ht,?_⟩;have fr:∀ b o,G0 b=some o→b≠p→G4 b=some o:=fun b o e hb=>by
   rw [k4 b hb];refine (Same.new hq1) _ _ ?_;rw [k3 b hb,k2 b hb,k1 b hb];exact e
  have hw4:=fr _ _ hw3 np3;obtain ⟨a',rfl⟩:∃ n:Nat,a=n:=⟨a.toNat,by omega⟩;obtain ⟨b',rfl⟩:∃ n:Nat,b=n:=⟨b.toNat,by omega⟩;obtain ⟨m',rfl⟩:∃ n:Nat,m=n:=⟨m.toNat,by omega⟩;have hb19:0 < 1 + b'∧1 + b' < 19:=by omega
  refine ⟨_,rfl,(m':Int),rfl,by omega,by omega,?_⟩;rw [Int.toNat_natCast];refine zD0 (lo:=0) (n:=m') (fun i ys H'=>H'=G4∧ys=(List.range i).map fun j=>V.str (words[(a' + (1 + b') * j) % 19]?.getD "")) ⟨rfl,rfl⟩ (fun i ys H' hi z=>?_) ?_ ?_
  ·rw [z.2,Z1,Zu];exact small _ (by omega)
  ·rintro i ys H' hi ⟨rfl,rfl⟩ N hN;refine pick ?_;refine ⟨_,rfl,_,rfl,_,rfl,_,rfl,_,_,rfl,rfl,.inl ⟨by omega,by omega⟩,_,_,rfl,rfl,_,_,rfl,rfl,(by show (0:Int) < 19;decide),?_⟩;obtain ⟨x,ex,_⟩:=zBa ((a' + (1 + b') * i) % 19) (Yc _ (by decide));have e1:((a':Int) + (1 + (b':Int)) * (0 + (i:Int))) % 19=(((a' + (1 + b') * i) % 19:Nat):Int):=by
    rw [Int.zero_add]
    push_cast
    rfl
   refine ⟨w3,words.map V.str,_,.str x,rfl,rfl,SqL.of hw4,?_,hN _ _ ⟨rfl,?_⟩⟩
   ·show atI (words.map V.str) (((a':Int) + (1 + (b':Int)) * (0 + (i:Int))) % 19)=some (.str x);rw [e1];refine atI_nat ?_;rw [Zm,ex];rfl
   ·rw [List.range_succ,Zo];show _++[V.str x]=_++[V.str (words[(a' + (1 + b') * i) % 19]?.getD "")];rw [ex];rfl
  ·rintro ys H' ⟨rfl,rfl⟩ l1 hl1;have sL:=Same.new (o:=.lst ((List.range m').map fun j=>V.str (words[(a' + (1 + b') * j) % 19]?.getD ""))) hl1;have hl2:(upd H' l1 (.lst ((List.range m').map fun j=>V.str (words[(a' + (1 + b') * j) % 19]?.getD "")))) l1=some (.lst ((List.range m').map fun j=>V.str (words[(a' + (1 + b') * j) % 19]?.getD ""))):=zA2;generalize upd H' l1 (.lst ((List.range m').map fun j=>V.str (words[(a' + (1 + b') * j) % 19]?.getD "")))=G5 at sL hl2 ⊢;refine ⟨_,rfl,l1,rfl,⟨_,SqL.of hl2⟩,zB3 (xs:=(List.range m').map fun j=>V.str (words[(a' + (1 + b') * j) % 19]?.getD "")) (fun i ys H'=>Same G5 H'∧ys=(List.range i).map fun j=>V.str (nm a' (1 + b') t j)) ⟨Same.refl _,rfl⟩ (fun i ys H' z=>SqL.of (z.1 _ _ hl2)) (fun i ys H' hi z=>?_) ?_ ?_⟩
   ·rw [z.2,Z1,Zu];rw [Z1,Zu] at hi;exact small _ (by omega)
   ·rintro i x ys H6 hi ⟨s6,rfl⟩ N hN;have hi':i < m':=by have:=(List.getElem?_eq_some_iff.mp hi).1;simpa using this
    have ex:x=V.str (words[(a' + (1 + b') * i) % 19]?.getD ""):=by
     rw [Zm,List.getElem?_range hi'] at hi;exact (Zd hi).symm
    subst ex;obtain ⟨x,ex,hxw⟩:=zBa ((a' + (1 + b') * i) % 19) (Yc _ (by decide));have en:nm a' (1 + b') t i=rotS t x:=by unfold nm;rw [ex];rfl
    rw [ex,Y4];have okx:=zCc x hxw;refine pick ?_;refine ⟨rfl,?_⟩;refine ⟨_,rfl,x,rfl,comp_charsM (fun c=>.str ⟨#[rotC t c]⟩) (small _ (by omega)) (fun c Ry hc hR Rn=>?_) (fun q2 hq2=>?_)⟩
    ·refine pick ?_;exact ⟨_,rfl,_,rfl,c,t,rfl,okx.2 c hc,hR⟩
    ·have el:x.cps.toList.map (fun c=>V.str ⟨#[rotC t c]⟩)=((x.cps.toList.map (rotC t)).map fun c=>(⟨#[c]⟩:Str)).map V.str:=by
      rw [Zz,Zz];rfl
     have ee:("" : Str)=⟨#[]⟩:=by decide +kernel
     refine ⟨⟨#[]⟩,q2,(x.cps.toList.map (rotC t)).map fun c=>(⟨#[c]⟩:Str),congrArg V.str ee,rfl,SqL.of (by rw [zA2,el]),joinOk1 ?_,?_⟩
     ·rw [Z1,Y0];have:x.cps.size=x.length:=rfl;omega
     ·have ej:Txt.join ⟨#[]⟩ ((x.cps.toList.map (rotC t)).map fun c=>(⟨#[c]⟩:Str))=rotS t x:=by
       show Builtin.Str.glued _ _=_;rw [PySem.StrLaws.glued_eq_join,join1];rfl
      rw [ej,← en];refine hN _ _ ⟨s6.trans (Same.new hq2),?_⟩;rw [List.range_succ,Zo];rfl
   ·rintro ys H6 ⟨s6,rfl⟩ l hl;rw [Z1,Zu];have sN:=Same.new (o:=.lst ((List.range m').map fun j=>V.str (nm a' (1 + b') t j))) hl;have nl:l≠p:=by
     obtain ⟨_,_,_,e,_⟩:=S6;exact (zA6 (s6 _ _ (sL _ _ e)) hl).symm
    refine q l ((List.range m').map (nm a' (1 + b') t)) _ (by rw [Z1,Zu]) (nms_nodup hb19.1 hb19.2 m' (by omega)) (fun x hx=>?_) (by rw [zA2,Zz];rfl) ?_ ?_ fun b o e hb=>?_
    ·obtain ⟨j,_,rfl⟩:=List.mem_map.mp hx;exact nm_ok _ _ _ _
    ·cases z:H l with
     | none=>rfl
     | some o =>
      have:=s6 _ _ (sL _ _ (fr _ _ (sH _ _ z) nl));rw [this] at hl;cases hl
    ·exact (src S6 fun o e=>sN _ _ (s6 _ _ (sL _ _ e))).mono (by omega)
    ·exact sN _ _ (s6 _ _ (sL _ _ (fr _ _ (sH _ _ e) hb)))
end
end L2.W
namespace L2.W
open PySem My
noncomputable def nameOk (x:Str):Prop:=nameB x=true∧PyData.strOk x=true∧x.length≤8
structure ValsOk (vs:List Str):Prop where
 ne:0 < vs.length
 le:vs.length≤8
 nd:vs.Nodup
 ok:∀ x∈vs,nameOk x
noncomputable def fieldD (f:Str×List Str):PyData:=.tuple [.str f.1,.list (f.2.map .str)]
noncomputable def manyOf (fs:List (Str×List Str)):Nat:=fs.foldl (fun m f=>m * f.2.length) 1
structure FieldsOk (fs:List (Str×List Str)):Prop where
 le:fs.length≤3
 nd:(fs.map (·.1)).Nodup
 ok:∀ f∈fs,nameOk f.1∧ValsOk f.2
 many:manyOf fs≤8
noncomputable def SzOk (szs:List Nat):Prop:=szs.length≤3∧(∀ n∈szs,1≤n∧n≤8)∧szs.foldl (fun m n=>m * n) 1≤8
noncomputable def Tab (H0 H:Hp) (v:V):Prop:=∃ (r:Addr) (szs:List Nat),v=.ref r∧H0 r=none∧H r=some (.lst (szs.map fun (n:Nat)=>V.int (n:Int)))∧SzOk szs
noncomputable def spLFields:Sp:=fun vs H Q _=>∃ (p:Addr) (k:Int),vs=[.ref p]∧Src H p k∧k≤900000 ∧
 ∀ (l:Addr) (fs:List (Str×List Str)) (H':Hp),FieldsOk fs→Has (fun a=>H a=none) H' (.ref l) (.list (fs.map fieldD))→Src H' p (k + 30)→(∀ b o,H b=some o→b≠p→H' b=some o)→Q (.ref l) H'
noncomputable def szss:List (List Nat):=[[],[1],[2],[3],[8],[2,2],[2,3],[4,2],[2,2,2],[1,2,4],[1,1,1],[5],[7,1]]
noncomputable def tables:List (List V):=szss.map fun z=>z.map fun (n:Nat)=>V.int (n:Int)
theorem sz_ok:∀ z∈szss,z.length≤3∧(∀ n∈z,1≤n∧n≤8)∧z.foldl (fun m n=>m * n) 1≤8:=by decide
theorem zCv {α β : Type}{R : α→β→Prop}:∀ {l:List α}{m:List β},Paired R l m→∀ b∈m,∃ a∈l,R a b
 | _,_,.nil,b,h=>by simp at h
 | _,_,.cons (a:=a) r t,b,h=>by
  rcases List.mem_cons.mp h with rfl | h
  ·exact ⟨a,Zg,r⟩
  ·obtain ⟨c,hc,q⟩:=zCv t b h;exact ⟨c,Z9 _ hc,q⟩
theorem tab_all {H H':Hp}{rs:List V} (h:Laid H H' tables rs):∀ v∈rs,Tab H H' v:=by
 intro v hv;obtain ⟨vs,hvs,a,rfl,n,q⟩:=zCv h v hv;obtain ⟨z,hz,rfl⟩:=List.mem_map.mp hvs;exact ⟨a,z,rfl,n,q,sz_ok z hz⟩
theorem pickT {K:PySem.W.Frag}{A B:St→Hp→Prop}{σ : St}{H:Hp}{i j:Nat}{p:Addr}{x y:V} (hp:SqT K H p [x,y]) (h:A ((σ.set i (some x)).set j (some y)) H) :
  gTup K 2 (gCons (gName i) (gCons (gName j) gNil)) (.ref p) σ H fun σ2 H2=>tYes σ2 H2 fun b H3=>if b=true then A σ2 H3 else B σ2 H3:=by
 refine ⟨p,[x,y],rfl,hp,rfl,x,[y],rfl,y,[],rfl,rfl,?_⟩;show if true=true then A ((σ.set i (some x)).set j (some y)) H else B ((σ.set i (some x)).set j (some y)) H
 rw [if_pos rfl];exact h
theorem zip_snoc {α β : Type}:∀ {l:List α}{m:List β}{i:Nat}{a : α}{b : β},m.length=i→l[i]? = some a→(l.take (i + 1)).zip (m++[b])=(l.take i).zip m++[(a,b)]:=by
 intro l m i a b hm hl;have e:l.take (i + 1)=l.take i++[a]:=by rw [Zn,hl];rfl
 rw [e,List.zip_append]
 ·rfl
 ·have:=(List.getElem?_eq_some_iff.mp hl).1;rw [Y7];omega
theorem zCj {G:Addr→Prop}{H:Hp}:∀ {ks:List Str},(∀ x∈ks,nameOk x)→HasAll G H (ks.map V.str) (ks.map .str)
 | [],_=>.nil
 | k :: r,h=>.cons (.str k (by have:=(h k Zg).2.2;omega) (h k Zg).2.1) (zCj fun x hx=>h x (Z9 _ hx))
theorem many_eq:∀ (fs:List (Str×List Str)) (m:Nat),fs.foldl (fun m f=>m * f.2.length) m=(fs.map (·.2.length)).foldl (fun m n=>m * n) m
 | [],m=>rfl
 | f :: r,m=>by rw [Zw,Zj,Zw,many_eq r]
section
variable {P:Program}{w:World}{K:PySem.W.Frag}{mg:Str→Option Value}{base:Heap}{CX:CXT}
theorem scLf:FnScope ["_law_source", "_law_some", "_law_sizes"] ["_law_source"] (defScope sLFields):=⟨rfl,rfl,rfl,by decide +kernel,rfl,by decide +kernel,by decide +kernel⟩
set_option maxHeartbeats 4000000 in
theorem ok_lfields {f fm fn fs fnm:Addr}{fd fdm fdn fds fdnm:FuncData} (hC:Calm CX) (T:Tops K mg) (F:Fun K "_law_fields" "_law_fields" sLFields f fd) (DM:Def K mg "_law_mixed" sMixed ["_law_cell", "_law_k"] fm fdm)
  (DN:Def K mg "_law_next" sNext ["_law_source", "_law_many"] fn fdn) (DS:Def K mg "_law_sign" sSign ["_law_sign_here", "_law_turn"] fs fds) (DA:Def K mg "_law_names" sNames ["_law_source", "_law_many"] fnm fdnm):FnOk P w K mg base CX 4 f fd ["_law_source"] spLFields:=by
 have GN:FnOk P w K mg base CX 2 fn fdn ["_law_source", "_law_many"] spNext:=ok_next hC DN.fn DM;have GA:FnOk P w K mg base CX 3 fnm fdnm ["_law_source", "_law_many"] spNames:=ok_names hC T DA.fn DM DN DS;refine Fun.okC F scLf (fun vs H Q E h=>?_) (fun cdv A outer s H vs Q E hr h=>?_)
 ·obtain ⟨p,k,rfl,_⟩:=h;rfl
 ·obtain ⟨p,k,rfl,S0,hk,q⟩:=h;have nd:=scLf.nd;have hr2:=hr.mono (show 2≤3 by decide)
  refine ⟨_,zA3 (zAb (i:=1) nd rfl (Or.inl rfl) (zAi (zCd (vss:=tables) (by decide +kernel) (by decide +kernel))))
   (zA3 (zAb (i:=2) nd rfl (Or.inl rfl) (zAs zAn (pv 1) (zA8 GN hr2 rfl DN.at_ DN.fn.kp DN.bind .nil (passC hC) (zA0 (pv 0) (zA0 zA4 zA1))) (fun _ _=>rfl)))
   (zA7 (zAd (zAw (T:=["_law_name", "_law_size"]) rfl ScOk.auto (pi_zip rfl T.zip (zA0 (zA8 GA hr rfl DA.at_ DA.fn.kp DA.bind .nil (passC hC) (zA0 (pv 0) (zA0 (zA5 zAp rfl T.len PySem.boot_len (zA0 (pv 2) zA1)) zA1))) (zA0 (pv 2) zA1)))
    (fun _ _ _ _=>zD3 (K:=K) (n:=2) rfl rfl (zAq (zAe (i:=3) (by decide +kernel:(["_law_source", "_law_some", "_law_sizes", "_law_name", "_law_size"]:List Str).Nodup) rfl (Or.inl rfl)) (zAq (zAe (i:=4) (by decide +kernel:(["_law_source", "_law_some", "_law_sizes", "_law_name", "_law_size"]:List Str).Nodup) rfl (Or.inl rfl)) zBj))) (fun _ _ _ _=>zAz)
    (fun _ _ _ _=>zB5 (zA0 (pv 3) (zA0 (zA8 GA hr rfl DA.at_ DA.fn.kp DA.bind .nil (passC hC) (zA0 (pv 0) (zA0 (pv 4) zA1))) zA1))))))),?_⟩
  have small:∀ n:Nat,n≤1000→n≤sizeLine:=fun n h=>Zh (small1000 h);have src:∀ {H1 H2:Hp}{j:Int},Src H1 p j→(∀ o,H1 p=some o→H2 p=some o)→Src H2 p j:=fun ⟨a,c,i,e,r⟩ h=>⟨a,c,i,h _ e,r⟩;have np:∀ {G:Hp}{j:Int}{b:Addr},Src G p j→G b=none→b≠p:=fun ⟨_,_,_,e,_⟩ h=>(zA6 e h).symm;refine fun rs G0 s0 L0=>⟨?_,fun w hw=>?_⟩
  ·rw [← L0.length];exact small _ (by decide)
  have lrs:rs.length=13:=L0.length.symm;have s1:Same H (upd G0 w (.lst rs)):=s0.trans (Same.new hw);have tab:∀ v∈rs,Tab H (upd G0 w (.lst rs)) v:=tab_all (L0.mono (Same.refl _) (Same.new hw));have hw1:(upd G0 w (.lst rs)) w=some (.lst rs):=zA2;have fw:H w=none:=s0.free hw;generalize upd G0 w (.lst rs)=G1 at s1 tab hw1 ⊢;have S1:Src G1 p k:=src S0 fun o e=>s1 _ _ e;refine ⟨_,rfl,_,rfl,p,_,k,rfl,S1,by omega,by decide,by decide,fun d G2 d0 d1 S2 k2=>?_⟩;obtain ⟨v,hv,hm⟩:=zCa rs d0 (by rw [lrs];exact d1);obtain ⟨r,szs,rfl,fr0,hr1,ok⟩:=tab v hm;have hr2:G2 r=some (.lst (szs.map fun (n:Nat)=>V.int (n:Int))):=by rw [k2 r (np S0 fr0)];exact hr1
  refine ⟨w,rs,d,_,rfl,rfl,SqL.of (by rw [k2 w (np S0 fw)];exact hw1),hv,?_⟩;have g2:∀ b o,H b=some o→b≠p→G2 b=some o:=fun b o e hb=>by rw [k2 b hb];exact s1 _ _ e
  obtain ⟨z3,zn,zm⟩:=ok;refine ⟨_,rfl,_,rfl,r,_,rfl,.inl (SqL.of hr2),p,_,_,rfl,S2,by omega,by rw [Z1];omega,by rw [Z1];omega,fun l1 ks G3 e1 n1 o1 hl1 f1 S3 k3=>⟨_,rfl,?_⟩⟩;rw [Z1] at e1;have hr3:G3 r=some (.lst (szs.map fun (n:Nat)=>V.int (n:Int))):=k3 _ _ hr2 (np S0 fr0);have g3:∀ b o,H b=some o→b≠p→G3 b=some o:=fun b o e hb=>k3 _ _ (g2 b o e hb) hb;have nl1:l1≠p:=np S2 f1
  refine ⟨l1,r,rfl,⟨_,SqL.of hl1⟩,⟨_,SqL.of hr3⟩,zC5 (J:=Itz K l1 r) (n:=szs.length) (fun i ys G=>(∀ b o,G3 b=some o→b≠p→G b=some o)∧Src G p (k + 6 + 5 * i)∧∃ vss:List (List Str),vss.length=i ∧
   HasAll (fun a=>H a=none) G ys (((ks.take i).zip vss).map fieldD)∧∀ (j:Nat) (vs:List Str),vss[j]? = some vs→ValsOk vs∧szs[j]? = some vs.length) ⟨fun _ _ e _=>e,S3.mono (by omega),[],rfl,.nil,fun j vs h=>by simp at h⟩ ?_ ?_ ?_ ?_ ?_⟩
  ·rintro i ys G lt ⟨fr,_⟩;exact ⟨_,_,_,_,SqL.of (fr _ _ hl1 nl1),SqL.of (fr _ _ hr3 (np S0 fr0)),Zc (by rw [Z1];omega),Zc (by rw [Z1];exact lt)⟩
  ·rintro ys G ⟨fr,_⟩;exact ⟨_,_,SqL.of (fr _ _ hl1 nl1),SqL.of (fr _ _ hr3 (np S0 fr0)),.inr (by rw [Z1];exact Z5 _)⟩
  ·rintro i ys G hi ⟨_,_,vss,hv,hh,_⟩;have:=hh.length;rw [Z1,List.length_zip] at this;exact small _ (by omega)
  ·rintro i ys G x G' lt ⟨fr,S,vss,hvl,hh,ho⟩ ⟨p2,x0,y0,rfl,hp2,rfl,hx,hy⟩ N hN;have hx':=hx _ (SqL.of (fr _ _ hl1 nl1));have hy':=hy _ (SqL.of (fr _ _ hr3 (np S0 fr0)));rw [Zm] at hx' hy';obtain ⟨nk,hnk⟩:∃ nk,ks[i]? = some nk:=⟨_,Zc (by omega)⟩;obtain ⟨sz,hsz⟩:∃ sz,szs[i]? = some sz:=⟨_,Zc lt⟩;rw [hnk] at hx';rw [hsz] at hy';cases hx';cases hy';obtain ⟨z1,z8⟩:=zn sz (Za hsz);have np2:p2≠p:=np S hp2;have s2:=Same.new (o:=.tup [V.str nk,V.int (sz:Int)]) hp2;have S':Src (upd G p2 (.tup [V.str nk,V.int (sz:Int)])) p (k + 6 + 5 * i):=src S fun o e=>s2 _ _ e;refine pickT (SqT.of zA2) ?_;refine ⟨_,rfl,_,rfl,_,rfl,p,_,_,rfl,S',by omega,by omega,by omega,fun l2 vs G4 e2 n2 o2 hl2 f2 S4 k4=>⟨by show 2≤sizeLine;decide,fun t ht=>hN _ _ ⟨fun b o e hb=>?_,?_,vss++[vs],?_,?_,?_⟩⟩⟩
   ·exact (Same.new ht) _ _ (k4 _ _ (s2 _ _ (fr b o e hb)) hb)
   ·exact (src S4 fun o e=>(Same.new ht) _ _ e).mono (by push_cast;omega)
   ·rw [Zb,hvl];rfl
   ·have bk:∀ b,(upd G p2 (.tup [V.str nk,V.int (sz:Int)])) b=none→H b=none:=fun b e=>by
     cases z:H b with
     | none=>rfl
     | some o =>
      have hb:b≠p:=np S' e;rw [s2 _ _ (fr _ _ (g3 _ _ z hb) hb)] at e;cases e
    have nt:t≠p:=np S4 ht;have ft:H t=none:=by
     cases z:H t with
     | none=>rfl
     | some o =>
      rw [k4 _ _ (s2 _ _ (fr _ _ (g3 _ _ z nt) nt)) nt] at ht;cases ht
    rw [zip_snoc hvl hnk,Zo];have onk:=o1 nk (Za hnk);refine HasAll.snoc (hh.frame fun b o g e=>⟨g,?_⟩) (.tup ft zA2 (by show 2≤1000;decide) (.cons (.str nk (by omega) onk.2.1) (.cons (.lst (bk _ f2) ((Same.new ht) _ _ hl2) (by rw [Z1];omega) (zCj o2)) .nil)));have hb:b≠p:=by obtain ⟨_,_,_,e',_⟩:=S0;rintro rfl;rw [e'] at g;cases g
    exact (Same.new ht) _ _ (k4 _ _ (s2 _ _ e) hb)
   ·intro j ws hj;by_cases lt2:j < vss.length
    ·rw [Zp lt2] at hj;exact ho j ws hj
    ·rw [Zt (by omega)] at hj;have ej:j=i:=by
      have:=(List.getElem?_eq_some_iff.mp hj).1;simp only [Z8,List.length_nil] at this;omega
     subst ej;rw [hvl,Nat.sub_self] at hj;cases hj;have e3:vs.length=sz:=by omega
     exact ⟨⟨by omega,by omega,n2,o2⟩,by rw [hsz,e3]⟩
  ·rintro ys G ⟨fr,S,vss,hvl,hh,ho⟩ l hl;have ek:ks.length=szs.length:=by omega
   have et:ks.take szs.length=ks:=by rw [← ek,Zr]
   rw [et] at hh;have nl:l≠p:=np S hl;have fl:H l=none:=by
    cases z:H l with
    | none=>rfl
    | some o =>
     rw [fr _ _ (g3 _ _ z nl) nl] at hl;cases hl
   have lz:(ks.zip vss).length=szs.length:=by rw [List.length_zip];omega
   have lys:ys.length≤1000:=by
    have:=hh.length;rw [Z1] at this;omega
   refine q l (ks.zip vss) _ ⟨by omega,?_,?_,?_⟩ (.lst fl zA2 lys (hh.mono (Same.new hl))) ((src S fun o e=>(Same.new hl) _ _ e).mono (by omega)) fun b o e hb=>(Same.new hl) _ _ (fr _ _ (g3 _ _ e hb) hb)
   ·rw [List.map_fst_zip (by omega)];exact n1
   ·intro f hf;obtain ⟨j,hj⟩:=List.getElem?_of_mem hf;have hj':=List.getElem?_zip_eq_some.mp (show (ks.zip vss)[j]? = some (f.1,f.2) from hj);exact ⟨o1 _ (Za hj'.1),(ho j f.2 hj'.2).1⟩
   ·unfold manyOf;rw [many_eq];have em:(ks.zip vss).map (·.2.length)=szs:=by
     apply List.ext_getElem?;intro j;rw [Zm];cases q1:(ks.zip vss)[j]? with
     | none =>
      have:=List.getElem?_eq_none_iff.mp q1;exact (List.getElem?_eq_none_iff.mpr (by omega)).symm
     | some f =>
      have hj':=List.getElem?_zip_eq_some.mp (show (ks.zip vss)[j]? = some (f.1,f.2) from q1);rw [(ho j f.2 hj'.2).2];rfl
    rw [em];exact zm
end
end L2.W
namespace L2.W
open PySem My
theorem FunD.okX {P:Program}{w:World}{K:PySem.W.Frag}{mg:Str→Option Value}{base:Heap}{CX:CXT}{x qual:Str}{st:Stmt}{dV:Value}{f:Addr}{fd:FuncData}{N ps:List Str}{k:Nat}{sp:Sp} (F:FunD K x qual st dV f fd) (S:FnScope N ps (defScope st)) (len:∀ vs H Q E,sp vs H Q E→vs.length=ps.length)
  (hbody:∀ (cdv:Value) (A:Around) (outer:List Env) (s:Shared) (H:Hp) (vs:List V) (Q:VK) (E:XK),Room k (A.deeper (PyProof.Rows.envOfC qual (defScope st) s.heap.objs.size f cdv))→sp vs H Q E →
   ∃ t,PSs (cxOf CX P w K mg base N qual (defScope st) f cdv A outer s H E) (defBody st) t∧t { nx:=fun _ H'=>Q .non H',rt:=Q } (start N vs) H):FnOk P w K mg base CX (k + 1) f fd ps sp:=by
 obtain ⟨oc,od,kV,doc,pm,an,cdv,ct,osl,rfl,lk,hcd⟩:=F.ex;exact zCr lk hcd S len fun A outer s H vs Q E hr hsp=>hbody cdv A outer s H vs Q E hr hsp
structure XTop (K:PySem.W.Frag) (mg:Str→Option Value) (x:Str) (CN:Addr):Prop where
 at_:mg x=some (.ref CN)
 cl:PySem.W.excIn K CN [.type "ValueError",.type "Exception",.type "BaseException",.type "object"] "ValueError.__new__" = true
noncomputable def HasF (H:Hp) (v:V) (d:PyData):Prop:=Has Any H v d∨∃ a kvs,v=.ref a∧H a=some (.dK kvs)∧d=.none
theorem HasF.mono {H H':Hp}{v:V}{d:PyData} (h:HasF H v d) (s:Same H H'):HasF H' v d:=h.elim (fun z=>.inl (z.mono s)) fun ⟨a,kvs,e1,e2,e3⟩=>.inr ⟨a,kvs,e1,s _ _ e2,e3⟩
noncomputable def spFieldsD:Sp:=fun vs H Q _=>∃ a kvs,vs=[.ref a]∧H a=some (.dK kvs)∧Q (.bl false) H
noncomputable def NoKd (H:Hp) (vn vf vo:V):Prop:=∃ dn df od,Has Any H vn dn∧HasF H vf df∧Has Any H vo od∧(nameD dn=false∨fieldsB df=false∨(vo≠.non∧(nameD od=false∨vo=vn)))
theorem NoKd.mono {H H':Hp}{vn vf vo:V} (h:NoKd H vn vf vo) (s:Same H H'):NoKd H' vn vf vo:=let ⟨dn,df,od,h1,h2,h3,h4⟩:=h;⟨dn,df,od,h1.mono s,h2.mono s,h3.mono s,h4⟩
noncomputable def spBadInit (CN:Addr):Sp:=fun vs H _ E=>∃ (p:Addr) (vn vf vo:V),vs=[.ref p,vn,vf,vo]∧NoKd H vn vf vo∧∀ (e:Addr) (H':Hp),H e=none→H' e=some (XO CN e)→Same H H'→E (.ref CN) (some e) H'
theorem name_str {G:Addr→Prop}{H:Hp}{v:V}{d:PyData} (h:Has G H v d) (e:nameD d=true):∃ x,v=.str x:=by
 cases h with
 | str x _ _=>exact ⟨x,rfl⟩
 | non=>cases e
 | bl b=>cases e
 | int i=>cases e
 | lst _ _ _ _=>cases e
 | tup _ _ _ _=>cases e
section
variable {P:Program}{w:World}{K:PySem.W.Frag}{mg:Str→Option Value}{base:Heap}{CX:CXT}
theorem ok_fieldsD {f fp fu fn:Addr}{fd fdp fdu fdn:FuncData} (hC:Calm CX) (T:Tops K mg) (F:Fun K "are_fields" "are_fields" sFields f fd) (DN:Def K mg "is_name" sIsName ["thing"] fn fdn)
  (DU:Def K mg "are_unlike_names" sUnlike ["things"] fu fdu) (DP:Def K mg "is_pair_with_values" sPair ["thing"] fp fdp):FnOk P w K mg base CX 4 f fd ["things"] spFieldsD:=by
 have GP:FnOk P w K mg base CX 3 fp fdp ["thing"] spPair:=ok_pair hC T DP.fn DN DU;refine Fun.okC F scFd (fun vs H Q E h=>?_) (fun cdv A outer s H vs Q E hr h=>?_)
 ·obtain ⟨a,kvs,rfl,_⟩:=h;rfl
 ·obtain ⟨a,kvs,rfl,e,k⟩:=h
  refine ⟨_,zA3 (zB0 (PW.pt (zCb (zAu (zAt (zA5 zAr rfl T.isinst PyProof.Rows.boot_isinstance (zA0 (pv 0) (zA0 (zB1 (v:=.ty "list") rfl T.list PyProof.Rows.boot_list rfl) zA1)))))
    (zBb (zAu (zAt (zA5 (zC0 rfl) rfl T.all PyProof.Rows.boot_all (zA0 (zAw (T:=["thing"]) rfl ScOk.auto (zAv (pv 0)) (fun _ _ _ _=>zAe (i:=1) (by decide +kernel:(["things", "thing"]:List Str).Nodup) rfl (Or.inl rfl)) (fun _ _ _ _=>zAz)
    (fun _ _ _ _=>zA8 GP hr rfl DP.at_ DP.fn.kp DP.bind .nil (passC hC) (zA0 (pv 1) zA1))) zA1))))))) (zA7 (zAd zBt)) zAf) zAx,?_⟩
  exact ⟨_,rfl,_,_,_,_,_,rfl,.dK e,rfl,rfl,_,rfl,iteT (iteT k)⟩
theorem ok_badInit {f CN ff fp fu fn:Addr}{fd fdf fdp fdu fdn:FuncData}{dV:Value} (T:Tops K mg) (F:FunD K "__init__" "Kind.__init__" sInit dV f fd) (XN:XTop K mg "NoKind" CN) (DN:Def K mg "is_name" sIsName ["thing"] fn fdn)
  (DU:Def K mg "are_unlike_names" sUnlike ["things"] fu fdu) (DP:Def K mg "is_pair_with_values" sPair ["thing"] fp fdp) (DF:Def K mg "are_fields" sFields ["things"] ff fdf) :
  FnOk P w K mg base (CXM P w) 5 f fd ["self", "name", "fields", "owner"] (spBadInit CN):=by
 have hC:Calm (CXM P w):=calmM;have GN:FnOk P w K mg base (CXM P w) 1 fn fdn ["thing"] spNameD:=zDb DN.fn T;have GF:=(ok_fields (P:=P) (w:=w) (base:=base) hC T DF.fn DN DU DP).or (ok_fieldsD hC T DF.fn DN DU DP);refine FunD.okX F scKi (fun vs H Q E h=>?_) (fun cdv A outer s H vs Q E hr h=>?_)
 ·obtain ⟨p,vn,vf,vo,rfl,_⟩:=h;rfl
 ·obtain ⟨p,vn,vf,vo,rfl,⟨dn,df,od,hn,hf,ho,bad⟩,k⟩:=h;have hr1:=hr.mono (show 1≤4 by decide)
  refine ⟨_,zA3 (zB0 (zAu (zAt (zA8 GN hr1 rfl DN.at_ DN.fn.kp DN.bind .nil (passC hC) (zA0 (pv 1) zA1)))) (zA7 (zBn (C:=CN) (W:=fun _ e H'=>E (.ref CN) (some e) H') XN.cl rfl XN.at_ rfl (zA0 zAc zA1) (fun pins σ H s e I he fr w=>xe_new I he (.inl fr) w))) zAf)
   (zA3 (zB0 (zAu (zAt (zA8 GF hr rfl DF.at_ DF.fn.kp DF.bind .nil (passC hC) (zA0 (pv 2) zA1)))) (zA7 (zBn (C:=CN) (W:=fun _ e H'=>E (.ref CN) (some e) H') XN.cl rfl XN.at_ rfl (zA0 zAc zA1) (fun pins σ H s e I he fr w=>xe_new I he (.inl fr) w))) zAf)
   (zA3 (zB0 (PW.pt (pw_and (pt_cmp (zD8 (pv 3))) (zCf (PW.pt (zCb (zAu (zAt (zA8 GN hr1 rfl DN.at_ DN.fn.kp DN.bind .nil (passC hC) (zA0 (pv 3) zA1)))) (zBb (zAl zCq (pv 3) (pv 1) (nomark _)))))))) (zA7 (zBn (C:=CN) (W:=fun _ e H'=>E (.ref CN) (some e) H') XN.cl rfl XN.at_ rfl (zA0 zAc zA1) (fun pins σ H s e I he fr w=>xe_new I he (.inl fr) w))) zAf)
   zAx)),?_⟩
  have rz:∀ H1,Same H H1→1≤sizeLine∧∀ e,H1 e=none→E (.ref CN) (some e) (upd H1 e (XO CN e)):=fun H1 s1=>⟨Zh (small1000 (by decide)),fun e he=>k e _ (s1.free he) zA2 (s1.trans (Same.new he))⟩;refine ⟨_,rfl,_,dn,rfl,hn,fun H1 s1=>⟨_,rfl,?_⟩⟩;cases e1:nameD dn with
  | false=>exact iteT (rz H1 s1)
  | true =>
   refine iteF ⟨_,rfl,?_⟩;rcases hf with hf | ⟨a,kvs,rfl,hf,rfl⟩
   ·refine .inl ⟨_,df,rfl,hf.mono s1,fun H2 s2=>⟨_,rfl,?_⟩⟩;have s12:=s1.trans s2;cases e2:fieldsB df with
    | false=>exact iteT (rz H2 s12)
    | true =>
     rcases bad with z | z | ⟨hne,bad⟩
     ·rw [e1] at z;cases z
     ·rw [e2] at z;cases z
     refine iteF ⟨_,rfl,_,rfl,?_⟩;rw [decide_eq_false hne];refine iteT ⟨_,rfl,_,od,rfl,ho.mono s12,fun H3 s3=>⟨_,rfl,?_⟩⟩;have s13:=s12.trans s3;cases e3:nameD od with
     | false=>exact iteT (iteT (rz H3 s13))
     | true =>
      rcases bad with z | rfl
      ·rw [e3] at z;cases z
      obtain ⟨x,rfl⟩:=name_str hn e1;refine iteF ⟨_,rfl,_,rfl,rfl,_,rfl,?_⟩;rw [decide_eq_true rfl];exact iteT (rz H3 s13)
   ·exact .inr ⟨a,kvs,rfl,s1 _ _ hf,_,rfl,iteT (rz H1 s1)⟩
end
end L2.W
namespace L2.W
open PySem My
structure Cls14 (K:PySem.W.Frag) (mg:Str→Option Value) (c:Nat→Addr) (CR:Addr):Prop where
 a0:mg "NoKind" = some (.ref (c 0))
 a1:mg "TooMany" = some (.ref (c 1))
 a2:mg "NoName" = some (.ref (c 2))
 a3:mg "NoWish" = some (.ref (c 3))
 a4:mg "NoLimit" = some (.ref (c 4))
 a5:mg "NoState" = some (.ref (c 5))
 a6:mg "NoPlace" = some (.ref (c 6))
 a7:mg "NoDeed" = some (.ref (c 7))
 a8:mg "NoRule" = some (.ref (c 8))
 a9:mg "NoStep" = some (.ref (c 9))
 a10:mg "NoSituation" = some (.ref (c 10))
 a11:mg "NoRound" = some (.ref (c 11))
 a12:mg "NoRow" = some (.ref (c 12))
 a13:mg "NoText" = some (.ref (c 13))
 rest:mg "RestError" = some (.ref CR)
 ve:mg "ValueError" = none
 x:∀ k,k < 13→XCls K (c k)
 kp:∀ k,k < 13→PySem.W.keepIn K (.ref (c k))=true
 kit:∀ k,k < 13→∀ j,j < 14→PySem.W.kitOne K (.ref (c k)) (.ref (c j))=some (decide (j=k))
 kr:∀ k,k < 13→PySem.W.kitOne K (.ref (c k)) (.ref CR)=some true
 kv:∀ k,k < 13→PySem.W.kitOne K (.ref (c k)) (.type "ValueError")=some true
 exm:PySem.W.exmOne K (.ref (c 0)) (.ref CR)=some true
noncomputable def marks (k:Nat):List V:=(List.range 14).map fun j=>V.bl (decide (j=k))
noncomputable def spMarks (c:Nat→Addr):Sp:=fun vs H Q _=>∃ (e:Addr) (k:Nat),vs=[.ref e]∧k < 13∧H e=some (XO (c k) e)∧∀ l H',H l=none→H' l=some (.lst (marks k))→Same H H'→Q (.ref l) H'
theorem marks_go {H H1:Hp}{e C w l:Addr}{xs ys:List V}{R:Hp→Prop} (s:Same H H1) (he:H1 e=some (XO C e)) (hw:H1 w=none) (hl:(upd H1 w (.lst xs)) l=none) (k:∀ H2,Same H H2→H2 e=some (XO C e)→H2 l=some (.lst ys)→R H2):R (upd (upd H1 w (.lst xs)) l (.lst ys)) :=
 k _ ((s.trans (Same.new hw)).trans (Same.new hl)) ((Same.new hl) _ _ ((Same.new hw) _ _ he)) zA2
section
variable {P:Program}{w:World}{K:PySem.W.Frag}{mg:Str→Option Value}{base:Heap}{CX:CXT}
theorem scMk:FnScope ["_law_e", "_law_got"] ["_law_e"] (defScope sMarks):=⟨rfl,rfl,rfl,by decide +kernel,rfl,by decide +kernel,by decide +kernel⟩
theorem ok_marks {q:Bool}{f CR:Addr}{c:Nat→Addr}{fd:FuncData} (T:Tops K mg) (R:Cls14 K mg c CR) (F:Fun K "_law_marks" "_law_marks" sMarks f fd):FnOkQ q P w K mg base CX 1 f fd ["_law_e"] (spMarks c):=by
 refine Fun.okQ F scMk (fun vs H Q E h=>?_) (fun cdv A outer s H vs Q E hr h=>?_)
 ·obtain ⟨e,k,rfl,_⟩:=h;rfl
 ·obtain ⟨e,k,rfl,hk,he,q⟩:=h;have nd:=scMk.nd;refine ⟨_,zA3 (zAb (i:=1) nd rfl (Or.inl rfl) (zAi (zA0 (zA5 (zAa (K:=K) rfl) rfl T.isinst PyProof.Rows.boot_isinstance (zA0 (pv 0) (zA0 (zAk (v:=.ref (c 0)) rfl R.a0 rfl) zA1))) (zA0 (zA5 (zAa (K:=K) rfl) rfl T.isinst PyProof.Rows.boot_isinstance (zA0 (pv 0) (zA0 (zAk (v:=.ref (c 1)) rfl R.a1 rfl) zA1))) (zA0 (zA5 (zAa (K:=K) rfl) rfl T.isinst PyProof.Rows.boot_isinstance (zA0 (pv 0) (zA0 (zAk (v:=.ref (c 2)) rfl R.a2 rfl) zA1))) (zA0 (zA5 (zAa (K:=K) rfl) rfl T.isinst PyProof.Rows.boot_isinstance (zA0 (pv 0) (zA0 (zAk (v:=.ref (c 3)) rfl R.a3 rfl) zA1))) zA1)))))) (zA3 (zAb (i:=1) nd rfl (Or.inl rfl) (zAg zB9 (pv 1) (zAi (zA0 (zA5 (zAa (K:=K) rfl) rfl T.isinst PyProof.Rows.boot_isinstance (zA0 (pv 0) (zA0 (zAk (v:=.ref (c 4)) rfl R.a4 rfl) zA1))) (zA0 (zA5 (zAa (K:=K) rfl) rfl T.isinst PyProof.Rows.boot_isinstance (zA0 (pv 0) (zA0 (zAk (v:=.ref (c 5)) rfl R.a5 rfl) zA1))) (zA0 (zA5 (zAa (K:=K) rfl) rfl T.isinst PyProof.Rows.boot_isinstance (zA0 (pv 0) (zA0 (zAk (v:=.ref (c 6)) rfl R.a6 rfl) zA1))) (zA0 (zA5 (zAa (K:=K) rfl) rfl T.isinst PyProof.Rows.boot_isinstance (zA0 (pv 0) (zA0 (zAk (v:=.ref (c 7)) rfl R.a7 rfl) zA1))) zA1))))))) (zA3 (zAb (i:=1) nd rfl (Or.inl rfl) (zAg zB9 (pv 1) (zAi (zA0 (zA5 (zAa (K:=K) rfl) rfl T.isinst PyProof.Rows.boot_isinstance (zA0 (pv 0) (zA0 (zAk (v:=.ref (c 8)) rfl R.a8 rfl) zA1))) (zA0 (zA5 (zAa (K:=K) rfl) rfl T.isinst PyProof.Rows.boot_isinstance (zA0 (pv 0) (zA0 (zAk (v:=.ref (c 9)) rfl R.a9 rfl) zA1))) (zA0 (zA5 (zAa (K:=K) rfl) rfl T.isinst PyProof.Rows.boot_isinstance (zA0 (pv 0) (zA0 (zAk (v:=.ref (c 10)) rfl R.a10 rfl) zA1))) (zA0 (zA5 (zAa (K:=K) rfl) rfl T.isinst PyProof.Rows.boot_isinstance (zA0 (pv 0) (zA0 (zAk (v:=.ref (c 11)) rfl R.a11 rfl) zA1))) zA1))))))) (zA7 (zAd (zAg zB9 (pv 1) (zAi (zA0 (zA5 (zAa (K:=K) rfl) rfl T.isinst PyProof.Rows.boot_isinstance (zA0 (pv 0) (zA0 (zAk (v:=.ref (c 12)) rfl R.a12 rfl) zA1))) (zA0 (zA5 (zAa (K:=K) rfl) rfl T.isinst PyProof.Rows.boot_isinstance (zA0 (pv 0) (zA0 (zAk (v:=.ref (c 13)) rfl R.a13 rfl) zA1))) zA1)))))))),?_⟩;refine ⟨_,rfl,e,_,_,.ref (c 0),_,rfl,he,R.x k hk,rfl,R.kit k hk 0 (by decide),(fun z=>absurd rfl (z _)),?_⟩;refine ⟨_,rfl,e,_,_,.ref (c 1),_,rfl,he,R.x k hk,rfl,R.kit k hk 1 (by decide),(fun z=>absurd rfl (z _)),?_⟩;refine ⟨_,rfl,e,_,_,.ref (c 2),_,rfl,he,R.x k hk,rfl,R.kit k hk 2 (by decide),(fun z=>absurd rfl (z _)),?_⟩;refine ⟨_,rfl,e,_,_,.ref (c 3),_,rfl,he,R.x k hk,rfl,R.kit k hk 3 (by decide),(fun z=>absurd rfl (z _)),?_⟩;refine ⟨by show 4≤sizeLine;decide,fun l1 h1=>?_⟩;have he1:=(Same.new (o:=.lst [.bl (decide (0=k)),.bl (decide (1=k)),.bl (decide (2=k)),.bl (decide (3=k))]) h1) _ _ he;have s1:Same H (upd H l1 (.lst [.bl (decide (0=k)),.bl (decide (1=k)),.bl (decide (2=k)),.bl (decide (3=k))])):=Same.new h1;have g1:(upd H l1 (.lst [.bl (decide (0=k)),.bl (decide (1=k)),.bl (decide (2=k)),.bl (decide (3=k))])) l1=some (.lst [.bl (decide (0=k)),.bl (decide (1=k)),.bl (decide (2=k)),.bl (decide (3=k))]):=zA2;generalize upd H l1 (.lst [.bl (decide (0=k)),.bl (decide (1=k)),.bl (decide (2=k)),.bl (decide (3=k))])=H1 at he1 s1 g1 ⊢;refine ⟨_,rfl,?_⟩;refine ⟨_,rfl,e,_,_,.ref (c 4),_,rfl,he1,R.x k hk,rfl,R.kit k hk 4 (by decide),(fun z=>absurd rfl (z _)),?_⟩;refine ⟨_,rfl,e,_,_,.ref (c 5),_,rfl,he1,R.x k hk,rfl,R.kit k hk 5 (by decide),(fun z=>absurd rfl (z _)),?_⟩;refine ⟨_,rfl,e,_,_,.ref (c 6),_,rfl,he1,R.x k hk,rfl,R.kit k hk 6 (by decide),(fun z=>absurd rfl (z _)),?_⟩;refine ⟨_,rfl,e,_,_,.ref (c 7),_,rfl,he1,R.x k hk,rfl,R.kit k hk 7 (by decide),(fun z=>absurd rfl (z _)),?_⟩;refine ⟨by show 4≤sizeLine;decide,fun w1 hw1=>⟨l1,w1,_,_,rfl,rfl,(Same.new hw1) _ _ g1,zA2,by show 8≤sizeLine;decide,fun l2 hl2=>?_⟩⟩;refine marks_go (s1) he1 hw1 hl2 fun H2 s2 he2 g2=>?_;refine ⟨_,rfl,?_⟩;refine ⟨_,rfl,e,_,_,.ref (c 8),_,rfl,he2,R.x k hk,rfl,R.kit k hk 8 (by decide),(fun z=>absurd rfl (z _)),?_⟩;refine ⟨_,rfl,e,_,_,.ref (c 9),_,rfl,he2,R.x k hk,rfl,R.kit k hk 9 (by decide),(fun z=>absurd rfl (z _)),?_⟩;refine ⟨_,rfl,e,_,_,.ref (c 10),_,rfl,he2,R.x k hk,rfl,R.kit k hk 10 (by decide),(fun z=>absurd rfl (z _)),?_⟩;refine ⟨_,rfl,e,_,_,.ref (c 11),_,rfl,he2,R.x k hk,rfl,R.kit k hk 11 (by decide),(fun z=>absurd rfl (z _)),?_⟩;refine ⟨by show 4≤sizeLine;decide,fun w2 hw2=>⟨l2,w2,_,_,rfl,rfl,(Same.new hw2) _ _ g2,zA2,by show 12≤sizeLine;decide,fun l3 hl3=>?_⟩⟩;refine marks_go (s2) he2 hw2 hl3 fun H3 s3 he3 g3=>?_;refine ⟨_,rfl,?_⟩;refine ⟨_,rfl,e,_,_,.ref (c 12),_,rfl,he3,R.x k hk,rfl,R.kit k hk 12 (by decide),(fun z=>absurd rfl (z _)),?_⟩;refine ⟨_,rfl,e,_,_,.ref (c 13),_,rfl,he3,R.x k hk,rfl,R.kit k hk 13 (by decide),(fun z=>absurd rfl (z _)),?_⟩;refine ⟨by show 2≤sizeLine;decide,fun w3 hw3=>⟨l3,w3,_,_,rfl,rfl,(Same.new hw3) _ _ g3,zA2,by show 14≤sizeLine;decide,fun l4 hl4=>?_⟩⟩;exact q _ _ (s3.free ((Same.new (o:=.lst [.bl (decide (12=k)),.bl (decide (13=k))]) hw3).free hl4)) zA2 ((s3.trans (Same.new hw3)).trans (Same.new hl4))
end
end L2.W
namespace L2.W
open PySem My
theorem for_enum {K:PySem.W.Frag}{a:Addr}{xs:List V}{g:TG}{tb:TS}{D:Ends}{σ : St}{H:Hp} (Pv:Nat→St→Hp→Prop) (h0:Pv 0 σ H) (hl:∀ i σ H,i≤xs.length→Pv i σ H→SqL K H a xs)
  (hs:∀ i x σ H p,xs[i]? = some x→Pv i σ H→H p=none→g (.ref p) σ (upd H p (.tup [.int (i:Nat),x])) fun σ2 H2=>tb { D with nx:=Pv (i + 1),ct:=Pv (i + 1),bk:=D.nx } σ2 H2) (hd:∀ σ H,Pv xs.length σ H→D.nx σ H) :
  ∃ W:Nat→Nat→St→Hp→Prop,(∃ m,W 0 m σ H)∧∀ i m σ H,W i m σ H →
   ((Ite K a).stop i H∧D.nx σ H)∨((Ite K a).go i H∧∃ N:St→Hp→Prop,(∀ σ' H',N σ' H'→∃ m',m' < m∧W (i + 1) m' σ' H')∧∀ x H',(Ite K a).yld i H x H'→g x σ H' fun σ2 H2=>tb { D with nx:=N,ct:=N,bk:=D.nx } σ2 H2):=by
 refine ⟨fun i m σ H=>m=xs.length - i∧i≤xs.length∧Pv i σ H,⟨xs.length,by simp,Zv _,h0⟩,?_⟩;rintro i m σ H ⟨rfl,hi,p⟩;have q:=hl i σ H hi p;by_cases hlt:i < xs.length
 ·refine .inr ⟨⟨xs,xs[i],q,by simp [hlt]⟩,Pv (i + 1),fun σ' H' p'=>⟨xs.length - (i + 1),by omega,rfl,hlt,p'⟩,fun x H' y=>?_⟩;obtain ⟨t,z,rfl,ht,rfl,hz⟩:=y;exact hs i z σ H t (hz xs q) p ht
 ·obtain rfl:i=xs.length:=by omega
  exact .inl ⟨⟨xs,q,Z5 _⟩,hd σ H p⟩
noncomputable def Made (c:Nat→Addr) (H:Hp) (xs:List Addr):Prop:=∀ j e,xs[j]? = some e→H e=some (XO (c j) e)
theorem Made.same {c:Nat→Addr}{H H':Hp}{xs:List Addr} (m:Made c H xs) (s:Same H H'):Made c H' xs:=fun j e h=>s _ _ (m j e h)
theorem Made.go {c:Nat→Addr}{H H0:Hp}{e:Addr} (xs:List Addr) {R:Hp→Prop} (m:Made c H xs) (s0:Same H0 H) (he:H e=none) (k:∀ H',Made c H' (xs++[e])→Same H0 H'→R H'):R (upd H e (XO (c xs.length) e)) :=
 k _ (fun j a h=>by
  by_cases lt:j < xs.length
  ·rw [Zp lt] at h;exact (Same.new he) _ _ (m j a h)
  ·rw [Zt (Nat.not_lt.mp lt)] at h;cases z:j - xs.length with
   | zero =>
    rw [z] at h;cases h;have:j=xs.length:=by omega
    rw [this];exact zA2
   | succ n =>
    rw [z] at h
    cases h) (s0.trans (Same.new he))
theorem bls_has {G:Addr→Prop}{H:Hp} (f:Nat→Bool):∀ l:List Nat,HasAll G H (l.map fun j=>V.bl (f j)) (l.map fun j=>.bool (f j))
 | []=>.nil
 | _ :: r=>.cons (.bl _) (bls_has f r)
theorem bls_depth (f:Nat→Bool):∀ l:List Nat,PyData.depthAll (l.map fun j=>.bool (f j))=0
 | []=>rfl
 | _ :: r=>by
  show max 0 (PyData.depthAll (r.map fun j=>.bool (f j)))=0;rw [bls_depth f r];rfl
noncomputable def marksD (k:Nat):PyData:=.list ((List.range 14).map fun j=>.bool (decide (j=k)))
theorem zBv {G:Addr→Prop}{H:Hp}{a:Addr}{k:Nat} (g:G a) (h:H a=some (.lst (marks k))):Has G H (.ref a) (marksD k):=.lst g h (by unfold marks;rw [Z1,Zu];decide) (bls_has _ _)
theorem zCk (k:Nat):(marksD k).depth≤64:=by
 show PyData.depthAll ((List.range 14).map fun j=>.bool (decide (j=k))) + 1≤64;rw [bls_depth]
 decide
theorem dec_ik (i k:Nat):decide (V.int ((0:Int) + (i:Int))=V.int (k:Int))=decide (i=k):=by
 by_cases h:i=k
 ·rw [decide_eq_true h,h,Int.zero_add,decide_eq_true rfl]
 ·rw [decide_eq_false h,decide_eq_false fun z=>h (by injection z with z;omega)]
theorem range_snoc (i k:Nat):(List.range (i + 1)).map (fun j=>V.bl (decide (j=k)))=(List.range i).map (fun j=>V.bl (decide (j=k)))++[V.bl (decide (i=k))]:=by rw [List.range_succ,Zo];rfl
theorem ne_same {G G':Addr→Prop}{H:Hp}{x y:V}{Q:VK}{d:PyData} (hx:Has G H x d) (hy:Has G' H y d) (hd:d.depth≤64) (q:Q (.bl false) H):rNeD x y H Q:=⟨d,d,hx.any,hy.any,hd,hd,by rw [hx.eqv];exact q⟩
theorem eq_same {G G':Addr→Prop}{H:Hp}{x y:V}{Q:VK}{d:PyData} (hx:Has G H x d) (hy:Has G' H y d) (hd:d.depth≤64) (q:Q (.bl true) H):rEqD x y H Q:=⟨d,d,hx.any,hy.any,hd,hd,by rw [hx.eqv];exact q⟩
theorem k_made13 {c:Nat→Addr}{H G:Hp}{l:Addr}{xs:List Addr}{R:Hp→Prop} (m:Made c G xs) (s:Same H G) (g:G l=some (.lst (xs.map V.ref))) (n:xs.length=13) (k:∀ G xs,Made c G xs→Same H G→G l=some (.lst (xs.map V.ref))→xs.length=13→R G):R G:=k G xs m s g n
noncomputable def spClasses:Sp:=fun vs H Q _=>vs=[]∧∀ H',Same H H'→Q (.bl true) H'
section
variable {P:Program}{w:World}{K:PySem.W.Frag}{mg:Str→Option Value}{base:Heap}{CX:CXT}
theorem scCs:FnScope ["_law_made", "_law_k", "_law_e"] [] (defScope sClasses):=⟨rfl,rfl,rfl,by decide +kernel,rfl,by decide +kernel,by decide +kernel⟩
theorem ok_classes {f fm CR:Addr}{c:Nat→Addr}{fd fdm:FuncData} (hC:Calm CX) (T:Tops K mg) (R:Cls14 K mg c CR) (F:Fun K "_law_classes" "_law_classes" sClasses f fd) (DM:Def K mg "_law_marks" sMarks ["_law_e"] fm fdm):FnOk P w K mg base CX 2 f fd [] spClasses:=by
 have GM:FnOk P w K mg base CX 1 fm fdm ["_law_e"] (spMarks c):=ok_marks T R DM.fn;refine Fun.okC F scCs (fun vs H Q E h=>?_) (fun cdv A outer s H vs Q E hr h=>?_)
 ·obtain ⟨rfl,_⟩:=h;rfl
 ·obtain ⟨rfl,q⟩:=h;have nd:=scCs.nd
  refine ⟨_,zA3 (zAb (i:=0) nd rfl (Or.inl rfl) (zAi (zA0 (zAm (C:=c 0) (R.x 0 (by decide)).exc (R.kp 0 (by decide)) rfl R.a0 (zA0 zAc zA1)) (zA0 (zAm (C:=c 1) (R.x 1 (by decide)).exc (R.kp 1 (by decide)) rfl R.a1 (zA0 zAc zA1)) (zA0 (zAm (C:=c 2) (R.x 2 (by decide)).exc (R.kp 2 (by decide)) rfl R.a2 (zA0 zAc zA1)) (zA0 (zAm (C:=c 3) (R.x 3 (by decide)).exc (R.kp 3 (by decide)) rfl R.a3 (zA0 zAc zA1)) (zA0 (zAm (C:=c 4) (R.x 4 (by decide)).exc (R.kp 4 (by decide)) rfl R.a4 (zA0 zAc zA1)) (zA0 (zAm (C:=c 5) (R.x 5 (by decide)).exc (R.kp 5 (by decide)) rfl R.a5 (zA0 zAc zA1)) (zA0 (zAm (C:=c 6) (R.x 6 (by decide)).exc (R.kp 6 (by decide)) rfl R.a6 (zA0 zAc zA1)) (zA0 (zAm (C:=c 7) (R.x 7 (by decide)).exc (R.kp 7 (by decide)) rfl R.a7 (zA0 zAc zA1)) zA1))))))))))
     (zA3 (zAb (i:=0) nd rfl (Or.inl rfl) (zAg zB9 (pv 0) (zAi (zA0 (zAm (C:=c 8) (R.x 8 (by decide)).exc (R.kp 8 (by decide)) rfl R.a8 (zA0 zAc zA1)) (zA0 (zAm (C:=c 9) (R.x 9 (by decide)).exc (R.kp 9 (by decide)) rfl R.a9 (zA0 zAc zA1)) (zA0 (zAm (C:=c 10) (R.x 10 (by decide)).exc (R.kp 10 (by decide)) rfl R.a10 (zA0 zAc zA1)) (zA0 (zAm (C:=c 11) (R.x 11 (by decide)).exc (R.kp 11 (by decide)) rfl R.a11 (zA0 zAc zA1)) (zA0 (zAm (C:=c 12) (R.x 12 (by decide)).exc (R.kp 12 (by decide)) rfl R.a12 (zA0 zAc zA1)) zA1))))))))
     (zA3 (zCu PassesOwn.never rfl (pi_enum rfl T.enum (zA0 (pv 0) zA1)) (pg_tup rfl (zAq (zAe (i:=1) nd rfl (Or.inr rfl)) (zAq (zAe (i:=2) nd rfl (Or.inl rfl)) zBj)))
     (zA3 (zB0 (PW.pt (zCb (zAl (op_neD hr.units) (zA8 GM hr rfl DM.at_ DM.fn.kp DM.bind .nil (passC hC) (zA0 (pv 2) zA1)) (zAw (T:=["_law_at"]) rfl ScOk.auto (zBp rfl T.range (zA0 zA4 zA1)) (fun _ _ _ _=>zAe (i:=3) (by decide +kernel:(["_law_made", "_law_k", "_law_e", "_law_at"]:List Str).Nodup) rfl (Or.inl rfl)) (fun _ _ _ _=>zAz) (fun _ _ _ _=>(zB4 zCq (pv 3) (pv 1) (nomark _)))) (nomark _)) (zBb (zAu (zAt (zA5 (zAa (K:=K) rfl) rfl T.isinst PyProof.Rows.boot_isinstance (zA0 (pv 2) (zA0 (zAk (v:=.ref CR) rfl R.rest rfl) zA1))))))))
     (zA7 (zAd zBt)) zAf)
     (zA7 (zB0 (zAu (zAt (zA5 (zAa (K:=K) rfl) rfl T.isinst PyProof.Rows.boot_isinstance (zA0 (pv 2) (zA0 (zB1 (v:=.ty "ValueError") rfl R.ve (by decide +kernel) rfl) zA1)))))
     (zA7 (zAd zBt)) zAf))))
     (zA7 (zAd zBt)))),?_⟩
  have one:(1:Nat)≤sizeLine:=Zh (small1000 (by decide));have m0:Made c H []:=fun j e h=>by simp at h
  have s0:Same H H:=Same.refl _;refine ⟨one,fun e0 h0=>Made.go [] m0 s0 h0 fun H1 m1 s1=>?_⟩;refine ⟨one,fun e1 h1=>Made.go [e0] m1 s1 h1 fun H2 m2 s2=>?_⟩;refine ⟨one,fun e2 h2=>Made.go [e0,e1] m2 s2 h2 fun H3 m3 s3=>?_⟩;refine ⟨one,fun e3 h3=>Made.go [e0,e1,e2] m3 s3 h3 fun H4 m4 s4=>?_⟩;refine ⟨one,fun e4 h4=>Made.go [e0,e1,e2,e3] m4 s4 h4 fun H5 m5 s5=>?_⟩;refine ⟨one,fun e5 h5=>Made.go [e0,e1,e2,e3,e4] m5 s5 h5 fun H6 m6 s6=>?_⟩;refine ⟨one,fun e6 h6=>Made.go [e0,e1,e2,e3,e4,e5] m6 s6 h6 fun H7 m7 s7=>?_⟩;refine ⟨one,fun e7 h7=>Made.go [e0,e1,e2,e3,e4,e5,e6] m7 s7 h7 fun H8 m8 s8=>?_⟩;refine ⟨by show 8≤sizeLine;decide,fun l1 hl1=>?_⟩;have sl1:Same H8 (upd H8 l1 (.lst [.ref e0,.ref e1,.ref e2,.ref e3,.ref e4,.ref e5,.ref e6,.ref e7])):=Same.new hl1;have gl1:(upd H8 l1 (.lst [.ref e0,.ref e1,.ref e2,.ref e3,.ref e4,.ref e5,.ref e6,.ref e7])) l1=some (.lst [.ref e0,.ref e1,.ref e2,.ref e3,.ref e4,.ref e5,.ref e6,.ref e7]):=zA2;generalize upd H8 l1 (.lst [.ref e0,.ref e1,.ref e2,.ref e3,.ref e4,.ref e5,.ref e6,.ref e7])=G8 at sl1 gl1 ⊢;have m8':Made c G8 [e0,e1,e2,e3,e4,e5,e6,e7]:=m8.same sl1;have s8':Same H G8:=s8.trans sl1;have t8:Same G8 G8:=Same.refl _;refine ⟨_,rfl,?_⟩;refine ⟨one,fun e8 h8=>Made.go [e0,e1,e2,e3,e4,e5,e6,e7] m8' t8 h8 fun G9 m9 t9=>?_⟩;refine ⟨one,fun e9 h9=>Made.go [e0,e1,e2,e3,e4,e5,e6,e7,e8] m9 t9 h9 fun G10 m10 t10=>?_⟩;refine ⟨one,fun e10 h10=>Made.go [e0,e1,e2,e3,e4,e5,e6,e7,e8,e9] m10 t10 h10 fun G11 m11 t11=>?_⟩;refine ⟨one,fun e11 h11=>Made.go [e0,e1,e2,e3,e4,e5,e6,e7,e8,e9,e10] m11 t11 h11 fun G12 m12 t12=>?_⟩;refine ⟨one,fun e12 h12=>Made.go [e0,e1,e2,e3,e4,e5,e6,e7,e8,e9,e10,e11] m12 t12 h12 fun G13 m13 t13=>?_⟩;refine ⟨by show 5≤sizeLine;decide,fun w2 hw2=>⟨l1,w2,_,_,rfl,rfl,(Same.new hw2) _ _ (t13 _ _ gl1),zA2,by show 13≤sizeLine;decide,fun l2 hl2=>?_⟩⟩;have sm:=(Same.new (o:=.lst [.ref e8,.ref e9,.ref e10,.ref e11,.ref e12]) hw2).trans (Same.new (o:=.lst ([e0,e1,e2,e3,e4,e5,e6,e7,e8,e9,e10,e11,e12].map V.ref)) hl2);have mz:Made c _ [e0,e1,e2,e3,e4,e5,e6,e7,e8,e9,e10,e11,e12]:=m13.same sm;have sz:Same H _:=(s8'.trans t13).trans sm;have gz:(upd (upd G13 w2 (.lst [.ref e8,.ref e9,.ref e10,.ref e11,.ref e12])) l2 (.lst ([e0,e1,e2,e3,e4,e5,e6,e7,e8,e9,e10,e11,e12].map V.ref))) l2=some (.lst ([e0,e1,e2,e3,e4,e5,e6,e7,e8,e9,e10,e11,e12].map V.ref)):=zA2;refine k_made13 (xs:=[e0,e1,e2,e3,e4,e5,e6,e7,e8,e9,e10,e11,e12]) mz sz gz rfl fun G xs mz sz gz lz=>?_;refine ⟨_,rfl,l2,rfl,⟨_,SqL.of gz⟩,for_enum (K:=K) (a:=l2) (xs:=xs.map V.ref) (fun i σ H2=>∃ u1 u2,σ = [some (.ref l2),u1,u2]∧Same G H2) ⟨none,none,rfl,Same.refl _⟩ (fun i σ H2 _ ⟨_,_,_,s⟩=>SqL.of (s _ _ gz)) ?_ ?_⟩
  ·rintro i x σ H2 p hi ⟨u1,u2,rfl,s2⟩ hp;rw [Zm] at hi;cases ei:xs[i]? with
   | none=>rw [ei] at hi;cases hi
   | some e =>
    rw [ei] at hi;cases hi;have hk:i < 13:=by have:=(List.getElem?_eq_some_iff.mp ei).1;omega
    have s3:Same G (upd H2 p (.tup [.int (i:Nat),.ref e])):=s2.trans (Same.new hp);have xe:=s3 _ _ (mz i e ei);have tp:(upd H2 p (.tup [.int (i:Nat),.ref e])) p=some (.tup [.int (i:Nat),.ref e]):=zA2;generalize upd H2 p (.tup [.int (i:Nat),.ref e])=H3 at s3 xe tp ⊢;refine ⟨p,[.int (i:Nat),.ref e],rfl,SqT.of tp,rfl,.int (i:Nat),[.ref e],rfl,.ref e,[],rfl,rfl,?_⟩;refine ⟨_,rfl,e,i,rfl,hk,xe,fun l H4 hl hl4 s4=>?_⟩;refine ⟨14,rfl,by decide,by decide,zD0 (lo:=0) (n:=14) (fun j ys H'=>H'=H4∧ys=(List.range j).map fun j=>V.bl (decide (j=i))) ⟨rfl,rfl⟩ (fun j ys H' hj pv=>?_) ?_ ?_⟩
    ·rw [pv.2,Z1,Zu];exact Zh (small1000 (by omega))
    ·rintro j ys H' hj ⟨rfl,rfl⟩ N hN;refine pick ⟨_,rfl,_,rfl,rfl,?_⟩;refine hN _ _ ⟨rfl,?_⟩;rw [range_snoc,dec_ik]
    ·rintro ys H' ⟨rfl,rfl⟩ l5 hl5;have s5:Same H' (upd H' l5 (.lst (marks i))):=Same.new hl5;refine ne_same (G:=Any) (G':=Any) (zBv trivial (s5 _ _ hl4)) (zBv trivial zA2) (zCk i) ⟨_,rfl,iteF ?_⟩;have xe5:=s5 _ _ (s4 _ _ xe);have s6:=(s3.trans s4).trans s5;refine ⟨_,rfl,e,_,_,.ref CR,true,rfl,xe5,R.x i hk,rfl,R.kr i hk,(fun z=>absurd rfl (z _)),_,rfl,iteF ?_⟩;refine ⟨_,rfl,e,_,_,.type "ValueError",true,rfl,xe5,R.x i hk,rfl,R.kv i hk,(fun _=>⟨_,rfl⟩),_,rfl,iteF ?_⟩;exact ⟨_,_,rfl,s6⟩
  ·rintro σ H2 ⟨u1,u2,rfl,s2⟩;exact q _ (sz.trans s2)
end
end L2.W
namespace L2.W
open PySem My
noncomputable def spWord:Sp:=fun vs H Q _=>∃ vn vf vo,vs=[vn,vf,vo]∧NoKd H vn vf vo∧∀ H',Same H H'→Q (.str "kind") H'
theorem comp_rangeH {e C:Addr}{n k:Nat}{σ : St}{H:Hp}{g:TG}{tt:TT}{te:TE}{Q:VK} (he:H e=some (XO C e)) (f:Nat→V) (hz:n≤1000)
  (hs:∀ i (Ry:VK),i < n→Ry (f i) H→∀ Rn:Hp→Prop,g (.int ((0:Int) + i)) (σ++List.replicate k none) H fun σ2 H2=>tt σ2 H2 fun b H3=>if b=true then te σ2 H3 Ry else Rn H3)
  (hd:∀ p,H p=none→Q (.ref p) (upd H p (.lst ((List.range n).map f)))):CompGoal (ItrH e 0 n) k σ H g tt te Q:=by
 refine zC5 (J:=ItrH e 0 n) (n:=n) (fun i ys H'=>H'=H∧ys=(List.range i).map f) ⟨rfl,rfl⟩ (fun i ys H' lt _=>lt) (fun ys H' p=>⟨Z5 _,C,by rw [p.1];exact he⟩) (fun i ys H' hi p=>?_) ?_ ?_
 ·rw [p.2,Z1,Zu];exact Zh (small1000 (by omega))
 ·rintro i ys H' x H2 lt ⟨rfl,rfl⟩ ⟨rfl,rfl⟩ N hN;refine hs i _ lt (hN _ _ ⟨rfl,?_⟩) _;rw [List.range_succ,Zo];rfl
 ·rintro ys H' ⟨rfl,rfl⟩ p hp;exact hd p hp
section
variable {P:Program}{w:World}{K:PySem.W.Frag}{mg:Str→Option Value}{base:Heap}
theorem scWd:FnScope ["_law_name", "_law_fields_here", "_law_owner", "_law_word_here", "_law_e", "_law_right"] ["_law_name", "_law_fields_here", "_law_owner"] (defScope sWord):=⟨rfl,rfl,rfl,by decide +kernel,rfl,by decide +kernel,by decide +kernel⟩
theorem ok_word {f fm CR C fI:Addr}{c:Nat→Addr}{fd fdm fdI:FuncData} (T:Tops K mg) (R:Cls14 K mg c CR) (KC:KCls K mg C fI) (F:Fun K "_law_word" "_law_word" sWord f fd) (DM:Def K mg "_law_marks" sMarks ["_law_e"] fm fdm)
  (GB:FnOk P w K mg base (CXM P w) 5 fI fdI ["self", "name", "fields", "owner"] (spBadInit (c 0))) (bK:Binds K fdI ["self", "name", "fields", "owner"] []):FnOk P w K mg base (CXM P w) 7 f fd ["_law_name", "_law_fields_here", "_law_owner"] spWord:=by
 have GM:FnOkQ false P w K mg base (CXM P w) 1 fm fdm ["_law_e"] (spMarks c):=ok_marks T R DM.fn;have hC:Calm (CXM P w):=calmM;refine Fun.okX F scWd (fun vs H Q E h=>?_) (fun cdv A outer s H vs Q E hr h=>?_)
 ·obtain ⟨vn,vf,vo,rfl,_⟩:=h;rfl
 ·obtain ⟨vn,vf,vo,rfl,bad,q⟩:=h;have nd:=scWd.nd;have hrq:∀ e,RoomQ false 1 ((cxOf (CXM P w) P w K mg base ["_law_name", "_law_fields_here", "_law_owner", "_law_word_here", "_law_e", "_law_right"] "_law_word" (defScope sWord) f cdv A outer s H E).hnd e).A:=fun e=>Room.hnd (hr.mono (show 1≤6 by decide))
  refine ⟨_,zA3 (zAb (i:=3) nd rfl (Or.inl rfl) zAc)
     (zA3 (ps_try (i:=4) (B:=CR) rfl rfl rfl nd rfl rfl rfl R.rest (fun pins W=>(zA7 (zCg (zC3 KC.mkd GB hr rfl KC.mgC bK .nil (pass_try rfl) (zA0 (pv 0) (zA0 (pv 1) (zA0 (pv 2) zA1)))))))
     (fun e=>(zA3 (zAb (i:=5) nd rfl (Or.inl rfl) (zBu (zA5 (zAa (K:=K) rfl) rfl T.isinst PyProof.Rows.boot_isinstance (zA0 (pv 4) (zA0 (zB1 (v:=.ty "ValueError") rfl R.ve (by decide +kernel) rfl) zA1))) (zCi (zB4 (op_eqD hr.units) (zA8 GM (hrq e) rfl DM.at_ DM.fn.kp DM.bind .nil (passC hC) (zA0 (pv 4) zA1)) (zD5 (e:=e) (T:=["_law_at"]) rfl ScOk.auto rfl T.range (zA0 zA4 zA1) (fun _ _ _ _=>zAe (i:=6) (by decide +kernel:(["_law_name", "_law_fields_here", "_law_owner", "_law_word_here", "_law_e", "_law_right", "_law_at"]:List Str).Nodup) rfl (Or.inl rfl)) (fun _ _ _ _=>zAz) (fun _ _ _ _=>zB4 zCq (pv 6) zA4 (nomark _))) (nomark _)))))
     (zA7 (zAb (i:=3) nd rfl (Or.inl rfl) (zAs zAn (zAi (zA0 zAc (zA0 zAc zA1))) (zAy call_int1 rfl T.int PyProof.Rows.boot_int (zA0 (pv 5) zA1)) (fun _ _=>rfl)))))))
     (zA7 (zAd (pv 3)))),?_⟩
  refine ⟨fun σ' e C' H'=>C'=c 0∧σ'=[some vn,some vf,some vo,some (.str "told"),none,none]∧Same H H',?_,?_⟩
  ·refine ⟨_,rfl,_,rfl,_,rfl,fun x dx hx hdx ne=>?_⟩;have s1:Same H (upd (upd H dx (.own x)) x (.ins C dx [])):=(Same.new hdx).trans (Same.new (by rw [zA9 (Ne.symm ne)];exact hx));generalize upd (upd H dx (.own x)) x (.ins C dx [])=H1 at s1 ⊢;exact ⟨x,vn,vf,vo,rfl,bad.mono s1,fun e H' hn he s2=>⟨e,c 0,rfl,rfl,rfl,rfl,s1.trans s2⟩⟩
  ·rintro σ' e C' H' he ⟨rfl,rfl,s1⟩;refine ⟨R.exm,?_⟩;have z0:(0:Nat) < 13:=by decide
   refine ⟨_,rfl,e,_,_,.type "ValueError",true,rfl,he,R.x 0 z0,rfl,R.kv 0 z0,(fun _=>⟨_,rfl⟩),_,rfl,iteT ?_⟩;refine ⟨_,rfl,e,0,rfl,z0,he,fun l H2 hl hl2 s2=>?_⟩;have he2:=s2 _ _ he;refine ⟨14,rfl,by decide,by decide,comp_rangeH he2 (fun j=>V.bl (decide (j=0))) (by decide) (fun i Ry hi ry Rn=>?_) fun l3 hl3=>?_⟩
   ·refine pick ⟨_,rfl,rfl,?_⟩;rw [show decide (V.int ((0:Int) + (i:Int))=V.int 0)=decide (i=0) from dec_ik i 0];exact ry
   ·have s3:Same H2 (upd H2 l3 (.lst (marks 0))):=Same.new hl3;refine eq_same (G:=Any) (G':=Any) (zBv (k:=0) trivial (s3 _ _ hl2)) (zBv trivial zA2) (zCk 0) ?_;have s4:=(s1.trans s2).trans s3;refine ⟨by show 2≤sizeLine;decide,fun q5 hq5=>?_⟩;refine ⟨_,rfl,.inr ⟨_,rfl,?_⟩⟩;refine ⟨q5,_,1,_,rfl,rfl,SqL.of zA2,rfl,?_⟩;exact ⟨_,rfl,q _ (s4.trans (Same.new hq5))⟩
end
end L2.W
namespace L2.W
open PySem My
noncomputable def ButS (p:Addr) (H H':Hp):Prop:=∀ b o,H b=some o→b≠p→H' b=some o
theorem ButS.trans {p:Addr}{H H1 H2:Hp} (a:ButS p H H1) (b:ButS p H1 H2):ButS p H H2:=fun c o e n=>b c o (a c o e n) n
theorem ButS.same {p:Addr}{H H1:Hp} (s:Same H H1):ButS p H H1:=fun c o e _=>s c o e
theorem ButS.eq {p:Addr}{H H1:Hp} (k:∀ b,b≠p→H1 b=H b):ButS p H H1:=fun c o e n=>by rw [k c n];exact e
theorem _root_.My.Src.up {H H':Hp}{p:Addr}{k:Int} (h:Src H p k) (s:Same H H'):Src H' p k:=let ⟨a,c,j,e,r⟩:=h;⟨a,c,j,s _ _ e,r⟩
theorem _root_.My.Src.nw {H:Hp}{p b:Addr}{k:Int} (h:Src H p k) (n:H b=none):b≠p:=let ⟨_,_,_,e,_⟩:=h;(zA6 e n).symm
theorem _root_.L2.Has.but {p:Addr}{H H':Hp}{v:V}{d:PyData} (h:Has (fun a=>a≠p) H v d) (b:ButS p H H'):Has (fun a=>a≠p) H' v d:=h.frame fun a o g e=>⟨g,b a o e g⟩
theorem _root_.L2.Has.np {p:Addr}{k:Int}{H H':Hp}{v:V}{d:PyData} (S:Src H p k) (h:Has (fun a=>H a=none) H' v d):Has (fun a=>a≠p) H' v d:=h.frame fun a o g e=>⟨S.nw g,e⟩
noncomputable def oddA (n:Str):List PyData:=[.tuple [.str n,.list []],.tuple [.str n,.list [.str "a",.str "a"]],.tuple [.str n,.list [.str "a",.str "B"]],.tuple [.str n,.list [.str "a",.none]],.tuple [.str n,.tuple [.str "a"]]]
noncomputable def oddB (n:Str):List PyData:=[.tuple [.str n,.str "a"],.tuple [.str n],.tuple [.str "Big",.list [.str "a"]],.tuple [.str "",.list [.str "a"]],.tuple [.none,.list [.str "a"]],.list [.str n,.list [.str "a"]],.str n]
noncomputable def oddC (n:Str):List PyData:=[.tuple [.str n,.list [.str "a"],.int 1],.tuple [.str n,.list [.list [.str "a"]]],.none]
noncomputable def odd (d:PyData):Bool:=!(pairB d && nameD (firstD d))
theorem odd_all (n:Str) (h:n = "p"∨n = "q"):(oddA n++oddB n++oddC n).all odd=true:=by
 rcases h with rfl | rfl <;> decide +kernel
noncomputable def spOdd:Sp:=fun vs H Q _=>∃ (p:Addr) (k:Int),vs=[.ref p]∧Src H p k∧k≤900000∧∀ v d H',Has (fun a=>a≠p) H' v d→odd d=true→Src H' p (k + 2)→ButS p H H'→Q v H'
section
variable {P:Program}{w:World}{K:PySem.W.Frag}{mg:Str→Option Value}{base:Heap}{CX:CXT}
theorem scOd:FnScope ["_law_source", "_law_name", "_law_odd_here"] ["_law_source"] (defScope sOdd):=⟨rfl,rfl,rfl,by decide +kernel,rfl,by decide +kernel,by decide +kernel⟩
theorem ok_odd {f fn:Addr}{fd fdn:FuncData} (hC:Calm CX) (F:Fun K "_law_odd" "_law_odd" sOdd f fd) (Dn:Def K mg "_law_next" sNext ["_law_source", "_law_many"] fn fdn) (Gn:FnOk P w K mg base CX 2 fn fdn ["_law_source", "_law_many"] spNext):FnOk P w K mg base CX 3 f fd ["_law_source"] spOdd:=by
 refine Fun.okC F scOd (fun vs H Q E h=>?_) (fun cdv A outer s H vs Q E hr h=>?_)
 ·obtain ⟨p,k,rfl,_⟩:=h;rfl
 ·obtain ⟨p,k,rfl,S0,hk,q⟩:=h;have nd:=scOd.nd
  refine ⟨_,zA3 (zAb (i:=1) nd rfl (Or.inl rfl) (zAs zAn (zAi (zA0 zAc (zA0 zAc zA1))) (zA8 Gn hr rfl Dn.at_ Dn.fn.kp Dn.bind .nil (passC hC) (zA0 (pv 0) (zA0 zA4 zA1))) (fun _ _=>rfl)))
     (zA3 (zAb (i:=2) nd rfl (Or.inl rfl) (zBs "_law_name" 1 9 (fun _=>pv 1)))
     (zA3 (zAb (i:=2) nd rfl (Or.inl rfl) (zAg zB9 (pv 2) (zBs "_law_name" 1 9 (fun _=>pv 1))))
     (zA3 (zAb (i:=2) nd rfl (Or.inl rfl) (zAg zB9 (pv 2) (zBs "_law_name" 1 9 (fun _=>pv 1))))
     (zA7 (zAd (zAs zAn (pv 2) (zA8 Gn hr rfl Dn.at_ Dn.fn.kp Dn.bind .nil (passC hC) (zA0 (pv 0) (zA0 zA4 zA1))) (fun _ _=>rfl))))))),?_⟩
  have small:∀ n:Nat,n≤1000→n≤sizeLine:=fun n h=>Zh (small1000 h);refine ⟨small 2 (by decide),fun l1 f1=>⟨_,rfl,p,2,k,rfl,S0.up (Same.new f1),by omega,by decide,by decide,fun r H1 r0 r1 S1 k1=>?_⟩⟩;obtain ⟨c,hc,hm⟩:=zCa ([.str "p",.str "q"]:List V) r0 r1;have n1:l1≠p:=S0.nw f1;have b1:ButS p H H1:=(ButS.same (Same.new f1)).trans (ButS.eq k1);refine ⟨l1,_,r,c,rfl,rfl,SqL.of (by rw [k1 l1 n1];exact zA2),hc,?_⟩;obtain ⟨n,rfl,hn⟩:∃ n,c=.str n∧(n = "p"∨n = "q"):=by
   simp only [Zk,Zf,or_false] at hm;rcases hm with rfl | rfl
   ·exact ⟨_,rfl,.inl rfl⟩
   ·exact ⟨_,rfl,.inr rfl⟩
  have z1:n.length≤1000:=by rcases hn with rfl | rfl <;> decide
  have z2:PyData.strOk n=true:=by rcases hn with rfl | rfl <;> decide +kernel
  refine ⟨n,.list (oddA n),rfl,z1,z2,by kernel_rfl,fun v2 H2 s2 h2=>?_⟩;obtain ⟨l2,y2,rfl,g2,hl2,_,hy2⟩:=(h2.np S1).list_inv;refine ⟨_,rfl,n,.list (oddB n),rfl,z1,z2,by kernel_rfl,fun v3 H3 s3 h3=>?_⟩;obtain ⟨l3,y3,rfl,g3,hl3,_,hy3⟩:=(h3.np (S1.up s2)).list_inv;have e2:y2.length=5:=hy2.length;have e3:y3.length=7:=hy3.length;refine ⟨l2,l3,y2,y3,rfl,rfl,s3 _ _ hl2,hl3,by rw [e2,e3];exact small _ (by decide),fun l4 f4=>?_⟩;have s4:Same H1 (upd H3 l4 (.lst (y2++y3))):=(s2.trans s3).trans (Same.new f4);have hl4:(upd H3 l4 (.lst (y2++y3))) l4=some (.lst (y2++y3)):=zA2;have hy4:HasAll (fun a=>a≠p) (upd H3 l4 (.lst (y2++y3))) (y2++y3) (oddA n++oddB n):=((hy2.mono s3).mono (Same.new f4)).append (hy3.mono (Same.new f4));have n4:l4≠p:=(S1.up (s2.trans s3)).nw f4;generalize upd H3 l4 (.lst (y2++y3))=H4 at s4 hl4 hy4 ⊢;refine ⟨_,rfl,n,.list (oddC n),rfl,z1,z2,by kernel_rfl,fun v5 H5 s5 h5=>?_⟩;obtain ⟨l5,y5,rfl,g5,hl5,_,hy5⟩:=(h5.np (S1.up s4)).list_inv;have e5:y5.length=3:=hy5.length;refine ⟨l4,l5,_,y5,rfl,rfl,s5 _ _ hl4,hl5,by rw [Zb,e2,e3,e5];exact small _ (by decide),fun l6 f6=>?_⟩;have s6:Same H1 (upd H5 l6 (.lst (y2++y3++y5))):=(s4.trans s5).trans (Same.new f6);have hl6:(upd H5 l6 (.lst (y2++y3++y5))) l6=some (.lst (y2++y3++y5)):=zA2;have hy6:HasAll (fun a=>a≠p) (upd H5 l6 (.lst (y2++y3++y5))) (y2++y3++y5) (oddA n++oddB n++oddC n):=((hy4.mono s5).mono (Same.new f6)).append (hy5.mono (Same.new f6));have n6:l6≠p:=(S1.up (s4.trans s5)).nw f6;generalize upd H5 l6 (.lst (y2++y3++y5))=H6 at s6 hl6 hy6 ⊢;refine ⟨_,rfl,_,rfl,p,15,k + 1,rfl,S1.up s6,by omega,by decide,by decide,fun r2 H7 r20 r21 S7 k7=>?_⟩;obtain ⟨v,hv,hvm⟩:=zCa (y2++y3++y5) r20 (by rw [Zb,Zb,e2,e3,e5];exact r21);refine ⟨l6,_,r2,v,rfl,rfl,SqL.of (by rw [k7 l6 n6];exact hl6),hv,?_⟩;obtain ⟨j,hj⟩:=List.getElem?_of_mem hvm;obtain ⟨d,hd,hh⟩:=hy6.get hj;exact q v d H7 (hh.but (ButS.eq k7)) (List.all_eq_true.mp (odd_all n hn) d (Za hd)) (S7.mono (by omega)) ((b1.trans (ButS.same s6)).trans (ButS.eq k7))
end
end L2.W
namespace L2.W
open PySem My
theorem cut_from {xs:List V}{a:Nat} (h:a≤xs.length):cutV xs (some (a:Int)) none=xs.drop a:=by
 unfold cutV HT.sIx;have:¬ ((a:Int) < 0):=by omega
 simp [this,Nat.min_eq_left h,List.take_of_length_le]
theorem cut_to {xs:List V}{a:Nat} (h:a≤xs.length):cutV xs none (some (a:Int))=xs.take a:=by
 unfold cutV HT.sIx;have:¬ ((a:Int) < 0):=by omega
 simp [this,Nat.min_eq_left h]
theorem mid {K:PySem.W.Frag}{σ : St}{H:Hp}{l:Addr}{xs:List V}{a:Nat}{tv:TE}{Q:VK} (h1 : σ[1]? = some (some (.ref l))) (h3 : σ[2]? = some (some (.int (a:Nat)))) (ha:a≤xs.length) (hx:xs.length≤900) (hl:H l=some (.lst xs))
  (hv:∀ p1,H p1=none→∀ R:VK,(∀ v H1,H1 l=some (.lst xs)→H1 p1=some (.lst (xs.take a))→(∀ q H2,Same H1 H2→H2 q=some (.lst (xs.take a++v :: xs.drop a))→Q (.ref q) H2)→R v H1)→tv σ (upd H p1 (.lst (xs.take a))) R) :
  tOp rCat (tOp rCat (tSl (rSlL K) (tVar 1) tNoPart (tPart (tVar 2))) (tLst (tCons tv tNil))) (tSl (rSlL K) (tVar 1) (tPart (tVar 2)) tNoPart) σ H Q:=by
 have small:∀ n:Nat,n≤1000→n≤sizeLine:=fun n h=>Zh (small1000 h);refine ⟨_,h1,_,h3,(a:Int),rfl,l,xs,rfl,SqL.of hl,fun p1 f1=>?_⟩;rw [cut_to (xs:=xs) (a:=a) ha];refine hv p1 f1 _ fun v H1 hl1 hp1 k=>⟨by show 1≤sizeLine;exact small 1 (by decide),fun p2 f2=>?_⟩;have s2:Same H1 (upd H1 p2 (.lst [v])):=Same.new f2;have h2:(upd H1 p2 (.lst [v])) p2=some (.lst [v]):=zA2;generalize upd H1 p2 (.lst [v])=H2 at s2 h2 ⊢;have tl:=Zl a xs;refine ⟨p1,p2,_,_,rfl,rfl,s2 _ _ hp1,h2,by show _ + 1≤_;exact small _ (by omega),fun p4 f4=>?_⟩;have s4:=s2.trans (Same.new (o:=.lst (xs.take a++[v])) f4);have h4:(upd H2 p4 (.lst (xs.take a++[v]))) p4=some (.lst (xs.take a++[v])):=zA2;generalize upd H2 p4 (.lst (xs.take a++[v]))=H4 at s4 h4 ⊢;refine ⟨_,h1,_,h3,(a:Int),rfl,l,xs,rfl,SqL.of (s4 _ _ hl1),fun p5 f5=>?_⟩;rw [cut_from (xs:=xs) (a:=a) ha];have s5:=s4.trans (Same.new (o:=.lst (xs.drop a)) f5);have h5:(upd H4 p5 (.lst (xs.drop a))) p5=some (.lst (xs.drop a)):=zA2;have h45:=(Same.new (o:=.lst (xs.drop a)) f5) _ _ h4;generalize upd H4 p5 (.lst (xs.drop a))=H5 at s5 h5 h45 ⊢;refine ⟨p4,p5,_,_,rfl,rfl,h45,h5,by rw [Zb,List.length_drop];exact small _ (by show _ + 1 + _≤_;omega),fun p6 f6=>k p6 _ (s5.trans (Same.new f6)) ?_⟩;rw [zA2,List.append_assoc];rfl
theorem zCz:∀ (st:List Str),PyData.depthAll (st.map PyData.str)=0
 | []=>rfl
 | x :: r=>by
  show max 0 (PyData.depthAll (r.map PyData.str))=0;rw [zCz r];rfl
theorem zC8:∀ (fs:List (Str×List Str)),PyData.depthAll (fs.map fieldD)≤2
 | []=>by decide
 | f :: r=>by
  show max (fieldD f).depth (PyData.depthAll (r.map fieldD))≤2;have:=zC8 r;have e:(fieldD f).depth=2:=by
   show max 0 (max (PyData.depthAll (f.2.map PyData.str) + 1) 0) + 1=2;rw [zCz];rfl
  omega
theorem zDh (fs:List (Str×List Str)):(PyData.list (fs.map fieldD)).depth≤64:=by
 show PyData.depthAll (fs.map fieldD) + 1≤64;have:=zC8 fs;omega
theorem zC1:∀ ks:List Str,strsOf (ks.map PyData.str)=ks
 | []=>rfl
 | k :: r=>by
  show k :: strsOf (r.map PyData.str)=k :: r;rw [zC1 r]
theorem ins_odd {ds:List PyData}{d:PyData} (hm:d∈ds) (h:odd d=true):fieldsB (.list ds)=false:=by
 show (ds.all pairB && unlikeB (ds.map firstD))=false;have z:(pairB d && nameD (firstD d))=false:=by unfold odd at h;rwa [Bool.not_eq_true'] at h
 cases e:pairB d with
 | false=>rw [List.all_eq_false.mpr ⟨d,hm,by rw [e];decide⟩];rfl
 | true =>
  rw [e,Ye] at z;have:unlikeB (ds.map firstD)=false:=by
   unfold unlikeB;rw [List.all_eq_false.mpr ⟨firstD d,List.mem_map.mpr ⟨d,hm,rfl⟩,by rw [z];decide⟩];rfl
  rw [this,Bool.and_false]
theorem ins_dup {fs:List (Str×List Str)}{f:Str×List Str}{z:PyData}{a:Nat} (hf:f∈fs):fieldsB (.list ((fs.map fieldD).take a++.tuple [.str f.1,z] :: (fs.map fieldD).drop a))=false:=by
 show (_ && unlikeB _)=false;have e:((fs.map fieldD).take a++.tuple [.str f.1,z] :: (fs.map fieldD).drop a).map firstD=((fs.map (·.1)).take a++f.1 :: (fs.map (·.1)).drop a).map PyData.str:=by
  rw [Zo,Zo,Zj,Zj,List.map_take,List.map_drop,List.map_take,List.map_drop,Zz,Zz];rfl
 have n:¬ ((fs.map (·.1)).take a++f.1 :: (fs.map (·.1)).drop a).Nodup:=fun nd=>by
  have hm:f.1∈fs.map (·.1):=List.mem_map.mpr ⟨f,hf,rfl⟩;rw [← List.take_append_drop a (fs.map (·.1))] at hm;have q:=List.nodup_append.mp nd;rcases List.mem_append.mp hm with y | y
  ·exact q.2.2 _ y _ Zg rfl
  ·exact (List.nodup_cons.mp q.2.1).1 y
 rw [e];unfold unlikeB;rw [zC1,decide_eq_false n,Bool.and_false,Bool.and_false]
theorem strs_of {G:Addr→Prop}{H:Hp}:∀ {xs:List V}{ks:List Str},HasAll G H xs (ks.map PyData.str)→xs=ks.map V.str
 | _,[],.nil=>rfl
 | _,k :: ks,.cons h r=>by
  cases h;rw [strs_of r];rfl
theorem k_but {R P:Hp→Prop}{B:Prop} (t:∀ Hx,P Hx→R Hx) (h:(∀ Hx,P Hx→R Hx)→B):B:=h t
theorem pair_at {p:Addr}{H:Hp}{x:V}{f:Str×List Str} (h:Has (fun a=>a≠p) H x (fieldD f)):∃ t l,x=.ref t∧t≠p∧H t=some (.tup [.str f.1,.ref l])∧l≠p∧H l=some (.lst (f.2.map V.str)):=by
 unfold fieldD at h;cases h with
 | tup g e _ r =>
  cases r with
  | cons r1 r =>
   cases r with
   | cons r2 r =>
    cases r;cases r1;cases r2 with
    | lst g2 e2 _ r3 =>
     refine ⟨_,_,rfl,g,e,g2,?_⟩;rw [e2,strs_of r3]
theorem dict_of {p:Addr}{H:Hp}:∀ {fs:List (Str×List Str)}{xs:List V},HasAll (fun a=>a≠p) H xs (fs.map fieldD)→∃ (ts:List Addr) (kvs:List (Key×V)),xs=ts.map V.ref∧kvs.map (·.1)=fs.map (fun f=>Sum.inr f.1)∧kvs.length=ts.length ∧
  ∀ (i:Nat) (t:Addr) (k:Key) (v:V),ts[i]? = some t→kvs[i]? = some (k,v)→H t=some (.tup [kV k,v])
 | [],_,.nil=>⟨[],[],rfl,rfl,rfl,fun i t k v h=>by simp at h⟩
 | f :: fs,_,.cons h r=>by
  obtain ⟨ts,kvs,rfl,e2,e3,e4⟩:=dict_of r;obtain ⟨t,l,rfl,_,ht,_⟩:=pair_at h;refine ⟨t :: ts,(Sum.inr f.1,.ref l) :: kvs,rfl,by rw [Zj,e2];rfl,by rw [Z8,Z8,e3],fun i t' k v h1 h2=>?_⟩;cases i with
  | zero=>cases h1;cases h2;exact ht
  | succ i=>exact e4 i t' k v h1 h2
noncomputable def spBadF:Sp:=fun vs H Q _=>∃ (p lf:Addr) (fs:List (Str×List Str)) (k:Int),vs=[.ref p,.ref lf]∧Src H p k∧k≤800000∧Has (fun a=>a≠p) H (.ref lf) (.list (fs.map fieldD))∧FieldsOk fs ∧
 ∀ v d H',HasF H' v d→fieldsB d=false→Src H' p (k + 6)→ButS p H H'→Q v H'
section
variable {P:Program}{w:World}{K:PySem.W.Frag}{mg:Str→Option Value}{base:Heap}{CX:CXT}
theorem scBf:FnScope ["_law_source", "_law_fields_here", "_law_at"] ["_law_source", "_law_fields_here"] (defScope sBadFields):=⟨rfl,rfl,rfl,by decide +kernel,rfl,by decide +kernel,by decide +kernel⟩
theorem ok_badF {f fn fo:Addr}{fd fdn fdo:FuncData} (hC:Calm CX) (T:Tops K mg) (F:Fun K "_law_bad_fields" "_law_bad_fields" sBadFields f fd) (Dn:Def K mg "_law_next" sNext ["_law_source", "_law_many"] fn fdn) (Gn:FnOk P w K mg base CX 2 fn fdn ["_law_source", "_law_many"] spNext)
  (Do:Def K mg "_law_odd" sOdd ["_law_source"] fo fdo) (Go:FnOk P w K mg base CX 3 fo fdo ["_law_source"] spOdd):FnOk P w K mg base CX 4 f fd ["_law_source", "_law_fields_here"] spBadF:=by
 refine Fun.okC F scBf (fun vs H Q E h=>?_) (fun cdv A outer s H vs Q E hr h=>?_)
 ·obtain ⟨p,lf,fs,k,rfl,_⟩:=h;rfl
 ·obtain ⟨p,lf,fs,k,rfl,S0,hk,hd,fok,q⟩:=h;have nd:=scBf.nd;have hr2:=hr.mono (show 2≤3 by decide)
  refine ⟨_,zA3 (zAb (i:=2) nd rfl (Or.inl rfl) (zA8 Gn hr2 rfl Dn.at_ Dn.fn.kp Dn.bind .nil (passC hC) (zA0 (pv 0) (zA0 (zAg zBc (zA5 zAp rfl T.len PySem.boot_len (zA0 (pv 1) zA1)) zA4) zA1))))
     (zA3 (zB0 (PW.pt (pw_and (zAl (op_neD hr.units) (pv 1) (zAi zA1) (nomark _)) (zCf (zAl zCq (zA8 Gn hr2 rfl Dn.at_ Dn.fn.kp Dn.bind .nil (passC hC) (zA0 (pv 0) (zA0 zA4 zA1))) zA4 (nomark _)))))
     (zA7 (zAd (zAg zB9 (zAg zB9 (zB8 zCe (pv 1) zCh (zBi (pv 2))) (zAi (zA0 (zB5 (zA0 (zAs zBy (zAs zAn (pv 1) (zA8 Gn hr2 rfl Dn.at_ Dn.fn.kp Dn.bind .nil (passC hC) (zA0 (pv 0) (zA0 (zA5 zAp rfl T.len PySem.boot_len (zA0 (pv 1) zA1)) zA1))) (fun _ _=>rfl)) zA4 (fun _ _=>rfl)) (zA0 (zAi (zA0 zAc zA1)) zA1))) zA1))) (zB8 zCe (pv 1) (zBi (pv 2)) zCh)))) zAf)
     (zA3 (zB0 (zAl zCq (zA8 Gn hr2 rfl Dn.at_ Dn.fn.kp Dn.bind .nil (passC hC) (zA0 (pv 0) (zA0 zA4 zA1))) zA4 (nomark _))
     (zA7 (zAd (zAs zAn (zAi (zA0 zBq (zA0 (zAy zDk rfl T.tuple PyProof.Rows.boot_tuple (zA0 (pv 1) zA1)) (zA0 (zAy (zCp (K:=K) rfl) rfl T.dict PyProof.Rows.boot_dict (zA0 (pv 1) zA1)) (zA0 zAc (zA0 zA4 zA1)))))) (zA8 Gn hr2 rfl Dn.at_ Dn.fn.kp Dn.bind .nil (passC hC) (zA0 (pv 0) (zA0 zA4 zA1))) (fun _ _=>rfl)))) zAf)
     (zA7 (zAd (zAg zB9 (zAg zB9 (zB8 zCe (pv 1) zCh (zBi (pv 2))) (zAi (zA0 (zA8 Go hr rfl Do.at_ Do.fn.kp Do.bind .nil (passC hC) (zA0 (pv 0) zA1)) zA1))) (zB8 zCe (pv 1) (zBi (pv 2)) zCh)))))),?_⟩
  have small:∀ n:Nat,n≤1000→n≤sizeLine:=fun n h=>Zh (small1000 h);obtain ⟨lf',xs,e,nlf,hl,hz,hx⟩:=hd.list_inv;cases e;have xl:xs.length=fs.length:=by rw [hx.length,Z1]
  have f3:=fok.le;refine ⟨_,rfl,_,rfl,lf,xs,rfl,.inl (SqL.of hl),_,_,rfl,rfl,p,_,k,rfl,S0,by omega,by omega,by omega,fun r H1 r0 r1 S1 k1=>?_⟩;obtain ⟨a,rfl⟩:∃ a:Nat,r=a:=⟨r.toNat,by omega⟩;have ha:a≤xs.length:=by omega
  have b1:ButS p H H1:=ButS.eq k1;have hl1:=b1 _ _ hl nlf;have hx1:HasAll (fun a=>a≠p) H1 xs (fs.map fieldD):=hx.frame fun b o g e=>⟨g,b1 b o e g⟩;have hd1:=hd.but b1;have fin:∀ {H2 H3:Hp}{v:V}{d:PyData}{g:Addr},ButS p H1 H2→Src H2 p (k + 5)→Has (fun a=>a≠p) H2 v d→fieldsB (.list ((fs.map fieldD).take a++d :: (fs.map fieldD).drop a))=false→Same H2 H3→H3 g=some (.lst (xs.take a++v :: xs.drop a))→Q (.ref g) H3:=fun {H2 H3 v d g} b2 S2 hv fb s3 hg=>by
   have hx2:HasAll Any H3 xs (fs.map fieldD):=(hx1.frame fun b o g e=>⟨trivial,b2 b o e g⟩).mono s3;refine q _ _ H3 (.inl (.lst trivial hg ?_ ((hx2.take a).append (.cons (hv.any.mono s3) (hx2.drop a))))) fb ((S2.up s3).mono (by omega)) ((b1.trans b2).trans (ButS.same s3));rw [Zb,Y7,Z8,List.length_drop];omega
  have oddy:∀ {H2:Hp},ButS p H1 H2→Src H2 p (k + 3)→tOp rCat (tOp rCat (tSl (rSlL K) (tVar 1) tNoPart (tPart (tVar 2))) (tLst (tCons (tCall spOdd [] E0 (tCons (tVar 0) tNil)) tNil))) (tSl (rSlL K) (tVar 1) (tPart (tVar 2)) tNoPart) [some (.ref p),some (.ref lf),some (.int (a:Nat))] H2 Q:=fun {H2} b2 S2=>by
   refine mid rfl rfl ha (by omega) (b2 _ _ hl1 nlf) fun p1 n1 R hR=>?_;have np1:=S2.nw n1;refine ⟨_,rfl,p,k + 3,rfl,S2.up (Same.new n1),by omega,fun v d H4 hv od S4 b4=>?_⟩;have b24:ButS p H2 H4:=(ButS.same (Same.new n1)).trans b4;exact hR _ _ (b24 _ _ (b2 _ _ hl1 nlf) nlf) (b4 _ _ zA2 np1) fun g H5 s5 hg=>fin (b2.trans b24) (S4.mono (by omega)) hv (ins_odd (Zi _ Zg) od) s5 hg
  refine' k_but (P:=fun Hx=>ButS p H1 Hx∧Src Hx p (k + 2)) _ (fun tail=>_);rotate_left 2
  ·refine ⟨_,rfl,by show 0≤sizeLine;exact Zv _,fun l0 f0=>?_⟩;have s0:Same H1 (upd H1 l0 (.lst [])):=Same.new f0;have e0:(upd H1 l0 (.lst [])) l0=some (.lst []):=zA2;generalize upd H1 l0 (.lst [])=H2 at s0 e0 ⊢;have S2:=S1.up s0;have b2:ButS p H1 H2:=ButS.same s0;refine ⟨.list (fs.map fieldD),.list [],hd1.any.mono s0,.lst trivial e0 (Zv _) .nil,zDh fs,by decide,?_⟩;cases fs with
   | nil=>exact ⟨_,rfl,iteF (iteF (tail H2 ⟨b2,S2.mono (by omega)⟩))⟩
   | cons f0 fs0 =>
    refine ⟨_,rfl,iteT ?_⟩;refine ⟨_,rfl,p,8,k + 1,rfl,S2,by omega,by decide,by decide,fun r2 H3 _ _ S3 k3=>⟨rfl,_,rfl,?_⟩⟩;have b3:ButS p H1 H3:=b2.trans (ButS.eq k3);refine ite2 (fun _=>?_) (fun _=>tail H3 ⟨b3,S3.mono (by omega)⟩);refine mid rfl rfl ha (by omega) (b3 _ _ hl1 nlf) fun p1 n1 R hR=>?_;have np1:=S3.nw n1;have s4:Same H3 (upd H3 p1 (.lst (xs.take a))):=Same.new n1;have e1:(upd H3 p1 (.lst (xs.take a))) p1=some (.lst (xs.take a)):=zA2;generalize upd H3 p1 (.lst (xs.take a))=H4 at s4 e1 ⊢;have b4:ButS p H1 H4:=b3.trans (ButS.same s4);refine ⟨_,rfl,_,rfl,_,rfl,lf,xs,rfl,.inl (SqL.of (b4 _ _ hl1 nlf)),p,_,k + 2,rfl,(S3.up s4).mono (by omega),by omega,by rw [xl,Z8];omega,by omega,fun r5 H5 r50 r51 S5 k5=>?_⟩;have b5:ButS p H1 H5:=b4.trans (ButS.eq k5);obtain ⟨x,hxa,hxm⟩:=zCa xs r50 r51;obtain ⟨j,hj⟩:=List.getElem?_of_mem hxm;obtain ⟨d,hd5,hh⟩:=hx1.get hj;obtain ⟨f,hf,rfl⟩:=List.mem_map.mp (Za hd5);obtain ⟨t,l,rfl,nt,ht,_⟩:=pair_at hh;refine ⟨lf,xs,r5,_,rfl,rfl,SqL.of (b5 _ _ hl1 nlf),hxa,t,_,0,_,rfl,rfl,SqT.of (b5 _ _ ht nt),rfl,?_⟩;refine ⟨by show 1≤sizeLine;exact small 1 (by decide),fun l6 f6=>⟨by show 2≤sizeLine;exact small 2 (by decide),fun t7 f7=>?_⟩⟩;have s7:Same H5 (upd (upd H5 l6 (.lst [.str "a"])) t7 (.tup [.str f.1,.ref l6])):=(Same.new f6).trans (Same.new f7);have n6:l6≠p:=S5.nw f6;have n7:t7≠p:=(S5.up (Same.new f6)).nw f7;have g6:(upd (upd H5 l6 (.lst [.str "a"])) t7 (.tup [.str f.1,.ref l6])) l6=some (.lst [.str "a"]):=(Same.new f7) _ _ zA2;have g7:(upd (upd H5 l6 (.lst [.str "a"])) t7 (.tup [.str f.1,.ref l6])) t7=some (.tup [.str f.1,.ref l6]):=zA2;generalize upd (upd H5 l6 (.lst [.str "a"])) t7 (.tup [.str f.1,.ref l6])=H7 at s7 g6 g7 ⊢;have b7:ButS p H1 H7:=b5.trans (ButS.same s7);have of:=(fok.ok f hf).1;refine hR _ _ (b7 _ _ hl1 nlf) ((ButS.eq k5).trans (ButS.same s7) _ _ e1 np1) fun g H8 s8 hg=>fin b7 ((S5.up s7).mono (by omega)) (.tup n7 g7 (by show 2≤1000;decide) (.cons (.str f.1 (by have:=of.2.2;omega) of.2.1) (.cons (.lst n6 g6 (by show 1≤1000;decide) (.cons (.str "a" (by decide) (by decide +kernel)) .nil)) .nil))) (ins_dup (z:=.list [.str "a"]) hf) s8 hg
  ·rintro H2 ⟨b2,S2⟩;refine ⟨_,rfl,p,8,k + 2,rfl,S2,by omega,by decide,by decide,fun r3 H3 _ _ S3 k3=>⟨rfl,_,rfl,?_⟩⟩;have b3:ButS p H1 H3:=b2.trans (ButS.eq k3);refine ite2 (fun _=>?_) (fun _=>oddy b3 (S3.mono (by omega)));have hl3:=b3 _ _ hl1 nlf;have hx3:HasAll (fun a=>a≠p) H3 xs (fs.map fieldD):=hx1.frame fun b o g e=>⟨g,b3 b o e g⟩;refine ⟨_,rfl,lf,xs,rfl,.inl ⟨SqL.of hl3,fun t4 f4=>?_⟩⟩;have s4:Same H3 (upd H3 t4 (.tup xs)):=Same.new f4;have e4:(upd H3 t4 (.tup xs)) t4=some (.tup xs):=zA2;have n4:=S3.nw f4;generalize upd H3 t4 (.tup xs)=H4 at s4 e4 ⊢;obtain ⟨ts,kvs,rfl,ek,el,et⟩:=dict_of (hx3.mono s4);refine ⟨_,rfl,lf,ts,kvs,rfl,SqL.of (s4 _ _ hl3),rfl,?_,el,et,fun d5 f5=>?_⟩
   ·rw [ek,show (fs.map fun f=>(Sum.inr f.1:Key))=(fs.map (·.1)).map Sum.inr by rw [Zz];rfl];exact fok.nd.map _ fun x y n e=>n (Sum.inr.inj e)
   have s5:Same H4 (upd H4 d5 (.dK kvs)):=Same.new f5;have e5:(upd H4 d5 (.dK kvs)) d5=some (.dK kvs):=zA2;have n5:=(S3.up s4).nw f5;generalize upd H4 d5 (.dK kvs)=H5 at s5 e5 ⊢;refine ⟨by show 5≤sizeLine;exact small 5 (by decide),fun l6 f6=>?_⟩;have s6:Same H5 (upd H5 l6 (.lst [.non,.ref t4,.ref d5,.str "",.int 0])):=Same.new f6;have e6:(upd H5 l6 (.lst [.non,.ref t4,.ref d5,.str "",.int 0])) l6=some (.lst [.non,.ref t4,.ref d5,.str "",.int 0]):=zA2;have n6:=(S3.up (s4.trans s5)).nw f6;generalize upd H5 l6 (.lst [.non,.ref t4,.ref d5,.str "",.int 0])=H6 at s6 e6 ⊢;have s46:=(s4.trans s5).trans s6;refine ⟨_,rfl,p,5,k + 3,rfl,(S3.up s46).mono (by omega),by omega,by decide,by decide,fun r7 H7 r70 r71 S7 k7=>?_⟩;have b7:ButS p H1 H7:=(b3.trans (ButS.same s46)).trans (ButS.eq k7);obtain ⟨x,hxa,hxm⟩:=zCa ([.non,.ref t4,.ref d5,.str "",.int 0]:List V) r70 r71;refine ⟨l6,_,r7,x,rfl,rfl,SqL.of (by rw [k7 l6 n6];exact e6),hxa,?_⟩;have fin2:∀ d,HasF H7 x d→fieldsB d=false→Q x H7:=fun d h1 h2=>q x d H7 h1 h2 (S7.mono (by omega)) (b1.trans b7);simp only [Zk,Zf,or_false] at hxm;rcases hxm with rfl | rfl | rfl | rfl | rfl
   ·exact fin2 .none (.inl .non) rfl
   ·refine fin2 (.tuple (fs.map fieldD)) (.inl (.tup trivial (by rw [k7 t4 n4];exact s6 _ _ (s5 _ _ e4)) hz (hx1.frame fun b o g e=>⟨trivial,b7 b o e g⟩))) rfl
   ·exact fin2 .none (.inr ⟨d5,kvs,rfl,by rw [k7 d5 n5];exact s6 _ _ e5,rfl⟩) rfl
   ·exact fin2 (.str "") (.inl (.str "" (by decide) (by decide +kernel))) rfl
   ·exact fin2 (.int 0) (.inl (.int 0)) rfl
end
end L2.W
namespace L2.W
open PySem My
noncomputable def strD:List PyData:=[.str "",.str "Name",.str "abcdefghi",.str "a b",.int 7,.bool true,.list [.str "a"],.tuple [.str "a"],.str "a.0"]
noncomputable def manyD:List PyData:=[.tuple [.str "m",.list [.str "a",.str "b",.str "c"]],.tuple [.str "n",.list [.str "a",.str "b",.str "c"]]]
theorem str_no:∀ d∈strD,nameD d=false:=by
 intro d hd;have z:strD.all (fun d=>!nameD d)=true:=by decide +kernel
 have:=List.all_eq_true.mp z d hd
 rwa [Bool.not_eq_true'] at this
noncomputable def spBad:Sp:=fun vs H Q _=>∃ (p lf:Addr) (n:Str) (vo:V) (od:PyData) (fs:List (Str×List Str)) (k:Int),vs=[.ref p,.str n,.ref lf,vo]∧Src H p k∧k≤700000∧nameOk n∧Has (fun a=>a≠p) H (.ref lf) (.list (fs.map fieldD))∧FieldsOk fs∧Has (fun a=>a≠p) H vo od ∧
 ∀ t a b c H',H' t=some (.tup [a,b,c])→NoKd H' a b c→Src H' p (k + 10)→ButS p H H'→Q (.ref t) H'
section
variable {P:Program}{w:World}{K:PySem.W.Frag}{mg:Str→Option Value}{base:Heap}{CX:CXT}
theorem scBd:FnScope ["_law_source", "_law_name", "_law_fields_here", "_law_owner", "_law_strange", "_law_way", "_law_many"] ["_law_source", "_law_name", "_law_fields_here", "_law_owner"] (defScope sBad):=⟨rfl,rfl,rfl,by decide +kernel,rfl,by decide +kernel,by decide +kernel⟩
theorem ok_bad {f fn fo fb:Addr}{fd fdn fdo fdb:FuncData} (hC:Calm CX) (F:Fun K "_law_bad" "_law_bad" sBad f fd) (Dn:Def K mg "_law_next" sNext ["_law_source", "_law_many"] fn fdn) (Gn:FnOk P w K mg base CX 2 fn fdn ["_law_source", "_law_many"] spNext)
  (Do:Def K mg "_law_odd" sOdd ["_law_source"] fo fdo) (Go:FnOk P w K mg base CX 3 fo fdo ["_law_source"] spOdd) (Db:Def K mg "_law_bad_fields" sBadFields ["_law_source", "_law_fields_here"] fb fdb) (Gb:FnOk P w K mg base CX 4 fb fdb ["_law_source", "_law_fields_here"] spBadF) :
  FnOk P w K mg base CX 5 f fd ["_law_source", "_law_name", "_law_fields_here", "_law_owner"] spBad:=by
 refine Fun.okC F scBd (fun vs H Q E h=>?_) (fun cdv A outer s H vs Q E hr h=>?_)
 ·obtain ⟨p,lf,n,vo,od,fs,k,rfl,_⟩:=h;rfl
 ·obtain ⟨p,lf,n,vo,od,fs,k,rfl,S0,hk,on,hd,fok,ho,q⟩:=h;have nd:=scBd.nd;have hr2:=hr.mono (show 2≤4 by decide);have hr3:=hr.mono (show 3≤4 by decide)
  refine ⟨_,zA3 (zAb (i:=4) nd rfl (Or.inl rfl) (zAs zAn (zD4 (d:=.list strD) 9 (by kernel_rfl)) (zA8 Gn hr2 rfl Dn.at_ Dn.fn.kp Dn.bind .nil (passC hC) (zA0 (pv 0) (zA0 zA4 zA1))) (fun _ _=>rfl)))
     (zA3 (zAb (i:=5) nd rfl (Or.inl rfl) (zA8 Gn hr2 rfl Dn.at_ Dn.fn.kp Dn.bind .nil (passC hC) (zA0 (pv 0) (zA0 zA4 zA1))))
     (zA3 (zB0 (zAl zCq (pv 5) zA4 (nomark _))
     (zA7 (zAd (zB5 (zA0 (zAs zAn (zAi (zA0 (pv 4) (zA0 zBq zA1))) (zA8 Gn hr2 rfl Dn.at_ Dn.fn.kp Dn.bind .nil (passC hC) (zA0 (pv 0) (zA0 zA4 zA1))) (fun _ _=>rfl)) (zA0 (pv 2) (zA0 (pv 3) zA1)))))) zAf)
     (zA3 (zB0 (zAl zCq (pv 5) zA4 (nomark _))
     (zA7 (zAd (zB5 (zA0 (pv 1) (zA0 (pv 2) (zA0 (zAs zAn (zAi (zA0 (pv 4) (zA0 (pv 1) zA1))) (zA8 Gn hr2 rfl Dn.at_ Dn.fn.kp Dn.bind .nil (passC hC) (zA0 (pv 0) (zA0 zA4 zA1))) (fun _ _=>rfl)) zA1)))))) zAf)
     (zA3 (zB0 (zAl zCq (pv 5) zA4 (nomark _))
     (zA7 (zAd (zB5 (zA0 (pv 1) (zA0 (zA8 Gb hr rfl Db.at_ Db.fn.kp Db.bind .nil (passC hC) (zA0 (pv 0) (zA0 (pv 2) zA1))) (zA0 (pv 3) zA1)))))) zAf)
     (zA3 (zAb (i:=6) nd rfl (Or.inl rfl) (zD4 (d:=.list manyD) 9 (by kernel_rfl)))
     (zA7 (zAd (zB5 (zA0 (pv 1) (zA0 (zAg zB9 (pv 6) (zAi (zA0 (zA8 Go hr3 rfl Do.at_ Do.fn.kp Do.bind .nil (passC hC) (zA0 (pv 0) zA1)) zA1))) (zA0 (pv 3) zA1))))))))))),?_⟩
  have small:∀ n:Nat,n≤1000→n≤sizeLine:=fun n h=>Zh (small1000 h);have hn:∀ {G:Addr→Prop}{H:Hp},Has G H (.str n) (.str n):=.str n (by have:=on.2.2;omega) on.2.1;refine fun v1 H1 s1 h1=>?_;obtain ⟨l1,y1,rfl,g1,hl1,_,hy1⟩:=(h1.np S0).list_inv;refine ⟨_,rfl,p,9,k,rfl,S0.up s1,by omega,by decide,by decide,fun r2 H2 r20 r21 S2 k2=>?_⟩;have y9:y1.length=9:=hy1.length;obtain ⟨vs,hxa,hxm⟩:=zCa y1 r20 (by rw [y9];exact r21);obtain ⟨j,hj⟩:=List.getElem?_of_mem hxm;obtain ⟨sd,hsd,hs⟩:=hy1.get hj;have b2:ButS p H H2:=(ButS.same s1).trans (ButS.eq k2);refine ⟨l1,y1,r2,vs,rfl,rfl,SqL.of (by rw [k2 l1 g1];exact hl1),hxa,?_⟩;have hs2:=hs.but (ButS.eq k2);have sno:=str_no sd (Za hsd);have vne:vs≠.non:=by
   rintro rfl;cases hs;have:=Za hsd;simp [strD] at this
  refine ⟨_,rfl,p,4,k + 1,rfl,S2,by omega,by decide,by decide,fun r3 H3 r30 r31 S3 k3=>?_⟩;have b3:ButS p H H3:=b2.trans (ButS.eq k3);have hs3:=hs2.but (ButS.eq k3);have pair:∀ {a b:V},∀ {Q2:VK},(∀ v H4,(v=a∨v=b)→Src H4 p (k + 3)→ButS p H3 H4→Q2 v H4)→∀ l4 (f4:H3 l4=none),∃ x,([some (.ref p),some (.str n),some (.ref lf),some vo,some vs,some (.int r3),none]:St)[0]? = some (some x)∧spNext ([x,.int 2]++[]) (upd H3 l4 (.lst [a,b])) (fun r H5=>∃ p xs i v,V.ref l4=.ref p∧r=.int i∧SqL K H5 p xs∧atI xs i=some v∧Q2 v H5) (E0 []):=fun {a b Q2} hq l4 f4=>by
   refine ⟨_,rfl,p,2,k + 2,rfl,(S3.up (Same.new f4)).mono (by omega),by omega,by decide,by decide,fun r5 H5 r50 r51 S5 k5=>?_⟩;obtain ⟨v,hva,hvm⟩:=zCa ([a,b]:List V) r50 r51;refine ⟨l4,_,r5,v,rfl,rfl,SqL.of (by rw [k5 l4 (S3.nw f4)];exact zA2),hva,hq v H5 (by simpa using hvm) (S5.mono (by omega)) ((ButS.same (Same.new f4)).trans (ButS.eq k5))⟩
  have tup:∀ {H4:Hp}{a b c:V},ButS p H H4→Src H4 p (k + 10)→NoKd H4 a b c→3≤sizeLine∧∀ t,H4 t=none→Q (.ref t) (upd H4 t (.tup [a,b,c])):=fun {H4 a b c} b4 S4 nk=>⟨small 3 (by decide),fun t ht=>q t a b c _ zA2 (nk.mono (Same.new ht)) (S4.up (Same.new ht)) (b4.trans (ButS.same (Same.new ht)))⟩;refine ⟨_,rfl,rfl,_,rfl,?_⟩;refine ite2 (fun _=>?_) (fun _=>⟨_,rfl,rfl,_,rfl,ite2 (fun _=>?_) (fun _=>⟨_,rfl,rfl,_,rfl,ite2 (fun _=>?_) (fun _=>?_)⟩)⟩)
  ·refine ⟨_,rfl,small 2 (by decide),pair (a:=vs) (b:=.non) fun v H4 hv S4 b4=>⟨_,rfl,_,rfl,?_⟩⟩;have b:=b3.trans b4;refine tup b (S4.mono (by omega)) ?_;rcases hv with rfl | rfl
   ·exact ⟨sd,_,od,(hs3.but b4).any,.inl (hd.but b).any,(ho.but b).any,.inl sno⟩
   ·exact ⟨.none,_,od,.non,.inl (hd.but b).any,(ho.but b).any,.inl rfl⟩
  ·refine ⟨_,rfl,_,rfl,_,rfl,_,rfl,small 2 (by decide),pair (a:=vs) (b:=.str n) fun v H4 hv S4 b4=>?_⟩;have b:=b3.trans b4;refine tup b (S4.mono (by omega)) ?_;rcases hv with rfl | rfl
   ·exact ⟨.str n,_,sd,hn,.inl (hd.but b).any,(hs3.but b4).any,.inr (.inr ⟨vne,.inl sno⟩)⟩
   ·exact ⟨.str n,_,.str n,hn,.inl (hd.but b).any,hn,.inr (.inr ⟨(fun z=>nomatch z),.inr rfl⟩)⟩
  ·refine ⟨_,rfl,_,rfl,_,rfl,p,lf,fs,k + 2,rfl,S3.mono (by omega),by omega,hd.but b3,fok,fun v d H4 hv fb S4 b4=>⟨_,rfl,?_⟩⟩;have b:=b3.trans b4;exact tup b (S4.mono (by omega)) ⟨.str n,d,od,hn,hv,(ho.but b).any,.inr (.inl fb)⟩
  ·refine fun v4 H4 s4 h4=>?_;obtain ⟨l4,y4,rfl,g4,hl4,_,hy4⟩:=(h4.np S3).list_inv;refine ⟨_,rfl,_,rfl,_,rfl,p,k + 2,rfl,(S3.up s4).mono (by omega),by omega,fun v d H5 hv od5 S5 b5=>?_⟩;refine ⟨small 1 (by decide),fun l6 f6=>?_⟩;have e4:y4.length=2:=hy4.length;have hl5:=b5 _ _ hl4 g4;refine ⟨l4,l6,y4,_,rfl,rfl,(Same.new f6) _ _ hl5,zA2,by rw [e4];exact small 3 (by decide),fun l7 f7=>⟨_,rfl,?_⟩⟩;have s7:Same H5 (upd (upd H5 l6 (.lst [v])) l7 (.lst (y4++[v]))):=(Same.new f6).trans (Same.new f7);have g7:(upd (upd H5 l6 (.lst [v])) l7 (.lst (y4++[v]))) l7=some (.lst (y4++[v])):=zA2;generalize upd (upd H5 l6 (.lst [v])) l7 (.lst (y4++[v]))=H7 at s7 g7 ⊢;have b:ButS p H H7:=((b3.trans (ButS.same s4)).trans b5).trans (ButS.same s7);have hy7:HasAll Any H7 (y4++[v]) (manyD++[d]):=((hy4.frame fun b o g e=>⟨trivial,b5 b o e g⟩).append (.cons hv.any .nil)).mono s7;exact tup b ((S5.up s7).mono (by omega)) ⟨.str n,.list (manyD++[d]),od,hn,.inl (.lst trivial g7 (by rw [Zb,e4];show 3≤1000;decide) hy7),(ho.but b).any,.inr (.inl (ins_odd (Zi _ Zg) od5))⟩
end
end L2.W
namespace L2.W
open PySem My
theorem pairG {G:Addr→Prop}{H:Hp}{x:V}{f:Str×List Str} (h:Has G H x (fieldD f)):∃ t l,x=.ref t∧G t∧H t=some (.tup [.str f.1,.ref l])∧G l∧H l=some (.lst (f.2.map V.str)):=by
 unfold fieldD at h;cases h with
 | tup g e _ r =>
  cases r with
  | cons r1 r =>
   cases r with
   | cons r2 r =>
    cases r;cases r1;cases r2 with
    | lst g2 e2 _ r3 =>
     refine ⟨_,_,rfl,g,e,g2,?_⟩;rw [e2,strs_of r3]
structure Hand (G:Addr→Prop) (H:Hp) (ps:List (Addr×Addr)) (fs:List (Str×List Str)):Prop where
 at_:∀ (i:Nat) (t l:Addr),ps[i]? = some (t,l)→∃ f:Str×List Str,fs[i]? = some f∧G t∧G l∧H t=some (.tup [.str f.1,.ref l])∧H l=some (.lst (f.2.map V.str))
theorem hand_of {G:Addr→Prop}{H:Hp}:∀ {fs:List (Str×List Str)}{ys:List V},HasAll G H ys (fs.map fieldD)→∃ ps:List (Addr×Addr),ys=ps.map (fun q=>V.ref q.1)∧Hand G H ps fs
 | [],_,.nil=>⟨[],rfl,⟨fun i t l h=>by simp at h⟩⟩
 | f :: fs,_,.cons h r=>by
  obtain ⟨ps,rfl,hp⟩:=hand_of r;obtain ⟨t,l,rfl,g1,h1,g2,h2⟩:=pairG h;refine ⟨(t,l) :: ps,rfl,⟨fun i t' l' e=>?_⟩⟩;cases i with
  | zero=>cases e;exact ⟨f,rfl,g1,g2,h1,h2⟩
  | succ i=>exact hp.at_ i t' l' e
theorem unlike_of {ks:List Str} (h:∀ x∈ks,nameB x=true) (nd:ks.Nodup):unlikeB (ks.map PyData.str)=true:=by
 unfold unlikeB;rw [zC1,decide_eq_true nd,Bool.and_true,List.all_eq_true];intro d hd;obtain ⟨x,hx,rfl⟩:=List.mem_map.mp hd;exact h x hx
theorem fields_ok {fs:List (Str×List Str)} (ok:FieldsOk fs):fieldsB (.list (fs.map fieldD))=true∧countD (fs.map fieldD)≤8:=by
 constructor
 ·show ((fs.map fieldD).all pairB && unlikeB ((fs.map fieldD).map firstD))=true;have e1:(fs.map fieldD).all pairB=true:=by
   rw [List.all_eq_true];intro d hd;obtain ⟨f,hf,rfl⟩:=List.mem_map.mp hd;obtain ⟨_,v⟩:=ok.ok f hf;show (decide (0 < (f.2.map PyData.str).length) && unlikeB (f.2.map PyData.str))=true;rw [Z1,decide_eq_true v.ne,unlike_of (fun x hx=>(v.ok x hx).1) v.nd];rfl
  have e2:(fs.map fieldD).map firstD=(fs.map (·.1)).map PyData.str:=by
   rw [Zz,Zz];rfl
  rw [e1,e2,unlike_of _ ok.nd]
  ·rfl
  ·intro x hx;obtain ⟨f,hf,rfl⟩:=List.mem_map.mp hx;exact (ok.ok f hf).1.1
 ·have key:∀ (l:List (Str×List Str)) (m:Nat),(l.map fieldD).foldl (fun m d=>m * ((sizeD d:Nat):Int)) (m:Int)=((l.foldl (fun m f=>m * f.2.length) m:Nat):Int):=by
   intro l
   induction l with
   | nil=>intro m;rfl
   | cons f r ih =>
    intro m;rw [Zj,Zw,Zw];have e:((m:Int) * ((sizeD (fieldD f):Nat):Int))=((m * f.2.length:Nat):Int):=by
     show (m:Int) * (((f.2.map PyData.str).length:Nat):Int)=_;rw [Z1];simp
    rw [e];exact ih _
  have k1:=key fs 1;have k2:=ok.many;unfold countD;unfold manyOf at k2;have k3:((1:Nat):Int)=1:=rfl;rw [k3] at k1;rw [k1];omega
theorem init_of {C x dx:Addr}{H:Hp}{n:Str}{vf vo:V}{od:PyData}{fs:List (Str×List Str)}{Q:VK}{E:XK} (hx:H x=none) (hdx:H dx=none) (ne:dx≠x) (hn:nameOk n) (hf:Has Any H vf (.list (fs.map fieldD))) (ok:FieldsOk fs) (ho:Has Any H vo od) (hod:ownerD n od=true)
  (k:∀ H' l,Same H H'→H' x=some (.ins C dx (kflds (.str n) (.ref l) vo))→Has (fun a=>H a=none) H' (.ref l) (.list (fs.map fieldD))→Q .non H') :
  spInit C [.ref x,.str n,vf,vo] (upd (upd H dx (.own x)) x (.ins C dx [])) Q E:=by
 have hx2:(upd H dx (.own x)) x=none:=by rw [zA9 ne.symm];exact hx
 have s:Same H (upd (upd H dx (.own x)) x (.ins C dx [])):=(Same.new hdx).trans (Same.new hx2);refine ⟨x,dx,vf,vo,n,_,od,rfl,zA2,by have:=hn.2.2;omega,hn.2.1,hn.1,hf.mono s,(fields_ok ok).1,ho.mono s,hod,(fields_ok ok).2,fun H' l hp hl fr=>k H' l (fun b o e=>fr b o (s _ _ e) (zA6 e hx)) hp (hl.frame fun b o g e=>⟨s.free g,e⟩)⟩
noncomputable def spLaw02 (K:PySem.W.Frag):Sp:=fun vs H Q _=>∃ (a:Addr) (ns:List Int),vs=[.ref a]∧SqL K H a (ns.map V.int)∧ns.length≤63∧∀ H',Q (.bl true) H'
theorem cut_ints (ns:List Int) (lo hi:Option Int):∃ ms:List Int,cutV (ns.map V.int) lo hi=ms.map V.int∧ms.length≤ns.length:=by
 unfold cutV;rw [← List.map_drop,← List.map_take];exact ⟨_,rfl,by rw [Y7,List.length_drop];omega⟩
structure Asks (P:Program) (w:World) (K:PySem.W.Frag) (mg:Str→Option Value) (base:Heap) (CX:CXT) (C fI fd fn fa fl fB fW fC:Addr) (dI dd dn da dl dB dW dC:FuncData):Prop where
 T:Tops K mg
 KC:KCls K mg C fI
 GK:FnOk P w K mg base CX 5 fI dI ["self", "name", "fields", "owner"] (spInit C)
 bK:Binds K dI ["self", "name", "fields", "owner"] []
 bK2:Binds K dI ["self", "name", "fields", "owner"] [.none]
 Dd:Def K mg "_law_digits" sDigits ["_law_cell"] fd dd
 Gd:FnOk P w K mg base CX 1 fd dd ["_law_cell"] spDigits
 Dn:Def K mg "_law_next" sNext ["_law_source", "_law_many"] fn dn
 Gn:FnOk P w K mg base CX 2 fn dn ["_law_source", "_law_many"] spNext
 Da:Def K mg "_law_names" sNames ["_law_source", "_law_many"] fa da
 Ga:FnOk P w K mg base CX 3 fa da ["_law_source", "_law_many"] spNames
 Dl:Def K mg "_law_fields" sLFields ["_law_source"] fl dl
 Gl:FnOk P w K mg base CX 4 fl dl ["_law_source"] spLFields
 DB:Def K mg "_law_bad" sBad ["_law_source", "_law_name", "_law_fields_here", "_law_owner"] fB dB
 GB:FnOk P w K mg base CX 5 fB dB ["_law_source", "_law_name", "_law_fields_here", "_law_owner"] spBad
 DW:Def K mg "_law_word" sWord ["_law_name", "_law_fields_here", "_law_owner"] fW dW
 GW:FnOk P w K mg base CX 7 fW dW ["_law_name", "_law_fields_here", "_law_owner"] spWord
 DC:Def K mg "_law_classes" sClasses [] fC dC
 GC:FnOk P w K mg base CX 2 fC dC [] spClasses
noncomputable def nL:List Str:=["_law_script", "_law_cell", "_law_source", "_law_name", "_law_owner", "_law_fields_here", "_law_handed", "_law_kind", "_law_bad_here", "_law_field", "_law_values"]
noncomputable def nL':List Str:=["_law_script", "_law_cell", "_law_source", "_law_name", "_law_owner", "_law_fields_here", "_law_handed", "_law_kind", "_law_bad_here", "?1", "?2"]
theorem sameL:sameN nL nL' [9,10]:=by unfold sameN;decide +kernel
theorem ndL':nL'.Nodup:=by decide +kernel
section
variable {P:Program}{w:World}{K:PySem.W.Frag}{mg:Str→Option Value}{base:Heap}{CX:CXT}
theorem scLw:FnScope nL ["_law_script"] (defScope sLaw):=⟨rfl,rfl,rfl,by decide +kernel,rfl,by decide +kernel,by decide +kernel⟩
set_option maxHeartbeats 4000000 in
theorem ok_law02 {f C fI fd fn fa fl fB fW fC:Addr}{fdl dI dd dn da dl dB dW dC:FuncData} (hC:Calm CX) (F:Fun K "law" "law" sLaw f fdl) (A:Asks P w K mg base CX C fI fd fn fa fl fB fW fC dI dd dn da dl dB dW dC):FnOk P w K mg base CX 8 f fdl ["_law_script"] (spLaw02 K):=by
 have T:=A.T;refine Fun.okC F scLw (fun vs H Q E h=>?_) (fun cdv Ar outer s H vs Q E hr h=>?_)
 ·obtain ⟨a,ns,rfl,_⟩:=h;rfl
 ·obtain ⟨a,ns,rfl,hS,hlen,k⟩:=h;have hr1:=hr.mono (show 1≤7 by decide);have hr2:=hr.mono (show 2≤7 by decide);have hr3:=hr.mono (show 3≤7 by decide);have hr4:=hr.mono (show 4≤7 by decide);have hr5:=hr.mono (show 5≤7 by decide);have hr6:=hr.mono (show 6≤7 by decide);have nd:=scLw.nd;have dv:Vals [.non] [Value.none]:=.cons rfl .nil
  refine ⟨_,zA3 (zCu PassesOwn.never rfl (zAv (zB8 zCe (pv 0) zCh (zBi zA4))) (zAe (i:=1) nd rfl (Or.inl rfl))
     (zA3 (zAb (i:=2) nd rfl (Or.inl rfl) (zA8 A.Gd hr1 rfl A.Dd.at_ A.Dd.fn.kp A.Dd.bind .nil (passC hC) (zA0 (pv 1) zA1)))
     (zA3 (ps_asg (zA8 A.Ga hr3 rfl A.Da.at_ A.Da.fn.kp A.Da.bind .nil (passC hC) (zA0 (pv 2) (zA0 zA4 zA1))) (pg_lst2 rfl (zAq (zAe (i:=3) nd rfl (Or.inl rfl)) (zAq (zAe (i:=4) nd rfl (Or.inl rfl)) zBj))))
     (zA3 (zAb (i:=5) nd rfl (Or.inl rfl) (zA8 A.Gl hr4 rfl A.Dl.at_ A.Dl.fn.kp A.Dl.bind .nil (passC hC) (zA0 (pv 2) zA1)))
     (zA3 (zAb (i:=4) nd rfl (Or.inl rfl) (zAs zAn (zAi (zA0 zBq (zA0 (pv 4) zA1))) (zA8 A.Gn hr2 rfl A.Dn.at_ A.Dn.fn.kp A.Dn.bind .nil (passC hC) (zA0 (pv 2) (zA0 zA4 zA1))) (fun _ _=>rfl)))
     (zA3 (ps_re nL' [9,10] sameL (zBg (T:=["_law_field", "_law_values"]) (i:=6) rfl ScOk.auto (zAv (pv 5)) (fun _ _ _ _=>zD3 (K:=K) (n:=2) rfl rfl (zAq (zAe (i:=11) (by decide +kernel:(["_law_script", "_law_cell", "_law_source", "_law_name", "_law_owner", "_law_fields_here", "_law_handed", "_law_kind", "_law_bad_here", "?1", "?2", "_law_field", "_law_values"]:List Str).Nodup) rfl (Or.inl rfl)) (zAq (zAe (i:=12) (by decide +kernel:(["_law_script", "_law_cell", "_law_source", "_law_name", "_law_owner", "_law_fields_here", "_law_handed", "_law_kind", "_law_bad_here", "?1", "?2", "_law_field", "_law_values"]:List Str).Nodup) rfl (Or.inl rfl)) zBj))) (fun _ _ _ _=>zAz) (fun _ _ _ _=>(zB5 (zA0 (pv 11) (zA0 (zAy (r:=fun xs H Q=>∃ p ys,xs=[.ref p]∧(SqL K H p ys∨SqT K H p ys)∧∀ l,H l=none→Q (.ref l) (upd H l (.lst ys))) zC9 rfl T.list PyProof.Rows.boot_list (zA0 (pv 12) zA1)) zA1)))) ndL' rfl rfl rfl))
     (zA3 (zAb (i:=7) nd rfl (Or.inl rfl) (zC3 A.KC.mkd A.GK hr6 rfl A.KC.mgC A.bK .nil (passC hC) (zA0 (pv 3) (zA0 (pv 6) (zA0 (pv 4) zA1)))))
     (zA3 (zAb (i:=8) nd rfl (Or.inl rfl) (zA8 A.GB hr5 rfl A.DB.at_ A.DB.fn.kp A.DB.bind .nil (passC hC) (zA0 (pv 2) (zA0 (pv 3) (zA0 (pv 5) (zA0 (pv 4) zA1))))))
     (zA3 (zB0 (PW.pt (zCb (zAl (op_neD hr.units) (pv 6) (pv 5) (nomark _)) (zBb (zAl op_ne (zA8 A.GW hr rfl A.DW.at_ A.DW.fn.kp A.DW.bind .nil (passC hC) (zA0 (zAs zBy (pv 8) zA4 (fun _ _=>rfl)) (zA0 (zAs zBy (pv 8) zA4 (fun _ _=>rfl)) (zA0 (zAs zBy (pv 8) zA4 (fun _ _=>rfl)) zA1)))) zAc (nomark _)))))
     (zA7 (zAd zBt)) zAf)
     (zA3 (zCu PassesOwn.never rfl (zAv (pv 6)) (pg_tup rfl (zAq (zAe (i:=9) nd rfl (Or.inl rfl)) (zAq (zAe (i:=10) nd rfl (Or.inl rfl)) zBj)))
     (zA7 (zCg (pe_bm PySem.F.plainAttrs_list PySem.F.slot_list_append PySem.F.type_list_append mt_append (pv 10) (zA0 zAc zA1)))))
     (zA3 (zCg (pe_bm PySem.F.plainAttrs_list PySem.F.slot_list_append PySem.F.type_list_append mt_append (pv 6) (zA0 (zB5 (zA0 zAc (zA0 (zAi (zA0 zAc zA1)) zA1))) zA1)))
     (zA3 (zB0 (PW.pt (zCb (zAl op_ne (zBr (pv 7) rfl) (pv 3) (nomark _)) (zCb (zAl (op_neD hr.units) (zBr (pv 7) rfl) (pv 5) (nomark _)) (zBb (zAl op_ne (zBr (pv 7) rfl) (pv 4) (nomark _))))))
     (zA7 (zAd zBt)) zAf)
     (zA7 (zB0 (PW.pt (zCb (zAu (zAt (zA5 zAr rfl T.isinst PyProof.Rows.boot_isinstance (zA0 (zBr (pv 7) rfl) (zA0 (zB1 (v:=.ty "list") rfl T.list PyProof.Rows.boot_list rfl) zA1))))) (zBb (zAu (zAt (zA5 (zC0 rfl) rfl T.all PyProof.Rows.boot_all (zA0 (zAw (T:=["_law_one"]) rfl ScOk.auto (zAv (zBr (pv 7) rfl)) (fun _ _ _ _=>zAe (i:=11) (by decide +kernel:(["_law_script", "_law_cell", "_law_source", "_law_name", "_law_owner", "_law_fields_here", "_law_handed", "_law_kind", "_law_bad_here", "_law_field", "_law_values", "_law_one"]:List Str).Nodup) rfl (Or.inl rfl)) (fun _ _ _ _=>zAz) (fun _ _ _ _=>(zA5 (r:=fun xs H Q=>∃ x c t cv b,xs=[x,c]∧TyOf K H x t∧RelV c cv∧PySem.W.kitOne K t cv=some b∧Q (.bl b) H) zAr rfl T.isinst PyProof.Rows.boot_isinstance (zA0 (pv 11) (zA0 (zB1 (v:=.ty "tuple") rfl T.tuple PyProof.Rows.boot_tuple rfl) zA1))))) zA1)))))))
     (zA7 (zAd zBt)) zAf))))))))))))))
     (zA7 (zAd (zBu (zB4 op_isN (zBr (zC3 A.KC.mkd A.GK hr6 rfl A.KC.mgC A.bK2 dv (passC hC) (zA0 zAc (zA0 (zAi zA1) zA1))) rfl) zBq (nomark _)) (zBu (zB4 (op_eqD hr.units) (zBr (zC3 A.KC.mkd A.GK hr6 rfl A.KC.mgC A.bK2 dv (passC hC) (zA0 zAc (zA0 (zAi zA1) zA1))) rfl) (zAi zA1) (nomark _)) (zCi (zD7 A.GC hr2 rfl A.DC.at_ A.DC.fn.kp A.DC.bind .nil (passC hC))))))),?_⟩
  have small:∀ n:Nat,n≤1000→n≤sizeLine:=fun n h=>Zh (small1000 h);obtain ⟨ms,ems,hms⟩:=cut_ints ns none (some 30);refine ⟨_,rfl,_,rfl,a,_,rfl,hS,fun p hp=>?_⟩;rw [ems]
  refine ⟨p,rfl,⟨_,SqL.of zA2⟩,zDf (K:=K) (a:=p) (xs:=ms.map V.int) (fun i σ H2=>∃ u1 u2 u3 u4 u5 u6 u7 u8 u9 u10:Option V,σ = [some (.ref a),u1,u2,u3,u4,u5,u6,u7,u8,u9,u10]∧H2 p=some (.lst (ms.map V.int)))
   ⟨none,none,none,none,none,none,none,none,none,none,rfl,zA2⟩ (fun i σ H2 _ ⟨_,_,_,_,_,_,_,_,_,_,_,q⟩=>SqL.of q) ?_ ?_⟩
  ·rintro i y σ H2 hi ⟨u1,u2,u3,u4,u5,u6,u7,u8,u9,u10,rfl,hp2⟩;obtain ⟨z,rfl⟩:∃ z,y=V.int z:=by
    rw [Zm] at hi;cases e:ms[i]? with
    | none=>rw [e] at hi;cases hi
    | some z=>rw [e] at hi;exact ⟨z,(Zd hi).symm⟩
   refine ⟨_,rfl,z,rfl,fun q H3 hq S3 s3 k3=>?_⟩;have pq:p≠q:=zA6 hp2 hq;have hp3:=s3 _ _ hp2;refine ⟨_,rfl,q,2,0,rfl,S3,by decide,by decide,by decide,fun l2 ks H4 e4 n4 o4 h4 f4 S4 k4=>?_⟩;obtain ⟨n,o,rfl⟩:∃ n o,ks=[n,o]:=by
    match ks,e4 with
    | [n,o],_=>exact ⟨n,o,rfl⟩
   have on:nameOk n:=o4 n (by simp);have oo:nameOk o:=o4 o (by simp);have no:o≠n:=fun e=>by simp [e] at n4
   have hp4:=k4 _ _ hp3 pq;refine ⟨l2,.str n,.str o,rfl,SqL.of h4,.str n,[.str o],rfl,.str o,[],rfl,rfl,?_⟩;refine ⟨_,rfl,q,0 + 5,rfl,S4,by decide,fun l1 fs H5 ok hf5 S5 k5=>?_⟩;have hf5':=hf5.np S4;have hp5:=k5 _ _ hp4 pq;clear hf5 k5 h4 f4 k4;refine ⟨_,rfl,small 2 (by decide),fun l6 f6=>⟨_,rfl,q,2,_,rfl,S5.up (Same.new f6),by decide,by decide,by decide,fun r6 B r60 r61 SB k6=>?_⟩⟩;obtain ⟨vo,hva,hvm⟩:=zCa ([.non,.str o]:List V) r60 r61;have bB:ButS q H5 B:=(ButS.same (Same.new f6)).trans (ButS.eq k6);refine ⟨l6,_,r6,vo,rfl,rfl,SqL.of (by rw [k6 l6 (S5.nw f6)];exact zA2),hva,?_⟩;obtain ⟨od,ho,hod,hsc⟩:∃ od,(∀ {G:Addr→Prop}{H:Hp},Has G H vo od)∧ownerD n od=true∧scal vo vo=true:=by
    simp only [Zk,Zf,or_false] at hvm;rcases hvm with rfl | rfl
    ·exact ⟨.none,.non,rfl,rfl⟩
    ·refine ⟨.str o,.str o (by have:=oo.2.2;omega) oo.2.1,?_,rfl⟩;show (nameB o && !decide (o=n))=true;rw [oo.1,decide_eq_false no];rfl
   have hfB:=hf5'.but bB;have hpB:=bB _ _ hp5 pq;clear hf5' hp5 bB k6 S5 f6 hva hvm;obtain ⟨a1,xs,e1,_,ha1,hz1,hx1⟩:=id hfB.list_inv;cases e1;refine ⟨_,rfl,l1,rfl,⟨xs,SqL.of ha1⟩,zB3 (xs:=xs) (fun i ys H'=>Same B H'∧HasAll (fun a=>B a=none) H' ys ((fs.take i).map fieldD)) ⟨Same.refl _,.nil⟩ (fun i ys H' z=>SqL.of (z.1 _ _ ha1)) (fun i ys H' hi z=>?_) ?_ ?_⟩
   ·have:=z.2.length;rw [Z1] at this;have:=List.length_take_le' i fs;have:=ok.le;exact small _ (by omega)
   ·rintro i x ys H' hi ⟨s6,hy⟩ N hN;obtain ⟨d,hd,hv⟩:=hx1.get hi;rw [Zm] at hd;cases ef:fs[i]? with
    | none=>rw [ef] at hd;cases hd
    | some f =>
     rw [ef] at hd;cases hd;obtain ⟨b,lv,rfl,_,hb,_,hlv⟩:=pairG hv;refine pickT (SqT.of (s6 _ _ hb)) ?_;obtain ⟨okn,okv⟩:=ok.ok f (Za ef);refine ⟨_,rfl,_,rfl,lv,_,rfl,.inl (SqL.of (s6 _ _ hlv)),fun l3 hl3=>⟨by show 2≤sizeLine;exact small 2 (by decide),fun t ht=>hN _ _ ⟨(s6.trans (Same.new hl3)).trans (Same.new ht),?_⟩⟩⟩;rw [Zn,ef,Zo];refine HasAll.snoc (hy.mono ((Same.new hl3).trans (Same.new ht))) (.tup (s6.free ((Same.new (o:=.lst (f.2.map V.str)) hl3).free ht)) zA2 (by show 2≤1000;decide) (.cons (.str _ (by have:=okn.2.2;omega) okn.2.1) (.cons (.lst (s6.free hl3) ((Same.new ht) _ _ zA2) ?_ (zCj okv.ok)) .nil)));rw [Z1];have:=okv.le;omega
   ·rintro ys H' ⟨s6,hy⟩ lh hlh;have ex:xs.length=fs.length:=by rw [hx1.length,Z1]
    rw [ex,Zr] at hy;have s7:Same B (upd H' lh (.lst ys)):=s6.trans (Same.new hlh);have e7:(upd H' lh (.lst ys)) lh=some (.lst ys):=zA2;have hy7:=hy.mono (Same.new (o:=.lst ys) hlh);have nlh:B lh=none:=s6.free hlh;have yl:ys.length≤3:=by rw [hy.length,Z1];exact ok.le
    generalize upd H' lh (.lst ys)=H7 at s7 e7 hy7 ⊢;clear hy s6 hlh;dsimp only [gName,Ends.hid,hide,List.set];have hh7:Has (fun a=>B a=none) H7 (.ref lh) (.list (fs.map fieldD)):=.lst nlh e7 (by omega) hy7;refine ⟨_,rfl,_,rfl,_,rfl,fun x dx hx hdx ne=>init_of hx hdx ne on hh7.any ok ho hod fun H8 lk s8 x8 hk8=>⟨rfl,?_⟩⟩;have S8:Src H8 q 36:=(SB.up (s7.trans s8)).mono (by decide);have hf8:=hfB.mono (s7.trans s8);refine ⟨_,rfl,_,rfl,_,rfl,_,rfl,q,l1,n,vo,od,fs,36,rfl,S8,by decide,on,hf8,ok,ho,fun t va vb vc H9 t9 nk S9 b9=>?_⟩;have nq:∀ {b:Addr},B b=none→b≠q:=fun h=>SB.nw h;have nq7:∀ {b:Addr},H7 b=none→b≠q:=fun h=>(SB.up s7).nw h;have hh9:Has Any H9 (.ref lh) (.list (fs.map fieldD)):=(hh7.mono s8).frame fun b o g e=>⟨trivial,b9 b o e (nq g)⟩;refine ⟨_,rfl,_,rfl,ne_same hh9 (hf8.but b9) (zDh fs) ⟨_,rfl,iteF ?_⟩⟩;refine ⟨_,rfl,t,_,0,_,rfl,rfl,SqT.of t9,rfl,_,rfl,t,_,1,_,rfl,rfl,SqT.of t9,rfl,_,rfl,t,_,2,_,rfl,rfl,SqT.of t9,rfl,va,vb,vc,rfl,nk,fun H10 s10=>⟨rfl,_,rfl,ite2 (fun h=>absurd h (by decide +kernel)) (fun _=>?_)⟩⟩;obtain ⟨ps,rfl,hand⟩:=hand_of (hy7.mono s8);have k10:∀ b o,H8 b=some o→b≠q→H10 b=some o:=fun b o e nb=>s10 _ _ (b9 b o e nb);have lh10:=k10 _ _ (s8 _ _ e7) (nq nlh);have Lst:∀ (i:Nat) (t l:Addr),ps[i]? = some (t,l)→B l=none∧H7 l≠none∧H10 t=some (.tup [.str (fs[i]?.getD ("",[])).1,.ref l])∧l≠lh∧t≠lh∧∃ zs:List V,H10 l=some (.lst zs)∧zs.length≤8:=fun i t l e=>by
     obtain ⟨f,ef,gt,gl,ht,hl⟩:=hand.at_ i t l e;have ov:=(ok.ok f (Za ef)).2;have l7:H7 l≠none:=fun z=>by
      have hm:V.ref t∈ps.map (fun q=>V.ref q.1):=List.mem_map.mpr ⟨(t,l),Za e,rfl⟩;obtain ⟨j,hj⟩:=List.getElem?_of_mem hm;obtain ⟨d,hd,hv⟩:=hy7.get hj;rw [Zm] at hd;cases e2:fs[j]? with
      | none=>rw [e2] at hd;cases hd
      | some f2 =>
       rw [e2] at hd;cases hd;obtain ⟨t2,l2,et,_,h1,_,h2⟩:=pairG hv;cases et;have e3:=(s8 _ _ h1).symm.trans ht;simp only [Option.some.injEq,HO.tup.injEq,List.cons.injEq,V.ref.injEq,and_true] at e3;rw [← e3.2,h2] at z;cases z
     have hl10:=k10 _ _ hl (nq gl);refine ⟨gl,l7,by rw [ef];exact k10 _ _ ht (nq gt),?_,ne_of (k10 _ _ ht (nq gt)) lh10 (fun z=>nomatch z),f.2.map V.str,hl10,by rw [Z1];exact ov.le⟩;refine ne_of hl10 lh10 fun z=>?_;injection z with z;obtain ⟨v0,ev⟩:∃ v0,f.2[0]? = some v0:=⟨_,Zc ov.ne⟩;have:=congrArg (fun l=>l[0]?) z;simp only [Zm,ev] at this;cases e0:ps[0]? with
     | none=>rw [e0] at this;cases this
     | some q0=>rw [e0] at this;cases this
    refine ⟨_,rfl,lh,rfl,⟨_,SqL.of lh10⟩,zDf (K:=K) (a:=lh) (xs:=ps.map fun q=>V.ref q.1) (fun i σ H11=>∃ v9 v10:Option V,σ = [some (.ref a),some (.int z),some (.ref q),some (.str n),some vo,some (.ref l1),some (.ref lh),some (.ref x),some (.ref t),v9,v10] ∧
     (∀ c o,H10 c=some o→(∀ (i:Nat) (t l:Addr),ps[i]? = some (t,l)→c≠l)→H11 c=some o)∧∀ (j:Nat) (t l:Addr),ps[j]? = some (t,l)→∃ zs:List V,H11 l=some (.lst zs)∧zs.length≤8 + i) ⟨none,none,rfl,fun c o e _=>e,fun j t l e=>(Lst j t l e).2.2.2.2.2⟩
     (fun i σ H11 _ ⟨_,_,_,kk,_⟩=>SqL.of (kk _ _ lh10 fun i t l e=>(Lst i t l e).2.2.2.1.symm)) ?_ ?_⟩
    ·rintro j y σ H11 hj ⟨v9,v10,rfl,kk,zz⟩;rw [Zm] at hj;cases ep:ps[j]? with
     | none=>rw [ep] at hj;cases hj
     | some tl =>
      obtain ⟨t1,l3⟩:=tl;rw [ep] at hj;cases hj;obtain ⟨_,_,ht1,_⟩:=Lst j t1 l3 ep;have ht11:=kk _ _ ht1 fun i t l e=>by
       obtain ⟨_,_,_,_,_,zs,h,_⟩:=Lst i t l e;exact ne_of ht1 h fun z=>nomatch z
      refine ⟨t1,_,rfl,SqT.of ht11,rfl,_,_,rfl,.ref l3,[],rfl,rfl,?_⟩;obtain ⟨zs,hzs,lz⟩:=zz j t1 l3 ep;have jl:j < 4:=by have:=(List.getElem?_eq_some_iff.mp ep).1;rw [Z1] at yl;omega
      refine ⟨_,rfl,.inl ⟨rfl,zs,SqL.of hzs⟩,l3,zs,.str "more",rfl,rfl,hzs,by have:=small 20 (by decide);omega,?_⟩;refine ⟨_,_,rfl,fun c o e h=>by rw [zA9 (h j t1 l3 ep)];exact kk c o e h,fun j' t' l' e'=>?_⟩;by_cases c:l'=l3
      ·subst c;exact ⟨_,zA2,by rw [Zb];show zs.length + 1≤_;omega⟩
      ·obtain ⟨zs',h',lz'⟩:=zz j' t' l' e';exact ⟨zs',by rw [zA9 c];exact h',by omega⟩
    ·rintro σ H11 ⟨v9,v10,rfl,kk,_⟩;have lh11:=kk _ _ lh10 fun i t l e=>(Lst i t l e).2.2.2.1.symm;refine ⟨_,rfl,.inl ⟨rfl,_,SqL.of lh11⟩,small 1 (by decide),fun l12 f12=>⟨small 2 (by decide),fun t12 f13=>?_⟩⟩;have s12:Same H11 (upd (upd H11 l12 (.lst [.str "a"])) t12 (.tup [.str "more",.ref l12])):=(Same.new f12).trans (Same.new f13);generalize upd (upd H11 l12 (.lst [.str "a"])) t12 (.tup [.str "more",.ref l12])=H12 at s12 ⊢;refine ⟨lh,_,_,rfl,rfl,s12 _ _ lh11,by have:=small 20 (by decide);omega,?_⟩;have keep:∀ b o,H8 b=some o→b≠q→(B b=none→H7 b=none)→b≠lh→(upd H12 lh (.lst (ps.map (fun q=>V.ref q.1)++[.ref t12]))) b=some o:=fun b o e nb h hb=>by
      rw [zA9 hb]
      exact s12 _ _ (kk _ _ (k10 _ _ e nb) fun i t l el=>fun z=>by
       obtain ⟨gl,l7,_⟩:=Lst i t l el;subst z
       exact l7 (h gl))
     generalize upd H12 lh (.lst (ps.map (fun q=>V.ref q.1)++[.ref t12]))=H13 at keep ⊢;have x13:=keep _ _ x8 (nq7 hx) (fun _=>hx) (fun z=>by rw [z,e7] at hx;cases hx);have hk13:Has Any H13 (.ref lk) (.list (fs.map fieldD)):=hk8.frame fun b o g e=>⟨trivial,keep b o e (nq7 g) (fun _=>g) fun z=>by rw [z,e7] at g;cases g⟩;have hf13:Has Any H13 (.ref l1) (.list (fs.map fieldD)):=hfB.frame fun b o g e=>⟨trivial,keep b o (s8 _ _ (s7 _ _ e)) g (fun z=>by rw [e] at z;cases z) fun z=>by rw [z,nlh] at e;cases e⟩;have hp13:=keep _ _ (s8 _ _ (s7 _ _ hpB)) pq (fun z=>by rw [hpB] at z;cases z) fun z=>by rw [z,nlh] at hpB;cases hpB
     refine ⟨_,rfl,x,C,dx,_,_,rfl,x13,A.KC.cl,A.KC.nN,kf_name _ _ _,_,rfl,rfl,_,rfl,ite2 (fun h=>absurd h (by rw [decide_eq_true rfl];decide)) (fun _=>?_)⟩;refine ⟨_,rfl,x,C,dx,_,_,rfl,x13,A.KC.cl,A.KC.nF,zBx _ _ _,_,rfl,ne_same hk13 hf13 (zDh fs) ⟨_,rfl,iteF ?_⟩⟩;refine ⟨_,rfl,x,C,dx,_,_,rfl,x13,A.KC.cl,A.KC.nO,kf_owner _ _ _,_,rfl,hsc,_,rfl,ite2 (fun h=>absurd h (by rw [decide_eq_true rfl];decide)) (fun _=>?_)⟩;obtain ⟨ak,gs,ek,_,hak,hzk,hgs⟩:=hk13.list_inv;cases ek;refine ⟨_,rfl,x,C,dx,_,_,rfl,x13,A.KC.cl,A.KC.nF,zBx _ _ _,_,_,_,_,_,rfl,.lst hak,rfl,rfl,_,rfl,iteF ?_⟩;refine ⟨_,rfl,x,C,dx,_,_,rfl,x13,A.KC.cl,A.KC.nF,zBx _ _ _,lk,rfl,⟨gs,SqL.of hak⟩,zB3 (xs:=gs) (fun i ys H'=>H'=H13∧ys=List.replicate i (V.bl true)) ⟨rfl,rfl⟩ (fun i ys H' z=>by rw [z.1];exact SqL.of hak) (fun i ys H' hi z=>?_) ?_ ?_⟩
     ·rw [z.2,List.length_replicate];exact small _ (by omega)
     ·rintro i v ys H' hi ⟨rfl,rfl⟩ N hN;obtain ⟨d,hd,hv⟩:=hgs.get hi;rw [Zm] at hd;cases es:fs[i]? with
      | none=>rw [es] at hd;cases hd
      | some f =>
       rw [es] at hd;cases hd;obtain ⟨ya,_,rfl,_,hya,_⟩:=pairG hv;refine pick ?_;refine ⟨_,rfl,_,_,_,_,_,rfl,.tup hya,rfl,rfl,hN _ _ ⟨rfl,?_⟩⟩;rw [List.replicate_succ']
     ·rintro ys H' ⟨rfl,rfl⟩ la hla;refine ⟨la,List.replicate gs.length true,rfl,SqL.of (by rw [zA2,List.map_replicate]),_,rfl,?_⟩;rw [show (List.replicate gs.length true).all id=true by simp];refine iteF ?_;exact ⟨_,_,_,_,_,_,_,_,_,_,rfl,(Same.new hla) _ _ hp13⟩
  ·rintro σ H2 ⟨u1,u2,u3,u4,u5,u6,u7,u8,u9,u10,rfl,hp2⟩;have ok0:FieldsOk []:=⟨by decide,List.nodup_nil,fun f h=>by simp at h,by decide⟩;have na:nameOk ("a" : Str):=by refine ⟨?_,?_,?_⟩ <;> decide +kernel
   refine ⟨by show 0≤sizeLine;exact Zv _,fun l1 h1 x dx hx hdx hne=>init_of (fs:=[]) (od:=.none) hx hdx hne na (.lst trivial zA2 (by show 0≤1000;decide) .nil) ok0 .non rfl fun H3 l s3 x3 hl3=>⟨rfl,?_⟩⟩;refine ⟨x,C,dx,_,_,rfl,x3,A.KC.cl,A.KC.nO,kf_owner _ _ _,rfl,_,rfl,iteT ?_⟩;refine ⟨by show 0≤sizeLine;exact Zv _,fun l4 h4 x2 dx2 hx2 hdx2 hne2=>init_of (fs:=[]) (od:=.none) hx2 hdx2 hne2 na (.lst trivial zA2 (by show 0≤1000;decide) .nil) ok0 .non rfl fun H5 l5 s5 x5 hl5=>⟨rfl,?_⟩⟩;refine ⟨x2,C,dx2,_,_,rfl,x5,A.KC.cl,A.KC.nF,zBx _ _ _,by show 0≤sizeLine;exact Zv _,fun l6 h6=>?_⟩;refine eq_same (d:=.list []) (hl5.mono (Same.new h6)) (.lst (G:=Any) trivial zA2 (by show 0≤1000;decide) .nil) (by decide) ⟨_,rfl,iteT ?_⟩;exact ⟨rfl,fun H' _=>k H'⟩
end
end L2.W
namespace L2.W
open PySem My
noncomputable abbrev vmro:List Value:=[.type "ValueError",.type "Exception",.type "BaseException",.type "object"]
noncomputable def chkC (K:PySem.W.Frag) (l:List Addr) (CR:Addr) (k:Nat):Bool :=
 PySem.W.excIn K (l.getD k 0) vmro "ValueError.__new__" && (decide (PySem.W.findIn K (.ref (l.getD k 0)) "__getattribute__" = some (some (.builtin "BaseException.__getattribute__"))) && (decide (PySem.W.findIn K (.ref (l.getD k 0)) "__getattr__" = some none) &&
 (decide (PySem.W.findIn K (.ref (l.getD k 0)) "__class__" = some (some (.builtin "object.__class__"))) && (decide (PySem.W.mroIn K (l.getD k 0) (.type "object")=some true) && (PySem.W.keepIn K (.ref (l.getD k 0)) &&
 ((List.range 14).all (fun j=>decide (PySem.W.kitOne K (.ref (l.getD k 0)) (.ref (l.getD j 0))=some (decide (j=k)))) && (decide (PySem.W.kitOne K (.ref (l.getD k 0)) (.ref CR)=some true) && decide (PySem.W.kitOne K (.ref (l.getD k 0)) (.type "ValueError")=some true))))))))
noncomputable def chk (K:PySem.W.Frag) (l:List Addr) (CR:Addr):Bool:=(List.range 13).all (chkC K l CR)
theorem chk_at {K:PySem.W.Frag}{l:List Addr}{CR:Addr} (h:chk K l CR=true) {k:Nat} (hk:k < 13):XCls K (l.getD k 0)∧PySem.W.keepIn K (.ref (l.getD k 0))=true∧(∀ j,j < 14→PySem.W.kitOne K (.ref (l.getD k 0)) (.ref (l.getD j 0))=some (decide (j=k)))∧PySem.W.kitOne K (.ref (l.getD k 0)) (.ref CR)=some true∧PySem.W.kitOne K (.ref (l.getD k 0)) (.type "ValueError")=some true:=by
 have z:=List.all_eq_true.mp h k (List.mem_range.mpr hk);unfold chkC at z;simp only [Zq,decide_eq_true_eq] at z;obtain ⟨h1,h2,h3,h4,h5,h6,h7,h8,h9⟩:=z;exact ⟨⟨h1,h2,h3,h4,h5⟩,h6,fun j hj=>of_decide_eq_true (List.all_eq_true.mp h7 j (List.mem_range.mpr hj)),h8,h9⟩
end L2.W
namespace L2.W
open PySem My
theorem len1 {α : Type}{us:List α} (h:us.length=1):∃ a,us=[a]:=List.length_eq_one_iff.mp h
theorem len2 {α : Type}{us:List α} (h:us.length=2):∃ a0 a1,us=[a0,a1]:=by
 cases us with
 | nil=>cases h
 | cons a0 r=>obtain ⟨a1,rfl⟩:=len1 (show r.length=1 from Nat.succ.inj h);exact ⟨a0,a1,rfl⟩
theorem len3 {α : Type}{us:List α} (h:us.length=3):∃ a0 a1 a2,us=[a0,a1,a2]:=by
 cases us with
 | nil=>cases h
 | cons a0 r=>obtain ⟨a1,a2,rfl⟩:=len2 (show r.length=2 from Nat.succ.inj h);exact ⟨a0,a1,a2,rfl⟩
theorem len4 {α : Type}{us:List α} (h:us.length=4):∃ a0 a1 a2 a3,us=[a0,a1,a2,a3]:=by
 cases us with
 | nil=>cases h
 | cons a0 r=>obtain ⟨a1,a2,a3,rfl⟩:=len3 (show r.length=3 from Nat.succ.inj h);exact ⟨a0,a1,a2,a3,rfl⟩
structure DL (K:PySem.W.Frag) (x:Str) (st:Stmt) (f:Addr) (fd:FuncData):Prop where
 a:PySem.W.nsIn K mainGlobals x=some (some (.ref f))
 F:Fun K x x st f fd
theorem mkD {K:PySem.W.Frag}{h:Heap}{mg:Str→Option Value}{x:Str}{st:Stmt}{f:Addr}{fd:FuncData}{ps:List Str} (X:K.In h) (G:h.Ns mainGlobals mg) (D:DL K x st f fd) (hb:∀ (kV doc pm:Value) (an:Option Addr) (cdv ct:Value) (us:List Value),us.length=ps.length→bindArgs (PySem.W.fnOf x x (defArgs st) (defBody st) (defScope st) .none kV doc pm an cdv ct) ⟨us,[]⟩=pure (ps.zip us)):Def K mg x st ps f fd:=⟨D.F,PySem.W.mg_of X G D.a,D.F.binds hb⟩
theorem zBf {K:PySem.W.Frag}{x:Str}{st:Stmt}{f:Addr}{oc:Value}{od an:Option Addr}{osl:Array (Option Value)}{kV doc pm cdv ct:Value} (a:PySem.W.nsIn K mainGlobals x=some (some (.ref f))) (l:K.lookup f=some ⟨oc,od,.func (PySem.W.fnOf x x (defArgs st) (defBody st) (defScope st) .none kV doc pm an cdv ct),osl⟩)
  (c:PySem.W.codeIn K cdv x=true) (k:PySem.W.keepIn K (.ref f)=true):DL K x st f (PySem.W.fnOf x x (defArgs st) (defBody st) (defScope st) .none kV doc pm an cdv ct):=⟨a,fun_mk l c k⟩
theorem all_mk {l:PySem.W.OpenLaw}{w:World}{K:PySem.W.Frag}{h:Heap}{mg:Str→Option Value}{fx:Addr} (X:K.In h) (G:h.Ns mainGlobals mg) (hfa:mg "law" = some (.ref fx))
  {fN fU fP fF fCt fm fd fn fg fa fl fM fCs fW fOd fbf fB:Addr}{ts:List Addr}{dN dU dP dF dCt dm dd dn dg da dl dM dCs dW dOd dbf dB:FuncData}{C CR X0 X1 X2 X3 X4 X5 X6 X7 X8 X9 X10 X11 X12 X13 fI TD:Addr}{ocI kVI dcI pmI cdI ctI:Value}{odI anI:Option Addr}{slI:Array (Option Value)}{ocT:Value}{odT:Option Addr}{slT:Array (Option Value)}{nT:Nat}{t0 t1 t2:Tok}
  {fL:Addr}{ocL kVL dcL pmL ctL cdL:Value}{odL anL:Option Addr}{slL:Array (Option Value)}
  (aC:PySem.W.nsIn K mainGlobals "Kind" = some (some (.ref C)))
  (aCR:PySem.W.nsIn K mainGlobals "RestError" = some (some (.ref CR)))
  (aX0:PySem.W.nsIn K mainGlobals "NoKind" = some (some (.ref X0)))
  (aX1:PySem.W.nsIn K mainGlobals "TooMany" = some (some (.ref X1)))
  (aX2:PySem.W.nsIn K mainGlobals "NoName" = some (some (.ref X2)))
  (aX3:PySem.W.nsIn K mainGlobals "NoWish" = some (some (.ref X3)))
  (aX4:PySem.W.nsIn K mainGlobals "NoLimit" = some (some (.ref X4)))
  (aX5:PySem.W.nsIn K mainGlobals "NoState" = some (some (.ref X5)))
  (aX6:PySem.W.nsIn K mainGlobals "NoPlace" = some (some (.ref X6)))
  (aX7:PySem.W.nsIn K mainGlobals "NoDeed" = some (some (.ref X7)))
  (aX8:PySem.W.nsIn K mainGlobals "NoRule" = some (some (.ref X8)))
  (aX9:PySem.W.nsIn K mainGlobals "NoStep" = some (some (.ref X9)))
  (aX10:PySem.W.nsIn K mainGlobals "NoSituation" = some (some (.ref X10)))
  (aX11:PySem.W.nsIn K mainGlobals "NoRound" = some (some (.ref X11)))
  (aX12:PySem.W.nsIn K mainGlobals "NoRow" = some (some (.ref X12)))
  (aX13:PySem.W.nsIn K mainGlobals "NoText" = some (some (.ref X13)))
  (xN:DL K "is_name" sIsName fN dN)
  (xU:DL K "are_unlike_names" sUnlike fU dU)
  (xP:DL K "is_pair_with_values" sPair fP dP)
  (xF:DL K "are_fields" sFields fF dF)
  (xCt:DL K "count_states" sCount fCt dCt)
  (xm:DL K "_law_mixed" sMixed fm dm)
  (xd:DL K "_law_digits" sDigits fd dd)
  (xn:DL K "_law_next" sNext fn dn)
  (xg:DL K "_law_sign" sSign fg dg)
  (xa:DL K "_law_names" sNames fa da)
  (xl:DL K "_law_fields" sLFields fl dl)
  (xM:DL K "_law_marks" sMarks fM dM)
  (xCs:DL K "_law_classes" sClasses fCs dCs)
  (xW:DL K "_law_word" sWord fW dW)
  (xOd:DL K "_law_odd" sOdd fOd dOd)
  (xbf:DL K "_law_bad_fields" sBadFields fbf dbf)
  (xB:DL K "_law_bad" sBad fB dB)
  (xaL:PySem.W.nsIn K mainGlobals "law" = some (some (.ref fL))) (xlL:K.lookup fL=some ⟨ocL,odL,.func (PySem.W.fnOf "law" "law" (defArgs sLaw) (defBody sLaw) (defScope sLaw) .none kVL dcL pmL anL cdL ctL),slL⟩) (xcL:PySem.W.codeIn K cdL "law" = true) (xkL:PySem.W.keepIn K (.ref fL)=true)
  (aI:PySem.W.findIn K (.ref C) "__init__" = some (some (.ref fI))) (iI:PySem.W.isFn K (.ref fI)=true)
  (lI:K.lookup fI=some ⟨ocI,odI,.func (PySem.W.fnOf "__init__" "Kind.__init__" (defArgs sInit) (defBody sInit) (defScope sInit) (.ref TD) kVI dcI pmI anI cdI ctI),slI⟩) (cI:PySem.W.codeIn K cdI "Kind.__init__" = true)
  (lT:K.lookup TD=some ⟨ocT,odT,.seq #[.none] nT,slT⟩)
  (kpg:PySem.W.plainGet K C Str.empty=true) (khd:PySem.W.hasDictIn K C=true) (kpo:PySem.W.plainOver K C=true) (ksa:PySem.W.findIn K (.ref C) "__setattr__" = some (some (.builtin "object.__setattr__"))) (kmk:PySem.W.makesIn K C=true) (kkc:PySem.W.keepIn K (.ref C)=true) (kno0:PySem.W.findIn K (.ref C) "name" = some none) (kno1:PySem.W.findIn K (.ref C) "fields" = some none) (kno2:PySem.W.findIn K (.ref C) "owner" = some none)
  (hn:PySem.W.specialIn K (.builtin "object.__class__") "__get__" = some (some (.builtin "getset_descriptor.__get__"))) (htk:PySem.W.takesIn K (.builtin "object.__class__")=some true)
  (hts:ts=[])
  (c0:PySem.W.nsIn K mainGlobals "LETTERS" = some (some (.str letters t0)))
  (c1:PySem.W.nsIn K mainGlobals "MOST_LETTERS" = some (some (.int 8 t1)))
  (c2:PySem.W.nsIn K mainGlobals "MOST_STATES" = some (some (.int 8 t2)))
  (zVE:PySem.W.nsIn K mainGlobals "ValueError" = some none)
  (xchk:chk K [X0,X1,X2,X3,X4,X5,X6,X7,X8,X9,X10,X11,X12,X13] CR=true)
  (xexm:PySem.W.exmOne K (.ref X0) (.ref CR)=some true)
  (z_isinstance:PySem.W.nsIn K mainGlobals "isinstance" = some none)
  (z_len:PySem.W.nsIn K mainGlobals "len" = some none)
  (z_all:PySem.W.nsIn K mainGlobals "all" = some none)
  (z_set:PySem.W.nsIn K mainGlobals "set" = some none)
  (z_range:PySem.W.nsIn K mainGlobals "range" = some none)
  (z_str:PySem.W.nsIn K mainGlobals "str" = some none)
  (z_list:PySem.W.nsIn K mainGlobals "list" = some none)
  (z_tuple:PySem.W.nsIn K mainGlobals "tuple" = some none)
  (z_zip:PySem.W.nsIn K mainGlobals "zip" = some none)
  (z_dict:PySem.W.nsIn K mainGlobals "dict" = some none)
  (z_enumerate:PySem.W.nsIn K mainGlobals "enumerate" = some none)
  (z_int:PySem.W.nsIn K mainGlobals "int" = some none) :
  ∃ fd:FuncData,(∀ (s:Shared) (v:Value),BindsTo s fd ⟨[v],[]⟩ [("_law_script",v)])∧(∀ T∈ts,(K).lookup T=none∧∃ c,PySem.W.codeHdIn (K) c T=true)∧∀ base:Heap,(K).In base→base.Ns mainGlobals mg→BltAt mg base→FnOk l.prog w (K) mg base CX0 8 fx fd ["_law_script"] (spLaw02 K):=by
 have e:=hfa.symm.trans (PySem.W.mg_of X G xaL);cases e;have T:Tops K mg:=⟨PySem.W.mg_none_of X G z_isinstance,PySem.W.mg_none_of X G z_len,PySem.W.mg_none_of X G z_all,PySem.W.mg_none_of X G z_set,PySem.W.mg_none_of X G z_range,PySem.W.mg_none_of X G z_str,PySem.W.mg_none_of X G z_list,PySem.W.mg_none_of X G z_tuple,PySem.W.mg_none_of X G z_zip,PySem.W.mg_none_of X G z_dict,PySem.W.mg_none_of X G z_enumerate,PySem.W.mg_none_of X G z_int,⟨_,PySem.W.mg_of X G c0⟩,⟨_,PySem.W.mg_of X G c1⟩,⟨_,PySem.W.mg_of X G c2⟩⟩;have DN:=mkD X G xN (ps:=["thing"]) fun _ _ _ _ _ _ us hl=>by obtain ⟨z0,rfl⟩:=len1 hl;rfl
 have DU:=mkD X G xU (ps:=["things"]) fun _ _ _ _ _ _ us hl=>by obtain ⟨z0,rfl⟩:=len1 hl;rfl
 have DP:=mkD X G xP (ps:=["thing"]) fun _ _ _ _ _ _ us hl=>by obtain ⟨z0,rfl⟩:=len1 hl;rfl
 have DF:=mkD X G xF (ps:=["things"]) fun _ _ _ _ _ _ us hl=>by obtain ⟨z0,rfl⟩:=len1 hl;rfl
 have DCt:=mkD X G xCt (ps:=["fields"]) fun _ _ _ _ _ _ us hl=>by obtain ⟨z0,rfl⟩:=len1 hl;rfl
 have Dm:=mkD X G xm (ps:=["_law_cell", "_law_k"]) fun _ _ _ _ _ _ us hl=>by obtain ⟨z0,z1,rfl⟩:=len2 hl;rfl
 have Dd:=mkD X G xd (ps:=["_law_cell"]) fun _ _ _ _ _ _ us hl=>by obtain ⟨z0,rfl⟩:=len1 hl;rfl
 have Dn:=mkD X G xn (ps:=["_law_source", "_law_many"]) fun _ _ _ _ _ _ us hl=>by obtain ⟨z0,z1,rfl⟩:=len2 hl;rfl
 have Dg:=mkD X G xg (ps:=["_law_sign_here", "_law_turn"]) fun _ _ _ _ _ _ us hl=>by obtain ⟨z0,z1,rfl⟩:=len2 hl;rfl
 have Da:=mkD X G xa (ps:=["_law_source", "_law_many"]) fun _ _ _ _ _ _ us hl=>by obtain ⟨z0,z1,rfl⟩:=len2 hl;rfl
 have Dl:=mkD X G xl (ps:=["_law_source"]) fun _ _ _ _ _ _ us hl=>by obtain ⟨z0,rfl⟩:=len1 hl;rfl
 have DM:=mkD X G xM (ps:=["_law_e"]) fun _ _ _ _ _ _ us hl=>by obtain ⟨z0,rfl⟩:=len1 hl;rfl
 have DCs:=mkD X G xCs (ps:=[]) fun _ _ _ _ _ _ us hl=>by rw [List.eq_nil_of_length_eq_zero hl];rfl
 have DW:=mkD X G xW (ps:=["_law_name", "_law_fields_here", "_law_owner"]) fun _ _ _ _ _ _ us hl=>by obtain ⟨z0,z1,z2,rfl⟩:=len3 hl;rfl
 have DOd:=mkD X G xOd (ps:=["_law_source"]) fun _ _ _ _ _ _ us hl=>by obtain ⟨z0,rfl⟩:=len1 hl;rfl
 have Dbf:=mkD X G xbf (ps:=["_law_source", "_law_fields_here"]) fun _ _ _ _ _ _ us hl=>by obtain ⟨z0,z1,rfl⟩:=len2 hl;rfl
 have DB:=mkD X G xB (ps:=["_law_source", "_law_name", "_law_fields_here", "_law_owner"]) fun _ _ _ _ _ _ us hl=>by obtain ⟨z0,z1,z2,z3,rfl⟩:=len4 hl;rfl
 have FL:=fun_mk (st:=sLaw) xlL xcL xkL;have FI:FunD K "__init__" "Kind.__init__" sInit (.ref TD) fI _:=⟨⟨ocI,odI,kVI,dcI,pmI,anI,cdI,ctI,slI,rfl,lI,cI⟩⟩;have bK:Binds K (PySem.W.fnOf "__init__" "Kind.__init__" (defArgs sInit) (defBody sInit) (defScope sInit) (.ref TD) kVI dcI pmI anI cdI ctI) ["self", "name", "fields", "owner"] []:=by
  intro s us hK hl;rw [List.append_nil] at hl ⊢;obtain ⟨a,n,f,o,rfl⟩:=len4 hl;exact PySem.W.binds_K hK rfl lT rfl (by rfl) (by rfl)
 have KC:KCls K mg C fI:=⟨⟨kpg,khd,kpo,ksa⟩,kno0,kno1,kno2,PySem.W.mg_of X G aC,⟨kmk,aI,iI,kkc⟩⟩;have bK2:Binds K (PySem.W.fnOf "__init__" "Kind.__init__" (defArgs sInit) (defBody sInit) (defScope sInit) (.ref TD) kVI dcI pmI anI cdI ctI) ["self", "name", "fields", "owner"] [.none]:=by
  intro s us hK hl;rw [Zb] at hl;obtain ⟨a,n,f,rfl⟩:=len3 (Nat.succ.inj hl);exact PySem.W.binds_K hK rfl lT rfl (by rfl) (by rfl)
 have R:Cls14 K mg (fun k=>[X0,X1,X2,X3,X4,X5,X6,X7,X8,X9,X10,X11,X12,X13].getD k 0) CR:=⟨PySem.W.mg_of X G aX0,PySem.W.mg_of X G aX1,PySem.W.mg_of X G aX2,PySem.W.mg_of X G aX3,PySem.W.mg_of X G aX4,PySem.W.mg_of X G aX5,PySem.W.mg_of X G aX6,PySem.W.mg_of X G aX7,PySem.W.mg_of X G aX8,PySem.W.mg_of X G aX9,PySem.W.mg_of X G aX10,PySem.W.mg_of X G aX11,PySem.W.mg_of X G aX12,PySem.W.mg_of X G aX13,PySem.W.mg_of X G aCR,PySem.W.mg_none_of X G zVE,fun k h=>(chk_at xchk h).1,fun k h=>(chk_at xchk h).2.1,fun k h=>(chk_at xchk h).2.2.1,fun k h=>(chk_at xchk h).2.2.2.1,fun k h=>(chk_at xchk h).2.2.2.2,xexm⟩;have XN:XTop K mg "NoKind" X0:=⟨PySem.W.mg_of X G aX0,(R.x 0 (by decide)).exc⟩;subst hts;refine ⟨PySem.W.fnOf "law" "law" (defArgs sLaw) (defBody sLaw) (defScope sLaw) .none kVL dcL pmL anL cdL ctL,fun s v=>.of_eq rfl,fun T hT=>absurd hT (by simp),fun base _ _ bl=>?_⟩;have hC:Calm (CXM l.prog w):=calmM;have GK:=ok_init (P:=l.prog) (w:=w) (base:=base) hC T FI KC DN DU DP DF DCt;have GBI:=ok_badInit (P:=l.prog) (w:=w) (base:=base) T FI XN DN DU DP DF;have Gn:=ok_next (P:=l.prog) (w:=w) (base:=base) hC Dn.fn Dm;have Ga:=ok_names (P:=l.prog) (w:=w) (base:=base) hC T Da.fn Dm Dn Dg;have Gl:=ok_lfields (P:=l.prog) (w:=w) (base:=base) hC T Dl.fn Dm Dn Dg Da;have Go:=ok_odd (P:=l.prog) (w:=w) (base:=base) hC DOd.fn Dn Gn;have Gbf:=ok_badF (P:=l.prog) (w:=w) (base:=base) hC T Dbf.fn Dn Gn DOd Go;have GB:=ok_bad (P:=l.prog) (w:=w) (base:=base) hC DB.fn Dn Gn DOd Go Dbf Gbf;have GW:=ok_word (P:=l.prog) (w:=w) (base:=base) T R KC DW.fn DM GBI bK;have GCs:=ok_classes (P:=l.prog) (w:=w) (base:=base) hC T R DCs.fn DM;exact (ok_law02 hC FL ⟨T,KC,GK,bK,bK2,Dd,ok_digits Dd.fn,Dn,Gn,Da,Ga,Dl,Gl,DB,GB,DW,GW,DCs,GCs⟩).calm calmM
theorem walk {l:PySem.W.OpenLaw}{q:Program}{loose:List Str}{XP:(Str→Option Value)→Heap→Prop}{YP:World→Heap→Prop}{d:DefRec}{K:Params→PySem.W.Frag}{ts:List Addr} (hn:l.most=some 63) (hdf:d.params.defaults=[])
  (hY:∀ (w:World) (h:Heap),YP w h→(K w.params).In h∧∀ T∈ts,h.get? T=some (PySem.W.tabObj #[]))
  (F:∀ (w:World) (mg:Str→Option Value) (fa:Addr) (h:Heap),(K w.params).In h→h.Ns mainGlobals mg→mg d.name=some (.ref fa) →
   ∃ fd:FuncData,(∀ (s:Shared) (v:Value),BindsTo s fd ⟨[v],[]⟩ [("_law_script",v)])∧(∀ T∈ts,(K w.params).lookup T=none∧∃ c,PySem.W.codeHdIn (K w.params) c T=true)∧∀ base:Heap,(K w.params).In base→base.Ns mainGlobals mg→BltAt mg base→FnOk l.prog w (K w.params) mg base CX0 8 fa fd ["_law_script"] (spLaw02 (K w.params))) :
  PySem.W.WalkO q loose XP YP l.row.toRowW d [] (fun f vs=>PySem.call f vs):=by
 refine Att.attach_call hn hdf fun w s₀ s₁ mg mb fa o pm cd doc a vs ns G Y ho hd hcd hmg hobj hints hlen hg=>?_;obtain ⟨KX,hT⟩:=hY w _ Y;obtain ⟨fd,hb,hall,hF⟩:=F w mg fa _ KX G.T.g hmg;exact law_callTs KX G.T.g G.T.b G.T.builtins G.T.nolimit hg (blt_of G.T) hT (fun T h=>(hall T h).1) (fun T h=>(hall T h).2) hobj hints (Zs hlen (by decide)) ⟨fun _=>rfl,by decide,by decide⟩ hF hb (fun H hO hS=>⟨a,ns,rfl,hS,hlen,fun _=>rfl⟩) fun _ _ _ z=>z
end L2.W
theorem PySem.W.Fast.tw10663745333796899233:True:=trivial
theorem PySem.W.Fast.tw2721451061206065001:True:=trivial
theorem PySem.W.Fast.tw11125709562895955380:True:=trivial
theorem PySem.W.Fast.tw1579517996818554529:True:=trivial
theorem PySem.W.Fast.tw4992166121103149764:True:=trivial
theorem PySem.W.Fast.tw2021937571882390109:True:=trivial
theorem PySem.W.Fast.tw13128784801424819089:True:=trivial
theorem PySem.W.Fast.tw948966440480449858:True:=trivial
theorem PySem.W.Fast.tw6430454934046201211:True:=trivial
theorem PySem.W.Fast.tw8063695828918705758:True:=trivial
theorem PySem.W.Fast.tw6066272866117964027:True:=trivial
theorem PySem.W.Fast.tw8422091261037140089:True:=trivial
theorem PySem.W.Fast.tw11859603040704967907:True:=trivial
theorem PySem.W.Fast.tw7536411794189881970:True:=trivial
theorem PySem.W.Fast.tw16235939850516190483:True:=trivial
theorem PySem.W.Fast.tw10182750542162913823:True:=trivial
theorem PySem.W.Fast.tw14582423076156925551:True:=trivial
theorem PySem.W.Fast.tw2893431872224707556:True:=trivial
theorem PySem.W.Fast.tw15128232689681341149:True:=trivial
theorem PySem.W.Fast.tw1877610915452218708:True:=trivial
theorem PySem.W.Fast.tw16908957165157515612:True:=trivial
theorem PySem.W.Fast.tw2272277597780487048:True:=trivial
theorem PySem.W.Fast.tw5245536399056426029:True:=trivial
theorem PySem.W.Fast.tw3701872589353613728:True:=trivial
theorem PySem.W.Fast.tw6989692364541671789:True:=trivial
theorem PySem.W.Fast.tw4071495666485083092:True:=trivial
theorem PySem.W.Fast.tw39648533955794145:True:=trivial
theorem PySem.W.Fast.tw666119173586127546:True:=trivial
theorem PySem.W.Fast.tw14040404955148494250:True:=trivial
theorem PySem.W.Fast.tw4852169215911114692:True:=trivial
theorem PySem.W.Fast.tw17924086194230300967:True:=trivial
theorem PySem.W.Fast.tw3477486240925182868:True:=trivial
theorem PySem.W.Fast.tw17856023143032472378:True:=trivial
theorem PySem.W.Fast.tw15257989757650703564:True:=trivial
theorem PySem.W.Fast.tw1066847433978445632:True:=trivial
theorem PySem.W.Fast.tw767736260451725635:True:=trivial
theorem PySem.W.Fast.tw1871395393724343761:True:=trivial
theorem PySem.W.Fast.tw874586012648620058:True:=trivial
theorem PySem.W.Fast.tw10380457596108241786:True:=trivial
theorem PySem.W.Fast.tw306770679057120073:True:=trivial
theorem PySem.W.Fast.tw17592625050288056629:True:=trivial
theorem PySem.W.Fast.tw12735488944283836666:True:=trivial
theorem PySem.W.Fast.tw13154863816624977137:True:=trivial
theorem PySem.W.Fast.tw15744311966592066553:True:=trivial
theorem PySem.W.Fast.tw14761402864970325908:True:=trivial
theorem PySem.W.Fast.tw13021446480559726249:True:=trivial
theorem PySem.W.Fast.tw605086245244151946:True:=trivial
theorem PySem.W.Fast.tw11713960505892636416:True:=trivial
theorem PySem.W.Fast.tw9489006659901295296:True:=trivial
theorem PySem.W.Fast.tw4135211465069767939:True:=trivial
theorem PySem.W.Fast.tw5170782933600974171:True:=trivial
theorem PySem.W.Fast.tw3548828437235384950:True:=trivial
theorem PySem.W.Fast.tw6418870923441799968:True:=trivial
theorem PySem.W.Fast.tw17116099480765521275:True:=trivial
theorem PySem.W.Fast.tw17669673891984103195:True:=trivial
theorem PySem.W.Fast.tw16497065859969183194:True:=trivial
theorem PySem.W.Fast.tw594015562720326937:True:=trivial
theorem PySem.W.Fast.tw3805388401864170700:True:=trivial
theorem PySem.W.Fast.tw3635850784591648835:True:=trivial
theorem PySem.W.Fast.tw14342683251462010870:True:=trivial
theorem PySem.W.Fast.tw7100631380893171375:True:=trivial
theorem PySem.W.Fast.tw10824467026092922859:True:=trivial
theorem PySem.W.Fast.tw10111099387601100540:True:=trivial
theorem PySem.W.Fast.tw12148241940040858901:True:=trivial
theorem PySem.W.Fast.tw13824712208870842750:True:=trivial
theorem PySem.W.Fast.tw4184701757712986938:True:=trivial
theorem PySem.W.Fast.tw7115122166683859645:True:=trivial
theorem PySem.W.Fast.tw3201893782874298810:True:=trivial
theorem PySem.W.Fast.tw6028924630127698878:True:=trivial
theorem PySem.W.Fast.tw6339687091165874132:True:=trivial
theorem PySem.W.Fast.tw6428318585585202917:True:=trivial
theorem PySem.W.Fast.tw10020431272071031679:True:=trivial
open PySem PySem.W PyProof.Rows
set_option maxRecDepth 100000 in
set_option maxHeartbeats 0 in
theorem PySem.Challenge.cw_cometorest_k02_kinds_made_holds : PySem.Challenge.rw_cometorest_k02_kinds_made.Holds := by
 w_on;o_law;k_head;(case hw=>w_witness2)
 k_fill
 refine L2.W.walk (l:=PySem.Challenge.rw_cometorest_k02_kinds_made) (ts:=[]) rfl rfl (fun w h Y=>⟨PySem.W.kIn_of Y,fun T hT=>absurd hT (by simp)⟩) ?F
 case F =>
  intro w mg fa h KX G hmg;refine' L2.W.all_mk KX G hmg ?aC ?aCR ?aX0 ?aX1 ?aX2 ?aX3 ?aX4 ?aX5 ?aX6 ?aX7 ?aX8 ?aX9 ?aX10 ?aX11 ?aX12 ?aX13 ?xN ?xU ?xP ?xF ?xCt ?xm ?xd ?xn ?xg ?xa ?xl ?xM ?xCs ?xW ?xOd ?xbf ?xB ?xaL ?xlL ?xcL ?xkL ?aI ?iI ?lI ?cI ?lT ?kpg ?khd ?kpo ?ksa ?kmk ?kkc ?kno0 ?kno1 ?kno2 ?hn ?htk ?hts ?c0 ?c1 ?c2 ?zVE ?xchk ?xexm ?z_isinstance ?z_len ?z_all ?z_set ?z_range ?z_str ?z_list ?z_tuple ?z_zip ?z_dict ?z_enumerate ?z_int
  (case aC=>k_is)
  (case aCR=>k_is)
  (case aX0=>k_is)
  (case aX1=>k_is)
  (case aX2=>k_is)
  (case aX3=>k_is)
  (case aX4=>k_is)
  (case aX5=>k_is)
  (case aX6=>k_is)
  (case aX7=>k_is)
  (case aX8=>k_is)
  (case aX9=>k_is)
  (case aX10=>k_is)
  (case aX11=>k_is)
  (case aX12=>k_is)
  (case aX13=>k_is)
  (case xN=>apply L2.W.zBf;iterate 4 k_is)
  (case xU=>apply L2.W.zBf;iterate 4 k_is)
  (case xP=>apply L2.W.zBf;iterate 4 k_is)
  (case xF=>apply L2.W.zBf;iterate 4 k_is)
  (case xCt=>apply L2.W.zBf;iterate 4 k_is)
  (case xm=>apply L2.W.zBf;iterate 4 k_is)
  (case xd=>apply L2.W.zBf;iterate 4 k_is)
  (case xn=>apply L2.W.zBf;iterate 4 k_is)
  (case xg=>apply L2.W.zBf;iterate 4 k_is)
  (case xa=>apply L2.W.zBf;iterate 4 k_is)
  (case xl=>apply L2.W.zBf;iterate 4 k_is)
  (case xM=>apply L2.W.zBf;iterate 4 k_is)
  (case xCs=>apply L2.W.zBf;iterate 4 k_is)
  (case xW=>apply L2.W.zBf;iterate 4 k_is)
  (case xOd=>apply L2.W.zBf;iterate 4 k_is)
  (case xbf=>apply L2.W.zBf;iterate 4 k_is)
  (case xB=>apply L2.W.zBf;iterate 4 k_is)
  (case xaL=>k_is)
  (case xlL=>k_is)
  (case xcL=>k_is)
  (case xkL=>k_is)
  (case aI=>k_is)
  (case iI=>k_is)
  (case lI=>k_is)
  (case cI=>k_is)
  (case lT=>k_is)
  (case kpg=>k_is)
  (case khd=>k_is)
  (case kpo=>k_is)
  (case ksa=>k_is)
  (case kmk=>k_is)
  (case kkc=>k_is)
  (case kno0=>k_is)
  (case kno1=>k_is)
  (case kno2=>k_is)
  (case hn=>k_is)
  (case htk=>k_is)
  (case hts=>rfl)
  (case c0=>k_is)
  (case c1=>k_is)
  (case c2=>k_is)
  (case zVE=>first | k_is | rfl | kernel_rfl | decide +kernel)
  (case xchk=>first | k_is | rfl | kernel_rfl | decide +kernel)
  (case xexm=>first | k_is | rfl | kernel_rfl | decide +kernel)
  (case z_isinstance=>k_is)
  (case z_len=>k_is)
  (case z_all=>k_is)
  (case z_set=>k_is)
  (case z_range=>k_is)
  (case z_str=>k_is)
  (case z_list=>k_is)
  (case z_tuple=>k_is)
  (case z_zip=>k_is)
  (case z_dict=>k_is)
  (case z_enumerate=>k_is)
  (case z_int=>k_is)
