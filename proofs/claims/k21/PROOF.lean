import PyProof.Rows.All
import Wide.All
import OpenK.AllK
import Wide.FinOn
import Lean
import PyProof.EqAt
import PyProof.EqKinds
import PyProof.TupleCall
import PySem.Challenge.RW_cometorest_k21_what_is_a_deed
import KE.KMinKey
import KE.KLam
import KE.KNestM
import KE.KDictList
import PyProof.EnumMake
import PyProof.EnumFor
import PyProof.EnumStmt
import PyProof.AttrMissHeap
import KE.KDictOf
import PyProof.StrLawsChain
import PyProof.StrLawsTight
import PyProof.Rows.StrItems
import PyProof.Rows.StrSplitCount
import PyProof.FString
import KE.KIntText
import KE.KTryMore
import PyProof.NsDelKeeps
import PyProof.ExcClass3
import PyProof.ExcBaseAll.ValueError
import PyProof.ExcAttrAll.ValueError
import PyProof.NeKinds
import PyProof.FactsAll.dict
import KE.KDictSum
import PyProof.DictItems
import KE.KPairComp
import KE.KxWritten
set_option Elab.async false
set_option linter.all false
set_option maxRecDepth 100000
namespace L2
open PySem PySem.Spec PyProof.Rows
noncomputable abbrev Key:=Sum Int Str
noncomputable def keyIs:Key→Value→Bool
 | .inl k,v=>Value.isInt k v
 | .inr x,v=>Value.isStrOf x v
noncomputable def keyH (w:World):Key→Int
 | .inl k=>hashInt k
 | .inr x=>hashStr w x
theorem zAm:∀ {k:Key}{v:Value},keyIs k v=true→(∃ i t,k=Sum.inl i∧v=Value.int i t)∨(∃ x t,k=Sum.inr x∧v=Value.str x t)
 | .inl i,v,h=>by
  obtain ⟨t,e⟩:=Value.isInt_shape (k:=i) (v:=v) h
  exact .inl ⟨i,t,rfl,e⟩
 | .inr x,v,h=>by
  obtain ⟨t,e⟩:=Value.isStrOf_shape (x:=x) (v:=v) h
  exact .inr ⟨x,t,rfl,e⟩
theorem key_ll (a b:Int):decide ((Sum.inl a:Key)=Sum.inl b)=(a == b):=by
 by_cases e:a=b
 ·subst e;simp
 ·have h:¬ (Sum.inl a:Key)=Sum.inl b:=fun q=>e (Sum.inl.inj q)
  rw [decide_eq_false h]
  exact (beq_eq_false_iff_ne.mpr e).symm
theorem key_rr (a b:Str):decide ((Sum.inr a:Key)=Sum.inr b)=decide (a=b):=by
 by_cases e:a=b
 ·subst e;simp
 ·have h:¬ (Sum.inr a:Key)=Sum.inr b:=fun q=>e (Sum.inr.inj q)
  rw [decide_eq_false h,decide_eq_false e]
theorem key_lr (a:Int) (b:Str):decide ((Sum.inl a:Key)=Sum.inr b)=false:=decide_eq_false (fun q=>nomatch q)
theorem key_rl (a:Str) (b:Int):decide ((Sum.inr a:Key)=Sum.inl b)=false:=decide_eq_false (fun q=>nomatch q)
noncomputable def mixKind (prog:Program) (w:World):PySem.KeyKind prog w Key where
 is:=keyIs
 hash:=keyH w
 inj:=fun v a b ha hb=>by
  rcases zAm ha with ⟨i,t,rfl,rfl⟩ | ⟨x,t,rfl,rfl⟩
  ·rcases zAm hb with ⟨j,u,rfl,e⟩ | ⟨y,u,rfl,e⟩
   ·injection e with e1 _;rw [e1]
   ·exact nomatch e
  ·rcases zAm hb with ⟨j,u,rfl,e⟩ | ⟨y,u,rfl,e⟩
   ·exact nomatch e
   ·injection e with e1 _;rw [e1]
 byValue:=fun k v h=>by
  rcases zAm h with ⟨i,t,rfl,rfl⟩ | ⟨x,t,rfl,rfl⟩ <;> rfl
 pyHash:=fun hv h=>by
  rcases zAm hv with ⟨i,t,rfl,rfl⟩ | ⟨x,t,rfl,rfl⟩
  ·exact wpAny_pyHash_int h
  ·exact wpAny_pyHash_str h
 eqBool:=fun hu hv h=>by
  rcases zAm hu with ⟨i,t,rfl,rfl⟩ | ⟨x,t,rfl,rfl⟩
  ·rcases zAm hv with ⟨j,u,rfl,rfl⟩ | ⟨y,u,rfl,rfl⟩
   ·rw [key_ll] at h;exact wpAny_eqBool_int h
   ·rw [key_lr] at h;exact SeqAt.EqAt.int_str i t y u _ _ _ _ h
  ·rcases zAm hv with ⟨j,u,rfl,rfl⟩ | ⟨y,u,rfl,rfl⟩
   ·rw [key_rl] at h;exact SeqAt.EqAt.str_int x t j u _ _ _ _ h
   ·rw [key_rr] at h;exact wpAny_eqBool_str h
 «strs»:=fun k x t v h=>by
  rcases zAm h with ⟨i,u,rfl,e⟩ | ⟨y,u,rfl,e⟩
  ·exact nomatch e
  ·injection e with e1 _
   subst e1
   cases v <;> rfl
end L2
namespace L2
open PySem PySem.Spec PyProof.Rows
inductive V where
 | non | bl (b:Bool) | int (i:Int) | str (x:Str) | byt (b:Array UInt8) | flt (b:UInt64) | ref (a:Addr) | ty (n:String)
 deriving DecidableEq
noncomputable def RelV:V→Value→Prop
 | .non,u=>u=Value.none
 | .bl b,u=>u=Value.bool b
 | .int i,u=>∃ t,u=Value.int i t
 | .str x,u=>∃ t,u=Value.str x t
 | .byt b,u=>∃ t,u=Value.bytes b t
 | .flt b,u=>∃ t,u=Value.float b t
 | .ref a,u=>u=Value.ref a
 | .ty n,u=>u=Value.type n
noncomputable abbrev Vals:List V→List Value→Prop:=Paired RelV
theorem Vals.length {xs:List V}{us:List Value} (r:Vals xs us):xs.length=us.length:=Paired.length r
theorem Vals.get:∀ {xs:List V}{us:List Value}{i:Nat}{x:V},Vals xs us→xs[i]? = some x→∃ u,us[i]? = some u∧RelV x u
 | _,_,_,_,.nil,e=>by simp at e
 | _,_,0,_,.cons r _,e=>by simp at e;subst e;exact ⟨_,rfl,r⟩
 | _,_,i + 1,x,.cons _ t,e=>by
  obtain ⟨u,h1,h2⟩:=Vals.get (i:=i) (x:=x) t (by simpa using e)
  exact ⟨u,by simpa using h1,h2⟩
theorem Vals.set {x:V}{u:Value} (r:RelV x u):∀ {xs:List V}{us:List Value} (i:Nat),Vals xs us→Vals (xs.set i x) (us.set i u)
 | _,_,_,.nil=>.nil
 | _,_,0,.cons _ t=>.cons r t
 | _,_,i + 1,.cons q t=>.cons q (Vals.set r i t)
theorem Vals.append:∀ {xs ys:List V}{us ws:List Value},Vals xs us→Vals ys ws→Vals (xs++ys) (us++ws)
 | _,_,_,_,.nil,s=>s
 | _,_,_,_,.cons r t,s=>.cons r (Vals.append t s)
theorem Vals.take:∀ {xs:List V}{us:List Value} (n:Nat),Vals xs us→Vals (xs.take n) (us.take n)
 | _,_,0,_=>.nil
 | _,_,_ + 1,.nil=>.nil
 | _,_,n + 1,.cons r t=>.cons r (Vals.take n t)
theorem Vals.drop:∀ {xs:List V}{us:List Value} (n:Nat),Vals xs us→Vals (xs.drop n) (us.drop n)
 | _,_,0,r=>r
 | _,_,_ + 1,.nil=>.nil
 | _,_,n + 1,.cons _ t=>Vals.drop n t
noncomputable def RelO:Option V→Option Value→Prop
 | some v,some u=>RelV v u
 | none,none=>True
 | _,_=>False
noncomputable def KV {κ : Type}:List (κ×V)→List (κ×Value)→Prop:=Paired fun (p : κ×V) (q : κ×Value)=>p.1=q.1∧RelV p.2 q.2
noncomputable def kV:Key→V
 | .inl i=>.int i
 | .inr x=>.str x
inductive HO where
 | lst (xs:List V)
 | tup (xs:List V)
 | dK (kvs:List (Key×V)) | dT (kvs:List (List Key×V))
 | set (S:Int→Bool) (n:Nat)
 | ins (C dx:Addr) (fs:List (Str×V))
 | own (x:Addr)
 | xd (fs:List (Str×V))
 | met (f x:Addr)
 | rng (lo hi:Int)
 | frz (o:Obj) (u:HO)
 | tbl (ps:Array Value)
 | ext (φ : Heap→Prop)
noncomputable abbrev Hp:=Addr→Option HO
noncomputable def upd (H:Hp) (a:Addr) (o:HO):Hp:=fun b=>if b=a then some o else H b
theorem zA1 {H:Hp}{a:Addr}{o:HO}:upd H a o a=some o:=by unfold upd;rw [if_pos rfl]
theorem zA9 {H:Hp}{a b:Addr}{o:HO} (h:b≠a):upd H a o b=H b:=by unfold upd;rw [if_neg h]
theorem zB5 {H:Hp}{a:Addr}{o u:HO}:upd (upd H a o) a u=upd H a u:=by
 funext b;unfold upd;split <;> rfl
theorem ne_of {H:Hp}{a b:Addr}{o u:HO} (h:H a=some o) (h':H b=some u) (d:o≠u):a≠b:=by
 intro e;subst e;rw [h] at h';exact d (Option.some.inj h')
theorem zA8 {H:Hp}{a b:Addr}{o:HO} (h:H a=some o) (h':H b=none):a≠b:=by
 intro e;subst e;rw [h] at h';cases h'
section
variable (P:Program) (w:World)
noncomputable def ObjOk (H:Hp) (h:Heap) (a:Addr):HO→Prop
 | .lst xs=>xs.length≤sizeLine∧∃ (its:List Value) (n:Nat),Vals xs its∧h.get? a=some { cls:=.type "list",data:=.seq its.toArray n }
 | .tup xs=>xs.length≤sizeLine∧∃ its:List Value,Vals xs its∧IsTup h a its.toArray
 | .dK kvs=>kvs.length≤sizeLine∧(a == sysModules)=false∧∃ vs,KV kvs vs∧h.DictOf (mixKind P w) a vs
 | .dT kvs=>kvs.length≤sizeLine∧(a == sysModules)=false∧∃ xs:List (List Key×Addr×Value),
   Paired (fun (p:List Key×V) (q:List Key×Addr×Value)=>p.1=q.1∧H q.2.1=some (.tup (p.1.map kV))∧RelV p.2 q.2.2) kvs xs ∧
   ∃ o es ep,h.get? a=some o∧o.ExactDict∧o.data=.dict es ep∧es.toList=xs.map (entryOfKey (tupleKind (mixKind P w)))∧(xs.map (·.1)).Nodup
 | .set S n=>h.SetOf (intKind P w) a S n
 | .ins C dx fs=>H dx=some (.own a)∧fs.length≤1000∧dx≠a∧h.get? a=some (PySem.W.instObj C dx) ∧
   ∃ mA,h.Ns1 dx mA∧(∀ f,RelO (fs.lookup f) (mA f))∧PySem.Within mA (fs.map (·.1))
 | .own _=>∃ o,h.get? a=some o
 | .xd fs=>∃ mA,h.Ns1 a mA∧∀ f,RelO (fs.lookup f) (mA f)
 | .rng lo hi=>∃ t u v,h.get? a=some { cls:=.type "range",data:=.fields #[.int lo t,.int hi u,.int 1 v] }
 | .frz o u=>h.get? a=some o∧ObjOk H h a u
 | .tbl ps=>h.get? a=some { cls:=.none,data:=.fields ps }
 | .met f x=>h.get? a=some (PySem.W.methodObj (.ref f) (.ref x))
 | .ext φ=>φ h∧(∃ o,h.get? a=some o)∧∀ h1 h2:Heap,φ h1→(∀ o,h1.get? a=some o→h2.get? a=some o)→φ h2
noncomputable def HOk (H:Hp) (h:Heap):Prop:=∀ a o,H a=some o→ObjOk P w H h a o
end
section
variable {P:Program}{w:World}{H H':Hp}{h h':Heap}{a:Addr}{o:HO}
theorem ObjOk.lt (x:ObjOk P w H h a o):a < h.objs.size:=by
 cases o with
 | lst xs=>obtain ⟨_,_,_,_,e⟩:=x;exact Heap.lt_size e
 | tup xs=>obtain ⟨_,_,_,p⟩:=x;exact p.lt
 | dK kvs=>obtain ⟨_,_,_,_,o,_,_,e,_⟩:=x;exact Heap.lt_size e
 | dT kvs=>obtain ⟨_,_,_,_,o,_,_,e,_⟩:=x;exact Heap.lt_size e
 | set S n=>obtain ⟨o,_,_,_,e,_⟩:=x;exact Heap.lt_size e
 | ins C dx fs=>obtain ⟨_,_,_,e,_⟩:=x;exact Heap.lt_size e
 | own y=>obtain ⟨_,e⟩:=x;exact Heap.lt_size e
 | xd fs=>obtain ⟨_,⟨_,_,_,e,_⟩,_⟩:=x;exact Heap.lt_size e
 | rng lo hi=>obtain ⟨_,_,_,e⟩:=x;exact Heap.lt_size e
 | frz ob u=>obtain ⟨e,_⟩:=x;exact Heap.lt_size e
 | tbl ps=>exact Heap.lt_size (show h.get? a=some _ from x)
 | met f y=>exact Heap.lt_size (show h.get? a=some _ from x)
 | ext φ=>obtain ⟨_,⟨_,e⟩,_⟩:=x;exact Heap.lt_size e
theorem Paired.mapP {α β : Type}{F G : α→β→Prop}:∀ {l₁ : List α}{l₂ : List β},Paired F l₁ l₂→(∀ a b,F a b→G a b)→Paired G l₁ l₂
 | _,_,.nil,_=>.nil
 | _,_,.cons r t,f=>.cons (f _ _ r) (Paired.mapP t f)
theorem ObjOk.stay (x:ObjOk P w H h a o) (k:∀ b u,(b=a∨H b=some (.own a))→h.get? b=some u→h'.get? b=some u)
  (ho:∀ b,H b=some (.own a)→H' b=some (.own a)) (ht:∀ b xs,H b=some (.tup xs)→H' b=some (.tup xs)):ObjOk P w H' h' a o:=by
 induction o with
 | lst xs=>obtain ⟨z,its,n,r,e⟩:=x;exact ⟨z,its,n,r,k _ _ (.inl rfl) e⟩
 | tup xs=>obtain ⟨z,its,r,ob,e,c⟩:=x;exact ⟨z,its,r,ob,k _ _ (.inl rfl) e,c⟩
 | dK kvs=>obtain ⟨z,y,vs,r,ob,es,ep,e,c⟩:=x;exact ⟨z,y,vs,r,ob,es,ep,k _ _ (.inl rfl) e,c⟩
 | dT kvs =>
  obtain ⟨z,y,xs,r,ob,es,ep,e,c⟩:=x
  exact ⟨z,y,xs,Paired.mapP r fun p q z=>⟨z.1,ht _ _ z.2.1,z.2.2⟩,ob,es,ep,k _ _ (.inl rfl) e,c⟩
 | set S n=>obtain ⟨ob,es,ep,t,e,c⟩:=x;exact ⟨ob,es,ep,t,k _ _ (.inl rfl) e,c⟩
 | ins C dx fs =>
  obtain ⟨d,z,ne,e,mA,⟨od,es,ep,e2,c⟩,r⟩:=x
  exact ⟨ho _ d,z,ne,k _ _ (.inl rfl) e,mA,⟨od,es,ep,k _ _ (.inr d) e2,c⟩,r⟩
 | own y=>obtain ⟨ob,e⟩:=x;exact ⟨ob,k _ _ (.inl rfl) e⟩
 | xd fs=>obtain ⟨mA,⟨od,es,ep,e,c⟩,r⟩:=x;exact ⟨mA,⟨od,es,ep,k _ _ (.inl rfl) e,c⟩,r⟩
 | rng lo hi=>obtain ⟨t,u,v,e⟩:=x;exact ⟨t,u,v,k _ _ (.inl rfl) e⟩
 | frz ob u ih=>obtain ⟨e,q⟩:=x;exact ⟨k _ _ (.inl rfl) e,ih q⟩
 | tbl ps =>
  have e:h.get? a=some { cls:=.none,data:=.fields ps }:=x
  show h'.get? a=some { cls:=.none,data:=.fields ps }
  exact k a _ (.inl rfl) e
 | met f y =>
  have e:h.get? a=some (PySem.W.methodObj (.ref f) (.ref y)):=x
  show h'.get? a=some (PySem.W.methodObj (.ref f) (.ref y))
  exact k a _ (.inl rfl) e
 | ext φ=>obtain ⟨p,⟨o,e⟩,st⟩:=x;exact ⟨st _ _ p fun o q=>k _ _ (.inl rfl) q,⟨o,k _ _ (.inl rfl) e⟩,st⟩
theorem HOk.lt (x:HOk P w H h) (e:H a=some o):a < h.objs.size:=(x a o e).lt
theorem HOk.fresh (x:HOk P w H h) (e:h.objs.size≤a):H a=none:=by
 cases q:H a with
 | none=>rfl
 | some u=>exact absurd (Nat.lt_of_lt_of_le (x.lt q) e) (Nat.lt_irrefl _)
theorem HOk.kept (x:HOk P w H h) (k:∀ b u,h.get? b=some u→h'.get? b=some u):HOk P w H h':=fun a o e =>
 (x a o e).stay (fun b u _ q=>k b u q) (fun _ q=>q) fun _ _ q=>q
theorem HOk.laid (x:HOk P w H h) (k:∀ b u,h.get? b=some u→h'.get? b=some u) (hp:h.objs.size≤a) (new:ObjOk P w (upd H a o) h' a o):HOk P w (upd H a o) h':=fun b u e=>by
 have hn:=x.fresh hp
 by_cases hb:b=a
 ·subst hb;rw [zA1] at e;cases e;exact new
 ·rw [zA9 hb] at e
  exact (x b u e).stay (fun c v _ q=>k c v q) (fun c q=>by rw [zA9 (zA8 q hn)];exact q) fun c xs q=>by rw [zA9 (zA8 q hn)];exact q
end
noncomputable def Rd (H:Hp) (a:Addr) (u:HO):Prop:=H a=some u∨∃ o,H a=some (.frz o u)
theorem Rd.ok {P:Program}{w:World}{H:Hp}{h:Heap}{a:Addr}{u:HO} (r:Rd H a u) (x:HOk P w H h):ObjOk P w H h a u:=by
 rcases r with r | ⟨o,r⟩
 ·exact x a u r
 ·obtain ⟨_,q⟩:=x a _ r
  exact q
noncomputable def Mut:Option HO→Prop
 | some (.lst _)=>True
 | some (.dK _)=>True
 | some (.dT _)=>True
 | some (.set _ _)=>True
 | some (.ins _ _ _)=>True
 | some (.ext _)=>True
 | _=>False
section
variable {P:Program}{w:World}{H:Hp}{h h':Heap}{x e:Addr}{o':HO}
theorem HOk.write (ok:HOk P w H h) (mu:Mut (H x)) (he:e=x∨H e=some (.own x)) (k:∀ b u,b≠e→h.get? b=some u→h'.get? b=some u) (heo:∃ u,h'.get? e=some u)
  (new:ObjOk P w (upd H x o') h' x o'):HOk P w (upd H x o') h':=fun b u q=>by
 have nown:∀ c y,H c=some (.own y)→c≠x:=fun c y r z=>by subst z;rw [r] at mu;exact mu
 have ntup:∀ c xs,H c=some (.tup xs)→c≠x:=fun c xs r z=>by subst z;rw [r] at mu;exact mu
 by_cases hb:b=x
 ·subst hb;rw [zA1] at q;cases q;exact new
 ·rw [zA9 hb] at q
  by_cases hbe:b=e
  ·have q':H b=some (.own x):=by
    rcases he with z | z
    ·exact absurd (hbe.trans z) hb
    ·rw [hbe];exact z
   rw [q] at q';cases q'
   obtain ⟨v,hv⟩:=heo
   exact ⟨v,by rw [hbe];exact hv⟩
  ·refine (ok b u q).stay (fun c v hc r=>k c v ?_ r) (fun c r=>by rw [zA9 (nown c b r)];exact r) fun c xs r=>by rw [zA9 (ntup c xs r)];exact r
   rcases hc with rfl | hc
   ·exact hbe
   ·rintro rfl
    rcases he with z | z
    ·exact nown c b hc z
    ·rw [hc] at z;cases z;exact hb rfl
end
structure Un (fs ex:List Addr) (H H':Hp) (h h':Heap):Prop where
 keep:∀ b o,h.get? b=some o→H b=none→b∉fs→b∉ex→h'.get? b=some o
 slot:∀ b o,h.get? b=some o→H b=none→b∈fs→b∉ex→∃ sl,h'.get? b=some { o with slots:=sl }
 free:∀ b o,h.get? b=some o→H b=none→b∉ex→H' b=none
 there:∀ b o,h.get? b=some o→b∉ex→∃ o',h'.get? b=some o'
 tups:∀ b xs,H b=some (.tup xs)→H' b=some (.tup xs)
 frzs:∀ b o u,H b=some (.frz o u)→H' b=some (.frz o u)
 tbls:∀ b ps,H b=some (.tbl ps)→∃ more,H' b=some (.tbl (ps++more))
section
variable {fs fs' ex ex':List Addr}{H H1 H2:Hp}{h h1 h2 h':Heap}{a x e:Addr}{o:HO}
theorem Un.any (u:Un fs ex H H1 h h1) {b:Addr}{ob:Obj} (q:h.get? b=some ob) (n:H b=none) (hx:b∉ex):∃ sl,h1.get? b=some { ob with slots:=sl }:=by
 by_cases hb:b∈fs
 ·exact u.slot b ob q n hb hx
 ·exact ⟨ob.slots,u.keep b ob q n hb hx⟩
theorem Un.trans (a:Un fs ex H H1 h h1) (b:Un fs ex H1 H2 h1 h2):Un fs ex H H2 h h2 where
 keep:=fun c ob q n hc hx=>b.keep c ob (a.keep c ob q n hc hx) (a.free c ob q n hx) hc hx
 slot:=fun c ob q n hc hx=>by
  obtain ⟨sl,e1⟩:=a.slot c ob q n hc hx
  obtain ⟨sl',e2⟩:=b.slot c _ e1 (a.free c ob q n hx) hc hx
  exact ⟨sl',e2⟩
 free:=fun c ob q n hx=>by
  obtain ⟨o',e1⟩:=a.there c ob q hx
  exact b.free c o' e1 (a.free c ob q n hx) hx
 there:=fun c ob q hx=>by
  obtain ⟨o',e1⟩:=a.there c ob q hx
  exact b.there c o' e1 hx
 tups:=fun c xs q=>b.tups c xs (a.tups c xs q)
 frzs:=fun c ob xs q=>b.frzs c ob xs (a.frzs c ob xs q)
 tbls:=fun c ps q=>by
  obtain ⟨m1,e1⟩:=a.tbls c ps q
  obtain ⟨m2,e2⟩:=b.tbls c _ e1
  exact ⟨m1++m2,by rw [e2,Array.append_assoc]⟩
theorem Un.kept (k:∀ b u,h.get? b=some u→h'.get? b=some u):Un fs ex H H h h' :=
 ⟨fun b ob q _ _ _=>k b ob q,fun b ob q _ _ _=>⟨ob.slots,k b ob q⟩,fun _ _ _ n _=>n,fun b ob q _=>⟨ob,k b ob q⟩,fun _ _ q=>q,fun _ _ _ q=>q,fun _ ps q=>⟨#[],by rw [q];simp⟩⟩
theorem Un.refl:Un fs ex H H h h:=Un.kept fun _ _ q=>q
theorem Un.laid (k:∀ b u,h.get? b=some u→h'.get? b=some u) (hp:h.objs.size≤a) (hn:H a=none):Un fs ex H (upd H a o) h h' where
 keep:=fun b u q _ _ _=>k b u q
 slot:=fun b u q _ _ _=>⟨u.slots,k b u q⟩
 free:=fun b u q n _=>by rw [zA9 (Nat.ne_of_lt (Nat.lt_of_lt_of_le (Heap.lt_size q) hp))];exact n
 there:=fun b u q _=>⟨u,k b u q⟩
 tups:=fun b xs q=>by rw [zA9 (zA8 q hn)];exact q
 frzs:=fun b u xs q=>by rw [zA9 (zA8 q hn)];exact q
 tbls:=fun b ps q=>⟨#[],by rw [zA9 (zA8 q hn),q];simp⟩
theorem Un.write (mu:Mut (H x)) (he:e=x∨H e=some (.own x)) (k:∀ b u,b≠e→h.get? b=some u→h'.get? b=some u) (heo:∃ u,h'.get? e=some u):Un fs ex H (upd H x o) h h':=by
 have hx:∀ b,H b=none→b≠x:=fun b n z=>by subst z;rw [n] at mu;exact mu
 have hb:∀ b,H b=none→b≠e:=fun b n z=>by
  subst z
  rcases he with r | r
  ·exact hx b n r
  ·rw [n] at r;cases r
 have hm:∀ b u,H b=some u→¬ Mut (some u)→b≠x:=fun b u q nm z=>by subst z;rw [q] at mu;exact nm mu
 refine ⟨fun b u q n _ _=>k b u (hb b n) q,fun b u q n _ _=>⟨u.slots,k b u (hb b n) q⟩,fun b u q n _=>by rw [zA9 (hx b n)];exact n,fun b u q _=>?_,
  fun b xs q=>by rw [zA9 (hm b _ q fun z=>z)];exact q,fun b u xs q=>by rw [zA9 (hm b _ q fun z=>z)];exact q,fun b ps q=>⟨#[],by rw [zA9 (hm b _ q fun z=>z),q];simp⟩⟩
 by_cases hbe:b=e
 ·subst hbe;exact heo
 ·exact ⟨u,k b u hbe q⟩
end
noncomputable def trk (h:Heap) (H:Hp):List Addr:=(List.range h.objs.size).filter fun a=>(H a).isSome
noncomputable def hidT (h:Heap) (H:Hp):Heap:=PySem.W.hideAll h (trk h H)
theorem hidT_size (h:Heap) (H:Hp):(hidT h H).objs.size=h.objs.size:=PySem.W.hideAll_size _ _
theorem hidT_get {h:Heap}{H:Hp}{b:Addr}{o:Obj} (e:h.get? b=some o) (n:H b=none):(hidT h H).get? b=some o :=
 PySem.W.hideAll_get _ e fun hm=>by
  have q:(H b).isSome=true:=(List.mem_filter.mp hm).2
  rw [n] at q;simp at q
theorem of_hidT {h:Heap}{H:Hp}{b:Addr}{o:Obj} (e:(hidT h H).get? b=some o):h.get? b=some o∧H b=none:=by
 have e':h.get? b=some o:=PySem.W.of_hideAll (trk h H) e
 refine ⟨e',?_⟩
 cases q:H b with
 | none=>rfl
 | some x =>
  have hm:b∈trk h H:=List.mem_filter.mpr ⟨List.mem_range.mpr (Heap.lt_size e'),by simp [q]⟩
  have z:(hidT h H).get? b=none:=PySem.W.hideAll_none (trk h H) hm
  rw [z] at e;cases e
noncomputable def allNews (g h:Heap) (L:Addr):List (Addr×Obj):=(List.range h.objs.size).filterMap fun a=>if a=L∨(g.get? a).isSome=true then none else (h.get? a).map fun o=>(a,o)
noncomputable def rest (g h:Heap) (L d:Addr):List (Addr×Obj):=(allNews g h L).filter fun p=>decide (p.1≠d)
end L2
namespace L2
open PySem PySem.Spec PyProof.Rows
structure Mod (K:PySem.W.Frag) (mg:Str→Option Value) (base:Heap):Prop where
 kin:K.In base
 glob:base.Ns mainGlobals mg
 blt:∃ mb,base.Ns builtinsNs mb∧∀ x:Str,x≠"__name__"→mb x=bootBuiltins x
 nolimit:base.NoLimit
structure Cx where
 prog:Program
 w:World
 K:PySem.W.Frag
 mg:Str→Option Value
 base:Heap
 A:Around
 N:List Str
 s₀ : Shared
 H₀ : Hp
 env:Env
 outer:List Env
 stack:List Env
 ex:List Addr
 fn:Str→Bool
 calm:Bool
 pn:List (Addr×Obj)
 xe:Value→Shared→Prop
noncomputable def frs (l:List Env):List Addr:=l.filterMap (·.frame)
noncomputable abbrev Cx.fs (X:Cx):List Addr:=frs X.outer
noncomputable def Vis (sc:Scope) (x:Str):Prop:=sc.names.lookup x=some .local∨sc.names.lookup x=some .cell∨sc.names.lookup x=some .free
noncomputable def Loc (sc:Scope) (x:Str):Prop:=sc.names.lookup x=some .local∨sc.names.lookup x=some .cell
noncomputable def Look (env:Env) (h:Heap) (m:Str→Option Value) (x:Str) (u:Value):Prop :=
 (env.kindOf x=some .local∧m x=some u)∨((env.kindOf x=some .cell∨env.kindOf x=some .free)∧∃ c,env.cells.lookup x=some c∧h.IsCell c (some u))
structure Cx.Ok (X:Cx):Prop where
 mod:Mod X.K X.mg X.base
 kind:X.env.scope.kind=.function
 glob:X.env.globals=mainGlobals
 blt:X.env.builtins=builtinsNs
 above:X.s₀.heap.objs.size≤X.env.locals
 inj:∀ x y c,X.env.cells.lookup x=some c→X.env.cells.lookup y=some c→x=y
 has:∀ x,(X.env.kindOf x=some .cell∨X.env.kindOf x=some .free)→∃ c,X.env.cells.lookup x=some c
 cab:∀ x c,X.fn x=true→X.env.cells.lookup x=some c→X.s₀.heap.objs.size≤c
 hd:X.calm=true→X.A.handled=none
 frames:X.A.frames=some X.stack
 stk:X.stack=X.outer∨(X.stack=X.env :: X.outer∧X.env.frame=some X.env.locals)
 exf:∀ b∈X.ex,b≠X.env.locals∧∀ x c,X.env.cells.lookup x=some c→c≠b
 bs:∀ b o,X.base.get? b=some o→X.s₀.heap.get? b=some o∧X.H₀ b=none
 bsz:X.base.objs.size≤X.s₀.heap.objs.size
 noex:∀ b o,X.base.get? b=some o→b∉X.ex
 exfs:∀ b∈X.ex,b∉X.fs
 funs:X.s₀.heap.FunFrames X.base X.outer
 frf:∀ b∈X.fs,X.H₀ b=none
structure Inv (X:Cx) (pins:List (Addr×Obj)) (σ : List (Option V)) (H:Hp) (s:Shared):Prop where
 ok:X.Ok
 os:s.os=X.s₀.os
 bare:AllBare s.gens
 base:Un X.fs X.ex X.H₀ H X.s₀.heap s.heap
 loc:∃ m,s.heap.Ns X.env.locals m∧∀ (i:Nat) (x:Str) (v:V),X.N[i]? = some x→σ[i]? = some (some v)→Vis X.env.scope x→∃ u,RelV v u∧Look X.env s.heap m x u
 cell:∀ x c,X.env.cells.lookup x=some c→∃ v,s.heap.IsCell c v
 free:H X.env.locals=none
 freeC:∀ x c,X.env.cells.lookup x=some c→H c=none
 pin:∀ p∈X.pn++pins,s.heap.get? p.1=some p.2∧H p.1=none∧p.1≠X.env.locals∧p.1∉X.fs∧∀ v,p.2.data≠.cell v
 hok:HOk X.prog X.w H s.heap
 len : σ.length=X.N.length
section
variable {X:Cx}{pins:List (Addr×Obj)}{σ : List (Option V)}{H H':Hp}{s:Shared}{h':Heap}
theorem Cx.Ok.nofr (ok:X.Ok) {b:Addr}{o:Obj} (e:X.base.get? b=some o):b∉X.fs:=fun hb=>by
 have:=(ok.funs.mem hb).1
 rw [e] at this;cases this
theorem Inv.bs (I:Inv X pins σ H s):∀ b o,X.base.get? b=some o→s.heap.get? b=some o∧H b=none:=fun b o e =>
 ⟨I.base.keep b o (I.ok.bs b o e).1 (I.ok.bs b o e).2 (I.ok.nofr e) (I.ok.noex b o e),I.base.free b o (I.ok.bs b o e).1 (I.ok.bs b o e).2 (I.ok.noex b o e)⟩
theorem Inv.bk (I:Inv X pins σ H s):∀ b o,X.base.get? b=some o→s.heap.get? b=some o:=fun b o e=>(I.bs b o e).1
theorem Inv.mod (I:Inv X pins σ H s):Mod X.K X.mg X.base:=I.ok.mod
theorem Inv.kIn (I:Inv X pins σ H s):X.K.In s.heap:=I.ok.mod.kin.keeps I.bk
theorem Inv.lt (I:Inv X pins σ H s):X.env.locals < s.heap.objs.size:=let ⟨_,hn,_⟩:=I.loc;hn.lt
theorem Inv.sz (I:Inv X pins σ H s):X.s₀.heap.objs.size≤s.heap.objs.size:=Nat.le_trans I.ok.above (Nat.le_of_lt I.lt)
theorem Inv.nofs (I:Inv X pins σ H s) {a:Addr} (h:s.heap.objs.size≤a):a∉X.fs:=fun hb=>by
 obtain ⟨_,o,ho,_⟩:=I.ok.funs.mem hb
 exact absurd (Nat.lt_of_lt_of_le (Heap.lt_size ho) (Nat.le_trans I.sz h)) (Nat.lt_irrefl _)
theorem Inv.cne (I:Inv X pins σ H s):∀ x c,X.env.cells.lookup x=some c→c≠X.env.locals:=fun x c e z=>by
 obtain ⟨v,o,ho,hd⟩:=I.cell x c e
 obtain ⟨m,⟨o',es,ep,ho',hd',_⟩,_⟩:=I.loc
 rw [z,ho'] at ho;cases ho;rw [hd'] at hd;cases hd
theorem Inv.funs (I:Inv X pins σ H s):s.heap.FunFrames X.base X.outer:=by
 have all:∀ (l:List Env),(∀ b∈frs l,b∈X.fs)→X.s₀.heap.FunFrames X.base l→s.heap.FunFrames X.base l:=by
  intro l
  induction l with
  | nil=>intro _ _;trivial
  | cons env r ih =>
   intro hs hl
   obtain ⟨hk,⟨L,o,hf,hn,ho,hd⟩,hr⟩:=hl
   have hL:L∈X.fs:=hs L (by unfold frs;rw [List.filterMap_cons,hf];exact List.mem_cons_self)
   obtain ⟨sl,e⟩:=I.base.slot L o ho (I.ok.frf L hL) hL fun z=>I.ok.exfs L z hL
   exact ⟨hk,⟨L,_,hf,hn,e,hd⟩,ih (fun b hb=>hs b (by unfold frs;rw [List.filterMap_cons,hf];exact List.mem_cons_of_mem _ hb)) hr⟩
 exact all X.outer (fun _ hb=>hb) I.ok.funs
theorem Inv.stack (I:Inv X pins σ H s):s.heap.FunFrames X.base X.stack:=by
 rcases I.ok.stk with e | ⟨e,hf⟩
 ·rw [e];exact I.funs
 ·rw [e]
  obtain ⟨m,hn,_⟩:=I.loc
  refine .cons (by rw [I.ok.kind];decide) hf hn ?_ I.funs
  exact Heap.get?_none_of_le (Nat.le_trans I.ok.bsz I.ok.above)
theorem Inv.stkSub (I:Inv X pins σ H s):∀ b∈frs X.stack,b∈X.env.locals :: X.fs:=fun b hb=>by
 rcases I.ok.stk with e | ⟨e,hf⟩
 ·rw [e] at hb;exact List.mem_cons_of_mem _ hb
 ·rw [e] at hb
  unfold frs at hb
  rw [List.filterMap_cons,hf] at hb
  exact hb
theorem Inv.stkFree (I:Inv X pins σ H s):∀ b∈frs X.stack,H b=none:=fun b hb=>by
 rcases List.mem_cons.mp (I.stkSub b hb) with e | hb
 ·rw [e];exact I.free
 ·obtain ⟨_,o,ho,_⟩:=I.ok.funs.mem hb
  exact I.base.free b o ho (I.ok.frf b hb) fun z=>I.ok.exfs b z hb
theorem Inv.step {g':Array GenState}{t':Nat}{d':Drawn}{ch:List Addr} (I:Inv X pins σ H s)
  (hch:∀ b∈ch,(b∈X.ex∨X.s₀.heap.get? b=none)∧b≠X.env.locals∧(∀ x c,X.env.cells.lookup x=some c→c≠b)∧∀ p∈X.pn++pins,p.1≠b)
  (keep:∀ b o,b≠X.env.locals→b∉X.fs→b∉ch→s.heap.get? b=some o→H b=none→h'.get? b=some o)
  (slot:∀ b o,b≠X.env.locals→b∈X.fs→b∉ch→s.heap.get? b=some o→H b=none→∃ sl,h'.get? b=some { o with slots:=sl }) (free:∀ b o,b∉ch→s.heap.get? b=some o→H b=none→H' b=none)
  (there:∀ b o,b∉ch→s.heap.get? b=some o→∃ o',h'.get? b=some o')
  (tups:∀ b xs,H b=some (.tup xs)→H' b=some (.tup xs)) (frzs:∀ b o u,H b=some (.frz o u)→H' b=some (.frz o u)) (tbls:∀ b ps,H b=some (.tbl ps)→∃ more,H' b=some (.tbl (ps++more)))
  (ns:∀ m,s.heap.Ns X.env.locals m→h'.Ns X.env.locals m) (hok:HOk X.prog X.w H' h') (hg:AllBare g') :
  Inv X pins σ H' { s with heap:=h',gens:=g',drawn:=d',toks:=t' }:=by
 have neL:∀ b o,X.s₀.heap.get? b=some o→b≠X.env.locals:=fun b o e=>Nat.ne_of_lt (Nat.lt_of_lt_of_le (Heap.lt_size e) I.ok.above)
 have neC:∀ b o,X.s₀.heap.get? b=some o→b∉X.ex→b∉ch:=fun b o e hx hb=>by
  rcases (hch b hb).1 with z | z
  ·exact hx z
  ·rw [z] at e;cases e
 have cellK:∀ x c,X.env.cells.lookup x=some c→∀ v,s.heap.IsCell c v→h'.IsCell c v:=fun x c e v ⟨o,ho,hd⟩=>by
  have nch:c∉ch:=fun z=>(hch c z).2.2.1 x c e rfl
  by_cases hc:c∈X.fs
  ·obtain ⟨sl,q⟩:=slot c o (I.cne x c e) hc nch ho (I.freeC x c e)
   exact ⟨_,q,hd⟩
  ·exact ⟨o,keep c o (I.cne x c e) hc nch ho (I.freeC x c e),hd⟩
 refine ⟨I.ok,I.os,hg,⟨fun b o e n hb hx=>?_,fun b o e n hb hx=>?_,fun b o e n hx=>?_,fun b o e hx=>?_,fun b xs e=>tups b xs (I.base.tups b xs e),fun b o xs e=>frzs b o xs (I.base.frzs b o xs e),fun b ps e=>?_⟩,?_,fun x c e=>?_,?_,fun x c e=>?_,fun p hp=>?_,hok,I.len⟩
 ·exact keep b o (neL b o e) hb (neC b o e hx) (I.base.keep b o e n hb hx) (I.base.free b o e n hx)
 ·obtain ⟨sl,e1⟩:=I.base.slot b o e n hb hx
  obtain ⟨sl',e2⟩:=slot b _ (neL b o e) hb (neC b o e hx) e1 (I.base.free b o e n hx)
  exact ⟨sl',e2⟩
 ·obtain ⟨o',e1⟩:=I.base.there b o e hx
  exact free b o' (neC b o e hx) e1 (I.base.free b o e n hx)
 ·obtain ⟨o',e1⟩:=I.base.there b o e hx
  exact there b o' (neC b o e hx) e1
 ·obtain ⟨m1,e1⟩:=I.base.tbls b ps e
  obtain ⟨m2,e2⟩:=tbls b _ e1
  exact ⟨m1++m2,by rw [e2,Array.append_assoc]⟩
 ·obtain ⟨m,hn,hl⟩:=I.loc
  refine ⟨m,ns m hn,fun i x v e1 e2 e3=>?_⟩
  obtain ⟨u,r,l⟩:=hl i x v e1 e2 e3
  refine ⟨u,r,?_⟩
  rcases l with l | ⟨k,c,e,z⟩
  ·exact .inl l
  ·exact .inr ⟨k,c,e,cellK x c e _ z⟩
 ·obtain ⟨v,z⟩:=I.cell x c e
  exact ⟨v,cellK x c e v z⟩
 ·obtain ⟨m,⟨o,_,_,ho,_⟩,_⟩:=I.loc
  exact free _ o (fun z=>(hch _ z).2.1 rfl) ho I.free
 ·obtain ⟨v,o,ho,hd⟩:=I.cell x c e
  exact free c o (fun z=>(hch c z).2.2.1 x c e rfl) ho (I.freeC x c e)
 ·obtain ⟨e,n,ne,nf,d⟩:=I.pin p hp
  have nch:p.1∉ch:=fun z=>(hch p.1 z).2.2.2 p hp rfl
  exact ⟨keep p.1 p.2 ne nf nch e n,free p.1 p.2 nch e n,ne,nf,d⟩
theorem Inv.un {t':Nat} (I:Inv X pins σ H s) (u:Un X.fs [] H H' s.heap h') (hok:HOk X.prog X.w H' h'):Inv X pins σ H' { s with heap:=h',toks:=t' }:=by
 obtain ⟨m,⟨o,es,ep,ho,r⟩,_⟩:=id I.loc
 obtain ⟨sl,hL⟩:=u.any ho I.free (by simp)
 exact I.step (g':=s.gens) (d':=s.drawn) (ch:=[]) (fun _ z=>nomatch z) (fun b o _ hb _ e n=>u.keep b o e n hb (by simp)) (fun b o _ hb _ e n=>u.slot b o e n hb (by simp)) (fun b o _ e n=>u.free b o e n (by simp)) (fun b o _ e=>u.there b o e (by simp)) u.tups u.frzs u.tbls (fun m' hm=>by
  obtain ⟨o',es',ep',ho',r'⟩:=hm
  rw [ho] at ho';cases ho'
  exact ⟨_,es',ep',hL,r'⟩) hok I.bare
theorem Inv.call {g':Array GenState}{t':Nat}{d':Drawn}{ch:List Addr} (I:Inv X pins σ H s) (u:Un (frs X.stack) ch H H' s.heap h') (hok:HOk X.prog X.w H' h') (hg:AllBare g')
  (hch:∀ b∈ch,(b∈X.ex∨X.s₀.heap.objs.size≤b)∧b≠X.env.locals∧(∀ x c,X.env.cells.lookup x=some c→c≠b)∧∀ p∈X.pn++pins,p.1≠b) :
  Inv X pins σ H' { s with heap:=h',gens:=g',drawn:=d',toks:=t' }:=by
 obtain ⟨m,⟨o,es,ep,ho,r⟩,_⟩:=id I.loc
 obtain ⟨sl,hL⟩:=u.any ho I.free fun z=>(hch _ z).2.1 rfl
 exact I.step (ch:=ch) (fun b hb=>⟨(hch b hb).1.imp_right fun z=>Heap.get?_none_of_le z,(hch b hb).2⟩) (fun b o hL hb hc e n=>u.keep b o e n (fun z=>(List.mem_cons.mp (I.stkSub b z)).elim hL hb) hc) (fun b o _ _ hc e n=>u.any e n hc) (fun b o hc e n=>u.free b o e n hc) (fun b o hc e=>u.there b o e hc) u.tups u.frzs u.tbls (fun m' hm=>by
  obtain ⟨o',es',ep',ho',r'⟩:=hm
  rw [ho] at ho';cases ho'
  exact ⟨_,es',ep',hL,r'⟩) hok hg
theorem Inv.turned {t':Nat}{it:Addr} (I:Inv X pins σ H s) (k:∀ b o,b≠it→s.heap.get? b=some o→h'.get? b=some o) (hn:H it=none) (hL:it≠X.env.locals)
  (h1:it∈X.ex∨X.s₀.heap.objs.size≤it) (h2:∀ x c,X.env.cells.lookup x=some c→c≠it) (h3:∀ p∈X.pn++pins,p.1≠it):Inv X pins σ H { s with heap:=h',toks:=t' }:=by
 have nit:∀ b u,H b=some u→b≠it:=fun b u e z=>by rw [z,hn] at e;cases e
 refine I.step (g':=s.gens) (d':=s.drawn) (ch:=[it]) (fun b hb=>?_) (fun b o _ _ hc e _=>k b o (fun z=>hc (by simp [z])) e) (fun b o _ _ hc e _=>⟨o.slots,k b o (fun z=>hc (by simp [z])) e⟩) (fun _ _ _ _ n=>n)
  (fun b o hc e=>⟨o,k b o (fun z=>hc (by simp [z])) e⟩) (fun _ _ e=>e) (fun _ _ _ e=>e) (fun b ps e=>⟨#[],by rw [e];simp⟩) (fun m hm=>?_) (fun b u e=>?_) I.bare
 ·have e:b=it:=by simpa using hb
  subst e
  exact ⟨h1.imp_right fun z=>Heap.get?_none_of_le z,hL,h2,h3⟩
 ·obtain ⟨o,es,ep,ho,r⟩:=hm
  exact ⟨o,es,ep,k _ o (Ne.symm hL) ho,r⟩
 ·refine (I.hok b u e).stay (fun c v hc q=>k c v ?_ q) (fun _ q=>q) fun _ _ q=>q
  rcases hc with z | z
  ·rw [z];exact nit b u e
  ·exact nit c _ z
theorem Inv.tok (I:Inv X pins σ H s) (t:Nat):Inv X pins σ H { s with toks:=t }:=I.un (h':=s.heap) (t':=t) Un.refl I.hok
theorem Inv.kept {t':Nat} (I:Inv X pins σ H s) (k:∀ b u,s.heap.get? b=some u→h'.get? b=some u):Inv X pins σ H { s with heap:=h',toks:=t' }:=I.un (Un.kept k) (I.hok.kept k)
theorem Inv.laid {a:Addr}{o:HO}{t':Nat} (I:Inv X pins σ H s) (k:∀ b u,s.heap.get? b=some u→h'.get? b=some u) (hp:s.heap.objs.size≤a) (new:ObjOk X.prog X.w (upd H a o) h' a o) :
  Inv X pins σ (upd H a o) { s with heap:=h',toks:=t' }:=I.un (Un.laid k hp (I.hok.fresh hp)) (I.hok.laid k hp new)
theorem Inv.write {x e:Addr}{o:HO}{t':Nat} (I:Inv X pins σ H s) (mu:Mut (H x)) (he:e=x∨H e=some (.own x)) (k:∀ b u,b≠e→s.heap.get? b=some u→h'.get? b=some u) (heo:∃ u,h'.get? e=some u)
  (new:ObjOk X.prog X.w (upd H x o) h' x o):Inv X pins σ (upd H x o) { s with heap:=h',toks:=t' }:=I.un (Un.write mu he k heo) (I.hok.write mu he k heo new)
theorem Inv.pins_of {pins':List (Addr×Obj)} (I:Inv X pins σ H s) (h:∀ p∈pins',s.heap.get? p.1=some p.2∧H p.1=none∧p.1≠X.env.locals∧p.1∉X.fs∧∀ v,p.2.data≠.cell v):Inv X pins' σ H s :=
 ⟨I.ok,I.os,I.bare,I.base,I.loc,I.cell,I.free,I.freeC,fun p hp=>(List.mem_append.mp hp).elim (fun z=>I.pin p (List.mem_append_left _ z)) (h p),I.hok,I.len⟩
theorem zDf {N:List Str} (hN:N.Nodup) {i j:Nat}{x:Str} (a:N[i]? = some x) (b:N[j]? = some x):i=j:=by
 obtain ⟨h1,e1⟩:=List.getElem?_eq_some_iff.mp a
 obtain ⟨h2,e2⟩:=List.getElem?_eq_some_iff.mp b
 exact (List.getElem_inj hN).mp (e1.trans e2.symm)
theorem store_ok2 {M:Model}{A:Around}{E:Value→Shared→Prop}{i:Nat}{x:Str}{v:V}{u:Value}{Q:Unit→Shared→Prop} (I:Inv X pins σ H s) (hN:X.N.Nodup) (hi:X.N[i]? = some x) (hx:Loc X.env.scope x) (r:RelV v u)
  (h:∀ s',Inv X pins (σ.set i (some v)) H s'→(∃ a,Heap.SameBut a s.heap s'.heap∧(a=X.env.locals∨X.env.cells.lookup x=some a))→Q () s') (hf:X.fn x=true∨X.env.scope.names.lookup x=some .local:=by first | exact .inl rfl | exact .inr rfl | assumption):wpAny M A (storeName X.env x u) Q E s:=by
 obtain ⟨m,hn,hl⟩:=id I.loc
 have hcls:(X.env.scope.kind == .class || (X.env.scope.kind == .module && X.env.locals != X.env.globals))=false:=by rw [I.ok.kind];rfl
 have hiσ : i < σ.length:=by rw [I.len];exact (List.getElem?_eq_some_iff.mp hi).1
 have cne:=I.cne
 have tracked:∀ {a:Addr}{h':Heap},(∃ o,s.heap.get? a=some o∧H a=none)→Heap.SameBut a s.heap h'→HOk X.prog X.w H h':=fun {a h'} ha hs b ob e=>by
  obtain ⟨_,_,hfree⟩:=ha
  refine (I.hok b ob e).stay (fun c w' hc q=>(hs.2 c ?_).trans q) (fun _ q=>q) fun _ _ q=>q
  rintro rfl
  rcases hc with rfl | hc
  ·rw [hfree] at e;cases e
  ·rw [hfree] at hc;cases hc
 rcases hx with hk | hk
 ·refine wpAny_storeName_local hk hn (fun h' hn' hs=>?_) hcls
  obtain ⟨oL,_,_,hoL,_⟩:=id hn
  refine h _ ⟨I.ok,I.os,I.bare,⟨fun b o e n hb hx=>?_,fun b o e n hb hx=>?_,I.base.free,fun b o e hx=>?_,I.base.tups,I.base.frzs,I.base.tbls⟩,⟨_,hn',fun j y v' e1 e2 e3=>?_⟩,fun y c e=>?_,I.free,I.freeC,fun p hp=>?_,tracked ⟨oL,hoL,I.free⟩ hs,by simpa using I.len⟩ ⟨_,hs,.inl rfl⟩
  ·exact (hs.2 b (Nat.ne_of_lt (Nat.lt_of_lt_of_le (Heap.lt_size e) I.ok.above))).trans (I.base.keep b o e n hb hx)
  ·obtain ⟨sl,e1⟩:=I.base.slot b o e n hb hx
   exact ⟨sl,(hs.2 b (Nat.ne_of_lt (Nat.lt_of_lt_of_le (Heap.lt_size e) I.ok.above))).trans e1⟩
  ·obtain ⟨o',e1⟩:=I.base.there b o e hx
   exact ⟨o',(hs.2 b (Nat.ne_of_lt (Nat.lt_of_lt_of_le (Heap.lt_size e) I.ok.above))).trans e1⟩
  ·by_cases hj:j=i
   ·subst hj
    rw [hi] at e1;cases e1
    rw [List.getElem?_set_self hiσ] at e2
    cases e2
    exact ⟨u,r,.inl ⟨hk,by simp⟩⟩
   ·rw [List.getElem?_set_ne (Ne.symm hj)] at e2
    obtain ⟨u',r',q⟩:=hl j y v' e1 e2 e3
    refine ⟨u',r',?_⟩
    rcases q with ⟨k,e⟩ | ⟨k,c,e,z⟩
    ·refine .inl ⟨k,?_⟩
     have:y≠x:=fun e=>hj (zDf hN e1 (e ▸ hi))
     simp [this,e]
    ·exact .inr ⟨k,c,e,z.sameBut hs (cne y c e)⟩
  ·obtain ⟨w',z⟩:=I.cell y c e
   exact ⟨w',z.sameBut hs (cne y c e)⟩
  ·obtain ⟨e,n,ne,nf,d⟩:=I.pin p hp
   exact ⟨(hs.2 p.1 ne).trans e,n,ne,nf,d⟩
 ·have hfn:X.fn x=true:=by
   rcases hf with z | z
   ·exact z
   ·rw [z] at hk;cases hk
  obtain ⟨c,hc⟩:=I.ok.has x (.inl hk)
  obtain ⟨w',z⟩:=I.cell x c hc
  refine wpAny_storeName_cell I.ok.kind hk hc z (fun h' hc' hs=>?_)
  obtain ⟨oc,hoc,hocd⟩:=id z
  refine h { s with heap:=h' } ⟨I.ok,I.os,I.bare,⟨fun b o e n hb hx=>?_,fun b o e n hb hx=>?_,I.base.free,fun b o e hx=>?_,I.base.tups,I.base.frzs,I.base.tbls⟩,⟨m,hn.sameBut hs (Ne.symm (cne x c hc)),fun j y v' e1 e2 e3=>?_⟩,fun y c' e=>?_,I.free,I.freeC,fun p hp=>?_,tracked ⟨oc,hoc,I.freeC x c hc⟩ hs,by simpa using I.len⟩ ⟨c,hs,.inr hc⟩
  ·exact (hs.2 b (Nat.ne_of_lt (Nat.lt_of_lt_of_le (Heap.lt_size e) (I.ok.cab x c hfn hc)))).trans (I.base.keep b o e n hb hx)
  ·obtain ⟨sl,e1⟩:=I.base.slot b o e n hb hx
   exact ⟨sl,(hs.2 b (Nat.ne_of_lt (Nat.lt_of_lt_of_le (Heap.lt_size e) (I.ok.cab x c hfn hc)))).trans e1⟩
  ·obtain ⟨o',e1⟩:=I.base.there b o e hx
   exact ⟨o',(hs.2 b (Nat.ne_of_lt (Nat.lt_of_lt_of_le (Heap.lt_size e) (I.ok.cab x c hfn hc)))).trans e1⟩
  ·by_cases hj:j=i
   ·subst hj
    rw [hi] at e1;cases e1
    rw [List.getElem?_set_self hiσ] at e2
    cases e2
    exact ⟨u,r,.inr ⟨.inl hk,c,hc,hc'⟩⟩
   ·rw [List.getElem?_set_ne (Ne.symm hj)] at e2
    obtain ⟨u',r',q⟩:=hl j y v' e1 e2 e3
    refine ⟨u',r',?_⟩
    rcases q with q | ⟨k,c',e,z'⟩
    ·exact .inl q
    ·refine .inr ⟨k,c',e,z'.sameBut hs ?_⟩
     rintro rfl
     exact hj (zDf hN e1 (I.ok.inj _ _ _ e hc ▸ hi))
  ·by_cases hcc:c'=c
   ·subst hcc;exact ⟨_,hc'⟩
   ·obtain ⟨w2,z2⟩:=I.cell y c' e
    exact ⟨w2,z2.sameBut hs hcc⟩
  ·obtain ⟨e,n,ne,nf,d⟩:=I.pin p hp
   refine ⟨(hs.2 p.1 ?_).trans e,n,ne,nf,d⟩
   intro q
   rw [q,hoc] at e
   have q':oc=p.2:=Option.some.inj e
   exact d w' (by rw [← q'];exact hocd)
theorem zD6 {M:Model}{A:Around}{E:Value→Shared→Prop}{i:Nat}{x:Str}{v:V}{u:Value}{Q:Unit→Shared→Prop} (I:Inv X pins σ H s) (hN:X.N.Nodup) (hi:X.N[i]? = some x) (hx:Loc X.env.scope x) (r:RelV v u)
  (h:∀ s',Inv X pins (σ.set i (some v)) H s'→Q () s') (hf:X.fn x=true∨X.env.scope.names.lookup x=some .local:=by first | exact .inl rfl | exact .inr rfl | assumption):wpAny M A (storeName X.env x u) Q E s :=
 store_ok2 I hN hi hx r (fun s' I' _=>h s' I') hf
theorem Inv.call' {s':Shared}{ch:List Addr} (I:Inv X pins σ H s) (ho:s'.os=s.os) (u:Un (frs X.stack) ch H H' s.heap s'.heap) (hok:HOk X.prog X.w H' s'.heap) (hg:AllBare s'.gens)
  (hch:∀ b∈ch,(b∈X.ex∨X.s₀.heap.objs.size≤b)∧b≠X.env.locals∧(∀ x c,X.env.cells.lookup x=some c→c≠b)∧∀ p∈X.pn++pins,p.1≠b):Inv X pins σ H' s':=by
 obtain ⟨h',g',d',t',o'⟩:=s'
 have e:o'=s.os:=ho
 subst e
 exact I.call (g':=g') (t':=t') (d':=d') u hok hg hch
end
noncomputable abbrev XK:=Value→Option Addr→Hp→Prop
noncomputable abbrev St:=List (Option V)
noncomputable abbrev VK:=V→Hp→Prop
noncomputable abbrev TE:=St→Hp→VK→Prop
noncomputable abbrev TT:=St→Hp→(Bool→Hp→Prop)→Prop
noncomputable abbrev TA:=St→Hp→(List V→Hp→Prop)→Prop
structure Ends where
 nx:St→Hp→Prop
 rt:VK
 bk:St→Hp→Prop:=fun _ _=>False
 ct:St→Hp→Prop:=fun _ _=>False
noncomputable abbrev TS:=Ends→St→Hp→Prop
noncomputable def EP (X:Cx) (pins:List (Addr×Obj)) (σ : St) (Q:VK) (u:Value) (s':Shared):Prop:=∃ v H',Inv X pins σ H' s'∧RelV v u∧Q v H'
noncomputable def TP (X:Cx) (pins:List (Addr×Obj)) (σ : St) (Q:Bool→Hp→Prop) (b:Bool) (s':Shared):Prop:=∃ H',Inv X pins σ H' s'∧Q b H'
noncomputable def AP (X:Cx) (pins:List (Addr×Obj)) (σ : St) (Q:List V→Hp→Prop) (us:List Value) (s':Shared):Prop:=∃ vs H',Inv X pins σ H' s'∧Vals vs us∧Q vs H'
noncomputable def SP (X:Cx) (pins:List (Addr×Obj)) (D:Ends) (f:Flow) (s':Shared):Prop :=
 match f with
 | .next=>∃ σ' H',Inv X pins σ' H' s'∧D.nx σ' H'
 | .brk=>∃ σ' H',Inv X pins σ' H' s'∧D.bk σ' H'
 | .cont=>∃ σ' H',Inv X pins σ' H' s'∧D.ct σ' H'
 | .ret u=>∃ v σ' H',Inv X pins σ' H' s'∧RelV v u∧D.rt v H'
noncomputable def PE (X:Cx) (e:Expr) (t:TE):Prop :=
 ∀ (pins:List (Addr×Obj)) (s:Shared) (σ : St) (H:Hp) (Q:VK),Inv X pins σ H s→t σ H Q→wpAny (model X.prog X.w) X.A (eval e X.env) (EP X pins σ Q) X.xe s
noncomputable def PT (X:Cx) (e:Expr) (t:TT):Prop :=
 ∀ (pins:List (Addr×Obj)) (s:Shared) (σ : St) (H:Hp) (Q:Bool→Hp→Prop),Inv X pins σ H s→t σ H Q→wpAny (model X.prog X.w) X.A (isTrue e X.env (eval e X.env)) (TP X pins σ Q) X.xe s
noncomputable def PW (X:Cx) (e:Expr) (t:TT):Prop :=
 ∀ (whole:Sem Value) (pins:List (Addr×Obj)) (s:Shared) (σ : St) (H:Hp) (Q:Bool→Hp→Prop),Inv X pins σ H s→t σ H Q→wpAny (model X.prog X.w) X.A (isTrue e X.env whole) (TP X pins σ Q) X.xe s
theorem PW.pt {X:Cx}{e:Expr}{t:TT} (h:PW X e t):PT X e t:=h _
noncomputable def PA (X:Cx) (es:List Expr) (t:TA):Prop :=
 ∀ (pos:Pos) (pins:List (Addr×Obj)) (s:Shared) (σ : St) (H:Hp) (Q:List V→Hp→Prop),Inv X pins σ H s→t σ H Q→wpAny (model X.prog X.w) X.A (spliced (backTo pos (starEach es X.env))) (AP X pins σ Q) X.xe s
noncomputable def PS (X:Cx) (st:Stmt) (t:TS):Prop :=
 ∀ (pins:List (Addr×Obj)) (s:Shared) (σ : St) (H:Hp) (D:Ends),Inv X pins σ H s→t D σ H→wpAny (model X.prog X.w) X.A (exec st X.env) (SP X pins D) X.xe s
noncomputable def PSs (X:Cx) (st:List Stmt) (t:TS):Prop :=
 ∀ (pins:List (Addr×Obj)) (s:Shared) (σ : St) (H:Hp) (D:Ends),Inv X pins σ H s→t D σ H→wpAny (model X.prog X.w) X.A (execs st X.env) (SP X pins D) X.xe s
theorem thn {α : Type}{t:Sem α}{Q Q' : α→Shared→Prop}{M:Model}{A:Around}{E:Value→Shared→Prop}{s:Shared} (h:wpAny M A t Q E s) (hQ:∀ a s,Q a s→Q' a s):wpAny M A t Q' E s:=wpAny_mono h hQ fun _ _ x=>x
end L2
namespace L2
open PySem PySem.Spec PyProof.Rows
section
variable {X:Cx}
theorem bin {a b:Expr}{ta tb:TE} (ha:PE X a ta) (hb:PE X b tb) {pins:List (Addr×Obj)}{s:Shared}{σ : St}{H:Hp}{R:V→V→Hp→Prop} (I:Inv X pins σ H s) (h:ta σ H fun x H1=>tb σ H1 fun y H2=>R x y H2)
  {α : Type}{Q : α→Shared→Prop}{f:Value→Value→Sem α}
  (hf:∀ v u s2 x y H2,Inv X pins σ H2 s2→RelV x v→RelV y u→R x y H2→wpAny (model X.prog X.w) X.A (f v u) Q X.xe s2) :
  wpAny (model X.prog X.w) X.A (eval a X.env) (fun v s₁=>wpAny (model X.prog X.w) X.A (eval b X.env) (fun u s₂=>wpAny (model X.prog X.w) X.A (f v u) Q X.xe s₂) X.xe s₁) X.xe s:=by
 refine thn (ha pins s σ H _ I h) fun v s1 ⟨x,H1,I1,r1,q1⟩=>?_
 refine thn (hb pins s1 σ H1 _ I1 q1) fun u s2 ⟨y,H2,I2,r2,q2⟩=>?_
 exact hf v u s2 x y H2 I2 r1 r2 q2
noncomputable def tVar (i:Nat):TE:=fun σ H Q=>∃ v,σ[i]? = some (some v)∧Q v H
noncomputable def tC (v:V):TE:=fun _ H Q=>Q v H
theorem pe_var {i:Nat}{x:Str}{pos:Pos} (hN:X.N[i]? = some x) (hv:Vis X.env.scope x) (hd:(x == ("__debug__" : Str))=false:=by decide) (hcd:(x == ("__classdict__" : Str))=false:=by decide):PE X (.Name x pos) (tVar i):=by
 intro pins s σ H Q I h
 obtain ⟨v,e,h⟩:=h
 obtain ⟨m,hn,hl⟩:=I.loc
 obtain ⟨u,r,l⟩:=hl i x v hN e hv
 have fin:EP X pins σ Q u s:=⟨v,H,I,r,h⟩
 rcases l with ⟨hk,hm⟩ | ⟨hk,c,hc,hcell⟩
 ·exact wpAny_Name (wpAny_loadName_local I.ok.kind hk hn hm fin) hd
 ·rcases hk with hk | hk
  ·exact wpAny_Name (wpAny_loadName_cell I.ok.kind hk hc hcell fin) hd
  ·exact wpAny_Name (wpAny_loadName_free I.ok.kind hk hc hcell fin hcd) hd
theorem zA5 {i j pos}:PE X (.Constant (.int i) j pos) (tC (.int i)):=fun _ _ _ H _ I h=>wpAny_Constant_int ⟨.int i,H,I.tok _,⟨_,rfl⟩,h⟩
theorem zBn {b j pos}:PE X (.Constant (.bool b) j pos) (tC (.bl b)):=fun _ _ _ H _ I h=>Constant_bool ⟨.bl b,H,I,rfl,h⟩
theorem pe_non {j pos}:PE X (.Constant .none j pos) (tC .non):=fun _ _ _ H _ I h=>Constant_none ⟨.non,H,I,rfl,h⟩
theorem zA6 {x j pos}:PE X (.Constant (.str x) j pos) (tC (.str x)):=fun _ _ _ H _ I h=>Calls.Constant_str ⟨.str x,H,I.tok _,⟨_,rfl⟩,h⟩
noncomputable def Gl (X:Cx) (x:Str):Prop:=X.env.kindOf x=some .globalImplicit
theorem zCo {E:Value→Shared→Prop}{pins:List (Addr×Obj)}{s:Shared}{σ : St}{H:Hp}{x:Str}{u:Value}{pos:Pos}{Q:Value→Shared→Prop} (I:Inv X pins σ H s) (hg:Gl X x) (hm:X.mg x=some u) (h:Q u s)
  (hd:(x == ("__debug__" : Str))=false:=by decide):wpAny (model X.prog X.w) X.A (eval (.Name x pos) X.env) Q E s :=
 Calls.Name_function_global I.ok.kind hg (Calls.loadGlobal_global (by rw [I.ok.glob];exact I.mod.glob.keeps I.bk) hm h) hd
theorem ld_blt {E:Value→Shared→Prop}{pins:List (Addr×Obj)}{s:Shared}{σ : St}{H:Hp}{x:Str}{u:Value}{pos:Pos}{Q:Value→Shared→Prop} (I:Inv X pins σ H s) (hg:Gl X x) (hm:X.mg x=none) (hv:bootBuiltins x=some u) (h:Q u s)
  (hn:x≠"__name__":=by decide) (hd:(x == ("__debug__" : Str))=false:=by decide):wpAny (model X.prog X.w) X.A (eval (.Name x pos) X.env) Q E s:=by
 obtain ⟨mb,h1,h2⟩:=I.mod.blt
 exact Calls.Name_function_global I.ok.kind hg (Calls.loadGlobal_builtin (by rw [I.ok.glob];exact I.mod.glob.keeps I.bk) hm (by rw [I.ok.blt];exact h1.keeps I.bk) ((h2 x hn).trans hv) h) hd
theorem zAh {x:Str}{v:V}{u:Value}{pos:Pos} (hg:Gl X x) (hm:X.mg x=some u) (r:RelV v u) (hd:(x == ("__debug__" : Str))=false:=by decide):PE X (.Name x pos) (tC v) :=
 fun _ _ _ H _ I h=>zCo I hg hm ⟨v,H,I,r,h⟩ hd
theorem zB7 {x:Str}{v:V}{u:Value}{pos:Pos} (hg:Gl X x) (hm:X.mg x=none) (hv:bootBuiltins x=some u) (r:RelV v u) (hn:x≠"__name__":=by decide) (hd:(x == ("__debug__" : Str))=false:=by decide):PE X (.Name x pos) (tC v) :=
 fun _ _ _ H _ I h=>ld_blt I hg hm hv ⟨v,H,I,r,h⟩ hn hd
variable {a b:Expr}{ta tb:TE}{pos:Pos}
noncomputable def PC (X:Cx) (op:CmpOp) (a b:Expr) (t:TE):Prop :=
 ∀ (pins:List (Addr×Obj)) (s:Shared) (σ : St) (H:Hp) (Q:VK),Inv X pins σ H s→t σ H Q →
  wpAny (model X.prog X.w) X.A (eval a X.env) (fun v s₁=>wpAny (model X.prog X.w) X.A (eval b X.env) (fun u s₂=>wpAny (model X.prog X.w) X.A (compareOp op v u) (EP X pins σ Q) X.xe s₂) X.xe s₁) X.xe s
theorem nobehind (b:Expr) {op:CmpOp} (h:op≠.In) (h2:op≠.NotIn):behindInMarks op b=false:=by
 have e1:(op == CmpOp.In)=false:=by cases op <;> first | rfl | exact absurd rfl h
 have e2:(op == CmpOp.NotIn)=false:=by cases op <;> first | rfl | exact absurd rfl h2
 cases b <;> simp [behindInMarks,e1,e2]
noncomputable def tIsN (ta:TE):TE:=fun σ H Q=>ta σ H fun x H1=>Q (.bl (decide (x=.non))) H1
noncomputable def tNotN (ta:TE):TE:=fun σ H Q=>ta σ H fun x H1=>Q (.bl (!decide (x=.non))) H1
theorem RelV.none_iff {x:V}{v:Value} (r:RelV x v):(v == Value.none)=decide (x=.non):=by
 cases x with
 | non=>cases r;rfl
 | bl _=>cases r;rfl
 | int _=>obtain ⟨t,rfl⟩:=r;rfl
 | str _=>obtain ⟨t,rfl⟩:=r;rfl
 | byt _=>obtain ⟨t,rfl⟩:=r;rfl
 | flt _=>obtain ⟨t,rfl⟩:=r;rfl
 | ref _=>cases r;rfl
 | ty _=>cases r;rfl
theorem pc_isN {j pos'} (ha:PE X a ta):PC X .Is a (.Constant .none j pos') (tIsN ta):=by
 intro pins s σ H Q I h
 refine thn (ha pins s σ H _ I h) fun v s1 ⟨x,H1,I1,r1,q1⟩=>?_
 exact Constant_none (is_none_gen ⟨.bl _,H1,I1,by rw [r1.none_iff];rfl,q1⟩)
theorem zDb {j pos'} (ha:PE X a ta):PC X .IsNot a (.Constant .none j pos') (tNotN ta):=by
 intro pins s σ H Q I h
 refine thn (ha pins s σ H _ I h) fun v s1 ⟨x,H1,I1,r1,q1⟩=>?_
 exact Constant_none (isnot_none_gen ⟨.bl _,H1,I1,by rw [r1.none_iff];rfl,q1⟩)
noncomputable def tB (t:TE):TT:=fun σ H Q=>t σ H fun x H1=>∃ c,x=.bl c∧Q c H1
theorem pt_cmp {op:CmpOp}{t:TE} (h:PC X op a b t) (h1:behindInMarks op b=false:=by first | exact nobehind _ (by decide) (by decide) | rfl):PT X (.Compare a [op] [b] pos) (tB t):=by
 intro pins s σ H Q I hw
 refine wpAny_isTrue_Compare1 (thn (h pins s σ H _ I hw) fun v s1 h1=>thn h1 fun u s2 h2=>thn h2 fun c s3 ⟨x,H1,I1,r1,q1⟩=>?_) h1
 obtain ⟨d,rfl,q⟩:=q1
 cases r1
 exact wpAny_truthy_bool ⟨H1,I1,q⟩
theorem zAz {e:Expr}{t:TE} (h:PE X e t) (he:∀ whole,isTrue e X.env whole=(do let v ← whole;standAt e.pos;holding [v] (truthy v)):=by intro _;rfl):PT X e (tB t):=by
 intro pins s σ H Q I hw
 refine isTrue_plain (thn (h pins s σ H _ I hw) fun v s1 ⟨x,H1,I1,r1,q1⟩=>?_) (he _)
 obtain ⟨d,rfl,q⟩:=q1
 cases r1
 exact wpAny_truthy_bool ⟨H1,I1,q⟩
variable {tA tB':TT}{rest:List Expr}
noncomputable def tAnd (t u:TT):TT:=fun σ H Q=>t σ H fun c H1=>if c=true then u σ H1 Q else Q false H1
noncomputable def tOr (t u:TT):TT:=fun σ H Q=>t σ H fun c H1=>if c=true then Q true H1 else u σ H1 Q
noncomputable def tNot (t:TT):TT:=fun σ H Q=>t σ H fun c H1=>Q (!c) H1
theorem zCh (ha:PT X a tA):PW X (.BoolOp .And [a] pos) tA:=by
 intro wh pins s σ H Q I h
 refine isTrue_and (thn (ha pins s σ H Q I h) fun c s1 e=>?_)
 cases c with
 | true=>exact isTrue_and_nil e
 | false=>exact e
theorem pw_or1 (ha:PT X a tA):PW X (.BoolOp .Or [a] pos) tA:=by
 intro wh pins s σ H Q I h
 refine isTrue_or (thn (ha pins s σ H Q I h) fun c s1 e=>?_)
 cases c with
 | false=>exact isTrue_or_nil e
 | true=>exact e
theorem pw_and (ha:PT X a tA) (hb:PW X (.BoolOp .And (b :: rest) pos) tB'):PW X (.BoolOp .And (a :: b :: rest) pos) (tAnd tA tB'):=by
 intro wh pins s σ H Q I h
 refine isTrue_and (thn (ha pins s σ H _ I h) fun c s1 ⟨H1,I1,q1⟩=>?_)
 cases c with
 | true=>exact hb wh pins s1 σ H1 Q I1 q1
 | false=>exact ⟨H1,I1,q1⟩
theorem pw_or (ha:PT X a tA) (hb:PW X (.BoolOp .Or (b :: rest) pos) tB'):PW X (.BoolOp .Or (a :: b :: rest) pos) (tOr tA tB'):=by
 intro wh pins s σ H Q I h
 refine isTrue_or (thn (ha pins s σ H _ I h) fun c s1 ⟨H1,I1,q1⟩=>?_)
 cases c with
 | true=>exact ⟨H1,I1,q1⟩
 | false=>exact hb wh pins s1 σ H1 Q I1 q1
theorem zB0 (ha:PT X a tA):PT X (.UnaryOp .Not a pos) (tNot tA):=by
 intro pins s σ H Q I h
 exact isTrue_not (ha pins s σ H (fun c H1=>Q (!c) H1) I h)
noncomputable def tAndV (ta tb:TE):TE:=fun σ H Q=>ta σ H fun x H1=>∃ c,x=.bl c∧if c=true then tb σ H1 Q else Q (.bl false) H1
noncomputable def tOrV (ta tb:TE):TE:=fun σ H Q=>ta σ H fun x H1=>∃ c,x=.bl c∧if c=true then Q (.bl true) H1 else tb σ H1 Q
noncomputable def tNotV (ta:TE):TE:=fun σ H Q=>ta σ H fun x H1=>∃ c,x=.bl c∧Q (.bl (!c)) H1
theorem zC9 {op}{t:TE} (h:PE X a t):PE X (.BoolOp op [a] pos) t:=fun pins s σ H Q I hw=>BoolOp_one (h pins s σ H Q I hw)
theorem zCk (ha:PE X a ta) (hb:PE X (.BoolOp .And (b :: rest) pos) tb):PE X (.BoolOp .And (a :: b :: rest) pos) (tAndV ta tb):=by
 intro pins s σ H Q I h
 refine BoolOp_and (thn (ha pins s σ H _ I h) fun v s1 ⟨x,H1,I1,r1,q1⟩=>?_)
 obtain ⟨c,rfl,q1⟩:=q1
 cases r1
 refine wpAny_truthy_bool ?_
 cases c with
 | true=>exact hb pins s1 σ H1 Q I1 q1
 | false=>exact ⟨.bl false,H1,I1,rfl,q1⟩
theorem pe_or (ha:PE X a ta) (hb:PE X (.BoolOp .Or (b :: rest) pos) tb):PE X (.BoolOp .Or (a :: b :: rest) pos) (tOrV ta tb):=by
 intro pins s σ H Q I h
 refine BoolOp_or (thn (ha pins s σ H _ I h) fun v s1 ⟨x,H1,I1,r1,q1⟩=>?_)
 obtain ⟨c,rfl,q1⟩:=q1
 cases r1
 refine wpAny_truthy_bool ?_
 cases c with
 | false=>exact hb pins s1 σ H1 Q I1 q1
 | true=>exact ⟨.bl true,H1,I1,rfl,q1⟩
theorem pe_not (ha:PE X a ta):PE X (.UnaryOp .Not a pos) (tNotV ta):=by
 intro pins s σ H Q I h
 refine UnaryOp_ (thn (ha pins s σ H _ I h) fun v s1 ⟨x,H1,I1,r1,q1⟩=>?_)
 obtain ⟨c,rfl,q1⟩:=q1
 cases r1
 exact not_of (wpAny_truthy_bool ⟨.bl (!c),H1,I1,rfl,q1⟩)
end
end L2
namespace L2
open PySem PySem.Spec PyProof.Rows
noncomputable def SqL (K:PySem.W.Frag) (H:Hp) (a:Addr) (xs:List V):Prop :=
 Rd H a (.lst xs) ∨
  ∃ (o:Obj) (its:Array Value) (n:Nat),K.lookup a=some o∧o.cls=.type "list"∧o.dict=none∧o.data=.seq its n∧its.size≤sizeLine∧Vals xs its.toList
noncomputable def SqT (K:PySem.W.Frag) (H:Hp) (a:Addr) (xs:List V):Prop :=
 Rd H a (.tup xs) ∨
  ∃ (o:Obj) (its:Array Value) (n:Nat),K.lookup a=some o∧o.cls=.type "tuple"∧o.data=.seq its n∧its.size≤sizeLine∧Vals xs its.toList
noncomputable def absV:Value→Option V
 | .none=>some .non
 | .bool b=>some (.bl b)
 | .int i _=>some (.int i)
 | .str x _=>some (.str x)
 | .bytes b _=>some (.byt b)
 | .float b _=>some (.flt b)
 | .ref a=>some (.ref a)
 | .type n=>some (.ty n)
 | _=>none
theorem RelV.abs {x:V}{u:Value} (r:RelV x u):absV u=some x:=by
 cases x with
 | non=>cases r;rfl
 | bl _=>cases r;rfl
 | int _=>obtain ⟨t,rfl⟩:=r;rfl
 | str _=>obtain ⟨t,rfl⟩:=r;rfl
 | byt _=>obtain ⟨t,rfl⟩:=r;rfl
 | flt _=>obtain ⟨t,rfl⟩:=r;rfl
 | ref _=>cases r;rfl
 | ty _=>cases r;rfl
theorem RelV.inj {x y:V}{u:Value} (r:RelV x u) (q:RelV y u):x=y:=Option.some.inj (r.abs.symm.trans q.abs)
theorem Vals.inj:∀ {xs ys:List V}{us:List Value},Vals xs us→Vals ys us→xs=ys
 | _,_,_,.nil,.nil=>rfl
 | _,_,_,.cons r t,.cons r' t'=>by rw [r.inj r',Vals.inj t t']
section
variable {X:Cx}{pins:List (Addr×Obj)}{σ : St}{H:Hp}{s:Shared}{a:Addr}{xs ys:List V}
theorem SqL.of {K:PySem.W.Frag} (h:H a=some (.lst xs)):SqL K H a xs:=.inl (.inl h)
theorem SqT.of {K:PySem.W.Frag} (h:H a=some (.tup xs)):SqT K H a xs:=.inl (.inl h)
theorem Inv.list (I:Inv X pins σ H s) (h:SqL X.K H a xs):∃ its:List Value,Vals xs its∧PlainL s.heap a its.toArray∧xs.length≤sizeLine:=by
 rcases h with h | ⟨o,its,n,hk,hc,hd,hs,hz,r⟩
 ·obtain ⟨z,its,n,r,e⟩:=h.ok I.hok
  exact ⟨its,r,⟨_,n,e,rfl,rfl,rfl⟩,z⟩
 ·refine ⟨its.toList,r,⟨o,n,I.kIn a o hk,hc,hd,by simpa using hs⟩,?_⟩
  have e:=r.length
  simp only [Array.length_toList] at e
  omega
theorem Inv.tuple (I:Inv X pins σ H s) (h:SqT X.K H a xs):∃ its:List Value,Vals xs its∧IsTup s.heap a its.toArray∧xs.length≤sizeLine:=by
 rcases h with h | ⟨o,its,n,hk,hc,hs,hz,r⟩
 ·obtain ⟨z,its,r,p⟩:=h.ok I.hok
  exact ⟨its,r,p,z⟩
 ·refine ⟨its.toList,r,⟨o,I.kIn a o hk,hc,n,by simpa using hs⟩,?_⟩
  have e:=r.length
  simp only [Array.length_toList] at e
  omega
theorem Inv.list_inj (I:Inv X pins σ H s) (h:SqL X.K H a xs) (h':SqL X.K H a ys):xs=ys:=by
 obtain ⟨its,r,⟨o,n,e,_,_,d⟩,_⟩:=I.list h
 obtain ⟨its',r',⟨o',n',e',_,_,d'⟩,_⟩:=I.list h'
 rw [e] at e';cases e'
 rw [d] at d'
 injection d' with d1 _
 have:its=its':=by simpa using congrArg Array.toList d1
 subst this
 exact r.inj r'
theorem Inv.tuple_inj (I:Inv X pins σ H s) (h:SqT X.K H a xs) (h':SqT X.K H a ys):xs=ys:=by
 obtain ⟨its,r,⟨o,e,_,n,d⟩,_⟩:=I.tuple h
 obtain ⟨its',r',⟨o',e',_,n',d'⟩,_⟩:=I.tuple h'
 rw [e] at e';cases e'
 rw [d] at d'
 injection d' with d1 _
 have:its=its':=by simpa using congrArg Array.toList d1
 subst this
 exact r.inj r'
end
noncomputable abbrev Cx.wish (X:Cx) (E:Value→Shared→Prop):Cx:={ X with xe:=E }
noncomputable abbrev Cx.nox (X:Cx):Cx:=X.wish fun _ _=>False
theorem Cx.Ok.wish {X:Cx} (ok:X.Ok) (E:Value→Shared→Prop):(X.wish E).Ok :=
 ⟨ok.mod,ok.kind,ok.glob,ok.blt,ok.above,ok.inj,ok.has,ok.cab,ok.hd,ok.frames,ok.stk,ok.exf,ok.bs,ok.bsz,ok.noex,ok.exfs,ok.funs,ok.frf⟩
theorem Cx.Ok.unwish {X:Cx}{E:Value→Shared→Prop} (ok:(X.wish E).Ok):X.Ok :=
 ⟨ok.mod,ok.kind,ok.glob,ok.blt,ok.above,ok.inj,ok.has,ok.cab,ok.hd,ok.frames,ok.stk,ok.exf,ok.bs,ok.bsz,ok.noex,ok.exfs,ok.funs,ok.frf⟩
section
variable {X:Cx}{pins:List (Addr×Obj)}{σ : St}{H:Hp}{s:Shared}{E:Value→Shared→Prop}
theorem Inv.wish (I:Inv X pins σ H s) (E:Value→Shared→Prop):Inv (X.wish E) pins σ H s:=⟨I.ok.wish E,I.os,I.bare,I.base,I.loc,I.cell,I.free,I.freeC,I.pin,I.hok,I.len⟩
theorem Inv.unwish (I:Inv (X.wish E) pins σ H s):Inv X pins σ H s:=⟨I.ok.unwish,I.os,I.bare,I.base,I.loc,I.cell,I.free,I.freeC,I.pin,I.hok,I.len⟩
theorem SP.unwish {D:Ends}{f:Flow}{s':Shared} (h:SP (X.wish E) pins D f s'):SP X pins D f s':=by
 cases f with
 | next=>obtain ⟨σ',H',I,q⟩:=h;exact ⟨σ',H',I.unwish,q⟩
 | brk=>obtain ⟨σ',H',I,q⟩:=h;exact ⟨σ',H',I.unwish,q⟩
 | cont=>obtain ⟨σ',H',I,q⟩:=h;exact ⟨σ',H',I.unwish,q⟩
 | ret u=>obtain ⟨v,σ',H',I,r,q⟩:=h;exact ⟨v,σ',H',I.unwish,r,q⟩
theorem PE.nox {e:Expr}{t:TE} (h:PE X.nox e t):PE X e t:=fun pins s σ H Q I hw =>
 wpAny_mono (h pins s σ H Q (I.wish _) hw) (fun _ _ ⟨v,H',I',r,q⟩=>⟨v,H',I'.unwish,r,q⟩) fun _ _ z=>False.elim z
theorem PT.nox {e:Expr}{t:TT} (h:PT X.nox e t):PT X e t:=fun pins s σ H Q I hw =>
 wpAny_mono (h pins s σ H Q (I.wish _) hw) (fun _ _ ⟨H',I',q⟩=>⟨H',I'.unwish,q⟩) fun _ _ z=>False.elim z
theorem PSs.nox {st:List Stmt}{t:TS} (h:PSs X.nox st t):PSs X st t:=fun pins s σ H D I hw =>
 wpAny_mono (h pins s σ H D (I.wish _) hw) (fun _ _ q=>q.unwish) fun _ _ z=>False.elim z
end
section
variable {X:Cx}{st:Stmt}{rest:List Stmt}{t u:TS}{e:Expr}{te:TE}{pos:Pos}
noncomputable def tNext:TS:=fun D σ H=>D.nx σ H
noncomputable def tSeq (t u:TS):TS:=fun D σ H=>t { D with nx:=u D } σ H
theorem zAb:PSs X [] tNext:=fun _ _ σ H _ I h=>wpAny_execs_nil ⟨σ,H,I,h⟩
theorem zA3 (h1:PS X st t) (h2:PSs X rest u):PSs X (st :: rest) (tSeq t u):=by
 intro pins s σ H D I h
 refine wpAny_execs_cons (thn (h1 pins s σ H { D with nx:=u D } I h) fun f s1 q=>?_)
 cases f with
 | next =>
  obtain ⟨σ',H',I',q⟩:=q
  exact h2 pins s1 σ' H' D I' q
 | ret v=>exact q
 | brk=>exact q
 | cont=>exact q
theorem zA4 (h1:PS X st t):PSs X [st] t:=by
 intro pins s σ H D I h
 refine wpAny_execs_cons (thn (h1 pins s σ H D I h) fun f s1 q=>?_)
 cases f with
 | next=>exact wpAny_execs_nil q
 | ret v=>exact q
 | brk=>exact q
 | cont=>exact q
theorem Inv.quiet {pins:List (Addr×Obj)}{σ : St}{H:Hp}{s:Shared} (I:Inv X pins σ H s):interactive X.env=false:=by simp [interactive,I.ok.kind]
noncomputable def tDrop (te:TE):TS:=fun D σ H=>te σ H fun _ H1=>D.nx σ H1
theorem zAq (he:PE X e te) (hs:swapsWith e none pos.line X.env=pure false:=by rfl):PS X (.Expr e pos) (tDrop te):=by
 intro pins s σ H D I h
 exact wpAny_Expr_any (thn (he pins s σ H _ I h) fun v s1 ⟨x,H1,I1,r1,q1⟩=>⟨σ,H1,I1,q1⟩) I.quiet hs
noncomputable def tRet (te:TE):TS:=fun D σ H=>te σ H D.rt
theorem zAd (he:PE X e te):PS X (.Return (some e) pos) (tRet te):=by
 intro pins s σ H D I h
 exact wpAny_Return_some (thn (he pins s σ H _ I h) fun v s1 ⟨x,H1,I1,r1,q1⟩=>⟨x,σ,H1,I1,r1,q1⟩)
noncomputable def tIfS (c:TT) (t u:TS):TS:=fun D σ H=>c σ H fun b H1=>if b=true then t D σ H1 else u D σ H1
theorem zAp {c:Expr}{a b:List Stmt}{tc:TT} (hc:PT X c tc) (ha:PSs X a t) (hb:PSs X b u):PS X (.If c a b pos) (tIfS tc t u):=by
 intro pins s σ H D I h
 refine wpAny_If (thn (hc pins s σ H _ I h) fun d s1 ⟨H1,I1,q1⟩=>?_)
 cases d with
 | true=>exact ha pins s1 σ H1 D I1 q1
 | false=>exact hb pins s1 σ H1 D I1 q1
end
noncomputable abbrev TG:=V→St→Hp→(St→Hp→Prop)→Prop
noncomputable def PG (X:Cx) (target:Expr) (t:TG):Prop :=
 ∀ (pins:List (Addr×Obj)) (s:Shared) (σ : St) (H:Hp) (v:V) (u:Value) (Q:St→Hp→Prop),Inv X pins σ H s→RelV v u→t v σ H Q →
  wpAny (model X.prog X.w) X.A (assign target X.env u) (fun _ s'=>∃ σ' H',Inv X pins σ' H' s'∧Q σ' H') X.xe s
noncomputable abbrev TSet:=V→V→V→Hp→(Hp→Prop)→Prop
noncomputable def PSet (X:Cx) (t:TSet):Prop :=
 ∀ (pins:List (Addr×Obj)) (s:Shared) (σ : St) (H:Hp) (o i v:V) (ov iv u:Value) (Q:Hp→Prop),Inv X pins σ H s→RelV o ov→RelV i iv→RelV v u→t o i v H Q →
  wpAny (model X.prog X.w) X.A (setItem ov iv u) (fun _ s'=>∃ H',Inv X pins σ H' s'∧Q H') X.xe s
section
variable {X:Cx}{pos:Pos}
noncomputable def gName (i:Nat):TG:=fun v σ H Q=>Q (σ.set i (some v)) H
theorem zAx {i:Nat}{x:Str} (hN:X.N.Nodup) (hi:X.N[i]? = some x) (hx:Loc X.env.scope x) (hf:X.fn x=true∨X.env.scope.names.lookup x=some .local:=by first | exact .inl rfl | exact .inr rfl | assumption):PG X (.Name x pos) (gName i):=by
 intro pins s σ H v u Q I r h
 exact wpAny_assign_Name (zD6 I hN hi hx r (fun s' I'=>⟨_,H,I',h⟩) hf)
noncomputable def gSub (to ti:TE) (t:TSet):TG:=fun v σ H Q=>to σ H fun o H1=>ti σ H1 fun i H2=>t o i v H2 fun H3=>Q σ H3
theorem pg_sub {o i:Expr}{to ti:TE}{t:TSet} (ho:PE X o to) (hi:PE X i ti) (hs:PSet X t)
  (ha:∀ v,assign (.Subscript o i pos) X.env v=(do
   let ov ← holding [v] (eval o X.env)
   let iv ← holding [v,ov] (eval i X.env)
   standAt pos
   holding [v,ov,iv] (setItem ov iv v)
   release [v,ov,iv] []):=by intro _;rfl):PG X (.Subscript o i pos) (gSub to ti t):=by
 intro pins s σ H v u Q I r h
 rw [ha]
 refine wpAny_bind (wpAny_holding (thn (ho pins s σ H _ I h) fun ov s1 ⟨x,H1,I1,r1,q1⟩=>?_))
 refine wpAny_bind (wpAny_holding (thn (hi pins s1 σ H1 _ I1 q1) fun iv s2 ⟨y,H2,I2,r2,q2⟩=>?_))
 refine wpAny_bind (wpAny_standAt (wpAny_bind (wpAny_holding (thn (hs pins s2 σ H2 x y v ov iv u _ I2 r1 r2 r q2) fun _ s3 ⟨H3,I3,q3⟩=>?_))))
 exact wpAny_release ⟨σ,H3,I3,q3⟩
noncomputable def tAsg (te:TE) (g:TG):TS:=fun D σ H=>te σ H fun x H1=>g x σ H1 D.nx
theorem ps_asg {tg e:Expr}{te:TE}{g:TG} (he:PE X e te) (hg:PG X tg g) (hs:swapsWithSole [tg] e pos.line X.env=pure false:=by rfl) (hw:swappedStores [tg] e X.env=pure none:=by rfl)
  (h1:(assignEach [tg] X.env).map (·.2)=[assign tg X.env]:=by rfl):PS X (.Assign [tg] e pos) (tAsg te g):=by
 intro pins s σ H D I h
 refine wpAny_Assign_stores (thn (he pins s σ H _ I h) fun v s1 ⟨x,H1,I1,r1,q1⟩=>?_) hs hw
 rw [h1]
 exact thn (hg pins s1 σ H1 x v _ I1 r1 q1) fun _ s2 q=>q
theorem zAe {i:Nat}{x:Str}{e:Expr}{te:TE}{pos':Pos} (hN:X.N.Nodup) (hi:X.N[i]? = some x) (hx:Loc X.env.scope x) (he:PE X e te) (hs:swapsWith e (some (.Name x pos')) pos.line X.env=pure false:=by rfl) (hf:X.fn x=true∨X.env.scope.names.lookup x=some .local:=by first | exact .inl rfl | exact .inr rfl | assumption) :
  PS X (.Assign [.Name x pos'] e pos) (tAsg te (gName i)):=by
 intro pins s σ H D I h
 refine wpAny_Assign_Name (thn (he pins s σ H _ I h) fun v s1 ⟨y,H1,I1,r1,q1⟩=>?_) hs
 exact zD6 I1 hN hi hx r1 (fun s2 I2=>⟨_,H1,I2,q1⟩) hf
end
section
variable {X:Cx}{pos:Pos}
end
structure It where
 go:Nat→Hp→Prop
 yld:Nat→Hp→V→Hp→Prop
 stop:Nat→Hp→Prop
noncomputable def FpOk (X:Cx) (pins:List (Addr×Obj)) (H:Hp) (b:Addr):Prop :=
 H b=none∧b≠X.env.locals∧b∉X.fs∧(b∈X.ex∨X.s₀.heap.objs.size≤b)∧(∀ x c,X.env.cells.lookup x=some c→c≠b)∧∀ p∈X.pn++pins,p.1≠b
theorem Inv.fpOk {X:Cx}{pins:List (Addr×Obj)}{σ : St}{H H':Hp}{s:Shared}{b:Addr} (I:Inv X pins σ H s) (hb:s.heap.objs.size≤b) (hn:H' b=none):FpOk X pins H' b:=by
 refine ⟨hn,Nat.ne_of_gt (Nat.lt_of_lt_of_le I.lt hb),I.nofs hb,.inr (Nat.le_trans I.sz hb),fun x c e z=>?_,fun p hp z=>?_⟩
 ·obtain ⟨v,q⟩:=I.cell x c e
  exact absurd (Nat.lt_of_lt_of_le q.lt (by rw [z];exact hb)) (Nat.lt_irrefl _)
 ·exact absurd (Nat.lt_of_lt_of_le (Heap.lt_size (I.pin p hp).1) (by rw [z];exact hb)) (Nat.lt_irrefl _)
structure Turn (P:Program) (w:World) (K:PySem.W.Frag) (tg:Expr) (J:It) (fp:List Addr) (it:Addr) (tn:Nat→Heap→Prop):Prop where
 mem:it∈fp
 obj:∀ i h,tn i h→∀ b∈fp,∃ o,h.get? b=some o∧∀ v,o.data≠.cell v
 keep:∀ i h h',tn i h→(∀ b∈fp,∀ o,h.get? b=some o→h'.get? b=some o)→tn i h'
 item:∀ (X:Cx),X.prog=P→X.w=w→X.K=K→X.calm=true→∀ (i:Nat) (pins:List (Addr×Obj)) (s:Shared) (σ : St) (H:Hp) (E:Value→Shared→Prop),Inv X pins σ H s→(∀ b∈fp,FpOk X pins H b)→tn i s.heap→J.go i H →
  wpAny (model P w) X.A (pyNext (.ref it)) (fun r s1=>∃ u,r=some u ∧
   wpAny (model P w) X.A (letOwnedTupleGo tg (.ref it) u) (fun _ s2=>∃ x H',Inv X pins σ H' s2∧RelV x u∧J.yld i H x H'∧tn (i + 1) s2.heap∧∀ b∈fp,H' b=none) E s1) E s
 done:∀ (X:Cx),X.prog=P→X.w=w→X.K=K→X.calm=true→∀ (i:Nat) (pins:List (Addr×Obj)) (s:Shared) (σ : St) (H:Hp) (E:Value→Shared→Prop),Inv X pins σ H s→(∀ b∈fp,FpOk X pins H b)→tn i s.heap→J.stop i H →
  wpAny (model P w) X.A (pyNext (.ref it)) (fun r s1=>r=none∧Inv X pins σ H s1) E s
 self:∀ (A:Around) (i:Nat) (s:Shared) (Q:Value→Shared→Prop) (E:Value→Shared→Prop),tn i s.heap→Q (.ref it) s→wpAny (model P w) A (pyIter (.ref it)) Q E s
noncomputable abbrev TI:=St→Hp→(It→Hp→Prop)→Prop
noncomputable def PIE (X:Cx) (pins:List (Addr×Obj)) (σ : St) (tg:Expr) (R:It→Hp→Prop) (itv:Value) (s2:Shared):Prop :=
 ∃ (it:Addr) (fp:List Addr) (tn:Nat→Heap→Prop) (J:It) (H':Hp),itv=.ref it∧Inv X pins σ H' s2∧Turn X.prog X.w X.K tg J fp it tn∧tn 0 s2.heap∧(∀ b∈fp,FpOk X pins H' b)∧R J H'
noncomputable def PI (X:Cx) (tg iter:Expr) (wi:TI):Prop :=
 ∀ (pins:List (Addr×Obj)) (s:Shared) (σ : St) (H:Hp) (R:It→Hp→Prop),Inv X pins σ H s→wi σ H R →
  wpAny (model X.prog X.w) X.A (eval iter X.env) (fun v s1=>wpAny (model X.prog X.w) X.A (pyIter v) (PIE X pins σ tg R) X.xe s1) X.xe s
theorem go_of {M:Model}{A:Around}{E:Value→Shared→Prop}{s:Shared}{tg:Expr}{it:Addr}{u:Value}{o:Obj}{n:String}{vs:Array Value}{Q:Unit→Shared→Prop} (ho:s.heap.get? it=some o) (hc:o.cls=.type n) (hd:o.data=.fields vs)
  (hn:["enumerate", "zip", "dict_itemiterator", "dict_reverseitemiterator", "odict_iterator", "itertools.zip_longest", "itertools.pairwise"].contains n=false) (hQ:Q () s):wpAny M A (letOwnedTupleGo tg (.ref it) u) Q E s:=by
 unfold letOwnedTupleGo
 cases tg <;> first
  | exact wpAny_pure hQ
  | (cases u <;> first
    | exact wpAny_pure hQ
    | (refine wpAny_bind (wpAny_load ho ?_)
       rw [hc,hd]
       show wpAny M A (if (["enumerate", "zip", "dict_itemiterator", "dict_reverseitemiterator", "odict_iterator", "itertools.zip_longest", "itertools.pairwise"].contains n && vs[0]? == some (rawInt _))=true then _ else _) Q E s
       rw [if_neg (by intro h;rw [hn,Bool.false_and] at h;cases h)]
       exact wpAny_pure hQ))
noncomputable def Itl (K:PySem.W.Frag) (a:Addr):It :=
 ⟨fun i H=>∃ xs x,SqL K H a xs∧xs[i]? = some x,fun i H x H'=>H'=H∧∀ xs,SqL K H a xs→xs[i]? = some x,fun i H=>∃ xs,SqL K H a xs∧xs.length≤i⟩
noncomputable def Itt (K:PySem.W.Frag) (a:Addr):It :=
 ⟨fun i H=>∃ xs x,SqT K H a xs∧xs[i]? = some x,fun i H x H'=>H'=H∧∀ xs,SqT K H a xs→xs[i]? = some x,fun i H=>∃ xs,SqT K H a xs∧xs.length≤i⟩
noncomputable def Itr (lo:Int) (n:Nat):It:=⟨fun i _=>i < n,fun i H x H'=>H'=H∧x=.int (lo + i),fun i _=>n≤i⟩
theorem turn_list {P:Program}{w:World}{K:PySem.W.Frag}{tg:Expr} (a it:Addr):Turn P w K tg (Itl K a) [it] it (fun i h=>h.IsListIter it a i) where
 mem:=by simp
 obj:=fun i h st b hb=>by
  have e:b=it:=by simpa using hb
  subst e
  obtain ⟨o,e,c,d⟩:=st
  exact ⟨o,e,fun v z=>by rw [d] at z;cases z⟩
 keep:=fun i h h' st k=>st.at fun o e=>k it (by simp) o e
 item:=by
  intro X hP hw hK hc i pins s σ H E I hf st hg
  subst hP hw hK
  obtain ⟨xs,x,hq,hx⟩:=hg
  obtain ⟨its,rv,p,hz⟩:=I.list hq
  obtain ⟨u,hu,ru⟩:=rv.get hx
  obtain ⟨f0,f1,f2,f3,f4,f5⟩:=hf it (by simp)
  refine wpAny_pyNext_list_item st p.isList (x:=u) (by simpa using hu) fun h' st' sb=>?_
  have I1:Inv X pins σ H { s with heap:=h' }:=I.turned (t':=s.toks) (fun b o hb e=>(sb.2 b hb).trans e) f0 f1 f3 f4 f5
  obtain ⟨o,e,c,d⟩:=id st'
  exact ⟨u,rfl,go_of (s:={ s with heap:=h' }) e c d (by decide) ⟨x,H,I1,ru,⟨rfl,fun ys hy=>by rw [I.list_inj hy hq];exact hx⟩,st',fun b hb=>(hf b hb).1⟩⟩
 done:=by
  intro X hP hw hK hc i pins s σ H E I hf st hg
  subst hP hw hK
  obtain ⟨xs,hq,hx⟩:=hg
  obtain ⟨its,rv,p,hz⟩:=I.list hq
  obtain ⟨f0,f1,f2,f3,f4,f5⟩:=hf it (by simp)
  have hl:=rv.length
  exact wpAny_pyNext_list_end (I.ok.hd hc) st p.isList (by simp;omega) fun h' eb=>⟨rfl,I.turned (t':=s.toks) (fun b o hb e=>eb b o hb e) f0 f1 f3 f4 f5⟩
 self:=fun _ _ _ _ _ st h=>wpAny_pyIter_listiter st h
theorem turn_tuple {P:Program}{w:World}{K:PySem.W.Frag}{tg:Expr} (a it:Addr):Turn P w K tg (Itt K a) [it] it (fun i h=>h.IsTupleIter it a i) where
 mem:=by simp
 obj:=fun i h st b hb=>by
  have e:b=it:=by simpa using hb
  subst e
  obtain ⟨o,e,c,d⟩:=st
  exact ⟨o,e,fun v z=>by rw [d] at z;cases z⟩
 keep:=fun i h h' st k=>st.at fun o e=>k it (by simp) o e
 item:=by
  intro X hP hw hK hc i pins s σ H E I hf st hg
  subst hP hw hK
  obtain ⟨xs,x,hq,hx⟩:=hg
  obtain ⟨its,rv,p,hz⟩:=I.tuple hq
  obtain ⟨u,hu,ru⟩:=rv.get hx
  obtain ⟨f0,f1,f2,f3,f4,f5⟩:=hf it (by simp)
  refine wpAny_pyNext_tuple_item st (show s.heap.IsTuple a its.toArray from p) (x:=u) (by simpa using hu) fun h' st' sb=>?_
  have I1:Inv X pins σ H { s with heap:=h' }:=I.turned (t':=s.toks) (fun b o hb e=>(sb.2 b hb).trans e) f0 f1 f3 f4 f5
  obtain ⟨o,e,c,d⟩:=id st'
  exact ⟨u,rfl,go_of (s:={ s with heap:=h' }) e c d (by decide) ⟨x,H,I1,ru,⟨rfl,fun ys hy=>by rw [I.tuple_inj hy hq];exact hx⟩,st',fun b hb=>(hf b hb).1⟩⟩
 done:=by
  intro X hP hw hK hc i pins s σ H E I hf st hg
  subst hP hw hK
  obtain ⟨xs,hq,hx⟩:=hg
  obtain ⟨its,rv,p,hz⟩:=I.tuple hq
  obtain ⟨f0,f1,f2,f3,f4,f5⟩:=hf it (by simp)
  have hl:=rv.length
  exact wpAny_pyNext_tuple_end (I.ok.hd hc) st (show s.heap.IsTuple a its.toArray from p) (by simp;omega) fun h' eb=>⟨rfl,I.turned (t':=s.toks) (fun b o hb e=>eb b o hb e) f0 f1 f3 f4 f5⟩
 self:=fun _ _ _ _ _ st h=>wpAny_pyIter_tupleiter st h
theorem turn_range {P:Program}{w:World}{K:PySem.W.Frag}{tg:Expr} (it:Addr) (lo:Int) (n:Nat):Turn P w K tg (Itr lo n) [it] it (fun i h=>IsRangeIter h it (lo + (i:Nat) * 1) ((n:Int) - (i:Nat)) 1) where
 mem:=by simp
 obj:=fun i h st b hb=>by
  have e:b=it:=by simpa using hb
  subst e
  exact ⟨_,st,fun v z=>by
   have z':Data.fields _=Data.cell v:=z
   cases z'⟩
 keep:=fun i h h' st k=>k it (by simp) _ st
 item:=by
  intro X hP hw hK hc i pins s σ H E I hf st hg
  subst hP hw hK
  obtain ⟨f0,f1,f2,f3,f4,f5⟩:=hf it (by simp)
  have W:=Walks.range (prog:=X.prog) (w:=X.w) (I.ok.hd hc) it lo 1 n
  refine W.item i s _ _ hg st fun v h' tk hv st' kk=>?_
  obtain ⟨t,rfl⟩:=hv
  have I1:Inv X pins σ H { s with heap:=h',toks:=tk }:=I.turned (fun b o hb e=>kk b o (by simpa using hb) e) f0 f1 f3 f4 f5
  refine ⟨_,rfl,go_of (s:={ s with heap:=h',toks:=tk }) (n:="range_iterator") st' rfl rfl (by decide) ⟨.int (lo + i),H,I1,⟨t,?_⟩,⟨rfl,rfl⟩,st',fun b hb=>(hf b hb).1⟩⟩
  rw [Int.mul_one]
 done:=by
  intro X hP hw hK hc i pins s σ H E I hf st hg
  subst hP hw hK
  obtain ⟨f0,f1,f2,f3,f4,f5⟩:=hf it (by simp)
  exact wpAny_pyNext_range_end (I.ok.hd hc) st (by have:n≤i:=hg;omega) fun h' eb=>⟨rfl,I.turned (t':=s.toks) (fun b o hb e=>eb b o hb e) f0 f1 f3 f4 f5⟩
 self:=fun _ _ _ _ _ st h=>wpAny_pyIter_rangeiter st h
end L2
namespace L2
open PySem PySem.Spec PyProof.Rows
section
variable {X:Cx}{tg:Expr}
noncomputable def iList (K:PySem.W.Frag) (tl:TE):TI:=fun σ H R=>tl σ H fun x H1=>∃ a,x=.ref a∧(∃ xs,SqL K H1 a xs)∧R (Itl K a) H1
noncomputable def iTup (K:PySem.W.Frag) (tl:TE):TI:=fun σ H R=>tl σ H fun x H1=>∃ a,x=.ref a∧(∃ xs,SqT K H1 a xs)∧R (Itt K a) H1
theorem zBz {l:Expr}{tl:TE} (hl:PE X l tl):PI X tg l (iList X.K tl):=by
 intro pins s σ H R I h
 refine thn (hl pins s σ H _ I h) fun v s1 ⟨x,H1,I1,r1,q1⟩=>?_
 obtain ⟨a,e,⟨xs,hq⟩,q⟩:=q1
 subst e
 cases r1
 obtain ⟨its,rv,p,hz⟩:=I1.list hq
 refine wpAny_pyIter_list p.isList ?_
 refine ⟨s1.heap.objs.size,[s1.heap.objs.size],_,_,H1,rfl,I1.kept (t':=s1.toks) fun b o e=>Heap.get?_push_of_some _ e,turn_list a _,⟨_,Heap.get?_push_size _ rfl,rfl,rfl⟩,fun b hb=>?_,q⟩
 have e:b=s1.heap.objs.size:=by simpa using hb
 subst e
 exact I1.fpOk (Nat.le_refl _) (I1.hok.fresh (Nat.le_refl _))
theorem pi_tup {l:Expr}{tl:TE} (hl:PE X l tl):PI X tg l (iTup X.K tl):=by
 intro pins s σ H R I h
 refine thn (hl pins s σ H _ I h) fun v s1 ⟨x,H1,I1,r1,q1⟩=>?_
 obtain ⟨a,e,⟨xs,hq⟩,q⟩:=q1
 subst e
 cases r1
 obtain ⟨its,rv,p,hz⟩:=I1.tuple hq
 refine wpAny_pyIter_tuple (show s1.heap.IsTuple a its.toArray from p) ?_
 refine ⟨s1.heap.objs.size,[s1.heap.objs.size],_,_,H1,rfl,I1.kept (t':=s1.toks) fun b o e=>Heap.get?_push_of_some _ e,turn_tuple a _,⟨_,Heap.get?_push_size _ rfl,rfl,rfl⟩,fun b hb=>?_,q⟩
 have e:b=s1.heap.objs.size:=by simpa using hb
 subst e
 exact I1.fpOk (Nat.le_refl _) (I1.hok.fresh (Nat.le_refl _))
theorem range_it {pins:List (Addr×Obj)}{σ : St}{H:Hp}{s:Shared}{R:It→Hp→Prop}{E:Value→Shared→Prop}{lo hi:Int}{t u v:Tok}{tk:Nat} (I:Inv X pins σ H s) (h1 : -(2 ^ 62)≤lo) (h2:lo < 2 ^ 62) (h3 : -(2 ^ 62)≤hi) (h4:hi < 2 ^ 62)
  (q:R (Itr lo (hi - lo).toNat) H):wpAny (model X.prog X.w) X.A (pyIter (.ref s.heap.objs.size)) (PIE X pins σ tg R) E { s with heap:=s.heap.push { cls:=.type "range",data:=.fields #[.int lo t,.int hi u,.int 1 v] },toks:=tk }:=by
 refine wpAny_pyIter_range (IsRange.new ..) (small_one h1 h2 h3 h4) ?_
 have I1:Inv X pins σ H { s with heap:=s.heap.push { cls:=.type "range",data:=.fields #[.int lo t,.int hi u,.int 1 v] },toks:=tk }:=I.kept fun b o e=>Heap.get?_push_of_some _ e
 refine ⟨(s.heap.push { cls:=.type "range",data:=.fields #[.int lo t,.int hi u,.int 1 v] }).objs.size,[(s.heap.push { cls:=.type "range",data:=.fields #[.int lo t,.int hi u,.int 1 v] }).objs.size],_,_,H,rfl,
  I1.kept (t':=tk) fun b o e=>Heap.get?_push_of_some _ e,turn_range _ lo (hi - lo).toNat,?_,fun b hb=>?_,q⟩
 ·have e1:lo + ((0:Nat):Int) * 1=lo:=by simp
  have e2:(((hi - lo).toNat:Nat):Int) - ((0:Nat):Int)=Builtin.Range.rangeSize lo hi 1:=by rw [rangeSize_one];split <;> omega
  show IsRangeIter _ _ (lo + ((0:Nat):Int) * 1) ((((hi - lo).toNat:Nat):Int) - ((0:Nat):Int)) 1
  rw [e1,e2]
  exact Heap.get?_push_size _ rfl
 ·have e:b=(s.heap.push { cls:=.type "range",data:=.fields #[.int lo t,.int hi u,.int 1 v] }).objs.size:=by simpa using hb
  subst e
  exact I1.fpOk (Nat.le_refl _) (I1.hok.fresh (Nat.le_refl _))
noncomputable def iRng1 (ta:TA):TI:=fun σ H R=>ta σ H fun vs H1=>∃ j:Int,vs=[.int j]∧-(2 ^ 62)≤j∧j < 2 ^ 62∧R (Itr 0 j.toNat) H1
theorem zBc {a:Expr}{ta:TA}{p pos:Pos} (hg:Gl X "range") (hm:X.mg "range" = none) (ha:PA X [a] ta) (hs:starEach [a] X.env=[(false,eval a X.env)]:=by rfl):PI X tg (.Call (.Name "range" p) [a] [] pos) (iRng1 ta):=by
 intro pins s σ H R I h
 refine Call_ (ld_blt I hg hm boot_range (PyProof.Rows.callWith_type1 (thn (ha pos pins s σ H _ I h) fun us s1 ⟨vs,H1,I1,r1,q1⟩=>?_) hs rfl))
 obtain ⟨j,e,q1,q2,q⟩:=q1
 subst e
 cases r1 with
 | cons r rr =>
  cases rr
  obtain ⟨t,rfl⟩:=r
  exact call_range_1 (range_it I1 (by omega) (by omega) q1 q2 (by simpa using q))
noncomputable def tFor (wi:TI) (g:TG) (tb:TS):TS:=fun D σ H=>wi σ H fun J H1=>∃ W:Nat→Nat→St→Hp→Prop,(∃ m,W 0 m σ H1)∧∀ i m σ H,W i m σ H →
 (J.stop i H∧D.nx σ H)∨(J.go i H∧∃ N:St→Hp→Prop,(∀ σ' H',N σ' H'→∃ m',m' < m∧W (i + 1) m' σ' H')∧∀ x H',J.yld i H x H'→g x σ H' fun σ2 H2=>tb { D with nx:=N,ct:=N,bk:=D.nx } σ2 H2)
noncomputable def pinsAt (fp:List Addr) (h:Heap):List (Addr×Obj):=fp.filterMap fun b=>(h.get? b).map fun o=>(b,o)
theorem zC4 {fp:List Addr}{h:Heap}{b:Addr}{o:Obj} (hb:b∈fp) (e:h.get? b=some o):(b,o)∈pinsAt fp h:=List.mem_filterMap.mpr ⟨b,hb,by rw [e];rfl⟩
theorem of_pinsAt {fp:List Addr}{h:Heap}{p:Addr×Obj} (hp:p∈pinsAt fp h):p.1∈fp∧h.get? p.1=some p.2:=by
 obtain ⟨b,hb,e⟩:=List.mem_filterMap.mp hp
 cases q:h.get? b with
 | none=>rw [q] at e;cases e
 | some o =>
  rw [q] at e
  have e':(b,o)=p:=Option.some.inj e
  subst e'
  exact ⟨hb,q⟩
theorem Inv.pinned {pins:List (Addr×Obj)}{σ : St}{H:Hp}{s:Shared}{fp:List Addr} (I:Inv X pins σ H s) (hf:∀ b∈fp,FpOk X pins H b) (ho:∀ b∈fp,∃ o,s.heap.get? b=some o∧∀ v,o.data≠.cell v):Inv X (pins++pinsAt fp s.heap) σ H s :=
 I.pins_of fun p hp=>(List.mem_append.mp hp).elim (fun z=>I.pin p (List.mem_append_right _ z)) fun z=>by
  obtain ⟨hb,e⟩:=of_pinsAt z
  obtain ⟨f0,f1,f2,_⟩:=hf p.1 hb
  obtain ⟨o,e',d⟩:=ho p.1 hb
  rw [e] at e';cases e'
  exact ⟨e,f0,f1,f2,d⟩
theorem Inv.unpinned {pins pl:List (Addr×Obj)}{σ : St}{H:Hp}{s:Shared} (I:Inv X (pins++pl) σ H s):Inv X pins σ H s:=I.pins_of fun p hp=>I.pin p (List.mem_append_right _ (List.mem_append_left _ hp))
theorem zCx {iter:Expr}{body:List Stmt}{wi:TI}{g:TG}{tb:TS}{pos:Pos} (hp:PassesOwn (model X.prog X.w) X.A X.env X.xe) (hc:X.calm=true) (hi:PI X tg iter wi) (hg:PG X tg g) (hb:PSs X body tb)
  (hs:∀ x,foldedSetIterable iter X.env x=pure x:=by intro _;rfl):PS X (.For tg iter body [] pos) (tFor wi g tb):=by
 intro pins s σ H D I h
 refine wpAny_For (thn (hi pins s σ H _ I h) fun v s1 h1=>thn h1 fun itv s2 h2=>?_) hs
 obtain ⟨it,fp,tn,J,H2,e,I2,T,st2,f2,W,⟨m0,w0⟩,turn⟩:=h2
 subst e
 have stat:∀ {H':Hp},(∀ b∈fp,H' b=none)→∀ b∈fp,FpOk X pins H' b:=fun hn b hb=>⟨hn b hb,(f2 b hb).2⟩
 refine codeAny_forLoop_any (fun n s'=>∃ i σ' H',Inv X pins σ' H' s'∧tn i s'.heap∧(∀ b∈fp,H' b=none)∧W i n σ' H') ?_ m0 ⟨0,σ,H2,I2,st2,fun b hb=>(f2 b hb).1,w0⟩
 rintro n s3 ⟨i,σ3,H3,I3,st3,fr3,w3⟩
 rcases turn i n σ3 H3 w3 with ⟨stop,qn⟩ | ⟨go,N,hN,step⟩
 ·refine wpAny_passesOwn hp (thn (T.done X rfl rfl rfl hc i pins s3 σ3 H3 X.xe I3 (stat fr3) st3 stop) fun r s4 ⟨hr,I4⟩=>?_)
  subst hr
  exact wpAny_execs_nil ⟨σ3,H3,I4,qn⟩
 ·refine wpAny_passesOwn hp (thn (T.item X rfl rfl rfl hc i pins s3 σ3 H3 X.xe I3 (stat fr3) st3 go) fun r s4 ⟨u,hr,h4⟩=>?_)
  subst hr
  refine wpAny_passesOwn hp (thn h4 fun _ s5 ⟨x,H5,I5,r5,y5,st5,fr5⟩=>?_)
  have I5':=I5.pinned (stat fr5) (T.obj _ _ st5)
  refine wpAny_passesOwn hp (thn (hg _ s5 σ3 H5 x u _ I5' r5 (step x H5 y5)) fun _ s6 ⟨σ6,H6,I6,q6⟩=>?_)
  refine wpAny_passesOwn hp (thn (hb _ s6 σ6 H6 _ I6 q6) fun f s7 q7=>?_)
  have again:∀ {σ7:St}{H7:Hp},Inv X (pins++pinsAt fp s5.heap) σ7 H7 s7→N σ7 H7→∃ m,m < n∧∃ i σ' H',Inv X pins σ' H' s7∧tn i s7.heap∧(∀ b∈fp,H' b=none)∧W i m σ' H':=fun {σ7 H7} I7 n7=>by
   obtain ⟨m',hm,w7⟩:=hN σ7 H7 n7
   refine ⟨m',hm,i + 1,σ7,H7,I7.unpinned,T.keep _ _ _ st5 fun b hb o e=>(I7.pin (b,o) (List.mem_append_right _ (List.mem_append_right _ (zC4 hb e)))).1,fun b hb=>?_,w7⟩
   obtain ⟨o,e,d⟩:=T.obj _ _ st5 b hb
   exact (I7.pin (b,o) (List.mem_append_right _ (List.mem_append_right _ (zC4 hb e)))).2.1
  cases f with
  | next=>obtain ⟨σ7,H7,I7,n7⟩:=q7;exact again I7 n7
  | cont=>obtain ⟨σ7,H7,I7,n7⟩:=q7;exact again I7 n7
  | brk=>obtain ⟨σ7,H7,I7,q7⟩:=q7;exact ⟨σ7,H7,I7.unpinned,q7⟩
  | ret v=>obtain ⟨x7,σ7,H7,I7,r7,q7⟩:=q7;exact ⟨x7,σ7,H7,I7.unpinned,r7,q7⟩
end
theorem for_list {K:PySem.W.Frag}{a:Addr}{xs:List V}{g:TG}{tb:TS}{D:Ends}{σ : St}{H:Hp} (Pv:Nat→St→Hp→Prop) (h0:Pv 0 σ H) (hl:∀ i σ H,i≤xs.length→Pv i σ H→SqL K H a xs)
  (hs:∀ i x σ H,xs[i]? = some x→Pv i σ H→g x σ H fun σ2 H2=>tb { D with nx:=Pv (i + 1),ct:=Pv (i + 1),bk:=D.nx } σ2 H2) (hd:∀ σ H,Pv xs.length σ H→D.nx σ H) :
  ∃ W:Nat→Nat→St→Hp→Prop,(∃ m,W 0 m σ H)∧∀ i m σ H,W i m σ H →
   ((Itl K a).stop i H∧D.nx σ H)∨((Itl K a).go i H∧∃ N:St→Hp→Prop,(∀ σ' H',N σ' H'→∃ m',m' < m∧W (i + 1) m' σ' H')∧∀ x H',(Itl K a).yld i H x H'→g x σ H' fun σ2 H2=>tb { D with nx:=N,ct:=N,bk:=D.nx } σ2 H2):=by
 refine ⟨fun i m σ H=>m=xs.length - i∧i≤xs.length∧Pv i σ H,⟨xs.length,by simp,Nat.zero_le _,h0⟩,?_⟩
 rintro i m σ H ⟨rfl,hi,p⟩
 have q:=hl i σ H hi p
 by_cases hlt:i < xs.length
 ·refine .inr ⟨⟨xs,xs[i],q,by simp [hlt]⟩,Pv (i + 1),fun σ' H' p'=>⟨xs.length - (i + 1),by omega,rfl,hlt,p'⟩,fun x H' y=>?_⟩
  obtain ⟨e,y⟩:=y
  subst e
  exact hs i x σ _ (y xs q) p
 ·have e:i=xs.length:=by omega
  subst e
  exact .inl ⟨⟨xs,q,Nat.le_refl _⟩,hd σ H p⟩
theorem for_range {lo:Int}{n:Nat}{g:TG}{tb:TS}{D:Ends}{σ : St}{H:Hp} (Pv:Nat→St→Hp→Prop) (h0:Pv 0 σ H)
  (hs:∀ i σ H,i < n→Pv i σ H→g (.int (lo + i)) σ H fun σ2 H2=>tb { D with nx:=Pv (i + 1),ct:=Pv (i + 1),bk:=D.nx } σ2 H2) (hd:∀ σ H,Pv n σ H→D.nx σ H) :
  ∃ W:Nat→Nat→St→Hp→Prop,(∃ m,W 0 m σ H)∧∀ i m σ H,W i m σ H →
   ((Itr lo n).stop i H∧D.nx σ H)∨((Itr lo n).go i H∧∃ N:St→Hp→Prop,(∀ σ' H',N σ' H'→∃ m',m' < m∧W (i + 1) m' σ' H')∧∀ x H',(Itr lo n).yld i H x H'→g x σ H' fun σ2 H2=>tb { D with nx:=N,ct:=N,bk:=D.nx } σ2 H2):=by
 refine ⟨fun i m σ H=>m=n - i∧i≤n∧Pv i σ H,⟨n,by simp,Nat.zero_le _,h0⟩,?_⟩
 rintro i m σ H ⟨rfl,hi,p⟩
 by_cases hlt:i < n
 ·refine .inr ⟨hlt,Pv (i + 1),fun σ' H' p'=>⟨n - (i + 1),by omega,rfl,hlt,p'⟩,fun x H' y=>?_⟩
  obtain ⟨e,y⟩:=y
  subst e y
  exact hs i σ _ hlt p
 ·have e:i=n:=by omega
  subst e
  exact .inl ⟨Nat.le_refl _,hd σ H p⟩
end L2
namespace L2
open PySem PySem.Spec PyProof.Rows
noncomputable abbrev R2:=V→V→Hp→VK→Prop
noncomputable def OpR (X:Cx) (f:Value→Value→Sem Value) (r:R2):Prop :=
 ∀ (pins:List (Addr×Obj)) (s:Shared) (σ : St) (H:Hp) (x y:V) (v u:Value) (Q:VK),Inv X pins σ H s→RelV x v→RelV y u→r x y H Q →
  wpAny (model X.prog X.w) X.A (f v u) (EP X pins σ Q) X.xe s
noncomputable def UnR (X:Cx) (f:Value→Sem Value) (r:V→Hp→VK→Prop):Prop :=
 ∀ (pins:List (Addr×Obj)) (s:Shared) (σ : St) (H:Hp) (x:V) (v:Value) (Q:VK),Inv X pins σ H s→RelV x v→r x H Q →
  wpAny (model X.prog X.w) X.A (f v) (EP X pins σ Q) X.xe s
noncomputable def CallR (X:Cx) (f:Value) (r:List V→Hp→VK→Prop):Prop :=
 ∀ (pins:List (Addr×Obj)) (s:Shared) (σ : St) (H:Hp) (xs:List V) (us:List Value) (Q:VK),Inv X pins σ H s→Vals xs us→r xs H Q →
  wpAny (model X.prog X.w) X.A (call f us) (EP X pins σ Q) X.xe s
noncomputable def tOp (r:R2) (ta tb:TE):TE:=fun σ H Q=>ta σ H fun x H1=>tb σ H1 fun y H2=>r x y H2 Q
noncomputable def tUn (r:V→Hp→VK→Prop) (ta:TE):TE:=fun σ H Q=>ta σ H fun x H1=>r x H1 Q
noncomputable def rI (C:Int→Int→Prop) (g:Int→Int→V):R2:=fun x y H Q=>∃ i j,x=.int i∧y=.int j∧C i j∧Q (g i j) H
noncomputable def rI0 (g:Int→Int→V):R2:=fun x y H Q=>∃ i j,x=.int i∧y=.int j∧Q (g i j) H
noncomputable def rU (g:Int→V):V→Hp→VK→Prop:=fun x H Q=>∃ i,x=.int i∧Q (g i) H
section
variable {X:Cx}{a b c:Expr}{ta tb tc:TE}{pos:Pos}
theorem binT (ha:PE X a ta) (hb:PE X b tb) {pins:List (Addr×Obj)}{s:Shared}{σ : St}{H:Hp}{R:V→V→Hp→Prop} (I:Inv X pins σ H s)
  (h:ta σ H fun x H1=>tb σ H1 fun y H2=>R x y H2) {Q:Value→Shared→Prop}{f:Value→Value→Sem Value}
  (hf:∀ v u s2 x y H2,Inv X pins σ H2 s2→RelV x v→RelV y u→R x y H2→wpAny (model X.prog X.w) X.A (f v u) Q X.xe s2) :
  wpAny (model X.prog X.w) X.A (eval a X.env) (fun v s₁=>wpAny (model X.prog X.w) X.A (eval b X.env) (fun u s₂=>wpAny (model X.prog X.w) X.A (f v u) Q X.xe s₂) X.xe s₁) X.xe s:=by
 refine thn (ha pins s σ H _ I h) fun v s1 ⟨x,H1,I1,r1,q1⟩=>?_
 refine thn (hb pins s1 σ H1 _ I1 q1) fun u s2 ⟨y,H2,I2,r2,q2⟩=>?_
 exact hf v u s2 x y H2 I2 r1 r2 q2
theorem zAg {op:Operator}{r:R2} (ho:OpR X (binaryOp op) r) (ha:PE X a ta) (hb:PE X b tb):PE X (.BinOp a op b pos) (tOp r ta tb):=by
 intro pins s σ H Q I h
 exact wpAny_BinOp (binT ha hb I h fun v u s2 x y H2 I2 rx ry q=>ho pins s2 σ H2 x y v u Q I2 rx ry q)
theorem pe_un {op:UnaryOp}{r:V→Hp→VK→Prop} (ho:UnR X (unaryOp op) r) (ha:PE X a ta):PE X (.UnaryOp op a pos) (tUn r ta):=by
 intro pins s σ H Q I h
 exact UnaryOp_ (thn (ha pins s σ H _ I h) fun v s1 ⟨x,H1,I1,r1,q1⟩=>ho pins s1 σ H1 x v Q I1 r1 q1)
theorem opI {f:Value→Value→Sem Value}{C:Int→Int→Prop}{g:Int→Int→Int}
  (rule:∀ (i j:Int) (t u:Tok) (s:Shared) (Q:Value→Shared→Prop) (E:Value→Shared→Prop),C i j→Q (.int (g i j) s.toks) { s with toks:=s.toks + 1 }→wpAny (model X.prog X.w) X.A (f (.int i t) (.int j u)) Q E s) :
  OpR X f (rI C fun i j=>.int (g i j)):=by
 intro pins s σ H x y v u Q I rx ry h
 obtain ⟨i,j,rfl,rfl,hc,q⟩:=h
 obtain ⟨t,rfl⟩:=rx
 obtain ⟨t',rfl⟩:=ry
 exact rule i j t t' s _ _ hc ⟨.int (g i j),H,I.tok _,⟨_,rfl⟩,q⟩
theorem opI0 {f:Value→Value→Sem Value}{g:Int→Int→Int}
  (rule:∀ (i j:Int) (t u:Tok) (s:Shared) (Q:Value→Shared→Prop) (E:Value→Shared→Prop),Q (.int (g i j) s.toks) { s with toks:=s.toks + 1 }→wpAny (model X.prog X.w) X.A (f (.int i t) (.int j u)) Q E s) :
  OpR X f (rI0 fun i j=>.int (g i j)):=by
 intro pins s σ H x y v u Q I rx ry h
 obtain ⟨i,j,rfl,rfl,q⟩:=h
 obtain ⟨t,rfl⟩:=rx
 obtain ⟨t',rfl⟩:=ry
 exact rule i j t t' s _ _ ⟨.int (g i j),H,I.tok _,⟨_,rfl⟩,q⟩
theorem opB0 {f:Value→Value→Sem Value}{g:Int→Int→Bool}
  (rule:∀ (i j:Int) (t u:Tok) (s:Shared) (Q:Value→Shared→Prop) (E:Value→Shared→Prop),Q (.bool (g i j)) s→wpAny (model X.prog X.w) X.A (f (.int i t) (.int j u)) Q E s) :
  OpR X f (rI0 fun i j=>.bl (g i j)):=by
 intro pins s σ H x y v u Q I rx ry h
 obtain ⟨i,j,rfl,rfl,q⟩:=h
 obtain ⟨t,rfl⟩:=rx
 obtain ⟨t',rfl⟩:=ry
 exact rule i j t t' s _ _ ⟨.bl (g i j),H,I,rfl,q⟩
noncomputable def CDiv (i j:Int):Prop:=0 < j∧j < 1073741824
noncomputable def CPow (i j:Int):Prop:=0≤j∧j≤1000000∧i.natAbs < 2 ^ 64
noncomputable def CMul (i j:Int):Prop:=(-(2 ^ 64) < i∧i < 2 ^ 64)∨(-(2 ^ 64) < j∧j < 2 ^ 64)
theorem CMul.ok {i j:Int} (h:CMul i j):IntMulOk i j:=by
 rcases h with ⟨h1,h2⟩ | ⟨h1,h2⟩
 ·exact .of_left (intBits_le_64 h1 h2)
 ·exact .of_right (intBits_le_64 h1 h2)
theorem zBf:OpR X (binaryOp .Add) (rI0 fun i j=>.int (i + j)):=opI0 fun _ _ _ _ _ _ _ q=>add_int q
theorem op_sub:OpR X (binaryOp .Sub) (rI0 fun i j=>.int (i - j)):=opI0 fun _ _ _ _ _ _ _ q=>sub_int q
theorem zCz:OpR X (binaryOp .Mult) (rI CMul fun i j=>.int (i * j)):=opI fun _ _ _ _ _ _ _ hc q=>mul_int q hc.ok
theorem zDd:OpR X (binaryOp .FloorDiv) (rI CDiv fun i j=>.int (i / j)):=opI fun i j _ _ _ _ _ hc q=>by
 have h1:(0:Int) < j:=hc.1
 have h2:j < 1073741824:=hc.2
 exact floordiv_int (by omega) (by rw [Int.fdiv_eq_ediv_of_nonneg i (by omega)];exact q) (.inl (PyProof.noPylong_small (by omega)))
theorem zBs:OpR X (binaryOp .Mod) (rI (fun _ j=>0 < j) fun i j=>.int (i % j)):=opI fun i j _ _ _ _ _ hc q=>by
 have h1:(0:Int) < j:=hc
 exact mod_int' (by omega) (by rw [Int.fmod_eq_emod_of_nonneg i (by omega)];exact q)
theorem op_pow:OpR X (binaryOp .Pow) (rI CPow fun i j=>.int (i ^ j.toNat)):=opI fun _ _ _ _ _ _ _ hc q=>pow_int_small hc.1 hc.2.1 hc.2.2 q
theorem unI {f:Value→Sem Value}{g:Int→Int}
  (rule:∀ (i:Int) (t:Tok) (s:Shared) (Q:Value→Shared→Prop) (E:Value→Shared→Prop),Q (.int (g i) s.toks) { s with toks:=s.toks + 1 }→wpAny (model X.prog X.w) X.A (f (.int i t)) Q E s) :
  UnR X f (rU fun i=>.int (g i)):=by
 intro pins s σ H x v Q I rx h
 obtain ⟨i,rfl,q⟩:=h
 obtain ⟨t,rfl⟩:=rx
 exact rule i t s _ _ ⟨.int (g i),H,I.tok _,⟨_,rfl⟩,q⟩
theorem un_neg:UnR X (unaryOp .USub) (rU fun i=>.int (-i)):=unI fun _ _ _ _ _ q=>neg_int q
end
noncomputable def scal:V→V→Bool
 | .non,.non=>true | .non,.int _=>true | .int _,.non=>true | .non,.bl _=>true | .bl _,.non=>true | .non,.str _=>true | .str _,.non=>true
 | .int _,.int _=>true | .bl _,.bl _=>true | .str _,.str _=>true | .byt _,.byt _=>true
 | .int _,.str _=>true | .str _,.int _=>true | .bl _,.str _=>true | .str _,.bl _=>true
 | _,_=>false
noncomputable def rEq:R2:=fun x y H Q=>scal x y=true∧Q (.bl (decide (x=y))) H
noncomputable def rNe:R2:=fun x y H Q=>scal x y=true∧Q (.bl (!decide (x=y))) H
theorem dec_int {i j:Int}:decide (V.int i=V.int j)=(i == j):=by
 rw [Bool.eq_iff_iff]
 simp
theorem dec_bl {i j:Bool}:decide (V.bl i=V.bl j)=(i == j):=by
 rw [Bool.eq_iff_iff]
 simp
theorem dec_str {i j:Str}:decide (V.str i=V.str j)=(i == j):=by
 rw [Bool.eq_iff_iff]
 simp
theorem dec_byt {i j:Array UInt8}:decide (V.byt i=V.byt j)=(i.toList == j.toList):=by
 rw [Bool.eq_iff_iff]
 cases i
 cases j
 simp
section
variable {X:Cx}{a b c:Expr}{ta tb tc:TE}{pos:Pos}
theorem zAl {pins:List (Addr×Obj)}{σ : St}{H:Hp}{s:Shared}{Q:VK}{k k':Bool} (I:Inv X pins σ H s) (q:Q (.bl k) H) (e:k=k'):EP X pins σ Q (.bool k') s:=by
 subst e
 exact ⟨.bl k,H,I,rfl,q⟩
theorem zB8:OpR X (compareOp .Eq) rEq:=by
 intro pins s σ H x y v u Q I rx ry h
 obtain ⟨hs,q⟩:=h
 cases x with
 | non =>
  cases rx
  cases y with
  | non=>cases ry;exact PySem.EqNone.eq_none_none (zAl I q (by simp))
  | bl j=>cases ry;exact PySem.EqNone.eq_none_bool (zAl I q (by simp))
  | int j=>obtain ⟨t',rfl⟩:=ry;exact PySem.EqNone.eq_none_int (zAl I q (by simp))
  | str j=>obtain ⟨t',rfl⟩:=ry;exact PySem.EqNone.eq_none_str (zAl I q (by simp))
  | _=>exact absurd (show false=true from hs) Bool.false_ne_true
 | bl i =>
  cases rx
  cases y with
  | non=>cases ry;exact PySem.EqNone.eq_bool_none (zAl I q (by simp))
  | bl j=>cases ry;exact eq_bool (zAl I q dec_bl)
  | str j=>obtain ⟨t',rfl⟩:=ry;exact PySem.EqMixed.eq_bool_str (zAl I q (by simp))
  | _=>exact absurd (show false=true from hs) Bool.false_ne_true
 | int i =>
  obtain ⟨t,rfl⟩:=rx
  cases y with
  | non=>cases ry;exact PySem.EqNone.eq_int_none (zAl I q (by simp))
  | int j=>obtain ⟨t',rfl⟩:=ry;exact eq_int (zAl I q dec_int)
  | str j=>obtain ⟨t',rfl⟩:=ry;exact PySem.EqMixed.eq_int_str (zAl I q (by simp))
  | _=>exact absurd (show false=true from hs) Bool.false_ne_true
 | str i =>
  obtain ⟨t,rfl⟩:=rx
  cases y with
  | non=>cases ry;exact PySem.EqNone.eq_str_none (zAl I q (by simp))
  | bl j=>cases ry;exact PySem.EqMixed.eq_str_bool (zAl I q (by simp))
  | int j=>obtain ⟨t',rfl⟩:=ry;exact PySem.EqMixed.eq_str_int (zAl I q (by simp))
  | str j=>obtain ⟨t',rfl⟩:=ry;exact eq_str (zAl I q dec_str)
  | _=>exact absurd (show false=true from hs) Bool.false_ne_true
 | byt i =>
  obtain ⟨t,rfl⟩:=rx
  cases y with
  | byt j=>obtain ⟨t',rfl⟩:=ry;exact PySem.W.eq_bytes (zAl I q dec_byt)
  | _=>exact absurd (show false=true from hs) Bool.false_ne_true
 | _=>cases y <;> exact absurd (show false=true from hs) Bool.false_ne_true
theorem op_ne:OpR X (compareOp .NotEq) rNe:=by
 intro pins s σ H x y v u Q I rx ry h
 obtain ⟨hs,q⟩:=h
 cases x with
 | non =>
  cases rx
  cases y with
  | non=>cases ry;exact PySem.EqNone.ne_none_none (zAl I q (by simp))
  | bl j=>cases ry;exact PySem.EqNone.ne_none_bool (zAl I q (by simp))
  | int j=>obtain ⟨t',rfl⟩:=ry;exact PySem.EqNone.ne_none_int (zAl I q (by simp))
  | str j=>obtain ⟨t',rfl⟩:=ry;exact PySem.EqNone.ne_none_str (zAl I q (by simp))
  | _=>exact absurd (show false=true from hs) Bool.false_ne_true
 | bl i =>
  cases rx
  cases y with
  | non=>cases ry;exact PySem.EqNone.ne_bool_none (zAl I q (by simp))
  | bl j=>cases ry;exact ne_bool (zAl I q (congrArg not dec_bl))
  | str j=>obtain ⟨t',rfl⟩:=ry;exact PySem.EqMixed.ne_bool_str (zAl I q (by simp))
  | _=>exact absurd (show false=true from hs) Bool.false_ne_true
 | int i =>
  obtain ⟨t,rfl⟩:=rx
  cases y with
  | non=>cases ry;exact PySem.EqNone.ne_int_none (zAl I q (by simp))
  | int j=>obtain ⟨t',rfl⟩:=ry;exact ne_int (zAl I q (congrArg not dec_int))
  | str j=>obtain ⟨t',rfl⟩:=ry;exact PySem.EqMixed.ne_int_str (zAl I q (by simp))
  | _=>exact absurd (show false=true from hs) Bool.false_ne_true
 | str i =>
  obtain ⟨t,rfl⟩:=rx
  cases y with
  | non=>cases ry;exact PySem.EqNone.ne_str_none (zAl I q (by simp))
  | bl j=>cases ry;exact PySem.EqMixed.ne_str_bool (zAl I q (by simp))
  | int j=>obtain ⟨t',rfl⟩:=ry;exact PySem.EqMixed.ne_str_int (zAl I q (by simp))
  | str j=>obtain ⟨t',rfl⟩:=ry;exact ne_str (zAl I q (congrArg not dec_str))
  | _=>exact absurd (show false=true from hs) Bool.false_ne_true
 | byt i =>
  obtain ⟨t,rfl⟩:=rx
  cases y with
  | byt j=>obtain ⟨t',rfl⟩:=ry;exact PySem.W.ne_bytes (zAl I q (congrArg not dec_byt))
  | _=>exact absurd (show false=true from hs) Bool.false_ne_true
 | _=>cases y <;> exact absurd (show false=true from hs) Bool.false_ne_true
theorem op_le:OpR X (compareOp .LtE) (rI0 fun i j=>.bl (decide (i≤j))):=opB0 fun _ _ _ _ _ _ _ q=>le_int q
theorem op_gt:OpR X (compareOp .Gt) (rI0 fun i j=>.bl (decide (j < i))):=opB0 fun _ _ _ _ _ _ _ q=>gt_int q
theorem op_ge:OpR X (compareOp .GtE) (rI0 fun i j=>.bl (decide (j≤i))):=opB0 fun _ _ _ _ _ _ _ q=>ge_int q
theorem op_in_str:OpR X (compareOp .In) (fun x y H Q=>∃ i j,x=.str i∧y=.str j∧Q (.bl (!(Builtin.Str.occurrences j i 0 j.length 1).isEmpty)) H):=by
 intro pins s σ H x y v u Q I rx ry h
 obtain ⟨i,j,rfl,rfl,q⟩:=h
 obtain ⟨t,rfl⟩:=rx
 obtain ⟨t',rfl⟩:=ry
 exact in_str (zAl I q rfl)
theorem nomark (b:Expr) {op:CmpOp} (h:op≠.In:=by decide) (h2:op≠.NotIn:=by decide):behindInMarks op b=false:=by
 have e1:(op == CmpOp.In)=false:=by cases op <;> first | rfl | exact absurd rfl h
 have e2:(op == CmpOp.NotIn)=false:=by cases op <;> first | rfl | exact absurd rfl h2
 cases b <;> simp [behindInMarks,e1,e2]
theorem zB1 {op:CmpOp}{r:R2} (ho:OpR X (compareOp op) r) (ha:PE X a ta) (hb:PE X b tb) (hm:behindInMarks op b=false):PE X (.Compare a [op] [b] pos) (tOp r ta tb):=by
 intro pins s σ H Q I h
 exact wpAny_Compare1 (binT ha hb I h fun v u s2 x y H2 I2 rx ry q=>ho pins s2 σ H2 x y v u Q I2 rx ry q) hm
noncomputable def tTest (t:TE):TT:=fun σ H Q=>t σ H fun x H'=>∃ k,x=.bl k∧Q k H'
theorem zAf {op:CmpOp}{r:R2} (ho:OpR X (compareOp op) r) (ha:PE X a ta) (hb:PE X b tb) (hm:behindInMarks op b=false):PT X (.Compare a [op] [b] pos) (tTest (tOp r ta tb)):=by
 intro pins s σ H Q I h
 refine wpAny_isTrue_Compare1 (thn (ha pins s σ H _ I h) fun v s1 ⟨x,H1,I1,r1,q1⟩=>thn (hb pins s1 σ H1 _ I1 q1) fun u s2 ⟨y,H2,I2,r2,q2⟩ =>
  thn (ho pins s2 σ H2 x y v u _ I2 r1 r2 q2) fun c s3 ⟨z,H3,I3,r3,k,e,q3⟩=>?_) hm
 subst e
 cases r3
 exact wpAny_truthy_bool ⟨H3,I3,q3⟩
noncomputable def tChain (r r':R2) (ta tb tc:TE):TE:=fun σ H Q=>ta σ H fun x H1=>tb σ H1 fun y H2=>r x y H2 fun z H3=>∃ k,z=.bl k ∧
 (if k=true then tc σ H3 fun w' H4=>r' y w' H4 Q else Q (.bl false) H3)
theorem zDa {op op':CmpOp}{r r':R2} (ho:OpR X (compareOp op) r) (ho':OpR X (compareOp op') r') (ha:PE X a ta) (hb:PE X b tb) (hc:PE X c tc)
  (hm:lastMarks [op,op'] [b,c]=false:=by with_unfolding_all rfl):PE X (.Compare a [op,op'] [b,c] pos) (tChain r r' ta tb tc):=by
 intro pins s σ H Q I h
 refine Compare_chain (thn (ha pins s σ H _ I h) fun v s1 ⟨x,H1,I1,r1,q1⟩=>chain_link (thn (hb pins s1 σ H1 _ I1 q1) fun u s2 ⟨y,H2,I2,r2,q2⟩ =>
  thn (ho pins s2 σ H2 x y v u _ I2 r1 r2 q2) fun d s3 ⟨z,H3,I3,r3,k,e,q3⟩=>?_)) hm
 subst e
 cases r3
 refine wpAny_truthy_bool ?_
 cases k with
 | false=>exact ite_ff ⟨.bl false,H3,I3,rfl,q3⟩
 | true=>exact ite_tt (chain_last (thn (hc pins s3 σ H3 _ I3 q3) fun w' s4 ⟨z',H4,I4,r4,q4⟩=>ho' pins s4 σ H4 y z' u w' Q I4 r2 r4 q4))
theorem zD8 {op op':CmpOp}{r r':R2} (ho:OpR X (compareOp op) r) (ho':OpR X (compareOp op') r') (ha:PE X a ta) (hb:PE X b tb) (hc:PE X c tc)
  (hm:lastMarks [op,op'] [b,c]=false:=by with_unfolding_all rfl):PT X (.Compare a [op,op'] [b,c] pos) (tTest (tChain r r' ta tb tc)):=by
 intro pins s σ H Q I h
 refine isTrue_chain (thn (ha pins s σ H _ I h) fun v s1 ⟨x,H1,I1,r1,q1⟩=>test_link (thn (hb pins s1 σ H1 _ I1 q1) fun u s2 ⟨y,H2,I2,r2,q2⟩ =>
  thn (ho pins s2 σ H2 x y v u _ I2 r1 r2 q2) fun d s3 ⟨z,H3,I3,r3,k,e,q3⟩=>?_)) hm
 subst e
 cases r3
 refine wpAny_truthy_bool ?_
 cases k with
 | false =>
  obtain ⟨k',e',q'⟩:=q3
  cases e'
  exact ite_ff ⟨H3,I3,q'⟩
 | true =>
  refine ite_tt (test_last (thn (hc pins s3 σ H3 _ I3 q3) fun w' s4 ⟨z',H4,I4,r4,q4⟩=>thn (ho' pins s4 σ H4 y z' u w' _ I4 r2 r4 q4) fun d' s5 ⟨z2,H5,I5,r5,k2,e2,q5⟩=>?_))
  subst e2
  cases r5
  exact wpAny_truthy_bool ⟨H5,I5,q5⟩
theorem line63:(sizeLine:Nat) < 2 ^ 63:=by rw [sizeLine_eq];decide
theorem zC1:OpR X (binaryOp .Add) (fun x y H Q=>∃ i j,x=.str i∧y=.str j∧i.length + j.length≤sizeLine∧Q (.str (i++j)) H):=by
 intro pins s σ H x y v u Q I rx ry h
 obtain ⟨i,j,rfl,rfl,hz,q⟩:=h
 obtain ⟨t,rfl⟩:=rx
 obtain ⟨t',rfl⟩:=ry
 exact add_str (fun t' tk=>⟨.str (i++j),H,I.tok _,⟨_,rfl⟩,q⟩) hz
theorem vals1 {x:V}{us:List Value} (r:Vals [x] us):∃ u,us=[u]∧RelV x u:=by
 cases r with
 | cons r1 r2=>cases r2;exact ⟨_,rfl,r1⟩
theorem call_int1:CallR X (.type "int") (fun xs H Q=>(∃ i,xs=[.int i]∧Q (.int i) H)∨∃ k,xs=[.bl k]∧Q (.int (if k then 1 else 0)) H):=by
 intro pins s σ H xs us Q I r h
 rcases h with ⟨i,rfl,q⟩ | ⟨k,rfl,q⟩
 ·obtain ⟨u,rfl,t,rfl⟩:=vals1 r
  exact call_int_int ⟨.int i,H,I,⟨_,rfl⟩,q⟩
 ·obtain ⟨u,rfl,r1⟩:=vals1 r
  cases r1
  exact call_int_bool ⟨.int (if k then 1 else 0),H,I.tok _,⟨_,rfl⟩,q⟩
theorem call_str_int:CallR X (.type "str") (fun xs H Q=>∃ i,xs=[.int i]∧i.natAbs.log2 < 1920∧Q (.str (toString i)) H):=by
 intro pins s σ H xs us Q I r h
 obtain ⟨i,rfl,hz,q⟩:=h
 obtain ⟨u,rfl,t,rfl⟩:=vals1 r
 exact PySem.P.str_of_int hz ⟨.str _,H,I.tok _,⟨_,rfl⟩,q⟩
end
end L2
namespace L2
open PySem PySem.Spec PyProof.Rows
structure ObjM (h:Heap) (x dx C:Addr) (mA:Str→Option Value):Prop where
 obj:h.get? x=some (PySem.W.instObj C dx)
 ns:h.Ns1 dx mA
 ne:dx≠x
theorem lookIn_ns {h:Heap}{dx:Addr}{mA:Str→Option Value} (n:h.Ns1 dx mA):∃ od,h.get? dx=some od∧∀ name,PySem.W.lookIn name od=some (mA name):=by
 obtain ⟨o,es,ep,ho,hd,hk,_,hm⟩:=n
 refine ⟨o,ho,fun name=>?_⟩
 have e:=hm name
 unfold nsFind findBy at e
 rw [← Array.find?_toList] at e
 unfold PySem.W.lookIn
 rw [hd]
 dsimp only
 split
 ·rename_i y q
  rw [q] at e
  exact congrArg some e
 ·rename_i q
  rw [q] at e
  have a:es.toList.any (·.refKey)=false:=by
   rw [List.any_eq_false]
   intro y hy
   obtain ⟨z,t,hkey⟩:=hk y (Array.mem_toList_iff.mp hy)
   simp [DictEntry.refKey,hkey]
  have a':¬ es.toList.any (·.refKey)=true:=by rw [a];exact Bool.false_ne_true
  rw [if_neg a']
  exact congrArg some e
theorem ObjM.look {h:Heap}{x dx C:Addr}{mA:Str→Option Value} (I:ObjM h x dx C mA):∃ od,PySem.W.InstAt h x (PySem.W.instObj C dx) C (some od)∧∀ name,PySem.W.lookIn name od=some (mA name) :=
 let ⟨od,ho,hl⟩:=lookIn_ns I.ns
 ⟨od,⟨I.obj,rfl,rfl,ho⟩,hl⟩
section
variable {prog:Program}{w:World}{A:Around}{E:Value→Shared→Prop}{s:Shared}{K:PySem.W.Frag}{x dx C f:Addr}{mA:Str→Option Value}{name:Str}{v:Value}
theorem get_map {expr:Bool}{Q:Value→Shared→Prop} (X:K.In s.heap) (I:ObjM s.heap x dx C mA) (hg:PySem.W.plainGet K C name=true) (hh:PySem.W.hasDictIn K C=true)
  (ha:PySem.W.findIn K (.ref C) name=some none) (hv:mA name=some v) (hv':PySem.W.handedIn v=true) (h:Q v { s with toks:=s.toks + 1 }) :
  wpAny (model prog w) A (getAttr (.ref x) name expr) Q E s:=by
 obtain ⟨od,J,hl⟩:=I.look
 exact PySem.W.get_value X J (PySem.W.plainGet_of hg).1 (PySem.W.findObj_own hh ha rfl (by rw [hl,hv])) hv' h
theorem get_meth {pl:Sem Bool}{Q:Value×List Value→Shared→Prop} (X:K.In s.heap) (I:ObjM s.heap x dx C mA) (hg:PySem.W.plainGet K C name=true)
  (hf:PySem.W.findIn K (.ref C) name=some (some (.ref f))) (ht:PySem.W.isFn K (.ref f)=true) (hv:mA name=none) (h:Q (.ref f,[.ref x]) s) :
  wpAny (model prog w) A (getMethod (.ref x) name pl) Q E s:=by
 obtain ⟨od,J,hl⟩:=I.look
 exact PySem.W.method_fn X J (PySem.W.plainGet_of hg).1 (PySem.W.plainGet_of hg).2 hf (beq_iff_eq.mp ht) (by show (PySem.W.lookIn name od).map (·.isSome)=some false;rw [hl,hv];rfl) h
theorem set_map {ns:List Str}{Q:Unit→Shared→Prop} (X:K.In s.heap) (I:ObjM s.heap x dx C mA)
  (hs:PySem.W.findIn K (.ref C) "__setattr__" = some (some (.builtin "object.__setattr__"))) (hp:PySem.W.plainOver K C=true) (ht:PySem.W.takerIn K C name=some none) (hh:PySem.W.hasDictIn K C=true)
  (hw:PySem.Within mA ns) (hsz:ns.length≤sizeLine)
  (h:∀ h',ObjM h' x dx C (fun y=>if y=name then some v else mA y)→Heap.SameBut dx s.heap h'→Q () { s with heap:=h',toks:=s.toks + 2 }) :
  wpAny (model prog w) A (setAttr (.ref x) name v) Q E s:=by
 obtain ⟨od,J,hl⟩:=I.look
 refine PySem.W.set_plain X J hs (PySem.W.osa_open (s:={ s with toks:=s.toks + 1 }) (r:=none) X J hp ht fun b=>?_)
 obtain ⟨cd,hc,hd'⟩:=PySem.W.any_some hh
 have hx:s.heap.get? x=some ⟨.ref C,some dx,.plain,#[]⟩:=I.obj
 refine wpAny_bind (wpAny_pure (wpAny_bind (wpAny_bind (wpAny_loadPart hx (wpAny_bind (PySem.W.Looks.here (s:={ s with toks:=s.toks + 1 }) (PySem.W.looks_clsIn X hc) ?_))))))
 rw [hd']
 refine wpAny_pure (a:=some dx) (wpAny_bind (wpAny_pure (wpAny_bind ?_)))
 refine wpAny_nsSet1 (s:={ s with toks:=s.toks + 1 }) I.ns fun h' hn2 hs2=>?_
 obtain ⟨oD,esD,epD,hoD,hdD,hcD⟩:=hn2.count (PySem.Within.cons name v hw)
 refine wpAny_bind (wpAny_lookBehind hoD (by rw [hdD];exact pastItsLine_dict (Nat.le_trans hcD (by rw [List.length_cons];omega))) ?_)
 exact wpAny_pure (h _ ⟨(hs2.2 _ (Ne.symm I.ne)).trans I.obj,hn2,I.ne⟩ hs2)
theorem make_map {R:Result→Shared→Prop}{vs:List Value}{kw:List (Str×Value)} (X:K.In s.heap) (hm:PySem.W.makesIn K C=true)
  (hi:PySem.W.findIn K (.ref C) "__init__" = some (some (.ref f))) (hf:PySem.W.typeIn K (.ref f)=some (.type "function"))
  (h:codeAny (model prog w) (A.under (.builtin "type.__call__" ⟨.ref C :: vs,kw⟩)) (.call (.ref f) ⟨.ref (s.heap.objs.size + 1) :: vs,kw⟩) (PySem.W.InitBack (s.heap.objs.size + 1) R)
   { s with heap:=(s.heap.push PySem.W.emptyDict).push (PySem.W.instObj C s.heap.objs.size) }) :
  codeAny (model prog w) A (.call (.ref C) ⟨vs,kw⟩) R s:=by
 obtain ⟨hh,g,d,t,os⟩:=s
 exact PySem.W.make_core (PySem.W.makes_of X hm) (PySem.W.looks_findIn X hi) (fun self=>PySem.W.bind_fn X self hf) (.inl rfl) h
end
noncomputable def putF (f:Str) (v:V):List (Str×V)→List (Str×V)
 | []=>[(f,v)]
 | (g,x) :: r=>if g=f then (g,v) :: r else (g,x) :: putF f v r
theorem zB9 (f g:Str) (v:V):∀ fs:List (Str×V),(putF f v fs).lookup g=if g=f then some v else fs.lookup g
 | []=>by
  show List.lookup g [(f,v)]=_
  by_cases h:g=f
  ·have hb:(g == f)=true:=beq_iff_eq.mpr h
   simp only [List.lookup,hb,if_pos h]
  ·have hb:(g == f)=false:=beq_eq_false_iff_ne.mpr h
   simp only [List.lookup,hb,if_neg h]
 | (k,x) :: r=>by
  have ih:=zB9 f g v r
  rw [show putF f v ((k,x) :: r)=(if k=f then (k,v) :: r else (k,x) :: putF f v r) from rfl]
  by_cases hk:k=f
  ·rw [if_pos hk]
   by_cases h:g=k
   ·have hb:(g == k)=true:=beq_iff_eq.mpr h
    simp only [List.lookup,hb,if_pos (h.trans hk)]
   ·have hb:(g == k)=false:=beq_eq_false_iff_ne.mpr h
    simp only [List.lookup,hb,if_neg (fun e:g=f=>h (e.trans hk.symm))]
  ·rw [if_neg hk]
   by_cases h:g=k
   ·have hb:(g == k)=true:=beq_iff_eq.mpr h
    simp only [List.lookup,hb,if_neg (fun e:g=f=>hk (h.symm.trans e))]
   ·have hb:(g == k)=false:=beq_eq_false_iff_ne.mpr h
    simp only [List.lookup,hb]
    exact ih
theorem zCp (f:Str) (v:V):∀ fs:List (Str×V),f∈(putF f v fs).map (·.1)∧∀ g,g∈fs.map (·.1)→g∈(putF f v fs).map (·.1)
 | []=>⟨by simp [putF],fun g h=>by simp at h⟩
 | (k,x) :: r=>by
  obtain ⟨i1,i2⟩:=zCp f v r
  rw [show putF f v ((k,x) :: r)=(if k=f then (k,v) :: r else (k,x) :: putF f v r) from rfl]
  by_cases hk:k=f
  ·rw [if_pos hk]
   subst hk
   exact ⟨by simp,fun g h=>by simpa using h⟩
  ·rw [if_neg hk]
   refine ⟨?_,fun g h=>?_⟩
   ·rw [List.map_cons]
    exact List.mem_cons_of_mem _ i1
   ·rw [List.map_cons] at h ⊢
    rcases List.mem_cons.mp h with e | e
    ·exact List.mem_cons.mpr (.inl e)
    ·exact List.mem_cons_of_mem _ (i2 g e)
theorem zCn (f:Str) (v:V):∀ fs:List (Str×V),(putF f v fs).length≤fs.length + 1
 | []=>by simp [putF]
 | (k,x) :: r=>by
  have ih:=zCn f v r
  rw [show putF f v ((k,x) :: r)=(if k=f then (k,v) :: r else (k,x) :: putF f v r) from rfl]
  by_cases hk:k=f
  ·rw [if_pos hk,List.length_cons,List.length_cons];omega
  ·rw [if_neg hk,List.length_cons,List.length_cons];omega
theorem RelO.some_of {v:V}{o:Option Value} (r:RelO (some v) o):∃ u,o=some u∧RelV v u:=by
 cases o with
 | none=>exact (show False from r).elim
 | some u=>exact ⟨u,rfl,r⟩
theorem RelO.none_of {o:Option Value} (r:RelO none o):o=none:=by
 cases o with
 | none=>rfl
 | some u=>exact (show False from r).elim
theorem handed_of {v:V}{u:Value} (r:RelV v u):PySem.W.handedIn u=true:=by
 cases v with
 | non=>cases (show u=Value.none from r);rfl
 | bl b=>cases (show u=Value.bool b from r);rfl
 | int i=>obtain ⟨t,e⟩:=(show ∃ t,u=Value.int i t from r);cases e;rfl
 | str x=>obtain ⟨t,e⟩:=(show ∃ t,u=Value.str x t from r);cases e;rfl
 | byt b=>obtain ⟨t,e⟩:=(show ∃ t,u=Value.bytes b t from r);cases e;rfl
 | flt b=>obtain ⟨t,e⟩:=(show ∃ t,u=Value.float b t from r);cases e;rfl
 | ref a=>cases (show u=Value.ref a from r);rfl
 | ty n=>cases (show u=Value.type n from r);rfl
section
variable {P:Program}{w:World}{H H':Hp}{h h':Heap}{a C dx:Addr}{fs fs':List (Str×V)}
theorem zDk (hok:HOk P w H h) (e:H a=some (.ins C dx fs)):∃ mA,ObjM h a dx C mA∧(∀ f,RelO (fs.lookup f) (mA f))∧PySem.Within mA (fs.map (·.1))∧fs.length≤1000∧H dx=some (.own a):=by
 obtain ⟨d,z,ne,ob,mA,n,r,q⟩:=(show ObjOk P w H h a (.ins C dx fs) from hok a _ e)
 exact ⟨mA,⟨ob,n,ne⟩,r,q,z,d⟩
end
structure Cls (K:PySem.W.Frag) (C:Addr):Prop where
 pg:PySem.W.plainGet K C Str.empty=true
 hd:PySem.W.hasDictIn K C=true
 po:PySem.W.plainOver K C=true
 sa:PySem.W.findIn K (.ref C) "__setattr__" = some (some (.builtin "object.__setattr__"))
theorem Cls.get {K:PySem.W.Frag}{C:Addr} (c:Cls K C) (f:Str):PySem.W.plainGet K C f=true:=c.pg
noncomputable def NoAttr (K:PySem.W.Frag) (C:Addr) (f:Str):Prop:=PySem.W.findIn K (.ref C) f=some none
theorem NoAttr.taker {K:PySem.W.Frag}{C:Addr}{f:Str} (n:NoAttr K C f):PySem.W.takerIn K C f=some none:=by
 unfold PySem.W.takerIn
 rw [show PySem.W.findIn K (.ref C) f=some none from n]
 rfl
structure Meth (K:PySem.W.Frag) (C:Addr) (m:Str) (f:Addr):Prop where
 at_:PySem.W.findIn K (.ref C) m=some (some (.ref f))
 fn:PySem.W.isFn K (.ref f)=true
 kp:PySem.W.keepIn K (.ref f)=true
section
variable {X:Cx}{pins:List (Addr×Obj)}{σ : St}{H:Hp}{s:Shared}{a C dx:Addr}{fs:List (Str×V)}{f:Str}{v:V}{A:Around}{E:Value→Shared→Prop}
theorem getattr_ok {b:Bool}{Q:Value→Shared→Prop} (I:Inv X pins σ H s) (e:H a=some (.ins C dx fs)) (c:Cls X.K C) (n:NoAttr X.K C f) (l:fs.lookup f=some v)
  (h:∀ u s',Inv X pins σ H s'→RelV v u→Q u s'):wpAny (model X.prog X.w) A (getAttr (.ref a) f b) Q E s:=by
 obtain ⟨mA,O,r,_,_,_⟩:=zDk I.hok e
 obtain ⟨u,hu,ru⟩:=RelO.some_of (v:=v) (o:=mA f) (by rw [← l];exact r f)
 exact get_map I.kIn O (c.get f) c.hd n hu (handed_of ru) (h u _ (I.tok _) ru)
theorem zD4 {m:Str}{g:Addr}{pl:Sem Bool}{Q:Value×List Value→Shared→Prop} (I:Inv X pins σ H s) (e:H a=some (.ins C dx fs)) (c:Cls X.K C) (k:Meth X.K C m g) (l:fs.lookup m=none)
  (h:Q (.ref g,[.ref a]) s):wpAny (model X.prog X.w) A (getMethod (.ref a) m pl) Q E s:=by
 obtain ⟨mA,O,r,_,_,_⟩:=zDk I.hok e
 have hn:mA m=none:=RelO.none_of (by rw [← l];exact r m)
 exact get_meth I.kIn O (c.get m) k.at_ k.fn hn h
theorem setattr_ok {y:V}{u:Value}{Q:Unit→Shared→Prop} (I:Inv X pins σ H s) (e:H a=some (.ins C dx fs)) (c:Cls X.K C) (n:NoAttr X.K C f) (hl:fs.length < 1000) (ry:RelV y u)
  (h:∀ s',Inv X pins σ (upd H a (.ins C dx (putF f y fs))) s'→Q () s'):wpAny (model X.prog X.w) A (setAttr (.ref a) f u) Q E s:=by
 obtain ⟨mA,O,r,wi,_,ho⟩:=zDk I.hok e
 have hz:(fs.map (·.1)).length≤sizeLine:=by rw [List.length_map,sizeLine_eq];omega
 refine set_map I.kIn O c.sa c.po n.taker c.hd wi hz fun h' O' sb=>h _ ?_
 have hd:∃ o,h'.get? dx=some o:=let ⟨o,_,_,e',_⟩:=O'.ns;⟨o,e'⟩
 refine I.write (x:=a) (e:=dx) (by rw [e];exact True.intro) (.inr ho) (fun b q hb z=>(sb.2 b hb).trans z) hd ?_
 refine ⟨by rw [zA9 O.ne];exact ho,?_,O.ne,O'.obj,_,O'.ns,fun g=>?_,fun g hg=>?_⟩
 ·have:=zCn f y fs;omega
 ·show RelO ((putF f y fs).lookup g) (if g=f then some u else mA g)
  rw [zB9]
  by_cases q:g=f
  ·rw [if_pos q,if_pos q];exact ry
  ·rw [if_neg q,if_neg q];exact r g
 ·by_cases q:g=f
  ·rw [q];exact (zCp f y fs).1
  ·refine (zCp f y fs).2 g (wi g fun z=>hg ?_)
   show (if g=f then some u else mA g)=none
   rw [if_neg q];exact z
theorem Inv.made (I:Inv X pins σ H s):Inv X pins σ (upd (upd H s.heap.objs.size (.own (s.heap.objs.size + 1))) (s.heap.objs.size + 1) (.ins C s.heap.objs.size []))
  { s with heap:=(s.heap.push PySem.W.emptyDict).push (PySem.W.instObj C s.heap.objs.size) }:=by
 have e1:(s.heap.push PySem.W.emptyDict).get? s.heap.objs.size=some PySem.W.emptyDict:=Heap.get?_push_size s.heap rfl
 have e2:((s.heap.push PySem.W.emptyDict).push (PySem.W.instObj C s.heap.objs.size)).get? (s.heap.objs.size + 1)=some (PySem.W.instObj C s.heap.objs.size):=by
  have:=Heap.get?_push_size (s.heap.push PySem.W.emptyDict) (o:=PySem.W.instObj C s.heap.objs.size) rfl
  rwa [Heap.size_push] at this
 have e3:(s.heap.push PySem.W.emptyDict).Ns s.heap.objs.size (fun _=>none):=⟨PySem.W.emptyDict,#[],_,e1,rfl,(fun e he=>absurd he (by simp)),fun _=>rfl⟩
 have I1:=I.laid (a:=s.heap.objs.size) (o:=.own (s.heap.objs.size + 1)) (h':=s.heap.push PySem.W.emptyDict) (t':=s.toks) (fun b u q=>Heap.get?_push_of_some _ q) (Nat.le_refl _) ⟨_,e1⟩
 refine I1.laid (a:=s.heap.objs.size + 1) (o:=.ins C s.heap.objs.size []) (t':=s.toks) (fun b u q=>Heap.get?_push_of_some _ q) (Nat.le_of_eq (Heap.size_push _ _)) ?_
 have ne:s.heap.objs.size≠s.heap.objs.size + 1:=Nat.ne_of_lt (Nat.lt_succ_self _)
 refine ⟨by rw [zA9 ne,zA1],Nat.zero_le _,ne,e2,fun _=>none,(Heap.Ns1.of_empty e3).at fun o q=>Heap.get?_push_of_some _ q,fun _=>True.intro,fun y hy=>absurd rfl hy⟩
theorem attr_of {prog:Program}{w:World}{env:Env}{e:Expr}{f:Str}{pos:Pos}{s:Shared}{Q:Value→Shared→Prop} (hb:attributeBase e f env (eval e env)=eval e env)
  (h:wpAny (model prog w) A (eval e env) (fun o s₁=>wpAny (model prog w) A (getAttr o f true) Q E s₁) E s):wpAny (model prog w) A (eval (.Attribute e f pos) env) Q E s :=
 Attribute_any_ h (by rw [arm_eval_Attribute,hb])
end
noncomputable def tFld (K:PySem.W.Frag) (ta:TE) (f:Str):TE:=fun σ H Q=>ta σ H fun x H1=>∃ a C dx fs v,x=.ref a∧H1 a=some (.ins C dx fs)∧Cls K C∧NoAttr K C f∧fs.lookup f=some v∧Q v H1
noncomputable def sFld (K:PySem.W.Frag) (ta tv:TE) (f:Str):TS:=fun D σ H=>tv σ H fun y H1=>ta σ H1 fun x H2=>∃ a C dx fs,x=.ref a∧H2 a=some (.ins C dx fs)∧Cls K C∧NoAttr K C f∧fs.length < 1000 ∧
 D.nx σ (upd H2 a (.ins C dx (putF f y fs)))
section
variable {X:Cx}{o e value:Expr}{f:Str}{pos pos' tpos:Pos}{ta tv:TE}
theorem zAk (he:PE X e ta) (hb:attributeBase e f X.env (eval e X.env)=eval e X.env):PE X (.Attribute e f pos) (tFld X.K ta f):=by
 intro pins s σ H Q I h
 refine attr_of hb (thn (he pins s σ H _ I h) fun u s1 ⟨x,H1,I1,rx,a,C,dx,fs,v,ex,ea,c,n,l,q⟩=>?_)
 subst ex
 obtain rfl:u=Value.ref a:=rx
 exact getattr_ok I1 ea c n l fun u' s2 I2 ru=>⟨v,H1,I2,ru,q⟩
theorem zB3 (ha:PE X o ta) (hv:PE X value tv) (hs:swapsWith value (some (.Attribute o f pos')) pos.line X.env=pure false):PS X (.Assign [.Attribute o f pos'] value pos) (sFld X.K ta tv f):=by
 intro pins s σ H D I h
 refine plainObj_wpAny_Assign_Attribute (thn (hv pins s σ H _ I h) fun u s1 ⟨y,H1,I1,ry,q⟩=>thn (ha pins s1 σ H1 _ I1 q) fun ov s2 ⟨x,H2,I2,rx,a,C,dx,fs,ex,ea,c,n,l,q2⟩=>?_) hs
 subst ex
 obtain rfl:ov=Value.ref a:=rx
 exact setattr_ok I2 ea c n l ry fun s3 I3=>⟨σ,_,I3,q2⟩
theorem zCm {pl:Sem Bool}{m:Str}{apos:Pos}{args:List Expr}{pins:List (Addr×Obj)}{s:Shared}{σ : St}{H:Hp}{Q:Value→Shared→Prop}{te:TE} (he:PE X e te) (I:Inv X pins σ H s)
  (h:te σ H fun x H1=>∃ a C dx fs g,x=.ref a∧H1 a=some (.ins C dx fs)∧Cls X.K C∧Meth X.K C m g∧fs.lookup m=none ∧
   ∀ s1,Inv X pins σ H1 s1→wpAny (model X.prog X.w) X.A (callWith pos (.ref g) [.ref a] (backTo pos (starEach args X.env)) (backToKw pos (keywordEach [] X.env))) Q X.xe s1)
  (ht:eval (.Call (.Attribute e m apos) args [] pos) X.env=(do
   let ov ← eval e X.env
   standAt apos.atName
   let (f,first) ← holding [ov] (getMethod ov m pl)
   callWith pos f first (backTo pos (starEach args X.env)) (backToKw pos (keywordEach [] X.env)))) :
  wpAny (model X.prog X.w) X.A (eval (.Call (.Attribute e m apos) args [] pos) X.env) Q X.xe s:=by
 refine PySem.W.methodCall_KW (pl:=pl) (thn (he pins s σ H _ I h) fun u s1 ⟨x,H1,I1,rx,a,C,dx,fs,g,ex,ea,c,k,l,q⟩=>?_) ht
 subst ex
 obtain rfl:u=Value.ref a:=rx
 exact zD4 I1 ea c k l (q s1 I1)
end
section
variable {X:Cx}{pins:List (Addr×Obj)}{σ : St}{H:Hp}{s:Shared}{A:Around}{E:Value→Shared→Prop}{Q:Value→Shared→Prop}{c:Value}{b:Bool}
inductive TyOf (K:PySem.W.Frag) (H:Hp):V→Value→Prop where
 | non:TyOf K H .non (.type "NoneType")
 | bl (x:Bool):TyOf K H (.bl x) (.type "bool")
 | int (i:Int):TyOf K H (.int i) (.type "int")
 | str (x:Str):TyOf K H (.str x) (.type "str")
 | flt (x:UInt64):TyOf K H (.flt x) (.type "float")
 | lst {a:Addr}{xs:List V} (e:H a=some (.lst xs)):TyOf K H (.ref a) (.type "list")
 | frz {a:Addr}{o:Obj}{xs:List V} (e:H a=some (.frz o (.lst xs))):TyOf K H (.ref a) (.type "list")
 | tup {a:Addr}{xs:List V} (e:H a=some (.tup xs)):TyOf K H (.ref a) (.type "tuple")
 | dK {a:Addr}{kvs:List (Key×V)} (e:H a=some (.dK kvs)):TyOf K H (.ref a) (.type "dict")
 | dT {a:Addr}{kvs:List (List Key×V)} (e:H a=some (.dT kvs)):TyOf K H (.ref a) (.type "dict")
 | ins {a C dx:Addr}{fs:List (Str×V)} (e:H a=some (.ins C dx fs)) (cl:Cls K C) (ha:PySem.W.findIn K (.ref C) "__class__" = some (some (.builtin "object.__class__")))
   (hn:PySem.W.specialIn K (.builtin "object.__class__") "__get__" = some (some (.builtin "getset_descriptor.__get__"))) (htk:PySem.W.takesIn K (.builtin "object.__class__")=some true)
   (hm:PySem.W.mroIn K C (.type "object")=some true):TyOf K H (.ref a) (.ref C)
theorem isinst_ok {x:V}{u t:Value} (I:Inv X pins σ H s) (rx:RelV x u) (ty:TyOf X.K H x t) (e:PySem.W.kitOne X.K t c=some b) (h:∀ tk,Q (.bool b) { s with toks:=tk }) :
  wpAny (model X.prog X.w) A (call (.builtin "isinstance") [u,c]) Q E s:=by
 cases ty with
 | non=>cases (show u=Value.none from rx);exact PySem.W.kia_one PySem.W.kitx_none I.kIn True.intro e (fun z=>nomatch z) h
 | bl y=>cases (show u=Value.bool y from rx);exact PySem.W.kia_one PySem.W.kitx_bool I.kIn True.intro e (fun z=>nomatch z) h
 | int i=>obtain ⟨t,q⟩:=(show ∃ t,u=Value.int i t from rx);cases q;exact PySem.W.kia_one PySem.W.kitx_int I.kIn True.intro e (fun z=>nomatch z) h
 | str y=>obtain ⟨t,q⟩:=(show ∃ t,u=Value.str y t from rx);cases q;exact PySem.W.kia_one PySem.W.kitx_str I.kIn True.intro e (fun z=>nomatch z) h
 | flt y=>obtain ⟨t,q⟩:=(show ∃ t,u=Value.float y t from rx);cases q;exact PySem.W.kia_one PySem.W.kitx_float I.kIn True.intro e (fun z=>nomatch z) h
 | @lst a xs ea =>
  cases (show u=Value.ref a from rx)
  obtain ⟨_,_,n,_,h1⟩:=(show ObjOk X.prog X.w H s.heap a (.lst xs) from I.hok a _ ea)
  exact PySem.W.kia_one PySem.W.kitx_list I.kIn ⟨_,h1,rfl⟩ e (fun z=>nomatch z) h
 | @frz a ob xs ea =>
  cases (show u=Value.ref a from rx)
  obtain ⟨_,_,_,n,_,h1⟩:=(show ObjOk X.prog X.w H s.heap a (.frz ob (.lst xs)) from I.hok a _ ea)
  exact PySem.W.kia_one PySem.W.kitx_list I.kIn ⟨_,h1,rfl⟩ e (fun z=>nomatch z) h
 | @tup a xs ea =>
  cases (show u=Value.ref a from rx)
  obtain ⟨_,_,_,p⟩:=(show ObjOk X.prog X.w H s.heap a (.tup xs) from I.hok a _ ea)
  obtain ⟨o,h1,h2,_⟩:=p
  exact PySem.W.kia_one PySem.W.kitx_tuple I.kIn ⟨o,h1,h2⟩ e (fun z=>nomatch z) h
 | @dK a kvs ea =>
  cases (show u=Value.ref a from rx)
  obtain ⟨_,_,vs,_,p⟩:=(show ObjOk X.prog X.w H s.heap a (.dK kvs) from I.hok a _ ea)
  obtain ⟨o,es,ep,h1,h2,_⟩:=p
  exact PySem.W.kia_one PySem.W.kitx_dict I.kIn ⟨o,h1,h2.1⟩ e (fun z=>nomatch z) h
 | @dT a kvs ea =>
  cases (show u=Value.ref a from rx)
  obtain ⟨_,_,xs,_,o,es,ep,h1,h2,_⟩:=(show ObjOk X.prog X.w H s.heap a (.dT kvs) from I.hok a _ ea)
  exact PySem.W.kia_one PySem.W.kitx_dict I.kIn ⟨o,h1,h2.1⟩ e (fun z=>nomatch z) h
 | @ins a C dx fs ea cl ha hn htk hm =>
  cases (show u=Value.ref a from rx)
  obtain ⟨mA,O,_⟩:=zDk I.hok ea
  obtain ⟨od,J,_⟩:=O.look
  exact PySem.W.kia_one (PySem.W.kitx_own (cl.get _) cl.hd ha hn htk hm) I.kIn J e (fun z=>nomatch z) h
end
end L2
namespace L2
open PySem PySem.Spec PyProof.Rows
structure Room (k:Nat) (A:Around):Prop where
 hd:A.handled=none
 dp:A.depth + 3 * k + 5 < recursionLimit
 un:A.units + 16 * k + 200 < cLine
theorem Room.mono {j k:Nat}{A:Around} (r:Room k A) (h:j≤k):Room j A:=⟨r.hd,by have:=r.dp;omega,by have:=r.un;omega⟩
theorem Room.deeper {k:Nat}{A:Around} (r:Room (k + 1) A) (env:Env):Room k (A.deeper env) :=
 ⟨r.hd,by have:=r.dp;show A.depth + 1 + 3 * k + 5 < _;omega,by have:=r.un;show A.units + 3 + 16 * k + 200 < _;omega⟩
theorem make_depth {A:Around}{C:Addr}{us:List Value}{kw:List (Str×Value)}:(A.under (.builtin "type.__call__" ⟨.ref C :: us,kw⟩)).depth=A.depth + 1:=by
 first | rfl | simp [Around.under,Code.weight,Code.isCreation,Code.isGuard,Code.isCaller,Code.frames,Code.isFrame,guardIds]
theorem make_units {A:Around}{C:Addr}{us:List Value}{kw:List (Str×Value)}:(A.under (.builtin "type.__call__" ⟨.ref C :: us,kw⟩)).units=A.units + 1:=by
 first | rfl | simp [Around.under,Code.cUnits,Code.frames,Code.isFrame]
theorem Room.make {k:Nat}{A:Around} (r:Room (k + 1) A) (C:Addr) (us:List Value) (kw:List (Str×Value)):Room k (A.under (.builtin "type.__call__" ⟨.ref C :: us,kw⟩)) :=
 ⟨r.hd,by have:=r.dp;rw [make_depth];omega,by have:=r.un;rw [make_units];omega⟩
theorem Room.depth {k:Nat}{A:Around} (r:Room k A):A.depth < recursionLimit:=by have:=r.dp;omega
theorem Room.units {k:Nat}{A:Around} (r:Room k A):A.units + 64 < cLine:=by have:=r.un;omega
noncomputable def tNil:TA:=fun _ H Q=>Q [] H
noncomputable def tCons (ta:TE) (tr:TA):TA:=fun σ H Q=>ta σ H fun x H1=>tr σ H1 fun xs H2=>Q (x :: xs) H2
section
variable {X:Cx}{e:Expr}{es:List Expr}{te:TE}{t:TA}{pos:Pos}
theorem zA2:PA X [] tNil:=fun _ _ _ _ H Q I h=>Calls.spliced_nil ⟨[],H,I,.nil,h⟩
theorem zA0 (ha:PE X e te) (hr:PA X es t) (hs:starEach (e :: es) X.env=(false,eval e X.env) :: starEach es X.env:=by rfl):PA X (e :: es) (tCons te t):=by
 intro pos pins s σ H Q I h
 rw [hs]
 show wpAny _ _ (spliced ((false,eval e X.env) :: backTo pos (starEach es X.env))) _ _ s
 refine Calls.spliced_cons (thn (ha pins s σ H _ I h) fun u s1 ⟨x,H1,I1,r1,q1⟩=>?_)
 exact thn (hr pos pins s1 σ H1 _ I1 q1) fun us s2 ⟨xs,H2,I2,r2,q2⟩=>⟨x :: xs,H2,I2,.cons r1 r2,q2⟩
noncomputable def tTup (t:TA):TE:=fun σ H Q=>t σ H fun xs H1=>xs.length≤sizeLine∧∀ p,H1 p=none→Q (.ref p) (upd H1 p (.tup xs))
noncomputable def tLst (t:TA):TE:=fun σ H Q=>t σ H fun xs H1=>xs.length≤sizeLine∧∀ p,H1 p=none→Q (.ref p) (upd H1 p (.lst xs))
theorem zBd {x1} (h:PA X es t):PE X (.Tuple es x1 pos) (tTup t):=by
 intro pins s σ H Q I hq
 refine wpAny_Tuple_spliced (thn (h pos pins s σ H _ I hq) fun us s1 ⟨xs,H1,I1,r,z,q⟩=>⟨by rw [← r.length];exact z,?_⟩)
 have hf:H1 s1.heap.objs.size=none:=I1.hok.fresh (Nat.le_refl _)
 refine ⟨.ref s1.heap.objs.size,upd H1 s1.heap.objs.size (.tup xs),I1.laid (t':=s1.toks) (fun b u e=>Heap.get?_push_of_some _ e) (Nat.le_refl _) ?_,rfl,q _ hf⟩
 exact ⟨z,us,r,⟨_,Heap.get?_push_size _ rfl,rfl,_,rfl⟩⟩
theorem zAu (h:PA X es t):PE X (.List es pos) (tLst t):=by
 intro pins s σ H Q I hq
 refine wpAny_List_spliced (thn (h pos pins s σ H _ I hq) fun us s1 ⟨xs,H1,I1,r,z,q⟩=>⟨by rw [← r.length];exact z,?_⟩)
 have hf:H1 s1.heap.objs.size=none:=I1.hok.fresh (Nat.le_refl _)
 refine ⟨.ref s1.heap.objs.size,upd H1 s1.heap.objs.size (.lst xs),I1.laid (t':=s1.toks) (fun b u e=>Heap.get?_push_of_some _ e) (Nat.le_refl _) ?_,rfl,q _ hf⟩
 exact ⟨z,us,0,r,Heap.get?_push_size _ rfl⟩
end
noncomputable abbrev Sp:=List V→Hp→VK→XK→Prop
noncomputable abbrev CXT:=List Env→Hp→Shared→XK→Value→Shared→Prop
structure Env0 (P:Program) (w:World) (K:PySem.W.Frag) (mg:Str→Option Value) (base:Heap) (A:Around) (outer:List Env) (s:Shared) (H:Hp):Prop where
 frames:A.frames=some outer
 mod:Mod K mg base
 bs:∀ b o,base.get? b=some o→s.heap.get? b=some o∧H b=none
 bsz:base.objs.size≤s.heap.objs.size
 funs:s.heap.FunFrames base outer
 frf:∀ b∈frs outer,H b=none
 hok:HOk P w H s.heap
 bare:AllBare s.gens
noncomputable def CE (outer:List Env) (P:Program) (w:World) (H:Hp) (s:Shared) (Q:VK) (u:Value) (s':Shared):Prop :=
 ∃ v H',s'.os=s.os∧AllBare s'.gens∧Un (frs outer) [] H H' s.heap s'.heap∧HOk P w H' s'.heap∧RelV v u∧Q v H'
noncomputable def CR (CX:CXT) (outer:List Env) (P:Program) (w:World) (H:Hp) (s:Shared) (Q:VK) (E:XK) (r:Result) (s':Shared):Prop :=
 match r with
 | .ok (.ret u)=>CE outer P w H s Q u s'
 | .ok _=>False
 | .error e=>CX outer H s E e s'
structure FnOk (P:Program) (w:World) (K:PySem.W.Frag) (mg:Str→Option Value) (base:Heap) (CX:CXT) (k:Nat) (f:Addr) (fd:FuncData) (ps:List Str) (sp:Sp):Prop where
 len:∀ vs H Q E,sp vs H Q E→vs.length=ps.length
 run:∀ (A:Around) (outer:List Env) (s:Shared) (H:Hp) (args:Args) (us:List Value) (vs:List V) (Q:VK) (E:XK),Room k A→Env0 P w K mg base A outer s H→BindsTo s fd args (ps.zip us)→Vals vs us→sp vs H Q E →
  codeAny (model P w) A (.call (.ref f) args) (CR CX outer P w H s Q E) s
theorem FnOk.imp {P:Program}{w:World}{K:PySem.W.Frag}{mg:Str→Option Value}{base:Heap}{CX:CXT}{k:Nat}{f:Addr}{fd:FuncData}{ps:List Str}{sp sp':Sp} (F:FnOk P w K mg base CX k f fd ps sp)
  (h:∀ vs H Q E,sp' vs H Q E→sp vs H Q E):FnOk P w K mg base CX k f fd ps sp' :=
 ⟨fun vs H Q E q=>F.len vs H Q E (h _ _ _ _ q),fun A outer s H args us vs Q E hr he hb hv hs=>F.run A outer s H args us vs Q E hr he hb hv (h _ _ _ _ hs)⟩
theorem Env0.make {P:Program}{w:World}{K:PySem.W.Frag}{mg:Str→Option Value}{base:Heap}{A:Around}{outer:List Env}{s:Shared}{H:Hp} (e:Env0 P w K mg base A outer s H) (C:Addr) (us:List Value) (kw:List (Str×Value)) :
  Env0 P w K mg base (A.under (.builtin "type.__call__" ⟨.ref C :: us,kw⟩)) outer s H:=⟨by first | exact e.frames | (simpa [Around.under,Code.envs,Code.isFrame,pushEnvs] using e.frames),e.mod,e.bs,e.bsz,e.funs,e.frf,e.hok,e.bare⟩
section
variable {X:Cx}{pins:List (Addr×Obj)}{σ : St}{H:Hp}{s s':Shared}
theorem Inv.env0 (I:Inv X pins σ H s):Env0 X.prog X.w X.K X.mg X.base X.A X.stack s H :=
 ⟨I.ok.frames,I.ok.mod,I.bs,Nat.le_trans I.ok.bsz I.sz,I.stack,I.stkFree,I.hok,I.bare⟩
theorem Inv.after {Q:VK}{u:Value} (I:Inv X pins σ H s) (h:CE X.stack X.prog X.w H s Q u s'):EP X pins σ Q u s':=by
 obtain ⟨v,H',os,bare,un,hok,r,q⟩:=h
 obtain ⟨hh,g,d,t,os'⟩:=s'
 obtain rfl:os'=s.os:=os
 exact ⟨v,H',I.call (h':=hh) (g':=g) (d':=d) (t':=t) (ch:=[]) un hok bare (fun b z=>absurd z (by simp)),r,q⟩
end
noncomputable def tCall (sp:Sp) (dvs:List V) (E:St→XK) (t:TA):TE:=fun σ H Q=>t σ H fun vs H1=>sp (vs++dvs) H1 Q (E σ)
noncomputable def tMeth (C:Addr) (m:Str) (sp:Sp) (dvs:List V) (E:St→XK) (ta:TE) (t:TA):TE:=fun σ H Q=>ta σ H fun x H1=>∃ a dx fs,x=.ref a∧H1 a=some (.ins C dx fs)∧fs.lookup m=none ∧
 t σ H1 fun vs H2=>sp (x :: (vs++dvs)) H2 Q (E σ)
noncomputable def tMake (C:Addr) (sp:Sp) (dvs:List V) (E:St→XK) (t:TA):TE:=fun σ H Q=>t σ H fun vs H1=>∀ x dx,H1 x=none→H1 dx=none→dx≠x →
 sp (.ref x :: (vs++dvs)) (upd (upd H1 dx (.own x)) x (.ins C dx [])) (fun v H2=>v=.non∧Q (.ref x) H2) (E σ)
noncomputable def Binds (K:PySem.W.Frag) (fd:FuncData) (ps:List Str) (ds:List Value):Prop :=
 ∀ (s:Shared) (us:List Value),K.In s.heap→(us++ds).length=ps.length→BindsTo s fd ⟨us,[]⟩ (ps.zip (us++ds))
theorem Binds.all {K:PySem.W.Frag}{fd:FuncData}{ps:List Str} (h:∀ us:List Value,us.length=ps.length→bindArgs fd ⟨us,[]⟩=pure (ps.zip us)):Binds K fd ps []:=fun s us _ hl=>by
 rw [List.append_nil] at hl ⊢
 exact .of_eq (h us hl)
noncomputable def Passes (CX:CXT) (X:Cx) (E:St→XK):Prop:=∀ (pins:List (Addr×Obj)) (σ : St) (H:Hp) (s:Shared) (e:Value) (s':Shared),Inv X pins σ H s→CX X.stack H s (E σ) e s'→X.xe e s'
section
variable {X:Cx}{CX:CXT}{k:Nat}{f C:Addr}{fd:FuncData}{ps:List Str}{sp:Sp}{dvs:List V}{ds:List Value}{E:St→XK}{x m:Str}{p pos apos:Pos}{e o:Expr}{es:List Expr}{ta:TE}{t:TA}
theorem run_fn {pins:List (Addr×Obj)}{σ : St}{H:Hp}{s:Shared}{Q:VK}{us:List Value}{vs:List V} (F:FnOk X.prog X.w X.K X.mg X.base CX k f fd ps sp) (hr:Room k X.A) (hb:Binds X.K fd ps ds) (hd:Vals dvs ds) (hx:Passes CX X E)
  (I:Inv X pins σ H s) (r:Vals vs us) (h:sp (vs++dvs) H Q (E σ)):wpAny (model X.prog X.w) X.A (call (.ref f) us) (EP X pins σ Q) X.xe s:=by
 have r2:Vals (vs++dvs) (us++ds):=r.append hd
 have hl:(us++ds).length=ps.length:=by rw [← r2.length];exact F.len _ _ _ _ h
 refine wpAny_call (codeAny_mono (F.run X.A X.stack s H ⟨us,[]⟩ (us++ds) (vs++dvs) Q (E σ) hr I.env0 (hb s us I.kIn hl) r2 h) fun r s' hq=>?_)
 cases r with
 | error e=>exact hx pins σ H s e s' I hq
 | ok fl =>
  cases fl with
  | ret u=>exact I.after hq
  | next=>exact False.elim hq
  | brk=>exact False.elim hq
  | cont=>exact False.elim hq
theorem zA7 (F:FnOk X.prog X.w X.K X.mg X.base CX k f fd ps sp) (hr:Room k X.A) (hg:Gl X x) (hm:X.mg x=some (.ref f)) (hk:PySem.W.keepIn X.K (.ref f)=true) (hb:Binds X.K fd ps ds) (hd:Vals dvs ds) (hx:Passes CX X E)
  (ha:PA X (e :: es) t) (hdb:(x == ("__debug__" : Str))=false:=by decide) (he:starEach (e :: es) X.env=(false,eval e X.env) :: starEach es X.env:=by rfl) (hpl:(backTo pos (starEach es X.env)).any (·.1)=false:=by rfl) :
  PE X (.Call (.Name x p) (e :: es) [] pos) (tCall sp dvs E t):=by
 intro pins s σ H Q I h
 refine wpAny_Call_Name_kw (zCo I hg hm ?_ hdb)
 refine PySem.W.callWith_K (h₀:=X.base) I.ok.mod.kin hk (thn (ha pos pins s σ H _ I h) fun us s1 ⟨vs,H1,I1,r,q⟩=>⟨I1.kIn,?_⟩) he hpl
 exact run_fn F hr hb hd hx I1 r q
theorem zCd {pl:Sem Bool} (he:PE X o ta) (c:Cls X.K C) (hm:Meth X.K C m f) (F:FnOk X.prog X.w X.K X.mg X.base CX k f fd ps sp) (hr:Room k X.A) (hb:Binds X.K fd ps ds) (hd:Vals dvs ds) (hx:Passes CX X E)
  (ht:eval (.Call (.Attribute o m apos) [] [] pos) X.env=(do
   let ov ← eval o X.env
   standAt apos.atName
   let (f,first) ← holding [ov] (getMethod ov m pl)
   callWith pos f first (backTo pos (starEach [] X.env)) (backToKw pos (keywordEach [] X.env))):=by rfl) :
  PE X (.Call (.Attribute o m apos) [] [] pos) (tMeth C m sp dvs E ta tNil):=by
 intro pins s σ H Q I h
 refine PySem.W.methodCall_KW (pl:=pl) (thn (he pins s σ H _ I h) fun u s1 ⟨x,H1,I1,rx,a,dx,fs,ex,ea,l,q⟩=>?_) ht
 subst ex
 obtain rfl:u=Value.ref a:=rx
 refine zD4 I1 ea c hm l ?_
 exact PySem.W.callWith_K0 (first:=[.ref a]) I1.kIn hm.kp (run_fn (us:=[.ref a]) (vs:=[.ref a]) F hr hb hd hx I1 (.cons rfl .nil) q)
structure Mk (K:PySem.W.Frag) (C f:Addr):Prop where
 makes:PySem.W.makesIn K C=true
 init:PySem.W.findIn K (.ref C) "__init__" = some (some (.ref f))
 fn:PySem.W.isFn K (.ref f)=true
 kp:PySem.W.keepIn K (.ref C)=true
theorem run_make {pins:List (Addr×Obj)}{σ : St}{H:Hp}{s:Shared}{Q:VK}{us:List Value}{vs:List V} (M:Mk X.K C f) (F:FnOk X.prog X.w X.K X.mg X.base CX k f fd ps sp) (hr:Room (k + 1) X.A) (hb:Binds X.K fd ps ds) (hd:Vals dvs ds)
  (hx:Passes CX X E) (I:Inv X pins σ H s) (r:Vals vs us)
  (h:∀ x dx,H x=none→H dx=none→dx≠x→sp (.ref x :: (vs++dvs)) (upd (upd H dx (.own x)) x (.ins C dx [])) (fun v H2=>v=.non∧Q (.ref x) H2) (E σ)) :
  wpAny (model X.prog X.w) X.A (call (.ref C) us) (EP X pins σ Q) X.xe s:=by
 have hq:=h (s.heap.objs.size + 1) s.heap.objs.size (I.hok.fresh (Nat.le_succ _)) (I.hok.fresh (Nat.le_refl _)) (Nat.ne_of_lt (Nat.lt_succ_self _))
 have I2:=Inv.made (C:=C) I
 have r2:Vals (V.ref (s.heap.objs.size + 1) :: (vs++dvs)) (Value.ref (s.heap.objs.size + 1) :: (us++ds)):=.cons rfl (r.append hd)
 have hl:(Value.ref (s.heap.objs.size + 1) :: us++ds).length=ps.length:=by
  have e:=r2.length
  rw [F.len _ _ _ _ hq] at e
  exact e.symm
 refine wpAny_call (make_map (f:=f) I.kIn M.makes M.init (beq_iff_eq.mp M.fn) (codeAny_mono (F.run _ X.stack _ _ ⟨Value.ref (s.heap.objs.size + 1) :: us,[]⟩ (Value.ref (s.heap.objs.size + 1) :: (us++ds)) _ _ (E σ) (hr.make C us [])
  (I2.env0.make C us []) (hb _ (Value.ref (s.heap.objs.size + 1) :: us) I2.kIn hl) r2 hq) fun r s' hq'=>?_))
 cases r with
 | error e=>exact hx pins σ _ _ e s' I2 hq'
 | ok fl =>
  cases fl with
  | ret u =>
   obtain ⟨v,H',I3,rv,ev,q3⟩:=I2.after hq'
   subst ev
   exact ⟨rv,⟨V.ref (s.heap.objs.size + 1),H',I3,rfl,q3⟩⟩
  | next=>exact False.elim hq'
  | brk=>exact False.elim hq'
  | cont=>exact False.elim hq'
theorem zCj (M:Mk X.K C f) (F:FnOk X.prog X.w X.K X.mg X.base CX k f fd ps sp) (hr:Room (k + 1) X.A) (hg:Gl X x) (hm:X.mg x=some (.ref C)) (hb:Binds X.K fd ps ds) (hd:Vals dvs ds) (hx:Passes CX X E)
  (ha:PA X (e :: es) t) (hdb:(x == ("__debug__" : Str))=false:=by decide) (he:starEach (e :: es) X.env=(false,eval e X.env) :: starEach es X.env:=by rfl) (hpl:(backTo pos (starEach es X.env)).any (·.1)=false:=by rfl) :
  PE X (.Call (.Name x p) (e :: es) [] pos) (tMake C sp dvs E t):=by
 intro pins s σ H Q I h
 refine wpAny_Call_Name_kw (zCo I hg hm ?_ hdb)
 refine PySem.W.callWith_K (h₀:=X.base) I.ok.mod.kin M.kp (thn (ha pos pins s σ H _ I h) fun us s1 ⟨vs,H1,I1,r,q⟩=>⟨I1.kIn,?_⟩) he hpl
 exact run_make M F hr hb hd hx I1 r q
end
section
variable {X:Cx}{CX:CXT}{k:Nat}{f C:Addr}{fd:FuncData}{ps ks:List Str}{sp:Sp}{E:St→XK}{x m:Str}{p pos apos kpos:Pos}{e o:Expr}{es:List Expr}{kws:List Keyword}{te ta:TE}{t tk:TA}{nm:Option Str}
variable {g:List Value→List Value→List Value}{gV:List V→List V→List V}
end
structure FnScope (N P:List Str) (sc:Scope):Prop where
 kind:sc.kind=.function
 co:sc.isCoroutine=false
 gen:sc.isGenerator=false
 nd:N.Nodup
 pre:N.take P.length=P
 par:∀ x∈P,sc.names.lookup x=some .local∨sc.names.lookup x=some .cell
 nofree:∀ y∈sc.names,y.2≠.free
theorem bindL_out {kindOf:Str→Option NameKind}{x:Str}:∀ {binds:List (Str×Value)}{m:Str→Option Value},(∀ v,(x,v)∉binds)→bindL kindOf binds m x=m x
 | [],_,_=>rfl
 | (n,v) :: r,m,h=>by
  unfold bindL
  rw [bindL_out fun w hw=>h w (List.mem_cons_of_mem _ hw)]
  split
  ·have:x≠n:=by rintro rfl;exact h v List.mem_cons_self
   simp [this]
  ·rfl
theorem bindC_out {kindOf:Str→Option NameKind}{x:Str}:∀ {binds:List (Str×Value)}{m:Str→Option Value},(∀ v,(x,v)∉binds)→bindC kindOf binds m x=m x
 | [],_,_=>rfl
 | (n,v) :: r,m,h=>by
  unfold bindC
  rw [bindC_out fun w hw=>h w (List.mem_cons_of_mem _ hw)]
  split
  ·rfl
  ·have:x≠n:=by rintro rfl;exact h v List.mem_cons_self
   simp [this]
theorem bindL_get {kindOf:Str→Option NameKind}{x:Str}{v:Value}:∀ {P:List Str}{vs:List Value}{i:Nat}{m:Str→Option Value},P.Nodup→P[i]? = some x→vs[i]? = some v→kindOf x=some .local →
  bindL kindOf (P.zip vs) m x=some v
 | [],_,_,_,_,h,_,_=>by simp at h
 | _ :: _,[],_,_,_,_,h,_=>by simp at h
 | p :: P,w :: vs,0,m,nd,h1,h2,hk=>by
  simp at h1 h2;subst h1;subst h2
  show bindL kindOf ((p,w) :: P.zip vs) m p=_
  unfold bindL
  rw [bindL_out fun v hv=>(List.nodup_cons.mp nd).1 (List.of_mem_zip hv).1,if_pos hk]
  simp
 | p :: P,w :: vs,i + 1,m,nd,h1,h2,hk=>by
  show bindL kindOf ((p,w) :: P.zip vs) m x=_
  unfold bindL
  exact bindL_get (i:=i) (List.nodup_cons.mp nd).2 (by simpa using h1) (by simpa using h2) hk
theorem bindC_get {kindOf:Str→Option NameKind}{x:Str}{v:Value}:∀ {P:List Str}{vs:List Value}{i:Nat}{m:Str→Option Value},P.Nodup→P[i]? = some x→vs[i]? = some v→kindOf x≠some .local →
  bindC kindOf (P.zip vs) m x=some v
 | [],_,_,_,_,h,_,_=>by simp at h
 | _ :: _,[],_,_,_,_,h,_=>by simp at h
 | p :: P,w :: vs,0,m,nd,h1,h2,hk=>by
  simp at h1 h2;subst h1;subst h2
  show bindC kindOf ((p,w) :: P.zip vs) m p=_
  unfold bindC
  rw [bindC_out fun v hv=>(List.nodup_cons.mp nd).1 (List.of_mem_zip hv).1,if_neg hk]
  simp
 | p :: P,w :: vs,i + 1,m,nd,h1,h2,hk=>by
  show bindC kindOf ((p,w) :: P.zip vs) m x=_
  unfold bindC
  exact bindC_get (i:=i) (List.nodup_cons.mp nd).2 (by simpa using h1) (by simpa using h2) hk
noncomputable def start (N:List Str) (vs:List V):St:=vs.map some++List.replicate (N.length - vs.length) none
noncomputable def cxOf (CX:CXT) (P:Program) (w:World) (K:PySem.W.Frag) (mg:Str→Option Value) (base:Heap) (N:List Str) (qual:Str) (scope:Scope) (f:Addr) (cd:Value) (A:Around) (outer:List Env) (s:Shared) (H:Hp) (E:XK):Cx where
 prog:=P
 w:=w
 K:=K
 mg:=mg
 base:=base
 A:=A.deeper (envOfC qual scope s.heap.objs.size f cd)
 N:=N
 s₀:=s
 H₀:=H
 env:=envOfC qual scope s.heap.objs.size f cd
 outer:=outer
 stack:=envOfC qual scope s.heap.objs.size f cd :: outer
 ex:=[]
 calm:=true
 fn:=fun _=>true
 pn:=[]
 xe:=fun e s'=>wpAny (model P w) (A.deeper (envOfC qual scope s.heap.objs.size f cd)) (leaving (envOfC qual scope s.heap.objs.size f cd) e) (fun _ s''=>CX outer H s E e s'') (fun e' s''=>CX outer H s E e' s'') s'
theorem cell_has {sc:Scope}{n:Nat}{x:Str} (h:sc.names.lookup x=some .cell):∃ c,(cellsFrom n sc.names []).lookup x=some c:=by
 have q:=PySem.W.cellsFrom_some sc.names n [] (.inl h)
 exact Option.isSome_iff_exists.mp q
theorem inv_start {CX:CXT}{P:Program}{w:World}{K:PySem.W.Frag}{mg:Str→Option Value}{base:Heap}{N ps:List Str}{qual:Str}{scope:Scope}{f:Addr}{cd:Value}{A:Around}{outer:List Env}{s s1:Shared}{H:Hp}{E:XK}{us:List Value}{vs:List V}
  (S:FnScope N ps scope) (hd:A.handled=none) (e0:Env0 P w K mg base A outer s H) (hl:vs.length=ps.length) (r:Vals vs us)
  (x:InCallC s s.heap.objs.size (bindL (envOfC qual scope s.heap.objs.size f cd).kindOf (ps.zip us) fun _=>none) (cellsFrom (s.heap.objs.size + 1) scope.names []) (bindC (envOfC qual scope s.heap.objs.size f cd).kindOf (ps.zip us) fun _=>none) s1) :
  Inv (cxOf CX P w K mg base N qual scope f cd A outer s H E) [] (start N vs) H s1:=by
 have hpl:ps.length≤N.length:=by have:=congrArg List.length S.pre;rw [List.length_take] at this;omega
 obtain ⟨h1,tk,rfl,hk⟩:=x.done
 have noA:∀ b:Addr,b∉(cxOf CX P w K mg base N qual scope f cd A outer s H E).ex:=fun b z=>absurd (show b∈([]:List Addr) from z) (by simp)
 refine ⟨⟨e0.mod,S.kind,rfl,rfl,Nat.le_refl _,fun y z c h1 h2=>?_,fun y hy=>?_,fun y c _ h=>?_,fun _=>hd,Around.frames_deeper e0.frames,.inr ⟨rfl,rfl⟩,fun b z=>absurd z (noA b),e0.bs,e0.bsz,fun b _ _=>noA b,fun b z=>absurd z (noA b),e0.funs,e0.frf⟩,
  rfl,e0.bare,Un.kept hk,⟨_,x.toInCall.ns,fun i y v h1 h2 h3=>?_⟩,fun y c h=>⟨_,x.cell y c h⟩,e0.hok.fresh (Nat.le_refl _),fun y c h=>?_,fun p hp=>absurd (show p∈([]:List (Addr×Obj)) from hp) (by simp),e0.hok.kept hk,?_⟩
 ·exact name_of_addr x.apart (PySem.mem_of_lookup h1) (PySem.mem_of_lookup h2)
 ·have hy:scope.names.lookup y=some .cell∨scope.names.lookup y=some .free:=hy
  rcases hy with hy | hy
  ·exact cell_has hy
  ·exact absurd rfl (S.nofree _ (PySem.mem_of_lookup hy))
 ·exact Nat.le_of_lt (x.above y c (PySem.mem_of_lookup h))
 ·have hi:i < vs.length:=by
   unfold start at h2
   by_cases hi:i < vs.length
   ·exact hi
   ·rw [List.getElem?_append_right (by simpa using hi)] at h2
    rw [List.getElem?_replicate] at h2
    split at h2 <;> cases h2
  have ha:vs[i]? = some v:=by
   unfold start at h2
   rw [List.getElem?_append_left (by simpa using hi),List.getElem?_map] at h2
   cases e:vs[i]? with
   | none=>rw [e] at h2;cases h2
   | some a=>rw [e] at h2;cases h2;rfl
  obtain ⟨u,hu,rv⟩:=r.get ha
  have hp:ps[i]? = some y:=by
   rw [← S.pre,List.getElem?_take_of_lt (by omega)];exact h1
  have ndP:ps.Nodup:=by rw [← S.pre];exact S.nd.sublist (List.take_sublist _ _)
  refine ⟨u,rv,?_⟩
  rcases S.par y (List.mem_of_getElem? hp) with k | k
  ·exact .inl ⟨k,bindL_get ndP hp hu k⟩
  ·obtain ⟨c,e⟩:=cell_has (n:=s.heap.objs.size + 1) k
   refine .inr ⟨.inl k,c,e,?_⟩
   have q:=x.cell y c e
   rw [bindC_get ndP hp hu (by show scope.names.lookup y≠_;rw [k];decide)] at q
   exact q
 ·exact e0.hok.fresh (Nat.le_of_lt (x.above y c (PySem.mem_of_lookup h)))
 ·unfold start
  show _=N.length
  rw [List.length_append,List.length_map,List.length_replicate]
  omega
theorem fn_of {CX:CXT}{P:Program}{w:World}{K:PySem.W.Frag}{mg:Str→Option Value}{base:Heap}{k:Nat}{f:Addr}{name qual:Str}{params:Arguments}{body:List Stmt}{scope:Scope}{dV kV doc pm cdv ct oc:Value}{an od:Option Addr}
  {osl:Array (Option Value)}{N ps:List Str}{sp:Sp} (lk:K.lookup f=some ⟨oc,od,.func (PySem.W.fnOf name qual params body scope dV kV doc pm an cdv ct),osl⟩) (hcd:PySem.W.codeIn K cdv qual=true) (S:FnScope N ps scope)
  (len:∀ vs H Q E,sp vs H Q E→vs.length=ps.length)
  (hbody:∀ (A:Around) (outer:List Env) (s:Shared) (H:Hp) (vs:List V) (Q:VK) (E:XK),Room k (A.deeper (envOfC qual scope s.heap.objs.size f cdv))→sp vs H Q E →
   ∃ t,PSs (cxOf CX P w K mg base N qual scope f cdv A outer s H E) body t∧t { nx:=fun _ H'=>Q .non H',rt:=Q } (start N vs) H) :
  FnOk P w K mg base CX (k + 1) f (PySem.W.fnOf name qual params body scope dV kV doc pm an cdv ct) ps sp:=by
 refine ⟨len,fun A outer s H args us vs Q E hr e0 hb r hsp=>?_⟩
 have hl:=len _ _ _ _ hsp
 have KX:K.In s.heap:=e0.mod.kin.keeps fun b o e=>(e0.bs b o e).1
 have lim:s.heap.NoLimit:=e0.mod.nolimit.keeps fun b o e=>(e0.bs b o e).1
 have hkind:∀ y∈ps.zip us,scope.names.lookup y.1=some .local∨(scope.names.lookup y.1=some .cell∧((cellsFrom (s.heap.objs.size + 1) scope.names []).lookup y.1).isSome=true):=fun ⟨n,v⟩ hy=>by
  rcases S.par n (List.of_mem_zip hy).1 with q | q
  ·exact .inl q
  ·exact .inr ⟨q,PySem.W.cellsFrom_some _ _ _ (.inl q)⟩
 refine codeAny_call_function hr.depth (KX _ _ lk) rfl S.co S.gen rfl (PySem.W.codeRec_of KX hcd) (hb _ _ _ _ ?_)
 refine wpAny_newFunctionEnv_cells S.kind hkind fun env he s1 x=>?_
 subst he
 refine ⟨lim.keeps x.toInCall.keep,codeAny_func ?_⟩
 obtain ⟨t,ht,hq⟩:=hbody A outer s H vs Q E (hr.deeper _) hsp
 have I:Inv (cxOf CX P w K mg base N qual scope f cdv A outer s H E) [] (start N vs) H s1:=inv_start S hr.hd e0 hl r x
 refine wpAny_mono (ht [] s1 (start N vs) H _ I hq) (fun fl s' hs=>?_) fun e s' hs=>hs
 have fin:∀ {σ':St}{H':Hp}{v:V}{u:Value},Inv (cxOf CX P w K mg base N qual scope f cdv A outer s H E) [] σ' H' s'→RelV v u→Q v H'→CE outer P w H s Q u s' :=
  fun {σ' H' v u} J rv q=>⟨v,H',J.os,J.bare,J.base,J.hok,rv,q⟩
 cases fl with
 | ret u =>
  obtain ⟨v,σ',H',J,rv,q⟩:=hs
  exact fin J rv q
 | next =>
  obtain ⟨σ',H',J,q⟩:=hs
  exact fin (v:=V.non) (u:=Value.none) J rfl q
 | brk =>
  obtain ⟨_,_,_,q⟩:=hs
  exact False.elim q
 | cont =>
  obtain ⟨_,_,_,q⟩:=hs
  exact False.elim q
end L2
namespace L2
open PySem PySem.Spec PyProof.Rows
section
variable {X:Cx}{x:Str}{p pos:Pos}{e:Expr}{es:List Expr}{t:TA}{id T:String}{r:List V→Hp→VK→Prop}
noncomputable def tCB (r:List V→Hp→VK→Prop) (t:TA):TE:=fun σ H Q=>t σ H fun vs H1=>r vs H1 Q
theorem zAa (hc:CallR X (.builtin id) r) (hg:Gl X x) (hm:X.mg x=none) (hv:bootBuiltins x=some (.builtin id)) (ha:PA X (e :: es) t) (hn:x≠"__name__":=by decide) (hdb:(x == ("__debug__" : Str))=false:=by decide)
  (he:starEach (e :: es) X.env=(false,eval e X.env) :: starEach es X.env:=by rfl) (hpl:(backTo pos (starEach es X.env)).any (·.1)=false:=by rfl):PE X (.Call (.Name x p) (e :: es) [] pos) (tCB r t):=by
 intro pins s σ H Q I h
 refine wpAny_Call_Name_kw (ld_blt I hg hm hv ?_ hn hdb)
 exact PyProof.Rows.callWith_builtin1 (thn (ha pos pins s σ H _ I h) fun us s1 ⟨vs,H1,I1,r1,q1⟩=>hc pins s1 σ H1 vs us Q I1 r1 q1) he hpl
theorem zAw (hc:CallR X (.type T) r) (hg:Gl X x) (hm:X.mg x=none) (hv:bootBuiltins x=some (.type T)) (ha:PA X (e :: es) t) (hn:x≠"__name__":=by decide) (hdb:(x == ("__debug__" : Str))=false:=by decide)
  (he:starEach (e :: es) X.env=(false,eval e X.env) :: starEach es X.env:=by rfl) (hpl:(backTo pos (starEach es X.env)).any (·.1)=false:=by rfl):PE X (.Call (.Name x p) (e :: es) [] pos) (tCB r t):=by
 intro pins s σ H Q I h
 refine wpAny_Call_Name_kw (ld_blt I hg hm hv ?_ hn hdb)
 exact PyProof.Rows.callWith_type1 (thn (ha pos pins s σ H _ I h) fun us s1 ⟨vs,H1,I1,r1,q1⟩=>hc pins s1 σ H1 vs us Q I1 r1 q1) he hpl
end
end L2
namespace HT
open PySem PyProof.Rows
section
open PySem.SeqAt
open PySem.AutoSeq1 (wpAny_loadPart')
open PySem.MeetsSeq PySem.MeetsSeq2 PySem.MeetsSeq3
end
section
variable {prog:Program}{w:World}{A:Around}{E:Value→Shared→Prop}{s:Shared}
theorem cat_tup {t b:Addr}{vs ws:List Value}{Q:Value→Shared→Prop} (ht:IsTup s.heap t vs.toArray) (hb:IsTup s.heap b ws.toArray) (hv:vs≠[])
  (h1:ws=[]→Q (.ref t) s) (h2:ws≠[]→Q (.ref s.heap.objs.size) { s with heap:=s.heap.push { cls:=.type "tuple",data:=.seq (vs++ws).toArray } })
  (hsz:vs.length + ws.length≤sizeLine):wpAny (model prog w) A (binaryOp .Add (.ref t) (.ref b)) Q E s:=by
 obtain ⟨⟨cls,dd,data,sl⟩,ho,hc,n,hd⟩:=id ht
 obtain ⟨⟨cls2,dd2,data2,sl2⟩,ho2,hc2,n2,hd2⟩:=id hb
 simp only at hc hd hc2 hd2
 subst hc hd hc2 hd2
 have e:vs.toArray++ws.toArray=(vs++ws).toArray:=by simp
 by_cases hw:ws=[]
 ·exact concat_meets ⟨_,ho,rfl⟩ ⟨_,ho2,rfl⟩ noFill_tuple_add seq_tuple_add PySem.F.slot_tuple_add PySem.F.entry_tuple_add (PySem.F.args_tuple_add_2 _ _)
   (tuple_addW1 t b vs.toArray ws.toArray n n2 dd dd2 sl sl2 (by simpa using hv) (by simp [hw])) ⟨ho,ho2,h1 hw⟩
 ·refine concat_meets ⟨_,ho,rfl⟩ ⟨_,ho2,rfl⟩ noFill_tuple_add seq_tuple_add PySem.F.slot_tuple_add PySem.F.entry_tuple_add (PySem.F.args_tuple_add_2 _ _)
   (tuple_addW2 t b vs.toArray ws.toArray n n2 dd dd2 sl sl2 (by simpa using hv) (by simpa using hw) (by rw [List.size_toArray,List.size_toArray];exact hsz)) ⟨ho,ho2,?_⟩
  rw [e]
  exact h2 hw
noncomputable def sIx (n d:Nat):Option Int→Nat
 | none=>d
 | some v=>if v < 0 then (v + (n:Int)).toNat else min v.toNat n
end
end HT
namespace L2
open PySem PySem.Spec PyProof.Rows
noncomputable abbrev TO:=St→Hp→(Option Int→Hp→Prop)→Prop
noncomputable def PO (X:Cx) (e:Option Expr) (t:TO):Prop :=
 ∀ (pins:List (Addr×Obj)) (s:Shared) (σ : St) (H:Hp) (Q:Option Int→Hp→Prop),Inv X pins σ H s→t σ H Q →
  wpAny (model X.prog X.w) X.A (evalPart e X.env) (fun u s'=>∃ o H',Inv X pins σ H' s'∧IsPart u o∧Q o H') X.xe s
noncomputable def tNoPart:TO:=fun _ H Q=>Q none H
noncomputable def tPart (t:TE):TO:=fun σ H Q=>t σ H fun x H1=>∃ i,x=.int i∧Q (some i) H1
section
variable {X:Cx}{e:Expr}{te:TE}{lo hi:Option Expr}{tl th:TO}{pos p2:Pos}
theorem zCi:PO X none tNoPart:=by
 intro pins s σ H Q I h
 rw [evalPart_none]
 exact wpAny_pure ⟨none,H,I,.none,h⟩
theorem zBm (h:PE X e te):PO X (some e) (tPart te):=by
 intro pins s σ H Q I hw
 rw [evalPart_some]
 refine thn (h pins s σ H _ I hw) fun u s1 ⟨x,H1,I1,r1,q1⟩=>?_
 obtain ⟨i,rfl,q⟩:=q1
 obtain ⟨t,rfl⟩:=r1
 exact ⟨some i,H1,I1,.int i t,q⟩
noncomputable def SlR (X:Cx) (r:V→Option Int→Option Int→Hp→VK→Prop):Prop :=
 ∀ (pins:List (Addr×Obj)) (s:Shared) (σ : St) (H:Hp) (x:V) (v vl vu:Value) (lo hi:Option Int) (sl:Addr) (Q:VK),Inv X pins σ H s→RelV x v→s.heap.IsSliceOf sl vl vu .none→IsPart vl lo→IsPart vu hi→r x lo hi H Q →
  ∃ T id,typeLookup (.type T) "__getitem__" = pure (some (.builtin id))∧s.TypeIs v T∧wpAny (model X.prog X.w) X.A (getItem v (.ref sl)) (EP X pins σ Q) X.xe s
noncomputable def tSl (r:V→Option Int→Option Int→Hp→VK→Prop) (te:TE) (tl th:TO):TE:=fun σ H Q=>te σ H fun x H1=>tl σ H1 fun l H2=>th σ H2 fun u H3=>r x l u H3 Q
theorem zB6 {r:V→Option Int→Option Int→Hp→VK→Prop} (hr:SlR X r) (he:PE X e te) (hl:PO X lo tl) (hu:PO X hi th):PE X (.Subscript e (.Slice lo hi none p2) pos) (tSl r te tl th):=by
 intro pins s σ H Q I h
 refine Subscript_ (thn (he pins s σ H _ I h) fun v s1 ⟨x,H1,I1,r1,q1⟩=>?_)
 refine wpAny_Slice (thn (hl pins s1 σ H1 _ I1 q1) fun vl s2 ⟨l,H2,I2,pl,q2⟩=>thn (hu pins s2 σ H2 _ I2 q2) fun vu s3 ⟨u,H3,I3,pu,q3⟩=>?_)
 rw [evalPart_none]
 refine wpAny_pure ?_
 have I4:Inv X pins σ H3 { s3 with heap:=s3.heap.push { cls:=.type "slice",data:=.fields #[vl,vu,.none] } }:=I3.kept (t':=s3.toks) fun b ob q=>Heap.get?_push_of_some _ q
 obtain ⟨T,id,hT,ht,hg⟩:=hr pins { s3 with heap:=s3.heap.push { cls:=.type "slice",data:=.fields #[vl,vu,.none] } } σ H3 x v vl vu l u s3.heap.objs.size Q I4 r1 (Heap.IsSliceOf.new ..) pl pu q3
 show wpAny (model X.prog X.w) X.A (subscriptTail e (.Slice lo hi none p2) v (.ref s3.heap.objs.size)) (EP X pins σ Q) X.xe { s3 with heap:=s3.heap.push { cls:=.type "slice",data:=.fields #[vl,vu,.none] } }
 exact tail_any (ops:=[.ref s3.heap.objs.size,v]) ht hT hg (by with_unfolding_all rfl)
noncomputable def cutV (xs:List V) (lo hi:Option Int):List V:=(xs.drop (HT.sIx xs.length 0 lo)).take (HT.sIx xs.length xs.length hi - HT.sIx xs.length 0 lo)
theorem cutV_length (xs:List V) (lo hi:Option Int):(cutV xs lo hi).length≤xs.length:=by
 unfold cutV
 rw [List.length_take,List.length_drop]
 omega
noncomputable def rCatT (K:PySem.W.Frag):R2:=fun x y H Q=>∃ a b xs ys,x=.ref a∧y=.ref b∧SqT K H a xs∧SqT K H b ys∧xs≠[]∧xs.length + ys.length≤sizeLine ∧
 (ys=[]→Q (.ref a) H)∧(ys≠[]→∀ p,H p=none→Q (.ref p) (upd H p (.tup (xs++ys))))
theorem Vals.nil_iff {xs:List V}{us:List Value} (r:Vals xs us):us=[] ↔ xs=[]:=by
 cases r with
 | nil=>simp
 | cons _ _=>simp
theorem op_catT:OpR X (binaryOp .Add) (rCatT X.K):=by
 intro pins s σ H x y v u Q I rx ry h
 obtain ⟨a,b,xs,ys,rfl,rfl,ha,hb,hx,hz,q1,q2⟩:=h
 cases rx
 cases ry
 obtain ⟨its,r1,p1,_⟩:=I.tuple ha
 obtain ⟨its2,r2,p2,_⟩:=I.tuple hb
 refine HT.cat_tup p1 p2 (fun z=>hx (r1.nil_iff.mp z)) (fun z=>⟨.ref a,H,I,rfl,q1 (r2.nil_iff.mp z)⟩) (fun z=>?_) (by rw [← r1.length,← r2.length];exact hz)
 refine ⟨.ref s.heap.objs.size,_,I.laid (t':=s.toks) (o:=.tup (xs++ys)) (fun b ob q=>Heap.get?_push_of_some _ q) (Nat.le_refl _) ?_,rfl,q2 (fun w=>z (r2.nil_iff.mpr w)) _ (I.hok.fresh (Nat.le_refl _))⟩
 exact ⟨by rw [List.length_append];exact hz,_,r1.append r2,IsTup.new _ _⟩
end
end L2
namespace L2
open PySem PySem.Spec PyProof.Rows
noncomputable def ixN (n:Nat) (i:Int):Option Nat:=if 0≤i then (if i < n then some i.toNat else none) else if -(n:Int)≤i then some (i + n).toNat else none
noncomputable def atI {α : Type} (xs:List α) (i:Int):Option α:=(ixN xs.length i).bind fun j=>xs[j]?
theorem ixN_seq {n:Nat}{i:Int}{j:Nat} (h:ixN n i=some j):seqIndex? i n=some j∧j < n∧-(n:Int)≤i∧i < n:=by
 unfold ixN at h
 by_cases h0:0≤i
 ·rw [if_pos h0] at h
  by_cases h1:i < n
  ·rw [if_pos h1] at h
   have e:i.toNat=j:=Option.some.inj h
   exact ⟨by rw [seqIndex_of h0 h1,e],by omega,by omega,h1⟩
  ·rw [if_neg h1] at h;cases h
 ·rw [if_neg h0] at h
  by_cases h1 : -(n:Int)≤i
  ·rw [if_pos h1] at h
   have e:(i + n).toNat=j:=Option.some.inj h
   exact ⟨by rw [seqIndex_neg (by omega) h1,e],by omega,h1,by omega⟩
  ·rw [if_neg h1] at h;cases h
theorem atI_get {α : Type}{xs:List α}{i:Int}{v : α} (h:atI xs i=some v):∃ j,seqIndex? i xs.length=some j∧xs[j]? = some v∧j < xs.length∧-(xs.length:Int)≤i∧i < xs.length:=by
 unfold atI at h
 cases e:ixN xs.length i with
 | none=>rw [e] at h;cases h
 | some j =>
  rw [e] at h
  obtain ⟨h1,h2,h3,h4⟩:=ixN_seq e
  exact ⟨j,h1,h,h2,h3,h4⟩
theorem zBh {α : Type}{xs:List α}{j:Nat}{v : α} (h:xs[j]? = some v):atI xs (j:Int)=some v:=by
 have hj:j < xs.length:=(List.getElem?_eq_some_iff.mp h).1
 have e:ixN xs.length (j:Int)=some j:=by
  unfold ixN
  rw [if_pos (by omega),if_pos (by omega)];simp
 unfold atI;rw [e];exact h
noncomputable def PlainIx (b:Expr):Prop:=∀ o i,subscripted b false o i=operate [o,i] (getItem o i)
noncomputable def IxR (X:Cx) (r:R2):Prop :=
 ∀ (value slice:Expr) (pins:List (Addr×Obj)) (s:Shared) (σ : St) (H:Hp) (x y:V) (v u:Value) (Q:VK),Inv X pins σ H s→RelV x v→RelV y u→r x y H Q →
  subscripted slice false v u=operate [v,u] (getItem v u)→wpAny (model X.prog X.w) X.A (subscriptTail value slice v u) (EP X pins σ Q) X.xe s
noncomputable def MtR (X:Cx) (id:String) (r:V→List V→Hp→VK→Prop):Prop :=
 ∀ (pins:List (Addr×Obj)) (s:Shared) (σ : St) (H:Hp) (x:V) (xs:List V) (v:Value) (us:List Value) (Q:VK),Inv X pins σ H s→RelV x v→Vals xs us→r x xs H Q →
  wpAny (model X.prog X.w) X.A (call (.builtin id) (v :: us)) (EP X pins σ Q) X.xe s
section
variable {X:Cx}{a b:Expr}{ta tb:TE}{pos:Pos}
theorem zAs {r:R2} (hr:IxR X r) (ha:PE X a ta) (hb:PE X b tb) (hs:PlainIx b):PE X (.Subscript a b pos) (tOp r ta tb):=by
 intro pins s σ H Q I h
 exact Subscript_ (binT ha hb I h fun v u s2 x y H2 I2 rx ry q=>hr a b pins s2 σ H2 x y v u Q I2 rx ry q (hs _ _))
noncomputable def rIxL (K:PySem.W.Frag):R2:=fun x y H Q=>∃ p xs i v,x=.ref p∧y=.int i∧SqL K H p xs∧atI xs i=some v∧Q v H
noncomputable def rIxS:R2:=fun x y H Q=>∃ z i c,x=.str z∧y=.int i∧z.length≤sizeLine∧atI z.cps.toList i=some c∧Q (.str ⟨#[c]⟩) H
theorem zAc:IxR X (rIxL X.K):=by
 intro value slice pins s σ H x y v u Q I rx ry h hs
 obtain ⟨p,xs,i,z,rfl,rfl,hq,he,q⟩:=h
 cases rx
 obtain ⟨t,rfl⟩:=ry
 obtain ⟨its,r,pl,hz⟩:=I.list hq
 obtain ⟨j,h1,h2,h3,h4,h5⟩:=atI_get he
 obtain ⟨w,ew,rw'⟩:=r.get h2
 have hl:=r.length
 have hn:=line63
 have fin:EP X pins σ Q w s:=⟨z,H,I,rw',q⟩
 by_cases h0:0≤i
 ·have hj:i.toNat=j:=by
   rw [seqIndex_of h0 h5] at h1
   exact Option.some.inj h1
  exact item_listR pl.isList h0 (by omega) (by rw [hj];simpa using ew) fin hs
 ·have hj:(i + (its.toArray.size:Int)).toNat=j:=by
   rw [seqIndex_neg (by omega) h4] at h1
   rw [List.size_toArray,← hl]
   exact Option.some.inj h1
  exact subscriptTail_builtinR (x:=w) pl.isList.typeIs slot_list_getitem.lookup
   (wpAny_getItem_list_neg (Q:=fun r s'=>r=w∧EP X pins σ Q r s') pl.isList (by omega) (by rw [List.size_toArray] <;> omega) (by omega) (by rw [hj];simpa using ew) ⟨rfl,fin⟩) hs
theorem ix_str:IxR X rIxS:=by
 intro value slice pins s σ H x y v u Q I rx ry h hs
 obtain ⟨z,i,c,rfl,rfl,hz,he,q⟩:=h
 obtain ⟨t,rfl⟩:=rx
 obtain ⟨t',rfl⟩:=ry
 obtain ⟨j,h1,h2,h3,h4,h5⟩:=atI_get he
 have hl:z.cps.toList.length=z.length:=by simp [Str.length]
 rw [hl] at h1 h4 h5
 have hn:=line63
 exact tail_any (typeIs_str s z t) slot_str_getitem.lookup (getItem_str (c:=c) (by
  have e1:decide (i < -(2 ^ 63:Int))=false:=decide_eq_false (by omega)
  have e2:decide (i ≥ 2 ^ 63)=false:=decide_eq_false (by omega)
  rw [e1,e2,Bool.or_false]) (by rw [h1];simpa using h2) ⟨.str ⟨#[c]⟩,H,I.tok _,⟨_,rfl⟩,q⟩) hs
theorem mapSeq_set (its:List Value) (n j:Nat) (u:Value):Obj.mapSeq (·.setIfInBounds j u) { cls:=.type "list",data:=.seq its.toArray n }={ cls:=.type "list",data:=.seq (its.set j u).toArray n }:=by
 simp [Obj.mapSeq]
theorem Inv.lst {pins:List (Addr×Obj)}{σ : St}{H:Hp}{s:Shared}{p:Addr}{xs:List V} (I:Inv X pins σ H s) (h:H p=some (.lst xs)) :
  ∃ (its:List Value) (n:Nat),Vals xs its∧s.heap.get? p=some { cls:=.type "list",data:=.seq its.toArray n }∧xs.length≤sizeLine:=by
 obtain ⟨z,its,n,r,e⟩:=I.hok p _ h
 exact ⟨its,n,r,e,z⟩
theorem Inv.lstUpd {pins:List (Addr×Obj)}{σ : St}{H:Hp}{s:Shared}{p:Addr}{xs ys:List V}{its its':List Value}{n n':Nat}{f:Obj→Obj} (I:Inv X pins σ H s) (h:H p=some (.lst xs))
  (ho:s.heap.get? p=some { cls:=.type "list",data:=.seq its.toArray n }) (hf:f { cls:=.type "list",data:=.seq its.toArray n }={ cls:=.type "list",data:=.seq its'.toArray n' }) (r:Vals ys its') (hz:ys.length≤sizeLine) (t:Nat) :
  Inv X pins σ (upd H p (.lst ys)) { s with heap:=s.heap.update p f,toks:=t }:=by
 have e:(s.heap.update p f).get? p=some { cls:=.type "list",data:=.seq its'.toArray n' }:=by
  rw [Heap.get?_update_self f ho (by rw [hf] <;> rfl),hf]
 refine I.write (x:=p) (e:=p) (by rw [h];trivial) (.inl rfl) (fun b u hb q=>(Heap.get?_update_other _ _ (Ne.symm hb)).trans q) ⟨_,e⟩ ?_
 exact ⟨hz,its',n',r,e⟩
noncomputable def rSetL:V→V→V→Hp→(Hp→Prop)→Prop:=fun o i v H Q=>∃ p xs k j,o=.ref p∧i=.int k∧H p=some (.lst xs)∧ixN xs.length k=some j∧Q (upd H p (.lst (xs.set j v)))
theorem set_list:PSet X rSetL:=by
 intro pins s σ H o i v ov iv u Q I ro ri rv h
 obtain ⟨p,xs,k,j,rfl,rfl,hp,hj,q⟩:=h
 cases ro
 obtain ⟨t,rfl⟩:=ri
 obtain ⟨its,n,r,ho,hz⟩:=I.lst hp
 obtain ⟨h1,h2,h3,h4⟩:=ixN_seq hj
 have hl:=r.length
 have hn:=line63
 have I':Inv X pins σ (upd H p (.lst (xs.set j v))) { s with heap:=s.heap.update p (Obj.mapSeq (·.setIfInBounds j u)) } :=
  I.lstUpd hp ho (mapSeq_set its n j u) (r.set rv j) (by rw [List.length_set];exact hz) s.toks
 by_cases h0:0≤k
 ·have hk:k.toNat=j:=by
   rw [seqIndex_of h0 h4] at h1
   exact Option.some.inj h1
  exact PySem.W.ki_setAt ho h0 (by omega) (by rw [List.size_toArray,← hl];exact h4) (by rw [hk];exact ⟨_,I',q⟩)
 ·have hk:(k + (its.toArray.size:Int)).toNat=j:=by
   rw [seqIndex_neg (by omega) h3] at h1
   rw [List.size_toArray,← hl]
   exact Option.some.inj h1
  exact PySem.W.ki_setBack ho (by omega) (by rw [List.size_toArray,← hl];exact h3) (by omega) (by rw [hk];exact ⟨_,I',q⟩)
theorem slice_bounds (lo hi:Option Int) (n:Nat):(sliceBounds lo hi none n).1=((HT.sIx n 0 lo:Nat):Int)∧(sliceBounds lo hi none n).2.1=((HT.sIx n n hi:Nat):Int)∧(sliceBounds lo hi none n).2.2=1:=by
 refine ⟨?_,?_,rfl⟩
 ·cases lo with
  | none=>simp [sliceBounds,HT.sIx]
  | some i =>
   simp only [sliceBounds,HT.sIx,Option.getD_none,show (1:Int) > 0 by decide,if_true]
   by_cases h:i < 0
   ·simp only [h,if_true] <;> omega
   ·simp only [h,if_false] <;> omega
 ·cases hi with
  | none=>simp [sliceBounds,HT.sIx]
  | some i =>
   simp only [sliceBounds,HT.sIx,Option.getD_none,show (1:Int) > 0 by decide,if_true]
   by_cases h:i < 0
   ·simp only [h,if_true] <;> omega
   ·simp only [h,if_false] <;> omega
theorem zD7 (its:List Value) (lo hi:Option Int):slicePick its.toArray lo hi none=((its.drop (HT.sIx its.length 0 lo)).take (HT.sIx its.length its.length hi - HT.sIx its.length 0 lo)).toArray:=by
 obtain ⟨h1,h2,h3⟩:=slice_bounds lo hi its.toArray.size
 unfold slicePick
 rw [h1,h2,h3]
 simp only [sliceRange_one,pick_run,List.size_toArray] <;> rfl
noncomputable def rSlL (K:PySem.W.Frag):V→Option Int→Option Int→Hp→VK→Prop:=fun x lo hi H Q=>∃ a xs,x=.ref a∧SqL K H a xs∧∀ p,H p=none→Q (.ref p) (upd H p (.lst (cutV xs lo hi)))
theorem zCg:SlR X (rSlL X.K):=by
 intro pins s σ H x v vl vu lo hi sl Q I rx hs pl pu h
 obtain ⟨a,xs,rfl,hx,q⟩:=h
 cases rx
 obtain ⟨its,r,ht,hz⟩:=I.list hx
 have hlen:=r.length
 refine ⟨"list",_,slot_list_getitem.lookup,ht.isList.typeIs,?_⟩
 refine wpAny_getItem_list_slice ht.isList hs pl pu .none (by simp) ?_ (by rw [List.size_toArray] <;> omega)
 rw [zD7,← hlen]
 refine ⟨.ref s.heap.objs.size,_,I.laid (t':=s.toks) (o:=.lst (cutV xs lo hi)) (fun b ob q=>Heap.get?_push_of_some _ q) (Nat.le_refl _) ?_,rfl,q _ (I.hok.fresh (Nat.le_refl _))⟩
 exact ⟨Nat.le_trans (cutV_length xs lo hi) hz,_,0,(r.drop (HT.sIx xs.length 0 lo)).take (HT.sIx xs.length xs.length hi - HT.sIx xs.length 0 lo),Heap.get?_push_size _ rfl⟩
noncomputable def flatV:V→Bool
 | .non=>true
 | .bl _=>true
 | .int _=>true
 | .str _=>true
 | _=>false
noncomputable def eqV:V→V→Bool
 | .non,.non=>true
 | .bl a,.bl b=>a == b
 | .bl a,.int b=>(if a then 1 else 0) == b
 | .int a,.bl b=>a == (if b then 1 else 0)
 | .int a,.int b=>a == b
 | .str a,.str b=>a == b
 | _,_=>false
theorem eqAt_V {A:Around}{s:Shared}{y x:V}{u v:Value} (ry:RelV y u) (rx:RelV x v) (fy:flatV y=true) (fx:flatV x=true):SeqAt.EqAt A s u v (eqV y x):=by
 cases y with
 | non =>
  cases ry
  cases x with
  | non=>cases rx;exact SeqAt.EqAt.same _
  | bl b=>cases rx;exact SeqAt.EqAt.none_bool b
  | int b=>obtain ⟨t,rfl⟩:=rx;exact SeqAt.EqAt.none_int b t
  | str b=>obtain ⟨t,rfl⟩:=rx;exact SeqAt.EqAt.none_str b t
  | _=>exact absurd (show false=true from fx) Bool.false_ne_true
 | bl a =>
  cases ry
  cases x with
  | non=>cases rx;exact SeqAt.EqAt.bool_none a
  | bl b=>cases rx;exact SeqAt.EqAt.bool_bool a b
  | int b=>obtain ⟨t,rfl⟩:=rx;exact SeqAt.EqAt.bool_int a b t
  | str b=>obtain ⟨t,rfl⟩:=rx;exact SeqAt.EqAt.bool_str a b t
  | _=>exact absurd (show false=true from fx) Bool.false_ne_true
 | int a =>
  obtain ⟨t',rfl⟩:=ry
  cases x with
  | non=>cases rx;exact SeqAt.EqAt.int_none a t'
  | bl b=>cases rx;exact SeqAt.EqAt.int_bool a t' b
  | int b=>obtain ⟨t,rfl⟩:=rx;exact SeqAt.EqAt.int_int a t' b t
  | str b=>obtain ⟨t,rfl⟩:=rx;exact SeqAt.EqAt.int_str a t' b t
  | _=>exact absurd (show false=true from fx) Bool.false_ne_true
 | str a =>
  obtain ⟨t',rfl⟩:=ry
  cases x with
  | non=>cases rx;exact SeqAt.EqAt.str_none a t'
  | bl b=>cases rx;exact SeqAt.EqAt.str_bool a t' b
  | int b=>obtain ⟨t,rfl⟩:=rx;exact SeqAt.EqAt.str_int a t' b t
  | str b=>obtain ⟨t,rfl⟩:=rx;exact SeqAt.EqAt.str_str a t' b t
  | _=>exact absurd (show false=true from fx) Bool.false_ne_true
 | _=>exact absurd (show false=true from fy) Bool.false_ne_true
noncomputable def eqU (x:V) (u:Value):Bool:=match u with
 | .none=>eqV .non x
 | .bool b=>eqV (.bl b) x
 | .int i _=>eqV (.int i) x
 | .str z _=>eqV (.str z) x
 | _=>false
theorem eqU_of {x y:V}{u:Value} (r:RelV y u) (f:flatV y=true):eqU x u=eqV y x:=by
 cases y with
 | non=>cases r;rfl
 | bl b=>cases r;rfl
 | int i=>obtain ⟨t,rfl⟩:=r;rfl
 | str z=>obtain ⟨t,rfl⟩:=r;rfl
 | _=>exact absurd (show false=true from f) Bool.false_ne_true
theorem any_eqU {x:V}:∀ {xs:List V}{us:List Value},Vals xs us→xs.all flatV=true→us.any (eqU x)=xs.any fun y=>eqV y x
 | _,_,.nil,_=>rfl
 | y :: xs,u :: us,.cons r t,f=>by
  rw [List.all_cons,Bool.and_eq_true] at f
  rw [List.any_cons,List.any_cons,eqU_of r f.1,any_eqU t f.2]
theorem zDh {A:Around}{s:Shared}{x:V}{v:Value} (rx:RelV x v) (fx:flatV x=true):∀ {xs:List V}{us:List Value},Vals xs us→xs.all flatV=true→∀ u∈us,SeqAt.EqAt A s u v (eqU x u)
 | _,_,.nil,_=>fun u hu=>by cases hu
 | y :: xs,u :: us,.cons r t,f=>fun u' hu=>by
  rw [List.all_cons,Bool.and_eq_true] at f
  rcases List.mem_cons.mp hu with rfl | hu
  ·rw [eqU_of r f.1];exact eqAt_V r rx f.1 fx
  ·exact zDh rx fx t f.2 u' hu
noncomputable def inV (x:V) (xs:List V):Bool:=xs.any fun y=>eqV y x
noncomputable def rIn (K:PySem.W.Frag) (neg:Bool):R2:=fun x y H Q=>∃ p xs,y=.ref p∧(SqL K H p xs∨SqT K H p xs)∧flatV x=true∧xs.all flatV=true∧Q (.bl (if neg then !inV x xs else inV x xs)) H
theorem op_in_seq:OpR X (compareOp .In) (rIn X.K false):=by
 intro pins s σ H x y v u Q I rx ry h
 obtain ⟨p,xs,rfl,hq,fx,fs,q⟩:=h
 cases ry
 rcases hq with hq | hq
 ·obtain ⟨its,r,pl,hz⟩:=I.list hq
  refine SeqAt.in_listAt (eqU x) pl.isList (fun w hw=>zDh rx fx r fs w (by simpa using hw)) ⟨.bl _,H,I,rfl,?_⟩
  rw [show its.toArray.any (eqU x)=its.any (eqU x) by simp,any_eqU r fs]
  exact q
 ·obtain ⟨its,r,pl,hz⟩:=I.tuple hq
  refine SeqAt.in_tupleAt (eqU x) pl (fun w hw=>zDh rx fx r fs w (by simpa using hw)) ⟨.bl _,H,I,rfl,?_⟩
  rw [show its.toArray.any (eqU x)=its.any (eqU x) by simp,any_eqU r fs]
  exact q
theorem zB4:CallR X (.builtin "len") (fun xs H Q=>∃ p ys,xs=[.ref p]∧(SqL X.K H p ys∨SqT X.K H p ys)∧Q (.int ys.length) H):=by
 intro pins s σ H xs us Q I r h
 obtain ⟨p,ys,rfl,hq,q⟩:=h
 obtain ⟨u,rfl,rx⟩:=vals1 r
 cases rx
 have hn:=line63
 rcases hq with hq | hq
 ·obtain ⟨its,r',pl,hz⟩:=I.list hq
  have hlen:=r'.length
  exact Calls.call_len_list pl.isList (by simp only [List.size_toArray] <;> omega) ⟨.int ys.length,H,I.tok _,⟨s.toks + 1,by rw [List.size_toArray,hlen]⟩,q⟩
 ·obtain ⟨its,r',pl,hz⟩:=I.tuple hq
  have hlen:=r'.length
  exact len_tuple pl (by simp only [List.size_toArray] <;> omega) ⟨.int ys.length,H,I.tok _,⟨s.toks + 1,by rw [List.size_toArray,hlen]⟩,q⟩
theorem zBg:CallR X (.builtin "len") (fun xs H Q=>∃ z,xs=[.str z]∧z.length≤sizeLine∧Q (.int z.length) H):=by
 intro pins s σ H xs us Q I r h
 obtain ⟨z,rfl,hz,q⟩:=h
 obtain ⟨u,rfl,t,rfl⟩:=vals1 r
 have hn:=line63
 exact len_str (by omega) ⟨.int z.length,H,I.tok _,⟨_,rfl⟩,q⟩
theorem zBa:CallR X (.type "tuple") (fun xs H Q=>∃ p ys,xs=[.ref p]∧((SqL X.K H p ys∧∀ l,H l=none→Q (.ref l) (upd H l (.tup ys)))∨(SqT X.K H p ys∧Q (.ref p) H))):=by
 intro pins s σ H xs us Q I r h
 obtain ⟨p,ys,rfl,h⟩:=h
 obtain ⟨u,rfl,rx⟩:=vals1 r
 cases rx
 rcases h with ⟨hq,q⟩ | ⟨hq,q⟩
 ·obtain ⟨its,r',pl,hz⟩:=I.list hq
  have hlen:=r'.length
  refine call_tuple_list pl.isList (fun h' kp=>?_) (by simp only [List.size_toArray] <;> omega)
  have I1:Inv X pins σ H { s with heap:=h' }:=I.kept (t':=s.toks) kp
  have I2:Inv X pins σ (upd H h'.objs.size (.tup ys)) { s with heap:=h'.push { cls:=.type "tuple",data:=.seq its.toArray } } :=
   I1.laid (t':=s.toks) (fun b o e=>Heap.get?_push_of_some _ e) (Nat.le_refl _) (show ObjOk X.prog X.w _ _ _ (.tup ys) from ⟨hz,its,r',IsTup.new _ _⟩)
  exact ⟨.ref h'.objs.size,_,I2,rfl,q _ (I1.hok.fresh (Nat.le_refl _))⟩
 ·obtain ⟨its,r',pl,hz⟩:=I.tuple hq
  exact call_tuple_same pl ⟨.ref p,H,I,rfl,q⟩
noncomputable def tyV (K:PySem.W.Frag) (T:String) (x:V) (H:Hp):Prop:=match x with
 | .str _=>T = "str"
 | .int _=>T = "int"
 | .ref p=>(T = "list"∧∃ xs,SqL K H p xs)∨(T = "tuple"∧∃ o,K.lookup p=some o∧o.cls=.type "tuple"∧o.dict=none) ∨
   (T = "dict"∧((∃ kvs,H p=some (.dK kvs))∨∃ kvs,H p=some (.dT kvs)))∨(T = "set"∧∃ S n,H p=some (.set S n))
 | _=>False
theorem tyV_is {pins:List (Addr×Obj)}{σ : St}{H:Hp}{s:Shared}{T:String}{x:V}{v:Value} (I:Inv X pins σ H s) (r:RelV x v) (ty:tyV X.K T x H) :
  s.TypeIs v T∧∀ a,v=.ref a→∃ ob,s.heap.get? a=some ob∧ob.dict=none:=by
 cases x with
 | str z =>
  obtain ⟨t,rfl⟩:=r
  cases (show T = "str" from ty)
  exact ⟨typeIs_str s z t,fun _ e=>nomatch e⟩
 | int i =>
  obtain ⟨t,rfl⟩:=r
  cases (show T = "int" from ty)
  exact ⟨typeIs_int s i t,fun _ e=>nomatch e⟩
 | ref p =>
  cases r
  rcases ty with ⟨rfl,xs,hq⟩ | ⟨rfl,o,hk,hc,hd⟩ | ⟨rfl,hk⟩ | ⟨rfl,S,n,hk⟩
  ·obtain ⟨its,_,pl,_⟩:=I.list hq
   refine ⟨pl.isList.typeIs,fun a e=>?_⟩
   cases e
   obtain ⟨o,n,e,c,hd,_⟩:=pl
   exact ⟨o,e,hd⟩
  ·refine ⟨⟨o,I.kIn p o hk,hc⟩,fun a e=>?_⟩
   cases e
   exact ⟨o,I.kIn _ o hk,hd⟩
  ·have z:∃ o,s.heap.get? p=some o∧o.ExactDict:=by
    rcases hk with ⟨kvs,hk⟩ | ⟨kvs,hk⟩
    ·obtain ⟨_,_,_,_,o,_,_,e,ex,_⟩:=I.hok p _ hk
     exact ⟨o,e,ex⟩
    ·obtain ⟨_,_,_,_,o,_,_,e,ex,_⟩:=I.hok p _ hk
     exact ⟨o,e,ex⟩
   obtain ⟨o,e,ex⟩:=z
   refine ⟨⟨o,e,ex.1⟩,fun a e2=>?_⟩
   cases e2
   exact ⟨o,e,ex.2.1⟩
  ·obtain ⟨o,_,_,_,e,ex,_⟩:=I.hok p _ hk
   refine ⟨⟨o,e,ex.1⟩,fun a e2=>?_⟩
   cases e2
   exact ⟨o,e,ex.2.1⟩
 | _=>exact False.elim ty
noncomputable def tBM (K:PySem.W.Frag) (T:String) (r:V→List V→Hp→VK→Prop) (to:TE) (t:TA):TE:=fun σ H Q=>to σ H fun x H1=>tyV K T x H1∧t σ H1 fun xs H2=>r x xs H2 Q
variable {o e:Expr}{es:List Expr}{to:TE}{t:TA}{name:Str}{apos cpos:Pos}{T id:String}{r:V→List V→Hp→VK→Prop}
theorem zBr (pa:PlainAttrs T) (slot:Slot T name id) (hty:typeOf (.builtin id)=pure (.type "method_descriptor")) (hm:MtR X id r) (ho:PE X o to) (ha:PA X (e :: es) t)
  (hbase:attributeBase o name X.env (eval o X.env)=eval o X.env:=by rfl)
  (hfew:((backTo cpos (starEach (e :: es) X.env)).all (fun x=>!x.1) && (backToKw cpos (keywordEach [] X.env)).all (fun x=>x.1.isSome)
   && decide ((e :: es).length + ([]:List Keyword).length + (if ([]:List Keyword).isEmpty then 0 else 1) < 30))=true:=by rfl)
  (hline:(apos.endLine == cpos.line)=true:=by rfl) (hs:starEach (e :: es) X.env=(false,eval e X.env) :: starEach es X.env:=by rfl) (hplain:(backTo cpos (starEach es X.env)).any (·.1)=false:=by rfl) :
  PE X (.Call (.Attribute o name apos) (e :: es) [] cpos) (tBM X.K T r to t):=by
 intro pins s σ H Q I h
 refine wpAny_Call_method_late hbase hfew hline rfl (thn (ho pins s σ H _ I h) fun v s1 ⟨x,H1,I1,r1,ty,q1⟩=>?_)
 obtain ⟨h1,h2⟩:=tyV_is I1 r1 ty
 refine ⟨T,id,pa,slot,hty,h1,h2,?_⟩
 have hA:=ha cpos pins s1 σ H1 _ I1 q1
 rw [hs] at hA ⊢
 refine Calls.callWith_builtin (by show (false || (backTo cpos (starEach es X.env)).any (·.1))=false;rw [hplain] <;> rfl) (Calls.evalArgs_plain ?_)
 exact thn hA fun us s2 ⟨vs,H2,I2,r2,q2⟩=>hm pins s2 σ H2 x vs v us Q I2 r1 r2 q2
end
end L2
namespace L2
open PySem PySem.Spec PyProof.Rows
noncomputable def MtM (X:Cx) (id:String) (r:V→List V→Hp→VK→Prop):Prop :=
 ∀ (pins:List (Addr×Obj)) (s:Shared) (σ : St) (H:Hp) (x:V) (xs:List V) (v:Value) (us:List Value) (Q:VK),Inv X pins σ H s→RelV x v→Vals xs us→r x xs H Q →
  wpAny (model X.prog X.w) X.A (call (.builtin id) (v :: us)) (EP X pins σ Q) X.xe s
theorem Vals.one:∀ {x:V}{us:List Value},Vals [x] us→∃ u,us=[u]∧RelV x u
 | _,_,.cons r .nil=>⟨_,rfl,r⟩
theorem Vals.dropLast {xs:List V}{us:List Value} (h:Vals xs us):Vals xs.dropLast us.dropLast:=by
 induction h with
 | nil=>exact .nil
 | cons r t ih =>
  cases t with
  | nil=>exact .nil
  | cons q t'=>exact .cons r ih
theorem Vals.eraseIdx:∀ {xs:List V}{us:List Value} (i:Nat),Vals xs us→Vals (xs.eraseIdx i) (us.eraseIdx i)
 | _,_,_,.nil=>.nil
 | _,_,0,.cons _ t=>t
 | _,_,i + 1,.cons r t=>.cons r (Vals.eraseIdx i t)
theorem erase_last {α : Type} (l:List α):l.eraseIdx (l.length - 1)=l.dropLast:=by
 induction l with
 | nil=>rfl
 | cons a r ih =>
  cases r with
  | nil=>rfl
  | cons b r =>
   have e:(a :: b :: r).length - 1=((b :: r).length - 1) + 1:=by
    have h1:(a :: b :: r).length=r.length + 2:=rfl
    have h2:(b :: r).length=r.length + 1:=rfl
    omega
   rw [e,List.eraseIdx_cons_succ,ih]
   all_goals rfl
section
variable {X:Cx}{pins:List (Addr×Obj)}{σ : St}{H:Hp}{s:Shared}{l b:Addr}{xs ys zs:List V}
theorem Inv.lset {its its':List Value}{n:Nat}{f:Array Value→Array Value}{t':Nat} (I:Inv X pins σ H s) (hH:H l=some (.lst xs))
  (e:s.heap.get? l=some { cls:=.type "list",data:=.seq its.toArray n }) (hf:f its.toArray=its'.toArray) (hv:Vals ys its') (hz:ys.length≤sizeLine) :
  Inv X pins σ (upd H l (.lst ys)) { s with heap:=s.heap.update l (Obj.mapSeq f),toks:=t' }:=by
 have q:=PySem.IsL.update e f
 rw [hf] at q
 refine I.write (x:=l) (e:=l) (by rw [hH];exact trivial) (.inl rfl) (fun b' u hb hu=>(Heap.get?_update_other s.heap (Obj.mapSeq f) (Ne.symm hb)).trans hu) ⟨_,q⟩ ?_
 exact ⟨hz,its',_,hv,q⟩
theorem Inv.lnew {its:List Value}{t':Nat} (I:Inv X pins σ H s) (hv:Vals ys its) (hz:ys.length≤sizeLine) :
  Inv X pins σ (upd H s.heap.objs.size (.lst ys)) { s with heap:=s.heap.push { cls:=.type "list",data:=.seq its.toArray },toks:=t' } :=
 I.laid (fun _ _ q=>Heap.get?_push_of_some _ q) (Nat.le_refl _) ⟨hz,its,0,hv,Heap.get?_push_size _ rfl⟩
theorem Inv.fresh (I:Inv X pins σ H s):H s.heap.objs.size=none:=I.hok.fresh (Nat.le_refl _)
theorem Inv.lstM (I:Inv X pins σ H s) (hH:H l=some (.lst xs)):xs.length≤sizeLine∧∃ (its:List Value) (n:Nat),Vals xs its∧xs.length=its.length∧s.heap.get? l=some { cls:=.type "list",data:=.seq its.toArray n }:=by
 obtain ⟨z,its,n,r,e⟩:=I.hok l _ hH
 exact ⟨z,its,n,r,r.length,e⟩
theorem notLongL {n:Nat} (h:n≤sizeLine):Builtin.List.listTooLong n=false:=by
 unfold Builtin.List.listTooLong
 exact decide_eq_false (by omega)
end
section
variable {X:Cx}
noncomputable def rAppend:V→List V→Hp→VK→Prop:=fun x vs H Q=>∃ l xs y,x=.ref l∧vs=[y]∧H l=some (.lst xs)∧xs.length < sizeLine∧Q .non (upd H l (.lst (xs++[y])))
theorem zB2:MtM X "list.append" rAppend:=by
 intro pins s σ H x vs v us Q I rx rv h
 obtain ⟨l,xs,y,rfl,rfl,hH,hz,q⟩:=h
 cases rx
 obtain ⟨u,rfl,ru⟩:=rv.one
 obtain ⟨z,its,n,r,hl,e⟩:=I.lstM hH
 refine call_meets F.slot_list_append ⟨_,e,rfl⟩ F.entry_list_append (F.args_list_append_2 _ _) (PySem.list_append l its.toArray n u (by rw [List.size_toArray];omega)) ⟨e,?_⟩
 refine ⟨.non,_,I.lset (its':=its++[u]) hH e (by simp) (r.append (.cons ru .nil)) ?_,rfl,q⟩
 rw [List.length_append,List.length_singleton]
 omega
noncomputable def rExtend:V→List V→Hp→VK→Prop:=fun x vs H Q=>∃ l b xs zs,x=.ref l∧vs=[.ref b]∧H l=some (.lst xs)∧H b=some (.lst zs)∧xs.length + zs.length≤sizeLine∧Q .non (upd H l (.lst (xs++zs)))
theorem mt_extend:MtM X "list.extend" rExtend:=by
 intro pins s σ H x vs v us Q I rx rv h
 obtain ⟨l,b,xs,zs,rfl,rfl,hH,hB,hz,q⟩:=h
 cases rx
 obtain ⟨u,rfl,ru⟩:=rv.one
 cases ru
 obtain ⟨z,its,n,r,hl,e⟩:=I.lstM hH
 obtain ⟨z2,its2,n2,r2,hl2,e2⟩:=I.lstM hB
 have hsz:its.toArray.size + its2.toArray.size≤sizeLine:=by rw [List.size_toArray,List.size_toArray];omega
 have hlong:¬ (!its.toArray.isEmpty && Builtin.List.listTooLong (its.toArray.size + its2.toArray.size))=true:=by
  rw [notLongL hsz,Bool.and_false]
  exact Bool.false_ne_true
 refine call_meets F.slot_list_extend ⟨_,e,rfl⟩ F.entry_list_extend (F.args_list_extend_2 _ _)
  (AutoSeq1.list_extend_list_list_0 l its.toArray n b its2.toArray n2 hlong (by rw [List.size_toArray];omega) (by omega)) ⟨e,e2,?_⟩
 refine ⟨.non,_,I.lset (its':=its++its2) hH e (by simp) (r.append r2) ?_,rfl,q⟩
 rw [List.length_append]
 omega
noncomputable def rCat:R2:=fun x y H Q=>∃ l b xs zs,x=.ref l∧y=.ref b∧H l=some (.lst xs)∧H b=some (.lst zs)∧xs.length + zs.length≤sizeLine∧∀ p,H p=none→Q (.ref p) (upd H p (.lst (xs++zs)))
theorem zBl:OpR X (binaryOp .Add) rCat:=by
 intro pins s σ H x y v u Q I rx ry h
 obtain ⟨l,b,xs,zs,rfl,rfl,hH,hB,hz,q⟩:=h
 cases rx
 cases ry
 obtain ⟨z,its,n,r,hl,e⟩:=I.lstM hH
 obtain ⟨z2,its2,n2,r2,hl2,e2⟩:=I.lstM hB
 refine PySem.P.add_list e e2 ?_ (by rw [List.size_toArray,List.size_toArray];omega)
 have ea:its.toArray++its2.toArray=(its++its2).toArray:=by simp
 rw [ea]
 exact ⟨.ref _,_,I.lnew (t':=s.toks) (r.append r2) (by rw [List.length_append];omega),rfl,q _ I.fresh⟩
end
section
variable {prog:Program}{w:World}{A:Around}{E:Value→Shared→Prop}{s:Shared}
set_option maxRecDepth 100000 in
end
section
variable {X:Cx}
end
end L2
namespace Att
open PySem PySem.W PySem.Calls PyProof.Rows
theorem zCq {P:Params}{h:Heap}:∀ (ns:List Int) (vs:List Value),WellAll P h vs (ns.map WData.int)→IntsAre vs ns:=by
 intro ns
 induction ns with
 | nil =>
  intro vs w
  rw [List.map_nil] at w
  cases w
  exact .nil
 | cons n ns ih =>
  intro vs w
  rw [List.map_cons] at w
  cases w with
  | cons a b =>
   cases a
   exact .cons _ _ (ih _ b)
theorem script_of {l:OpenLaw}{n:Nat} (hn:l.most=some n) {P:Params}{h:Heap}{args:List WData}{vals:List Value}
  (hpre:l.row.toRowW.claim.pre args=true) (hwl:WellAll P h vals args) :
  ∃ a vs ns,vals=[Value.ref a]∧args=[WData.list (ns.map WData.int)]∧h.get? a=some { cls:=.type "list",data:=.seq vs.toArray }∧IntsAre vs ns∧ns.length≤n:=by
 have hsh:WShape.hasAll [] args [.list .int]=true:=(pre_splitW hpre).1
 have hc:l.pre.holds [] { args:=args }=true:=(pre_splitW hpre).2
 obtain ⟨d,r,rfl,h1,h2⟩:=hasAllW_cons hsh
 obtain rfl:=hasAllW_nil h2
 obtain ⟨xs,rfl,h3⟩:=hasW_list h1
 obtain ⟨ns,rfl⟩:=items_int h3
 have hlen:ns.length≤n:=by
  unfold OpenLaw.pre at hc
  have h4:(WTm.not (.lt (.lit (.int (n:Int))) (.len (.arg 0)))).holds [] { args:=[.list (ns.map .int)] }=true:=by
   have h4:=(holds_andW hc).1
   rw [hn] at h4
   exact h4
  have h5:=condW_of h4 (w_not (w_lt w_lit (w_len_list (w_arg rfl))))
  rw [List.length_map] at h5
  refine Nat.le_of_not_lt fun q=>?_
  have q':(n:Int) < ((ns.length:Nat):Int):=by omega
  first
   | (rw [decide_eq_true q'] at h5;exact absurd h5 (by decide))
   | (simp at h5;omega)
 cases hwl with
 | cons w1 w2 =>
  cases w2
  cases w1 with
  | list ho hall=>exact ⟨_,_,ns,rfl,rfl,ho,zCq ns _ hall,hlen⟩
theorem post_true (l:OpenLaw) (args:List WData):l.row.toRowW.claim.post args (.bool true) args=true :=
 postW_of (r:=l.row.toRowW) (X:=(true == true))
  (show WShape.has [] (.bool true) .bool=true by first | rfl | decide | simp [WShape.has,WShape.arms,WShape.armsAll])
  (show (WTm.eq .res (.lit (.bool true))).value [] { args:=args,res:=some (.bool true),after:=args }=some (.bool (true == true)) from w_eq_bool (w_res rfl) w_lit) rfl
theorem attach_call {l:OpenLaw}{n:Nat}{q:Program}{loose:List Str}{XP:(Str→Option Value)→Heap→Prop}{YP:World→Heap→Prop}{d:DefRec}
  (hn:l.most=some n) (hdf:d.params.defaults=[])
  (call:∀ (w:World) (s₀ s₁ : Shared) (mg mb:Str→Option Value) (fa:Addr) (o:Obj) (pm cd doc:Value) (a:Addr) (vs:List Value) (ns:List Int),
   Ground q loose [] XP w s₀ mg mb s₁.heap→YP w s₁.heap →
   s₁.heap.get? fa=some o→o.data=.func (docDef d.name d.params d.body d.scope pm cd doc)→s₁.heap.CodeRec cd d.name→mg d.name=some (.ref fa) →
   s₁.heap.get? a=some { cls:=.type "list",data:=.seq vs.toArray }→IntsAre vs ns→ns.length≤n→s₁.gens = #[] →
   codeAny (model l.prog w) callerA (.call (.ref fa) ⟨[.ref a],[]⟩) (fun r s'=>r=.ok (.ret (.bool true))∧OldK s₁.heap s'.heap∧s'.os=s₁.os∧AllBare s'.gens) s₁) :
  WalkO q loose XP YP l.row.toRowW d [] (fun f vs=>PySem.call f vs):=by
 intro w s₀ s₁ mg mb G Y fa o pm cd doc dV kV ho hd hcd hD hmg hg args vals as hpre hlay hrd hwl hlo
 obtain rfl:dV=.none:=Dflts.none hD hdf
 obtain rfl:kV=.none:=Dflts.noKw hD
 obtain ⟨a,vs,ns,rfl,rfl,hobj,hints,hlen⟩:=script_of hn hpre hwl
 refine enter_call (codeAny_mono (call w s₀ s₁ mg mb fa o pm cd doc a vs ns G Y ho (fd_plain hd) hcd hmg hobj hints hlen hg) fun r s' hq=>?_)
 obtain ⟨rfl,h2,h3,h4⟩:=hq
 exact ⟨.inl ⟨.bool true,.bool true,[],rfl,fun _=>rfl,.bool true,post_true l _,fun _=>⟨List.Pairwise.nil,fun _ hm=>(nomatch hm)⟩⟩,h2,h3,h4⟩
section
variable {prog:Program}{w:World}{A:Around}{E:Value→Shared→Prop}{s:Shared}{K:Frag}
noncomputable def ledger (h:Heap) (L d:Addr):List (Addr×Obj):=(List.range h.objs.size).filterMap fun a=>if a=L∨a=d then none else (h.get? a).map fun o=>(a,o)
end
end Att
namespace L2
open PySem PySem.Spec PyProof.Rows
theorem vals_ints:∀ {vs:List Value}{ns:List Int},IntsAre vs ns→Vals (ns.map V.int) vs
 | _,_,.nil=>.nil
 | _,_,.cons n t h=>.cons ⟨t,rfl⟩ (vals_ints h)
noncomputable def Only (H:Hp):Prop:=∀ b,H b=none∨∃ o xs,H b=some (.frz o (.lst xs))
theorem law_call {P:Program}{w:World}{K:PySem.W.Frag}{mg mb:Str→Option Value}{CX:CXT}{k:Nat}{fa a:Addr}{fd:FuncData}{x:Str}{sp:Sp}{s₁ : Shared}{vs:List Value}{ns:List Int}
  (KX:K.In s₁.heap) (hns:s₁.heap.Ns mainGlobals mg) (hb:s₁.heap.Ns builtinsNs mb) (hbb:∀ x:Str,x≠"__name__"→mb x=bootBuiltins x) (hlim:s₁.heap.NoLimit) (hg:s₁.gens = #[])
  (ha:s₁.heap.get? a=some { cls:=.type "list",data:=.seq vs.toArray }) (hi:IntsAre vs ns) (hl:ns.length≤sizeLine) (hr:Room k callerA)
  (F:∀ base:Heap,K.In base→base.Ns mainGlobals mg→FnOk P w K mg base CX k fa fd [x] sp) (hbind:∀ (s:Shared) (u:Value),BindsTo s fd ⟨[u],[]⟩ [(x,u)])
  (hsp:∀ H:Hp,Only H→SqL K H a (ns.map V.int)→sp [.ref a] H (fun v _=>v=.bl true) fun _ _ _=>False)
  (hCX:∀ H e s',CX [] H s₁ (fun _ _ _=>False) e s'→False) :
  codeAny (model P w) callerA (.call (.ref fa) ⟨[.ref a],[]⟩) (fun r s'=>r=.ok (.ret (.bool true))∧OldK s₁.heap s'.heap∧s'.os=s₁.os∧AllBare s'.gens) s₁:=by
 have rv:=vals_ints hi
 have lenV:=hi.length
 have core:∀ H:Hp,Only H→SqL K H a (ns.map V.int)→HOk P w H s₁.heap→(∀ b,H b≠none→b=a)→(H a≠none→K.lookup a=none) →
   codeAny (model P w) callerA (.call (.ref fa) ⟨[.ref a],[]⟩) (fun r s'=>r=.ok (.ret (.bool true))∧OldK s₁.heap s'.heap∧s'.os=s₁.os∧AllBare s'.gens) s₁:=by
  intro H hO hS hok hA hK
  have base_of:∀ {b:Addr}{o:Obj},s₁.heap.get? b=some o→H b=none→(hidT s₁.heap H).get? b=some o:=fun e n=>hidT_get e n
  have noA:∀ {b:Addr}{o:Obj}{es:Array DictEntry}{ep:Nat},s₁.heap.get? b=some o→o.data=.dict es ep→H b=none:=fun {b o es ep} e d=>by
   cases q:H b with
   | none=>rfl
   | some u =>
    have e':b=a:=hA b (by rw [q];simp)
    subst e'
    rw [ha] at e;cases e
    have d':Data.seq vs.toArray _=Data.dict es ep:=d
    cases d'
  have nsK:∀ {b:Addr}{m:Str→Option Value},s₁.heap.Ns b m→(hidT s₁.heap H).Ns b m:=fun {b m} ⟨o,es,ep,e,d,r⟩=>⟨o,es,ep,base_of e (noA e d),d,r⟩
  have hKb:K.In (hidT s₁.heap H):=fun b o e=>base_of (KX b o e) (by
   cases q:H b with
   | none=>rfl
   | some u =>
    have e':b=a:=hA b (by rw [q];simp)
    subst e'
    rw [hK (by rw [q];simp)] at e;cases e)
  have hM:Mod K mg (hidT s₁.heap H):=⟨hKb,nsK hns,⟨mb,nsK hb,hbb⟩,let ⟨mc,h1,h2⟩:=hlim;⟨mc,nsK h1,h2⟩⟩
  have e0:Env0 P w K mg (hidT s₁.heap H) callerA [] s₁ H:=⟨rfl,hM,fun b o e=>of_hidT e,Nat.le_of_eq (hidT_size _ _),trivial,fun b hb=>absurd (show b∈([]:List Addr) from hb) (by simp),hok,.of_eq hg⟩
  refine codeAny_mono ((F _ hKb (nsK hns)).run callerA [] s₁ H ⟨[.ref a],[]⟩ [.ref a] [.ref a] _ _ hr e0 (hbind s₁ (.ref a)) (.cons rfl .nil) (hsp H hO hS)) fun r s' h=>?_
  cases r with
  | error e=>exact (hCX H e s' h).elim
  | ok fl =>
   cases fl with
   | next=>exact False.elim h
   | brk=>exact False.elim h
   | cont=>exact False.elim h
   | ret u =>
    obtain ⟨v,H',os,bare,un,hok',r',q⟩:=h
    have q':v=.bl true:=q
    subst q'
    obtain rfl:u=Value.bool true:=r'
    refine ⟨rfl,OldK.of_keep fun b o e=>?_,os,bare⟩
    cases q:H b with
    | none=>exact un.keep b o e q (by intro z;exact absurd (show b∈([]:List Addr) from z) (by simp)) (by simp)
    | some u =>
     rcases hO b with z | ⟨ob,xs,z⟩
     ·rw [q] at z;cases z
     ·have z2:=un.frzs b ob _ z
      obtain ⟨e1,_⟩:=hok b _ z
      obtain ⟨e2,_⟩:=hok' b _ z2
      rw [e] at e1;cases e1
      exact e2
 cases hk:K.lookup a with
 | some o =>
  have e:=KX a o hk
  rw [ha] at e
  cases e
  refine core (fun _=>none) (fun _=>.inl rfl) (.inr ⟨_,vs.toArray,_,hk,rfl,rfl,rfl,by rw [List.size_toArray,lenV];exact hl,by simpa using rv⟩) (fun b u z=>by have z':(none:Option HO)=some u:=z;cases z') (fun b z=>absurd rfl z) fun z=>absurd rfl z
 | none =>
  refine core (fun b=>if b=a then some (.frz { cls:=.type "list",data:=.seq vs.toArray } (.lst (ns.map V.int))) else none) (fun b=>?_) (.inl (.inr ⟨{ cls:=.type "list",data:=.seq vs.toArray },if_pos rfl⟩)) (fun b u z=>?_) (fun b z=>?_) fun _=>hk
  ·by_cases hb:b=a
   ·exact .inr ⟨_,_,if_pos hb⟩
   ·exact .inl (if_neg hb)
  ·by_cases hb:b=a
   ·have z':=(if_pos hb).symm.trans z
    cases z'
    subst hb
    exact ⟨ha,by rw [List.length_map];exact hl,vs,_,rv,ha⟩
   ·have z':=(if_neg hb).symm.trans z
    cases z'
  ·by_cases hb:b=a
   ·exact hb
   ·exact absurd (if_neg hb) z
end L2
namespace L2
open PySem PySem.Spec PyProof.Rows
noncomputable abbrev KOf {K:PySem.W.Frag}{h:Heap} (_:K.In h):PySem.W.Frag:=K
theorem walk_of {l:PySem.W.OpenLaw}{n k:Nat}{q:Program}{loose:List Str}{XP:(Str→Option Value)→Heap→Prop}{YP:World→Heap→Prop}{d:DefRec}{K:Params→PySem.W.Frag}{CX:World→CXT}{sp:World→Sp}{x:Str}
  (hn:l.most=some n) (hn2:n≤sizeLine) (hdf:d.params.defaults=[]) (hr:Room k callerA)
  (hY:∀ (w:World) (h:Heap),YP w h→(K w.params).In h)
  (F:∀ (w:World) (mg:Str→Option Value) (fa:Addr) (h:Heap),(K w.params).In h→h.Ns mainGlobals mg→mg d.name=some (.ref fa) →
   ∃ fd:FuncData,(∀ (s:Shared) (u:Value),BindsTo s fd ⟨[u],[]⟩ [(x,u)]) ∧
    ∀ base:Heap,(K w.params).In base→base.Ns mainGlobals mg→FnOk l.prog w (K w.params) mg base (CX w) k fa fd [x] (sp w))
  (hsp:∀ (w:World) (H:Hp) (a:Addr) (ns:List Int),ns.length≤n→Only H→SqL (K w.params) H a (ns.map V.int)→sp w [.ref a] H (fun v _=>v=.bl true) fun _ _ _=>False)
  (hCX:∀ (w:World) (H:Hp) (s:Shared) (e:Value) (s':Shared),CX w [] H s (fun _ _ _=>False) e s'→False) :
  PySem.W.WalkO q loose XP YP l.row.toRowW d [] (fun f vs=>PySem.call f vs):=by
 refine Att.attach_call hn hdf fun w s₀ s₁ mg mb fa o pm cd doc a vs ns G Y ho hd hcd hmg hobj hints hlen hg=>?_
 have KX:=hY w _ Y
 obtain ⟨fd,hb,hF⟩:=F w mg fa _ KX G.T.g hmg
 exact law_call KX G.T.g G.T.b G.T.builtins G.T.nolimit hg hobj hints (Nat.le_trans hlen hn2) hr hF hb (fun H hO hS=>hsp w H a ns hlen hO hS) fun H e s'=>hCX w H s₁ e s'
end L2
namespace L2
open PySem PySem.Spec PyProof.Rows
noncomputable def inClass (s:Stmt) (j:Nat):Stmt:=match s with
 | .ClassDef _ _ _ body _ _ _ _ _ _ _=>body.getD j (.Pass ⟨0,0,0,0⟩)
 | _=>.Pass ⟨0,0,0,0⟩
noncomputable def defArgs (s:Stmt):Arguments:=match s with
 | .FunctionDef _ a _ _ _ _ _ _ _ _=>a
 | _=>{ posonlyargs:=[],args:=[],vararg:=none,kwonlyargs:=[],kw_defaults:=[],kwarg:=none,defaults:=[] }
noncomputable def defBody (s:Stmt):List Stmt:=match s with
 | .FunctionDef _ _ b _ _ _ _ _ _ _=>b
 | _=>[]
noncomputable def defScope (s:Stmt):Scope:=match s with
 | .FunctionDef _ _ _ _ _ _ sc _ _ _=>sc
 | _=>{ kind:=.function,names:=[],isGenerator:=false,isCoroutine:=false }
noncomputable abbrev CX0:CXT:=fun _ _ _ _ _ _=>False
noncomputable abbrev E0:St→XK:=fun _ _ _ _=>False
structure Fun (K:PySem.W.Frag) (x qual:Str) (st:Stmt) (f:Addr) (fd:FuncData):Prop where
 ex:∃ (oc:Value) (od:Option Addr) (kV doc pm:Value) (an:Option Addr) (cdv ct:Value) (osl:Array (Option Value)),
  fd=PySem.W.fnOf x qual (defArgs st) (defBody st) (defScope st) .none kV doc pm an cdv ct∧K.lookup f=some ⟨oc,od,.func fd,osl⟩∧PySem.W.codeIn K cdv qual=true
 kp:PySem.W.keepIn K (.ref f)=true
section
variable {P:Program}{w:World}{K:PySem.W.Frag}{mg:Str→Option Value}{base:Heap}
theorem Fun.ok {x qual:Str}{st:Stmt}{f:Addr}{fd:FuncData}{N ps:List Str}{k:Nat}{sp:Sp} (F:Fun K x qual st f fd) (S:FnScope N ps (defScope st)) (len:∀ vs H Q E,sp vs H Q E→vs.length=ps.length)
  (hbody:∀ (cdv:Value) (A:Around) (outer:List Env) (s:Shared) (H:Hp) (vs:List V) (Q:VK) (E:XK),Room k (A.deeper (envOfC qual (defScope st) s.heap.objs.size f cdv))→sp vs H Q E →
   ∃ t,PSs (cxOf CX0 P w K mg base N qual (defScope st) f cdv A outer s H E).nox (defBody st) t∧t { nx:=fun _ H'=>Q .non H',rt:=Q } (start N vs) H):FnOk P w K mg base CX0 (k + 1) f fd ps sp:=by
 obtain ⟨oc,od,kV,doc,pm,an,cdv,ct,osl,rfl,lk,hcd⟩:=F.ex
 refine fn_of lk hcd S len fun A outer s H vs Q E hr hsp=>?_
 obtain ⟨t,h,q⟩:=hbody cdv A outer s H vs Q E hr hsp
 exact ⟨t,h.nox,q⟩
theorem Fun.binds {x qual:Str}{st:Stmt}{f:Addr}{fd:FuncData}{ps:List Str} (F:Fun K x qual st f fd)
  (h:∀ (kV doc pm:Value) (an:Option Addr) (cdv ct:Value) (us:List Value),us.length=ps.length→bindArgs (PySem.W.fnOf x qual (defArgs st) (defBody st) (defScope st) .none kV doc pm an cdv ct) ⟨us,[]⟩=pure (ps.zip us)):Binds K fd ps []:=by
 obtain ⟨oc,od,kV,doc,pm,an,cdv,ct,osl,rfl,lk,hcd⟩:=F.ex
 exact .all (h kV doc pm an cdv ct)
theorem zAo {x qual:Str}{st:Stmt}{f:Addr}{oc:Value}{od an:Option Addr}{osl:Array (Option Value)}{kV doc pm cdv ct:Value} (l:K.lookup f=some ⟨oc,od,.func (PySem.W.fnOf x qual (defArgs st) (defBody st) (defScope st) .none kV doc pm an cdv ct),osl⟩)
  (c:PySem.W.codeIn K cdv qual=true) (k:PySem.W.keepIn K (.ref f)=true):Fun K x qual st f (PySem.W.fnOf x qual (defArgs st) (defBody st) (defScope st) .none kV doc pm an cdv ct):=⟨⟨oc,od,kV,doc,pm,an,cdv,ct,osl,rfl,l,c⟩,k⟩
end
theorem small1000 {n:Nat} (h:n≤1000):n < sizeLine:=Nat.lt_of_le_of_lt h (by decide)
section
variable {X:Cx}
theorem pv (i:Nat) {x:Str}{pos:Pos} (hN:X.N[i]? = some x:=by rfl) (hv:Vis X.env.scope x:=by first | exact Or.inl rfl | exact Or.inr (Or.inl rfl) | exact Or.inr (Or.inr rfl)) (hd:(x == ("__debug__" : Str))=false:=by decide)
  (hcd:(x == ("__classdict__" : Str))=false:=by decide):PE X (.Name x pos) (tVar i):=pe_var hN hv hd hcd
end
theorem iteF {A B:Prop} (h:B):if false=true then A else B:=by
 rw [if_neg Bool.false_ne_true]
 exact h
theorem iteT {A B:Prop} (h:A):if true=true then A else B:=by
 rw [if_pos rfl]
 exact h
theorem ite2 {c A B:Prop} [Decidable c] (h1:c→A) (h2:¬ c→B):if c then A else B:=by
 by_cases h:c
 ·rw [if_pos h]
  exact h1 h
 ·rw [if_neg h]
  exact h2 h
noncomputable def Same (H H':Hp):Prop:=∀ b o,H b=some o→H' b=some o
theorem Same.refl (H:Hp):Same H H:=fun _ _ h=>h
theorem Same.trans {H H1 H2:Hp} (a:Same H H1) (b:Same H1 H2):Same H H2:=fun c o h=>b c o (a c o h)
theorem Same.free {H H':Hp} (e:Same H H') {l:Addr} (h:H' l=Option.none):H l=Option.none:=by
 cases q:H l with
 | none=>rfl
 | some o =>
  rw [e l o q] at h
  cases h
end L2
namespace L2
open PySem PySem.Spec PyProof.Rows
section
variable {κ : Type} [DecidableEq κ]
noncomputable def valV (kvs:List (κ×V)) (k : κ):Option V:=(kvs.find? fun kv=>decide (kv.1=k)).map (·.2)
noncomputable def putK (kvs:List (κ×V)) (k : κ) (v:V):List (κ×V) :=
 if (kvs.any fun kv=>decide (kv.1=k))=true then kvs.map (fun kv=>if kv.1=k then (kv.1,v) else kv) else kvs++[(k,v)]
theorem KV.any {kvs:List (κ×V)}{vs:List (κ×Value)} (r:KV kvs vs) (k : κ):(kvs.any fun kv=>decide (kv.1=k))=vs.any fun kv=>decide (kv.1=k):=by
 unfold KV at r
 induction r with
 | nil=>rfl
 | cons h t ih=>rw [List.any_cons,List.any_cons,ih,h.1]
theorem KV.length {kvs:List (κ×V)}{vs:List (κ×Value)} (r:KV kvs vs):kvs.length=vs.length:=Paired.length r
end
section
variable {P:Program}{w:World}{H:Hp}{h:Heap}{a:Addr}
end
noncomputable def DGet (H:Hp) (a:Addr) (y:V) (r:Option V):Prop :=
 (∃ kvs k,Rd H a (.dK kvs)∧y=kV k∧r=valV kvs k)∨∃ kvs k b,Rd H a (.dT kvs)∧y=.ref b∧H b=some (.tup (k.map kV))∧r=valV kvs k
noncomputable def DPut (H:Hp) (a:Addr) (y v:V) (H':Hp):Prop :=
 (∃ kvs k,H a=some (.dK kvs)∧y=kV k∧kvs.length < sizeLine∧H'=upd H a (.dK (putK kvs k v))) ∨
 ∃ kvs k b,H a=some (.dT kvs)∧y=.ref b∧H b=some (.tup (k.map kV))∧kvs.length < sizeLine∧H'=upd H a (.dT (putK kvs k v))
theorem DGet.k {H:Hp}{a:Addr}{kvs:List (Key×V)}{k:Key} (e:H a=some (.dK kvs)):DGet H a (kV k) (valV kvs k):=.inl ⟨kvs,k,.inl e,rfl,rfl⟩
theorem DGet.t {H:Hp}{a b:Addr}{kvs:List (List Key×V)}{k:List Key} (e:H a=some (.dT kvs)) (eb:H b=some (.tup (k.map kV))):DGet H a (.ref b) (valV kvs k):=.inr ⟨kvs,k,b,.inl e,rfl,eb,rfl⟩
theorem DPut.k {H:Hp}{a:Addr}{kvs:List (Key×V)}{k:Key}{v:V} (e:H a=some (.dK kvs)) (hl:kvs.length < sizeLine):DPut H a (kV k) v (upd H a (.dK (putK kvs k v))):=.inl ⟨kvs,k,e,rfl,hl,rfl⟩
theorem DPut.t {H:Hp}{a b:Addr}{kvs:List (List Key×V)}{k:List Key}{v:V} (e:H a=some (.dT kvs)) (eb:H b=some (.tup (k.map kV))) (hl:kvs.length < sizeLine) :
  DPut H a (.ref b) v (upd H a (.dT (putK kvs k v))):=.inr ⟨kvs,k,b,e,rfl,eb,hl,rfl⟩
section
variable {X:Cx}{pins:List (Addr×Obj)}{σ : St}{H:Hp}{s:Shared}{a:Addr}{y v:V}{u r:Value}{o:Option V}{A:Around}{E:Value→Shared→Prop}
theorem Inv.big (I:Inv X pins σ H s):sysModules < s.heap.objs.size:=by
 have h:mainGlobals < s.heap.objs.size:=(I.mod.glob.keeps I.bk).lt
 exact Nat.lt_trans (by decide) h
end
section
variable {X:Cx}{pins:List (Addr×Obj)}{σ : St}{H:Hp}{s:Shared}{a:Addr}{kvs:List (Key×V)}{k:Key}{u:Value}{A:Around}{E:Value→Shared→Prop}
end
section
variable {X:Cx}{o i e value:Expr}{pos pos' tpos:Pos}{td ty tv:TE}
end
theorem dk_empty {P:Program}{w:World}{H:Hp} (h:Heap) (hb:sysModules < h.objs.size):ObjOk P w H (h.push { cls:=.type "dict",data:=.dict #[] }) h.objs.size (.dK []) :=
 ⟨Nat.zero_le _,beq_eq_false_iff_ne.mpr (Ne.symm (Nat.ne_of_lt hb)),[],.nil,Heap.DictOf.new h⟩
noncomputable def tDNewK:TE:=fun _ H Q=>∀ p,H p=none→Q (.ref p) (upd H p (.dK []))
section
variable {X:Cx}{pos:Pos}
theorem zD9:PE X (.Dict [] [] pos) tDNewK:=fun pins s σ H Q I h =>
 wpAny_Dict_empty ⟨.ref s.heap.objs.size,_,I.laid (a:=s.heap.objs.size) (o:=.dK []) (t':=s.toks) (fun _ _ q=>Heap.get?_push_of_some _ q) (Nat.le_refl _) (dk_empty s.heap I.big),rfl,h _ (I.hok.fresh (Nat.le_refl _))⟩
end
noncomputable def IsD (H:Hp) (a:Addr):Prop:=(∃ kvs,Rd H a (.dK kvs))∨∃ kvs,Rd H a (.dT kvs)
section
variable {X:Cx}{pins:List (Addr×Obj)}{σ : St}{H:Hp}{s:Shared}{a:Addr}{y d:V}{u r:Value}{o:Option V}{A:Around}{E:Value→Shared→Prop}
end
section
variable {X:Cx}{o e f:Expr}{apos cpos:Pos}{td ty tx:TE}
end
section
variable {X:Cx}{pins:List (Addr×Obj)}{σ : St}{H:Hp}{s:Shared}{a:Addr}{kvs:List (Key×V)}{A:Around}{E:Value→Shared→Prop}
end
section
variable {X:Cx}{pins:List (Addr×Obj)}{σ : St}{H:Hp}{s:Shared}{a:Addr}{y:V}{u:Value}{A:Around}{E:Value→Shared→Prop}
end
end L2
namespace L2
open PySem PySem.Spec PyProof.Rows
noncomputable def PFs (X:Cx) (ifs:List Expr) (t:TT):Prop :=
 ∀ (pins:List (Addr×Obj)) (s:Shared) (σ : St) (H:Hp) (Q:Bool→Hp→Prop),Inv X pins σ H s→t σ H Q →
  wpAny (model X.prog X.w) X.A (forIn ifs true fun c r=>if r=true then do let ok ← isTrue c X.env (eval c X.env);pure (ForInStep.yield ok) else pure (ForInStep.yield r)) (TP X pins σ Q) X.xe s
noncomputable def tYes:TT:=fun _ H Q=>Q true H
theorem zC8 {X:Cx}:PFs X [] tYes:=fun _ _ _ H _ I h=>wpAny_tests_nil ⟨H,I,h⟩
section
variable {prog:Program}{w:World}{A:Around}{R:Result→Shared→Prop}
theorem comp_loop {elt tg iter:Expr}{ifs:List Expr}{sc:Scope}{pos:Pos}{it acc:Value}{env:Env} (J:Nat→Shared→Prop) (N:Value→Shared→Prop)
  (hN:N=notedBy (model prog w) A env fun e z=>R (.error e) z)
  (turn:∀ k z,J k z→wpAny (model prog w) A (pyNext it) (fun r z1=>match r with
   | none=>R (.ok .next) z1
   | some v=>wpAny (model prog w) A (letOwnedTupleGo tg it v) (fun _ z2=>wpAny (model prog w) A (assign tg env v) (fun _ z3 =>
     wpAny (model prog w) A (forIn ifs true fun c r=>if r=true then do let ok ← isTrue c env (eval c env);pure (ForInStep.yield ok) else pure (ForInStep.yield r)) (fun ok z4 =>
      if ok=true then wpAny (model prog w) A (eval elt env) (fun y z5=>wpAny (model prog w) A (call (.builtin "list.append") [acc,y]) (fun _ z6=>∃ j,j < k∧J j z6) N z5) N z4
      else ∃ j,j < k∧J j z4) N z3) N z2) N z1) N z)
  {z:Shared} (k:Nat) (h:J k z):codeAny (model prog w) A (.compLoop (.ListComp elt [⟨tg,iter,ifs,0⟩] sc pos) 0 it acc env) R z:=by
 subst hN
 refine codeAny_loop rfl J (fun k z hJ=>?_) k h
 show wpAny _ A ((compTurn (.ListComp elt [⟨tg,iter,ifs,0⟩] sc pos) 0 it acc env).onRaise (fun x=>do noteFrame x env;theTreesLotGoes x)) _ _ z
 refine wpAny_noted ?_
 rw [compTurn_list]
 refine wpAny_bind (wpAny_standAt (wpAny_bind (thn (turn k z hJ) fun r z1 h1=>?_)))
 cases r with
 | none=>exact wpAny_pure h1
 | some v =>
  refine wpAny_bind (thn h1 fun _ z2 h2=>?_)
  refine wpAny_bind (thn h2 fun _ z3 h3=>?_)
  refine wpAny_bind (thn h3 fun ok z4 h4=>?_)
  cases ok with
  | false=>exact wpAny_pure ⟨rfl,h4⟩
  | true=>exact wpAny_bind (wpAny_bind (thn h4 fun y z5 h5=>wpAny_bind (thn h5 fun _ z6 h6=>wpAny_pure (wpAny_pure ⟨rfl,h6⟩))))
end
noncomputable def cxComp (X:Cx) (sc:Scope) (cl:List (Str×Addr)) (T:List Str) (C:Addr) (s2:Shared) (H2:Hp) (fp:List Addr):Cx where
 prog:=X.prog
 w:=X.w
 K:=X.K
 mg:=X.mg
 base:=X.base
 A:=X.A
 N:=X.N++T
 s₀:=s2
 H₀:=H2
 env:=compEnvC sc cl C X.env
 outer:=X.stack
 stack:=X.stack
 ex:=fp
 fn:=fun _=>false
 calm:=X.calm
 pn:=[]
 xe:=fun _ _=>False
noncomputable def ClOk (X:Cx):List (Str×Addr)→Prop
 | []=>True
 | p :: r=>X.env.cells.lookup p.1=some p.2∧ClOk X r
theorem ClOk.look {X:Cx}:∀ {cl:List (Str×Addr)},ClOk X cl→∀ x c,cl.lookup x=some c→X.env.cells.lookup x=some c
 | [],_,_,_,h=>by cases h
 | p :: r,k,x,c,h=>by
  cases e:x == p.1 with
  | true =>
   rw [List.lookup_cons,e] at h
   have ex:x=p.1:=by simpa using e
   rw [ex,k.1]
   exact h
  | false =>
   rw [List.lookup_cons,e] at h
   exact ClOk.look k.2 x c h
structure ScOk (X:Cx) (sc:Scope) (cl:List (Str×Addr)) (T:List Str):Prop where
 clos:closureFor sc X.env=pure cl
 cell:∀ y∈sc.names,y.2≠.cell
 kind:sc.kind=.function
 names:∀ x∈sc.names,x.2=.local→sc.names.lookup x.1=some .local
 cls:ClOk X cl
 has:∀ x∈sc.names,x.2=.free→(cl.lookup x.1).isSome=true∧(X.env.scope.names.lookup x.1=some .cell∨X.env.scope.names.lookup x.1=some .free)
 out:∀ x∈X.N,sc.names.lookup x≠some .local
theorem zBy {sc:Scope}{env:Env}{x:Str}{k:NameKind}:∀ {names:List (Str×NameKind)},
  (names.map fun (n,k)=>if (k == NameKind.free && env.scope.kind == .function && env.kindOf n == some .cell) then (n,NameKind.cell) else (n,k)).lookup x=some k →
  ∃ j,(x,j)∈names∧names.lookup x=some j∧(j=k∨(j=.free∧k=.cell))
 | [],h=>by cases h
 | (n,j) :: r,h=>by
  cases e:x == n with
  | true =>
   have ex:x=n:=by simpa using e
   subst ex
   refine ⟨j,List.mem_cons_self,by rw [List.lookup_cons,e],?_⟩
   have h':List.lookup x ((if (j == NameKind.free && env.scope.kind == .function && env.kindOf x == some .cell)=true then (x,NameKind.cell) else (x,j)) :: _)=some k:=h
   by_cases c:(j == NameKind.free && env.scope.kind == .function && env.kindOf x == some .cell)=true
   ·rw [if_pos c,List.lookup_cons,e] at h'
    have c1:(j == NameKind.free)=true:=by
     cases q:(j == NameKind.free) with
     | true=>rfl
     | false=>rw [q] at c;simp at c
    exact .inr ⟨by simpa using c1,(Option.some.inj h').symm⟩
   ·rw [if_neg c,List.lookup_cons,e] at h'
    exact .inl (Option.some.inj h')
  | false =>
   have h':List.lookup x ((if (j == NameKind.free && env.scope.kind == .function && env.kindOf n == some .cell)=true then (n,NameKind.cell) else (n,j)) :: _)=some k:=h
   have h2:(List.map (fun (n,k)=>if (k == NameKind.free && env.scope.kind == .function && env.kindOf n == some .cell) then (n,NameKind.cell) else (n,k)) r).lookup x=some k:=by
    by_cases c:(j == NameKind.free && env.scope.kind == .function && env.kindOf n == some .cell)=true
    ·rw [if_pos c,List.lookup_cons,e] at h';exact h'
    ·rw [if_neg c,List.lookup_cons,e] at h';exact h'
   obtain ⟨i,m,l,q⟩:=zBy (sc:=sc) (env:=env) h2
   exact ⟨i,List.mem_cons_of_mem _ m,by rw [List.lookup_cons,e];exact l,q⟩
section
variable {X:Cx}{sc:Scope}{cl:List (Str×Addr)}{T:List Str}
theorem ScOk.seen (S:ScOk X sc cl T) {C:Addr}{x:Str} (h:(compEnvC sc cl C X.env).scope.names.lookup x=some .cell∨(compEnvC sc cl C X.env).scope.names.lookup x=some .free) :
  (∃ c,cl.lookup x=some c)∧(X.env.scope.names.lookup x=some .cell∨X.env.scope.names.lookup x=some .free):=by
 have key:∀ k,(k=.cell∨k=.free)→(relabel sc X.env).names.lookup x=some k→(∃ c,cl.lookup x=some c)∧(X.env.scope.names.lookup x=some .cell∨X.env.scope.names.lookup x=some .free):=by
  intro k hk h
  obtain ⟨j,m,l,q⟩:=zBy (sc:=sc) (env:=X.env) h
  have jf:j=.free:=by
   rcases q with rfl | ⟨q,_⟩
   ·rcases hk with rfl | rfl
    ·exact absurd rfl (S.cell _ m)
    ·rfl
   ·exact q
  subst jf
  obtain ⟨a,b⟩:=S.has _ m rfl
  exact ⟨Option.isSome_iff_exists.mp a,b⟩
 rcases h with h | h
 ·exact key _ (.inl rfl) h
 ·exact key _ (.inr rfl) h
theorem ScOk.local_out (S:ScOk X sc cl T) {C:Addr}{x:Str} (hx:x∈X.N):(compEnvC sc cl C X.env).scope.names.lookup x≠some .local:=by
 intro h
 obtain ⟨j,m,l,q⟩:=zBy (sc:=sc) (env:=X.env) h
 rcases q with rfl | ⟨_,q⟩
 ·exact S.out x hx l
 ·cases q
variable {pins:List (Addr×Obj)}{σ : St}{H:Hp}{s:Shared}{fp:List Addr}{C:Addr}
theorem comp_ok (S:ScOk X sc cl T) (I:Inv X pins σ H s) (hf:∀ b∈fp,FpOk X pins H b) (hl:∀ b∈fp,b < s.heap.objs.size) (hC:s.heap.objs.size≤C):(cxComp X sc cl T C s H fp).Ok where
 mod:=I.ok.mod
 kind:=S.kind
 glob:=I.ok.glob
 blt:=I.ok.blt
 above:=hC
 inj:=fun x y c h1 h2=>I.ok.inj x y c (S.cls.look x c h1) (S.cls.look y c h2)
 has:=fun x hx=>(S.seen hx).1
 cab:=fun x c h=>by cases h
 hd:=I.ok.hd
 frames:=I.ok.frames
 stk:=.inl rfl
 exf:=fun b hb=>⟨Nat.ne_of_lt (Nat.lt_of_lt_of_le (hl b hb) hC),fun x c h=>(hf b hb).2.2.2.2.1 x c (S.cls.look x c h)⟩
 bs:=I.bs
 bsz:=Nat.le_trans I.ok.bsz I.sz
 noex:=fun b o e hb=>by
  rcases (hf b hb).2.2.2.1 with z | z
  ·exact I.ok.noex b o e z
  ·exact absurd (Nat.lt_of_lt_of_le (Heap.lt_size e) (Nat.le_trans I.ok.bsz z)) (Nat.lt_irrefl _)
 exfs:=fun b hb z=>by
  rcases List.mem_cons.mp (I.stkSub b z) with e | e
  ·exact (hf b hb).2.1 e
  ·exact (hf b hb).2.2.1 e
 funs:=I.stack
 frf:=I.stkFree
theorem comp_inv (S:ScOk X sc cl T) (I:Inv X pins σ H s) (hf:∀ b∈fp,FpOk X pins H b) (hl:∀ b∈fp,b < s.heap.objs.size) (hC:s.heap.objs.size≤C) {h1:Heap}{m:Str→Option Value}{t1:Nat}
  (k:∀ b o,s.heap.get? b=some o→h1.get? b=some o) (hn:h1.Ns C m):Inv (cxComp X sc cl T C s H fp) [] (σ++List.replicate T.length none) H { s with heap:=h1,toks:=t1 } where
 ok:=comp_ok S I hf hl hC
 os:=rfl
 bare:=I.bare
 base:=Un.kept k
 loc:=by
  refine ⟨m,hn,fun i x v e1 e2 e3=>?_⟩
  have hi:i < σ.length:=by
   by_cases hi:i < σ.length
   ·exact hi
   ·rw [List.getElem?_append_right (Nat.not_lt.mp hi),List.getElem?_replicate] at e2
    split at e2 <;> cases e2
  rw [List.getElem?_append_left hi] at e2
  have e1':X.N[i]? = some x:=by
   have e:(X.N++T)[i]? = some x:=e1
   rwa [List.getElem?_append_left (by rw [← I.len];exact hi)] at e
  have hx:x∈X.N:=List.mem_of_getElem? e1'
  have e3':(compEnvC sc cl C X.env).scope.names.lookup x=some .cell∨(compEnvC sc cl C X.env).scope.names.lookup x=some .free:=by
   rcases e3 with z | z | z
   ·exact absurd z (S.local_out hx)
   ·exact .inl z
   ·exact .inr z
  obtain ⟨⟨c,hc⟩,ko⟩:=S.seen e3'
  obtain ⟨m0,hn0,hl0⟩:=I.loc
  obtain ⟨u,r,l⟩:=hl0 i x v e1' e2 (.inr ko)
  refine ⟨u,r,.inr ⟨e3',c,hc,?_⟩⟩
  have hc':=S.cls.look x c hc
  rcases l with ⟨kl,_⟩ | ⟨_,c',hc2,z⟩
  ·have kl':X.env.scope.names.lookup x=some .local:=kl
   rcases ko with q | q
   ·rw [q] at kl';cases kl'
   ·rw [q] at kl';cases kl'
  ·rw [hc'] at hc2;cases hc2
   obtain ⟨o,ho,hd⟩:=z
   exact ⟨o,k _ _ ho,hd⟩
 cell:=fun x c hc=>by
  obtain ⟨v,o,ho,hd⟩:=I.cell x c (S.cls.look x c hc)
  exact ⟨v,o,k _ _ ho,hd⟩
 free:=I.hok.fresh hC
 freeC:=fun x c hc=>I.freeC x c (S.cls.look x c hc)
 pin:=fun p hp=>absurd (show p∈([]:List (Addr×Obj)) from hp) (by simp)
 hok:=I.hok.kept k
 len:=by
  show (σ++List.replicate T.length none).length=(X.N++T).length
  rw [List.length_append,List.length_append,List.length_replicate,I.len]
theorem comp_out (S:ScOk X sc cl T) (I:Inv X pins σ H s) (hf:∀ b∈fp,FpOk X pins H b) {D:Addr} (hD:s.heap.objs.size≤D) (hC:s.heap.objs.size≤C) (hDC:D≠C) {s1:Shared}{H1:Hp}{σ1:St}{p1:List (Addr×Obj)}{ys:List V}{its:List Value}
  (J:Inv (cxComp X sc cl T C s H fp) p1 σ1 H1 s1) (hH:H1 D=none) (rv:Vals ys its) (hz:ys.length≤sizeLine) (hget:s1.heap.get? D=some (LCg.lst its)) :
  Inv X pins σ (upd H1 D (.lst ys)) s1:=by
 have fD:H D=none:=I.hok.fresh hD
 have nD:∀ b o,s.heap.get? b=some o→b≠D:=fun b o e=>Nat.ne_of_lt (Nat.lt_of_lt_of_le (Heap.lt_size e) hD)
 refine I.call' (ch:=fp) J.os ⟨fun b o e n hb hx=>J.base.keep b o e n hb hx,fun b o e n hb hx=>J.base.slot b o e n hb hx,fun b o e n hx=>?_,fun b o e hx=>J.base.there b o e hx,fun b xs e=>?_,fun b o u e=>?_,fun b ps e=>?_⟩ (fun b u e=>?_) J.bare fun b hb=>⟨(hf b hb).2.2.2.1,(hf b hb).2.1,(hf b hb).2.2.2.2.1,(hf b hb).2.2.2.2.2⟩
 ·rw [zA9 (nD b o e)]
  exact J.base.free b o e n hx
 ·rw [zA9 (zA8 e fD)]
  exact J.base.tups b xs e
 ·rw [zA9 (zA8 e fD)]
  exact J.base.frzs b o u e
 ·rw [zA9 (zA8 e fD)]
  exact J.base.tbls b ps e
 ·by_cases hb:b=D
  ·subst hb
   rw [zA1] at e
   cases e
   exact ⟨hz,its,its.length,rv,hget⟩
  ·rw [zA9 hb] at e
   exact (J.hok b u e).stay (fun c v _ q=>q) (fun c q=>by rw [zA9 (zA8 q hH)];exact q) fun c xs q=>by rw [zA9 (zA8 q hH)];exact q
end
noncomputable def CompGoal (J:It) (k:Nat) (σ : St) (H1:Hp) (g:TG) (tt:TT) (te:TE) (Q:VK):Prop:=∃ W:Nat→Nat→List V→Hp→Prop,(∃ m,W 0 m [] H1)∧∀ i m ys H,W i m ys H →
 (J.stop i H∧ys.length≤sizeLine∧∀ p,H p=none→Q (.ref p) (upd H p (.lst ys))) ∨
 (J.go i H∧ys.length≤sizeLine∧∀ x H',J.yld i H x H'→g x (σ++List.replicate k none) H' fun σ2 H2=>tt σ2 H2 fun b H3 =>
  if b=true then te σ2 H3 fun y H4=>∃ m',m' < m∧W (i + 1) m' (ys++[y]) H4 else ∃ m',m' < m∧W (i + 1) m' ys H3)
noncomputable def tComp (k:Nat) (wi:TI) (g:TG) (tt:TT) (te:TE):TE:=fun σ H Q=>wi σ H fun J H1=>CompGoal J k σ H1 g tt te Q
section
variable {X:Cx}{elt tg iter:Expr}{ifs:List Expr}{sc:Scope}{pos:Pos}{cl:List (Str×Addr)}{T:List Str}{wi:TI}{g:TG}{tt:TT}{te:TE}
theorem zDq {pins:List (Addr×Obj)}{σ : St}{s2:Shared}{H2:Hp}{Q:VK}{E:Value→Shared→Prop}{R:Value→Addr→Result→Shared→Prop}{it:Addr}{fp:List Addr}{tn:Nat→Heap→Prop}{J:It}
  (hc:X.calm=true) (S:ScOk X sc cl T)
  (hg:∀ C s H fp,PG (cxComp X sc cl T C s H fp) tg g) (hf:∀ C s H fp,PFs (cxComp X sc cl T C s H fp) ifs tt) (he:∀ C s H fp,PE (cxComp X sc cl T C s H fp) elt te)
  (I:Inv X pins σ H2 s2) (TT':Turn X.prog X.w X.K tg J fp it tn) (st:tn 0 s2.heap) (f2:∀ b∈fp,FpOk X pins H2 b)
  (W:Nat→Nat→List V→Hp→Prop) (m0:Nat) (w0:W 0 m0 [] H2)
  (turn:∀ i m ys H,W i m ys H→(J.stop i H∧ys.length≤sizeLine∧∀ p,H p=none→Q (.ref p) (upd H p (.lst ys))) ∨
   (J.go i H∧ys.length≤sizeLine∧∀ x H',J.yld i H x H'→g x (σ++List.replicate T.length none) H' fun σ2 H2=>tt σ2 H2 fun b H3 =>
    if b=true then te σ2 H3 fun y H4=>∃ m',m' < m∧W (i + 1) m' (ys++[y]) H4 else ∃ m',m' < m∧W (i + 1) m' ys H3))
  (hR:∀ (D C:Addr) (s1:Shared) (H1:Hp) (m:Str→Option Value),Inv X pins σ H1 s1→H1 C=none→C≠X.env.locals→X.s₀.heap.objs.size≤C→(∀ x c,X.env.cells.lookup x=some c→c≠C)→(∀ p∈X.pn++pins,p.1≠C) →
   s1.heap.Ns C m→Q (.ref D) H1→R (.ref D) C (.ok .next) s1) :
  wpAny (model X.prog X.w) X.A (newList []) (fun acc s₃=>wpAny (model X.prog X.w) X.A (newFunctionEnv sc X.env.globals cl [] X.env.qual none .none (some X.env)) (fun cenv s₄ =>
   codeAny (model X.prog X.w) X.A (.compStart (.ListComp elt [⟨tg,iter,ifs,0⟩] sc pos) 0 (.ref it) acc { cenv with scope:=relabel sc X.env }) (R acc cenv.locals) s₄) E s₃) E s2:=by
 refine wpAny_newObj_type (wpAny_newFunctionEnv S.cell (by intro y hy;simp at hy) (fun h1 hn1 sb1=>?_) S.kind)
 dsimp only at hn1 sb1 ⊢
 generalize hH:s2.heap.push { cls:=.type "list",dict:=none,data:=.seq ([]:List Value).toArray }=G at hn1 sb1 ⊢
 have hC:G.objs.size=s2.heap.objs.size + 1:=by rw [← hH,Heap.size_push]
 have hDC:s2.heap.objs.size≠G.objs.size:=by rw [hC];exact Nat.ne_of_lt (Nat.lt_succ_self _)
 have hCle:s2.heap.objs.size≤G.objs.size:=by rw [hC];exact Nat.le_succ _
 have old:∀ b o,s2.heap.get? b=some o→h1.get? b=some o:=fun b o e=>by
  exact sb1.extBut b o (Nat.ne_of_lt (Nat.lt_of_lt_of_le (Heap.lt_size e) hCle)) (Heap.get?_push_of_some _ (hH ▸ Heap.get?_push_of_some _ e))
 have hacc:h1.get? s2.heap.objs.size=some (LCg.lst []):=sb1.extBut _ _ hDC (Heap.get?_push_of_some _ (hH ▸ Heap.get?_push_size _ rfl))
 have fl:∀ b∈fp,b < s2.heap.objs.size:=fun b hb=>by
  obtain ⟨o,e,_⟩:=TT'.obj _ _ st b hb
  exact Heap.lt_size e
 have DS:s2.heap.objs.size∉frs X.stack:=fun z=>by
  rcases List.mem_cons.mp (I.stkSub _ z) with e | e
  ·exact Nat.ne_of_lt I.lt e.symm
  ·exact I.nofs (Nat.le_refl _) e
 have keepT:∀ (i:Nat) (h h':Heap),tn i h→(∀ b o,b < s2.heap.objs.size→h.get? b=some o→h'.get? b=some o)→tn i h':=fun i h h' z k=>TT'.keep i h h' z fun b hb o e=>k b o (fl b hb) e
 have fpo:∀ {H':Hp}{pl:List (Addr×Obj)},(∀ b∈fp,H' b=none)→(∀ p∈pl,s2.heap.objs.size≤p.1)→∀ b∈fp,FpOk (cxComp X sc cl T G.objs.size s2 H2 fp) pl H' b:=fun {H' pl} hn hp b hb=>by
  refine ⟨hn b hb,fun z=>?_,fun z=>?_,.inl hb,fun x c h=>(f2 b hb).2.2.2.2.1 x c (S.cls.look x c h),fun p hp' z=>?_⟩
  ·exact Nat.ne_of_lt (Nat.lt_of_lt_of_le (fl b hb) hCle) z
  ·rcases List.mem_cons.mp (I.stkSub b z) with e | e
   ·exact (f2 b hb).2.1 e
   ·exact (f2 b hb).2.2.1 e
  ·exact Nat.ne_of_lt (Nat.lt_of_lt_of_le (fl b hb) (hp p (show p∈pl from hp'))) z.symm
 let Y:=cxComp X sc cl T G.objs.size s2 H2 fp
 have loop:∀ z:Shared,z={ s2 with heap:=h1,toks:=s2.toks + ([]:List (Str×Value)).length } →
   codeAny (model X.prog X.w) X.A (.compLoop (.ListComp elt [⟨tg,iter,ifs,0⟩] sc pos) 0 (.ref it) (.ref s2.heap.objs.size) (compEnvC sc cl G.objs.size X.env)) (R (.ref s2.heap.objs.size) G.objs.size) z:=by
  rintro z rfl
  refine comp_loop (fun n z=>∃ i ys its H',Inv Y [] (σ++List.replicate T.length none) H' z∧tn i z.heap∧(∀ b∈fp,H' b=none)∧H' s2.heap.objs.size=none∧Vals ys its∧z.heap.get? s2.heap.objs.size=some (LCg.lst its)∧W i n ys H') _ rfl ?_ m0
   ⟨0,[],[],H2,comp_inv S I f2 fl hCle old hn1,TT'.keep _ _ _ st fun b hb o e=>old b o e,fun b hb=>(f2 b hb).1,I.hok.fresh (Nat.le_refl _),.nil,hacc,w0⟩
  rintro n z ⟨i,ys,its,H',IY,stz,frz,fD,rv,hget,wz⟩
  have IP:Inv Y [(s2.heap.objs.size,LCg.lst its)] (σ++List.replicate T.length none) H' z:=IY.pins_of fun p hp=>by
   have e:p=(s2.heap.objs.size,LCg.lst its):=by simpa using hp
   subst e
   exact ⟨hget,fD,hDC,DS,fun v q=>by cases (show Data.seq _ _=Data.cell v from q)⟩
  have hpl:∀ p∈[(s2.heap.objs.size,LCg.lst its)],s2.heap.objs.size≤p.1:=fun p hp=>by
   have e:p=(s2.heap.objs.size,LCg.lst its):=by simpa using hp
   subst e
   exact Nat.le_refl _
  rcases turn i n ys H' wz with ⟨stop,hz,q⟩ | ⟨go,hz,step⟩
  ·refine thn (TT'.done Y rfl rfl rfl hc i _ z _ H' _ IP (fpo frz hpl) stz stop) fun r z1 ⟨hr,I1⟩=>?_
   subst hr
   have g1:z1.heap.get? s2.heap.objs.size=some (LCg.lst its):=(I1.pin (s2.heap.objs.size,LCg.lst its) (by simp [Y,cxComp])).1
   obtain ⟨mC,hnC,_⟩:=I1.loc
   have out:=comp_out S I f2 (Nat.le_refl _) hCle hDC I1 fD rv hz g1
   refine hR _ _ z1 _ mC out ?_ ?_ ?_ ?_ ?_ hnC (q _ fD)
   ·rw [zA9 (Ne.symm hDC)]
    exact I1.free
   ·exact (Nat.ne_of_lt (Nat.lt_of_lt_of_le I.lt hCle)).symm
   ·exact Nat.le_trans I.sz hCle
   ·intro x c hcc
    obtain ⟨v,zc⟩:=I.cell x c hcc
    exact Nat.ne_of_lt (Nat.lt_of_lt_of_le zc.lt hCle)
   ·intro p hp
    exact Nat.ne_of_lt (Nat.lt_of_lt_of_le (Heap.lt_size (I.pin p hp).1) hCle)
  ·refine thn (TT'.item Y rfl rfl rfl hc i _ z _ H' _ IP (fpo frz hpl) stz go) fun r z1 ⟨u,hr,h1'⟩=>?_
   subst hr
   refine thn h1' fun _ z2 ⟨x,H3,I3,r3,y3,st3,fr3⟩=>?_
   have I3':=I3.pinned (fpo fr3 hpl) (TT'.obj _ _ st3)
   have fin:∀ {H':Hp}{σ':St}{z':Shared},Inv Y ([(s2.heap.objs.size,LCg.lst its)]++pinsAt fp z2.heap) σ' H' z'→tn (i + 1) z'.heap∧(∀ b∈fp,H' b=none)∧H' s2.heap.objs.size=none∧z'.heap.get? s2.heap.objs.size=some (LCg.lst its):=fun {H' σ' z'} I'=>by
    have a1:∀ b∈fp,∀ o,z2.heap.get? b=some o→z'.heap.get? b=some o∧H' b=none:=fun b hb o e =>
     let p:=I'.pin (b,o) (List.mem_append_right _ (List.mem_append_right _ (zC4 hb e)))
     ⟨p.1,p.2.1⟩
    have a2:=I'.pin (s2.heap.objs.size,LCg.lst its) (List.mem_append_right _ (by simp))
    exact ⟨TT'.keep _ _ _ st3 fun b hb o e=>(a1 b hb o e).1,fun b hb=>by
     obtain ⟨o,e,_⟩:=TT'.obj _ _ st3 b hb
     exact (a1 b hb o e).2,a2.2.1,a2.1⟩
   have bare:∀ {H':Hp}{σ':St}{z':Shared},Inv Y ([(s2.heap.objs.size,LCg.lst its)]++pinsAt fp z2.heap) σ' H' z'→Inv Y [] σ' H' z':=fun I'=>I'.pins_of fun p hp=>absurd hp (by simp)
   refine wpAny_mono (hg G.objs.size s2 H2 fp _ z2 _ H3 x u _ I3' r3 (step x H3 y3)) (fun _ z3 ⟨σ4,H4,I4,q4⟩=>?_) fun _ _ e=>e.elim
   refine wpAny_mono (hf G.objs.size s2 H2 fp _ z3 _ H4 _ I4 q4) (fun ok z4 ⟨H5,I5,q5⟩=>?_) fun _ _ e=>e.elim
   have lenσ : ∀ {H':Hp}{σ':St}{z':Shared}{pl},Inv Y pl σ' H' z'→(σ++List.replicate T.length none).length = σ'.length:=fun I'=>by rw [I'.len];exact IY.len
   have weak:∀ {H':Hp}{z':Shared},Inv Y [] σ4 H' z'→Inv Y [] (σ++List.replicate T.length none) H' z':=fun {H' z'} I'=>by
    have c0:=comp_inv (T:=T) (t1:=z'.toks) S I f2 fl hCle old hn1
    obtain ⟨m',hn',hl'⟩:=I'.loc
    obtain ⟨_,_,hl0⟩:=I.loc
    refine ⟨I'.ok,I'.os,I'.bare,I'.base,⟨m',hn',fun j x v e1 e2 e3=>?_⟩,I'.cell,I'.free,I'.freeC,I'.pin,I'.hok,(lenσ I').trans I'.len⟩
    have hj:j < σ.length:=by
     by_cases hj:j < σ.length
     ·exact hj
     ·rw [List.getElem?_append_right (Nat.not_lt.mp hj),List.getElem?_replicate] at e2
      split at e2 <;> cases e2
    have e2':=e2
    rw [List.getElem?_append_left hj] at e2'
    have e1':X.N[j]? = some x:=by
     have e:(X.N++T)[j]? = some x:=e1
     rwa [List.getElem?_append_left (by rw [← I.len];exact hj)] at e
    have hx:x∈X.N:=List.mem_of_getElem? e1'
    have e3':(compEnvC sc cl G.objs.size X.env).scope.names.lookup x=some .cell∨(compEnvC sc cl G.objs.size X.env).scope.names.lookup x=some .free:=by
     rcases e3 with z | z | z
     ·exact absurd z (S.local_out hx)
     ·exact .inl z
     ·exact .inr z
    obtain ⟨⟨c,hc'⟩,ko⟩:=S.seen e3'
    obtain ⟨u,r,l⟩:=hl0 j x v e1' e2' (.inr ko)
    have hcX:=S.cls.look x c hc'
    refine ⟨u,r,.inr ⟨e3',c,hc',?_⟩⟩
    rcases l with ⟨kl,_⟩ | ⟨_,c',hc2,zc⟩
    ·have kl':X.env.scope.names.lookup x=some .local:=kl
     rcases ko with q | q
     ·rw [q] at kl';cases kl'
     ·rw [q] at kl';cases kl'
    ·rw [hcX] at hc2;cases hc2
     obtain ⟨o,ho,hd⟩:=zc
     have nfp:c∉fp:=fun hb=>(f2 c hb).2.2.2.2.1 x c hcX rfl
     obtain ⟨sl,e⟩:=I'.base.any ho (I.freeC x c hcX) nfp
     exact ⟨_,e,hd⟩
   cases ok with
   | false =>
    rw [if_neg Bool.false_ne_true] at q5 ⊢
    obtain ⟨m',hm,w'⟩:=q5
    obtain ⟨b1,b2,b3,b4⟩:=fin I5
    exact ⟨m',hm,i + 1,ys,its,H5,weak (bare I5),b1,b2,b3,rv,b4,w'⟩
   | true =>
    rw [if_pos rfl] at q5 ⊢
    refine wpAny_mono (he G.objs.size s2 H2 fp _ z4 _ H5 _ I5 q5) (fun y z5 ⟨yv,H6,I6,r6,q6⟩=>?_) fun _ _ e=>e.elim
    obtain ⟨m',hm,w'⟩:=q6
    obtain ⟨b1,b2,b3,b4⟩:=fin I6
    refine append_at (hsz:=by show its.toArray.size≤sizeLine;rw [List.size_toArray,← rv.length];exact hz) b4 fun h6 sb6 g6=>?_
    have I7:Inv Y [] (σ++List.replicate T.length none) H6 { z5 with heap:=h6 }:=(weak (bare I6)).turned (t':=z5.toks) (it:=s2.heap.objs.size) (fun b o hb e=>(sb6.2 b hb).trans e) b3 hDC (.inr (Nat.le_refl _)) (fun x c h=>by
     obtain ⟨v,zc⟩:=I.cell x c (S.cls.look x c h)
     exact Nat.ne_of_lt zc.lt) fun p hp=>absurd (show p∈([]:List (Addr×Obj)) from hp) (by simp)
    refine ⟨m',hm,i + 1,ys++[yv],its++[y],H6,I7,keepT _ _ _ b1 fun b o hb e=>(sb6.2 b (Nat.ne_of_lt hb)).trans e,b2,b3,rv.append (.cons r6 .nil),g6.trans (congrArg some (LCg.lst_snoc its y)),w'⟩
 exact codeAny_compStart_list (loop _ rfl) (TT'.self _ 0 _ _ _ (TT'.keep _ _ _ st fun b hb o e=>old b o e) (loop _ rfl))
theorem zBe (hc:X.calm=true) (S:ScOk X sc cl T) (hi:PI X tg iter wi)
  (hg:∀ C s H fp,PG (cxComp X sc cl T C s H fp) tg g) (hf:∀ C s H fp,PFs (cxComp X sc cl T C s H fp) ifs tt) (he:∀ C s H fp,PE (cxComp X sc cl T C s H fp) elt te)
  (hs:∀ x,foldedSetIterable iter X.env x=pure x:=by intro _;rfl):PE X (.ListComp elt [⟨tg,iter,ifs,0⟩] sc pos) (tComp T.length wi g tt te):=by
 intro pins s σ H Q I h
 rw [eval_ListComp]
 refine wpAny_comprehension_free (use:=none) rfl hs S.clos S.kind S.names (thn (hi pins s σ H _ I h) fun v s1 h1=>thn h1 fun itv s2 h2=>?_)
 obtain ⟨it,fp,tn,J,H2,e,I2,TT',st2,f2,W,⟨m0,w0⟩,turn⟩:=h2
 subst e
 refine zDq (Q:=Q) hc S hg hf he I2 TT' st2 f2 W m0 w0 turn fun D C z H1 m I1 n1 n2 n3 n4 n5 hn q=>?_
 exact ⟨m,hn,fun h' sb=>⟨.ref D,H1,I1.turned (t':=z.toks) (it:=C) (fun b o hb e=>(sb.2 b hb).trans e) n1 n2 (.inr n3) n4 n5,rfl,q⟩⟩
end
end L2
namespace L2
open PySem PySem.Spec PyProof.Rows
section
variable {X:Cx}
theorem v1 {x:V}{us:List Value} (r:Vals [x] us):∃ u,us=[u]∧RelV x u:=by
 cases r with
 | cons a b=>cases b;exact ⟨_,rfl,a⟩
theorem v2 {x y:V}{us:List Value} (r:Vals [x,y] us):∃ u v,us=[u,v]∧RelV x u∧RelV y v:=by
 cases r with
 | cons a b =>
  cases b with
  | cons c d=>cases d;exact ⟨_,_,rfl,a,c⟩
theorem zAn:CallR X (.builtin "isinstance") (fun xs H Q=>∃ x c t cv b,xs=[x,c]∧TyOf X.K H x t∧RelV c cv∧PySem.W.kitOne X.K t cv=some b∧Q (.bl b) H):=by
 intro pins s σ H xs us Q I r h
 obtain ⟨x,c,t,cv,b,rfl,ty,rc,e,q⟩:=h
 obtain ⟨u,v,rfl,ru,rv⟩:=v2 r
 have hv:v=cv:=by
  cases c with
  | non=>exact (show v=Value.none from rv).trans (show cv=Value.none from rc).symm
  | bl z=>exact (show v=Value.bool z from rv).trans (show cv=Value.bool z from rc).symm
  | int i =>
   obtain ⟨t1,rfl⟩:=rc
   exact absurd e (by unfold PySem.W.kitOne;cases ty <;> simp [PySem.W.kitCls])
  | str i =>
   obtain ⟨t1,rfl⟩:=rc
   exact absurd e (by unfold PySem.W.kitOne;cases ty <;> simp [PySem.W.kitCls])
  | byt i =>
   obtain ⟨t1,rfl⟩:=rc
   exact absurd e (by unfold PySem.W.kitOne;cases ty <;> simp [PySem.W.kitCls])
  | flt i =>
   obtain ⟨t1,rfl⟩:=rc
   exact absurd e (by unfold PySem.W.kitOne;cases ty <;> simp [PySem.W.kitCls])
  | ref a=>exact (show v=Value.ref a from rv).trans (show cv=Value.ref a from rc).symm
  | ty n=>exact (show v=Value.type n from rv).trans (show cv=Value.type n from rc).symm
 subst hv
 exact isinst_ok I ru ty e fun tk=>⟨.bl b,H,I.tok tk,rfl,q⟩
theorem bools_get:∀ {bs:List Bool}{us:List Value}{i:Nat}{v:Value},Vals (bs.map V.bl) us→us[i]? = some v→∃ b,bs[i]? = some b∧v=Value.bool b
 | [],_,i,v,.nil,h=>by simp at h
 | b :: r,_,0,v,.cons a t,h=>by
  simp at h
  subst h
  exact ⟨b,rfl,a⟩
 | b :: r,_,i + 1,v,.cons a t,h=>by
  obtain ⟨b',e,q⟩:=bools_get (bs:=r) (i:=i) t (by simpa using h)
  exact ⟨b',by simpa using e,q⟩
theorem all_range:∀ (bs:List Bool),((List.range bs.length).all fun i=>(bs[i]?).getD true)=bs.all id
 | []=>rfl
 | b :: r=>by
  rw [List.length_cons,List.range_succ_eq_map,List.all_cons,List.all_map,List.all_cons]
  have e:=all_range r
  simp only [Function.comp_def,List.getElem?_cons_succ,List.getElem?_cons_zero,Option.getD_some,id] at *
  rw [← e]
theorem zBv (hc:X.calm=true):CallR X (.builtin "all") (fun xs H Q=>∃ (p:Addr) (bs:List Bool),xs=[.ref p]∧SqL X.K H p (bs.map V.bl)∧Q (.bl (bs.all id)) H):=by
 intro pins s σ H xs us Q I r h
 obtain ⟨p,bs,rfl,hp,q⟩:=h
 obtain ⟨u,rfl,ru⟩:=v1 r
 cases (show u=Value.ref p from ru)
 obtain ⟨its,rv,pl,hz⟩:=I.list hp
 have hl:=pl.isList
 have hlt:p < s.heap.objs.size:=by obtain ⟨_,e,_⟩:=hl;exact Heap.lt_size e
 have hlen:its.length=bs.length:=by rw [← rv.length,List.length_map]
 refine call_all_walk (wpAny_pyIter_list hl ?_)
 refine ⟨s.heap.objs.size,[s.heap.objs.size,p],[s.heap.objs.size],its.toArray.size,_,_,fun i=>(bs[i]?).getD true,rfl,Walks.list (A:=X.A.in1) (I.ok.hd hc) _ p (Nat.ne_of_lt hlt) its.toArray,
  ⟨⟨_,Heap.get?_push_size _ rfl,rfl,rfl⟩,hl.push _⟩,fun i v s' Q' E' hP hQ=>?_,fun h' tk hk=>?_⟩
 ·obtain ⟨b,e,rfl⟩:=bools_get rv (by simpa using hP)
  simp only [e,Option.getD_some] at hQ
  exact wpAny_truthy_bool hQ
 ·rw [List.size_toArray,hlen,all_range]
  exact ⟨.bl _,H,I.kept (t':=tk) fun b o e=>hk b o (fun hm=>by rw [List.mem_singleton.mp hm] at e;exact Nat.lt_irrefl _ (Heap.lt_size e)) (Heap.get?_push_of_some _ e),rfl,q⟩
noncomputable def Its (x:Str):It:=⟨fun i _=>i < x.length,fun i H v H'=>H'=H∧∃ c,x.cps[i]? = some c∧v=.str ⟨#[c]⟩,fun i _=>x.length≤i⟩
noncomputable def iStr (tl:TE):TI:=fun σ H R=>tl σ H fun v H1=>∃ x,v=.str x∧R (Its x) H1
theorem turn_str {P:Program}{w:World}{K:PySem.W.Frag}{y:Str}{py:Pos}{x:Str}{it:Addr}{St:Nat→Heap→Prop} (ho:∀ i h,St i h→∃ o,h.get? it=some o∧∀ v,o.data≠.cell v)
  (W:∀ A':Around,A'.handled=none→Walks P w A' it [it] [it] x.cps.size (SignAt x) St) (hself:∀ (A:Around) (i:Nat) (s:Shared) (Q:Value→Shared→Prop) (E:Value→Shared→Prop),St i s.heap→Q (.ref it) s→wpAny (model P w) A (pyIter (.ref it)) Q E s)
  (hst:∀ i h,St i h→i≤x.cps.size→True):Turn P w K (.Name y py) (Its x) [it] it (fun i h=>i≤x.cps.size∧St i h) where
 mem:=by simp
 obj:=fun i h st b hb=>by
  have e:b=it:=by simpa using hb
  subst e
  exact ho i h st.2
 keep:=fun i h h' st k=>⟨st.1,(W { callerA with handled:=none } rfl).frame i h h' st.2 k⟩
 item:=by
  intro X hP hw hK hc i pins s σ H E I hf st hg
  subst hP hw hK
  obtain ⟨f0,f1,f2,f3,f4,f5⟩:=hf it (by simp)
  refine (W X.A (I.ok.hd hc)).item i s _ _ hg st.2 fun v h' tk hv st' kk=>?_
  obtain ⟨c,u,hc',rfl⟩:=hv
  have I1:Inv X pins σ H { s with heap:=h',toks:=tk }:=I.turned (fun b o hb e=>kk b o (by simpa using hb) e) f0 f1 f3 f4 f5
  exact ⟨_,rfl,wpAny_pure ⟨.str ⟨#[c]⟩,H,I1,⟨u,rfl⟩,⟨rfl,c,hc',rfl⟩,⟨hg,st'⟩,fun b hb=>(hf b hb).1⟩⟩
 done:=by
  intro X hP hw hK hc i pins s σ H E I hf st hg
  subst hP hw hK
  obtain ⟨f0,f1,f2,f3,f4,f5⟩:=hf it (by simp)
  have e:i=x.cps.size:=Nat.le_antisymm st.1 hg
  have st2:=st.2
  rw [e] at st2
  exact (W X.A (I.ok.hd hc)).done s _ _ st2 fun h' tk kk=>⟨rfl,I.turned (fun b o hb e=>kk b o (by simpa using hb) e) f0 f1 f3 f4 f5⟩
 self:=fun A i s Q E st h=>hself A i s Q E st.2 h
theorem pi_str {y:Str}{py:Pos}{l:Expr}{tl:TE} (hl:PE X l tl):PI X (.Name y py) l (iStr tl):=by
 intro pins s σ H R I h
 refine thn (hl pins s σ H _ I h) fun v s1 ⟨x,H1,I1,r1,q1⟩=>?_
 obtain ⟨z,rfl,q⟩:=q1
 obtain ⟨t,rfl⟩:=r1
 have fin:∀ {o:Obj}{St:Nat→Heap→Prop},Turn X.prog X.w X.K (.Name y py) (Its z) [s1.heap.objs.size] s1.heap.objs.size St→St 0 (s1.heap.push o)→PIE X pins σ (.Name y py) R (.ref s1.heap.objs.size) { s1 with heap:=s1.heap.push o }:=fun {o St} T st=>by
  refine ⟨s1.heap.objs.size,[s1.heap.objs.size],St,_,H1,rfl,I1.kept (t':=s1.toks) fun b o e=>Heap.get?_push_of_some _ e,T,st,fun b hb=>?_,q⟩
  have e:b=s1.heap.objs.size:=by simpa using hb
  subst e
  exact I1.fpOk (Nat.le_refl _) (I1.hok.fresh (Nat.le_refl _))
 cases ha:z.cps.all (· < 128)
 ·refine wpAny_pyIter_wide ha (fin (turn_str (fun i h st=>?_) (fun A' hA=>Walks.strWide hA _ z t) (fun A i s Q E st h=>wpAny_pyIter_striter_wide st h) fun _ _ _ _=>trivial) ⟨Nat.zero_le _,⟨_,Heap.get?_push_size _ rfl,rfl,rfl⟩⟩)
  obtain ⟨o,e,c,d⟩:=st
  exact ⟨o,e,fun v q=>by rw [d] at q;cases q⟩
 ·refine wpAny_pyIter_ascii ha (fin (turn_str (fun i h st=>?_) (fun A' hA=>Walks.strAscii hA _ z t) (fun A i s Q E st h=>wpAny_pyIter_striter_ascii st h) fun _ _ _ _=>trivial) ⟨Nat.zero_le _,⟨_,Heap.get?_push_size _ rfl,rfl,rfl⟩⟩)
  obtain ⟨o,e,c,d⟩:=st
  exact ⟨o,e,fun v q=>by rw [d] at q;cases q⟩
end
section
variable {X:Cx}{CX:CXT}{k:Nat}{f C:Addr}{fd:FuncData}{ps ks:List Str}{sp:Sp}{E:St→XK}{x:Str}{p pos:Pos}{e:Expr}{es:List Expr}{kws:List Keyword}{t tk:TA}{g:List Value→List Value→List Value}{gV:List V→List V→List V}
end
end L2
namespace L2
open PySem PySem.Spec PyProof.Rows
theorem log2_lt64 {j:Int} (h0:0 < j) (h1:j < 2 ^ 64):j.natAbs.log2 < 9000:=by
 have:j.natAbs < 2 ^ 64:=by omega
 have h:j.natAbs.log2 < 64:=(Nat.log2_lt (by omega)).mpr this
 omega
noncomputable def CDivB (i j:Int):Prop:=0 < j∧j < 2 ^ 64
theorem op_fdivB {X:Cx}:OpR X (binaryOp .FloorDiv) (rI CDivB fun i j=>.int (i / j)):=opI fun i j _ _ _ _ _ hc q=>by
 have h1:(0:Int) < j:=hc.1
 exact floordiv_int (by omega) (by rw [Int.fdiv_eq_ediv_of_nonneg i (by omega)];exact q) (.inl (PyProof.noPylong_of_log2 (log2_lt64 hc.1 hc.2)))
mutual
inductive Has (G:Addr→Prop) (H:Hp):V→PyData→Prop where
 | non:Has G H .non .none
 | bl (b:Bool):Has G H (.bl b) (.bool b)
 | int (i:Int):Has G H (.int i) (.int i)
 | str (x:Str) (hx:x.length≤1000) (ho:PyData.strOk x=true):Has G H (.str x) (.str x)
 | lst {a:Addr}{xs:List V}{ds:List PyData}:G a→H a=some (.lst xs)→xs.length≤1000→HasAll G H xs ds→Has G H (.ref a) (.list ds)
 | tup {a:Addr}{xs:List V}{ds:List PyData}:G a→H a=some (.tup xs)→xs.length≤1000→HasAll G H xs ds→Has G H (.ref a) (.tuple ds)
inductive HasAll (G:Addr→Prop) (H:Hp):List V→List PyData→Prop where
 | nil:HasAll G H [] []
 | cons {x:V}{xs:List V}{d:PyData}{ds:List PyData}:Has G H x d→HasAll G H xs ds→HasAll G H (x :: xs) (d :: ds)
end
noncomputable abbrev Any:Addr→Prop:=fun _=>True
noncomputable def isSeq:HO→Prop
 | .lst _=>True
 | .tup _=>True
 | _=>False
mutual
theorem Has.frameS {G G':Addr→Prop}{H H':Hp} (e:∀ a o,G a→isSeq o→H a=some o→G' a∧H' a=some o):∀ {v:V}{d:PyData},Has G H v d→Has G' H' v d
 | _,_,.non=>.non
 | _,_,.bl b=>.bl b
 | _,_,.int i=>.int i
 | _,_,.str x hx ho=>.str x hx ho
 | _,_,.lst (xs:=xs) g s z h=>.lst (e _ (.lst xs) g trivial s).1 (e _ (.lst xs) g trivial s).2 z (HasAll.frameS e h)
 | _,_,.tup (xs:=xs) g s z h=>.tup (e _ (.tup xs) g trivial s).1 (e _ (.tup xs) g trivial s).2 z (HasAll.frameS e h)
theorem HasAll.frameS {G G':Addr→Prop}{H H':Hp} (e:∀ a o,G a→isSeq o→H a=some o→G' a∧H' a=some o):∀ {vs:List V}{ds:List PyData},HasAll G H vs ds→HasAll G' H' vs ds
 | _,_,.nil=>.nil
 | _,_,.cons h t=>.cons (Has.frameS e h) (HasAll.frameS e t)
end
theorem Has.frame {G G':Addr→Prop}{H H':Hp}{v:V}{d:PyData} (h:Has G H v d) (e:∀ a o,G a→H a=some o→G' a∧H' a=some o):Has G' H' v d:=h.frameS fun a o g _ q=>e a o g q
theorem HasAll.frame {G G':Addr→Prop}{H H':Hp}{v:List V}{d:List PyData} (h:HasAll G H v d) (e:∀ a o,G a→H a=some o→G' a∧H' a=some o):HasAll G' H' v d:=h.frameS fun a o g _ q=>e a o g q
theorem Has.mono {G:Addr→Prop}{H H':Hp}{v:V}{d:PyData} (h:Has G H v d) (e:Same H H'):Has G H' v d:=h.frame fun a o g q=>⟨g,e a o q⟩
theorem HasAll.mono {G:Addr→Prop}{H H':Hp}{v:List V}{d:List PyData} (h:HasAll G H v d) (e:Same H H'):HasAll G H' v d:=h.frame fun a o g q=>⟨g,e a o q⟩
theorem Has.any {G:Addr→Prop}{H:Hp}{v:V}{d:PyData} (h:Has G H v d):Has Any H v d:=h.frame fun _ _ _ q=>⟨trivial,q⟩
theorem HasAll.any {G:Addr→Prop}{H:Hp}{v:List V}{d:List PyData} (h:HasAll G H v d):HasAll Any H v d:=h.frame fun _ _ _ q=>⟨trivial,q⟩
section
variable {G:Addr→Prop}{H:Hp}
theorem HasAll.length:∀ {xs:List V}{ds:List PyData},HasAll G H xs ds→xs.length=ds.length
 | _,_,.nil=>rfl
 | _,_,.cons _ t=>by rw [List.length_cons,List.length_cons,HasAll.length t]
theorem HasAll.get:∀ {xs:List V}{ds:List PyData}{i:Nat}{x:V},HasAll G H xs ds→xs[i]? = some x→∃ d,ds[i]? = some d∧Has G H x d
 | _,_,i,x,.nil,h=>by simp at h
 | _,_,0,x,.cons a t,h=>by simp at h;subst h;exact ⟨_,rfl,a⟩
 | _,_,i + 1,x,.cons a t,h=>by
  obtain ⟨d,e,q⟩:=HasAll.get (i:=i) t (by simpa using h)
  exact ⟨d,by simpa using e,q⟩
theorem HasAll.snoc:∀ {xs:List V}{ds:List PyData}{x:V}{d:PyData},HasAll G H xs ds→Has G H x d→HasAll G H (xs++[x]) (ds++[d])
 | _,_,_,_,.nil,h=>.cons h .nil
 | _,_,_,_,.cons a t,h=>.cons a (HasAll.snoc t h)
theorem HasAll.append:∀ {xs ys:List V}{ds es:List PyData},HasAll G H xs ds→HasAll G H ys es→HasAll G H (xs++ys) (ds++es)
 | _,_,_,_,.nil,h=>h
 | _,_,_,_,.cons a t,h=>.cons a (HasAll.append t h)
theorem Has.list_inv {v:V}{ds:List PyData} (h:Has G H v (.list ds)):∃ a xs,v=.ref a∧G a∧H a=some (.lst xs)∧xs.length≤1000∧HasAll G H xs ds:=by
 cases h with
 | lst g s z q=>exact ⟨_,_,rfl,g,s,z,q⟩
mutual
theorem Has.lay:∀ {v:V}{d:PyData},Has G H v d→d.canLay0=true
 | _,_,.non=>rfl
 | _,_,.bl b=>rfl
 | _,_,.int i=>rfl
 | _,_,.str x _ ho=>ho
 | _,_,.lst _ _ _ h=>HasAll.lay h
 | _,_,.tup _ _ _ h=>HasAll.lay h
theorem HasAll.lay:∀ {vs:List V}{ds:List PyData},HasAll G H vs ds→PyData.canLayAll0 ds=true
 | _,_,.nil=>rfl
 | _,_,.cons h t=>by
  show (PyData.canLay0 _ && PyData.canLayAll0 _)=true
  rw [Has.lay h,HasAll.lay t]
  rfl
end
end
section
variable {X:Cx}{pins:List (Addr×Obj)}{σ : St}{H:Hp}{s:Shared}{G:Addr→Prop}
mutual
theorem Has.reads (I:Inv X pins σ H s):∀ {v:V}{d:PyData}{u:Value},Has G H v d→RelV v u→∃ as,Reads s.heap u d as
 | _,_,u,.non,r=>by cases (show u=Value.none from r);exact ⟨_,.none⟩
 | _,_,u,.bl b,r=>by cases (show u=Value.bool b from r);exact ⟨_,.bool b⟩
 | _,_,u,.int i,r=>by obtain ⟨t,rfl⟩:=(show ∃ t,u=Value.int i t from r);exact ⟨_,.int i t⟩
 | _,_,u,.str x _ _,r=>by obtain ⟨t,rfl⟩:=(show ∃ t,u=Value.str x t from r);exact ⟨_,.str x t⟩
 | _,_,u,.lst (a:=a) _ q _ h,r=>by
  cases (show u=Value.ref a from r)
  obtain ⟨_,its,n,rv,e⟩:=I.hok a _ q
  obtain ⟨as,ra⟩:=HasAll.reads I h rv
  exact ⟨_,.list e rfl rfl (by simpa using ra)⟩
 | _,_,u,.tup (a:=a) _ q _ h,r=>by
  cases (show u=Value.ref a from r)
  obtain ⟨_,its,rv,⟨o,e,c,n,d⟩⟩:=I.hok a _ q
  obtain ⟨as,ra⟩:=HasAll.reads I h rv
  exact ⟨_,.tuple e c d (by simpa using ra)⟩
theorem HasAll.reads (I:Inv X pins σ H s):∀ {vs:List V}{ds:List PyData}{us:List Value},HasAll G H vs ds→Vals vs us→∃ as,ReadsAll s.heap us ds as
 | _,_,_,.nil,.nil=>⟨_,.nil⟩
 | _,_,_,.cons h t,.cons r rr=>by
  obtain ⟨as,ra⟩:=Has.reads I h r
  obtain ⟨bs,rb⟩:=HasAll.reads I t rr
  exact ⟨_,.cons ra rb⟩
end
end
theorem Has.shaped {G:Addr→Prop}{H:Hp}{v:V}{d:PyData} (h:Has G H v d) (hd:d.depth≤64):SeqAt.shaped d=true:=by
 unfold SeqAt.shaped
 rw [h.lay,decide_eq_true hd]
 rfl
noncomputable def rEqD:R2:=fun x y H Q=>∃ d e,Has Any H x d∧Has Any H y e∧d.depth≤64∧e.depth≤64∧Q (.bl (PyData.eqv d e)) H
noncomputable def rNeD:R2:=fun x y H Q=>∃ d e,Has Any H x d∧Has Any H y e∧d.depth≤64∧e.depth≤64∧Q (.bl (!PyData.eqv d e)) H
theorem op_eqD {X:Cx} (hu:X.A.units + 64 < cLine):OpR X (compareOp .Eq) rEqD:=by
 intro pins s σ H x y u v Q I rx ry h
 obtain ⟨d,e,hd,he,sd,se,q⟩:=h
 obtain ⟨as,ra⟩:=hd.reads I rx
 obtain ⟨bs,rb⟩:=he.reads I ry
 exact eq_dataH ra rb (hd.shaped sd) (he.shaped se) hu ⟨.bl _,H,I,rfl,q⟩
theorem op_neD {X:Cx} (hu:X.A.units + 64 < cLine):OpR X (compareOp .NotEq) rNeD:=by
 intro pins s σ H x y u v Q I rx ry h
 obtain ⟨d,e,hd,he,sd,se,q⟩:=h
 obtain ⟨as,ra⟩:=hd.reads I rx
 obtain ⟨bs,rb⟩:=he.reads I ry
 exact ne_dataH ra rb (hd.shaped sd) (he.shaped se) hu ⟨.bl _,H,I,rfl,q⟩
theorem Has.eqv {G:Addr→Prop}{H:Hp}{v:V}{d:PyData} (h:Has G H v d):PyData.eqv d d=true:=SeqAt.eqv_refl d h.lay
section
variable {κ : Type} [DecidableEq κ]
noncomputable def dstep (acc:List κ) (x : κ):List κ:=if x∈acc then acc else acc++[x]
noncomputable def dl (l:List κ):List κ:=l.foldl dstep []
variable {prog:Program}{w:World}{A:Around}{R:Result→Shared→Prop}{I:Addr}{fp wr:List Addr}{n:Nat}{P:Nat→Value→Prop}{St:Nat→Heap→Prop}
end
end L2
namespace L2
open PySem PySem.Spec PyProof.Rows
section
variable {κ : Type} [DecidableEq κ] {prog:Program}{w:World}{A:Around}{E:Value→Shared→Prop}{z:Shared}
end
section
variable {X:Cx}
end
end L2
namespace L2
open PySem PySem.Spec PyProof.Rows
theorem ScOk.auto {X:Cx}{sc:Scope}{cl:List (Str×Addr)}{T:List Str} (h1:closureFor sc X.env=pure cl:=by rfl) (h2:(sc.names.all fun y=>y.2 != .cell)=true:=by rfl) (h3:sc.kind=.function:=by rfl)
  (h4:(sc.names.all fun x=>x.2 != .local || sc.names.lookup x.1 == some .local)=true:=by rfl)
  (h5:ClOk X cl:=by first | exact trivial | exact ⟨rfl,trivial⟩ | exact ⟨rfl,rfl,trivial⟩ | exact ⟨rfl,rfl,rfl,trivial⟩ | exact ⟨rfl,rfl,rfl,rfl,trivial⟩)
  (h6:(sc.names.all fun x=>x.2 != .free || ((cl.lookup x.1).isSome && (X.env.scope.names.lookup x.1 == some .cell || X.env.scope.names.lookup x.1 == some .free)))=true:=by rfl)
  (h7:(X.N.all fun x=>sc.names.lookup x != some .local)=true:=by rfl):ScOk X sc cl T where
 clos:=h1
 cell:=fun y hy=>by have:=List.all_eq_true.mp h2 y hy;simpa using this
 kind:=h3
 names:=fun x hx hl=>by
  have:=List.all_eq_true.mp h4 x hx
  rw [hl] at this
  simpa using this
 cls:=h5
 has:=fun x hx hf=>by
  have:=List.all_eq_true.mp h6 x hx
  rw [hf] at this
  simpa using this
 out:=fun x hx=>by have:=List.all_eq_true.mp h7 x hx;simpa using this
theorem zDr {J:It}{n k:Nat}{σ : St}{H:Hp}{g:TG}{tt:TT}{te:TE}{Q:VK} (Pv:Nat→List V→Hp→Prop) (h0:Pv 0 [] H) (go:∀ i ys H,i < n→Pv i ys H→J.go i H) (stop:∀ ys H,Pv n ys H→J.stop n H)
  (hz:∀ i ys H,i≤n→Pv i ys H→ys.length≤sizeLine)
  (hs:∀ i ys H x H',i < n→Pv i ys H→J.yld i H x H'→∀ N:List V→Hp→Prop,(∀ ys H,Pv (i + 1) ys H→N ys H)→g x (σ++List.replicate k none) H' fun σ2 H2=>tt σ2 H2 fun b H3=>if b=true then te σ2 H3 fun y H4=>N (ys++[y]) H4 else N ys H3)
  (hd:∀ ys H,Pv n ys H→∀ p,H p=none→Q (.ref p) (upd H p (.lst ys))):CompGoal J k σ H g tt te Q:=by
 refine ⟨fun i m ys H=>m=n - i∧i≤n∧Pv i ys H,⟨n,by simp,Nat.zero_le _,h0⟩,?_⟩
 rintro i m ys H ⟨rfl,hi,p⟩
 by_cases lt:i < n
 ·exact .inr ⟨go i ys H lt p,hz _ _ _ hi p,fun x H' y=>hs i ys H x H' lt p y (fun ys' H'=>∃ m',m' < n - i∧m'=n - (i + 1)∧i + 1≤n∧Pv (i + 1) ys' H') fun ys' H' q=>⟨n - (i + 1),by omega,rfl,lt,q⟩⟩
 ·obtain rfl:i=n:=by omega
  exact .inl ⟨stop _ _ p,hz _ _ _ hi p,hd _ _ p⟩
theorem zC6 {x:Str}{k:Nat}{σ : St}{H:Hp}{g:TG}{tt:TT}{te:TE}{Q:VK} (p:Nat→Bool) (f:Nat→V) (hz:x.length≤sizeLine)
  (hs:∀ c (Ry:VK) (Rn:Hp→Prop),(p c=true→Ry (f c) H)→(p c=false→Rn H)→g (.str ⟨#[c]⟩) (σ++List.replicate k none) H fun σ2 H2=>tt σ2 H2 fun b H3=>if b=true then te σ2 H3 Ry else Rn H3)
  (hd:∀ q,H q=none→Q (.ref q) (upd H q (.lst ((x.cps.toList.filter p).map f)))):CompGoal (Its x) k σ H g tt te Q:=by
 have hlen:x.cps.toList.length=x.length:=by rw [Array.length_toList];rfl
 refine zDr (J:=Its x) (n:=x.length) (fun i ys H'=>H'=H∧ys=((x.cps.toList.take i).filter p).map f) ⟨rfl,rfl⟩ (fun i ys H' lt _=>lt) (fun ys H' _=>Nat.le_refl _) (fun i ys H' hi q=>?_) ?_ ?_
 ·obtain ⟨_,rfl⟩:=q
  rw [List.length_map]
  have a:=List.length_filter_le p (x.cps.toList.take i)
  have b:=List.length_take_le i x.cps.toList
  omega
 ·rintro i ys H' v H2 lt ⟨rfl,rfl⟩ ⟨rfl,c,hc,rfl⟩ N hN
  have hc':x.cps.toList[i]? = some c:=by rw [Array.getElem?_toList];exact hc
  refine hs c _ _ (fun e=>hN _ _ ⟨rfl,?_⟩) (fun e=>hN _ _ ⟨rfl,?_⟩)
  ·rw [List.take_add_one,hc',List.filter_append]
   simp [e]
  ·rw [List.take_add_one,hc',List.filter_append]
   simp [e]
 ·rintro ys H' ⟨rfl,rfl⟩ q hq
  rw [← hlen,List.take_length]
  exact hd q hq
theorem comp_list {K:PySem.W.Frag}{a:Addr}{xs:List V}{k:Nat}{σ : St}{H:Hp}{g:TG}{tt:TT}{te:TE}{Q:VK} (Pv:Nat→List V→Hp→Prop) (h0:Pv 0 [] H) (hl:∀ i ys H,Pv i ys H→SqL K H a xs)
  (hz:∀ i ys H,i≤xs.length→Pv i ys H→ys.length≤sizeLine)
  (hs:∀ i x ys H,xs[i]? = some x→Pv i ys H→∀ N:List V→Hp→Prop,(∀ ys H,Pv (i + 1) ys H→N ys H)→g x (σ++List.replicate k none) H fun σ2 H2=>tt σ2 H2 fun b H3=>if b=true then te σ2 H3 fun y H4=>N (ys++[y]) H4 else N ys H3)
  (hd:∀ ys H,Pv xs.length ys H→∀ p,H p=none→Q (.ref p) (upd H p (.lst ys))):CompGoal (Itl K a) k σ H g tt te Q:=by
 refine zDr (J:=Itl K a) (n:=xs.length) Pv h0 (fun i ys H lt p=>⟨xs,xs[i],hl i ys H p,List.getElem?_eq_getElem lt⟩) (fun ys H p=>⟨xs,hl _ ys H p,Nat.le_refl _⟩) hz ?_ hd
 rintro i ys H x H' lt p ⟨rfl,y⟩ N hN
 exact hs i x ys _ (y xs (hl _ _ _ p)) p N hN
theorem comp_range {lo:Int}{n k:Nat}{σ : St}{H:Hp}{g:TG}{tt:TT}{te:TE}{Q:VK} (Pv:Nat→List V→Hp→Prop) (h0:Pv 0 [] H)
  (hz:∀ i ys H,i≤n→Pv i ys H→ys.length≤sizeLine)
  (hs:∀ i ys H,i < n→Pv i ys H→∀ N:List V→Hp→Prop,(∀ ys H,Pv (i + 1) ys H→N ys H)→g (.int (lo + i)) (σ++List.replicate k none) H fun σ2 H2=>tt σ2 H2 fun b H3=>if b=true then te σ2 H3 fun y H4=>N (ys++[y]) H4 else N ys H3)
  (hd:∀ ys H,Pv n ys H→∀ p,H p=none→Q (.ref p) (upd H p (.lst ys))):CompGoal (Itr lo n) k σ H g tt te Q:=by
 refine zDr (J:=Itr lo n) (n:=n) Pv h0 (fun i ys H lt p=>lt) (fun ys H p=>Nat.le_refl _) hz ?_ hd
 rintro i ys H x H' lt p ⟨rfl,rfl⟩ N hN
 exact hs i ys _ lt p N hN
theorem pick {A B:St→Hp→Prop}{σ : St}{H:Hp}{i:Nat}{x:V} (h:A (σ.set i (some x)) H):gName i x σ H fun σ2 H2=>tYes σ2 H2 fun b H3=>if b=true then A σ2 H3 else B σ2 H3:=by
 show if true=true then A (σ.set i (some x)) H else B (σ.set i (some x)) H
 rw [if_pos rfl]
 exact h
theorem Fun.okC {P:Program}{w:World}{K:PySem.W.Frag}{mg:Str→Option Value}{base:Heap}{CX:CXT}{x qual:Str}{st:Stmt}{f:Addr}{fd:FuncData}{N ps:List Str}{k:Nat}{sp:Sp} (F:Fun K x qual st f fd) (S:FnScope N ps (defScope st)) (len:∀ vs H Q E,sp vs H Q E→vs.length=ps.length)
  (hbody:∀ (cdv:Value) (A:Around) (outer:List Env) (s:Shared) (H:Hp) (vs:List V) (Q:VK) (E:XK),Room k (A.deeper (envOfC qual (defScope st) s.heap.objs.size f cdv))→sp vs H Q E →
   ∃ t,PSs (cxOf CX P w K mg base N qual (defScope st) f cdv A outer s H E).nox (defBody st) t∧t { nx:=fun _ H'=>Q .non H',rt:=Q } (start N vs) H):FnOk P w K mg base CX (k + 1) f fd ps sp:=by
 obtain ⟨oc,od,kV,doc,pm,an,cdv,ct,osl,rfl,lk,hcd⟩:=F.ex
 refine fn_of lk hcd S len fun A outer s H vs Q E hr hsp=>?_
 obtain ⟨t,h,q⟩:=hbody cdv A outer s H vs Q E hr hsp
 exact ⟨t,h.nox,q⟩
noncomputable def Calm (CX:CXT):Prop:=∀ o H s e s',CX o H s (fun _ _ _=>False) e s'→False
theorem passC {CX:CXT} (h:Calm CX) {X:Cx}:Passes CX X E0:=fun _ _ _ _ _ _ _ q=>(h _ _ _ _ _ q).elim
structure Def (K:PySem.W.Frag) (mg:Str→Option Value) (x:Str) (st:Stmt) (ps:List Str) (f:Addr) (fd:FuncData):Prop where
 fn:Fun K x x st f fd
 at_:mg x=some (.ref f)
 bind:Binds K fd ps []
theorem Same.new {H:Hp}{p:Addr}{o:HO} (h:H p=none):Same H (upd H p o):=fun b u e=>by rw [zA9 (zA8 e h)];exact e
end L2
namespace L2
open PySem PySem.Spec PyProof.Rows
section
variable {X:Cx}{pins:List (Addr×Obj)}{σ : St}{H:Hp}{s:Shared}
end
section
variable {X:Cx}
theorem strs_vals:∀ {ks:List Str}{us:List Value},Vals (ks.map V.str) us→∃ l:List (Str×Tok),us=strValues l∧l.map (·.1)=ks
 | [],_,.nil=>⟨[],rfl,rfl⟩
 | k :: r,_,.cons a t=>by
  obtain ⟨tk,rfl⟩:=a
  obtain ⟨l,e1,e2⟩:=strs_vals t
  exact ⟨(k,tk) :: l,by rw [e1];rfl,by rw [List.map_cons,e2]⟩
theorem mt_join {K:PySem.W.Frag} (hK:X.K=K):MtR X "str.join" (fun x xs H Q=>∃ (z:Str) (p:Addr) (ks:List Str),x=.str z∧xs=[.ref p]∧SqL K H p (ks.map V.str)∧PySem.JoinOk z ks=true∧Q (.str (Txt.join z ks)) H):=by
 subst hK
 intro pins s σ H x xs v us Q I rx rs h
 obtain ⟨z,p,ks,rfl,rfl,hp,hj,q⟩:=h
 obtain ⟨t,rfl⟩:=rx
 obtain ⟨u,rfl,ru⟩:=v1 rs
 cases (show u=Value.ref p from ru)
 obtain ⟨its,rv,pl,_⟩:=I.list hp
 obtain ⟨l,rfl,el⟩:=strs_vals rv
 exact PySem.SC.join pl.isList el hj fun t' k=>⟨.str _,H,I.tok k,⟨t',rfl⟩,q⟩
end
end L2
namespace L2
open PySem PySem.Spec PyProof.Rows
section
variable {X:Cx}{K:PySem.W.Frag}{o e:Expr}{es:List Expr}{to ta tl:TE}{t:TA}{name f:Str}{apos cpos pos:Pos}{T id:String}{r:V→List V→Hp→VK→Prop}{tg:Expr}
end
end L2
namespace L2
open PySem PySem.Spec PyProof.Rows
end L2
namespace L2
open PySem PySem.Spec PyProof.Rows
section
variable {X:Cx}
end
end L2
namespace L2
open PySem PySem.Spec PyProof.Rows
noncomputable def Kept (h h':Heap):Prop:=∀ b o,h.get? b=some o→h'.get? b=some o
theorem Kept.trans {a b c:Heap} (x:Kept a b) (y:Kept b c):Kept a c:=fun p o e=>y p o (x p o e)
noncomputable def ltS (a b:Str):Prop:=a.cps.toList < b.cps.toList
noncomputable instance (a b:Str):Decidable (ltS a b):=inferInstanceAs (Decidable (a.cps.toList < b.cps.toList))
section
variable {P:Program}{w:World}{A:Around}{E:Value→Shared→Prop}{z:Shared}{g:Heap}{l q I S:Addr}{vs:List Value}{R:Result→Shared→Prop}
end
end L2
namespace L2
open PySem PySem.Spec PyProof.Rows
noncomputable def CodeO (c:Addr) (q:Str):HO:=.ext fun h=>h.CodeRec (.ref c) q
noncomputable def TabOk (H:Hp) (P:Addr) (pos:Pos) (q:Str):Prop:=H P=some (.tbl #[])∨∃ c,H P=some (.tbl #[rawInt pos.line,rawInt pos.col,.ref c])∧H c=some (CodeO c q)
theorem TabOk.ne {H:Hp}{P:Addr}{pos:Pos}{q:Str} (T:TabOk H P pos q) {a:Addr}{o:HO} (e:H a=some o) (h:∀ ps,o≠.tbl ps):a≠P:=by
 rintro rfl
 rcases T with z | ⟨c,z,_⟩ <;> rw [e] at z <;> exact h _ (Option.some.inj z)
section
variable {X:Cx}{pins:List (Addr×Obj)}{σ : St}{H:Hp}{s:Shared}{A:Around}{E:Value→Shared→Prop}
end
section
variable {P:Program}{w:World}{A:Around}{z:Shared}
end
section
variable {X:Cx}
end
end L2
namespace L2
open PySem PySem.Spec PyProof.Rows
end L2
namespace L2
open PySem PySem.Spec PyProof.Rows
section
variable {X:Cx}
end
noncomputable def Froze (H:Hp) (d:Addr) (kvs:List (Key×V)) (H':Hp):Prop:=∃ o,H'=upd H d (.frz o (.dK kvs))
theorem Froze.at {H H':Hp}{d:Addr}{kvs:List (Key×V)} (z:Froze H d kvs H'):Rd H' d (.dK kvs):=by
 obtain ⟨o,rfl⟩:=z
 exact .inr ⟨o,zA1⟩
theorem Froze.ne {H H':Hp}{d:Addr}{kvs:List (Key×V)} (z:Froze H d kvs H') {b:Addr} (h:b≠d):H' b=H b:=by
 obtain ⟨o,rfl⟩:=z
 exact zA9 h
section
variable {X:Cx}{pins:List (Addr×Obj)}{σ : St}{H:Hp}{s:Shared}{d:Addr}{kvs:List (Key×V)}
end
theorem KV.len {κ : Type}{kvs:List (κ×V)}{vs:List (κ×Value)} (h:KV kvs vs):kvs.length=vs.length:=Paired.length h
theorem key_rel {k:Key}{v:Value} (h:keyIs k v=true):RelV (kV k) v:=by
 rcases zAm h with ⟨i,t,rfl,rfl⟩ | ⟨x,t,rfl,rfl⟩
 ·exact ⟨t,rfl⟩
 ·exact ⟨t,rfl⟩
section
variable {X:Cx}{tg:Expr}
end
end L2
namespace L2
open PySem PySem.Spec PyProof.Rows
section
variable {P:Program}{w:World}{A:Around}{E:Value→Shared→Prop}
end
section
variable {X:Cx}
end
end L2
namespace L2
open PySem PySem.Spec PyProof.Rows
section
variable {X:Cx}
end
structure FunL (K:PySem.W.Frag) (x qual:Str) (st:Stmt) (f:Addr) (fd:FuncData) (c:Addr):Prop where
 ex:∃ (oc:Value) (od:Option Addr) (kV doc pm:Value) (an:Option Addr) (ct:Value) (osl:Array (Option Value)),
  fd=PySem.W.fnOf x qual (defArgs st) (defBody st) (defScope st) .none kV doc pm an (.ref c) ct∧K.lookup f=some ⟨oc,od,.func fd,osl⟩∧PySem.W.codeIn K (.ref c) qual=true
 kp:PySem.W.keepIn K (.ref f)=true
theorem FunL.okC {P:Program}{w:World}{K:PySem.W.Frag}{mg:Str→Option Value}{base:Heap}{CX:CXT}{x qual:Str}{st:Stmt}{f c:Addr}{fd:FuncData}{N ps:List Str}{k:Nat}{sp:Sp} (F:FunL K x qual st f fd c) (S:FnScope N ps (defScope st)) (len:∀ vs H Q E,sp vs H Q E→vs.length=ps.length)
  (hbody:∀ (A:Around) (outer:List Env) (s:Shared) (H:Hp) (vs:List V) (Q:VK) (E:XK),Room k (A.deeper (envOfC qual (defScope st) s.heap.objs.size f (.ref c)))→sp vs H Q E →
   ∃ t,PSs (cxOf CX P w K mg base N qual (defScope st) f (.ref c) A outer s H E).nox (defBody st) t∧t { nx:=fun _ H'=>Q .non H',rt:=Q } (start N vs) H):FnOk P w K mg base CX (k + 1) f fd ps sp:=by
 obtain ⟨oc,od,kV,doc,pm,an,ct,osl,rfl,lk,hcd⟩:=F.ex
 refine fn_of lk hcd S len fun A outer s H vs Q E hr hsp=>?_
 obtain ⟨t,h,q⟩:=hbody A outer s H vs Q E hr hsp
 exact ⟨t,h.nox,q⟩
end L2
namespace L2
open PySem PySem.Spec PyProof.Rows
theorem cut_first {c:Nat}:∀ {p q A B:List Nat},(∀ d∈p,d≠c)→(∀ d∈q,d≠c)→p++c :: A=q++c :: B→p=q∧A=B
 | [],[],_,_,_,_,h=>⟨rfl,by simpa using h⟩
 | [],y :: q,_,_,_,hq,h=>by
  simp at h
  exact absurd h.1.symm (hq y (by simp))
 | x :: p,[],_,_,hp,_,h=>by
  simp at h
  exact absurd h.1 (hp x (by simp))
 | x :: p,y :: q,_,_,hp,hq,h=>by
  simp at h
  obtain ⟨e1,e2⟩:=h
  obtain ⟨a,b⟩:=cut_first (fun d hd=>hp d (by simp [hd])) (fun d hd=>hq d (by simp [hd])) e2
  exact ⟨by rw [e1,a],b⟩
noncomputable def freeOf (c:Nat) (x:Str):Prop:=∀ d∈x.cps.toList,d≠c
theorem zBx {x y:Str} (h:x.cps.toList=y.cps.toList):x=y:=by
 obtain ⟨⟨a⟩⟩:=x
 obtain ⟨⟨b⟩⟩:=y
 simp at h
 rw [h]
theorem zAj (x y:Str):(x++y).cps.toList=x.cps.toList++y.cps.toList:=by
 show (x.cps++y.cps).toList=_
 simp
theorem join_inj {c:Nat}:∀ {ps qs:List Str},(∀ p∈ps,freeOf c p)→(∀ q∈qs,freeOf c q)→ps≠[]→qs≠[]→Str.join ⟨#[c]⟩ ps=Str.join ⟨#[c]⟩ qs→ps=qs
 | [],_,_,_,h,_,_=>absurd rfl h
 | _,[],_,_,_,h,_=>absurd rfl h
 | [p],[q],_,_,_,_,h=>by
  have:p=q:=h
  rw [this]
 | [p],q :: q2 :: r,hp,_,_,_,h=>by
  have h':p=q++⟨#[c]⟩++Str.join ⟨#[c]⟩ (q2 :: r):=h
  exact absurd rfl (hp p (by simp) c (by rw [h',zAj,zAj];simp))
 | p :: p2 :: r,[q],_,hq,_,_,h=>by
  have h':p++⟨#[c]⟩++Str.join ⟨#[c]⟩ (p2 :: r)=q:=h
  exact absurd rfl (hq q (by simp) c (by rw [← h',zAj,zAj];simp))
 | p :: p2 :: r,q :: q2 :: t,hp,hq,_,_,h=>by
  have h':p++⟨#[c]⟩++Str.join ⟨#[c]⟩ (p2 :: r)=q++⟨#[c]⟩++Str.join ⟨#[c]⟩ (q2 :: t):=h
  have e:=congrArg (fun x:Str=>x.cps.toList) h'
  simp only [zAj] at e
  have e2:p.cps.toList++c :: (Str.join ⟨#[c]⟩ (p2 :: r)).cps.toList=q.cps.toList++c :: (Str.join ⟨#[c]⟩ (q2 :: t)).cps.toList:=by simpa using e
  obtain ⟨a,b⟩:=cut_first (hp p (by simp)) (hq q (by simp)) e2
  rw [zBx a,join_inj (fun x hx=>hp x (List.mem_cons_of_mem _ hx)) (fun x hx=>hq x (List.mem_cons_of_mem _ hx)) (by simp) (by simp) (zBx b)]
theorem split_join {c:Nat}{ws:List Str} (h:∀ w∈ws,freeOf c w) (ne:ws≠[]):Txt.split (Str.join ⟨#[c]⟩ ws) ⟨#[c]⟩=ws:=by
 refine join_inj (fun p hp d hd e=>?_) h ?_ ne (StrLaws.join_split _ _)
 ·exact StrLaws.split_free _ c p hp (e ▸ hd)
 ·intro z
  have:=split_pos (Str.join ⟨#[c]⟩ ws) ⟨#[c]⟩
  rw [z] at this
  simp at this
noncomputable def evens {α : Type}:List α→List α
 | []=>[]
 | [a]=>[a]
 | a :: _ :: r=>a :: evens r
noncomputable def odds {α : Type}:List α→List α
 | []=>[]
 | [_]=>[]
 | _ :: b :: r=>b :: odds r
theorem pick_even {α : Type}:∀ (n:Nat) (l:List α),l.length≤n→(List.range ((l.length + 1) / 2)).filterMap (fun k=>l[2 * k]?)=evens l
 | 0,[],_=>by simp [evens]
 | _ + 1,[],_=>by simp [evens]
 | n + 1,[a],_=>by simp [List.range_succ,evens]
 | n + 1,a :: b :: r,h=>by
  have e:((a :: b :: r).length + 1) / 2=(r.length + 1) / 2 + 1:=by simp;omega
  rw [e,List.range_succ_eq_map,List.filterMap_cons]
  show a :: _=a :: evens r
  have f:((fun k=>(a :: b :: r)[2 * k]?) ∘ Nat.succ)=fun k=>r[2 * k]?:=by
   funext k
   show (a :: b :: r)[2 * (k + 1)]? = r[2 * k]?
   rw [show 2 * (k + 1)=2 * k + 1 + 1 by omega]
   rfl
  rw [List.filterMap_map,← pick_even n r (by simp at h;omega),f]
theorem pick_odd {α : Type}:∀ (n:Nat) (l:List α),l.length≤n→(List.range (l.length / 2)).filterMap (fun k=>l[2 * k + 1]?)=odds l
 | 0,[],_=>by simp [odds]
 | _ + 1,[],_=>by simp [odds]
 | n + 1,[a],_=>by simp [odds]
 | n + 1,a :: b :: r,h=>by
  have e:(a :: b :: r).length / 2=r.length / 2 + 1:=by simp;omega
  rw [e,List.range_succ_eq_map,List.filterMap_cons]
  show b :: _=b :: odds r
  have f:((fun k=>(a :: b :: r)[2 * k + 1]?) ∘ Nat.succ)=fun k=>r[2 * k + 1]?:=by
   funext k
   show (a :: b :: r)[2 * (k + 1) + 1]? = r[2 * k + 1]?
   rw [show 2 * (k + 1) + 1=2 * k + 1 + 1 + 1 by omega]
   rfl
  rw [List.filterMap_map,← pick_odd n r (by simp at h;omega),f]
theorem slice_even (its:List Value):slicePick its.toArray none none (some 2)=(evens its).toArray:=by
 unfold slicePick sliceBounds sliceRange
 simp only [List.size_toArray]
 rw [← pick_even its.length its (Nat.le_refl _)]
 congr 1
 have hc:(if (2:Int) > 0 then if (0:Int) < (its.length:Int) then ((its.length:Int) - 0 + 2 - 1) / 2 else 0 else if (0:Int) > (its.length:Int) then (0 - (its.length:Int) - 2 - 1) / (-2) else 0).toNat=(its.length + 1) / 2:=by
  rw [if_pos (by decide)]
  split <;> omega
 show List.filterMap (fun (k:Nat)=>its.toArray[k]?) (List.map _ (List.range (if (2:Int) > 0 then if (0:Int) < (its.length:Int) then ((its.length:Int) - 0 + 2 - 1) / 2 else 0 else if (0:Int) > (its.length:Int) then (0 - (its.length:Int) - 2 - 1) / (-2) else 0).toNat))=_
 rw [hc,List.filterMap_map]
 congr 1
 funext k
 show its.toArray[((0:Int) + 2 * (k:Int)).toNat]? = its[2 * k]?
 rw [show ((0:Int) + 2 * (k:Int)).toNat=2 * k by omega]
 simp
theorem bounds_odd (n:Nat) (h:1≤n):sliceBounds (some 1) none (some 2) n=((1:Int),(n:Int),(2:Int)):=by
 unfold sliceBounds
 have:max (0:Int) (min 1 (n:Int))=1:=by omega
 simp [this]
theorem slice_odd (its:List Value) (h:1≤its.length):slicePick its.toArray (some 1) none (some 2)=(odds its).toArray:=by
 unfold slicePick
 rw [List.size_toArray,bounds_odd _ h,← pick_odd its.length its (Nat.le_refl _)]
 congr 1
 have hc:(if (2:Int) > 0 then if (1:Int) < (its.length:Int) then ((its.length:Int) - 1 + 2 - 1) / 2 else 0 else if (1:Int) > (its.length:Int) then (1 - (its.length:Int) - 2 - 1) / (-2) else 0).toNat=its.length / 2:=by
  rw [if_pos (by decide)]
  split <;> omega
 show List.filterMap (fun (k:Nat)=>its.toArray[k]?) (List.map (fun (k:Nat)=>((1:Int) + 2 * (k:Int)).toNat) (List.range (if (2:Int) > 0 then if (1:Int) < (its.length:Int) then ((its.length:Int) - 1 + 2 - 1) / 2 else 0 else if (1:Int) > (its.length:Int) then (1 - (its.length:Int) - 2 - 1) / (-2) else 0).toNat))=_
 rw [hc,List.filterMap_map]
 congr 1
 funext k
 show its.toArray[((1:Int) + 2 * (k:Int)).toNat]? = its[2 * k + 1]?
 rw [show ((1:Int) + 2 * (k:Int)).toNat=2 * k + 1 by omega]
 simp
end L2
namespace L2
open PySem PySem.Spec PyProof.Rows
section
variable {X:Cx}
theorem zDg:MtR X "str.startswith" (fun x xs H Q=>∃ z y,x=.str z∧xs=[.str y]∧Q (.bl (Txt.startswith z y)) H):=by
 intro pins s σ H x xs v us Q I rx rs h
 obtain ⟨z,y,rfl,rfl,q⟩:=h
 obtain ⟨t,rfl⟩:=rx
 obtain ⟨u,rfl,ru⟩:=v1 rs
 obtain ⟨t',rfl⟩:=ru
 exact PySem.SC.startswith ⟨.bl _,H,I,rfl,q⟩
theorem zC7:∀ {l:List (Str×Tok)},Vals ((l.map (·.1)).map V.str) (strValues l)
 | []=>.nil
 | (k,t) :: r=>.cons ⟨t,rfl⟩ zC7
theorem mt_split:MtR X "str.split" (fun x xs H Q=>∃ z y,x=.str z∧xs=[.str y]∧(y.length == 0)=false∧z.length≤100000∧∀ p,H p=none→Q (.ref p) (upd H p (.lst ((Txt.split z y).map V.str)))):=by
 intro pins s σ H x xs v us Q I rx rs h
 obtain ⟨z,y,rfl,rfl,hy,hz,q⟩:=h
 obtain ⟨t,rfl⟩:=rx
 obtain ⟨u,rfl,ru⟩:=v1 rs
 obtain ⟨t',rfl⟩:=ru
 have sl:z.length + 2≤sizeLine:=by rw [sizeLine_eq];omega
 have hl:=split_le z y
 have fr:H s.heap.objs.size=none:=I.hok.fresh (Nat.le_refl _)
 have fin:∀ (l:List (Str×Tok)) (k:Nat),l.map (·.1)=Txt.split z y→EP X pins σ Q (.ref s.heap.objs.size) { s with heap:=s.heap.push { cls:=.type "list",data:=.seq (strValues l).toArray },toks:=k }:=fun l k e=>by
  have vv:Vals ((Txt.split z y).map V.str) (strValues l):=by rw [← e];exact zC7
  exact ⟨.ref _,_,I.laid (t':=k) (a:=s.heap.objs.size) (o:=.lst ((Txt.split z y).map V.str)) (fun b o e=>Heap.get?_push_of_some _ e) (Nat.le_refl _) ⟨by rw [List.length_map];omega,_,_,vv,Heap.get?_push_size _ rfl⟩,rfl,q _ fr⟩
 have at_:=F.slot_str_split
 cases h1:(decide (z.length < y.length) || decide (Builtin.Str.strKind z < Builtin.Str.strKind y)) with
 | true=>exact call_meets at_ (typeIs_str _ _ _) F.entry_str_split (F.args_str_split_2 _ _) (meets_str_split_cannot_occur z y t t' h1) (fin [(z,t)] s.toks (if_pos h1).symm)
 | false =>
  have n1:¬ (decide (z.length < y.length) || decide (Builtin.Str.strKind z < Builtin.Str.strKind y))=true:=by rw [h1];decide
  cases hf:(Builtin.Str.occurrences z y 0 z.length (z.length + 1)).isEmpty with
  | true=>exact call_meets at_ (typeIs_str _ _ _) F.entry_str_split (F.args_str_split_2 _ _) (meets_str_split_not_found z y t t' h1 hy hf) (fin [(z,t)] s.toks ((if_neg n1).trans (if_pos hf)).symm)
  | false =>
   have n2:¬ (Builtin.Str.occurrences z y 0 z.length (z.length + 1)).isEmpty=true:=by rw [hf];decide
   have e:Txt.split z y=Builtin.Str.partsBetween z (Builtin.Str.occurrences z y 0 z.length (z.length + 1)) y.length:=(if_neg n1).trans (if_neg n2)
   refine call_meets at_ (typeIs_str _ _ _) F.entry_str_split (F.args_str_split_2 _ _) (meets_str_split_sep z y t t' h1 hy hf (by omega) (by rw [← e];omega)) ?_
   have:=fin (numbered s.toks (Builtin.Str.partsBetween z (Builtin.Str.occurrences z y 0 z.length (z.length + 1)) y.length)) (s.toks + (Builtin.Str.partsBetween z (Builtin.Str.occurrences z y 0 z.length (z.length + 1)) y.length).length) ((numbered_texts _ _).trans e.symm)
   rw [← strsFrom_eq] at this
   exact this
theorem Vals.evens:∀ {xs:List V}{us:List Value},Vals xs us→Vals (evens xs) (evens us)
 | [],_,h=>by cases h;exact .nil
 | [_],_,h=>by
  cases h with
  | cons a t=>cases t;exact .cons a .nil
 | _ :: _ :: _,_,h=>by
  cases h with
  | cons a t =>
   cases t with
   | cons b t=>exact .cons a (Vals.evens t)
theorem Vals.odds:∀ {xs:List V}{us:List Value},Vals xs us→Vals (odds xs) (odds us)
 | [],_,h=>by cases h;exact .nil
 | [_],_,h=>by
  cases h with
  | cons a t=>cases t;exact .nil
 | _ :: _ :: _,_,h=>by
  cases h with
  | cons a t =>
   cases t with
   | cons b t=>exact .cons b (Vals.odds t)
theorem zDp {α : Type}:∀ l:List α,(evens l).length≤l.length
 | []=>Nat.le_refl _
 | [_]=>Nat.le_refl _
 | _ :: _ :: r=>by
  have:=zDp r
  simp [evens]
  omega
theorem odds_le {α : Type}:∀ l:List α,(odds l).length≤l.length
 | []=>Nat.le_refl _
 | [_]=>Nat.zero_le _
 | _ :: _ :: r=>by
  have:=odds_le r
  simp [odds]
  omega
noncomputable def rEven (K:PySem.W.Frag) (te:TE):TE:=fun σ H Q=>te σ H fun x H1=>∃ a xs,x=.ref a∧SqL K H1 a xs∧∀ p,H1 p=none→Q (.ref p) (upd H1 p (.lst (evens xs)))
noncomputable def rOdd (K:PySem.W.Frag) (te:TE):TE:=fun σ H Q=>te σ H fun x H1=>∃ a xs,x=.ref a∧SqL K H1 a xs∧1≤xs.length∧∀ p,H1 p=none→Q (.ref p) (upd H1 p (.lst (odds xs)))
theorem pe_even {e:Expr}{te:TE}{k:Nat}{p1 p3 pos:Pos} (he:PE X e te):PE X (.Subscript e (.Slice none none (some (.Constant (.int 2) k p1)) p3) pos) (rEven X.K te):=by
 intro pins s σ H Q I h
 refine Subscript_ (thn (he pins s σ H _ I h) fun v s1 ⟨x,H1,I1,r1,q1⟩=>?_)
 obtain ⟨a,xs,rfl,hx,q⟩:=q1
 cases r1
 refine wpAny_Slice ?_
 rw [evalPart_none]
 refine wpAny_pure (wpAny_pure ?_)
 rw [evalPart_some]
 refine thn (zA5 (X:=X) (i:=2) pins s1 σ H1 (fun y H2=>y=.int 2∧H2=H1) I1 ⟨rfl,rfl⟩) fun u s2 ⟨y,H2,I2,r2,ey,eh⟩=>?_
 subst ey eh
 obtain ⟨t,rfl⟩:=r2
 have I4:Inv X pins σ H2 { s2 with heap:=s2.heap.push { cls:=.type "slice",data:=.fields #[.none,.none,.int 2 t] } }:=I2.kept (t':=s2.toks) fun b ob q=>Heap.get?_push_of_some _ q
 obtain ⟨its,r,ht,hz⟩:=I4.list hx
 have hlen:=r.length
 refine tail_any (ops:=[.ref a,.ref s2.heap.objs.size]) ht.isList.typeIs slot_list_getitem.lookup ?_ (by with_unfolding_all rfl)
 refine wpAny_getItem_list_slice ht.isList (Heap.IsSliceOf.new ..) .none .none (.int _ _) (by decide) ?_ (by rw [List.size_toArray];omega)
 rw [slice_even]
 have le:=zDp xs
 exact ⟨.ref _,_,I4.laid (t':=s2.toks) (o:=.lst (evens xs)) (fun b ob q=>Heap.get?_push_of_some _ q) (Nat.le_refl _) ⟨by omega,_,0,r.evens,Heap.get?_push_size _ rfl⟩,rfl,q _ (I4.hok.fresh (Nat.le_refl _))⟩
theorem pe_odd {e:Expr}{te:TE}{k k':Nat}{p1 p2 p3 pos:Pos} (he:PE X e te):PE X (.Subscript e (.Slice (some (.Constant (.int 1) k' p2)) none (some (.Constant (.int 2) k p1)) p3) pos) (rOdd X.K te):=by
 intro pins s σ H Q I h
 refine Subscript_ (thn (he pins s σ H _ I h) fun v s1 ⟨x,H1,I1,r1,q1⟩=>?_)
 obtain ⟨a,xs,rfl,hx,h1,q⟩:=q1
 cases r1
 refine wpAny_Slice ?_
 rw [evalPart_some]
 refine thn (zA5 (X:=X) (i:=1) pins s1 σ H1 (fun y H2=>y=.int 1∧H2=H1) I1 ⟨rfl,rfl⟩) fun u0 s0 ⟨y0,H0,I0,r0,ey0,eh0⟩=>?_
 subst ey0 eh0
 obtain ⟨t0,rfl⟩:=r0
 rw [evalPart_none]
 refine wpAny_pure ?_
 rw [evalPart_some]
 refine thn (zA5 (X:=X) (i:=2) pins s0 σ H0 (fun y H2=>y=.int 2∧H2=H0) I0 ⟨rfl,rfl⟩) fun u s2 ⟨y,H2,I2,r2,ey,eh⟩=>?_
 subst ey eh
 obtain ⟨t,rfl⟩:=r2
 have I4:Inv X pins σ H2 { s2 with heap:=s2.heap.push { cls:=.type "slice",data:=.fields #[.int 1 t0,.none,.int 2 t] } }:=I2.kept (t':=s2.toks) fun b ob q=>Heap.get?_push_of_some _ q
 obtain ⟨its,r,ht,hz⟩:=I4.list hx
 have hlen:=r.length
 refine tail_any (ops:=[.ref a,.ref s2.heap.objs.size]) ht.isList.typeIs slot_list_getitem.lookup ?_ (by with_unfolding_all rfl)
 refine wpAny_getItem_list_slice ht.isList (Heap.IsSliceOf.new ..) (.int _ _) .none (.int _ _) (by decide) ?_ (by rw [List.size_toArray];omega)
 rw [slice_odd _ (by omega)]
 have le:=odds_le xs
 exact ⟨.ref _,_,I4.laid (t':=s2.toks) (o:=.lst (odds xs)) (fun b ob q=>Heap.get?_push_of_some _ q) (Nat.le_refl _) ⟨by omega,_,0,r.odds,Heap.get?_push_size _ rfl⟩,rfl,q _ (I4.hok.fresh (Nat.le_refl _))⟩
end
end L2
namespace L2
open PySem PySem.Spec PyProof.Rows
noncomputable abbrev OKey:=Option Str
section
variable {P:Program}{w:World}{H:Hp}{h:Heap}{a:Addr}{kvs:List (OKey×V)}
end
section
variable {X:Cx}{o i e value:Expr}{pos pos' tpos:Pos}{td ty tv tk:TE}
end
end L2
namespace L2
open PySem PySem.Spec PyProof.Rows
noncomputable def figs (n:Nat):Str:=Str.ofString (toString ((n:Nat):Int))
theorem zCr (n:Nat):(figs n).cps.toList=(Nat.toDigits 10 n).map Char.toNat:=PySem.W.KIN.signs_num n
theorem zDn {n c:Nat} (h:c∈(figs n).cps.toList):48≤c∧c≤57:=by
 rw [zCr] at h
 obtain ⟨ch,hch,e⟩:=List.mem_map.mp h
 have d:=Nat.isDigit_of_mem_toDigits (by decide) (by decide) hch
 rw [← e]
 simp only [Char.isDigit,Bool.and_eq_true,decide_eq_true_eq] at d
 have d1:(48:Nat)≤ch.val.toNat:=d.1
 have d2:ch.val.toNat≤57:=d.2
 exact ⟨d1,d2⟩
theorem len_list (x:Str):x.cps.toList.length=x.length:=Array.length_toList
theorem dig_ne (n:Nat):Nat.toDigits 10 n≠[]:=by
 by_cases h:n < 10
 ·rw [Nat.toDigits_of_lt_base h];simp
 ·have hm:n % 10 < 10:=Nat.mod_lt n (by decide)
  have t:Nat.toDigits 10 (n / 10)++Nat.toDigits 10 (n % 10)=Nat.toDigits 10 (10 * (n / 10) + n % 10):=Nat.toDigits_append_toDigits (by decide) (by omega) hm
  rw [Nat.div_add_mod,Nat.toDigits_of_lt_base hm] at t
  rw [← t];simp
theorem figs_ge (n:Nat):1≤(figs n).length:=by
 rw [← len_list,zCr,List.length_map]
 exact List.length_pos_iff.mpr (dig_ne n)
theorem zDm {n:Nat} (h:n≤999999):(figs n).length≤6:=by
 have e:(10:Int) ^ 6=1000000:=by decide
 exact toString_length_le (by omega) (by decide) (by rw [e];omega)
theorem dig_lead (n:Nat):0 < n→∀ c r,Nat.toDigits 10 n=c :: r→c≠'0':=by
 induction n using Nat.strongRecOn with
 | _ n ih =>
  intro h0 c r e
  by_cases h:n < 10
  ·rw [Nat.toDigits_of_lt_base h] at e
   injection e with e1 _
   rw [← e1]
   have:∀ d:Nat,d < 10→0 < d→Nat.digitChar d≠'0':=by decide
   exact this n h h0
  ·have hm:n % 10 < 10:=Nat.mod_lt n (by decide)
   have t:Nat.toDigits 10 (n / 10)++Nat.toDigits 10 (n % 10)=Nat.toDigits 10 (10 * (n / 10) + n % 10):=Nat.toDigits_append_toDigits (by decide) (by omega) hm
   rw [Nat.div_add_mod] at t
   cases q:Nat.toDigits 10 (n / 10) with
   | nil=>exact absurd q (dig_ne _)
   | cons d s =>
    rw [q,e] at t
    injection t with t1 _
    rw [← t1]
    exact ih (n / 10) (by omega) (by omega) d s q
theorem figs_start {n:Nat} (h:1 < (figs n).length):Txt.startswith (figs n) "0" = false:=by
 have h0:0 < n:=by
  rcases Nat.eq_zero_or_pos n with e | e
  ·subst e
   exact absurd h (by decide +kernel)
  ·exact e
 cases q:Nat.toDigits 10 n with
 | nil=>exact absurd q (dig_ne n)
 | cons c r =>
  have hc:=dig_lead n h0 c r q
  unfold Txt.startswith
  rw [StrLaws.subAt_eq,zCr,q]
  have e1:("0" : Str).cps.toList=[48]:=by decide +kernel
  have e2:("0" : Str).length=1:=by decide +kernel
  rw [e1,e2,List.drop_zero,List.map_cons]
  have:¬ c.toNat=48:=fun z=>hc (Char.toNat_inj.mp (z.trans (by decide)))
  simp [this]
theorem dot_eq:("." : Str)=⟨#[46]⟩:=by decide +kernel
noncomputable def wordsP:List (Str×Nat)→List Str
 | []=>[]
 | (k,n) :: t=>k :: figs n :: wordsP t
noncomputable def showP (p:List (Str×Nat)):Str:=Str.join "." (wordsP p)
theorem zCv:∀ p q:List (Str×Nat),wordsP (p++q)=wordsP p++wordsP q
 | [],_=>rfl
 | (k,n) :: t,q=>by show k :: figs n :: wordsP (t++q)=k :: figs n :: (wordsP t++wordsP q);rw [zCv t q]
theorem zBi:∀ p:List (Str×Nat),(wordsP p).length=2 * p.length
 | []=>rfl
 | (k,n) :: t=>by show (wordsP t).length + 1 + 1=2 * (t.length + 1);rw [zBi t];omega
theorem zCf:∀ p:List (Str×Nat),evens (wordsP p)=p.map (·.1)
 | []=>rfl
 | (k,n) :: t=>by show k :: evens (wordsP t)=_;rw [zCf t];rfl
theorem zCu:∀ p:List (Str×Nat),odds (wordsP p)=p.map fun q=>figs q.2
 | []=>rfl
 | (k,n) :: t=>by show figs n :: odds (wordsP t)=_;rw [zCu t];rfl
theorem evens_map {α β : Type} (f : α→β):∀ l:List α,evens (l.map f)=(evens l).map f
 | []=>rfl
 | [_]=>rfl
 | a :: _ :: r=>by show f a :: evens (r.map f)=f a :: (evens r).map f;rw [evens_map f r]
theorem odds_map {α β : Type} (f : α→β):∀ l:List α,odds (l.map f)=(odds l).map f
 | []=>rfl
 | [_]=>rfl
 | _ :: b :: r=>by show f b :: odds (r.map f)=f b :: (odds r).map f;rw [odds_map f r]
theorem zBu (s:Str):∀ {ws vs:List Str},ws≠[]→vs≠[]→Str.join s (ws++vs)=Str.join s ws++s++Str.join s vs
 | [],_,h,_=>absurd rfl h
 | _,[],_,h=>absurd rfl h
 | [w],v :: vs,_,_=>rfl
 | w :: w2 :: ws,v :: vs,_,h=>by
  show w++s++Str.join s ((w2 :: ws)++(v :: vs))=w++s++Str.join s (w2 :: ws)++s++Str.join s (v :: vs)
  rw [zBu s (by simp) h]
  refine zBx ?_
  simp only [zAj,List.append_assoc]
theorem zAt (x y:Str):(x++y).length=x.length + y.length:=by show (x.cps++y.cps).size=_;simp [Str.length]
theorem join_len {s:Str}{m:Nat} (hs:s.length=1):∀ {ws:List Str},(∀ w∈ws,w.length≤m)→(Str.join s ws).length≤ws.length * (m + 1)
 | [],_=>Nat.zero_le _
 | [w],h=>by
  have:=h w (by simp)
  show w.length≤1 * (m + 1)
  omega
 | w :: w2 :: ws,h=>by
  have h1:=h w (by simp)
  have h2:=join_len (s:=s) (m:=m) hs (ws:=w2 :: ws) fun x hx=>h x (List.mem_cons_of_mem _ hx)
  show (w++s++Str.join s (w2 :: ws)).length≤_
  rw [zAt,zAt,hs]
  simp only [List.length_cons] at h2 ⊢
  have e:(ws.length + 1 + 1) * (m + 1)=(ws.length + 1) * (m + 1) + (m + 1):=Nat.succ_mul _ _
  omega
end L2
namespace L2.W
open PySem PySem.Spec PyProof.Rows
@[irreducible] noncomputable def PE (X:Cx) (e:Expr) (t:TE):Prop:=L2.PE X e t
theorem ePE : @L2.PE = @PE:=by unfold PE;rfl
@[irreducible] noncomputable def PT (X:Cx) (e:Expr) (t:TT):Prop:=L2.PT X e t
theorem ePT : @L2.PT = @PT:=by unfold PT;rfl
@[irreducible] noncomputable def PW (X:Cx) (e:Expr) (t:TT):Prop:=L2.PW X e t
theorem ePW : @L2.PW = @PW:=by unfold PW;rfl
@[irreducible] noncomputable def PA (X:Cx) (es:List Expr) (t:TA):Prop:=L2.PA X es t
theorem ePA : @L2.PA = @PA:=by unfold PA;rfl
@[irreducible] noncomputable def PS (X:Cx) (st:Stmt) (t:TS):Prop:=L2.PS X st t
theorem ePS : @L2.PS = @PS:=by unfold PS;rfl
@[irreducible] noncomputable def PSs (X:Cx) (st:List Stmt) (t:TS):Prop:=L2.PSs X st t
theorem ePSs : @L2.PSs = @PSs:=by unfold PSs;rfl
@[irreducible] noncomputable def PG (X:Cx) (g:Expr) (t:TG):Prop:=L2.PG X g t
theorem ePG : @L2.PG = @PG:=by unfold PG;rfl
@[irreducible] noncomputable def PI (X:Cx) (tg iter:Expr) (wi:TI):Prop:=L2.PI X tg iter wi
theorem ePI : @L2.PI = @PI:=by unfold PI;rfl
@[irreducible] noncomputable def PFs (X:Cx) (ifs:List Expr) (t:TT):Prop:=L2.PFs X ifs t
theorem ePFs : @L2.PFs = @PFs:=by unfold PFs;rfl
noncomputable def zAp:=by have h:=@L2.zAp;rw [ePS,ePSs,ePT] at h;exact @h
noncomputable def zAk:=by have h:=@L2.zAk;rw [ePE] at h;exact @h
noncomputable def zAz:=by have h:=@L2.zAz;rw [ePE,ePT] at h;exact @h
noncomputable def ps_asg:=by have h:=@L2.ps_asg;rw [ePE,ePS,ePG] at h;exact @h
noncomputable def zAw:=by have h:=@L2.zAw;rw [ePE,ePA] at h;exact @h
noncomputable def zAa:=by have h:=@L2.zAa;rw [ePE,ePA] at h;exact @h
noncomputable def zAd:=by have h:=@L2.zAd;rw [ePE,ePS] at h;exact @h
noncomputable def fn_of:=by have h:=@L2.fn_of;rw [ePSs] at h;exact @h
noncomputable def zCj:=by have h:=@L2.zCj;rw [ePE,ePA] at h;exact @h
noncomputable def zAs:=by have h:=@L2.zAs;rw [ePE] at h;exact @h
noncomputable def pe_un:=by have h:=@L2.pe_un;rw [ePE] at h;exact @h
noncomputable def zBr:=by have h:=@L2.zBr;rw [ePE,ePA] at h;exact @h
noncomputable def zCh:=by have h:=@L2.zCh;rw [ePT,ePW] at h;exact @h
noncomputable def zCk:=by have h:=@L2.zCk;rw [ePE] at h;exact @h
noncomputable def zAg:=by have h:=@L2.zAg;rw [ePE] at h;exact @h
noncomputable def pv:=by have h:=@L2.pv;rw [ePE] at h;exact @h
noncomputable def zB3:=by have h:=@L2.zB3;rw [ePE,ePS] at h;exact @h
noncomputable def zA4:=by have h:=@L2.zA4;rw [ePS,ePSs] at h;exact @h
noncomputable def zCd:=by have h:=@L2.zCd;rw [ePE] at h;exact @h
noncomputable def zB7:=by have h:=@L2.zB7;rw [ePE] at h;exact @h
noncomputable def zA3:=by have h:=@L2.zA3;rw [ePS,ePSs] at h;exact @h
noncomputable def bin:=by have h:=@L2.bin;rw [ePE] at h;exact @h
noncomputable def zDb:=by have h:=@L2.zDb;rw [ePE] at h;exact @h
noncomputable def zAh:=by have h:=@L2.zAh;rw [ePE] at h;exact @h
noncomputable def pe_var:=by have h:=@L2.pe_var;rw [ePE] at h;exact @h
noncomputable def zAx:=by have h:=@L2.zAx;rw [ePG] at h;exact @h
noncomputable def zBc:=by have h:=@L2.zBc;rw [ePA,ePI] at h;exact @h
noncomputable def pe_or:=by have h:=@L2.pe_or;rw [ePE] at h;exact @h
noncomputable def zCx:=by have h:=@L2.zCx;rw [ePS,ePSs,ePG,ePI] at h;exact @h
noncomputable def zAf:=by have h:=@L2.zAf;rw [ePE,ePT] at h;exact @h
noncomputable def zA7:=by have h:=@L2.zA7;rw [ePE,ePA] at h;exact @h
noncomputable def pc_isN:=by have h:=@L2.pc_isN;rw [ePE] at h;exact @h
noncomputable def zCm:=by have h:=@L2.zCm;rw [ePE] at h;exact @h
noncomputable def pw_or1:=by have h:=@L2.pw_or1;rw [ePT,ePW] at h;exact @h
noncomputable def zBd:=by have h:=@L2.zBd;rw [ePE,ePA] at h;exact @h
noncomputable def zC9:=by have h:=@L2.zC9;rw [ePE] at h;exact @h
noncomputable def binT:=by have h:=@L2.binT;rw [ePE] at h;exact @h
noncomputable def zB1:=by have h:=@L2.zB1;rw [ePE] at h;exact @h
noncomputable def zAb:=by have h:=@L2.zAb;rw [ePSs] at h;exact @h
noncomputable def PW.pt:=by have h:=@L2.PW.pt;rw [ePT,ePW] at h;exact @h
noncomputable def pw_and:=by have h:=@L2.pw_and;rw [ePT,ePW] at h;exact @h
noncomputable def pt_cmp:=by have h:=@L2.pt_cmp;rw [ePT] at h;exact @h
noncomputable def zB6:=by have h:=@L2.zB6;rw [ePE] at h;exact @h
noncomputable def zDa:=by have h:=@L2.zDa;rw [ePE] at h;exact @h
noncomputable def zA2:=by have h:=@L2.zA2;rw [ePA] at h;exact @h
noncomputable def zA5:=by have h:=@L2.zA5;rw [ePE] at h;exact @h
noncomputable def zBz:=by have h:=@L2.zBz;rw [ePE,ePI] at h;exact @h
noncomputable def PT.nox:=by have h:=@L2.PT.nox;rw [ePT] at h;exact @h
noncomputable def zA6:=by have h:=@L2.zA6;rw [ePE] at h;exact @h
noncomputable def zAe:=by have h:=@L2.zAe;rw [ePE,ePS] at h;exact @h
noncomputable def zBn:=by have h:=@L2.zBn;rw [ePE] at h;exact @h
noncomputable def zBm:=by have h:=@L2.zBm;rw [ePE] at h;exact @h
noncomputable def Fun.ok:=by have h:=@L2.Fun.ok;rw [ePSs] at h;exact @h
noncomputable def zB0:=by have h:=@L2.zB0;rw [ePT] at h;exact @h
noncomputable def pe_not:=by have h:=@L2.pe_not;rw [ePE] at h;exact @h
noncomputable def pg_sub:=by have h:=@L2.pg_sub;rw [ePE,ePG] at h;exact @h
noncomputable def pe_non:=by have h:=@L2.pe_non;rw [ePE] at h;exact @h
noncomputable def zAu:=by have h:=@L2.zAu;rw [ePE,ePA] at h;exact @h
noncomputable def PSs.nox:=by have h:=@L2.PSs.nox;rw [ePSs] at h;exact @h
noncomputable def pi_tup:=by have h:=@L2.pi_tup;rw [ePE,ePI] at h;exact @h
noncomputable def zA0:=by have h:=@L2.zA0;rw [ePE,ePA] at h;exact @h
noncomputable def zD8:=by have h:=@L2.zD8;rw [ePE,ePT] at h;exact @h
noncomputable def PE.nox:=by have h:=@L2.PE.nox;rw [ePE] at h;exact @h
noncomputable def zAq:=by have h:=@L2.zAq;rw [ePE,ePS] at h;exact @h
noncomputable def pw_or:=by have h:=@L2.pw_or;rw [ePT,ePW] at h;exact @h
noncomputable def zD9:=by have h:=@L2.zD9;rw [ePE] at h;exact @h
noncomputable def zDq:=by have h:=@L2.zDq;rw [ePE,ePG,ePFs] at h;exact @h
noncomputable def zBe:=by have h:=@L2.zBe;rw [ePE,ePG,ePI,ePFs] at h;exact @h
noncomputable def zC8:=by have h:=@L2.zC8;rw [ePFs] at h;exact @h
noncomputable def pi_str:=by have h:=@L2.pi_str;rw [ePE,ePI] at h;exact @h
noncomputable def Fun.okC:=by have h:=@L2.Fun.okC;rw [ePSs] at h;exact @h
noncomputable def FunL.okC:=by have h:=@L2.FunL.okC;rw [ePSs] at h;exact @h
noncomputable def pe_odd:=by have h:=@L2.pe_odd;rw [ePE] at h;exact @h
noncomputable def pe_even:=by have h:=@L2.pe_even;rw [ePE] at h;exact @h
end L2.W
namespace L2
open PySem PySem.Spec PyProof.Rows
noncomputable def XO (C a:Addr):HO:=.ext fun h=>∃ o vs,h.get? a=some o∧o.cls=.ref C∧o.data=.fields vs
section
variable {P:Program}{w:World}{H:Hp}{h:Heap}{a C:Addr}{o:HO}
theorem xo_ok {ob:Obj}{vs:Array Value} (e:h.get? a=some ob) (c:ob.cls=.ref C) (d:ob.data=.fields vs):ObjOk P w H h a (XO C a) :=
 ⟨⟨ob,vs,e,c,d⟩,⟨ob,e⟩,fun _ _ ⟨o,vs,e,c,d⟩ k=>⟨o,vs,k _ e,c,d⟩⟩
theorem xo_of (ok:HOk P w H h) (e:H a=some (XO C a)):∃ o vs,h.get? a=some o∧o.cls=.ref C∧o.data=.fields vs:=(show ObjOk P w H h a (XO C a) from ok a _ e).1
theorem ObjOk.ex (x:ObjOk P w H h a o):∃ ob,h.get? a=some ob:=by
 cases o with
 | lst xs=>obtain ⟨_,_,_,_,e⟩:=x;exact ⟨_,e⟩
 | tup xs=>obtain ⟨_,_,_,ob,e,_⟩:=x;exact ⟨_,e⟩
 | dK kvs=>obtain ⟨_,_,_,_,o,_,_,e,_⟩:=x;exact ⟨_,e⟩
 | dT kvs=>obtain ⟨_,_,_,_,o,_,_,e,_⟩:=x;exact ⟨_,e⟩
 | set S n=>obtain ⟨o,_,_,_,e,_⟩:=x;exact ⟨_,e⟩
 | ins C dx fs=>obtain ⟨_,_,_,e,_⟩:=x;exact ⟨_,e⟩
 | own y=>exact x
 | xd fs=>obtain ⟨_,⟨_,_,_,e,_⟩,_⟩:=x;exact ⟨_,e⟩
 | rng lo hi=>obtain ⟨_,_,_,e⟩:=x;exact ⟨_,e⟩
 | frz ob u=>exact ⟨_,x.1⟩
 | tbl ps=>exact ⟨_,x⟩
 | met f y=>exact ⟨_,x⟩
 | ext φ=>exact x.2.1
theorem HOk.noth (ok:HOk P w H h) (e:h.get? a=none):H a=none:=by
 cases q:H a with
 | none=>rfl
 | some u =>
  obtain ⟨ob,eb⟩:=(ok a u q).ex
  rw [e] at eb
  cases eb
end
noncomputable def Tr (G:Addr→Prop) (H:Hp) (h:Heap) (e:Addr):Prop:=∃ o vs a0 T oT ts,h.get? e=some o∧o.data=.fields vs∧vs[0]? = some a0∧vs[1]? = some (.ref T)∧G T∧H T=none∧h.get? T=some oT∧oT.data=.fields ts∧ts[3]? = some .none
noncomputable def Fresh (h:Heap) (e:Addr):Prop:=∃ o vs a0,h.get? e=some o∧o.data=.fields vs∧vs[0]? = some a0∧vs[1]? = some .none
theorem Tr.imp {G G':Addr→Prop}{H:Hp}{h:Heap}{e:Addr} (x:Tr G H h e) (f:∀ T,G T→G' T):Tr G' H h e :=
 let ⟨o,vs,a0,T,oT,ts,h1,h2,h3,h4,g,r⟩:=x
 ⟨o,vs,a0,T,oT,ts,h1,h2,h3,h4,f _ g,r⟩
noncomputable def CXM (P:Program) (w:World):CXT:=fun outer H s E u s'=>∃ e C H',u=.ref e∧s'.os=s.os∧AllBare s'.gens∧Un (frs outer) [] H H' s.heap s'.heap∧HOk P w H' s'.heap∧H' e=some (XO C e)∧Tr (fun T=>s.heap.get? T=none) H' s'.heap e∧E (.ref C) (some e) H'
theorem calmM {P:Program}{w:World}:Calm (CXM P w):=fun _ _ _ _ _ ⟨_,_,_,_,_,_,_,_,_,_,q⟩=>q
structure Mvd (l:List Env) (e T0:Addr) (cls a0 fl:Value) (h h':Heap):Prop where
 keep:∀ b o,h.get? b=some o→b≠e→b≠T0→b∉frs l→h'.get? b=some o
 slot:∀ b o,h.get? b=some o→b∈frs l→∃ sl,h'.get? b=some { o with slots:=sl }
 tr:∃ oe vs T oT ts,h'.get? e=some oe∧oe.cls=cls∧vs[0]? = some a0∧oe.data=.fields vs∧vs[1]? = some (.ref T)∧(T=T0∨h.get? T=none)∧T≠e∧h'.get? T=some oT∧oT.data=.fields ts∧ts[3]? = some fl
noncomputable abbrev bas (h:Heap) (l:List Env) (e T0:Addr):Heap:=PySem.W.hideAll h (e :: T0 :: frs l)
section
variable {base h h':Heap}{l:List Env}{e T0:Addr}{cls a0 fl:Value}
theorem moved (hl:h.FunFrames base l) (st:(bas h l e T0).StaysIn h') (ff:h'.FunFrames (bas h l e T0) l) (tr:h'.TracedAtW (bas h l e T0) e cls a0 fl) (up:h.UpToSlots h'):Mvd l e T0 cls a0 fl h h':=by
 refine ⟨fun b o q n1 n2 n3=>st b o (PySem.W.hideAll_get _ q ?_),fun b o q hb=>?_,?_⟩
 ·intro z
  rcases List.mem_cons.mp z with z | z
  ·exact n1 z
  ·rcases List.mem_cons.mp z with z | z
   ·exact n2 z
   ·exact n3 z
 ·obtain ⟨_,o',ho,hn⟩:=hl.mem hb
  rw [q] at ho
  cases ho
  exact up b o q hn
 ·obtain ⟨oe,vs,T,oT,ts,he,⟨hc,h0⟩,hd,h1,hn,hne,hT,hdT,h3⟩:=tr
  refine ⟨oe,vs,T,oT,ts,he,hc,h0,hd,h1,?_,hne,hT,hdT,h3⟩
  cases q:h.get? T with
  | none=>exact .inr rfl
  | some o =>
   refine .inl (Classical.byContradiction fun nT=>?_)
   have:(bas h l e T0).get? T=some o:=PySem.W.hideAll_get _ q fun z=>by
    rcases List.mem_cons.mp z with z | z
    ·exact hne z
    ·rcases List.mem_cons.mp z with z | z
     ·exact nT z
     ·obtain ⟨_,o',ho,hnf⟩:=ff.mem z
      rw [hT] at ho
      cases ho
      exact hnf _ hdT
   rw [hn] at this
   cases this
theorem fly_of (hl:h.FunFrames base l) {oe oT:Obj}{vs ts:Array Value} (he:h.get? e=some oe) (hd:oe.data=.fields vs) (h0:vs[0]? = some a0) (h1:vs[1]? = some (.ref T0)) (hne:T0≠e) (hT:h.get? T0=some oT) (hdT:oT.data=.fields ts) (h3:ts[3]? = some .none) :
  Heap.FlyingW (bas h l e T0) l e oe.cls a0 h :=
 ⟨fun b o q=>PySem.W.of_hideAll _ q,PySem.W.hideAll_none _ (.head _),PySem.W.funFrames_hide hl fun env he a ea=>.tail _ (.tail _ (List.mem_filterMap.mpr ⟨env,he,ea⟩)),oe,vs,T0,oT,ts,he,⟨rfl,h0⟩,hd,h1,PySem.W.hideAll_none _ (.tail _ (.head _)),hne,hT,hdT,h3⟩
end
section
variable {X:Cx}{pins:List (Addr×Obj)}{σ : St}{H:Hp}{s:Shared}{e C T0:Addr}{h':Heap}{cls a0 fl:Value}
theorem Mvd.ex (m:Mvd X.stack e T0 cls a0 fl s.heap h') (b:Addr) (o:Obj) (q:s.heap.get? b=some o) (h2:b≠T0):∃ o',h'.get? b=some o':=by
 obtain ⟨oe,_,_,_,_,he,_⟩:=m.tr
 by_cases h1:b=e
 ·rw [h1];exact ⟨oe,he⟩
 ·by_cases h3:b∈frs X.stack
  ·obtain ⟨sl,z⟩:=m.slot b o q h3
   exact ⟨_,z⟩
  ·exact ⟨o,m.keep b o q h1 h2 h3⟩
theorem Mvd.hok (m:Mvd X.stack e T0 (.ref C) a0 fl s.heap h') (I:Inv X pins σ H s) (he:H e=some (XO C e)) (hT:T0=e∨H T0=none):HOk X.prog X.w H h':=fun b u eb=>by
 by_cases h1:b=e
 ·subst h1
  rw [he] at eb
  cases eb
  obtain ⟨oe,vs,_,_,_,h2,h3,_,h4,_⟩:=m.tr
  exact xo_ok h2 h3 h4
 ·refine (I.hok b u eb).stay (fun c v hc q=>m.keep c v q ?_ ?_ ?_) (fun _ q=>q) fun _ _ q=>q
  ·rintro rfl
   rcases hc with z | z
   ·exact h1 z.symm
   ·rw [he] at z;cases z
  ·rintro rfl
   rcases hT with z | z
   ·subst z
    rcases hc with z | z
    ·exact h1 z.symm
    ·rw [he] at z;cases z
   ·rcases hc with y | y
    ·rw [← y,z] at eb;cases eb
    ·rw [z] at y;cases y
  ·intro z
   have:=I.stkFree c z
   rcases hc with y | y
   ·rw [← y,this] at eb;cases eb
   ·rw [this] at y;cases y
theorem Inv.moved {t':Nat} (I:Inv X pins σ H s) (he:H e=some (XO C e)) (hT:H T0=none) (h0:X.s₀.heap.get? T0=none) (hp:∀ p∈X.pn++pins,p.1≠T0) {oT:Obj}{ts:Array Value} (eT:s.heap.get? T0=some oT) (dT:oT.data=.fields ts)
  (m:Mvd X.stack e T0 (.ref C) a0 fl s.heap h'):Inv X pins σ H { s with heap:=h',toks:=t' }:=by
 have nL:T0≠X.env.locals:=by
  rintro rfl
  obtain ⟨_,⟨o,es,ep,ho,hd,_⟩,_⟩:=I.loc
  rw [ho] at eT;cases eT;rw [hd] at dT;cases dT
 have nC:∀ x c,X.env.cells.lookup x=some c→c≠T0:=by
  rintro x c hc rfl
  obtain ⟨v,o,ho,hd⟩:=I.cell x c hc
  rw [ho] at eT;cases eT;rw [hd] at dT;cases dT
 have neS:∀ b,H b=none→b≠e:=fun b n z=>by rw [z,he] at n;cases n
 have sub:∀ b,b∈X.fs→b∈frs X.stack:=fun b hb=>by
  rcases I.ok.stk with z | ⟨z,hf⟩
  ·rw [z];exact hb
  ·rw [z];unfold frs;rw [List.filterMap_cons,hf];exact List.mem_cons_of_mem _ hb
 refine I.step (g':=s.gens) (d':=s.drawn) (ch:=[T0]) (fun b hb=>?_) (fun b o n1 n2 n3 q n=>m.keep b o q (neS b n) (fun z=>n3 (by simp [z])) fun z=>(List.mem_cons.mp (I.stkSub b z)).elim n1 n2)
  (fun b o n1 n2 n3 q n=>m.slot b o q (sub b n2)) (fun b o _ _ n=>n) (fun b o n q=>m.ex b o q fun z=>n (by simp [z])) (fun _ _ q=>q) (fun _ _ _ q=>q) (fun b ps q=>⟨#[],by rw [q];simp⟩) (fun mm hm=>?_) (m.hok I he (.inr hT)) I.bare
 ·have:b=T0:=by simpa using hb
  subst this
  exact ⟨.inr h0,nL,nC,hp⟩
 ·obtain ⟨o,es,ep,ho,hd,r⟩:=hm
  by_cases z:X.env.locals∈frs X.stack
  ·obtain ⟨sl,q⟩:=m.slot _ _ ho z
   exact ⟨_,es,ep,q,hd,r⟩
  ·exact ⟨o,es,ep,m.keep _ _ ho (neS _ I.free) (Ne.symm nL) z,hd,r⟩
theorem leave_cx {E:XK}{E':Value→Shared→Prop} (I:Inv X pins σ H s) (hx:X.ex=[]) (hs:X.stack=X.env :: X.outer) (hf:X.env.frame=some X.env.locals) (he:H e=some (XO C e)) (fl:Fresh s.heap e∨Tr (fun T=>X.s₀.heap.get? T=none) H s.heap e) (q:E (.ref C) (some e) H) :
  wpAny (model X.prog X.w) X.A (leaving X.env (.ref e)) (fun _ s''=>CXM X.prog X.w X.outer X.H₀ X.s₀ E (.ref e) s'') E' s:=by
 have hfr:X.A.frames=some (X.env :: X.outer):=by rw [← hs];exact I.ok.frames
 have hl:s.heap.FunFrames X.base (X.env :: X.outer):=by rw [← hs];exact I.stack
 obtain ⟨ox,vx,hox,hcx,hdx⟩:=xo_of I.hok he
 have fin:∀ (T0:Addr) (h':Heap) (a0:Value),(T0=e∨(H T0=none∧X.s₀.heap.get? T0=none))→Mvd X.stack e T0 (.ref C) a0 .none s.heap h'→CXM X.prog X.w X.outer X.H₀ X.s₀ E (.ref e) { s with heap:=h' }:=by
  intro T0 h' a0 hT m
  have hT1:T0=e∨H T0=none:=hT.imp_right fun z=>z.1
  have back:∀ b o,X.s₀.heap.get? b=some o→∃ o',s.heap.get? b=some o':=fun b o z=>I.base.there b o z (by rw [hx];simp)
  have nT:∀ b o,X.s₀.heap.get? b=some o→H b=none→b≠T0:=fun b o z n y=>by
   rcases hT with w | ⟨_,w⟩
   ·rw [y,w,he] at n;cases n
   ·rw [y,w] at z;cases z
  have nE:∀ b,H b=none→b≠e:=fun b n z=>by rw [z,he] at n;cases n
  have nL:∀ b o,X.s₀.heap.get? b=some o→b≠X.env.locals:=fun b o z=>Nat.ne_of_lt (Nat.lt_of_lt_of_le (Heap.lt_size z) I.ok.above)
  have inS:∀ b,b∈frs X.stack→b=X.env.locals∨b∈frs X.outer:=fun b z=>List.mem_cons.mp (I.stkSub b z)
  obtain ⟨oe,vs,T,oT,ts,h1,h2,h3,h4,h5,h6,h7,h8,h9,h10⟩:=m.tr
  refine ⟨e,C,H,rfl,I.os,I.bare,⟨fun b o z n hb _=>?_,fun b o z n hb _=>?_,fun b o z n _=>I.base.free b o z n (by rw [hx];simp),fun b o z _=>?_,I.base.tups,I.base.frzs,I.base.tbls⟩,m.hok I he hT1,he,⟨oe,vs,a0,T,oT,ts,h1,h4,h3,h5,?_,?_,h8,h9,h10⟩,q⟩
  ·have n':=I.base.free b o z n (by rw [hx];simp)
   exact m.keep b o (I.base.keep b o z n hb (by rw [hx];simp)) (nE b n') (nT b o z n') fun y=>(inS b y).elim (nL b o z) hb
  ·obtain ⟨sl,z1⟩:=I.base.slot b o z n hb (by rw [hx];simp)
   obtain ⟨sl',z2⟩:=m.slot b _ z1 (by rw [hs];unfold frs;rw [List.filterMap_cons,hf];exact List.mem_cons_of_mem _ hb)
   exact ⟨sl',z2⟩
  ·obtain ⟨o',z1⟩:=back b o z
   by_cases y:b=T0
   ·rcases hT with w | ⟨_,w⟩
    ·rw [y,w];exact ⟨oe,h1⟩
    ·rw [y,w] at z;cases z
   ·exact m.ex b o' z1 y
  ·show X.s₀.heap.get? T=none
   rcases h6 with z | z
   ·rcases hT with y | ⟨_,y⟩
    ·exact absurd (z.trans y) h7
    ·rw [z];exact y
   ·cases y:X.s₀.heap.get? T with
    | none=>rfl
    | some o =>
     obtain ⟨o',y1⟩:=back T o y
     rw [z] at y1;cases y1
  ·rcases h6 with z | z
   ·rcases hT with y | ⟨y,_⟩
    ·exact absurd (z.trans y) h7
    ·rw [z];exact y
   ·exact I.hok.noth z
 rcases fl with ⟨oe,vs,a0,h1,h2,h3,h4⟩ | ⟨oe,vs,a0,T0,oT,ts,h1,h2,h3,h4,g,n,h5,h6,h7⟩
 ·rw [h1] at hox;cases hox
  refine wpAny_leaving_firstW (base:=bas s.heap (X.env :: X.outer) e e) (a0:=a0) hfr (PySem.W.funFrames_hide hl fun env he a ea=>.tail _ (.tail _ (List.mem_filterMap.mpr ⟨env,he,ea⟩))) hf h1 (fun b o z=>PySem.W.of_hideAll _ z) (PySem.W.hideAll_none _ (.head _)) h2 h4 h3 fun h' hL=>?_
  obtain ⟨k1,k2,k3,k4⟩:=hL
  rw [hcx] at k3
  refine fin e h' a0 (.inl rfl) ?_
  rw [hs]
  exact L2.moved hl k1 k2 k3 k4
 ·rw [h1] at hox;cases hox
  have hne:T0≠e:=fun z=>by rw [z,he] at n;cases n
  have F:=fly_of hl h1 h2 h3 h4 hne h5 h6 h7
  rw [hcx] at F
  refine wpAny_leaving_nextW hfr F.2.2.1 hf F.2.2.2 F.1 F.2.1 fun h' hL=>?_
  obtain ⟨k1,k2,k3,k4⟩:=hL
  have m:=L2.moved hl k1 k2 k3 k4
  exact fin T0 h' a0 (.inr ⟨n,g⟩) (by rw [hs];exact m)
end
end L2
namespace L2
open PySem PySem.Spec PyProof.Rows
theorem zDo {K:PySem.W.Frag}{h:Heap}{C:Addr}{bmB:List Value}{newId:String} (X:K.In h) (q:PySem.W.excIn K C bmB newId=true) :
  ∃ bm N nm q bs hdct sn sub ab col dd k0 k1 k2 k3 k5 mN,h.get? C=some (excClassObj nm q C N bs bm hdct sn sub ab col dd k0 k1 k2 k3 k5 newId)∧h.Ns N mN∧mN "__init__" = none∧OwnTail h bmB bm:=by
 unfold PySem.W.excIn at q
 split at q
 ·rename_i dd cd sl ho
  split at q
  ·rename_i C' bm k0 k1 k2 k3 n k5 hm hs
   simp only [Bool.and_eq_true,beq_iff_eq,Bool.not_eq_true'] at q
   obtain ⟨⟨⟨⟨⟨rfl,rfl⟩,hdel⟩,ht⟩,hok⟩,hni⟩:=q
   obtain ⟨nm,bs,mro,ns,qn,hd,sn,sub,ab,col,del⟩:=cd
   dsimp only at hm hdel hok hni
   subst hm hdel
   have hsl:sl = #[k0,k1,k2,k3,some (.builtin n),k5]:=by
    obtain ⟨l⟩:=sl
    simp only at hs
    rw [hs]
   subst hsl
   exact ⟨bm,ns,nm,qn,bs,hd,sn,sub,ab,col,dd,k0,k1,k2,k3,k5,_,X _ _ ho,.of_isNs (PySem.W.isNs_of_in X hok),PySem.W.nsMap_none_of_in X hok hni,PySem.W.tail_of_in X ht⟩
  ·cases q
 ·cases q
section
variable {X:Cx}{pins:List (Addr×Obj)}{σ : St}{H H':Hp}{s:Shared}{e C:Addr}{h h':Heap}{o:HO}
theorem Un.born {fs ex:List Addr} (k:∀ b u,h.get? b=some u→h'.get? b=some u) (hp:h.get? e=none) (hn:H e=none):Un fs ex H (upd H e o) h h' where
 keep:=fun b u q _ _ _=>k b u q
 slot:=fun b u q _ _ _=>⟨u.slots,k b u q⟩
 free:=fun b u q n _=>by rw [zA9 (fun z=>by rw [z,hp] at q;cases q)];exact n
 there:=fun b u q _=>⟨u,k b u q⟩
 tups:=fun b xs q=>by rw [zA9 (zA8 q hn)];exact q
 frzs:=fun b u xs q=>by rw [zA9 (zA8 q hn)];exact q
 tbls:=fun b ps q=>⟨#[],by rw [zA9 (zA8 q hn),q];simp⟩
theorem HOk.born {P:Program}{w:World} (x:HOk P w H h) (k:∀ b u,h.get? b=some u→h'.get? b=some u) (hp:h.get? e=none) (new:ObjOk P w (upd H e o) h' e o):HOk P w (upd H e o) h':=fun b u q=>by
 have hn:=x.noth hp
 by_cases hb:b=e
 ·subst hb;rw [zA1] at q;cases q;exact new
 ·rw [zA9 hb] at q
  exact (x b u q).stay (fun c v _ q=>k c v q) (fun c q=>by rw [zA9 (zA8 q hn)];exact q) fun c xs q=>by rw [zA9 (zA8 q hn)];exact q
theorem Inv.born {t':Nat} (I:Inv X pins σ H s) (k:∀ b u,s.heap.get? b=some u→h'.get? b=some u) (hp:s.heap.get? e=none) (new:ObjOk X.prog X.w (upd H e o) h' e o):Inv X pins σ (upd H e o) { s with heap:=h',toks:=t' } :=
 I.un (Un.born k hp (I.hok.noth hp)) (I.hok.born k hp new)
theorem Inv.cx {s':Shared}{E:XK}{u:Value} (I:Inv X pins σ H s) (c:CXM X.prog X.w X.stack H s E u s') :
  ∃ e C H',u=.ref e∧Inv X pins σ H' s'∧H' e=some (XO C e)∧Tr (fun T=>s.heap.get? T=none) H' s'.heap e∧E (.ref C) (some e) H':=by
 obtain ⟨e,C,H',rfl,os,bare,un,hok,he,tr,q⟩:=c
 exact ⟨e,C,H',rfl,I.call' (ch:=[]) os un hok bare (fun b z=>absurd z (by simp)),he,tr,q⟩
theorem Inv.back (I:Inv X pins σ H s) (hx:X.ex=[]) {T:Addr} (n:s.heap.get? T=none):X.s₀.heap.get? T=none:=by
 cases y:X.s₀.heap.get? T with
 | none=>rfl
 | some o =>
  obtain ⟨o',y1⟩:=I.base.there T o y (by rw [hx];simp)
  rw [n] at y1;cases y1
end
section
variable {P:Program}{w:World}{K:PySem.W.Frag}{mg:Str→Option Value}{base:Heap}{N:List Str}{qual:Str}{scope:Scope}{f:Addr}{cd:Value}{A:Around}{outer:List Env}{s:Shared}{H:Hp}{E:XK}
noncomputable abbrev cxM (P:Program) (w:World) (K:PySem.W.Frag) (mg:Str→Option Value) (base:Heap) (N:List Str) (qual:Str) (scope:Scope) (f:Addr) (cd:Value) (A:Around) (outer:List Env) (s:Shared) (H:Hp) (E:XK):Cx:=cxOf (CXM P w) P w K mg base N qual scope f cd A outer s H E
theorem zBo {pins:List (Addr×Obj)}{σ : St}{H':Hp}{s':Shared}{e C:Addr} (I:Inv (cxM P w K mg base N qual scope f cd A outer s H E) pins σ H' s') (he:H' e=some (XO C e)) (fl:Fresh s'.heap e∨Tr (fun T=>s.heap.get? T=none) H' s'.heap e) (q:E (.ref C) (some e) H') :
  (cxM P w K mg base N qual scope f cd A outer s H E).xe (.ref e) s':=leave_cx I rfl rfl rfl he fl q
theorem zAy:Passes (CXM P w) (cxM P w K mg base N qual scope f cd A outer s H E) (fun _=>E):=fun pins σ H1 s1 u s2 I c=>by
 obtain ⟨e,C,H',rfl,I',he,tr,q⟩:=I.cx c
 exact zBo I' he (.inr (tr.imp fun T n=>I.back rfl n)) q
end
section
variable {X:Cx}{x:Str}{np cpos pos:Pos}{a:Expr}{as:List Expr}{t:TA}{C:Addr}{W:St→Addr→Hp→Prop}
theorem zAv (hc:PySem.W.excIn X.K C [.type "ValueError",.type "Exception",.type "BaseException",.type "object"] "ValueError.__new__" = true) (hg:Gl X x) (hm:X.mg x=some (.ref C)) (hcm:X.calm=true) (ha:PA X (a :: as) t)
  (hx:∀ pins σ H s e,Inv X pins σ H s→H e=some (XO C e)→Fresh s.heap e→W σ e H→X.xe (.ref e) s) (hdb:(x == ("__debug__" : Str))=false:=by decide)
  (he:starEach (a :: as) X.env=(false,eval a X.env) :: starEach as X.env:=by rfl) (hpl:(backTo cpos (starEach as X.env)).any (·.1)=false:=by rfl) :
  PS X (.Raise (some (.Call (.Name x np) (a :: as) [] cpos)) none pos) (fun _ σ H=>t σ H fun vs H1=>vs.length≤sizeLine∧∀ e,H1 e=none→W σ e (upd H1 e (XO C e))):=by
 intro pins s σ H D I h
 obtain ⟨bm,N,nm,q,bs,hdct,sn,sub,ab,col,dd,k0,k1,k2,k3,k5,mN,hC,hN,hni,T⟩:=zDo I.ok.mod.kin hc
 have hA:=ha cpos pins s σ H _ I h
 refine wpAny_Raise_call_subU (C:=C) (nm:=nm) (q:=q) (N:=N) (bs:=bs) (bm:=bm) (hdct:=hdct) (sn:=sn) (sub:=sub) (ab:=ab) (col:=col) (dd:=dd) (k0:=k0) (k1:=k1) (k2:=k2) (k3:=k3) (k5:=k5)
  PySem.F.excBase_ValueError PySem.F.excBase_ValueError.hasB PySem.F.excBase_ValueError (mN:=mN) (T.hasType PySem.F.excBase_ValueError.hasBase) (I.ok.hd hcm) (by rw [he];show (false || (backTo cpos (starEach as X.env)).any (·.1))=false;rw [hpl];rfl) hni (zCo I hg hm ⟨rfl,?_⟩ hdb)
 rw [he] at hA ⊢
 refine Calls.evalArgs_plain (thn hA fun us s2 ⟨vs,H2,I2,r,hz,k⟩=>⟨rfl,by rw [← r.length];exact hz,I2.bk _ _ hC,hN.keeps I2.bk,T.keeps I2.bk,fun h' e hm=>?_⟩)
 obtain ⟨tt,h1,h2,h3⟩:=hm.there
 exact hx pins σ _ { s2 with heap:=h' } e (I2.born (t':=s2.toks) (o:=XO C e) hm.keeps hm.new (xo_ok h1 rfl rfl)) zA1 ⟨_,_,_,h1,rfl,rfl,rfl⟩ (k e (I2.hok.noth hm.new))
end
end L2
namespace L2
open PySem PySem.Spec PyProof.Rows
noncomputable abbrev TW:=St→Addr→Addr→Hp→Prop
noncomputable def Cx.tri (X:Cx) (pins:List (Addr×Obj)) (W:TW):Cx:={ X with
 pn:=X.pn++pins
 xe:=fun u s'=>∃ e C σ' H',u=.ref e∧Inv X pins σ' H' s'∧H' e=some (XO C e)∧Tr (fun T=>X.s₀.heap.get? T=none∧∀ p∈X.pn++pins,p.1≠T) H' s'.heap e∧W σ' e C H' }
noncomputable def Cx.hnd (X:Cx) (e:Addr):Cx:={ X with
 A:=X.A.mark (some (.ref e))
 calm:=false
 xe:=fun _ _=>False }
section
variable {X:Cx}{pins pins':List (Addr×Obj)}{σ : St}{H:Hp}{s:Shared}{W:TW}{e:Addr}
theorem Cx.Ok.tri (ok:X.Ok):(X.tri pins W).Ok:=⟨ok.mod,ok.kind,ok.glob,ok.blt,ok.above,ok.inj,ok.has,ok.cab,ok.hd,ok.frames,ok.stk,ok.exf,ok.bs,ok.bsz,ok.noex,ok.exfs,ok.funs,ok.frf⟩
theorem Cx.Ok.untri (ok:(X.tri pins W).Ok):X.Ok:=⟨ok.mod,ok.kind,ok.glob,ok.blt,ok.above,ok.inj,ok.has,ok.cab,ok.hd,ok.frames,ok.stk,ok.exf,ok.bs,ok.bsz,ok.noex,ok.exfs,ok.funs,ok.frf⟩
theorem Cx.Ok.hnd (ok:X.Ok):(X.hnd e).Ok:=⟨ok.mod,ok.kind,ok.glob,ok.blt,ok.above,ok.inj,ok.has,ok.cab,(fun z=>Bool.noConfusion (show false=true from z)),ok.frames,ok.stk,ok.exf,ok.bs,ok.bsz,ok.noex,ok.exfs,ok.funs,ok.frf⟩
theorem Inv.tri (I:Inv X pins σ H s):Inv (X.tri pins W) [] σ H s:=⟨I.ok.tri,I.os,I.bare,I.base,I.loc,I.cell,I.free,I.freeC,fun p hp=>I.pin p (by simpa [Cx.tri] using hp),I.hok,I.len⟩
theorem Inv.untri (I:Inv (X.tri pins W) pins' σ H s):Inv X pins σ H s:=⟨I.ok.untri,I.os,I.bare,I.base,I.loc,I.cell,I.free,I.freeC,fun p hp=>I.pin p (List.mem_append_left _ hp),I.hok,I.len⟩
theorem Inv.hnd (I:Inv X pins σ H s):Inv (X.hnd e) pins σ H s:=⟨I.ok.hnd,I.os,I.bare,I.base,I.loc,I.cell,I.free,I.freeC,I.pin,I.hok,I.len⟩
theorem Inv.unhnd (ok:X.Ok) (I:Inv (X.hnd e) pins σ H s):Inv X pins σ H s:=⟨ok,I.os,I.bare,I.base,I.loc,I.cell,I.free,I.freeC,I.pin,I.hok,I.len⟩
theorem SP.untri {D:Ends}{f:Flow}{s':Shared} (h:SP (X.tri pins W) pins' D f s'):SP X pins D f s':=by
 cases f with
 | next=>obtain ⟨σ',H',I,q⟩:=h;exact ⟨σ',H',I.untri,q⟩
 | brk=>obtain ⟨σ',H',I,q⟩:=h;exact ⟨σ',H',I.untri,q⟩
 | cont=>obtain ⟨σ',H',I,q⟩:=h;exact ⟨σ',H',I.untri,q⟩
 | ret u=>obtain ⟨v,σ',H',I,r,q⟩:=h;exact ⟨v,σ',H',I.untri,r,q⟩
theorem pass_try (hx:X.ex=[]):Passes (CXM X.prog X.w) (X.tri pins W) (fun σ cls eo H'=>∃ e C,cls=.ref C∧eo=some e∧W σ e C H'):=fun pins' σ H1 s1 u s2 I c=>by
 obtain ⟨e,C,H',rfl,I',he,tr,e',C',h1,h2,q⟩:=I.cx c
 cases h1;cases h2
 exact ⟨e,C,σ,H',rfl,I'.untri,he,tr.imp fun T n=>⟨I.back hx n,fun p hp z=>by
  have:=(I.pin p (List.mem_append_left _ hp)).1
  rw [z,n] at this
  cases this⟩,q⟩
theorem Inv.gone {i:Nat}{n:Str}{v:Option Value}{m:Str→Option Value}{h':Heap}{t':Nat} (I:Inv X pins σ H s) (hN:X.N.Nodup) (hi:X.N[i]? = some n)
  (hl:∀ (j:Nat) (x:Str) (v:V),X.N[j]? = some x→σ[j]? = some (some v)→Vis X.env.scope x→∃ u,RelV v u∧Look X.env s.heap m x u) (hn:h'.Ns X.env.locals (fun x=>if x=n then v else m x)) (hs:Heap.SameBut X.env.locals s.heap h') :
  Inv X pins (σ.set i none) H { s with heap:=h',toks:=t' }:=by
 obtain ⟨oL,_,_,hoL,_⟩:=id I.loc.choose_spec.1
 have cne:=I.cne
 refine ⟨I.ok,I.os,I.bare,⟨fun b o e n hb hx=>?_,fun b o e n hb hx=>?_,I.base.free,fun b o e hx=>?_,I.base.tups,I.base.frzs,I.base.tbls⟩,⟨_,hn,fun j y v' e1 e2 e3=>?_⟩,fun y c e=>?_,I.free,I.freeC,fun p hp=>?_,fun b ob e=>?_,by simpa using I.len⟩
 ·exact (hs.2 b (Nat.ne_of_lt (Nat.lt_of_lt_of_le (Heap.lt_size e) I.ok.above))).trans (I.base.keep b o e n hb hx)
 ·obtain ⟨sl,e1⟩:=I.base.slot b o e n hb hx
  exact ⟨sl,(hs.2 b (Nat.ne_of_lt (Nat.lt_of_lt_of_le (Heap.lt_size e) I.ok.above))).trans e1⟩
 ·obtain ⟨o',e1⟩:=I.base.there b o e hx
  exact ⟨o',(hs.2 b (Nat.ne_of_lt (Nat.lt_of_lt_of_le (Heap.lt_size e) I.ok.above))).trans e1⟩
 ·have hj:j≠i:=by
   rintro rfl
   rw [List.getElem?_set] at e2
   simp only [if_true] at e2
   split at e2 <;> cases e2
  rw [List.getElem?_set_ne (Ne.symm hj)] at e2
  obtain ⟨u',r',q⟩:=hl j y v' e1 e2 e3
  refine ⟨u',r',?_⟩
  rcases q with ⟨k,e⟩ | ⟨k,c,e,z⟩
  ·refine .inl ⟨k,?_⟩
   have:y≠n:=fun e=>hj (zDf hN e1 (e ▸ hi))
   simp [this,e]
  ·exact .inr ⟨k,c,e,z.sameBut hs (cne y c e)⟩
 ·obtain ⟨w',z⟩:=I.cell y c e
  exact ⟨w',z.sameBut hs (cne y c e)⟩
 ·obtain ⟨e,n,ne,nf,d⟩:=I.pin p hp
  exact ⟨(hs.2 p.1 ne).trans e,n,ne,nf,d⟩
 ·refine (I.hok b ob e).stay (fun c w' hc q=>(hs.2 c ?_).trans q) (fun _ q=>q) fun _ _ q=>q
  rintro rfl
  rcases hc with hc | hc
  ·rw [← hc,I.free] at e;cases e
  ·rw [I.free] at hc;cases hc
end
noncomputable def Ends.but (D:Ends) (i:Nat):Ends:={ nx:=fun σ H=>D.nx (σ.set i none) H,rt:=D.rt,bk:=fun σ H=>D.bk (σ.set i none) H,ct:=fun σ H=>D.ct (σ.set i none) H }
section
variable {X:Cx}{x n:Str}{np hpos pos:Pos}{body suite:List Stmt}{b₀ : Stmt}{i:Nat}{B:Addr}{tb:TW→TS}{th:Addr→TS}
theorem ps_try (hx:X.ex=[]) (hs:X.stack=X.env :: X.outer) (hf:X.env.frame=some X.env.locals) (hN:X.N.Nodup) (hi:X.N[i]? = some n) (hl:X.env.scope.names.lookup n=some .local) (hg:Gl X x) (hm:X.mg x=some (.ref B))
  (hb:∀ pins W,PSs (X.tri pins W) body (tb W)) (hh:∀ e,PSs (X.hnd e) (b₀ :: suite) (th e)) (hdb:(x == ("__debug__" : Str))=false:=by decide) :
  PS X (.Try body [.ExceptHandler (some (.Name x np)) (some n) (b₀ :: suite) hpos] [] [] pos) (fun D σ H=>∃ W:TW,tb W D σ H∧∀ σ' e C H',H' e=some (XO C e)→W σ' e C H'→PySem.W.exmOne X.K (.ref C) (.ref B)=some true∧th e (D.but i) (σ'.set i (some (.ref e))) H'):=by
 intro pins s σ H D I ⟨W,hbW,hW⟩
 refine wpAny_Try_except (wpAny_mono (hb pins W [] s σ H D I.tri hbW) (fun f s1 h1=>?_) (fun u s1 h1=>?_))
 ·have h1:=h1.untri
  cases f with
  | next =>
   obtain ⟨σ',H',I',q⟩:=h1
   exact zAb pins s1 σ' H' D I' q
  | brk=>exact h1
  | cont=>exact h1
  | ret u=>exact h1
 ·obtain ⟨e,C,σ',H',rfl,I',he,tr,w⟩:=h1
  obtain ⟨oe,vs,a0,T0,oT,ts,h1,h2,h3,h4,⟨g1,g2⟩,nT,h5,h6,h7⟩:=tr
  obtain ⟨hK,hT⟩:=hW σ' e C H' he w
  have hfr:X.A.frames=some (X.env :: X.outer):=by rw [← hs];exact I.ok.frames
  have hl':s1.heap.FunFrames X.base (X.env :: X.outer):=by rw [← hs];exact I'.stack
  obtain ⟨ox,vx,hox,hcx,hdx⟩:=xo_of I'.hok he
  rw [h1] at hox;cases hox
  have hne:T0≠e:=fun z=>by rw [z,he] at nT;cases nT
  have F:=fly_of hl' h1 h2 h3 h4 hne h5 h6 h7
  rw [hcx] at F
  have mv:∀ {h':Heap}{t':Nat},Heap.FlyingW (bas s1.heap (X.env :: X.outer) e T0) (X.env :: X.outer) e (.ref C) a0 h'→s1.heap.UpToSlots h'→Inv X pins σ' H' { s1 with heap:=h',toks:=t' }:=fun {h'}{t'} F up=>by
   have m:=L2.moved (fl:=.none) hl' F.1 F.2.2.1 F.2.2.2 up
   rw [← hs] at m
   exact I'.moved he nT g1 g2 h5 h6 m
  refine wpAny_looks_onW hfr hf F fun h₄ H4 up4=>?_
  refine wpAny_landsW H4 fun h₅ F5 up5=>?_
  have I5:=mv (t':=s1.toks) F5 (up4.trans up5)
  have I5h:=I5.hnd (e:=e)
  refine wpAny_handleBy_cons (codeAny_handlers_test (zCo I5h hg hm ?_ hdb)) (by intro q;cases q)
  obtain ⟨o5,ho5,hc5⟩:=F5.there
  have LT:PySem.W.Looks (model X.prog X.w) h₅ (typeOf (.ref e)) (.ref C):=by
   rw [← hc5]
   exact (PySem.W.Looks.ld ho5).andThen .now
  refine PySem.W.exm_one I5.kIn LT hK _ _ _ _ (fun _ _ q=>q) ?_
  refine codeAny_handlers_suite_as ?_
  refine lands_againW F5 fun h₆ F6 up6=>?_
  have I6:=(mv (t':=s1.toks) F6 ((up4.trans up5).trans up6)).hnd (e:=e)
  refine zD6 (X:=X.hnd e) (i:=i) I6 hN hi (.inl hl) (v:=.ref e) rfl (fun s7 I7=>?_) (.inr hl)
  refine wpAny_mono (hh e pins s7 _ H' (D.but i) I7 hT) (fun f s8 h8=>?_) (fun _ _ z=>False.elim z)
  have done:∀ {σ8:St}{H8:Hp}{R:Unit→Shared→Prop}{E:Value→Shared→Prop},Inv (X.hnd e) pins σ8 H8 s8→(∀ s9,Inv X pins (σ8.set i none) H8 s9→R () s9)→wpAny (model X.prog X.w) X.A (do bindName X.env n .none;unbindBehindTheSuite X.env n hpos) R E s8:=fun {σ8 H8 R E} J r=>by
   have J:=J.unhnd I.ok
   obtain ⟨m,hn,hloc⟩:=id J.loc
   exact wpAny_nameGoes_keeps hl hn (by rw [I.ok.kind];rfl) fun h9 v hn9 hs9=>r _ (J.gone hN hi hloc hn9 hs9)
  cases f with
  | next=>obtain ⟨σ8,H8,J,q⟩:=h8;exact done J fun s9 J9=>⟨_,_,J9,q⟩
  | brk=>obtain ⟨σ8,H8,J,q⟩:=h8;exact done J fun s9 J9=>⟨_,_,J9,q⟩
  | cont=>obtain ⟨σ8,H8,J,q⟩:=h8;exact done J fun s9 J9=>⟨_,_,J9,q⟩
  | ret u=>obtain ⟨v,σ8,H8,J,r,q⟩:=h8;exact done J fun s9 J9=>⟨v,_,_,J9,r,q⟩
end
end L2
namespace L2
open PySem PySem.Spec PyProof.Rows PySem.W
section
variable {prog:Program}{w:World}{A:Around}{E:Value→Shared→Prop}{h:Heap}{g:Array GenState}{d:Drawn}{t:Nat}{os:OsState}{a:Addr}{o:Obj}
 {nm q:Str}{C N:Addr}{bs bm:List Value}{hdct:Bool}{sn:List Str}{sub:List Value}{ab:Bool}{col:Option Bool}{dd:Option Addr}{k0 k1 k2 k3 k5:Option Value}{newId:String}
theorem check_ga {M:Model}{nameV:Value}{Q:Unit→Shared→Prop} (hC:h.get? C=some (excClassObj nm q C N bs bm hdct sn sub ab col dd k0 k1 k2 k3 k5 newId)) (hcB:(Value.ref C :: bm).contains (.type "BaseException")=true)
  (hx:h.get? a=some o) (hc:o.cls=.ref C) (hq:Q () ⟨h,g,d,t,os⟩):wpAny M A (checkBuiltinCall "BaseException.__getattribute__" ⟨[.ref a,nameV],[]⟩) Q E ⟨h,g,d,t,os⟩:=by
 have hk:builtinKind "BaseException.__getattribute__" = some .slot:=by decide +kernel
 have hsplit:splitId "BaseException.__getattribute__" = some ("BaseException", "__getattribute__"):=by decide +kernel
 have ha:=PySem.F.args_bexc_ga (.ref a) nameV
 simp only [checkBuiltinCall,hk,hsplit]
 refine wpAny_bind ?_
 ·unfold isInstance
  repeat (first | (with_reducible refine wpAny_loadPart_at hx ?_;rw [hc]) | (with_reducible refine wpAny_isSubtype_exc hC ?_;rw [hcB]) | wp_step)
  exact hq
end
section
variable {prog:Program}{w:World}{A:Around}{E:Value→Shared→Prop}{s:Shared}{K:Frag}{x C D:Addr}{ox:Obj}
open Builtin Builtin.ObjectAttr Builtin.Getset_descriptor in
theorem xc_get {R:Result→Shared→Prop}{tp:Value} (X:K.In s.heap) (L0:Looks (model prog w) s.heap (typeOf (.ref x)) (.ref D)) (hm:mroIn K D (.type "object")=some true) (h:R (.ok (.ret (.ref D))) s) :
  codeAny (model prog w) A (.call (.builtin "getset_descriptor.__get__") ⟨[.builtin "object.__class__",.ref x,tp],[]⟩) R s:=by
 obtain ⟨hh,g,dr,t,os⟩:=s
 have L1:=looks_mroIn (M:=model prog w) X hm;refine codeAny_call_builtin KF.slot_gs.plain KF.entry_gs (KF.slot_gs.check _ _ _ _ _ _ _ _ KF.type_class (KF.args_gs _ _ _) ?_)
 unfold Builtin.«getset_descriptor.__get__» descrGet;rw [dga_obj];refine wpAny_bind (wpAny_pure ?_)
 unfold descrGetter descrCheckInstance descrNameAndClass isInstance;simp only [KF.owner_class];repeat lk
 refine ⟨Code.quiet_builtin _ (by decide +kernel),codeAny_builtin KF.entry_class ?_⟩;unfold Builtin.«object.__class__» shownTypeOf
 repeat lk
 exact h
theorem xc_class {Q:Option Value→Shared→Prop} (X:K.In s.heap) (hx:s.heap.get? x=some ox) (hc:ox.cls=.ref D) (hga:findIn K (.ref D) "__getattribute__" = some (some (.builtin "BaseException.__getattribute__"))) (hgt:findIn K (.ref D) "__getattr__" = some none)
  (hcf:findIn K (.ref D) "__class__" = some (some (.builtin "object.__class__"))) (hm:mroIn K D (.type "object")=some true) (hexc:excIn K D [.type "ValueError",.type "Exception",.type "BaseException",.type "object"] "ValueError.__new__" = true)
  (h:Q (some (.ref D)) { s with toks:=s.toks + 1 }):wpAny (model prog w) A (getAttr? (.ref x) "__class__") Q E s:=by
 obtain ⟨hh,g,d,t,os⟩:=s
 have L0:Looks (model prog w) hh (typeOf (.ref x)) (.ref D):=by rw [← hc];exact (Looks.ld hx).andThen .now
 have L1:=looks_findIn (M:=model prog w) X hga
 have L2:=looks_findIn (M:=model prog w) X hgt
 have hx2:(Value.builtin "BaseException.__getattribute__" == Value.builtin "object.__getattribute__")=false:=by decide +kernel
 have hx1:(onTheHeap (Value.ref D) && Value.builtin "BaseException.__getattribute__" == Value.builtin "object.__getattribute__")=false:=by rw [hx2];rfl
 have f3:=PySem.F.attr_ValueError.ga.bind (.ref x)
 unfold getAttr? getAttrBy? getAttrBy
 refine wpAny_bind (wpAny_mkText (wpAny_bind (wpAny_attempt (wpAny_holding (wpAny_bind (L0.at (wpAny_bind (L1.at ?_))))))))
 simp only [hx1,hx2]
 rw [if_neg (by simp)]
 unfold getAttrByItsOwn
 repeat (any_goals (first | assumption | with_reducible refine L2.at ?_ | with_reducible refine L0.at ?_ | with_reducible refine L1.at ?_ | wp_step))
 obtain ⟨bm,N,nm,q,bs,hdct,sn,sub,ab,col,dd,k0,k1,k2,k3,k5,mN,hC,hN,hni,T⟩:=zDo X hexc
 refine codeAny_call_builtin PySem.F.attr_ValueError.ga.plain PySem.F.entry_bexc_ga (check_ga hC (by rw [List.contains_cons,T.hasType PySem.F.excBase_ValueError.hasBase];rfl) hx hc ?_)
 have L3:=looks_findIn (M:=model prog w) X hcf
 have f5:typeOf (.builtin "object.__class__")=pure (.type "getset_descriptor"):=by kernel_rfl
 have f6:=PySem.F.slot_gs_get.lookup
 have f7:=PySem.F.slot_gs_set.lookup
 repeat (any_goals (first | assumption | with_reducible refine L3.at ?_ | with_reducible refine L0.at ?_ | wp_step))
 refine xc_get X L0 hm ?_
 exact wpAny_pure (handed_on rfl (wpAny_pure h))
structure XCls (K:Frag) (C:Addr):Prop where
 exc:excIn K C [.type "ValueError",.type "Exception",.type "BaseException",.type "object"] "ValueError.__new__" = true
 ga:findIn K (.ref C) "__getattribute__" = some (some (.builtin "BaseException.__getattribute__"))
 gt:findIn K (.ref C) "__getattr__" = some none
 cf:findIn K (.ref C) "__class__" = some (some (.builtin "object.__class__"))
 ob:mroIn K C (.type "object")=some true
theorem kitx_exc {e:Addr} (c:XCls K C):KitX K (.ref e) (.ref C) (fun h=>∃ ox,h.get? e=some ox∧ox.cls=.ref C) where
 ty:=fun _ _ _ ⟨_,hx,hc⟩=>by rw [← hc];exact (Looks.ld hx).andThen .now
 it:=fun _ _ X _=>by
  obtain ⟨bm,N,nm,q,bs,hdct,sn,sub,ab,col,dd,k0,k1,k2,k3,k5,mN,hC,_⟩:=zDo X c.exc
  intro A' Q' E' s' k q
  unfold isType loadHead
  exact wpAny_bind (wpAny_loadPart (k _ _ hC) (wpAny_pure q))
 ne:=fun h tp dd its n sl X htp=>by
  obtain ⟨bm,N,nm,q,bs,hdct,sn,sub,ab,col,dd,k0,k1,k2,k3,k5,mN,hC,_⟩:=zDo X c.exc
  refine Bool.eq_false_iff.mpr fun q=>?_
  have e:C=tp:=Value.ref.inj (beq_iff_eq.mp q)
  subst e
  rw [hC] at htp
  exact nomatch congrArg Obj.data (Option.some.inj htp)
 ca:=fun X ⟨_,hx,hc⟩ k=>xc_class X hx hc c.ga c.gt c.cf c.ob c.exc k
end
section
variable {X:Cx}
theorem zCb {K:Frag} (hK:X.K=K):CallR X (.builtin "isinstance") (fun xs H Q=>∃ a C c cv b,xs=[.ref a,c]∧H a=some (XO C a)∧XCls K C∧absV cv=some c∧kitOne K (.ref C) cv=some b∧((∀ t,cv≠.ref t)→∃ T,cv=.type T)∧Q (.bl b) H):=by
 intro pins s σ H xs us Q I rv ⟨a,C,c,cv,b,ex,ha,hc,rc,hk,hT,q⟩
 subst ex hK
 obtain ⟨u1,u2,rfl,r1,r2⟩:=L2.v2 rv
 cases (show u1=Value.ref a from r1)
 obtain ⟨o,vs,h1,h2,h3⟩:=xo_of I.hok ha
 have e2:u2=cv:=by
  cases cv with
  | ref t=>cases (Option.some.inj rc);exact r2
  | type T=>cases (Option.some.inj rc);exact r2
  | _=>obtain ⟨T,z⟩:=hT (fun _ z=>nomatch z);cases z
 subst e2
 exact kia_one (kitx_exc hc) I.kIn ⟨o,h1,h2⟩ hk (fun z=>nomatch z) fun tk=>⟨.bl b,H,I.tok tk,rfl,q⟩
theorem zCc {K:Frag} (hK:X.K=K):CallR X (.builtin "isinstance") (fun xs H Q=>∃ (a C t:Addr) (cs:List Addr) (b:Bool),xs=[.ref a,.ref t]∧H a=some (XO C a)∧XCls K C∧H t=some (.tup (cs.map V.ref))∧kitAny K (.ref C) (cs.map Value.ref)=some b∧Q (.bl b) H):=by
 intro pins s σ H xs us Q I rv ⟨a,C,t,cs,b,ex,ha,hc,ht,hk,q⟩
 subst ex hK
 obtain ⟨u1,u2,rfl,r1,r2⟩:=L2.v2 rv
 cases (show u1=Value.ref a from r1)
 cases (show u2=Value.ref t from r2)
 obtain ⟨o,vs,h1,h2,h3⟩:=xo_of I.hok ha
 obtain ⟨_,its,r,ob,e1,e2,n,e3⟩:=(show ObjOk X.prog X.w H s.heap t (.tup (cs.map V.ref)) from I.hok t _ ht)
 have key:∀ (cs:List Addr) (its:List Value),Vals (cs.map V.ref) its→its=cs.map Value.ref:=by
  intro cs
  induction cs with
  | nil=>intro its r;cases r;rfl
  | cons c cs ih =>
   intro its r
   cases r with
   | cons r0 r' =>
    rw [ih _ r']
    cases r0
    rfl
 have ei:=key cs its r
 subst ei
 obtain ⟨oc,od,oda,osl⟩:=ob
 cases e2
 cases e3
 exact kia_tup (kitx_exc hc) I.kIn ⟨o,h1,h2⟩ e1 hk (fun z=>nomatch z) fun tk=>⟨.bl b,H,I.tok tk,rfl,q⟩
end
end L2
namespace L2
open PySem PySem.Spec PyProof.Rows
theorem Fun.okX {P:Program}{w:World}{K:PySem.W.Frag}{mg:Str→Option Value}{base:Heap}{CX:CXT}{x qual:Str}{st:Stmt}{f:Addr}{fd:FuncData}{N ps:List Str}{k:Nat}{sp:Sp} (F:Fun K x qual st f fd) (S:FnScope N ps (defScope st)) (len:∀ vs H Q E,sp vs H Q E→vs.length=ps.length)
  (hbody:∀ (cdv:Value) (A:Around) (outer:List Env) (s:Shared) (H:Hp) (vs:List V) (Q:VK) (E:XK),Room k (A.deeper (envOfC qual (defScope st) s.heap.objs.size f cdv))→sp vs H Q E →
   ∃ t,PSs (cxOf CX P w K mg base N qual (defScope st) f cdv A outer s H E) (defBody st) t∧t { nx:=fun _ H'=>Q .non H',rt:=Q } (start N vs) H):FnOk P w K mg base CX (k + 1) f fd ps sp:=by
 obtain ⟨oc,od,kV,doc,pm,an,cdv,ct,osl,rfl,lk,hcd⟩:=F.ex
 exact fn_of lk hcd S len fun A outer s H vs Q E hr hsp=>hbody cdv A outer s H vs Q E hr hsp
namespace W
noncomputable def zAv:=by have h:=@L2.zAv;rw [ePS,ePA] at h;exact @h
noncomputable def ps_try:=by have h:=@L2.ps_try;rw [ePS,ePSs] at h;exact @h
noncomputable def Fun.okX:=by have h:=@L2.Fun.okX;rw [ePSs] at h;exact @h
end W
end L2
namespace L2
open PySem PySem.Spec PyProof.Rows
section
variable {X:Cx}{pins:List (Addr×Obj)}{σ : St}{H:Hp}{s:Shared}{N':List Str}{is:List Nat}{st:Stmt}{t:TS}
end
theorem FnOk.calm {P:Program}{w:World}{K:PySem.W.Frag}{mg:Str→Option Value}{base:Heap}{CX:CXT}{k:Nat}{f:Addr}{fd:FuncData}{ps:List Str}{sp:Sp} (hC:Calm CX) (F:FnOk P w K mg base CX k f fd ps sp):FnOk P w K mg base CX0 k f fd ps (fun vs H Q E=>sp vs H Q fun _ _ _=>False) :=
 ⟨fun vs H Q E h=>F.len vs H Q _ h,fun A outer s H args us vs Q E hr he hb hv h=>by
  have:=F.run A outer s H args us vs Q (fun _ _ _=>False) hr he hb hv h
  refine codeAny_mono this fun r s' h'=>?_
  cases r with
  | ok c =>
   cases c with
   | ret u=>exact h'
   | _=>exact h'
  | error e=>exact hC _ _ _ _ _ h'⟩
namespace W
end W
end L2
namespace L2
open PySem PySem.Spec PyProof.Rows
structure TabM (H:Hp) (P:Addr) (q:Str):Prop where
 ex:∃ ps:Array Value,H P=some (.tbl ps)∧TriplesOk ps.toList∧∀ (pos:Pos) (v:Value),codeAmong pos ps.toList=some v→∃ a,v=.ref a∧H a=some (CodeO a q)
theorem TabM.ne {H:Hp}{P:Addr}{q:Str} (T:TabM H P q) {a:Addr}{o:HO} (e:H a=some o) (h:∀ ps,o≠.tbl ps):a≠P:=by
 rintro rfl
 obtain ⟨ps,z,_⟩:=T.ex
 rw [e] at z
 exact h _ (Option.some.inj z)
theorem TabM.upd {H:Hp}{P:Addr}{q:Str}{p:Addr}{u o:HO} (T:TabM H P q) (hp:H p=some u) (h1:∀ ps,u≠.tbl ps) (h2:∀ f,u≠.ext f):TabM (L2.upd H p o) P q:=by
 have n1:=T.ne hp h1
 obtain ⟨ps,z,t,c⟩:=T.ex
 refine ⟨ps,by rw [zA9 (Ne.symm n1)];exact z,t,fun pos v e=>?_⟩
 obtain ⟨a,e1,e2⟩:=c pos v e
 refine ⟨a,e1,?_⟩
 rw [zA9 ?_]
 ·exact e2
 ·rintro rfl
  rw [hp] at e2
  exact h2 _ (Option.some.inj e2)
section
variable {f c':Addr}{q:Str}{params:Arguments}{body:Expr}{scope:Scope}{cl:List (Str×Addr)}{N:List Str}{ws:List V}{h h':Heap}{H:Hp}
end
section
variable {CX:CXT}{P:Program}{w:World}{K:PySem.W.Frag}{mg:Str→Option Value}{base:Heap}{k:Nat}{f c':Addr}{q:Str}{params:Arguments}{body:Expr}{scope:Scope}{cl:List (Str×Addr)}{N:List Str}{ws:List V}
end
section
variable {X:Cx}{CX:CXT}{k:Nat}{f c':Addr}{q x:Str}{params:Arguments}{body:Expr}{scope:Scope}{cl:List (Str×Addr)}{N:List Str}{ws:List V}{sp:Hp→VK→XK→Prop}{E:St→XK}{i:Nat}{p pos:Pos}
end
section
variable {X:Cx}{pins:List (Addr×Obj)}{σ : St}{H:Hp}{s:Shared}{A:Around}{E:Value→Shared→Prop}
end
section
variable {X:Cx}{CX:CXT}{k:Nat}{fw c P:Addr}{fd:FuncData}{q x y:Str}{params:Arguments}{body:Expr}{scope:Scope}{N:List Str}{ix:List Nat}{sp:Addr→Addr→List (Str×Addr)→List V→Sp}{E:St→XK}{p lpos pos:Pos}
end
theorem FunL.okX {P:Program}{w:World}{K:PySem.W.Frag}{mg:Str→Option Value}{base:Heap}{CX:CXT}{x qual:Str}{st:Stmt}{f c:Addr}{fd:FuncData}{N ps:List Str}{k:Nat}{sp:Sp} (F:FunL K x qual st f fd c) (S:FnScope N ps (defScope st)) (len:∀ vs H Q E,sp vs H Q E→vs.length=ps.length)
  (hbody:∀ (A:Around) (outer:List Env) (s:Shared) (H:Hp) (vs:List V) (Q:VK) (E:XK),Room k (A.deeper (envOfC qual (defScope st) s.heap.objs.size f (.ref c)))→sp vs H Q E →
   ∃ t,PSs (cxOf CX P w K mg base N qual (defScope st) f (.ref c) A outer s H E) (defBody st) t∧t { nx:=fun _ H'=>Q .non H',rt:=Q } (start N vs) H):FnOk P w K mg base CX (k + 1) f fd ps sp:=by
 obtain ⟨oc,od,kV,doc,pm,an,ct,osl,rfl,lk,hcd⟩:=F.ex
 exact fn_of lk hcd S len fun A outer s H vs Q E hr hsp=>hbody A outer s H vs Q E hr hsp
namespace W
noncomputable def FunL.okX:=by have h:=@L2.FunL.okX;rw [ePSs] at h;exact @h
end W
end L2
namespace PySem.SeqAt
open AutoSeq1 (wpAny_loadPart')
open MeetsSeq
section
variable {A:Around}{s:Shared}
end
end PySem.SeqAt
namespace L2
open PySem PySem.Spec PyProof.Rows
section
variable {X:Cx}{pins:List (Addr×Obj)}{σ : St}{H:Hp}{s:Shared}
end
end L2
namespace L2
open PySem PySem.Spec PyProof.Rows
end L2
namespace L2
open PySem PySem.Spec PyProof.Rows
section
variable {X:Cx}
end
end L2
namespace L2
open PySem PySem.Spec PyProof.Rows
section
variable {X:Cx}
end
namespace W
end W
end L2
namespace L2
open PySem PySem.Spec PyProof.Rows
section
variable {X:Cx}
end
namespace W
end W
end L2
namespace L2
open PySem PySem.Spec PyProof.Rows
theorem _root_.PyProof.Rows.IsTupIter.kp {h h':Heap}{it l:Addr}{k:Nat} (x:IsTupIter h it l k) (e:∀ o,h.get? it=some o→h'.get? it=some o):IsTupIter h' it l k:=by
 obtain ⟨o,q,r⟩:=x
 exact ⟨o,e o q,r⟩
section
variable {P:Program}{w:World}{A:Around}{E:Value→Shared→Prop}{s:Shared}
end
section
variable {P:Program}{w:World}{A:Around}{E:Value→Shared→Prop}{s:Shared}
end
end L2
namespace L2.W
open PySem PySem.Spec PyProof.Rows
end L2.W
namespace L2
open PySem PySem.Spec PyProof.Rows
structure ClsFn (K:PySem.W.Frag) (C:Addr) (m:Str) (f:Addr):Prop where
 rd:PySem.W.readsIn K C (.type "type")=true
 at_:PySem.W.findCls K (.ref C) (.type "type") m=some (.val (.ref f))
 hd:PySem.W.handedIn (.ref f)=true
 sp:PySem.W.specialIn K (.ref C) "__getattribute__" = some (some (.builtin "type.__getattribute__"))
 kp:PySem.W.keepIn K (.ref f)=true
section
variable {X:Cx}{CX:CXT}{k:Nat}{f C:Addr}{fd:FuncData}{ps:List Str}{sp:Sp}{dvs:List V}{ds:List Value}{E:St→XK}{x m:Str}{p pos apos:Pos}{e:Expr}{es:List Expr}{t:TA}
theorem zBq {pl:Sem Bool} (hm:ClsFn X.K C m f) (F:FnOk X.prog X.w X.K X.mg X.base CX k f fd ps sp) (hr:Room k X.A) (hg:Gl X x) (hx':X.mg x=some (.ref C)) (hb:Binds X.K fd ps ds) (hd:Vals dvs ds) (hx:Passes CX X E) (ha:PA X (e :: es) t)
  (hdb:(x == ("__debug__" : Str))=false:=by decide) (hst:starEach (e :: es) X.env=(false,eval e X.env) :: starEach es X.env:=by rfl) (hpl:(backTo pos (starEach es X.env)).any (·.1)=false:=by rfl)
  (ht:eval (.Call (.Attribute (.Name x p) m apos) (e :: es) [] pos) X.env=(do
   let ov ← eval (.Name x p) X.env
   standAt apos.atName
   let (f,first) ← holding [ov] (getMethod ov m pl)
   callWith pos f first (backTo pos (starEach (e :: es) X.env)) (backToKw pos (keywordEach [] X.env))):=by rfl) :
  PE X (.Call (.Attribute (.Name x p) m apos) (e :: es) [] pos) (tCall sp dvs E t):=by
 intro pins s σ H Q I h
 refine PySem.W.methodCall_KW (pl:=pl) (thn (zAh (v:=.ref C) hg hx' rfl hdb pins s σ H (fun v H1=>v=.ref C∧H1=H) I ⟨rfl,rfl⟩) fun u s1 ⟨y,H1,I1,ry,ey,eH⟩=>?_) ht
 subst ey eH
 obtain rfl:u=Value.ref C:=ry
 refine PySem.W.method_cls I1.kIn hm.sp (PySem.W.cls_value I1.kIn hm.rd hm.at_ hm.hd ?_)
 have I2:=I1.tok (s1.toks + 1)
 refine PySem.W.callWith_K (first:=[]) (h₀:=X.base) I.ok.mod.kin hm.kp (thn (ha pos pins _ σ H1 _ I2 h) fun us s2 ⟨vs,H2,I3,r,q2⟩=>⟨I3.kIn,?_⟩) hst hpl
 exact run_fn F hr hb hd hx I3 r q2
theorem mt_count:MtR X "str.count" (fun x xs H Q=>∃ z y,x=.str z∧xs=[.str y]∧Q (.int (Txt.count z y:Int)) H):=by
 intro pins s σ H x xs v us Q I rx rs h
 obtain ⟨z,y,rfl,rfl,q⟩:=h
 obtain ⟨t,rfl⟩:=rx
 obtain ⟨u,rfl,ru⟩:=v1 rs
 obtain ⟨t',rfl⟩:=ru
 exact PySem.W.KXw.count rfl fun t1 k1=>⟨.int _,H,I.tok k1,⟨t1,rfl⟩,q⟩
end
end L2
namespace L2.W
open PySem PySem.Spec PyProof.Rows
noncomputable def zBq:=by have h:=@L2.zBq;rw [ePE,ePA] at h;exact @h
end L2.W
namespace L2
open PySem PySem.Spec PyProof.Rows
noncomputable def dataE:Nat→Expr→Option PyData
 | 0,_=>none
 | n + 1,e=>match e with
  | .Constant (.int i) _ _=>some (.int i)
  | .Constant (.str x) _ _=>if decide ((x:Str).length≤1000) && PyData.strOk x then some (.str x) else none
  | .Constant (.bool b) _ _=>some (.bool b)
  | .Constant .none _ _=>some .none
  | .List es _=>if es.length≤1000 then (es.mapM (dataE n)).map .list else none
  | .Tuple es _ _=>if es.length≤1000 then (es.mapM (dataE n)).map .tuple else none
  | .UnaryOp .USub e _=>match dataE n e with | some (.int i)=>some (.int (-i)) | _=>none
  | .BinOp a .Sub b _=>match dataE n a,dataE n b with | some (.int i),some (.int j)=>some (.int (i - j)) | _,_=>none
  | .BinOp a .Pow b _=>match dataE n a,dataE n b with | some (.int i),some (.int j)=>if 0≤j∧j≤1000∧i.natAbs≤1000 then some (.int (i ^ j.toNat)) else none | _,_=>none
  | _=>none
noncomputable def tData (d:PyData):TE:=fun _ H Q=>∀ v H',Same H H'→Has (fun a=>H a=none) H' v d→Q v H'
noncomputable def tDatas (ds:List PyData):TA:=fun _ H Q=>∀ vs H',Same H H'→HasAll (fun a=>H a=none) H' vs ds→Q vs H'
noncomputable def starOk (X:Cx) (e:Expr):Prop:=∀ es,starEach (e :: es) X.env=(false,eval e X.env) :: starEach es X.env
theorem zCe {X:Cx}{n:Nat} (ih:∀ {e:Expr}{d:PyData},dataE n e=some d→PE X e (tData d)∧starOk X e):∀ {es:List Expr}{ds:List PyData},es.mapM (dataE n)=some ds→PA X es (tDatas ds)
 | [],ds,h=>by
  rw [List.mapM_nil] at h
  cases h
  exact fun pos pins s σ H Q I q=>zA2 pos pins s σ H Q I (q [] H (Same.refl _) .nil)
 | e :: es,ds,h=>by
  rw [List.mapM_cons] at h
  cases q:dataE n e with
  | none=>rw [q] at h;cases h
  | some d =>
   rw [q] at h
   cases r:es.mapM (dataE n) with
   | none=>rw [r] at h;cases h
   | some ws =>
    rw [r] at h
    cases h
    obtain ⟨p1,p2⟩:=ih q
    intro pos pins s σ H Q I k
    refine zA0 p1 (zCe ih r) (p2 es) pos pins s σ H Q I fun v H1 s1 h1 vs H2 s2 h2=>k _ _ (s1.trans s2) (.cons (h1.mono s2) (h2.frame fun b o g e=>⟨s1.free g,e⟩))
theorem zDi {α β : Type}{f : α→Option β}:∀ {l:List α}{m:List β},l.mapM f=some m→m.length=l.length
 | [],m,h=>by rw [List.mapM_nil] at h;cases h;rfl
 | a :: l,m,h=>by
  rw [List.mapM_cons] at h
  cases q:f a with
  | none=>rw [q] at h;cases h
  | some b =>
   rw [q] at h
   cases r:l.mapM f with
   | none=>rw [r] at h;cases h
   | some ws=>rw [r] at h;cases h;rw [List.length_cons,List.length_cons,zDi r]
theorem data_of {X:Cx}:∀ {n:Nat}{e:Expr}{d:PyData},dataE n e=some d→PE X e (tData d)∧starOk X e
 | 0,_,_,h=>by cases h
 | n + 1,e,d,h=>by
  have ih:∀ {e:Expr}{d:PyData},dataE n e=some d→PE X e (tData d)∧starOk X e:=fun h=>data_of h
  unfold dataE at h
  split at h
  ·cases h;exact ⟨fun pins s σ H Q I k=>zA5 pins s σ H Q I (k _ H (Same.refl _) (.int _)),fun _=>rfl⟩
  ·split at h
   ·rename_i c
    rw [Bool.and_eq_true] at c
    cases h;exact ⟨fun pins s σ H Q I k=>zA6 pins s σ H Q I (k _ H (Same.refl _) (.str _ (of_decide_eq_true c.1) c.2)),fun _=>rfl⟩
   ·cases h
  ·cases h;exact ⟨fun pins s σ H Q I k=>zBn pins s σ H Q I (k _ H (Same.refl _) (.bl _)),fun _=>rfl⟩
  ·cases h;exact ⟨fun pins s σ H Q I k=>pe_non pins s σ H Q I (k _ H (Same.refl _) .non),fun _=>rfl⟩
  ·rename_i es pos
   split at h
   ·rename_i c
    obtain ⟨ds,hm,rfl⟩:=Option.map_eq_some_iff.mp h
    refine ⟨fun pins s σ H Q I k=>zAu (zCe ih hm) pins s σ H Q I fun vs H1 s1 h1=>?_,fun _=>rfl⟩
    have l1:vs.length≤1000:=by rw [h1.length,zDi hm];exact c
    exact ⟨Nat.le_of_lt (small1000 l1),fun p hp=>k _ _ (s1.trans (Same.new hp)) (.lst (s1.free hp) zA1 l1 (h1.mono (Same.new hp)))⟩
   ·cases h
  ·rename_i es kk pos
   split at h
   ·rename_i c
    obtain ⟨ds,hm,rfl⟩:=Option.map_eq_some_iff.mp h
    refine ⟨fun pins s σ H Q I k=>zBd (zCe ih hm) pins s σ H Q I fun vs H1 s1 h1=>?_,fun _=>rfl⟩
    have l1:vs.length≤1000:=by rw [h1.length,zDi hm];exact c
    exact ⟨Nat.le_of_lt (small1000 l1),fun p hp=>k _ _ (s1.trans (Same.new hp)) (.tup (s1.free hp) zA1 l1 (h1.mono (Same.new hp)))⟩
   ·cases h
  ·split at h
   ·rename_i i hi
    cases h
    exact ⟨fun pins s σ H Q I k=>pe_un un_neg (ih hi).1 pins s σ H Q I fun v H1 s1 h1=>by cases h1;exact ⟨_,rfl,k _ _ s1 (.int _)⟩,fun _=>rfl⟩
   ·cases h
  ·split at h
   ·rename_i i j hi hj
    cases h
    exact ⟨fun pins s σ H Q I k=>zAg op_sub (ih hi).1 (ih hj).1 pins s σ H Q I fun v H1 s1 h1 v2 H2 s2 h2=>by cases h1;cases h2;exact ⟨_,_,rfl,rfl,k _ _ (s1.trans s2) (.int _)⟩,fun _=>rfl⟩
   ·cases h
  ·split at h
   ·rename_i i j hi hj
    split at h
    ·rename_i c
     cases h
     exact ⟨fun pins s σ H Q I k=>zAg op_pow (ih hi).1 (ih hj).1 pins s σ H Q I fun v H1 s1 h1 v2 H2 s2 h2=>by cases h1;cases h2;exact ⟨_,_,rfl,rfl,⟨c.1,by omega,by omega⟩,k _ _ (s1.trans s2) (.int _)⟩,fun _=>rfl⟩
    ·cases h
   ·cases h
  ·cases h
theorem zAr {X:Cx}{e:Expr}{d:PyData} (n:Nat) (h:dataE n e=some d):PE X e (tData d):=(data_of h).1
theorem pa_data {X:Cx}{es:List Expr}{ds:List PyData} (n:Nat) (h:es.mapM (dataE n)=some ds):PA X es (tDatas ds):=zCe (fun h=>data_of h) h
end L2
namespace L2.W
open PySem PySem.Spec PyProof.Rows
noncomputable def zAr:=by have h:=@L2.zAr;rw [ePE] at h;exact @h
noncomputable def pa_data:=by have h:=@L2.pa_data;rw [ePA] at h;exact @h
end L2.W
namespace My
open PySem L2
noncomputable def top (i:Nat):Stmt:=PySem.Challenge.pw_cometorest_k21_what_is_a_deed.main.body.getD i (.Pass ⟨0,0,0,0⟩)
noncomputable abbrev sIsName:Stmt:=top 20
noncomputable abbrev sIsWhole:Stmt:=top 21
noncomputable abbrev sWholeFrom:Stmt:=top 22
noncomputable abbrev sWritten:Stmt:=top 26
noncomputable abbrev sHasForm:Stmt:=top 27
noncomputable abbrev sCheckMark:Stmt:=top 29
noncomputable abbrev sCheckOwner:Stmt:=top 30
noncomputable abbrev sInitD:Stmt:=inClass (top 31) 0
noncomputable abbrev sInitM:Stmt:=inClass (top 32) 0
noncomputable abbrev sPartsM:Stmt:=inClass (top 32) 1
noncomputable abbrev sInitS:Stmt:=inClass (top 33) 0
noncomputable abbrev sPartsS:Stmt:=inClass (top 33) 1
noncomputable abbrev sInitT:Stmt:=inClass (top 34) 0
noncomputable abbrev sPartsT:Stmt:=inClass (top 34) 1
noncomputable abbrev sMixed:Stmt:=top 37
noncomputable abbrev sSource:Stmt:=top 38
noncomputable abbrev sNext:Stmt:=top 39
noncomputable abbrev sWord:Stmt:=top 40
noncomputable abbrev sNumber:Stmt:=top 41
noncomputable abbrev sName:Stmt:=top 42
noncomputable abbrev sTags:Stmt:=top 43
noncomputable abbrev sLFields:Stmt:=top 44
noncomputable abbrev sOdd:Stmt:=top 45
noncomputable abbrev sMade:Stmt:=top 46
noncomputable abbrev sRefused:Stmt:=top 47
noncomputable abbrev sRight:Stmt:=top 48
noncomputable abbrev sLaw:Stmt:=top 49
noncomputable def letters:Str:="abcdefghijklmnopqrstuvwxyz"
structure Tops (K:PySem.W.Frag) (mg:Str→Option Value):Prop where
 isinst:mg "isinstance" = none
 len:mg "len" = none
 all:mg "all" = none
 range:mg "range" = none
 str:mg "str" = none
 tuple:mg "tuple" = none
 int:mg "int" = none
 bool:mg "bool" = none
 lets:∃ t,mg "LETTERS" = some (.str letters t)
 most:∃ t,mg "MOST_LETTERS" = some (.int 8 t)
 figs:∃ t,mg "FIGURES" = some (.str "0123456789" t)
 mostF:∃ t,mg "MOST_FIGURES" = some (.int 6 t)
noncomputable def charB (c:Nat):Bool:=decide (c∈letters.cps.toList)
noncomputable def nameB (x:Str):Bool:=decide (1≤x.length) && decide (x.length≤8) && x.cps.toList.all charB
noncomputable def spIsName (K:PySem.W.Frag):Sp:=fun vs H Q _=>(∃ x,vs=[.str x]∧x.length≤1000∧∀ H',Same H H'→Q (.bl (nameB x)) H') ∨
 ∃ v t,vs=[v]∧TyOf K H v t∧PySem.W.kitOne K t (.type "str")=some false∧Q (.bl false) H
section
variable {P:Program}{w:World}{K:PySem.W.Frag}{mg:Str→Option Value}{base:Heap}{CX:CXT}
theorem scIN:FnScope ["thing"] ["thing"] (defScope sIsName):=⟨rfl,rfl,rfl,by decide +kernel,rfl,by decide +kernel,by decide +kernel⟩
theorem ok_isName {f:Addr}{fd:FuncData} (F:Fun K "is_name" "is_name" sIsName f fd) (T:Tops K mg):FnOk P w K mg base CX 1 f fd ["thing"] (spIsName K):=by
 refine F.okC scIN (fun vs H Q E h=>?_) (fun cdv A outer s H vs Q E hr h=>?_)
 ·rcases h with ⟨x,rfl,_⟩ | ⟨v,t,rfl,_⟩ <;> rfl
 ·obtain ⟨tl,hlets⟩:=T.lets
  obtain ⟨tm,hmost⟩:=T.most
  refine ⟨_,zA3 (zAp (zB0 (zAz (zAa zAn rfl T.isinst PyProof.Rows.boot_isinstance (zA0 (pv 0) (zA0 (zB7 (v:=.ty "str") rfl T.str PyProof.Rows.boot_str rfl) zA2))))) (zA4 (zAd zBn)) zAb)
   (zA4 (zAd (zCk (zDa op_le op_le zA5 (zAa zBg rfl T.len PySem.boot_len (zA0 (pv 0) zA2)) (zAh (v:=.int 8) rfl hmost ⟨_,rfl⟩))
    (zC9 (zAa (zBv rfl) rfl T.all PyProof.Rows.boot_all (zA0 (zBe (T:=["sign"]) rfl ScOk.auto (pi_str (pv 0)) (fun _ _ _ _=>zAx (i:=1) (by decide +kernel:(["thing", "sign"]:List Str).Nodup) rfl (Or.inl rfl)) (fun _ _ _ _=>zC8)
     (fun _ _ _ _=>zB1 op_in_str (pv 1) (zAh (v:=.str letters) rfl hlets ⟨_,rfl⟩) rfl)) zA2)))))),?_⟩
  rcases h with ⟨x,rfl,hx,k⟩ | ⟨v,t,rfl,ty,hk,k⟩
  ·refine ⟨_,rfl,_,_,_,_,_,rfl,.str x,rfl,rfl,_,rfl,iteF ?_⟩
   have hz:x.length≤sizeLine:=Nat.le_of_lt (small1000 hx)
   refine ⟨_,rfl,x,rfl,hz,_,_,rfl,rfl,_,rfl,?_⟩
   refine ite2 (fun h1=>?_) (fun h1=>?_)
   ·refine ⟨_,_,rfl,rfl,_,rfl,?_⟩
    refine ite2 (fun h2=>?_) (fun h2=>?_)
    ·refine ⟨_,rfl,x,rfl,zC6 (fun _=>true) (fun c=>.bl (charB c)) hz (fun c Ry Rn q _=>?_) (fun d hd=>?_)⟩
     ·refine iteT (B:=Rn H) ⟨_,rfl,_,_,rfl,rfl,?_⟩
      rw [PySem.StrLaws.found_one]
      exact q rfl
     ·refine ⟨d,x.cps.toList.map charB,rfl,SqL.of ?_,?_⟩
      ·rw [zA1,List.filter_eq_self.mpr (fun _ _=>rfl),List.map_map]
       rfl
      ·have e:nameB x=(x.cps.toList.map charB).all id:=by
        have a1:1≤x.length:=by have:=of_decide_eq_true h1;omega
        have a2:x.length≤8:=by have:=of_decide_eq_true h2;omega
        unfold nameB
        rw [decide_eq_true a1,decide_eq_true a2,List.all_map]
        rfl
       rw [← e]
       exact k _ (Same.new hd)
    ·have a2:¬ x.length≤8:=fun z=>h2 (decide_eq_true (by omega))
     have e:nameB x=false:=by unfold nameB;rw [decide_eq_false a2];simp
     rw [← e]
     exact k _ (Same.refl _)
   ·have a1:¬ 1≤x.length:=fun z=>h1 (decide_eq_true (by omega))
    have e:nameB x=false:=by unfold nameB;rw [decide_eq_false a1];simp
    refine ⟨false,rfl,iteF ?_⟩
    rw [← e]
    exact k _ (Same.refl _)
  ·exact ⟨_,rfl,_,_,_,_,_,rfl,ty,rfl,hk,_,rfl,iteT k⟩
end
noncomputable def spIsWhole (K:PySem.W.Frag):Sp:=fun vs H Q _=>∃ v t b c,vs=[v]∧TyOf K H v t∧PySem.W.kitOne K t (.type "int")=some b∧PySem.W.kitOne K t (.type "bool")=some c∧Q (.bl (b && !c)) H
section
variable {P:Program}{w:World}{K:PySem.W.Frag}{mg:Str→Option Value}{base:Heap}{CX:CXT}
theorem scIW:FnScope ["thing"] ["thing"] (defScope sIsWhole):=⟨rfl,rfl,rfl,by decide +kernel,rfl,by decide +kernel,by decide +kernel⟩
theorem ok_isWhole {f:Addr}{fd:FuncData} (F:Fun K "is_whole" "is_whole" sIsWhole f fd) (T:Tops K mg):FnOk P w K mg base CX 1 f fd ["thing"] (spIsWhole K):=by
 refine F.okC scIW (fun vs H Q E h=>?_) (fun cdv A outer s H vs Q E hr h=>?_)
 ·obtain ⟨v,t,b,c,rfl,_⟩:=h
  rfl
 ·obtain ⟨v,t,b,c,rfl,ty,hb,hc,k⟩:=h
  refine ⟨_,zA4 (zAd (zCk (zAa zAn rfl T.isinst PyProof.Rows.boot_isinstance (zA0 (pv 0) (zA0 (zB7 (v:=.ty "int") rfl T.int PyProof.Rows.boot_int rfl) zA2)))
   (zC9 (pe_not (zAa zAn rfl T.isinst PyProof.Rows.boot_isinstance (zA0 (pv 0) (zA0 (zB7 (v:=.ty "bool") rfl T.bool PyProof.Rows.boot_bool rfl) zA2))))))),?_⟩
  refine ⟨_,rfl,_,_,_,_,_,rfl,ty,rfl,hb,_,rfl,?_⟩
  cases b with
  | true=>exact iteT ⟨_,rfl,_,_,_,_,_,rfl,ty,rfl,hc,_,rfl,k⟩
  | false=>exact iteF k
end
noncomputable def spMixed:Sp:=fun vs H Q _=>∃ c k:Int,vs=[.int c,.int k]∧0≤k∧k≤1000000∧∀ n:Int,0≤n→n < 2147483629→Q (.int n) H
noncomputable def Src (H:Hp) (p:Addr) (k:Int):Prop:=∃ a c j:Int,H p=some (.lst [.int a,.int c,.int j])∧0≤j∧j≤k
noncomputable def spDigits:Sp:=fun vs H Q _=>∃ c:Int,vs=[.int c]∧∀ p H',H p=none→Src H' p 0→Same H H'→(∀ b,b≠p→H' b=H b)→Q (.ref p) H'
noncomputable def spNext:Sp:=fun vs H Q _=>∃ (p:Addr) (m k:Int),vs=[.ref p,.int m]∧Src H p k∧k≤999998∧0 < m∧m < 2 ^ 64 ∧
 ∀ (r:Int) (H':Hp),0≤r→r < m→Src H' p (k + 1)→(∀ b,b≠p→H' b=H b)→Q (.int r) H'
section
variable {P:Program}{w:World}{K:PySem.W.Frag}{mg:Str→Option Value}{base:Heap}{CX:CXT}
theorem scMx:FnScope ["_law_cell", "_law_k", "_law_number_here"] ["_law_cell", "_law_k"] (defScope sMixed):=⟨rfl,rfl,rfl,by decide +kernel,rfl,by decide +kernel,by decide +kernel⟩
theorem ok_mixed {f:Addr}{fd:FuncData} (F:Fun K "_law_mixed" "_law_mixed" sMixed f fd):FnOk P w K mg base CX 1 f fd ["_law_cell", "_law_k"] spMixed:=by
 refine F.okC scMx (fun vs H Q E h=>?_) (fun cdv A outer s H vs Q E hr h=>?_)
 ·obtain ⟨c,k,rfl,_⟩:=h
  rfl
 ·obtain ⟨c,k,rfl,h0,h1,q⟩:=h
  refine ⟨_,zA3 (zAe (i:=2) scMx.nd rfl (Or.inl rfl) (zAg zBs (zAg zCz (zAg zBf (zAg zBf (zAg zBs (pv 0) zA5) (zAg zCz zA5 (pv 1))) zA5) zA5) zA5))
   (zA3 (zAe (i:=2) scMx.nd rfl (Or.inl rfl) (zAg zBs (zAg zCz (pv 2) (zAg zBf (zAg zDd (pv 2) zA5) zA5)) zA5))
   (zA3 (zAe (i:=2) scMx.nd rfl (Or.inl rfl) (zAg zBs (zAg zCz (pv 2) (zAg zBf (zAg zBf (zAg zDd (pv 2) zA5) zA5) (pv 1))) zA5))
   (zA4 (zAd (zAg zBs (zAg zCz (pv 2) (zAg zBf (zAg zDd (pv 2) zA5) zA5)) zA5))))),?_⟩
  have M:(0:Int) < 2147483629:=by decide
  have lo:∀ z:Int,0≤z % 2147483629:=fun z=>Int.emod_nonneg _ (by decide)
  have hi:∀ z:Int,z % 2147483629 < 2147483629:=fun z=>Int.emod_lt_of_pos _ M
  have cm:∀ z y:Int,CMul (z % 2147483629) y:=fun z y=>by have:=lo z;have:=hi z;exact .inl ⟨by omega,by omega⟩
  refine ⟨_,rfl,_,_,rfl,rfl,M,_,rfl,_,_,rfl,rfl,.inl ⟨by decide,by decide⟩,_,_,rfl,rfl,_,_,rfl,rfl,_,_,rfl,rfl,.inr ⟨by decide,by decide⟩,_,_,rfl,rfl,M,?_⟩
  refine ⟨_,rfl,_,rfl,_,_,rfl,rfl,⟨by decide,by decide⟩,_,_,rfl,rfl,_,_,rfl,rfl,cm _ _,_,_,rfl,rfl,M,?_⟩
  refine ⟨_,rfl,_,rfl,_,_,rfl,rfl,⟨by decide,by decide⟩,_,_,rfl,rfl,_,rfl,_,_,rfl,rfl,_,_,rfl,rfl,cm _ _,_,_,rfl,rfl,M,?_⟩
  refine ⟨_,rfl,_,rfl,_,_,rfl,rfl,⟨by decide,by decide⟩,_,_,rfl,rfl,_,_,rfl,rfl,cm _ _,_,_,rfl,rfl,M,?_⟩
  exact q _ (lo _) (hi _)
theorem scDg:FnScope ["_law_cell"] ["_law_cell"] (defScope sSource):=⟨rfl,rfl,rfl,by decide +kernel,rfl,by decide +kernel,by decide +kernel⟩
theorem ok_digits {f:Addr}{fd:FuncData} (F:Fun K "_law_source" "_law_source" sSource f fd):FnOk P w K mg base CX 1 f fd ["_law_cell"] spDigits:=by
 refine F.okC scDg (fun vs H Q E h=>?_) (fun cdv A outer s H vs Q E hr h=>?_)
 ·obtain ⟨c,rfl,_⟩:=h
  rfl
 ·obtain ⟨c,rfl,q⟩:=h
  refine ⟨_,zA4 (zAd (zAu (zA0 (zAg zCz (zAg zDd (pv 0) zA5) (zAg op_sub zA5 (zAg zBs (pv 0) zA5))) (zA0 (pv 0) (zA0 zA5 zA2))))),?_⟩
  have a1:0≤c % 2:=Int.emod_nonneg _ (by decide)
  have a2:c % 2 < 2:=Int.emod_lt_of_pos _ (by decide)
  refine ⟨_,rfl,_,_,rfl,rfl,⟨by decide,by decide⟩,_,rfl,_,_,rfl,rfl,(by show (0:Int) < 2;decide),_,_,rfl,rfl,_,_,rfl,rfl,.inr ⟨by omega,by omega⟩,_,rfl,(by show 3≤sizeLine;decide),fun p hp=>?_⟩
  exact q p _ hp ⟨_,_,0,zA1,by decide,by decide⟩ (Same.new hp) fun b hb=>zA9 hb
theorem scNx:FnScope ["_law_source_here", "_law_many", "_law_found"] ["_law_source_here", "_law_many"] (defScope sNext):=⟨rfl,rfl,rfl,by decide +kernel,rfl,by decide +kernel,by decide +kernel⟩
theorem zC2 {f fm:Addr}{fd fdm:FuncData} (hC:Calm CX) (F:Fun K "_law_next" "_law_next" sNext f fd) (DM:Def K mg "_law_mixed" sMixed ["_law_cell", "_law_k"] fm fdm):FnOk P w K mg base CX 2 f fd ["_law_source_here", "_law_many"] spNext:=by
 have GM:FnOk P w K mg base CX 1 fm fdm ["_law_cell", "_law_k"] spMixed:=ok_mixed DM.fn
 refine F.okC scNx (fun vs H Q E h=>?_) (fun cdv A outer s H vs Q E hr h=>?_)
 ·obtain ⟨p,m,k,rfl,_⟩:=h
  rfl
 ·obtain ⟨p,m,k,rfl,⟨a,c,j,hp,j0,j1⟩,hk,m0,m1,q⟩:=h
  refine ⟨_,zA3 (zAp (zAf op_gt (zAs zAc (pv 0) zA5 (fun _ _=>rfl)) zA5 (nomark _))
    (zA3 (zAe (i:=2) scNx.nd rfl (Or.inl rfl) (zAg zBs (zAs zAc (pv 0) zA5 (fun _ _=>rfl)) (pv 1)))
    (zA3 (ps_asg (zAg op_fdivB (zAs zAc (pv 0) zA5 (fun _ _=>rfl)) (pv 1)) (pg_sub (pv 0) zA5 set_list))
    (zA4 (zAd (pv 2))))) zAb)
   (zA3 (ps_asg (zAg zBf (zAs zAc (pv 0) zA5 (fun _ _=>rfl)) zA5) (pg_sub (pv 0) zA5 set_list))
   (zA4 (zAd (zAg zBs (zA7 GM hr rfl DM.at_ DM.fn.kp DM.bind .nil (passC hC) (zA0 (zAs zAc (pv 0) zA5 (fun _ _=>rfl)) (zA0 (zAs zAc (pv 0) zA5 (fun _ _=>rfl)) zA2))) (pv 1))))),?_⟩
  have S0:SqL K H p [.int a,.int c,.int j]:=SqL.of hp
  refine ⟨_,rfl,p,_,_,_,rfl,rfl,S0,rfl,_,_,rfl,rfl,_,rfl,?_⟩
  refine ite2 (fun h0=>?_) (fun h0=>?_)
  ·refine ⟨_,rfl,p,_,_,_,rfl,rfl,S0,rfl,_,rfl,_,_,rfl,rfl,m0,?_⟩
   refine ⟨_,rfl,p,_,_,_,rfl,rfl,S0,rfl,_,rfl,_,_,rfl,rfl,⟨m0,m1⟩,?_⟩
   refine ⟨_,rfl,p,_,_,0,rfl,rfl,hp,rfl,?_⟩
   refine ⟨_,rfl,q _ _ (Int.emod_nonneg _ (by omega)) (Int.emod_lt_of_pos _ m0) ⟨_,_,j,zA1,j0,by omega⟩ fun b hb=>zA9 hb⟩
  ·refine ⟨_,rfl,p,_,_,_,rfl,rfl,S0,rfl,_,_,rfl,rfl,?_⟩
   refine ⟨_,rfl,p,_,_,2,rfl,rfl,hp,rfl,?_⟩
   have S1:SqL K (upd H p (.lst [.int a,.int c,.int (j + 1)])) p [.int a,.int c,.int (j + 1)]:=SqL.of zA1
   refine ⟨_,rfl,p,_,_,_,rfl,rfl,S1,rfl,_,rfl,p,_,_,_,rfl,rfl,S1,rfl,c,j + 1,rfl,by omega,by omega,fun n n0 n1=>?_⟩
   refine ⟨_,rfl,_,_,rfl,rfl,m0,?_⟩
   exact q _ _ (Int.emod_nonneg _ (by omega)) (Int.emod_lt_of_pos _ m0) ⟨_,_,j + 1,zA1,by omega,by omega⟩ fun b hb=>zA9 hb
end
theorem Src.mono {H:Hp}{p:Addr}{k l:Int} (h:Src H p k) (hl:k≤l):Src H p l:=by
 obtain ⟨a,c,j,e,j0,j1⟩:=h
 exact ⟨a,c,j,e,j0,by omega⟩
noncomputable def nameD:PyData→Bool
 | .str x=>nameB x
 | _=>false
noncomputable def spNameD:Sp:=fun vs H Q _=>∃ v d,vs=[v]∧Has Any H v d∧∀ H',Same H H'→Q (.bl (nameD d)) H'
section
variable {P:Program}{w:World}{K:PySem.W.Frag}{mg:Str→Option Value}{base:Heap}{CX:CXT}
theorem name_imp {vs:List V}{H:Hp}{Q:VK}{E:XK} (h:spNameD vs H Q E):spIsName K vs H Q E:=by
 obtain ⟨v,d,rfl,hd,q⟩:=h
 cases hd with
 | str x hx ho=>exact .inl ⟨x,rfl,hx,q⟩
 | non=>exact .inr ⟨_,_,rfl,.non,rfl,q _ (Same.refl _)⟩
 | bl b=>exact .inr ⟨_,_,rfl,.bl b,rfl,q _ (Same.refl _)⟩
 | int i=>exact .inr ⟨_,_,rfl,.int i,rfl,q _ (Same.refl _)⟩
 | lst _ e _ _=>exact .inr ⟨_,_,rfl,.lst e,rfl,q _ (Same.refl _)⟩
 | tup _ e _ _=>exact .inr ⟨_,_,rfl,.tup e,rfl,q _ (Same.refl _)⟩
theorem zDe {f:Addr}{fd:FuncData} (F:Fun K "is_name" "is_name" sIsName f fd) (T:Tops K mg):FnOk P w K mg base CX 1 f fd ["thing"] spNameD:=(ok_isName F T).imp fun _ _ _ _ h=>name_imp h
end
end My
namespace My
open PySem L2
noncomputable def nameOk (x:Str):Prop:=nameB x=true∧PyData.strOk x=true∧x.length≤8
structure PathOk (p:List (Str×Nat)):Prop where
 ne:p≠[]
 le:p.length≤10
 ok:∀ q∈p,nameOk q.1∧q.2≤999999
theorem name_free {x:Str} (h:nameOk x):freeOf 46 x:=fun d hd e=>by
 have h1:=h.1
 unfold nameB at h1
 rw [Bool.and_eq_true] at h1
 have h2:=List.all_eq_true.mp h1.2 d hd
 rw [e] at h2
 exact absurd h2 (by decide +kernel)
theorem figs_free (n:Nat):freeOf 46 (figs n):=fun d hd e=>by
 have:=zDn hd
 omega
theorem zBp {R:Str→Prop}:∀ {p:List (Str×Nat)},(∀ q∈p,R q.1∧R (figs q.2))→∀ w∈wordsP p,R w
 | [],_,w,hw=>nomatch hw
 | (k,n) :: t,h,w,hw=>by
  have a:=h (k,n) List.mem_cons_self
  rcases List.mem_cons.mp hw with e | hw
  ·rw [e];exact a.1
  ·rcases List.mem_cons.mp hw with e | hw
   ·rw [e];exact a.2
   ·exact zBp (fun q hq=>h q (List.mem_cons_of_mem _ hq)) w hw
theorem PathOk.split {p:List (Str×Nat)} (h:PathOk p):Txt.split (showP p) "." = wordsP p:=by
 unfold showP
 rw [dot_eq]
 refine split_join (zBp fun q hq=>⟨name_free (h.ok q hq).1,figs_free q.2⟩) fun e=>h.ne ?_
 have:=zBi p
 rw [e] at this
 cases p with
 | nil=>rfl
 | cons a t=>simp at this
theorem PathOk.len {p:List (Str×Nat)} (h:PathOk p):(showP p).length≤180:=by
 have a:=join_len (s:=".") (m:=8) (by decide +kernel) (ws:=wordsP p) (zBp fun q hq=>⟨(h.ok q hq).1.2.2,Nat.le_trans (zDm (h.ok q hq).2) (by decide)⟩)
 rw [zBi] at a
 have:=h.le
 unfold showP
 omega
theorem zBb (z:Str):PyData.strOk z=true ↔ ∀ c∈z.cps.toList,c < 0x110000:=by
 unfold PyData.strOk
 rw [← Array.all_toList,List.all_eq_true]
 exact ⟨fun h c hc=>of_decide_eq_true (h c hc),fun h c hc=>decide_eq_true (h c hc)⟩
theorem strOk_app {x y:Str} (hx:PyData.strOk x=true) (hy:PyData.strOk y=true):PyData.strOk (x++y)=true:=by
 rw [zBb] at hx hy ⊢
 intro c hc
 rw [zAj] at hc
 rcases List.mem_append.mp hc with hc | hc
 ·exact hx c hc
 ·exact hy c hc
noncomputable def figC (c:Nat):Bool:=decide (c∈("0123456789" : Str).cps.toList)
noncomputable def writtenB (x:Str):Bool:=decide (1≤x.length) && (decide (x.length≤6) && (!(decide (1 < x.length) && Txt.startswith x "0") && x.cps.toList.all figC))
noncomputable def formB (x:Str):Bool:=decide ((Txt.split x ".").length % 2=0) && ((evens (Txt.split x ".")).all nameB && (odds (Txt.split x ".")).all writtenB)
noncomputable def formD:PyData→Bool
 | .str x=>formB x
 | _=>false
noncomputable def spWrittenG:Sp:=fun vs H Q _=>∃ x:Str,vs=[.str x,.int 6]∧x.length≤1000∧∀ H',Same H H'→Q (.bl (writtenB x)) H'
noncomputable def spFormG:Sp:=fun vs H Q _=>∃ v d,vs=[v]∧Has Any H v d∧∀ H',Same H H'→Q (.bl (formD d)) H'
theorem zDj {s:Str}:∀ {ws:List Str}{w:Str},w∈ws→(∀ c∈w.cps.toList,c∈(Str.join s ws).cps.toList)∧w.length + (ws.length - 1) * s.length≤(Str.join s ws).length
 | [],_,h=>nomatch h
 | [a],w,h=>by
  rw [List.mem_singleton.mp h]
  exact ⟨fun c hc=>hc,by show a.length + 0 * s.length≤a.length;omega⟩
 | a :: b :: r,w,h=>by
  have e:Str.join s (a :: b :: r)=a++s++Str.join s (b :: r):=zBu s (ws:=[a]) (by simp) (by simp)
  rw [e]
  have l:((a :: b :: r).length - 1) * s.length=((b :: r).length - 1) * s.length + s.length:=by
   show (r.length + 1) * s.length=r.length * s.length + s.length
   rw [Nat.succ_mul]
  have hl:(a++s++Str.join s (b :: r)).length=a.length + s.length + (Str.join s (b :: r)).length:=by rw [zAt,zAt]
  rw [l,hl]
  rcases List.mem_cons.mp h with rfl | h
  ·obtain ⟨_,h2⟩:=zDj (s:=s) (ws:=b :: r) (w:=b) List.mem_cons_self
   exact ⟨fun c hc=>by rw [zAj,zAj];exact List.mem_append_left _ (List.mem_append_left _ hc),by omega⟩
  ·obtain ⟨h1,h2⟩:=zDj (s:=s) h
   exact ⟨fun c hc=>by rw [zAj];exact List.mem_append_right _ (h1 c hc),by omega⟩
theorem split_has {x w:Str} (hx:x.length≤1000) (ok:PyData.strOk x=true) (h:w∈Txt.split x "."):w.length≤1000∧PyData.strOk w=true∧(Txt.split x ".").length≤1001:=by
 obtain ⟨h1,h2⟩:=zDj (s:=".") h
 rw [StrLaws.join_split] at h1 h2
 have l1:(("." : Str)).length=1:=by decide +kernel
 rw [l1] at h2
 refine ⟨by omega,?_,by omega⟩
 rw [zBb] at ok ⊢
 exact fun c hc=>ok c (h1 c hc)
theorem evens_mem {α : Type}:∀ {l:List α}{a : α},a∈evens l→a∈l
 | [],_,h=>nomatch h
 | [_],_,h=>h
 | _ :: _ :: r,a,h=>by
  rcases List.mem_cons.mp h with rfl | h
  ·exact List.mem_cons_self
  ·exact List.mem_cons_of_mem _ (List.mem_cons_of_mem _ (evens_mem h))
theorem odds_mem {α : Type}:∀ {l:List α}{a : α},a∈odds l→a∈l
 | [],_,h=>nomatch h
 | [_],_,h=>nomatch h
 | _ :: _ :: r,a,h=>by
  rcases List.mem_cons.mp h with rfl | h
  ·exact List.mem_cons_of_mem _ List.mem_cons_self
  ·exact List.mem_cons_of_mem _ (List.mem_cons_of_mem _ (odds_mem h))
section
variable {P:Program}{w:World}{K:PySem.W.Frag}{mg:Str→Option Value}{base:Heap}{CX:CXT}
theorem scWr:FnScope ["text", "most_figures"] ["text", "most_figures"] (defScope sWritten):=⟨rfl,rfl,rfl,by decide +kernel,rfl,by decide +kernel,by decide +kernel⟩
theorem wr_tail {x:Str}{H:Hp}{R:Bool→Hp→Prop} (k:∀ H',Same H H'→R (x.cps.toList.all figC) H'):∀ d,H d=none→∃ (p:Addr) (ks:List Bool),([.ref d]:List V)=[.ref p]∧SqL K (upd H d (.lst ((x.cps.toList.filter fun _=>true).map fun c=>V.bl (figC c)))) p (ks.map V.bl)∧R (ks.all id) (upd H d (.lst ((x.cps.toList.filter fun _=>true).map fun c=>V.bl (figC c)))):=fun d hd=>by
 refine ⟨d,x.cps.toList.map figC,rfl,SqL.of ?_,?_⟩
 ·rw [zA1,List.filter_eq_self.mpr (fun _ _=>rfl),List.map_map]
  rfl
 ·rw [List.all_map]
  exact k _ (Same.new hd)
theorem ok_writtenG {f:Addr}{fd:FuncData} (T:Tops K mg) (F:Fun K "is_written_number" "is_written_number" sWritten f fd):FnOk P w K mg base CX 1 f fd ["text", "most_figures"] spWrittenG:=by
 refine Fun.okC F scWr (fun vs H Q E h=>?_) (fun cdv A outer s H vs Q E hr h=>?_)
 ·obtain ⟨x,rfl,_⟩:=h
  rfl
 ·obtain ⟨x,rfl,hx,k⟩:=h
  obtain ⟨tf,hfigs⟩:=T.figs
  have hz:x.length≤sizeLine:=Nat.le_of_lt (small1000 hx)
  refine ⟨_,zA3 (zAp (zB0 (zD8 op_le op_le zA5 (zAa zBg rfl T.len PySem.boot_len (zA0 (pv 0) zA2)) (pv 1))) (zA4 (zAd zBn)) zAb)
   (zA3 (zAp (PW.pt (pw_and (zAf op_gt (zAa zBg rfl T.len PySem.boot_len (zA0 (pv 0) zA2)) zA5 (nomark _)) (zCh (zAz (zBr PySem.F.plainAttrs_str PySem.F.slot_str_startswith PySem.F.type_str_startswith zDg (pv 0) (zA0 zA6 zA2)))))) (zA4 (zAd zBn)) zAb)
   (zA4 (zAd (zAa (zBv rfl) rfl T.all PyProof.Rows.boot_all (zA0 (zBe (T:=["sign"]) rfl ScOk.auto (pi_str (pv 0)) (fun _ _ _ _=>zAx (i:=2) (by decide +kernel:(["text", "most_figures", "sign"]:List Str).Nodup) rfl (Or.inl rfl)) (fun _ _ _ _=>zC8)
     (fun _ _ _ _=>zB1 op_in_str (pv 2) (zAh (v:=.str "0123456789") rfl hfigs ⟨_,rfl⟩) rfl)) zA2))))),?_⟩
  have k0:writtenB x=false→∀ H',Same H H'→Q (.bl false) H':=fun e H' s=>by rw [← e];exact k _ s
  refine ⟨_,rfl,x,rfl,hz,_,_,rfl,rfl,_,rfl,?_⟩
  refine ite2 (fun h1=>?_) (fun h1=>⟨_,rfl,iteT (k0 ?_ _ (Same.refl _))⟩)
  rotate_left
  ·unfold writtenB
   rw [decide_eq_false (show ¬ 1≤x.length from fun z=>h1 (decide_eq_true (by omega)))]
   rfl
  have g1:1≤x.length:=by have:=of_decide_eq_true h1;omega
  refine ⟨_,rfl,_,_,rfl,rfl,_,rfl,?_⟩
  by_cases g2:x.length≤6
  rotate_left
  ·rw [decide_eq_false (show ¬ ((x.length:Int)≤6) by omega)]
   refine iteT (k0 ?_ _ (Same.refl _))
   unfold writtenB
   rw [decide_eq_false g2]
   simp
  rw [decide_eq_true (show (x.length:Int)≤6 by omega)]
  refine iteF ⟨_,rfl,x,rfl,hz,_,_,rfl,rfl,_,rfl,?_⟩
  have body:(!(decide (1 < x.length) && Txt.startswith x "0"))=true→∀ H',Same H H'→Q (.bl (x.cps.toList.all figC)) H':=fun e H' s'=>by
   have:writtenB x=x.cps.toList.all figC:=by
    unfold writtenB
    rw [decide_eq_true g1,decide_eq_true g2,e]
    simp
   rw [← this]
   exact k H' s'
  refine ite2 (fun h2=>?_) (fun h2=>?_)
  ·have lt:1 < x.length:=by have:=of_decide_eq_true h2;omega
   refine ⟨_,rfl,rfl,_,_,rfl,rfl,_,rfl,?_⟩
   cases es:Txt.startswith x "0" with
   | true =>
    refine iteT (k0 ?_ _ (Same.refl _))
    unfold writtenB
    rw [decide_eq_true lt,es]
    simp
   | false =>
    refine iteF ?_
    refine ⟨_,rfl,x,rfl,zC6 (fun _=>true) (fun c=>.bl (figC c)) hz (fun c Ry Rn q _=>?_) (wr_tail (R:=fun b H'=>Q (.bl b) H') (body (by rw [es];simp)))⟩
    refine iteT (B:=Rn H) ⟨_,rfl,_,_,rfl,rfl,?_⟩
    rw [PySem.StrLaws.found_one]
    exact q rfl
  ·refine iteF ?_
   have lt:¬ 1 < x.length:=fun z=>h2 (decide_eq_true (by omega))
   refine ⟨_,rfl,x,rfl,zC6 (fun _=>true) (fun c=>.bl (figC c)) hz (fun c Ry Rn q _=>?_) (wr_tail (R:=fun b H'=>Q (.bl b) H') (body (by rw [decide_eq_false lt];simp)))⟩
   refine iteT (B:=Rn H) ⟨_,rfl,_,_,rfl,rfl,?_⟩
   rw [PySem.StrLaws.found_one]
   exact q rfl
theorem iteBT {c:Bool}{A B:Prop} (h:c=true) (x:A):if c=true then A else B:=by rw [if_pos h];exact x
theorem iteBF {c:Bool}{A B:Prop} (h:c=false) (x:B):if c=true then A else B:=by rw [if_neg (by rw [h];exact Bool.false_ne_true)];exact x
theorem scHf:FnScope ["thing", "words"] ["thing"] (defScope sHasForm):=⟨rfl,rfl,rfl,by decide +kernel,rfl,by decide +kernel,by decide +kernel⟩
theorem ok_formG {f fn fw:Addr}{fd fdn fdw:FuncData} (hC:Calm CX) (T:Tops K mg) (F:Fun K "has_form" "has_form" sHasForm f fd) (DN:Def K mg "is_name" sIsName ["thing"] fn fdn) (DW:Def K mg "is_written_number" sWritten ["text", "most_figures"] fw fdw):FnOk P w K mg base CX 2 f fd ["thing"] spFormG:=by
 have GN:FnOk P w K mg base CX 1 fn fdn ["thing"] spNameD:=zDe DN.fn T
 have GW:FnOk P w K mg base CX 1 fw fdw ["text", "most_figures"] spWrittenG:=ok_writtenG T DW.fn
 refine Fun.okC F scHf (fun vs H Q E h=>?_) (fun cdv A outer s H vs Q E hr h=>?_)
 ·obtain ⟨v,d,rfl,_⟩:=h
  rfl
 ·obtain ⟨v,d,rfl,hd,k⟩:=h
  have nd:=scHf.nd
  obtain ⟨tm,hmost⟩:=T.mostF
  refine ⟨_,zA3 (zAp (zB0 (zAz (zAa zAn rfl T.isinst PyProof.Rows.boot_isinstance (zA0 (pv 0) (zA0 (zB7 (v:=.ty "str") rfl T.str PyProof.Rows.boot_str rfl) zA2))))) (zA4 (zAd zBn)) zAb)
   (zA3 (zAe (i:=1) nd rfl (Or.inl rfl) (zBr PySem.F.plainAttrs_str PySem.F.slot_str_split PySem.F.type_str_split mt_split (pv 0) (zA0 zA6 zA2)))
   (zA3 (zAp (zAf op_ne (zAg zBs (zAa zB4 rfl T.len PySem.boot_len (zA0 (pv 1) zA2)) zA5) zA5 (nomark _)) (zA4 (zAd zBn)) zAb)
   (zA3 (zAp (zB0 (zAz (zAa (zBv rfl) rfl T.all PyProof.Rows.boot_all (zA0 (zBe (T:=["word"]) rfl ScOk.auto (zBz (pe_even (pv 1))) (fun _ _ _ _=>zAx (i:=2) (by decide +kernel:(["thing", "words", "word"]:List Str).Nodup) rfl (Or.inl rfl)) (fun _ _ _ _=>zC8)
     (fun _ _ _ _=>zA7 GN hr rfl DN.at_ DN.fn.kp DN.bind .nil (passC hC) (zA0 (pv 2) zA2))) zA2)))) (zA4 (zAd zBn)) zAb)
   (zA4 (zAd (zAa (zBv rfl) rfl T.all PyProof.Rows.boot_all (zA0 (zBe (T:=["word"]) rfl ScOk.auto (zBz (pe_odd (pv 1))) (fun _ _ _ _=>zAx (i:=2) (by decide +kernel:(["thing", "words", "word"]:List Str).Nodup) rfl (Or.inl rfl)) (fun _ _ _ _=>zC8)
     (fun _ _ _ _=>zA7 GW hr rfl DW.at_ DW.fn.kp DW.bind .nil (passC hC) (zA0 (pv 2) (zA0 (zAh (v:=.int 6) rfl hmost ⟨_,rfl⟩) zA2)))) zA2))))))),?_⟩
  have k0:formD d=false→∀ H',Same H H'→Q (.bl false) H':=fun e H' s'=>by rw [← e];exact k _ s'
  refine ⟨_,rfl,?_⟩
  cases hd with
  | non=>exact ⟨_,_,_,_,_,rfl,.non,rfl,rfl,_,rfl,iteT (k0 rfl _ (Same.refl _))⟩
  | bl b=>exact ⟨_,_,_,_,_,rfl,(.bl b),rfl,rfl,_,rfl,iteT (k0 rfl _ (Same.refl _))⟩
  | int i=>exact ⟨_,_,_,_,_,rfl,(.int i),rfl,rfl,_,rfl,iteT (k0 rfl _ (Same.refl _))⟩
  | tup _ e _ _=>exact ⟨_,_,_,_,_,rfl,(.tup e),rfl,rfl,_,rfl,iteT (k0 rfl _ (Same.refl _))⟩
  | lst _ e _ _=>exact ⟨_,_,_,_,_,rfl,(.lst e),rfl,rfl,_,rfl,iteT (k0 rfl _ (Same.refl _))⟩
  | str x hx ho =>
   refine ⟨_,_,_,_,_,rfl,.str _,rfl,rfl,_,rfl,iteF ?_⟩
   refine ⟨_,rfl,rfl,_,_,rfl,rfl,by decide +kernel,by omega,fun wa hwa=>?_⟩
   have wall:∀ z∈Txt.split x ".",z.length≤1000∧PyData.strOk z=true∧(Txt.split x ".").length≤1001:=fun z hz=>split_has hx ho hz
   have wl:(Txt.split x ".").length≤sizeLine:=by
    cases e:Txt.split x "." with
    | nil=>exact Nat.zero_le _
    | cons a r=>have:=(wall a (by rw [e];exact List.mem_cons_self)).2.2;rw [e] at this;rw [sizeLine_eq];omega
   have k':∀ b:Bool,formB x=b→∀ H',Same H H'→Q (.bl b) H':=fun b e H' s'=>by rw [← e];exact k H' s'
   unfold formB at k'
   have w1:=PyProof.Rows.split_pos x "."
   generalize Txt.split x "." = ws at hwa wall wl k' w1 ⊢
   have s1:Same H (upd H wa (.lst (ws.map V.str))):=Same.new hwa
   have e1:(upd H wa (.lst (ws.map V.str))) wa=some (.lst (ws.map V.str)):=zA1
   generalize upd H wa (.lst (ws.map V.str))=H1 at s1 e1 ⊢
   refine ⟨_,rfl,wa,_,rfl,.inl (SqL.of e1),_,_,rfl,rfl,(by show (0:Int) < 2;decide),rfl,_,rfl,?_⟩
   by_cases c:ws.length % 2=0
   rotate_left
   ·refine iteBT ?_ (k' false (by rw [decide_eq_false c];rfl) _ s1)
    rw [List.length_map,decide_eq_false (by intro z;injection z with z;omega)]
    rfl
   refine iteBF ?_ ?_
   ·rw [List.length_map,decide_eq_true (show V.int (((ws.length:Nat):Int) % 2)=V.int 0 by rw [show ((ws.length:Nat):Int) % 2=0 by omega])]
    rfl
   refine ⟨_,rfl,wa,_,rfl,SqL.of e1,fun ea hea=>⟨ea,rfl,⟨_,SqL.of zA1⟩,?_⟩⟩
   rw [evens_map]
   have s2:Same H1 (upd H1 ea (.lst ((evens ws).map V.str))):=Same.new hea
   have e2:(upd H1 ea (.lst ((evens ws).map V.str))) ea=some (.lst ((evens ws).map V.str)):=zA1
   generalize upd H1 ea (.lst ((evens ws).map V.str))=H2 at s2 e2 ⊢
   have el:=zDp ws
   have ol:=odds_le ws
   refine comp_list (xs:=(evens ws).map V.str) (fun i ys H'=>Same H2 H'∧ys=(((evens ws).take i).map nameB).map V.bl) ⟨Same.refl _,rfl⟩ (fun i ys H' q=>SqL.of (q.1 _ _ e2)) (fun i ys H' hi q=>?_) ?_ ?_
   ·rw [q.2,List.length_map,List.length_map]
    have:=List.length_take_le' i (evens ws)
    omega
   ·rintro i z ys H' hi ⟨s',rfl⟩ N hN
    rw [List.getElem?_map] at hi
    obtain ⟨n,hn,rfl⟩:=Option.map_eq_some_iff.mp hi
    obtain ⟨a1,a2,_⟩:=wall n (evens_mem (List.mem_of_getElem? hn))
    refine pick ?_
    refine ⟨_,rfl,_,.str n,rfl,.str n a1 a2,fun H3 s3=>hN _ _ ⟨s'.trans s3,?_⟩⟩
    rw [List.take_add_one,hn,List.map_append,List.map_append]
    rfl
   ·rintro ys H' ⟨s',rfl⟩ c2 hc2
    rw [List.length_map,List.take_length]
    have s3:Same H2 (upd H' c2 (.lst (((evens ws).map nameB).map V.bl))):=s'.trans (Same.new hc2)
    refine ⟨c2,(evens ws).map nameB,rfl,SqL.of zA1,_,rfl,?_⟩
    rw [List.all_map]
    have s4:=s2.trans s3
    generalize upd H' c2 (.lst (((evens ws).map nameB).map V.bl))=H4 at s4 ⊢
    cases ee:(evens ws).all (id ∘ nameB) with
    | false=>exact iteT (k' false (by rw [show (evens ws).all nameB=false from ee];simp) _ (s1.trans s4))
    | true =>
     refine iteF ?_
     refine ⟨_,rfl,wa,_,rfl,SqL.of (s4 _ _ e1),(by rw [List.length_map];exact w1),fun oa hoa=>⟨oa,rfl,⟨_,SqL.of zA1⟩,?_⟩⟩
     rw [odds_map]
     have s5:Same H4 (upd H4 oa (.lst ((odds ws).map V.str))):=Same.new hoa
     have e5:(upd H4 oa (.lst ((odds ws).map V.str))) oa=some (.lst ((odds ws).map V.str)):=zA1
     generalize upd H4 oa (.lst ((odds ws).map V.str))=H5 at s5 e5 ⊢
     refine comp_list (xs:=(odds ws).map V.str) (fun i ys H'=>Same H5 H'∧ys=(((odds ws).take i).map writtenB).map V.bl) ⟨Same.refl _,rfl⟩ (fun i ys H' q=>SqL.of (q.1 _ _ e5)) (fun i ys H' hi q=>?_) ?_ ?_
     ·rw [q.2,List.length_map,List.length_map]
      have:=List.length_take_le' i (odds ws)
      omega
     ·rintro i z ys H' hi ⟨s',rfl⟩ N hN
      rw [List.getElem?_map] at hi
      obtain ⟨n,hn,rfl⟩:=Option.map_eq_some_iff.mp hi
      obtain ⟨a1,a2,_⟩:=wall n (odds_mem (List.mem_of_getElem? hn))
      refine pick ?_
      refine ⟨_,rfl,n,rfl,a1,fun H3 s3=>hN _ _ ⟨s'.trans s3,?_⟩⟩
      rw [List.take_add_one,hn,List.map_append,List.map_append]
      rfl
     ·rintro ys H' ⟨s',rfl⟩ c3 hc3
      rw [List.length_map,List.take_length]
      refine ⟨c3,(odds ws).map writtenB,rfl,SqL.of zA1,?_⟩
      rw [List.all_map]
      refine k' _ ?_ _ ((s1.trans s4).trans (s5.trans (s'.trans (Same.new hc3))))
      rw [decide_eq_true c,show (evens ws).all nameB=true from ee]
      rfl
end
end My
namespace L2.W
open PySem My
noncomputable def wholeFrom (l:Int):PyData→Bool
 | .int i=>decide (l≤i)
 | _=>false
noncomputable def spWholeFrom:Sp:=fun vs H Q _=>∃ (l:Int) (v:V) (d:PyData),vs=[.int l,v]∧Has Any H v d∧∀ H',Same H H'→Q (.bl (wholeFrom l d)) H'
structure XTop (K:PySem.W.Frag) (mg:Str→Option Value) (x:Str) (CN:Addr):Prop where
 at_:mg x=some (.ref CN)
 cl:PySem.W.excIn K CN [.type "ValueError",.type "Exception",.type "BaseException",.type "object"] "ValueError.__new__" = true
noncomputable def Rz (CD:Addr) (p:Option Addr) (H:Hp) (E:XK):Prop:=∀ (e:Addr) (H':Hp),H e=none→H' e=some (XO CD e)→(∀ b o,H b=some o→some b≠p→H' b=some o)→E (.ref CD) (some e) H'
noncomputable def spMark (CD:Addr):Sp:=fun vs H Q E=>∃ (v:V) (d:PyData),vs=[v]∧Has Any H v d∧(wholeFrom 1 d=true→∀ H',Same H H'→Q .non H')∧(wholeFrom 1 d=false→Rz CD none H E)
noncomputable def ownerB (x:Str) (d:PyData):Bool:=if 1 < Txt.count x "." then wholeFrom 1 d else (match d with | .none=>true | _=>false)
noncomputable def spOwnerM (CD:Addr):Sp:=fun vs H Q E=>∃ (x:Str) (v:V) (d:PyData),vs=[.str x,v]∧Has Any H v d∧(ownerB x d=true→∀ H',Same H H'→Q .non H')∧(ownerB x d=false→Rz CD none H E)
structure DCls (K:PySem.W.Frag) (C:Addr):Prop where
 cl:Cls K C
 n1:NoAttr K C "hand"
 n2:NoAttr K C "number"
 n3:NoAttr K C "wishing"
 n4:NoAttr K C "name"
noncomputable def dF (a b c d:V):List (Str×V):=putF "name" d (putF "wishing" c (putF "number" b (putF "hand" a [])))
noncomputable def deedB (a b c d:PyData):Bool:=nameD a && (wholeFrom 1 b && (wholeFrom 0 c && formD d))
noncomputable def spDeedI (K:PySem.W.Frag) (CD:Addr):Sp:=fun vs H Q E=>∃ (p C dx:Addr) (a b c d:V) (da db dc dd:PyData),vs=[.ref p,a,b,c,d]∧H p=some (.ins C dx [])∧DCls K C∧Has Any H a da∧Has Any H b db∧Has Any H c dc∧Has Any H d dd ∧
 (deedB da db dc dd=true→∀ H',H' p=some (.ins C dx (dF a b c d))→(∀ x o,H x=some o→x≠p→H' x=some o)→Q .non H')∧(deedB da db dc dd=false→Rz CD none H E)
theorem Rz.later {CD:Addr}{p:Option Addr}{H H1:Hp}{E:XK} (r:Rz CD p H E) (fr:∀ b o,H b=some o→some b≠p→H1 b=some o) (h:∀ e,H1 e=none→H e=none):Rz CD p H1 E:=fun e H' he hx k=>r e H' (h e he) hx fun b o q n=>k b o (fr b o q n) n
theorem Rz.same {CD:Addr}{p:Option Addr}{H H1:Hp}{E:XK} (r:Rz CD p H E) (s:Same H H1):Rz CD p H1 E:=r.later (fun b o q _=>s b o q) fun e he=>s.free he
theorem Rz.here {CD:Addr}{H:Hp}{E:XK} (r:Rz CD none H E) {e:Addr} (he:H e=none):E (.ref CD) (some e) (upd H e (XO CD e)):=r e _ he zA1 fun b o q _=>(Same.new he) b o q
section
variable {P:Program}{w:World}{K:PySem.W.Frag}{mg:Str→Option Value}{base:Heap}{CX:CXT}
theorem scWf:FnScope ["least", "thing"] ["least", "thing"] (defScope sWholeFrom):=⟨rfl,rfl,rfl,by decide +kernel,rfl,by decide +kernel,by decide +kernel⟩
theorem scCm:FnScope ["mark"] ["mark"] (defScope sCheckMark):=⟨rfl,rfl,rfl,by decide +kernel,rfl,by decide +kernel,by decide +kernel⟩
theorem scCo:FnScope ["name", "owner_mark"] ["name", "owner_mark"] (defScope sCheckOwner):=⟨rfl,rfl,rfl,by decide +kernel,rfl,by decide +kernel,by decide +kernel⟩
theorem scDi:FnScope ["self", "hand", "number", "wishing", "name"] ["self", "hand", "number", "wishing", "name"] (defScope sInitD):=⟨rfl,rfl,rfl,by decide +kernel,rfl,by decide +kernel,by decide +kernel⟩
theorem zCa {f fi:Addr}{fd fdi:FuncData} (hC:Calm CX) (T:Tops K mg) (F:Fun K "is_whole_from" "is_whole_from" sWholeFrom f fd) (DI:Def K mg "is_whole" sIsWhole ["thing"] fi fdi):FnOk P w K mg base CX 2 f fd ["least", "thing"] spWholeFrom:=by
 have GI:FnOk P w K mg base CX 1 fi fdi ["thing"] (spIsWhole K):=ok_isWhole DI.fn T
 refine Fun.okC F scWf (fun vs H Q E h=>?_) (fun cdv A outer s H vs Q E hr h=>?_)
 ·obtain ⟨l,v,d,rfl,_⟩:=h
  rfl
 ·obtain ⟨l,v,d,rfl,hd,k⟩:=h
  refine ⟨_,zA4 (zAd (zCk (zA7 GI hr rfl DI.at_ DI.fn.kp DI.bind .nil (passC hC) (zA0 (pv 1) zA2)) (zC9 (zB1 op_ge (pv 1) (pv 0) (nomark _))))),?_⟩
  cases hd with
  | non=>exact ⟨_,rfl,_,_,_,_,rfl,.non,rfl,rfl,_,rfl,iteF (k _ (Same.refl _))⟩
  | bl b=>exact ⟨_,rfl,_,_,_,_,rfl,.bl b,rfl,rfl,_,rfl,iteF (k _ (Same.refl _))⟩
  | str x _ _=>exact ⟨_,rfl,_,_,_,_,rfl,.str x,rfl,rfl,_,rfl,iteF (k _ (Same.refl _))⟩
  | tup _ e _ _=>exact ⟨_,rfl,_,_,_,_,rfl,.tup e,rfl,rfl,_,rfl,iteF (k _ (Same.refl _))⟩
  | lst _ e _ _=>exact ⟨_,rfl,_,_,_,_,rfl,.lst e,rfl,rfl,_,rfl,iteF (k _ (Same.refl _))⟩
  | int i=>exact ⟨_,rfl,_,_,_,_,rfl,.int i,rfl,rfl,_,rfl,iteT ⟨_,rfl,_,rfl,_,_,rfl,rfl,k _ (Same.refl _)⟩⟩
theorem ok_mark {f fw CD fi:Addr}{fd fdw fdi:FuncData} (T:Tops K mg) (R:XTop K mg "NoDeed" CD) (F:Fun K "check_mark" "check_mark" sCheckMark f fd) (DI:Def K mg "is_whole" sIsWhole ["thing"] fi fdi) (DW:Def K mg "is_whole_from" sWholeFrom ["least", "thing"] fw fdw):FnOk P w K mg base (CXM P w) 3 f fd ["mark"] (spMark CD):=by
 have GW:FnOk P w K mg base (CXM P w) 2 fw fdw ["least", "thing"] spWholeFrom:=zCa calmM T DW.fn DI
 refine Fun.okX F scCm (fun vs H Q E h=>?_) (fun cdv A outer s H vs Q E hr h=>?_)
 ·obtain ⟨v,d,rfl,_⟩:=h
  rfl
 ·obtain ⟨v,d,rfl,hd,k1,k2⟩:=h
  refine ⟨_,zA4 (zAp (zB0 (zAz (zA7 GW hr rfl DW.at_ DW.fn.kp DW.bind .nil (passC calmM) (zA0 zA5 (zA0 (pv 0) zA2))))) (zA4 (zAv (C:=CD) (W:=fun _ e H'=>E (.ref CD) (some e) H') R.cl rfl R.at_ rfl (zA0 zA6 zA2) (fun pins σ H s e I he fr w=>zBo I he (.inl fr) w))) zAb),?_⟩
  have one:(1:Nat)≤sizeLine:=Nat.le_of_lt (small1000 (by decide))
  refine ⟨_,rfl,1,v,d,rfl,hd,fun H1 s1=>⟨_,rfl,?_⟩⟩
  cases e:wholeFrom 1 d with
  | true=>exact iteF (k1 e H1 s1)
  | false=>exact iteT ⟨one,fun e' he=>((k2 e).same s1).here he⟩
theorem ok_ownerM {f fm CD:Addr}{fd fdm:FuncData} (R:XTop K mg "NoDeed" CD) (F:Fun K "check_owner_mark" "check_owner_mark" sCheckOwner f fd) (DM:Def K mg "check_mark" sCheckMark ["mark"] fm fdm) (GM:FnOk P w K mg base (CXM P w) 3 fm fdm ["mark"] (spMark CD)):FnOk P w K mg base (CXM P w) 4 f fd ["name", "owner_mark"] (spOwnerM CD):=by
 refine Fun.okX F scCo (fun vs H Q E h=>?_) (fun cdv A outer s H vs Q E hr h=>?_)
 ·obtain ⟨x,v,d,rfl,_⟩:=h
  rfl
 ·obtain ⟨x,v,d,rfl,hd,k1,k2⟩:=h
  refine ⟨_,zA4 (zAp (zAf op_gt (zBr PySem.F.plainAttrs_str PySem.F.slot_str_count PySem.F.type_str_count mt_count (pv 0) (zA0 zA6 zA2)) zA5 (nomark _)) (zA4 (zAq (zA7 GM hr rfl DM.at_ DM.fn.kp DM.bind .nil zAy (zA0 (pv 1) zA2))))
   (zA4 (zAp (pt_cmp (zDb (pv 1))) (zA4 (zAv (C:=CD) (W:=fun _ e H'=>E (.ref CD) (some e) H') R.cl rfl R.at_ rfl (zA0 zA6 zA2) (fun pins σ H s e I he fr w=>zBo I he (.inl fr) w))) zAb))),?_⟩
  have one:(1:Nat)≤sizeLine:=Nat.le_of_lt (small1000 (by decide))
  refine ⟨_,rfl,rfl,_,_,rfl,rfl,_,_,rfl,rfl,_,rfl,?_⟩
  unfold ownerB at k1 k2
  by_cases c:1 < Txt.count x "."
  ·rw [if_pos c] at k1 k2
   exact iteBT (decide_eq_true (by omega)) ⟨_,rfl,v,d,rfl,hd,k1,k2⟩
  ·rw [if_neg c] at k1 k2
   refine iteBF (decide_eq_false (by omega)) ⟨_,rfl,_,rfl,?_⟩
   cases hd with
   | non=>exact iteF (k1 rfl _ (Same.refl _))
   | bl b=>exact iteT ⟨one,fun e' he=>(k2 rfl).here he⟩
   | int i=>exact iteT ⟨one,fun e' he=>(k2 rfl).here he⟩
   | str x _ _=>exact iteT ⟨one,fun e' he=>(k2 rfl).here he⟩
   | tup _ e _ _=>exact iteT ⟨one,fun e' he=>(k2 rfl).here he⟩
   | lst _ e _ _=>exact iteT ⟨one,fun e' he=>(k2 rfl).here he⟩
theorem ok_deedI {f fn fi fw fh fwr CD:Addr}{fd fdn fdi fdw fdh fdwr:FuncData} (T:Tops K mg) (R:XTop K mg "NoDeed" CD) (F:Fun K "__init__" "Deed.__init__" sInitD f fd) (DN:Def K mg "is_name" sIsName ["thing"] fn fdn) (DI:Def K mg "is_whole" sIsWhole ["thing"] fi fdi)
  (DW:Def K mg "is_whole_from" sWholeFrom ["least", "thing"] fw fdw) (DWr:Def K mg "is_written_number" sWritten ["text", "most_figures"] fwr fdwr) (DH:Def K mg "has_form" sHasForm ["thing"] fh fdh):FnOk P w K mg base (CXM P w) 3 f fd ["self", "hand", "number", "wishing", "name"] (spDeedI K CD):=by
 have GN:FnOk P w K mg base (CXM P w) 1 fn fdn ["thing"] spNameD:=zDe DN.fn T
 have GW:FnOk P w K mg base (CXM P w) 2 fw fdw ["least", "thing"] spWholeFrom:=zCa calmM T DW.fn DI
 have GH:FnOk P w K mg base (CXM P w) 2 fh fdh ["thing"] spFormG:=ok_formG calmM T DH.fn DN DWr
 refine Fun.okX F scDi (fun vs H Q E h=>?_) (fun cdv A outer s H vs Q E hr h=>?_)
 ·obtain ⟨p,C,dx,a,b,c,d,da,db,dc,dd,rfl,_⟩:=h
  rfl
 ·obtain ⟨p,C,dx,a,b,c,d,da,db,dc,dd,rfl,hp,DC,ha,hb,hc,hd,k1,k2⟩:=h
  have hr1:=hr.mono (show 1≤2 by decide)
  refine ⟨_,zA3 (zAp (zB0 (zAz (zA7 GN hr1 rfl DN.at_ DN.fn.kp DN.bind .nil (passC calmM) (zA0 (pv 1) zA2)))) (zA4 (zAv (C:=CD) (W:=fun _ e H'=>E (.ref CD) (some e) H') R.cl rfl R.at_ rfl (zA0 zA6 zA2) (fun pins σ H s e I he fr w=>zBo I he (.inl fr) w))) zAb)
   (zA3 (zAp (zB0 (zAz (zA7 GW hr rfl DW.at_ DW.fn.kp DW.bind .nil (passC calmM) (zA0 zA5 (zA0 (pv 2) zA2))))) (zA4 (zAv (C:=CD) (W:=fun _ e H'=>E (.ref CD) (some e) H') R.cl rfl R.at_ rfl (zA0 zA6 zA2) (fun pins σ H s e I he fr w=>zBo I he (.inl fr) w))) zAb)
   (zA3 (zAp (zB0 (zAz (zA7 GW hr rfl DW.at_ DW.fn.kp DW.bind .nil (passC calmM) (zA0 zA5 (zA0 (pv 3) zA2))))) (zA4 (zAv (C:=CD) (W:=fun _ e H'=>E (.ref CD) (some e) H') R.cl rfl R.at_ rfl (zA0 zA6 zA2) (fun pins σ H s e I he fr w=>zBo I he (.inl fr) w))) zAb)
   (zA3 (zAp (zB0 (zAz (zA7 GH hr rfl DH.at_ DH.fn.kp DH.bind .nil (passC calmM) (zA0 (pv 4) zA2)))) (zA4 (zAv (C:=CD) (W:=fun _ e H'=>E (.ref CD) (some e) H') R.cl rfl R.at_ rfl (zA0 zA6 zA2) (fun pins σ H s e I he fr w=>zBo I he (.inl fr) w))) zAb)
   (zA3 (zB3 (pv 0) (pv 1) rfl) (zA3 (zB3 (pv 0) (pv 2) rfl) (zA3 (zB3 (pv 0) (pv 3) rfl) (zA4 (zB3 (pv 0) (pv 4) rfl)))))))),?_⟩
  have one:(1:Nat)≤sizeLine:=Nat.le_of_lt (small1000 (by decide))
  unfold deedB at k1 k2
  refine ⟨_,rfl,a,da,rfl,ha,fun H1 s1=>⟨_,rfl,?_⟩⟩
  cases e1:nameD da with
  | false=>exact iteT ⟨one,fun e' he=>((k2 (by rw [e1];rfl)).same s1).here he⟩
  | true =>
   refine iteF ⟨_,rfl,1,b,db,rfl,hb.mono s1,fun H2 s2=>⟨_,rfl,?_⟩⟩
   have s12:=s1.trans s2
   cases e2:wholeFrom 1 db with
   | false=>exact iteT ⟨one,fun e' he=>((k2 (by rw [e1,e2];rfl)).same s12).here he⟩
   | true =>
    refine iteF ⟨_,rfl,0,c,dc,rfl,hc.mono s12,fun H3 s3=>⟨_,rfl,?_⟩⟩
    have s13:=s12.trans s3
    cases e3:wholeFrom 0 dc with
    | false=>exact iteT ⟨one,fun e' he=>((k2 (by rw [e1,e2,e3];rfl)).same s13).here he⟩
    | true =>
     refine iteF ⟨_,rfl,d,dd,rfl,hd.mono s13,fun H4 s4=>⟨_,rfl,?_⟩⟩
     have s14:=s13.trans s4
     cases e4:formD dd with
     | false=>exact iteT ⟨one,fun e' he=>((k2 (by rw [e1,e2,e3,e4];rfl)).same s14).here he⟩
     | true =>
      refine iteF ⟨_,rfl,_,rfl,p,C,dx,[],rfl,s14 _ _ hp,DC.cl,DC.n1,(by show 0 < 1000;decide),?_⟩
      refine ⟨_,rfl,_,rfl,p,C,dx,_,rfl,zA1,DC.cl,DC.n2,(by show 1 < 1000;decide),?_⟩
      rw [zB5]
      refine ⟨_,rfl,_,rfl,p,C,dx,_,rfl,zA1,DC.cl,DC.n3,(by show 2 < 1000;decide),?_⟩
      rw [zB5]
      refine ⟨_,rfl,_,rfl,p,C,dx,_,rfl,zA1,DC.cl,DC.n4,(by show 3 < 1000;decide),?_⟩
      rw [zB5]
      exact k1 (by rw [e1,e2,e3,e4];rfl) _ zA1 fun x o q n=>by rw [zA9 n];exact s14 _ _ q
end
end L2.W
namespace L2.W
open PySem My
noncomputable def HasX (H:Hp) (v:V):Option PyData→Prop
 | some d=>Has Any H v d
 | none=>∃ a,v=.ref a∧H a=some (.dK [])
theorem HasX.mono {H H':Hp}{v:V}{o:Option PyData} (h:HasX H v o) (s:Same H H'):HasX H' v o:=by
 cases o with
 | some d=>exact Has.mono h s
 | none=>obtain ⟨a,e,q⟩:=h;exact ⟨a,e,s _ _ q⟩
theorem HasX.but {H H':Hp}{v:V}{o:Option PyData}{p C dx:Addr}{fs:List (Str×V)} (h:HasX H v o) (hp:H p=some (.ins C dx fs)) (fr:∀ b o,H b=some o→b≠p→H' b=some o):HasX H' v o:=by
 cases o with
 | some d=>exact (show Has Any H v d from h).frameS fun b o g hs e=>⟨g,fr _ _ e (ne_of e hp (by rintro rfl;exact hs))⟩
 | none=>obtain ⟨a,e,q⟩:=h;exact ⟨a,e,fr _ _ q (ne_of q hp (fun z=>nomatch z))⟩
noncomputable def stateB:Option PyData→Bool
 | some (.tuple ds)=>ds.all nameD
 | _=>false
noncomputable def ownerD (n:PyData) (d:PyData):Bool:=match n with | .str x=>ownerB x d | _=>false
noncomputable def makeB (a b c d o:PyData) (st:Option PyData):Bool:=deedB a b c d && (ownerD d o && stateB st)
noncomputable def setB (a b c d m o f v:PyData):Bool:=deedB a b c d && (wholeFrom 1 m && (ownerD d o && (nameD f && nameD v)))
noncomputable def takeB (a b c d m o:PyData):Bool:=deedB a b c d && (wholeFrom 1 m && ownerD d o)
noncomputable def mF (a b c d o s:V):List (Str×V):=putF "state" s (putF "owner_mark" o (dF a b c d))
noncomputable def tF (a b c d m o:V):List (Str×V):=putF "owner_mark" o (putF "mark" m (dF a b c d))
noncomputable def sF (a b c d m o f v:V):List (Str×V):=putF "value" v (putF "field" f (tF a b c d m o))
theorem Rz.drop {CD:Addr}{p:Option Addr}{H:Hp}{E:XK} (r:Rz CD p H E):Rz CD none H E:=fun e H' he hx k=>r e H' he hx fun b o q _=>k b o q (fun z=>nomatch z)
theorem Rz.but {CD p C dx:Addr}{H H1:Hp}{E:XK}{fs fs':List (Str×V)} (r:Rz CD (some p) H E) (hp:H p=some (.ins C dx fs)) (h1:H1 p=some (.ins C dx fs')) (fr:∀ b o,H b=some o→b≠p→H1 b=some o):Rz CD (some p) H1 E :=
 r.later (fun b o q n=>fr b o q fun z=>n (by rw [z])) fun e he=>by
  cases q:H e with
  | none=>rfl
  | some o =>
   by_cases c:e=p
   ·rw [c,h1] at he;cases he
   ·rw [fr e o q c] at he;cases he
theorem comp_tup {K:PySem.W.Frag}{a:Addr}{xs:List V}{k:Nat}{σ : St}{H:Hp}{g:TG}{tt:TT}{te:TE}{Q:VK} (Pv:Nat→List V→Hp→Prop) (h0:Pv 0 [] H) (hl:∀ i ys H,Pv i ys H→SqT K H a xs)
  (hz:∀ i ys H,i≤xs.length→Pv i ys H→ys.length≤sizeLine)
  (hs:∀ i x ys H,xs[i]? = some x→Pv i ys H→∀ N:List V→Hp→Prop,(∀ ys H,Pv (i + 1) ys H→N ys H)→g x (σ++List.replicate k none) H fun σ2 H2=>tt σ2 H2 fun b H3=>if b=true then te σ2 H3 fun y H4=>N (ys++[y]) H4 else N ys H3)
  (hd:∀ ys H,Pv xs.length ys H→∀ p,H p=none→Q (.ref p) (upd H p (.lst ys))):CompGoal (Itt K a) k σ H g tt te Q:=by
 refine zDr (J:=Itt K a) (n:=xs.length) Pv h0 (fun i ys H lt p=>⟨xs,xs[i],hl i ys H p,List.getElem?_eq_getElem lt⟩) (fun ys H p=>⟨xs,hl _ ys H p,Nat.le_refl _⟩) hz ?_ hd
 rintro i ys H x H' lt p ⟨rfl,y⟩ N hN
 exact hs i x ys _ (y xs (hl _ _ _ p)) p N hN
structure MCls (K:PySem.W.Frag) (C:Addr):Prop where
 dc:DCls K C
 o:NoAttr K C "owner_mark"
 s:NoAttr K C "state"
structure TCls (K:PySem.W.Frag) (C:Addr):Prop where
 dc:DCls K C
 m:NoAttr K C "mark"
 o:NoAttr K C "owner_mark"
structure SCls (K:PySem.W.Frag) (C:Addr):Prop where
 t:TCls K C
 f:NoAttr K C "field"
 v:NoAttr K C "value"
noncomputable def spMakeI (CM CD:Addr):Sp:=fun vs H Q E=>∃ (p dx:Addr) (a b c d o st:V) (da db dc dd dO:PyData) (ds:Option PyData),vs=[.ref p,a,b,c,d,o,st]∧H p=some (.ins CM dx [])∧Has Any H a da∧Has Any H b db∧Has Any H c dc∧Has Any H d dd∧Has Any H o dO∧HasX H st ds ∧
 (makeB da db dc dd dO ds=true→∀ H',H' p=some (.ins CM dx (mF a b c d o st))→(∀ x o,H x=some o→x≠p→H' x=some o)→Q .non H')∧(makeB da db dc dd dO ds=false→Rz CD (some p) H E)
noncomputable def spTakeI (CT CD:Addr):Sp:=fun vs H Q E=>∃ (p dx:Addr) (a b c d m o:V) (da db dc dd dm dO:PyData),vs=[.ref p,a,b,c,d,m,o]∧H p=some (.ins CT dx [])∧Has Any H a da∧Has Any H b db∧Has Any H c dc∧Has Any H d dd∧Has Any H m dm∧Has Any H o dO ∧
 (takeB da db dc dd dm dO=true→∀ H',H' p=some (.ins CT dx (tF a b c d m o))→(∀ x o,H x=some o→x≠p→H' x=some o)→Q .non H')∧(takeB da db dc dd dm dO=false→Rz CD (some p) H E)
noncomputable def spSetI (CS CD:Addr):Sp:=fun vs H Q E=>∃ (p dx:Addr) (a b c d m o f v:V) (da db dc dd dm dO df dv:PyData),vs=[.ref p,a,b,c,d,m,o,f,v]∧H p=some (.ins CS dx [])∧Has Any H a da∧Has Any H b db∧Has Any H c dc∧Has Any H d dd∧Has Any H m dm∧Has Any H o dO∧Has Any H f df∧Has Any H v dv ∧
 (setB da db dc dd dm dO df dv=true→∀ H',H' p=some (.ins CS dx (sF a b c d m o f v))→(∀ x o,H x=some o→x≠p→H' x=some o)→Q .non H')∧(setB da db dc dd dm dO df dv=false→Rz CD (some p) H E)
theorem zDl {G:Addr→Prop}{H:Hp}{v:V}{d:PyData} (h:Has G H v d) (e:formD d=true):∃ x,v=.str x∧d=.str x:=by
 cases h with
 | str x _ _=>exact ⟨x,rfl,rfl⟩
 | non=>cases e
 | bl b=>cases e
 | int i=>cases e
 | lst _ _ _ _=>cases e
 | tup _ _ _ _=>cases e
theorem zCs {a b c d:PyData} (h:deedB a b c d=true):formD d=true:=by
 unfold deedB at h
 rw [Bool.and_eq_true,Bool.and_eq_true,Bool.and_eq_true] at h
 exact h.2.2.2
theorem _root_.L2.Has.but {H H':Hp}{v:V}{d:PyData}{p C dx:Addr}{fs:List (Str×V)} (h:Has Any H v d) (hp:H p=some (.ins C dx fs)) (fr:∀ b o,H b=some o→b≠p→H' b=some o):Has Any H' v d:=HasX.but (o:=some d) h hp fr
section
variable {P:Program}{w:World}{K:PySem.W.Frag}{mg:Str→Option Value}{base:Heap}
theorem scMi:FnScope ["self", "hand", "number", "wishing", "name", "owner_mark", "state"] ["self", "hand", "number", "wishing", "name", "owner_mark", "state"] (defScope sInitM):=⟨rfl,rfl,rfl,by decide +kernel,rfl,by decide +kernel,by decide +kernel⟩
theorem scTi:FnScope ["self", "hand", "number", "wishing", "name", "mark", "owner_mark"] ["self", "hand", "number", "wishing", "name", "mark", "owner_mark"] (defScope sInitT):=⟨rfl,rfl,rfl,by decide +kernel,rfl,by decide +kernel,by decide +kernel⟩
theorem scSi:FnScope ["self", "hand", "number", "wishing", "name", "mark", "owner_mark", "field", "value"] ["self", "hand", "number", "wishing", "name", "mark", "owner_mark", "field", "value"] (defScope sInitS):=⟨rfl,rfl,rfl,by decide +kernel,rfl,by decide +kernel,by decide +kernel⟩
structure DAll (P:Program) (w:World) (K:PySem.W.Frag) (mg:Str→Option Value) (base:Heap) (CD CDd fn fm fo fD:Addr) (fdn fdm fdo fdD:FuncData):Prop where
 T:Tops K mg
 R:XTop K mg "NoDeed" CD
 cf:ClsFn K CDd "__init__" fD
 mgD:mg "Deed" = some (.ref CDd)
 bD:Binds K fdD ["self", "hand", "number", "wishing", "name"] []
 GD:FnOk P w K mg base (CXM P w) 3 fD fdD ["self", "hand", "number", "wishing", "name"] (spDeedI K CD)
 N:Def K mg "is_name" sIsName ["thing"] fn fdn
 GN:FnOk P w K mg base (CXM P w) 1 fn fdn ["thing"] spNameD
 M:Def K mg "check_mark" sCheckMark ["mark"] fm fdm
 GM:FnOk P w K mg base (CXM P w) 3 fm fdm ["mark"] (spMark CD)
 O:Def K mg "check_owner_mark" sCheckOwner ["name", "owner_mark"] fo fdo
 GO:FnOk P w K mg base (CXM P w) 4 fo fdo ["name", "owner_mark"] (spOwnerM CD)
variable {CD CDd fn fm fo fD:Addr}{fdn fdm fdo fdD:FuncData}
theorem ok_takeI {f CT:Addr}{fd:FuncData} (A:DAll P w K mg base CD CDd fn fm fo fD fdn fdm fdo fdD) (TC:TCls K CT) (F:Fun K "__init__" "Take.__init__" sInitT f fd) :
  FnOk P w K mg base (CXM P w) 5 f fd ["self", "hand", "number", "wishing", "name", "mark", "owner_mark"] (spTakeI CT CD):=by
 refine Fun.okX F scTi (fun vs H Q E h=>?_) (fun cdv Ar outer s H vs Q E hr h=>?_)
 ·obtain ⟨p,dx,a,b,c,d,m,o,da,db,dc,dd,dm,dO,rfl,_⟩:=h
  rfl
 ·obtain ⟨p,dx,a,b,c,d,m,o,da,db,dc,dd,dm,dO,rfl,hp,ha,hb,hc,hd,hm,ho,k1,k2⟩:=h
  have hr3:=hr.mono (show 3≤4 by decide)
  refine ⟨_,zA3 (zAq (zBq A.cf A.GD hr3 rfl A.mgD A.bD .nil zAy (zA0 (pv 0) (zA0 (pv 1) (zA0 (pv 2) (zA0 (pv 3) (zA0 (pv 4) zA2)))))))
   (zA3 (zAq (zA7 A.GM hr3 rfl A.M.at_ A.M.fn.kp A.M.bind .nil zAy (zA0 (pv 5) zA2)))
   (zA3 (zAq (zA7 A.GO hr rfl A.O.at_ A.O.fn.kp A.O.bind .nil zAy (zA0 (pv 4) (zA0 (pv 6) zA2))))
   (zA3 (zB3 (pv 0) (pv 5) rfl) (zA4 (zB3 (pv 0) (pv 6) rfl))))),?_⟩
  unfold takeB at k1 k2
  refine ⟨_,rfl,_,rfl,_,rfl,_,rfl,_,rfl,p,CT,dx,a,b,c,d,da,db,dc,dd,rfl,hp,TC.dc,ha,hb,hc,hd,fun e1 H1 h1 f1=>?_,fun e1=>(k2 (by rw [e1];rfl)).drop⟩
  rw [e1] at k1 k2
  obtain ⟨x,rfl,rfl⟩:=zDl hd (zCs e1)
  refine ⟨_,rfl,m,dm,rfl,hm.but hp f1,fun e2 H2 s2=>?_,fun e2=>((k2 (by rw [e2];rfl)).but hp h1 f1).drop⟩
  rw [e2] at k1 k2
  have f2:∀ b o,H b=some o→b≠p→H2 b=some o:=fun b o q n=>s2 _ _ (f1 _ _ q n)
  refine ⟨_,rfl,_,rfl,x,o,dO,rfl,ho.but hp f2,fun e3 H3 s3=>?_,fun e3=>((k2 (by rw [show ownerD (.str x) dO=ownerB x dO from rfl,e3];rfl)).but hp (s2 _ _ h1) f2).drop⟩
  refine ⟨_,rfl,_,rfl,p,CT,dx,_,rfl,s3 _ _ (s2 _ _ h1),TC.dc.cl,TC.m,(by show 4 < 1000;decide),?_⟩
  refine ⟨_,rfl,_,rfl,p,CT,dx,_,rfl,zA1,TC.dc.cl,TC.o,(by show 5 < 1000;decide),?_⟩
  rw [zB5]
  exact k1 (by rw [show ownerD (.str x) dO=ownerB x dO from rfl,e3];rfl) _ zA1 fun x o q n=>by rw [zA9 n];exact s3 _ _ (f2 _ _ q n)
theorem ok_setI {f CS:Addr}{fd:FuncData} (A:DAll P w K mg base CD CDd fn fm fo fD fdn fdm fdo fdD) (SC:SCls K CS) (F:Fun K "__init__" "Set.__init__" sInitS f fd) :
  FnOk P w K mg base (CXM P w) 5 f fd ["self", "hand", "number", "wishing", "name", "mark", "owner_mark", "field", "value"] (spSetI CS CD):=by
 have TC:=SC.t
 refine Fun.okX F scSi (fun vs H Q E h=>?_) (fun cdv Ar outer s H vs Q E hr h=>?_)
 ·obtain ⟨p,dx,a,b,c,d,m,o,fl,va,da,db,dc,dd,dm,dO,df,dv,rfl,_⟩:=h
  rfl
 ·obtain ⟨p,dx,a,b,c,d,m,o,fl,va,da,db,dc,dd,dm,dO,df,dv,rfl,hp,ha,hb,hc,hd,hm,ho,hf,hv,k1,k2⟩:=h
  have hr3:=hr.mono (show 3≤4 by decide)
  have hr1:=hr.mono (show 1≤4 by decide)
  refine ⟨_,zA3 (zAq (zBq A.cf A.GD hr3 rfl A.mgD A.bD .nil zAy (zA0 (pv 0) (zA0 (pv 1) (zA0 (pv 2) (zA0 (pv 3) (zA0 (pv 4) zA2)))))))
   (zA3 (zAq (zA7 A.GM hr3 rfl A.M.at_ A.M.fn.kp A.M.bind .nil zAy (zA0 (pv 5) zA2)))
   (zA3 (zAq (zA7 A.GO hr rfl A.O.at_ A.O.fn.kp A.O.bind .nil zAy (zA0 (pv 4) (zA0 (pv 6) zA2))))
   (zA3 (zAp (PW.pt (pw_or (zB0 (zAz (zA7 A.GN hr1 rfl A.N.at_ A.N.fn.kp A.N.bind .nil (passC calmM) (zA0 (pv 7) zA2)))) (pw_or1 (zB0 (zAz (zA7 A.GN hr1 rfl A.N.at_ A.N.fn.kp A.N.bind .nil (passC calmM) (zA0 (pv 8) zA2)))))))
    (zA4 (zAv (C:=CD) (W:=fun _ e H'=>E (.ref CD) (some e) H') A.R.cl rfl A.R.at_ rfl (zA0 zA6 zA2) (fun pins σ H s e I he fr w=>zBo I he (.inl fr) w))) zAb)
   (zA3 (zB3 (pv 0) (pv 5) rfl) (zA3 (zB3 (pv 0) (pv 6) rfl) (zA3 (zB3 (pv 0) (pv 7) rfl) (zA4 (zB3 (pv 0) (pv 8) rfl)))))))),?_⟩
  have one:(1:Nat)≤sizeLine:=Nat.le_of_lt (small1000 (by decide))
  unfold setB at k1 k2
  refine ⟨_,rfl,_,rfl,_,rfl,_,rfl,_,rfl,p,CS,dx,a,b,c,d,da,db,dc,dd,rfl,hp,TC.dc,ha,hb,hc,hd,fun e1 H1 h1 f1=>?_,fun e1=>(k2 (by rw [e1];rfl)).drop⟩
  rw [e1] at k1 k2
  obtain ⟨x,rfl,rfl⟩:=zDl hd (zCs e1)
  refine ⟨_,rfl,m,dm,rfl,hm.but hp f1,fun e2 H2 s2=>?_,fun e2=>((k2 (by rw [e2];rfl)).but hp h1 f1).drop⟩
  rw [e2] at k1 k2
  have f2:∀ b o,H b=some o→b≠p→H2 b=some o:=fun b o q n=>s2 _ _ (f1 _ _ q n)
  refine ⟨_,rfl,_,rfl,x,o,dO,rfl,ho.but hp f2,fun e3 H3 s3=>?_,fun e3=>((k2 (by rw [show ownerD (.str x) dO=ownerB x dO from rfl,e3];rfl)).but hp (s2 _ _ h1) f2).drop⟩
  rw [show ownerD (.str x) dO=ownerB x dO from rfl,e3] at k1 k2
  have f3:∀ b o,H b=some o→b≠p→H3 b=some o:=fun b o q n=>s3 _ _ (f2 _ _ q n)
  have h3:=s3 _ _ (s2 _ _ h1)
  refine ⟨_,rfl,fl,df,rfl,hf.but hp f3,fun H4 s4=>⟨_,rfl,?_⟩⟩
  have f4:∀ b o,H b=some o→b≠p→H4 b=some o:=fun b o q n=>s4 _ _ (f3 _ _ q n)
  cases e4:nameD df with
  | false=>exact iteT (iteT ⟨one,fun e' he=>((k2 (by rw [e4];rfl)).but hp (s4 _ _ h3) f4).drop.here he⟩)
  | true =>
   refine iteF ⟨_,rfl,va,dv,rfl,hv.but hp f4,fun H5 s5=>⟨_,rfl,?_⟩⟩
   have f5:∀ b o,H b=some o→b≠p→H5 b=some o:=fun b o q n=>s5 _ _ (f4 _ _ q n)
   have h5:=s5 _ _ (s4 _ _ h3)
   cases e5:nameD dv with
   | false=>exact iteT ⟨one,fun e' he=>((k2 (by rw [e4,e5];rfl)).but hp h5 f5).drop.here he⟩
   | true =>
    refine iteF ⟨_,rfl,_,rfl,p,CS,dx,_,rfl,h5,TC.dc.cl,TC.m,(by show 4 < 1000;decide),?_⟩
    refine ⟨_,rfl,_,rfl,p,CS,dx,_,rfl,zA1,TC.dc.cl,TC.o,(by show 5 < 1000;decide),?_⟩
    rw [zB5]
    refine ⟨_,rfl,_,rfl,p,CS,dx,_,rfl,zA1,TC.dc.cl,SC.f,(by show 6 < 1000;decide),?_⟩
    rw [zB5]
    refine ⟨_,rfl,_,rfl,p,CS,dx,_,rfl,zA1,TC.dc.cl,SC.v,(by show 7 < 1000;decide),?_⟩
    rw [zB5]
    exact k1 (by rw [e4,e5];rfl) _ zA1 fun x o q n=>by rw [zA9 n];exact f5 _ _ q n
theorem ok_makeI {f CM:Addr}{fd:FuncData} (A:DAll P w K mg base CD CDd fn fm fo fD fdn fdm fdo fdD) (MC:MCls K CM) (F:Fun K "__init__" "Make.__init__" sInitM f fd) :
  FnOk P w K mg base (CXM P w) 5 f fd ["self", "hand", "number", "wishing", "name", "owner_mark", "state"] (spMakeI CM CD):=by
 have T:=A.T
 refine Fun.okX F scMi (fun vs H Q E h=>?_) (fun cdv Ar outer s H vs Q E hr h=>?_)
 ·obtain ⟨p,dx,a,b,c,d,o,st,da,db,dc,dd,dO,ds,rfl,_⟩:=h
  rfl
 ·obtain ⟨p,dx,a,b,c,d,o,st,da,db,dc,dd,dO,ds,rfl,hp,ha,hb,hc,hd,ho,hs,k1,k2⟩:=h
  have hr3:=hr.mono (show 3≤4 by decide)
  have hr1:=hr.mono (show 1≤4 by decide)
  refine ⟨_,zA3 (zAq (zBq A.cf A.GD hr3 rfl A.mgD A.bD .nil zAy (zA0 (pv 0) (zA0 (pv 1) (zA0 (pv 2) (zA0 (pv 3) (zA0 (pv 4) zA2)))))))
   (zA3 (zAq (zA7 A.GO hr rfl A.O.at_ A.O.fn.kp A.O.bind .nil zAy (zA0 (pv 4) (zA0 (pv 5) zA2))))
   (zA3 (zAp (PW.pt (pw_or (zB0 (zAz (zAa zAn rfl T.isinst PyProof.Rows.boot_isinstance (zA0 (pv 6) (zA0 (zB7 (v:=.ty "tuple") rfl T.tuple PyProof.Rows.boot_tuple rfl) zA2)))))
    (pw_or1 (zB0 (zAz (zAa (zBv rfl) rfl T.all PyProof.Rows.boot_all (zA0 (zBe (T:=["value"]) rfl ScOk.auto (pi_tup (pv 6)) (fun _ _ _ _=>zAx (i:=7) (by decide +kernel:(["self", "hand", "number", "wishing", "name", "owner_mark", "state", "value"]:List Str).Nodup) rfl (Or.inl rfl)) (fun _ _ _ _=>zC8)
     (fun _ _ _ _=>zA7 A.GN hr1 rfl A.N.at_ A.N.fn.kp A.N.bind .nil (passC calmM) (zA0 (pv 7) zA2))) zA2)))))))
    (zA4 (zAv (C:=CD) (W:=fun _ e H'=>E (.ref CD) (some e) H') A.R.cl rfl A.R.at_ rfl (zA0 zA6 zA2) (fun pins σ H s e I he fr w=>zBo I he (.inl fr) w))) zAb)
   (zA3 (zB3 (pv 0) (pv 5) rfl) (zA4 (zB3 (pv 0) (pv 6) rfl))))),?_⟩
  have one:(1:Nat)≤sizeLine:=Nat.le_of_lt (small1000 (by decide))
  unfold makeB at k1 k2
  refine ⟨_,rfl,_,rfl,_,rfl,_,rfl,_,rfl,p,CM,dx,a,b,c,d,da,db,dc,dd,rfl,hp,MC.dc,ha,hb,hc,hd,fun e1 H1 h1 f1=>?_,fun e1=>(k2 (by rw [e1];rfl)).drop⟩
  rw [e1] at k1 k2
  obtain ⟨x,rfl,rfl⟩:=zDl hd (zCs e1)
  refine ⟨_,rfl,_,rfl,x,o,dO,rfl,ho.but hp f1,fun e3 H3 s3=>?_,fun e3=>((k2 (by rw [show ownerD (.str x) dO=ownerB x dO from rfl,e3];rfl)).but hp h1 f1).drop⟩
  rw [show ownerD (.str x) dO=ownerB x dO from rfl,e3] at k1 k2
  have f3:∀ b o,H b=some o→b≠p→H3 b=some o:=fun b o q n=>s3 _ _ (f1 _ _ q n)
  have h3:=s3 _ _ h1
  have hs3:=hs.but hp f3
  have bad:stateB ds=false→∀ {H4:Hp},Same H3 H4→∀ e',H4 e'=none→E (.ref CD) (some e') (upd H4 e' (XO CD e')):=fun e4 H4 s4 e' he=>((k2 (by rw [e4];rfl)).but hp (s4 _ _ h3) fun b o q n=>s4 _ _ (f3 _ _ q n)).drop.here he
  refine ⟨_,rfl,?_⟩
  cases ds with
  | none =>
   obtain ⟨t,rfl,ht⟩:=hs3
   exact ⟨_,_,_,_,_,rfl,.dK ht,rfl,rfl,_,rfl,iteT (iteT ⟨one,bad rfl (Same.refl _)⟩)⟩
  | some sd =>
   replace hs3:Has Any H3 st sd:=hs3
   cases hs3 with
   | non=>exact ⟨_,_,_,_,_,rfl,.non,rfl,rfl,_,rfl,iteT (iteT ⟨one,bad rfl (Same.refl _)⟩)⟩
   | bl z=>exact ⟨_,_,_,_,_,rfl,.bl z,rfl,rfl,_,rfl,iteT (iteT ⟨one,bad rfl (Same.refl _)⟩)⟩
   | int z=>exact ⟨_,_,_,_,_,rfl,.int z,rfl,rfl,_,rfl,iteT (iteT ⟨one,bad rfl (Same.refl _)⟩)⟩
   | str z _ _=>exact ⟨_,_,_,_,_,rfl,.str z,rfl,rfl,_,rfl,iteT (iteT ⟨one,bad rfl (Same.refl _)⟩)⟩
   | lst _ z _ _=>exact ⟨_,_,_,_,_,rfl,.lst z,rfl,rfl,_,rfl,iteT (iteT ⟨one,bad rfl (Same.refl _)⟩)⟩
   | @tup t xs ds _ ht hz hx =>
    refine ⟨_,_,_,_,_,rfl,.tup ht,rfl,rfl,_,rfl,iteF ?_⟩
    refine ⟨_,rfl,t,rfl,⟨_,SqT.of ht⟩,comp_tup (xs:=xs) (fun i ys H'=>Same H3 H'∧ys=(ds.take i).map fun d=>V.bl (nameD d)) ⟨Same.refl _,rfl⟩ (fun i ys H' q=>SqT.of (q.1 _ _ ht)) (fun i ys H' hi q=>?_) ?_ ?_⟩
    ·rw [q.2,List.length_map]
     have:=List.length_take_le i ds
     have:=small1000 hz
     omega
    ·rintro i y ys H' hi ⟨s4,rfl⟩ N hN
     obtain ⟨dy,hdy,hv⟩:=hx.get hi
     refine pick ?_
     refine ⟨_,rfl,_,dy,rfl,hv.mono s4,fun H5 s5=>hN _ _ ⟨s4.trans s5,?_⟩⟩
     rw [List.take_add_one,hdy,List.map_append]
     rfl
    ·rintro ys H' ⟨s4,rfl⟩ q hq
     have e:(ds.take xs.length).map (fun d=>V.bl (nameD d))=(ds.map nameD).map V.bl:=by
      rw [hx.length,List.take_length,List.map_map]
      rfl
     have s5:Same H3 (upd H' q (.lst ((ds.take xs.length).map fun d=>V.bl (nameD d)))):=s4.trans (Same.new hq)
     refine ⟨q,ds.map nameD,rfl,SqL.of (by rw [zA1,e]),_,rfl,?_⟩
     have ea:(ds.map nameD).all id=stateB (some (.tuple ds)):=by rw [List.all_map];rfl
     rw [ea]
     generalize upd H' q (.lst ((ds.take xs.length).map fun d=>V.bl (nameD d)))=H5 at s5 ⊢
     cases e4:stateB (some (.tuple ds)) with
     | false=>exact iteT ⟨one,bad e4 s5⟩
     | true =>
      refine iteF ⟨_,rfl,_,rfl,p,CM,dx,_,rfl,s5 _ _ h3,MC.dc.cl,MC.o,(by show 4 < 1000;decide),?_⟩
      refine ⟨_,rfl,_,rfl,p,CM,dx,_,rfl,zA1,MC.dc.cl,MC.s,(by show 5 < 1000;decide),?_⟩
      rw [zB5]
      exact k1 (by rw [e4];rfl) _ zA1 fun x o q n=>by rw [zA9 n];exact s5 _ _ (f3 _ _ q n)
end
end L2.W
namespace L2.W
open PySem My
theorem lkN {f g:Str}{v:V}{fs:List (Str×V)} (h:¬ g=f):(putF f v fs).lookup g=fs.lookup g:=by rw [zB9,if_neg h]
theorem lkY {f:Str}{v:V}{fs:List (Str×V)}:(putF f v fs).lookup f=some v:=by rw [zB9,if_pos rfl]
section
variable (a b c d m o f v s:V)
theorem dF_1:(dF a b c d).lookup ("hand" : Str)=some a:=(lkN (by decide +kernel)).trans ((lkN (by decide +kernel)).trans ((lkN (by decide +kernel)).trans lkY))
theorem dF_2:(dF a b c d).lookup ("number" : Str)=some b:=(lkN (by decide +kernel)).trans ((lkN (by decide +kernel)).trans lkY)
theorem dF_3:(dF a b c d).lookup ("wishing" : Str)=some c:=(lkN (by decide +kernel)).trans lkY
theorem dF_4:(dF a b c d).lookup ("name" : Str)=some d:=lkY
end
inductive Way where
 | make
 | set
 | take
noncomputable def Way.nm:Way→Str
 | .make=>"make"
 | .set=>"set"
 | .take=>"take"
noncomputable def fsOf:Way→List V→List (Str×V)
 | .make,[a,b,c,d,o,s]=>mF a b c d o s
 | .set,[a,b,c,d,m,o,f,v]=>sF a b c d m o f v
 | .take,[a,b,c,d,m,o]=>tF a b c d m o
 | _,_=>[]
noncomputable def Way.size:Way→Nat
 | .make=>6
 | .set=>8
 | .take=>6
theorem len6 {α : Type}{l:List α} (h:l.length=6):∃ a b c d e f,l=[a,b,c,d,e,f]:=by
 match l,h with
 | [a,b,c,d,e,f],_=>exact ⟨a,b,c,d,e,f,rfl⟩
theorem len8 {α : Type}{l:List α} (h:l.length=8):∃ a b c d e f g i,l=[a,b,c,d,e,f,g,i]:=by
 match l,h with
 | [a,b,c,d,e,f,g,i],_=>exact ⟨a,b,c,d,e,f,g,i,rfl⟩
noncomputable def spPts (C:Addr) (wy:Way):Sp:=fun vs H Q _=>∃ (p dx:Addr) (xs:List V),vs=[.ref p]∧xs.length=wy.size∧H p=some (.ins C dx (fsOf wy xs))∧∀ t H',H t=none→Same H H'→H' t=some (.tup xs)→Q (.ref t) H'
structure FCls (K:PySem.W.Frag) (C:Addr):Prop where
 dc:DCls K C
 m:NoAttr K C "mark"
 o:NoAttr K C "owner_mark"
 s:NoAttr K C "state"
 f:NoAttr K C "field"
 v:NoAttr K C "value"
theorem fs_1:∀ {wy:Way}{xs:List V}{a:V},xs.length=wy.size→xs[0]? = some a→(fsOf wy xs).lookup ("hand" : Str)=some a
 | .make,xs,a,h,e=>by obtain ⟨_,_,_,_,_,_,rfl⟩:=len6 h;cases e;exact (lkN (by decide +kernel)).trans ((lkN (by decide +kernel)).trans (dF_1 _ _ _ _))
 | .set,xs,a,h,e=>by obtain ⟨_,_,_,_,_,_,_,_,rfl⟩:=len8 h;cases e;exact (lkN (by decide +kernel)).trans ((lkN (by decide +kernel)).trans ((lkN (by decide +kernel)).trans ((lkN (by decide +kernel)).trans (dF_1 _ _ _ _))))
 | .take,xs,a,h,e=>by obtain ⟨_,_,_,_,_,_,rfl⟩:=len6 h;cases e;exact (lkN (by decide +kernel)).trans ((lkN (by decide +kernel)).trans (dF_1 _ _ _ _))
theorem fs_2:∀ {wy:Way}{xs:List V}{a:V},xs.length=wy.size→xs[1]? = some a→(fsOf wy xs).lookup ("number" : Str)=some a
 | .make,xs,a,h,e=>by obtain ⟨_,_,_,_,_,_,rfl⟩:=len6 h;cases e;exact (lkN (by decide +kernel)).trans ((lkN (by decide +kernel)).trans (dF_2 _ _ _ _))
 | .set,xs,a,h,e=>by obtain ⟨_,_,_,_,_,_,_,_,rfl⟩:=len8 h;cases e;exact (lkN (by decide +kernel)).trans ((lkN (by decide +kernel)).trans ((lkN (by decide +kernel)).trans ((lkN (by decide +kernel)).trans (dF_2 _ _ _ _))))
 | .take,xs,a,h,e=>by obtain ⟨_,_,_,_,_,_,rfl⟩:=len6 h;cases e;exact (lkN (by decide +kernel)).trans ((lkN (by decide +kernel)).trans (dF_2 _ _ _ _))
theorem fs_3:∀ {wy:Way}{xs:List V}{a:V},xs.length=wy.size→xs[2]? = some a→(fsOf wy xs).lookup ("wishing" : Str)=some a
 | .make,xs,a,h,e=>by obtain ⟨_,_,_,_,_,_,rfl⟩:=len6 h;cases e;exact (lkN (by decide +kernel)).trans ((lkN (by decide +kernel)).trans (dF_3 _ _ _ _))
 | .set,xs,a,h,e=>by obtain ⟨_,_,_,_,_,_,_,_,rfl⟩:=len8 h;cases e;exact (lkN (by decide +kernel)).trans ((lkN (by decide +kernel)).trans ((lkN (by decide +kernel)).trans ((lkN (by decide +kernel)).trans (dF_3 _ _ _ _))))
 | .take,xs,a,h,e=>by obtain ⟨_,_,_,_,_,_,rfl⟩:=len6 h;cases e;exact (lkN (by decide +kernel)).trans ((lkN (by decide +kernel)).trans (dF_3 _ _ _ _))
theorem fs_4:∀ {wy:Way}{xs:List V}{a:V},xs.length=wy.size→xs[3]? = some a→(fsOf wy xs).lookup ("name" : Str)=some a
 | .make,xs,a,h,e=>by obtain ⟨_,_,_,_,_,_,rfl⟩:=len6 h;cases e;exact (lkN (by decide +kernel)).trans ((lkN (by decide +kernel)).trans (dF_4 _ _ _ _))
 | .set,xs,a,h,e=>by obtain ⟨_,_,_,_,_,_,_,_,rfl⟩:=len8 h;cases e;exact (lkN (by decide +kernel)).trans ((lkN (by decide +kernel)).trans ((lkN (by decide +kernel)).trans ((lkN (by decide +kernel)).trans (dF_4 _ _ _ _))))
 | .take,xs,a,h,e=>by obtain ⟨_,_,_,_,_,_,rfl⟩:=len6 h;cases e;exact (lkN (by decide +kernel)).trans ((lkN (by decide +kernel)).trans (dF_4 _ _ _ _))
section
variable (a b c d m o f v s:V)
theorem mF_o:(fsOf .make [a,b,c,d,o,s]).lookup ("owner_mark" : Str)=some o:=(lkN (by decide +kernel)).trans lkY
theorem mF_s:(fsOf .make [a,b,c,d,o,s]).lookup ("state" : Str)=some s:=lkY
theorem tF_o:(fsOf .take [a,b,c,d,m,o]).lookup ("owner_mark" : Str)=some o:=lkY
theorem tF_m:(fsOf .take [a,b,c,d,m,o]).lookup ("mark" : Str)=some m:=(lkN (by decide +kernel)).trans lkY
theorem sF_o:(fsOf .set [a,b,c,d,m,o,f,v]).lookup ("owner_mark" : Str)=some o:=(lkN (by decide +kernel)).trans ((lkN (by decide +kernel)).trans lkY)
theorem sF_m:(fsOf .set [a,b,c,d,m,o,f,v]).lookup ("mark" : Str)=some m:=(lkN (by decide +kernel)).trans ((lkN (by decide +kernel)).trans ((lkN (by decide +kernel)).trans lkY))
theorem sF_f:(fsOf .set [a,b,c,d,m,o,f,v]).lookup ("field" : Str)=some f:=(lkN (by decide +kernel)).trans lkY
theorem sF_v:(fsOf .set [a,b,c,d,m,o,f,v]).lookup ("value" : Str)=some v:=lkY
end
noncomputable def spWordL:Sp:=fun vs H Q _=>∃ (q:Addr) (k:Int),vs=[.ref q]∧Src H q k∧k≤900000∧∀ (x:Str) (H':Hp),nameOk x→Src H' q (k + 12)→(∀ b o,H b=some o→b≠q→H' b=some o)→Q (.str x) H'
noncomputable def spNumL:Sp:=fun vs H Q _=>∃ (q:Addr) (k l:Int),vs=[.ref q,.int l]∧Src H q k∧k≤900000∧0≤l∧∀ (n:Int) (H':Hp),l≤n→Src H' q (k + 3)→(∀ b o,H b=some o→b≠q→H' b=some o)→Q (.int n) H'
noncomputable def spNameL:Sp:=fun vs H Q _=>∃ (q:Addr) (k:Int),vs=[.ref q]∧Src H q k∧k≤800000∧∀ (p:List (Str×Nat)) (H':Hp),PathOk p→Src H' q (k + 100)→(∀ b o,H b=some o→b≠q→H' b=some o)→Q (.str (showP p)) H'
noncomputable def words7:List Str:=["a", "box", "lidlidli", "kind", "of", "make", "z"]
theorem words7_ok:∀ x∈words7,nameB x=true∧PyData.strOk x=true∧x.length≤8:=by decide +kernel
theorem _root_.My.Src.look {H H':Hp}{q:Addr}{k:Int} (S:Src H q k) (h:∀ o,H q=some o→H' q=some o):Src H' q k:=by
 obtain ⟨a,c,j,e,r⟩:=S
 exact ⟨a,c,j,h _ e,r⟩
theorem _root_.My.Src.ne {H:Hp}{q b:Addr}{k:Int} (S:Src H q k) (h:H b=none):b≠q:=by
 obtain ⟨_,_,_,e,_⟩:=S
 exact Ne.symm (zA8 e h)
theorem nameB_snoc {x:Str}{c:Nat} (h:x.length < 8) (hx:x.cps.toList.all charB=true) (ok:PyData.strOk x=true) (hc:c∈letters.cps.toList):(x++⟨#[c]⟩).cps.toList.all charB=true∧PyData.strOk (x++⟨#[c]⟩)=true∧(x++⟨#[c]⟩).length=x.length + 1:=by
 have e:(x++⟨#[c]⟩:Str).cps.toList=x.cps.toList++[c]:=zAj _ _
 refine ⟨?_,?_,by rw [zAt];rfl⟩
 ·rw [e,List.all_append,hx]
  simp [charB,hc]
 ·refine strOk_app ok ?_
  rw [zBb]
  intro d hd
  have:d=c:=by simpa using hd
  rw [this]
  have key:∀ y∈letters.cps.toList,y < 0x110000:=by decide +kernel
  exact key c hc
section
variable {P:Program}{w:World}{K:PySem.W.Frag}{mg:Str→Option Value}{base:Heap}{CX:CXT}
theorem scPm:FnScope ["self"] ["self"] (defScope sPartsM):=⟨rfl,rfl,rfl,by decide +kernel,rfl,by decide +kernel,by decide +kernel⟩
theorem scPt:FnScope ["self"] ["self"] (defScope sPartsT):=⟨rfl,rfl,rfl,by decide +kernel,rfl,by decide +kernel,by decide +kernel⟩
theorem scPs:FnScope ["self", "ahead"] ["self"] (defScope sPartsS):=⟨rfl,rfl,rfl,by decide +kernel,rfl,by decide +kernel,by decide +kernel⟩
theorem ok_ptsM {f C:Addr}{fd:FuncData} (FC:FCls K C) (F:Fun K "parts" "Make.parts" sPartsM f fd):FnOk P w K mg base CX 1 f fd ["self"] (spPts C .make):=by
 refine Fun.okC F scPm (fun vs H Q E h=>?_) (fun cdv A outer s H vs Q E hr h=>?_)
 ·obtain ⟨p,dx,xs,rfl,_⟩:=h
  rfl
 ·obtain ⟨p,dx,xs,rfl,hl,hp,k⟩:=h
  refine ⟨_,zA4 (zAd (zBd (zA0 (zAk (pv 0) rfl) (zA0 (zAk (pv 0) rfl) (zA0 (zAk (pv 0) rfl) (zA0 (zAk (pv 0) rfl) (zA0 (zAk (pv 0) rfl) (zA0 (zAk (pv 0) rfl) zA2)))))))),?_⟩
  obtain ⟨a,b,c,d,o,s,rfl⟩:=len6 hl
  exact ⟨_,rfl,p,C,dx,_,_,rfl,hp,FC.dc.cl,FC.dc.n1,fs_1 hl rfl,_,rfl,p,C,dx,_,_,rfl,hp,FC.dc.cl,FC.dc.n2,fs_2 hl rfl,_,rfl,p,C,dx,_,_,rfl,hp,FC.dc.cl,FC.dc.n3,fs_3 hl rfl,_,rfl,p,C,dx,_,_,rfl,hp,FC.dc.cl,FC.dc.n4,fs_4 hl rfl,
   _,rfl,p,C,dx,_,_,rfl,hp,FC.dc.cl,FC.o,mF_o _ _ _ _ _ _,_,rfl,p,C,dx,_,_,rfl,hp,FC.dc.cl,FC.s,mF_s _ _ _ _ _ _,by show 6≤sizeLine;exact Nat.le_of_lt (small1000 (by decide)),fun t ht=>k t _ ht (Same.new ht) zA1⟩
theorem ok_ptsT {f C:Addr}{fd:FuncData} (FC:FCls K C) (F:Fun K "parts" "Take.parts" sPartsT f fd):FnOk P w K mg base CX 1 f fd ["self"] (spPts C .take):=by
 refine Fun.okC F scPt (fun vs H Q E h=>?_) (fun cdv A outer s H vs Q E hr h=>?_)
 ·obtain ⟨p,dx,xs,rfl,_⟩:=h
  rfl
 ·obtain ⟨p,dx,xs,rfl,hl,hp,k⟩:=h
  refine ⟨_,zA4 (zAd (zBd (zA0 (zAk (pv 0) rfl) (zA0 (zAk (pv 0) rfl) (zA0 (zAk (pv 0) rfl) (zA0 (zAk (pv 0) rfl) (zA0 (zAk (pv 0) rfl) (zA0 (zAk (pv 0) rfl) zA2)))))))),?_⟩
  obtain ⟨a,b,c,d,m,o,rfl⟩:=len6 hl
  exact ⟨_,rfl,p,C,dx,_,_,rfl,hp,FC.dc.cl,FC.dc.n1,fs_1 hl rfl,_,rfl,p,C,dx,_,_,rfl,hp,FC.dc.cl,FC.dc.n2,fs_2 hl rfl,_,rfl,p,C,dx,_,_,rfl,hp,FC.dc.cl,FC.dc.n3,fs_3 hl rfl,_,rfl,p,C,dx,_,_,rfl,hp,FC.dc.cl,FC.dc.n4,fs_4 hl rfl,
   _,rfl,p,C,dx,_,_,rfl,hp,FC.dc.cl,FC.m,tF_m _ _ _ _ _ _,_,rfl,p,C,dx,_,_,rfl,hp,FC.dc.cl,FC.o,tF_o _ _ _ _ _ _,by show 6≤sizeLine;exact Nat.le_of_lt (small1000 (by decide)),fun t ht=>k t _ ht (Same.new ht) zA1⟩
theorem ok_ptsS {f C:Addr}{fd:FuncData} (FC:FCls K C) (F:Fun K "parts" "Set.parts" sPartsS f fd):FnOk P w K mg base CX 1 f fd ["self"] (spPts C .set):=by
 refine Fun.okC F scPs (fun vs H Q E h=>?_) (fun cdv A outer s H vs Q E hr h=>?_)
 ·obtain ⟨p,dx,xs,rfl,_⟩:=h
  rfl
 ·obtain ⟨p,dx,xs,rfl,hl,hp,k⟩:=h
  have nd:=scPs.nd
  refine ⟨_,zA3 (zAe (i:=1) nd rfl (Or.inl rfl) (zBd (zA0 (zAk (pv 0) rfl) (zA0 (zAk (pv 0) rfl) (zA0 (zAk (pv 0) rfl) (zA0 (zAk (pv 0) rfl) (zA0 (zAk (pv 0) rfl) (zA0 (zAk (pv 0) rfl) zA2))))))))
   (zA4 (zAd (zAg op_catT (pv 1) (zBd (zA0 (zAk (pv 0) rfl) (zA0 (zAk (pv 0) rfl) zA2)))))),?_⟩
  obtain ⟨a,b,c,d,m,o,fl,va,rfl⟩:=len8 hl
  refine ⟨_,rfl,p,C,dx,_,_,rfl,hp,FC.dc.cl,FC.dc.n1,fs_1 hl rfl,_,rfl,p,C,dx,_,_,rfl,hp,FC.dc.cl,FC.dc.n2,fs_2 hl rfl,_,rfl,p,C,dx,_,_,rfl,hp,FC.dc.cl,FC.dc.n3,fs_3 hl rfl,_,rfl,p,C,dx,_,_,rfl,hp,FC.dc.cl,FC.dc.n4,fs_4 hl rfl,
   _,rfl,p,C,dx,_,_,rfl,hp,FC.dc.cl,FC.m,sF_m _ _ _ _ _ _ _ _,_,rfl,p,C,dx,_,_,rfl,hp,FC.dc.cl,FC.o,sF_o _ _ _ _ _ _ _ _,by show 6≤sizeLine;exact Nat.le_of_lt (small1000 (by decide)),fun t ht=>?_⟩
  have hp1:=(Same.new (o:=.tup [a,b,c,d,m,o]) ht) _ _ hp
  refine ⟨_,rfl,_,rfl,p,C,dx,_,_,rfl,hp1,FC.dc.cl,FC.f,sF_f _ _ _ _ _ _ _ _,_,rfl,p,C,dx,_,_,rfl,hp1,FC.dc.cl,FC.v,sF_v _ _ _ _ _ _ _ _,by show 2≤sizeLine;exact Nat.le_of_lt (small1000 (by decide)),fun t2 ht2=>?_⟩
  refine ⟨t,t2,_,_,rfl,rfl,SqT.of ((Same.new ht2) _ _ zA1),SqT.of zA1,by simp,by show 8≤sizeLine;exact Nat.le_of_lt (small1000 (by decide)),(fun e=>by simp at e),fun _ t3 ht3=>k t3 _ ((Same.new ht).free ((Same.new ht2).free ht3)) (((Same.new ht).trans (Same.new ht2)).trans (Same.new ht3)) zA1⟩
end
end L2.W
namespace L2.W
open PySem My
theorem zD3:∀ p:List (Str×Nat),Str.join "." (p.map fun x=>x.1++"."++figs x.2)=showP p
 | []=>rfl
 | [x]=>rfl
 | x :: y :: r=>by
  rw [List.map_cons,show Str.join "." ((x.1++"."++figs x.2) :: (y :: r).map fun x=>x.1++"."++figs x.2)=(x.1++"."++figs x.2)++"."++Str.join "." ((y :: r).map fun x=>x.1++"."++figs x.2) from zBu "." (ws:=[x.1++"."++figs x.2]) (by simp) (by simp),zD3 (y :: r)]
  show _=Str.join "." (wordsP ([x]++(y :: r)))
  rw [zCv,zBu _ (by simp [wordsP]) (by simp [wordsP])]
  rfl
theorem joinDot {ws:List Str}{m:Nat} (h:∀ x∈ws,x.length≤m) (hl:ws.length * (m + 1)≤900):PySem.JoinOk "." ws=true:=by
 have d1:("." : Str).length=1:=by decide +kernel
 have key:∀ (l:List Str) (n:Nat),(∀ x∈l,x.length≤m)→l.foldl (fun a x=>a + x.length + ("." : Str).length) n≤n + l.length * (m + 1):=by
  intro l
  induction l with
  | nil=>intro n _;simp
  | cons c r ih =>
   intro n hx
   rw [List.foldl_cons]
   have h1:=hx c List.mem_cons_self
   have h2:=ih (n + c.length + ("." : Str).length) fun x hx'=>hx x (List.mem_cons_of_mem _ hx')
   rw [d1] at h2 ⊢
   rw [List.length_cons,Nat.succ_mul]
   omega
 have:=key ws 0 h
 have hs:900 < sizeLine:=small1000 (by decide)
 unfold PySem.JoinOk
 rw [List.foldl_toArray]
 unfold Builtin.Str.tooLong
 simp
 omega
theorem log_small {n:Nat} (h:n≤999999):((n:Int).natAbs).log2 < 1920:=by
 rw [Int.natAbs_natCast]
 by_cases z:n=0
 ·rw [z];decide
 ·exact (Nat.log2_lt z).mpr (Nat.lt_of_lt_of_le (show n < 2 ^ 20 by omega) (Nat.pow_le_pow_right (by decide) (by decide)))
section
variable {P:Program}{w:World}{K:PySem.W.Frag}{mg:Str→Option Value}{base:Heap}{CX:CXT}
theorem scWl:FnScope ["_law_source_here", "_law_some", "_law_word_here", "_law_k"] ["_law_source_here"] (defScope sWord):=⟨rfl,rfl,rfl,by decide +kernel,rfl,by decide +kernel,by decide +kernel⟩
theorem scNl:FnScope ["_law_source_here", "_law_least"] ["_law_source_here", "_law_least"] (defScope sNumber):=⟨rfl,rfl,rfl,by decide +kernel,rfl,by decide +kernel,by decide +kernel⟩
theorem scNml:FnScope ["_law_source_here", "_law_words", "_law_k"] ["_law_source_here"] (defScope sName):=⟨rfl,rfl,rfl,by decide +kernel,rfl,by decide +kernel,by decide +kernel⟩
theorem ok_wordL {f fn fm:Addr}{fd fdn fdm:FuncData} (hC:Calm CX) (T:Tops K mg) (F:Fun K "_law_word" "_law_word" sWord f fd) (DM:Def K mg "_law_mixed" sMixed ["_law_cell", "_law_k"] fm fdm) (DN:Def K mg "_law_next" sNext ["_law_source_here", "_law_many"] fn fdn):FnOk P w K mg base CX 3 f fd ["_law_source_here"] spWordL:=by
 have GN:FnOk P w K mg base CX 2 fn fdn ["_law_source_here", "_law_many"] spNext:=zC2 hC DN.fn DM
 refine Fun.okC F scWl (fun vs H Q E h=>?_) (fun cdv A outer s H vs Q E hr h=>?_)
 ·obtain ⟨q,k,rfl,_⟩:=h
  rfl
 ·obtain ⟨q,k,rfl,S0,hk,q1⟩:=h
  have nd:=scWl.nd
  refine ⟨_,zA3 (zAe (i:=1) nd rfl (Or.inl rfl) (zAu (zA0 zA6 (zA0 zA6 (zA0 zA6 (zA0 zA6 (zA0 zA6 (zA0 zA6 (zA0 zA6 zA2)))))))))
   (zA3 (zAp (zAf zB8 (zA7 GN hr rfl DN.at_ DN.fn.kp DN.bind .nil (passC hC) (zA0 (pv 0) (zA0 zA5 zA2))) zA5 (nomark _))
    (zA4 (zAd (zAs zAc (pv 1) (zA7 GN hr rfl DN.at_ DN.fn.kp DN.bind .nil (passC hC) (zA0 (pv 0) (zA0 (zAa zB4 rfl T.len PySem.boot_len (zA0 (pv 1) zA2)) zA2))) (fun _ _=>rfl)))) zAb)
   (zA3 (zAe (i:=2) nd rfl (Or.inl rfl) zA6)
   (zA3 (zCx PassesOwn.never rfl (zBc rfl T.range (zA0 (zAg zBf zA5 (zA7 GN hr rfl DN.at_ DN.fn.kp DN.bind .nil (passC hC) (zA0 (pv 0) (zA0 zA5 zA2)))) zA2)) (zAx (i:=3) nd rfl (Or.inl rfl))
    (zA4 (zAe (i:=2) nd rfl (Or.inl rfl) (zAg zC1 (pv 2) (zAs ix_str zA6 (zA7 GN hr rfl DN.at_ DN.fn.kp DN.bind .nil (passC hC) (zA0 (pv 0) (zA0 zA5 zA2))) (fun _ _=>rfl))))))
   (zA4 (zAd (pv 2)))))),?_⟩
  have small:∀ n:Nat,n≤1000→n≤sizeLine:=fun n h=>Nat.le_of_lt (small1000 h)
  refine ⟨small 7 (by decide),fun l hl=>?_⟩
  have lq:=S0.ne hl
  have s1:Same H (upd H l (.lst [.str "a",.str "box",.str "lidlidli",.str "kind",.str "of",.str "make",.str "z"])):=Same.new hl
  have e1:(upd H l (.lst [.str "a",.str "box",.str "lidlidli",.str "kind",.str "of",.str "make",.str "z"])) l=some (.lst (words7.map V.str)):=zA1
  have S1:=S0.look (H':=upd H l (.lst [.str "a",.str "box",.str "lidlidli",.str "kind",.str "of",.str "make",.str "z"])) fun o e=>s1 _ _ e
  generalize upd H l (.lst [.str "a",.str "box",.str "lidlidli",.str "kind",.str "of",.str "make",.str "z"])=H1 at s1 e1 S1 ⊢
  refine ⟨_,rfl,q,_,_,rfl,S1,by omega,by decide,by decide,fun r H2 r0 r1 S2 k2=>⟨rfl,_,rfl,?_⟩⟩
  have f2:∀ b o,H b=some o→b≠q→H2 b=some o:=fun b o e nb=>by rw [k2 b nb];exact s1 _ _ e
  refine ite2 (fun _=>?_) (fun _=>?_)
  ·refine ⟨_,rfl,_,rfl,_,rfl,l,_,rfl,.inl (SqL.of (by rw [k2 _ lq];exact e1)),q,_,_,rfl,S2,by omega,by decide,by decide,fun r3 H3 a0 a1 S3 k3=>?_⟩
   obtain ⟨j,rfl⟩:∃ j:Nat,r3=(j:Int):=⟨r3.toNat,by omega⟩
   have jl:j < words7.length:=by have:(words7.map V.str).length=7:=rfl;have:words7.length=7:=rfl;omega
   obtain ⟨x,ex⟩:∃ x,words7[j]? = some x:=⟨_,List.getElem?_eq_getElem jl⟩
   exact ⟨l,_,(j:Int),_,rfl,rfl,SqL.of (by rw [k3 _ lq,k2 _ lq];exact e1),zBh (show (words7.map V.str)[j]? = some (.str x) by rw [List.getElem?_map,ex];rfl),q1 x H3 (words7_ok x (List.mem_of_getElem? ex)) (S3.mono (by omega)) fun b o e nb=>by rw [k3 b nb];exact f2 _ _ e nb⟩
  ·refine ⟨_,rfl,q,_,_,rfl,S2,by omega,by decide,by decide,fun r3 H3 a0 a1 S3 k3=>⟨_,_,rfl,rfl,1 + r3,rfl,by omega,by omega,?_⟩⟩
   have f3:∀ b o,H b=some o→b≠q→H3 b=some o:=fun b o e nb=>by rw [k3 b nb];exact f2 _ _ e nb
   refine for_range (fun i σ H'=>∃ (x:Str) (u:Option V),σ = [some (.ref q),some (.ref l),some (.str x),u]∧x.length=i∧x.cps.toList.all charB=true∧PyData.strOk x=true∧Src H' q (k + 2 + (i:Int))∧∀ b o,H b=some o→b≠q→H' b=some o) ⟨_,_,rfl,rfl,rfl,by decide +kernel,S3.mono (by push_cast;omega),f3⟩ ?_ ?_
   ·rintro i σ H' hi ⟨x,u,rfl,xl,xc,xo,S4,f4⟩
    have i8:i < 8:=by omega
    refine ⟨_,rfl,_,rfl,q,_,_,rfl,S4,by omega,by decide,by decide,fun r5 H5 b0 b1 S5 k5=>?_⟩
    obtain ⟨j,rfl⟩:∃ j:Nat,r5=(j:Int):=⟨r5.toNat,by omega⟩
    have jl:j < letters.cps.toList.length:=by have:letters.cps.toList.length=26:=(by decide +kernel);omega
    obtain ⟨c,ec⟩:∃ c,letters.cps.toList[j]? = some c:=⟨_,List.getElem?_eq_getElem jl⟩
    obtain ⟨g1,g2,g3⟩:=nameB_snoc (by omega) xc xo (List.mem_of_getElem? ec)
    refine ⟨letters,_,c,rfl,rfl,small _ (by decide +kernel),zBh ec,_,_,rfl,rfl,?_,⟨_,_,rfl,by rw [g3,xl],g1,g2,S5.mono (by push_cast;omega),fun b o e nb=>by rw [k5 b nb];exact f4 _ _ e nb⟩⟩
    show x.length + 1≤sizeLine
    exact small _ (by omega)
   ·rintro σ H' ⟨x,u,rfl,xl,xc,xo,S4,f4⟩
    refine ⟨_,rfl,q1 x H' ⟨?_,xo,by omega⟩ (S4.mono (by omega)) f4⟩
    unfold nameB
    rw [decide_eq_true (show 1≤x.length by omega),decide_eq_true (show x.length≤8 by omega),xc]
    rfl
theorem ok_numL {f fn fm:Addr}{fd fdn fdm:FuncData} (hC:Calm CX) (F:Fun K "_law_number" "_law_number" sNumber f fd) (DM:Def K mg "_law_mixed" sMixed ["_law_cell", "_law_k"] fm fdm) (DN:Def K mg "_law_next" sNext ["_law_source_here", "_law_many"] fn fdn):FnOk P w K mg base CX 3 f fd ["_law_source_here", "_law_least"] spNumL:=by
 have GN:FnOk P w K mg base CX 2 fn fdn ["_law_source_here", "_law_many"] spNext:=zC2 hC DN.fn DM
 refine Fun.okC F scNl (fun vs H Q E h=>?_) (fun cdv A outer s H vs Q E hr h=>?_)
 ·obtain ⟨q,k,l,rfl,_⟩:=h
  rfl
 ·obtain ⟨q,k,l,rfl,S0,hk,l0,q1⟩:=h
  refine ⟨_,zA4 (zAd (zAg zBf (pv 1) (zAs zAc (zAu (zA0 (zA7 GN hr rfl DN.at_ DN.fn.kp DN.bind .nil (passC hC) (zA0 (pv 0) (zA0 zA5 zA2))) (zA0 (zA7 GN hr rfl DN.at_ DN.fn.kp DN.bind .nil (passC hC) (zA0 (pv 0) (zA0 (zAg op_sub (zAg op_pow zA5 zA5) zA5) zA2))) zA2)))
   (zA7 GN hr rfl DN.at_ DN.fn.kp DN.bind .nil (passC hC) (zA0 (pv 0) (zA0 zA5 zA2))) (fun _ _=>rfl)))),?_⟩
  have small:∀ n:Nat,n≤1000→n≤sizeLine:=fun n h=>Nat.le_of_lt (small1000 h)
  refine ⟨_,rfl,_,rfl,q,_,_,rfl,S0,by omega,by decide,by decide,fun r1 H1 a0 a1 S1 k1=>?_⟩
  refine ⟨_,rfl,10,12,rfl,rfl,⟨by decide,by decide,by decide⟩,_,_,rfl,rfl,q,_,_,rfl,S1,by omega,by decide,by decide,fun r2 H2 b0 b1 S2 k2=>⟨small 2 (by decide),fun ll hl=>?_⟩⟩
  have lq:=S2.ne hl
  have S2':=S2.look (H':=upd H2 ll (.lst [.int r1,.int r2])) fun o e=>(Same.new hl) _ _ e
  refine ⟨_,rfl,q,_,_,rfl,S2',by omega,by decide,by decide,fun r3 H3 c0 c1 S3 k3=>?_⟩
  obtain ⟨j,rfl⟩:∃ j:Nat,r3=(j:Int):=⟨r3.toNat,by omega⟩
  obtain ⟨n,en,n0⟩:∃ n:Int,([V.int r1,V.int r2]:List V)[j]? = some (.int n)∧0≤n:=by
   match j,c1 with
   | 0,_=>exact ⟨r1,rfl,a0⟩
   | 1,_=>exact ⟨r2,rfl,b0⟩
   | _ + 2,h=>exact absurd h (by omega)
  exact ⟨ll,_,(j:Int),_,rfl,rfl,SqL.of (by rw [k3 _ lq];exact zA1),zBh en,_,_,rfl,rfl,q1 _ H3 (by omega) (S3.mono (by omega)) fun b o e nb=>by rw [k3 b nb];exact (Same.new hl) _ _ (by rw [k2 b nb,k1 b nb];exact e)⟩
theorem ok_nameL {f fn fm fw:Addr}{fd fdn fdm fdw:FuncData} (hC:Calm CX) (T:Tops K mg) (F:Fun K "_law_name" "_law_name" sName f fd) (DM:Def K mg "_law_mixed" sMixed ["_law_cell", "_law_k"] fm fdm) (DN:Def K mg "_law_next" sNext ["_law_source_here", "_law_many"] fn fdn) (DW:Def K mg "_law_word" sWord ["_law_source_here"] fw fdw):FnOk P w K mg base CX 4 f fd ["_law_source_here"] spNameL:=by
 have GN:FnOk P w K mg base CX 2 fn fdn ["_law_source_here", "_law_many"] spNext:=zC2 hC DN.fn DM
 have GW:FnOk P w K mg base CX 3 fw fdw ["_law_source_here"] spWordL:=ok_wordL hC T DW.fn DM DN
 refine Fun.okC F scNml (fun vs H Q E h=>?_) (fun cdv A outer s H vs Q E hr h=>?_)
 ·obtain ⟨q,k,rfl,_⟩:=h
  rfl
 ·obtain ⟨q,k,rfl,S0,hk,q1⟩:=h
  have nd:=scNml.nd
  have hr2:=hr.mono (show 2≤3 by decide)
  refine ⟨_,zA3 (zAe (i:=1) nd rfl (Or.inl rfl) (zAu zA2))
   (zA3 (zCx PassesOwn.never rfl (zBc rfl T.range (zA0 (zAg zBf zA5 (zA7 GN hr2 rfl DN.at_ DN.fn.kp DN.bind .nil (passC hC) (zA0 (pv 0) (zA0 zA5 zA2)))) zA2)) (zAx (i:=2) nd rfl (Or.inl rfl))
    (zA4 (zAq (zBr PySem.F.plainAttrs_list PySem.F.slot_list_append PySem.F.type_list_append zB2 (pv 1) (zA0 (zAg zC1 (zAg zC1 (zA7 GW hr rfl DW.at_ DW.fn.kp DW.bind .nil (passC hC) (zA0 (pv 0) zA2)) zA6)
     (zAw call_str_int rfl T.str PyProof.Rows.boot_str (zA0 (zAs zAc (zAu (zA0 (zA7 GN hr2 rfl DN.at_ DN.fn.kp DN.bind .nil (passC hC) (zA0 (pv 0) (zA0 zA5 zA2))) (zA0 zA5 zA2)))
      (zA7 GN hr2 rfl DN.at_ DN.fn.kp DN.bind .nil (passC hC) (zA0 (pv 0) (zA0 zA5 zA2))) (fun _ _=>rfl)) zA2))) zA2)))))
   (zA4 (zAd (zBr PySem.F.plainAttrs_str PySem.F.slot_str_join PySem.F.type_str_join (mt_join rfl) zA6 (zA0 (pv 1) zA2))))),?_⟩
  have small:∀ n:Nat,n≤1000→n≤sizeLine:=fun n h=>Nat.le_of_lt (small1000 h)
  refine ⟨Nat.zero_le _,fun lg hg=>?_⟩
  have gq:=S0.ne hg
  have S1:=S0.look (H':=upd H lg (.lst [])) fun o e=>(Same.new hg) _ _ e
  refine ⟨_,rfl,q,_,_,rfl,S1,by omega,by decide,by decide,fun r3 H3 a0 a1 S3 k3=>⟨_,_,rfl,rfl,1 + r3,rfl,by omega,by omega,?_⟩⟩
  have f3:∀ b o,H b=some o→b≠q→H3 b=some o:=fun b o e nb=>by rw [k3 b nb];exact (Same.new hg) _ _ e
  refine for_range (fun i σ H'=>∃ (p:List (Str×Nat)) (u:Option V),σ = [some (.ref q),some (.ref lg),u]∧H' lg=some (.lst ((p.map fun x=>x.1++"."++figs x.2).map V.str))∧p.length=i∧(∀ x∈p,nameOk x.1∧x.2≤999999)∧Src H' q (k + 1 + 20 * (i:Int))∧∀ b o,H b=some o→b≠q→H' b=some o)
   ⟨[],_,rfl,by rw [k3 _ gq];exact zA1,rfl,(fun x h=>nomatch h),S3.mono (by push_cast;omega),f3⟩ ?_ ?_
  ·rintro i σ H4 hi ⟨p,u,rfl,hg4,pl,pk,S4,f4⟩
   have i4:i < 4:=by omega
   refine ⟨_,rfl,.inl ⟨rfl,_,SqL.of hg4⟩,_,rfl,q,_,rfl,S4,by omega,fun x H5 xk S5 f5=>?_⟩
   have hg5:=f5 _ _ hg4 gq
   have x8:=xk.2.2
   have d1:("." : Str).length=1:=by decide +kernel
   refine ⟨_,_,rfl,rfl,by rw [d1];exact small _ (by omega),_,rfl,q,_,_,rfl,S5,by omega,by decide,by decide,fun r6 H6 b0 b1 S6 k6=>⟨small 2 (by decide),fun ll hl=>?_⟩⟩
   have lq:=S6.ne hl
   have S6':=S6.look (H':=upd H6 ll (.lst [.int r6,.int 999999])) fun o e=>(Same.new hl) _ _ e
   refine ⟨_,rfl,q,_,_,rfl,S6',by omega,by decide,by decide,fun r7 H7 c0 c1 S7 k7=>?_⟩
   obtain ⟨j,rfl⟩:∃ j:Nat,r7=(j:Int):=⟨r7.toNat,by omega⟩
   obtain ⟨n,en,n6⟩:∃ n:Nat,([V.int r6,V.int 999999]:List V)[j]? = some (.int (n:Nat))∧n≤999999:=by
    match j,c1 with
    | 0,_=>exact ⟨r6.toNat,by show some (V.int r6)=_;rw [Int.toNat_of_nonneg b0],by omega⟩
    | 1,_=>exact ⟨999999,rfl,Nat.le_refl _⟩
    | _ + 2,h=>exact absurd h (by omega)
   have fl:=zDm n6
   have hg7:H7 lg=some (.lst ((p.map fun x=>x.1++"."++figs x.2).map V.str)):=by rw [k7 _ gq];exact (Same.new hl) _ _ (by rw [k6 _ gq];exact hg5)
   refine ⟨ll,_,(j:Int),_,rfl,rfl,SqL.of (by rw [k7 _ lq];exact zA1),zBh en,(n:Int),rfl,log_small n6,_,_,rfl,rfl,?_,lg,_,_,rfl,rfl,hg7,?_,?_⟩
   ·show (x++".").length + (figs n).length≤sizeLine
    rw [zAt,d1]
    exact small _ (by omega)
   ·rw [List.length_map,List.length_map]
    exact small1000 (by omega)
   ·refine ⟨p++[(x,n)],_,rfl,by rw [zA1,List.map_append,List.map_append];rfl,by rw [List.length_append,pl];rfl,fun y hy=>?_,?_,fun b o e nb=>?_⟩
    ·rcases List.mem_append.mp hy with hy | hy
     ·exact pk y hy
     ·rw [List.mem_singleton.mp hy]
      exact ⟨xk,n6⟩
    ·exact (S7.look fun o e=>by rw [zA9 (Ne.symm gq)];exact e).mono (by push_cast;omega)
    ·rw [zA9 (zA8 e hg),k7 b nb]
     exact (Same.new hl) _ _ (by rw [k6 b nb];exact f5 _ _ (f4 _ _ e nb) nb)
  ·rintro σ H4 ⟨p,u,rfl,hg4,pl,pk,S4,f4⟩
   have pok:PathOk p:=⟨fun z=>by rw [z] at pl;simp at pl;omega,by omega,pk⟩
   refine ⟨rfl,_,rfl,_,lg,_,rfl,rfl,SqL.of hg4,joinDot (m:=15) (fun y hy=>?_) (by rw [List.length_map];omega),?_⟩
   ·obtain ⟨z,hz,rfl⟩:=List.mem_map.mp hy
    have h1:=(pk z hz).1.2.2
    have h2:=zDm (pk z hz).2
    rw [zAt,zAt]
    have d1:("." : Str).length=1:=by decide +kernel
    omega
   ·rw [show Txt.join "." (p.map fun x=>x.1++"."++figs x.2)=showP p from (PySem.StrLaws.glued_eq_join _ _).trans (zD3 p)]
    exact q1 p H4 pok (S4.mono (by omega)) f4
end
end L2.W
namespace L2.W
open PySem My
inductive Tag where
 | word
 | number
 | wishing
 | thing
 | mark
 | owner
 | state
noncomputable def Tag.nm:Tag→Str
 | .word=>"word"
 | .number=>"number"
 | .wishing=>"wishing"
 | .thing=>"thing"
 | .mark=>"mark"
 | .owner=>"owner"
 | .state=>"state"
noncomputable def tagsOf:Way→List Tag
 | .make=>[.word,.number,.wishing,.thing,.owner,.state]
 | .set=>[.word,.number,.wishing,.thing,.mark,.owner,.word,.word]
 | .take=>[.word,.number,.wishing,.thing,.mark,.owner]
noncomputable def tagB (n:Option PyData):Tag→Option PyData→Bool
 | .word,some d=>nameD d
 | .number,some d=>wholeFrom 1 d
 | .mark,some d=>wholeFrom 1 d
 | .wishing,some d=>wholeFrom 0 d
 | .thing,some d=>formD d
 | .owner,some d=>(match n with | some m=>ownerD m d | none=>false)
 | .state,o=>stateB o
 | _,none=>false
noncomputable def okAll (n:Option PyData):List Tag→List (Option PyData)→Bool
 | [],[]=>true
 | t :: ts,o :: os=>tagB n t o && okAll n ts os
 | _,_=>false
noncomputable def nameAt (os:List (Option PyData)):Option PyData:=os.getD 3 none
noncomputable def okF (wy:Way) (os:List (Option PyData)):Bool:=okAll (nameAt os) (tagsOf wy) os
theorem zD0 {n:Option PyData}{t:Tag}{o:Option PyData}:∀ {ts:List Tag}{os:List (Option PyData)},okAll n ts os=true→tagB n t o=true→okAll n (ts++[t]) (os++[o])=true
 | [],[],_,h=>by show (tagB n t o && true)=true;rw [h];rfl
 | t' :: ts,o' :: os,h1,h2=>by
  have h1:(tagB n t' o' && okAll n ts os)=true:=h1
  rw [Bool.and_eq_true] at h1
  show (tagB n t' o' && okAll n (ts++[t]) (os++[o]))=true
  rw [h1.1,zD0 h1.2 h2]
  rfl
 | [],_ :: _,h,_=>nomatch h
 | _ :: _,[],h,_=>nomatch h
theorem zD5 (wy:Way):(tagsOf wy).length=wy.size:=by cases wy <;> rfl
theorem zBw (wy:Way):(tagsOf wy)[3]? = some .thing:=by cases wy <;> rfl
noncomputable def tagV (t:Tag):V:=.str t.nm
noncomputable def spTags:Sp:=fun vs H Q _=>∃ wy:Way,vs=[.str wy.nm]∧∀ l H',H l=none→Same H H'→H' l=some (.lst ((tagsOf wy).map tagV))→Q (.ref l) H'
noncomputable def spFieldsL:Sp:=fun vs H Q _=>∃ (q:Addr) (k:Int) (wy:Way),vs=[.ref q,.str wy.nm]∧Src H q k∧k≤1000∧∀ (l:Addr) (xs:List V) (ds:List PyData) (H':Hp),H l=none→H' l=some (.lst xs)→HasAll (fun a=>H a=none∧a≠l) H' xs ds→okF wy (ds.map some)=true→Src H' q (k + 1000)→(∀ b o,H b=some o→b≠q→H' b=some o)→Q (.ref l) H'
theorem path_form {p:List (Str×Nat)} (h:PathOk p):formB (showP p)=true:=by
 unfold formB
 rw [h.split,zBi,zCf,zCu,decide_eq_true (by omega),List.all_map,List.all_map]
 have h1:p.all (nameB ∘ fun x=>x.1)=true:=List.all_eq_true.mpr fun x hx=>(h.ok x hx).1.1
 have h2:p.all (writtenB ∘ fun q=>figs q.2)=true:=List.all_eq_true.mpr fun x hx=>by
  have n6:=(h.ok x hx).2
  show writtenB (figs x.2)=true
  unfold writtenB
  rw [decide_eq_true (figs_ge x.2),decide_eq_true (zDm n6)]
  have a:(figs x.2).cps.toList.all figC=true:=List.all_eq_true.mpr fun c hc=>by
   have d:=zDn hc
   have e:("0123456789" : Str).cps.toList=[48,49,50,51,52,53,54,55,56,57]:=by decide +kernel
   unfold figC
   rw [e]
   refine decide_eq_true ?_
   have:=(by decide +kernel:∀ i < 10,48 + i∈[48,49,50,51,52,53,54,55,56,57]) (c - 48) (by omega)
   rwa [Nat.add_sub_cancel' d.1] at this
  rw [a]
  by_cases c:1 < (figs x.2).length
  ·rw [figs_start c];simp
  ·rw [decide_eq_false c];simp
 rw [h1,h2]
 rfl
theorem strOk_showP {p:List (Str×Nat)} (h:PathOk p):PyData.strOk (showP p)=true:=by
 rw [zBb]
 intro c hc
 have key:∀ (ws:List Str),(∀ w∈ws,∀ c∈w.cps.toList,c < 0x110000)→∀ c∈(Str.join "." ws).cps.toList,c < 0x110000:=by
  intro ws
  induction ws with
  | nil=>intro _ c hc;cases hc
  | cons a r ih =>
   intro hw c hc
   cases r with
   | nil=>exact hw a List.mem_cons_self c hc
   | cons b r =>
    rw [show Str.join "." (a :: b :: r)=a++"."++Str.join "." (b :: r) from zBu "." (ws:=[a]) (by simp) (by simp),zAj,zAj] at hc
    rcases List.mem_append.mp hc with hc | hc
    ·rcases List.mem_append.mp hc with hc | hc
     ·exact hw a List.mem_cons_self c hc
     ·exact (by decide +kernel:∀ c∈(("." : Str)).cps.toList,c < 0x110000) c hc
    ·exact ih (fun w hw'=>hw w (List.mem_cons_of_mem _ hw')) c hc
 refine key (wordsP p) (zBp (R:=fun w=>∀ c∈w.cps.toList,c < 0x110000) fun x hx=>⟨(zBb _).mp (h.ok x hx).1.2.1,fun c hc=>by have:=zDn hc;omega⟩) c hc
theorem k_own {R F:V→Hp→Prop}{B:Prop} (t:∀ l Hx,F l Hx→R l Hx) (h:(∀ l Hx,F l Hx→R l Hx)→B):B:=h t
theorem zCt {G:Addr→Prop}{H:Hp}:∀ {ks:List Str},(∀ x∈ks,nameOk x)→HasAll G H (ks.map V.str) (ks.map PyData.str)
 | [],_=>.nil
 | k :: r,h=>.cons (.str k (by have:=(h k List.mem_cons_self).2.2;omega) (h k List.mem_cons_self).2.1) (zCt fun x hx=>h x (List.mem_cons_of_mem _ hx))
section
variable {P:Program}{w:World}{K:PySem.W.Frag}{mg:Str→Option Value}{base:Heap}{CX:CXT}
theorem scTg:FnScope ["_law_way", "_law_first"] ["_law_way"] (defScope sTags):=⟨rfl,rfl,rfl,by decide +kernel,rfl,by decide +kernel,by decide +kernel⟩
theorem scFl:FnScope ["_law_source_here", "_law_way", "_law_name_here", "_law_owner", "_law_found", "_law_tag"] ["_law_source_here", "_law_way"] (defScope sLFields):=⟨rfl,rfl,rfl,by decide +kernel,rfl,by decide +kernel,by decide +kernel⟩
theorem ok_tags {f:Addr}{fd:FuncData} (F:Fun K "_law_tags" "_law_tags" sTags f fd):FnOk P w K mg base CX 1 f fd ["_law_way"] spTags:=by
 refine Fun.okC F scTg (fun vs H Q E h=>?_) (fun cdv A outer s H vs Q E hr h=>?_)
 ·obtain ⟨wy,rfl,_⟩:=h
  rfl
 ·obtain ⟨wy,rfl,k⟩:=h
  have nd:=scTg.nd
  refine ⟨_,zA3 (zAe (i:=1) nd rfl (Or.inl rfl) (zAu (zA0 zA6 (zA0 zA6 (zA0 zA6 (zA0 zA6 zA2))))))
   (zA3 (zAp (zAf zB8 (pv 0) zA6 (nomark _)) (zA4 (zAd (zAg zBl (pv 1) (zAu (zA0 zA6 (zA0 zA6 zA2)))))) zAb)
   (zA3 (zAp (zAf zB8 (pv 0) zA6 (nomark _)) (zA4 (zAd (zAg zBl (pv 1) (zAu (zA0 zA6 (zA0 zA6 (zA0 zA6 (zA0 zA6 zA2)))))))) zAb)
   (zA4 (zAd (zAg zBl (pv 1) (zAu (zA0 zA6 (zA0 zA6 zA2)))))))),?_⟩
  have small:∀ n:Nat,n≤1000→n≤sizeLine:=fun n h=>Nat.le_of_lt (small1000 h)
  refine ⟨small 4 (by decide),fun l hl=>?_⟩
  have fin:∀ {ys zs:List V}{l2:Addr},ys.length + zs.length≤1000→(tagsOf wy).map tagV=ys++zs→∀ {l1:Addr},H l1=none→(upd H l1 (.lst ys)) l2=none→rCat (.ref l1) (.ref l2) (upd (upd H l1 (.lst ys)) l2 (.lst zs)) Q:=fun {ys zs l2} hz e {l1} h1 h2 =>
   ⟨l1,l2,ys,zs,rfl,rfl,(Same.new h2) _ _ zA1,zA1,small _ hz,fun p hp=>k p _ ((Same.new h1).free ((Same.new h2).free hp)) (((Same.new h1).trans (Same.new h2)).trans (Same.new hp)) (by rw [e];exact zA1)⟩
  cases wy with
  | make=>exact ⟨_,rfl,rfl,_,rfl,iteBT (by decide +kernel) ⟨_,rfl,small 2 (by decide),fun l2 h2=>fin (by show 6≤1000;decide) rfl hl h2⟩⟩
  | set=>exact ⟨_,rfl,rfl,_,rfl,iteBF (by decide +kernel) ⟨_,rfl,rfl,_,rfl,iteBT (by decide +kernel) ⟨_,rfl,small 4 (by decide),fun l2 h2=>fin (by show 8≤1000;decide) rfl hl h2⟩⟩⟩
  | take=>exact ⟨_,rfl,rfl,_,rfl,iteBF (by decide +kernel) ⟨_,rfl,rfl,_,rfl,iteBF (by decide +kernel) ⟨_,rfl,small 2 (by decide),fun l2 h2=>fin (by show 6≤1000;decide) rfl hl h2⟩⟩⟩
theorem ok_fieldsL {f fn fm fw fu fnm ft:Addr}{fd fdn fdm fdw fdu fdnm fdt:FuncData} (hC:Calm CX) (T:Tops K mg) (F:Fun K "_law_fields" "_law_fields" sLFields f fd) (DM:Def K mg "_law_mixed" sMixed ["_law_cell", "_law_k"] fm fdm) (DN:Def K mg "_law_next" sNext ["_law_source_here", "_law_many"] fn fdn) (DW:Def K mg "_law_word" sWord ["_law_source_here"] fw fdw)
  (DU:Def K mg "_law_number" sNumber ["_law_source_here", "_law_least"] fu fdu) (DA:Def K mg "_law_name" sName ["_law_source_here"] fnm fdnm) (DT:Def K mg "_law_tags" sTags ["_law_way"] ft fdt):FnOk P w K mg base CX 5 f fd ["_law_source_here", "_law_way"] spFieldsL:=by
 have GN:FnOk P w K mg base CX 2 fn fdn ["_law_source_here", "_law_many"] spNext:=zC2 hC DN.fn DM
 have GW:FnOk P w K mg base CX 3 fw fdw ["_law_source_here"] spWordL:=ok_wordL hC T DW.fn DM DN
 have GU:FnOk P w K mg base CX 3 fu fdu ["_law_source_here", "_law_least"] spNumL:=ok_numL hC DU.fn DM DN
 have GA:FnOk P w K mg base CX 4 fnm fdnm ["_law_source_here"] spNameL:=ok_nameL hC T DA.fn DM DN DW
 have GT:FnOk P w K mg base CX 1 ft fdt ["_law_way"] spTags:=ok_tags DT.fn
 refine Fun.okC F scFl (fun vs H Q E h=>?_) (fun cdv A outer s H vs Q E hr h=>?_)
 ·obtain ⟨q,k,wy,rfl,_⟩:=h
  rfl
 ·obtain ⟨q,k,wy,rfl,S0,hk,q1⟩:=h
  have nd:=scFl.nd
  have hr1:=hr.mono (show 1≤4 by decide)
  have hr2:=hr.mono (show 2≤4 by decide)
  have hr3:=hr.mono (show 3≤4 by decide)
  refine ⟨_,zA3 (zAe (i:=2) nd rfl (Or.inl rfl) (zA7 GA hr rfl DA.at_ DA.fn.kp DA.bind .nil (passC hC) (zA0 (pv 0) zA2)))
     (zA3 (zAe (i:=3) nd rfl (Or.inl rfl) pe_non)
     (zA3 (zAp (zAf op_gt (zBr PySem.F.plainAttrs_str PySem.F.slot_str_count PySem.F.type_str_count mt_count (pv 2) (zA0 zA6 zA2)) zA5 (nomark _))
     (zA4 (zAe (i:=3) nd rfl (Or.inl rfl) (zA7 GU hr3 rfl DU.at_ DU.fn.kp DU.bind .nil (passC hC) (zA0 (pv 0) (zA0 zA5 zA2))))) zAb)
     (zA3 (zAe (i:=4) nd rfl (Or.inl rfl) (zAu zA2))
     (zA3 (zCx PassesOwn.never rfl (zBz (zA7 GT hr1 rfl DT.at_ DT.fn.kp DT.bind .nil (passC hC) (zA0 (pv 1) zA2))) (zAx (i:=5) nd rfl (Or.inl rfl))
     (zA4 (zAp (zAf zB8 (pv 5) zA6 (nomark _))
     (zA4 (zAq (zBr PySem.F.plainAttrs_list PySem.F.slot_list_append PySem.F.type_list_append zB2 (pv 4) (zA0 (zA7 GW hr3 rfl DW.at_ DW.fn.kp DW.bind .nil (passC hC) (zA0 (pv 0) zA2)) zA2)))) (zA4 (zAp (zAf zB8 (pv 5) zA6 (nomark _))
     (zA4 (zAq (zBr PySem.F.plainAttrs_list PySem.F.slot_list_append PySem.F.type_list_append zB2 (pv 4) (zA0 (pv 2) zA2)))) (zA4 (zAp (zAf zB8 (pv 5) zA6 (nomark _))
     (zA4 (zAq (zBr PySem.F.plainAttrs_list PySem.F.slot_list_append PySem.F.type_list_append zB2 (pv 4) (zA0 (pv 3) zA2)))) (zA4 (zAp (zAf zB8 (pv 5) zA6 (nomark _))
     (zA4 (zAq (zBr PySem.F.plainAttrs_list PySem.F.slot_list_append PySem.F.type_list_append zB2 (pv 4) (zA0 (zAw zBa rfl T.tuple PyProof.Rows.boot_tuple (zA0 (zBe (T:=["_law_k"]) rfl ScOk.auto (zBc rfl T.range (zA0 (zA7 GN hr2 rfl DN.at_ DN.fn.kp DN.bind .nil (passC hC) (zA0 (pv 0) (zA0 zA5 zA2))) zA2)) (fun _ _ _ _=>zAx (i:=6) (by decide +kernel:(["_law_source_here", "_law_way", "_law_name_here", "_law_owner", "_law_found", "_law_tag", "_law_k"]:List Str).Nodup) rfl (Or.inl rfl)) (fun _ _ _ _=>zC8) (fun _ _ _ _=>(zA7 GW hr3 rfl DW.at_ DW.fn.kp DW.bind .nil (passC hC) (zA0 (pv 0) zA2)))) zA2)) zA2)))) (zA4 (zAq (zBr PySem.F.plainAttrs_list PySem.F.slot_list_append PySem.F.type_list_append zB2 (pv 4) (zA0 (zA7 GU hr3 rfl DU.at_ DU.fn.kp DU.bind .nil (passC hC) (zA0 (pv 0) (zA0 (zAw call_int1 rfl T.int PyProof.Rows.boot_int (zA0 (zB1 op_ne (pv 5) zA6 (nomark _)) zA2)) zA2))) zA2)))))))))))))
     (zA4 (zAd (pv 4))))))),?_⟩
  have small:∀ n:Nat,n≤1000→n≤sizeLine:=fun n h=>Nat.le_of_lt (small1000 h)
  refine ⟨_,rfl,q,k,rfl,S0,by omega,fun p H1 pok S1 f1=>?_⟩
  have xl:=pok.len
  refine ⟨_,rfl,rfl,_,_,rfl,rfl,_,_,rfl,rfl,_,rfl,?_⟩
  have dx:∀ {G:Addr→Prop}{Hx:Hp},Has G Hx (.str (showP p)) (.str (showP p)):=.str _ (by omega) (strOk_showP pok)
  have fx:formD (.str (showP p))=true:=path_form pok
  refine' k_own (F:=fun (ow:V) Hx=>∃ dO,(∀ {G:Addr→Prop}{Hy:Hp},Has G Hy ow dO)∧ownerD (.str (showP p)) dO=true∧Src Hx q (k + 103)∧∀ b o,H b=some o→b≠q→Hx b=some o) _ (fun kk=>_)
  rotate_left 2
  ·by_cases c:1 < Txt.count (showP p) "."
   ·refine iteBT (decide_eq_true (by omega)) ⟨_,rfl,q,_,1,rfl,S1,by omega,by decide,fun n H2 n1 S2 f2=>?_⟩
    generalize e:V.int n=ow
    refine kk ow H2 ⟨.int n,fun {G Hy}=>by rw [← e];exact .int n,?_,S2.mono (by omega),fun b o e nb=>f2 _ _ (f1 _ _ e nb) nb⟩
    show ownerB (showP p) (.int n)=true
    unfold ownerB
    rw [if_pos c]
    exact decide_eq_true n1
   ·refine iteBF (decide_eq_false (by omega)) (kk .non H1 ⟨.none,.non,?_,S1.mono (by omega),f1⟩)
    show ownerB (showP p) .none=true
    unfold ownerB
    rw [if_neg c]
  ·intro ow H2 ⟨dO,hO,oO,S2,f2⟩
   refine ⟨Nat.zero_le _,fun lf hlf=>?_⟩
   have lfq:=S2.ne hlf
   have hlH:H lf=none:=by
    cases z:H lf with
    | none=>rfl
    | some o=>rw [f2 _ _ z lfq] at hlf;cases hlf
   refine ⟨_,rfl,wy,rfl,fun lt H3 hlt s3 et=>?_⟩
   have hf3:H3 lf=some (.lst []):=s3 _ _ zA1
   have tl:lt≠lf:=Ne.symm (zA8 (show (upd H2 lf (.lst [])) lf=some _ from zA1) hlt)
   have S3:Src H3 q (k + 103):=S2.look fun o e=>s3 _ _ ((Same.new hlf) _ _ e)
   have ltq:lt≠q:=by obtain ⟨_,_,_,e',_⟩:=S2;exact Ne.symm (zA8 ((Same.new (o:=.lst []) hlf) _ _ e') hlt)
   have f3:∀ b o,H b=some o→b≠q→H3 b=some o:=fun b o e nb=>s3 _ _ ((Same.new hlf) _ _ (f2 _ _ e nb))
   refine ⟨lt,rfl,⟨_,SqL.of et⟩,for_list (K:=K) (a:=lt) (xs:=(tagsOf wy).map tagV) (fun i σ H'=>∃ (xs:List V) (ds:List PyData) (u5:Option V),σ = [some (.ref q),some (.str wy.nm),some (.str (showP p)),some ow,some (.ref lf),u5]∧H' lf=some (.lst xs)∧H' lt=some (.lst ((tagsOf wy).map tagV))∧HasAll (fun a=>H a=none∧a≠lf) H' xs ds∧ds.length=i ∧
     okAll (some (.str (showP p))) ((tagsOf wy).take i) (ds.map some)=true∧(∀ j,j < i→(tagsOf wy)[j]? = some .thing→ds[j]? = some (.str (showP p)))∧Src H' q (k + 103 + 60 * (i:Int))∧∀ b o,H b=some o→b≠q→H' b=some o)
    ⟨[],[],_,rfl,hf3,et,.nil,rfl,rfl,(fun j h=>absurd h (Nat.not_lt_zero _)),S3.mono (by push_cast;omega),f3⟩ (fun i σ H' _ z=>by obtain ⟨_,_,_,_,_,z,_⟩:=z;exact SqL.of z) ?_ ?_⟩
   ·rintro i y σ H4 hi ⟨xs,ds,u5,rfl,hf4,ht4,hx4,dl,oa,ot,S4,f4⟩
    rw [List.getElem?_map] at hi
    obtain ⟨t,ety,rfl⟩:=Option.map_eq_some_iff.mp hi
    have il:i < 8:=by
     have:=(List.getElem?_eq_some_iff.mp ety).1
     have h8:(tagsOf wy).length≤8:=by cases wy <;> decide
     omega
    have xsl:xs.length=i:=by rw [hx4.length,dl]
    have push:∀ {v:V}{dv:PyData}{H7:Hp},tagB (some (.str (showP p))) t (some dv)=true→(t=.thing→dv=.str (showP p))→Has (fun a=>H a=none∧a≠lf) H7 v dv→H7 lf=some (.lst xs)→H7 lt=some (.lst ((tagsOf wy).map tagV))→HasAll (fun a=>H a=none∧a≠lf) H7 xs ds→Src H7 q (k + 103 + 60 * (i:Int) + 60)→(∀ b o,H b=some o→b≠q→H7 b=some o) →
      rAppend (.ref lf) [v] H7 fun _ H8=>∃ (xs:List V) (ds:List PyData) (u5:Option V),[some (.ref q),some (.str wy.nm),some (.str (showP p)),some ow,some (.ref lf),some (tagV t)]=[some (.ref q),some (.str wy.nm),some (.str (showP p)),some ow,some (.ref lf),u5]∧H8 lf=some (.lst xs)∧H8 lt=some (.lst ((tagsOf wy).map tagV))∧HasAll (fun a=>H a=none∧a≠lf) H8 xs ds∧ds.length=i + 1 ∧
       okAll (some (.str (showP p))) ((tagsOf wy).take (i + 1)) (ds.map some)=true∧(∀ j,j < i + 1→(tagsOf wy)[j]? = some .thing→ds[j]? = some (.str (showP p)))∧Src H8 q (k + 103 + 60 * ((i + 1:Nat):Int))∧∀ b o,H b=some o→b≠q→H8 b=some o:=fun {v dv H7} h1 h2 h3 h4 h5 h6 h7 h8=>by
     refine ⟨lf,xs,v,rfl,rfl,h4,small1000 (by omega),xs++[v],ds++[dv],_,rfl,zA1,by rw [zA9 tl];exact h5,(h6.snoc h3).frame fun b o g e=>⟨g,by rw [zA9 g.2];exact e⟩,by rw [List.length_append,dl];rfl,?_,fun j hj ej=>?_,?_,fun b o e nb=>by rw [zA9 (zA8 e hlH)];exact h8 _ _ e nb⟩
     ·rw [List.take_add_one,ety,List.map_append]
      exact zD0 oa h1
     ·by_cases c:j < i
      ·rw [List.getElem?_append_left (by omega)];exact ot j c ej
      ·obtain rfl:j=i:=by omega
       rw [List.getElem?_append_right (by omega),dl,Nat.sub_self]
       rw [ety] at ej
       rw [h2 (Option.some.inj ej)]
       rfl
     ·exact (h7.look fun o e=>by rw [zA9 (Ne.symm lfq)];exact e).mono (by push_cast;omega)
    have num:∀ {l:Int},0≤l→(∀ n:Int,l≤n→tagB (some (.str (showP p))) t (some (.int n))=true)→t≠.thing→spNumL [.ref q,.int l] H4 (fun v H7=>rAppend (.ref lf) [v] H7 fun _ H8=>∃ (xs:List V) (ds:List PyData) (u5:Option V),[some (.ref q),some (.str wy.nm),some (.str (showP p)),some ow,some (.ref lf),some (tagV t)]=[some (.ref q),some (.str wy.nm),some (.str (showP p)),some ow,some (.ref lf),u5]∧H8 lf=some (.lst xs)∧H8 lt=some (.lst ((tagsOf wy).map tagV))∧HasAll (fun a=>H a=none∧a≠lf) H8 xs ds∧ds.length=i + 1 ∧
       okAll (some (.str (showP p))) ((tagsOf wy).take (i + 1)) (ds.map some)=true∧(∀ j,j < i + 1→(tagsOf wy)[j]? = some .thing→ds[j]? = some (.str (showP p)))∧Src H8 q (k + 103 + 60 * ((i + 1:Nat):Int))∧∀ b o,H b=some o→b≠q→H8 b=some o) (E0 []):=fun {l} l0 h1 h2 =>
     ⟨q,_,l,rfl,S4,by omega,l0,fun n H7 n1 S7 f7=>push (h1 n n1) (fun z=>absurd z h2) (.int n) (f7 _ _ hf4 lfq) (f7 _ _ ht4 ltq) (hx4.frame fun b o g e=>⟨g,f7 _ _ e fun z=>by rw [z] at g;obtain ⟨_,_,_,e',_⟩:=S0;rw [e'] at g;exact nomatch g.1⟩) (S7.mono (by omega)) fun b o e nb=>f7 _ _ (f4 _ _ e nb) nb⟩
    have keep:∀ {H7:Hp},(∀ b o,H4 b=some o→b≠q→H7 b=some o)→HasAll (fun a=>H a=none∧a≠lf) H7 xs ds:=fun h=>hx4.frame fun b o g e=>⟨g,h _ _ e fun z=>by rw [z] at g;obtain ⟨_,_,_,e',_⟩:=S0;rw [e'] at g;exact nomatch g.1⟩
    cases t with
    | word=>exact ⟨_,rfl,rfl,_,rfl,iteBT (by decide +kernel) ⟨_,rfl,.inl ⟨rfl,_,SqL.of hf4⟩,_,rfl,q,_,rfl,S4,by omega,fun x H7 xk S7 f7=>push (dv:=.str x) xk.1 (fun z=>nomatch z) (.str x (by have:=xk.2.2;omega) xk.2.1) (f7 _ _ hf4 lfq) (f7 _ _ ht4 ltq) (keep f7) (S7.mono (by omega)) fun b o e nb=>f7 _ _ (f4 _ _ e nb) nb⟩⟩
    | thing=>exact ⟨_,rfl,rfl,_,rfl,iteBF (by decide +kernel) ⟨_,rfl,rfl,_,rfl,iteBT (by decide +kernel) ⟨_,rfl,.inl ⟨rfl,_,SqL.of hf4⟩,_,rfl,push (dv:=.str (showP p)) fx (fun _=>rfl) dx hf4 ht4 hx4 (S4.mono (by omega)) f4⟩⟩⟩
    | owner=>exact ⟨_,rfl,rfl,_,rfl,iteBF (by decide +kernel) ⟨_,rfl,rfl,_,rfl,iteBF (by decide +kernel) ⟨_,rfl,rfl,_,rfl,iteBT (by decide +kernel) ⟨_,rfl,.inl ⟨rfl,_,SqL.of hf4⟩,_,rfl,push (dv:=dO) oO (fun z=>nomatch z) hO hf4 ht4 hx4 (S4.mono (by omega)) f4⟩⟩⟩⟩
    | number =>
     refine ⟨_,rfl,rfl,_,rfl,iteBF (by decide +kernel) ⟨_,rfl,rfl,_,rfl,iteBF (by decide +kernel) ⟨_,rfl,rfl,_,rfl,iteBF (by decide +kernel) ⟨_,rfl,rfl,_,rfl,iteBF (by decide +kernel) ⟨_,rfl,.inl ⟨rfl,_,SqL.of hf4⟩,_,rfl,_,rfl,rfl,.inr ⟨_,rfl,?_⟩⟩⟩⟩⟩⟩
     rw [show (if (!decide (tagV .number=V.str "wishing"))=true then (1:Int) else 0)=1 from by decide +kernel]
     exact num (by decide) (fun n h=>decide_eq_true h) (fun z=>nomatch z)
    | mark =>
     refine ⟨_,rfl,rfl,_,rfl,iteBF (by decide +kernel) ⟨_,rfl,rfl,_,rfl,iteBF (by decide +kernel) ⟨_,rfl,rfl,_,rfl,iteBF (by decide +kernel) ⟨_,rfl,rfl,_,rfl,iteBF (by decide +kernel) ⟨_,rfl,.inl ⟨rfl,_,SqL.of hf4⟩,_,rfl,_,rfl,rfl,.inr ⟨_,rfl,?_⟩⟩⟩⟩⟩⟩
     rw [show (if (!decide (tagV .mark=V.str "wishing"))=true then (1:Int) else 0)=1 from by decide +kernel]
     exact num (by decide) (fun n h=>decide_eq_true h) (fun z=>nomatch z)
    | wishing =>
     refine ⟨_,rfl,rfl,_,rfl,iteBF (by decide +kernel) ⟨_,rfl,rfl,_,rfl,iteBF (by decide +kernel) ⟨_,rfl,rfl,_,rfl,iteBF (by decide +kernel) ⟨_,rfl,rfl,_,rfl,iteBF (by decide +kernel) ⟨_,rfl,.inl ⟨rfl,_,SqL.of hf4⟩,_,rfl,_,rfl,rfl,.inr ⟨_,rfl,?_⟩⟩⟩⟩⟩⟩
     rw [show (if (!decide (tagV .wishing=V.str "wishing"))=true then (1:Int) else 0)=0 from by decide +kernel]
     exact num (by decide) (fun n h=>decide_eq_true h) (fun z=>nomatch z)
    | state =>
     refine ⟨_,rfl,rfl,_,rfl,iteBF (by decide +kernel) ⟨_,rfl,rfl,_,rfl,iteBF (by decide +kernel) ⟨_,rfl,rfl,_,rfl,iteBF (by decide +kernel) ⟨_,rfl,rfl,_,rfl,iteBT (by decide +kernel) ⟨_,rfl,.inl ⟨rfl,_,SqL.of hf4⟩,_,rfl,q,_,_,rfl,S4,by omega,by decide,by decide,fun r H5 r0 r1 S5 k5=>⟨r,rfl,by omega,by omega,?_⟩⟩⟩⟩⟩⟩
     have f5:∀ b o,H4 b=some o→b≠q→H5 b=some o:=fun b o e nb=>by rw [k5 b nb];exact e
     refine comp_range (fun m ys H'=>∃ ws:List Str,ys=ws.map V.str∧ws.length=m∧(∀ x∈ws,nameOk x)∧Src H' q (k + 103 + 60 * (i:Int) + 1 + 12 * (m:Int))∧∀ b o,H4 b=some o→b≠q→H' b=some o) ⟨[],rfl,rfl,(fun x h=>nomatch h),S5.mono (by push_cast;omega),f5⟩ (fun m ys H' hm z=>?_) ?_ ?_
     ·obtain ⟨ws,rfl,wl,_⟩:=z
      rw [List.length_map]
      exact small _ (by omega)
     ·rintro m ys H' hm ⟨ws,rfl,wl,wok,S6,f6⟩ N hN
      refine pick ?_
      refine ⟨_,rfl,q,_,rfl,S6,by omega,fun x H7 xk S7 f7=>hN _ _ ⟨ws++[x],by rw [List.map_append];rfl,by rw [List.length_append,wl];rfl,fun y hy=>?_,S7.mono (by push_cast;omega),fun b o e nb=>f7 _ _ (f6 _ _ e nb) nb⟩⟩
      rcases List.mem_append.mp hy with hy | hy
      ·exact wok y hy
      ·rw [List.mem_singleton.mp hy];exact xk
     ·rintro ys H' ⟨ws,rfl,wl,wok,S6,f6⟩ c hc
      refine ⟨c,_,rfl,.inl ⟨SqL.of zA1,fun t2 ht2=>?_⟩⟩
      have s7:Same H' (upd (upd H' c (.lst (ws.map V.str))) t2 (.tup (ws.map V.str))):=(Same.new hc).trans (Same.new ht2)
      have e7:(upd (upd H' c (.lst (ws.map V.str))) t2 (.tup (ws.map V.str))) t2=some (.tup (ws.map V.str)):=zA1
      have n7:t2≠q:=(S6.look (H':=upd H' c (.lst (ws.map V.str))) fun o e=>(Same.new hc) _ _ e).ne ht2
      have l7:t2≠lf:=Ne.symm (zA8 ((Same.new (o:=.lst (ws.map V.str)) hc) _ _ (f6 _ _ hf4 lfq)) ht2)
      have h7:H t2=none:=by
       cases z:H t2 with
       | none=>rfl
       | some o=>rw [(Same.new (o:=.lst (ws.map V.str)) hc) _ _ (f6 _ _ (f4 _ _ z n7) n7)] at ht2;cases ht2
      generalize upd (upd H' c (.lst (ws.map V.str))) t2 (.tup (ws.map V.str))=H7 at s7 e7 ⊢
      have f7:∀ b o,H4 b=some o→b≠q→H7 b=some o:=fun b o e nb=>s7 _ _ (f6 _ _ e nb)
      refine push (dv:=.tuple (ws.map PyData.str)) ?_ (fun z=>nomatch z) (.tup ⟨h7,l7⟩ e7 (by rw [List.length_map];omega) (zCt wok)) (f7 _ _ hf4 lfq) (f7 _ _ ht4 ltq) (keep f7) ((S6.look fun o e=>s7 _ _ e).mono (by omega)) fun b o e nb=>f7 _ _ (f4 _ _ e nb) nb
      show (ws.map PyData.str).all nameD=true
      rw [List.all_map]
      exact List.all_eq_true.mpr fun x hx=>(wok x hx).1
   ·rintro σ H4 ⟨xs,ds,u5,rfl,hf4,ht4,hx4,dl,oa,ot,S4,f4⟩
    rw [List.length_map] at dl oa ot S4
    rw [List.take_length] at oa
    refine ⟨_,rfl,q1 lf xs ds H4 hlH hf4 hx4 ?_ (S4.mono ?_) f4⟩
    ·have h3:ds[3]? = some (.str (showP p)):=ot 3 (by have:=zD5 wy;cases wy <;> decide) (zBw wy)
     unfold okF nameAt
     rw [List.getD_eq_getElem?_getD,List.getElem?_map,h3]
     exact oa
    ·have h8:(tagsOf wy).length≤8:=by cases wy <;> decide
     omega
end
end L2.W
namespace L2.W
open PySem My
noncomputable def oddW:List PyData:=[.none,.int 5,.str "",.str "lidlidlid",.str "Box",.str "a b",.list [.str "a"],.str "a1",.str "_",.str "box.0",.tuple [],.bool true]
noncomputable def oddN:List PyData:=[.int 0,.int (-1),.bool true,.bool false,.none,.str "1",.list [.int 1],.tuple [.int 1],.str "",.int (-100000000000)]
noncomputable def oddI:List PyData:=[.int (-1),.bool true,.bool false,.none,.str "0",.list [.int 0],.tuple [],.int (-100000000000)]
noncomputable def oddO:List PyData:=[.int 1,.int 0,.bool true,.bool false,.str "",.tuple [],.int 100000000000]
noncomputable def oddS2:List PyData:=[.int 0,.list [.str "red"]]
noncomputable def oddT1:List PyData:=[.none,.int 5,.str "",.str "box",.str "box.",.str ".0",.str "box.0.",.str "box.00",.str "box.01",.str "box.1000000",.str "Box.0",.str "box.0.lid"]
noncomputable def oddT2:List PyData:=[.str "box.-1",.str "box.+1",.str "box.1_0",.str "box.0 ",.str " box.0",.str "box.0..0",.str "lidlidlid.0",.str "box.a",.str "0.box"]
noncomputable def oddT3:List PyData:=[.list [.str "box.0"],.str "box.0.lid.",.str "box.0.Lid.0",.str "box.0.lid.00",.str ".",.str "..",.str "box,0"]
noncomputable def isNone:PyData→Bool
 | .none=>true
 | _=>false
noncomputable def oddB (t:Tag) (nn:Bool) (o:Option PyData):Prop:=match t with
 | .owner=>if nn then ∃ d,o=some d∧isNone d=false else ∃ d,o=some d∧wholeFrom 1 d=false
 | .state=>stateB o=false
 | t=>(∀ n,tagB n t o=false)∧∃ d,o=some d
noncomputable def spOdd:Sp:=fun vs H Q _=>∃ (q:Addr) (k:Int) (t:Tag) (v:V),vs=[.ref q,.str t.nm,v]∧Src H q k∧k≤900000 ∧
 ∀ (u:V) (o:Option PyData) (H':Hp),HasX H' u o→oddB t (decide (v=.non)) o→Src H' q (k + 1)→(∀ b o,H b=some o→b≠q→H' b=some o)→Q u H'
theorem zD1 {R F:Addr→Hp→Prop}{B:Prop} (t:∀ l Hx,F l Hx→R l Hx) (h:(∀ l Hx,F l Hx→R l Hx)→B):B:=h t
noncomputable def HasQ (q:Addr) (H:Hp) (v:V):Option PyData→Prop
 | some d=>Has (fun a=>a≠q) H v d
 | none=>∃ a,v=.ref a∧a≠q∧H a=some (.dK [])
theorem HasQ.to {q:Addr}{H H':Hp}{v:V}{o:Option PyData} (h:HasQ q H v o) (fr:∀ b,b≠q→∀ o,H b=some o→H' b=some o):HasQ q H' v o:=by
 cases o with
 | some d=>exact (show Has (fun a=>a≠q) H v d from h).frame fun b o g e=>⟨g,fr b g o e⟩
 | none=>obtain ⟨a,e,n,z⟩:=h;exact ⟨a,e,n,fr a n _ z⟩
theorem HasQ.x {q:Addr}{H:Hp}{v:V}{o:Option PyData} (h:HasQ q H v o):HasX H v o:=by
 cases o with
 | some d=>exact Has.any h
 | none=>obtain ⟨a,e,_,z⟩:=h;exact ⟨a,e,z⟩
theorem zBj {q:Addr}{H:Hp}:∀ {xs:List V}{ds:List PyData},HasAll (fun a=>a≠q) H xs ds→Paired (HasQ q H) xs (ds.map some)
 | _,_,.nil=>.nil
 | _,_,.cons h t=>.cons h (zBj t)
theorem zBk {α β : Type}{R : α→β→Prop}:∀ {l:List α}{m:List β}{i:Nat}{a : α},Paired R l m→l[i]? = some a→∃ b,m[i]? = some b∧R a b
 | _,_,_,_,.nil,e=>by simp at e
 | _,_,0,a,.cons r _,e=>by
  cases e
  exact ⟨_,rfl,r⟩
 | _,_,i + 1,a,.cons _ t,e=>by
  obtain ⟨b,h1,h2⟩:=zBk t (by simpa using e)
  exact ⟨b,by simpa using h1,h2⟩
theorem oddW_ok:∀ d∈oddW,nameD d=false:=by decide +kernel
theorem oddN_ok:∀ d∈oddN,wholeFrom 1 d=false:=by decide +kernel
theorem oddI_ok:∀ d∈oddI,wholeFrom 0 d=false:=by decide +kernel
theorem oddO_ok:∀ d∈oddO,isNone d=false:=by decide +kernel
theorem oddT_ok:∀ d∈oddT1++oddT2++oddT3,formD d=false:=by decide +kernel
noncomputable def OddF (H:Hp) (q:Addr) (k:Int) (t:Tag) (v:V) (g:Prop) (l:Addr) (Hx:Hp):Prop:=∃ xs os,Hx l=some (.lst xs)∧Paired (HasQ q Hx) xs os∧(g→∀ o∈os,oddB t (decide (v=.non)) o)∧0 < xs.length∧xs.length≤100∧l≠q∧Same H Hx
theorem OddF.on {H Hx Hy:Hp}{q l:Addr}{k:Int}{t:Tag}{v:V}{g g':Prop} (h:OddF H q k t v g l Hx) (s:Same Hx Hy) (i:g'→g):OddF H q k t v g' l Hy:=by
 obtain ⟨xs,os,a,b,c,d,e,f,z⟩:=h
 exact ⟨xs,os,s _ _ a,Paired.mapP b fun _ _ h=>h.to fun b _ o e=>s b o e,fun h=>c (i h),d,e,f,z.trans s⟩
noncomputable def Tag.of (x:Str):Tag:=if x = "word" then .word else if x = "number" then .number else if x = "wishing" then .wishing else if x = "thing" then .thing else if x = "mark" then .mark else if x = "owner" then .owner else .state
theorem Tag.of_nm (t:Tag):Tag.of t.nm=t:=by cases t <;> kernel_rfl
theorem zCw {t s:Tag}:decide (V.str t.nm=V.str s.nm)=true ↔ t=s:=by
 refine ⟨fun h=>?_,fun h=>by rw [h];exact decide_eq_true rfl⟩
 have e:=of_decide_eq_true h
 injection e with e
 rw [← Tag.of_nm t,e,Tag.of_nm]
theorem tag_no {t s:Tag} (h:¬ t=s):decide (V.str t.nm=V.str s.nm)=false:=by
 cases e:decide (V.str t.nm=V.str s.nm) with
 | false=>rfl
 | true=>exact absurd (zCw.mp e) h
theorem in_num (t:Tag):inV (.str t.nm) [.str "number",.str "mark"]=true ↔ (t=.number∨t=.mark):=by
 cases t <;> first | exact ⟨fun _=>.inl rfl,fun _=>by decide +kernel⟩ | exact ⟨fun _=>.inr rfl,fun _=>by decide +kernel⟩ | exact ⟨fun h=>absurd h (by decide +kernel),fun h=>by rcases h with h | h <;> cases h⟩
section
variable {P:Program}{w:World}{K:PySem.W.Frag}{mg:Str→Option Value}{base:Heap}{CX:CXT}
theorem scOd:FnScope ["_law_source_here", "_law_tag", "_law_field", "_law_some"] ["_law_source_here", "_law_tag", "_law_field"] (defScope sOdd):=⟨rfl,rfl,rfl,by decide +kernel,rfl,by decide +kernel,by decide +kernel⟩
theorem ok_odd {f fn fm:Addr}{fd fdn fdm:FuncData} (hC:Calm CX) (T:Tops K mg) (F:Fun K "_law_odd" "_law_odd" sOdd f fd) (DM:Def K mg "_law_mixed" sMixed ["_law_cell", "_law_k"] fm fdm) (DN:Def K mg "_law_next" sNext ["_law_source_here", "_law_many"] fn fdn):FnOk P w K mg base CX 3 f fd ["_law_source_here", "_law_tag", "_law_field"] spOdd:=by
 have GN:FnOk P w K mg base CX 2 fn fdn ["_law_source_here", "_law_many"] spNext:=zC2 hC DN.fn DM
 refine Fun.okC F scOd (fun vs H Q E h=>?_) (fun cdv A outer s H vs Q E hr h=>?_)
 ·obtain ⟨q,k,t,v,rfl,_⟩:=h
  rfl
 ·obtain ⟨q,k,t,v,rfl,S0,hk,q1⟩:=h
  have nd:=scOd.nd
  refine ⟨_,zA3 (zAe (i:=3) nd rfl (Or.inl rfl) (zAr (d:=.list oddW) 9 (by kernel_rfl)))
     (zA3 (zAp (PW.pt (pw_or (zAf op_in_seq (pv 1) (zBd (zA0 zA6 (zA0 zA6 zA2))) rfl) (pw_or1 (PW.pt (pw_and (zAf zB8 (pv 1) zA6 (nomark _)) (zCh (pt_cmp (zDb (pv 2)))))))))
     (zA4 (zAe (i:=3) nd rfl (Or.inl rfl) (zAr (d:=.list oddN) 9 (by kernel_rfl)))) zAb)
     (zA3 (zAp (zAf zB8 (pv 1) zA6 (nomark _))
     (zA4 (zAe (i:=3) nd rfl (Or.inl rfl) (zAr (d:=.list oddI) 9 (by kernel_rfl)))) zAb)
     (zA3 (zAp (PW.pt (pw_and (zAf zB8 (pv 1) zA6 (nomark _)) (zCh (pt_cmp (pc_isN (pv 2))))))
     (zA4 (zAe (i:=3) nd rfl (Or.inl rfl) (zAr (d:=.list oddO) 9 (by kernel_rfl)))) zAb)
     (zA3 (zAp (zAf zB8 (pv 1) zA6 (nomark _))
     (zA4 (zAe (i:=3) nd rfl (Or.inl rfl) (zAu (zA0 (zAr (d:=.none) 9 (by kernel_rfl)) (zA0 (zAr (d:=.list []) 9 (by kernel_rfl)) (zA0 (zAr (d:=.str "") 9 (by kernel_rfl)) (zA0 (zAr (d:=.str "red") 9 (by kernel_rfl)) (zA0 (zAr (d:=.tuple [.str ""]) 9 (by kernel_rfl)) (zA0 (zAr (d:=.tuple [.str "Red"]) 9 (by kernel_rfl)) (zA0 (zAr (d:=.tuple [.none]) 9 (by kernel_rfl)) (zA0 (zAr (d:=.tuple [.str "red",.int 5]) 9 (by kernel_rfl)) (zA0 (zAr (d:=.tuple [.str "lidlidlid"]) 9 (by kernel_rfl)) (zA0 (zAr (d:=.tuple [.tuple [.str "red"]]) 9 (by kernel_rfl)) (zA0 zD9 (pa_data (ds:=oddS2) 9 (by kernel_rfl)))))))))))))))) zAb)
     (zA3 (zAp (zAf zB8 (pv 1) zA6 (nomark _))
     (zA3 (zAe (i:=3) nd rfl (Or.inl rfl) (zAr (d:=.list oddT1) 9 (by kernel_rfl)))
     (zA3 (zAe (i:=3) nd rfl (Or.inl rfl) (zAg zBl (pv 3) (zAr (d:=.list oddT2) 9 (by kernel_rfl))))
     (zA4 (zAe (i:=3) nd rfl (Or.inl rfl) (zAg zBl (pv 3) (zAr (d:=.list oddT3) 9 (by kernel_rfl))))))) zAb)
     (zA4 (zAd (zAs zAc (pv 3) (zA7 GN hr rfl DN.at_ DN.fn.kp DN.bind .nil (passC hC) (zA0 (pv 0) (zA0 (zAa zB4 rfl T.len PySem.boot_len (zA0 (pv 3) zA2)) zA2))) (fun _ _=>rfl))))))))),?_⟩
  have small:∀ n:Nat,n≤1000→n≤sizeLine:=fun n h=>Nat.le_of_lt (small1000 h)
  have S0':∀ {Hx:Hp},Same H Hx→Src Hx q k:=fun s=>S0.look fun o e=>s _ _ e
  have mk:∀ {l:Addr}{Hb Hc:Hp}{ds:List PyData}{g:Prop},Same H Hb→Same Hb Hc→Has (fun a=>Hb a=none) Hc (.ref l) (.list ds)→0 < ds.length→ds.length≤50→(g→∀ d∈ds,oddB t (decide (v=.non)) (some d))→OddF H q k t v g l Hc:=fun {l Hb Hc ds g} sb sc hd d0 d50 hg=>by
   obtain ⟨l',xs,e,gl,hl,_,hx⟩:=hd.list_inv
   cases e
   have xl:=hx.length
   exact ⟨xs,ds.map some,hl,zBj (hx.frame fun b o g e=>⟨S0.ne (sb.free g),e⟩),fun h o ho=>by obtain ⟨d,hd,rfl⟩:=List.mem_map.mp ho;exact hg h d hd,by omega,by omega,S0.ne (sb.free gl),sb.trans sc⟩
  refine' zD1 (F:=OddF H q k t v (t=.word)) _ (fun kk=>_)
  rotate_left 2
  ·intro u1 H1 s1 h1
   obtain ⟨l1,_,e,_⟩:=id h1.list_inv
   subst e
   exact kk l1 H1 (mk (Same.refl _) s1 h1 (by decide) (by decide) fun e d hd=>by rw [e];exact ⟨fun n=>oddW_ok d hd,d,rfl⟩)
  intro l Hx F0
  have own:∀ {o:Option PyData},t=.owner→(v=.non→∃ d,o=some d∧isNone d=false)→(¬ v=.non→∃ d,o=some d∧wholeFrom 1 d=false)→oddB t (decide (v=.non)) o:=fun {o} e h1 h2=>by
   rw [e]
   show if decide (v=.non)=true then _ else _
   by_cases c:v=.non
   ·rw [decide_eq_true c,if_pos rfl];exact h1 c
   ·rw [decide_eq_false c,if_neg (by decide)];exact h2 c
  refine' zD1 (F:=OddF H q k t v (t=.word∨t=.number∨t=.mark∨(t=.owner∧¬ v=.non))) _ (fun kk=>_)
  rotate_left 2
  ·obtain ⟨_,_,_,_,_,_,_,_,sH⟩:=id F0
   refine ⟨_,rfl,small 2 (by decide),fun t1 ht1=>⟨t1,_,rfl,.inr (SqT.of zA1),rfl,rfl,_,rfl,?_⟩⟩
   have s1:Same Hx (upd Hx t1 (.tup [.str "number",.str "mark"])):=Same.new ht1
   generalize upd Hx t1 (.tup [.str "number",.str "mark"])=H1 at s1 ⊢
   have yes:∀ {Hy:Hp},Same H1 Hy→(t=.number∨t=.mark∨(t=.owner∧¬ v=.non))→∀ (l2:Addr) (H3:Hp),Same Hy H3→Has (fun a=>Hy a=none) H3 (.ref l2) (.list oddN)→OddF H q k t v (t=.word∨t=.number∨t=.mark∨(t=.owner∧¬ v=.non)) l2 H3:=fun {Hy} sy ht l2 H3 s3 h3=>mk ((sH.trans s1).trans sy) s3 h3 (by decide) (by decide) fun _ d hd=>by
    rcases ht with e | e | ⟨e,hv⟩
    ·rw [e];exact ⟨fun n=>oddN_ok d hd,d,rfl⟩
    ·rw [e];exact ⟨fun n=>oddN_ok d hd,d,rfl⟩
    ·exact own e (fun z=>absurd z hv) fun _=>⟨d,rfl,oddN_ok d hd⟩
   by_cases hn:t=.number∨t=.mark
   ·refine iteBT ((in_num t).mpr hn) (iteT fun u2 H3 s3 h3=>?_)
    obtain ⟨l2,_,e,_⟩:=id h3.list_inv
    subst e
    exact kk l2 H3 (yes (Same.refl _) (hn.imp_right .inl) l2 H3 s3 h3)
   ·refine iteBF (by cases e:inV (.str t.nm) [.str "number",.str "mark"] with | false=>rfl | true=>exact absurd ((in_num t).mp e) hn) ⟨_,rfl,rfl,_,rfl,?_⟩
    by_cases ho:t=.owner
    ·refine iteBT (zCw.mpr ho) ⟨_,rfl,_,rfl,?_⟩
     by_cases hv:v=.non
     ·exact iteBF (by rw [decide_eq_true hv];rfl) (kk l H1 (F0.on s1 fun h=>by
       rcases h with h | h | h | h
       ·exact h
       ·exact absurd (.inl h) hn
       ·exact absurd (.inr h) hn
       ·exact absurd hv h.2))
     ·refine iteBT (by rw [decide_eq_false hv];rfl) fun u2 H3 s3 h3=>?_
      obtain ⟨l2,_,e,_⟩:=id h3.list_inv
      subst e
      exact kk l2 H3 (yes (Same.refl _) (.inr (.inr ⟨ho,hv⟩)) l2 H3 s3 h3)
    ·exact iteBF (tag_no ho) (iteF (kk l H1 (F0.on s1 fun h=>by
      rcases h with h | h | h | h
      ·exact h
      ·exact absurd (.inl h) hn
      ·exact absurd (.inr h) hn
      ·exact absurd h.1 ho)))
  clear F0
  intro l Hx F1
  refine' zD1 (F:=OddF H q k t v ((t=.word∨t=.number∨t=.mark∨(t=.owner∧¬ v=.non))∨t=.wishing)) _ (fun kk=>_)
  rotate_left 2
  ·obtain ⟨_,_,_,_,_,_,_,_,sH⟩:=id F1
   refine ⟨_,rfl,rfl,_,rfl,?_⟩
   by_cases hn:t=.wishing
   ·refine iteBT (zCw.mpr hn) fun u2 H3 s3 h3=>?_
    obtain ⟨l2,_,e,_⟩:=id h3.list_inv
    subst e
    exact kk l2 H3 (mk sH s3 h3 (by decide) (by decide) fun _ d hd=>by rw [hn];exact ⟨fun n=>oddI_ok d hd,d,rfl⟩)
   ·exact iteBF (tag_no hn) (kk l Hx (F1.on (Same.refl _) fun h=>h.resolve_right hn))
  clear F1
  intro l Hx F2
  refine' zD1 (F:=OddF H q k t v ((t=.word∨t=.number∨t=.mark∨t=.owner)∨t=.wishing)) _ (fun kk=>_)
  rotate_left 2
  ·obtain ⟨_,_,_,_,_,_,_,_,sH⟩:=id F2
   refine ⟨_,rfl,rfl,_,rfl,?_⟩
   by_cases hn:t=.owner
   ·refine iteBT (zCw.mpr hn) ⟨_,rfl,_,rfl,?_⟩
    by_cases hv:v=.non
    ·refine iteBT (decide_eq_true hv) fun u2 H3 s3 h3=>?_
     obtain ⟨l2,_,e,_⟩:=id h3.list_inv
     subst e
     exact kk l2 H3 (mk sH s3 h3 (by decide) (by decide) fun _ d hd=>own hn (fun _=>⟨d,rfl,oddO_ok d hd⟩) fun z=>absurd hv z)
    ·exact iteBF (decide_eq_false hv) (kk l Hx (F2.on (Same.refl _) fun _=>.inl (.inr (.inr (.inr ⟨hn,hv⟩)))))
   ·exact iteBF (tag_no hn) (iteF (kk l Hx (F2.on (Same.refl _) fun h=>h.imp_left fun h=>by
     rcases h with h | h | h | h
     ·exact .inl h
     ·exact .inr (.inl h)
     ·exact .inr (.inr (.inl h))
     ·exact absurd h hn)))
  clear F2
  intro l Hx F3
  refine' zD1 (F:=OddF H q k t v (¬ t=.thing)) _ (fun kk=>_)
  rotate_left 2
  ·obtain ⟨_,_,_,_,_,_,_,_,sH⟩:=id F3
   refine ⟨_,rfl,rfl,_,rfl,?_⟩
   by_cases hn:t=.state
   ·refine iteBT (zCw.mpr hn) fun a1 H1 s1 h1 a2 H2 s2 h2 a3 H3 s3 h3 a4 H4 s4 h4 a5 H5 s5 h5 a6 H6 s6 h6 a7 H7 s7 h7 a8 H8 s8 h8 a9 H9 s9 h9 a10 H10 s10 h10 dd hdd vs H11 s11 h11=>?_
    have t11:=s11
    have t10:Same H10 H11:=(Same.new hdd).trans s11
    have t9:=s10.trans t10
    have t8:=s9.trans t9
    have t7:=s8.trans t8
    have t6:=s7.trans t7
    have t5:=s6.trans t6
    have t4:=s5.trans t5
    have t3:=s4.trans t4
    have t2:=s3.trans t3
    have t1:=s2.trans t2
    have tx:=s1.trans t1
    have y1:=sH.trans s1
    have y2:=y1.trans s2
    have y3:=y2.trans s3
    have y4:=y3.trans s4
    have y5:=y4.trans s5
    have y6:=y5.trans s6
    have y7:=y6.trans s7
    have y8:=y7.trans s8
    have y9:=y8.trans s9
    have y10:=y9.trans s10
    have vl:vs.length=2:=h11.length
    refine ⟨by show vs.length + 11≤sizeLine;exact small _ (by omega),fun p hp=>?_⟩
    have sp:Same H11 (upd H11 p (.lst (a1 :: a2 :: a3 :: a4 :: a5 :: a6 :: a7 :: a8 :: a9 :: a10 :: .ref dd :: vs))):=Same.new hp
    have ep:(upd H11 p (.lst (a1 :: a2 :: a3 :: a4 :: a5 :: a6 :: a7 :: a8 :: a9 :: a10 :: .ref dd :: vs))) p=some (.lst (a1 :: a2 :: a3 :: a4 :: a5 :: a6 :: a7 :: a8 :: a9 :: a10 :: .ref dd :: vs)):=zA1
    have pq:p≠q:=S0.ne ((sH.trans tx).free hp)
    generalize upd H11 p (.lst (a1 :: a2 :: a3 :: a4 :: a5 :: a6 :: a7 :: a8 :: a9 :: a10 :: .ref dd :: vs))=Hp1 at sp ep ⊢
    have up:∀ {Hy Hz:Hp}{u:V}{du:PyData},Same Hz H11→Same H Hy→Has (fun a=>Hy a=none) Hz u du→HasQ q Hp1 u (some du):=fun sz sy h=>((h.mono sz).mono sp).frame fun b o g e=>⟨S0.ne (sy.free g),e⟩
    refine kk p Hp1 ⟨_,[some .none,some (.list []),some (.str ""),some (.str "red"),some (.tuple [.str ""]),some (.tuple [.str "Red"]),some (.tuple [.none]),some (.tuple [.str "red",.int 5]),some (.tuple [.str "lidlidlid"]),some (.tuple [.tuple [.str "red"]]),none]++oddS2.map some,ep,?_,fun _ o ho=>?_,by show 0 < vs.length + 11;omega,by show vs.length + 11≤100;omega,pq,(sH.trans tx).trans sp⟩
    ·exact .cons (up t1 sH h1) (.cons (up t2 y1 h2) (.cons (up t3 y2 h3) (.cons (up t4 y3 h4) (.cons (up t5 y4 h5) (.cons (up t6 y5 h6) (.cons (up t7 y6 h7) (.cons (up t8 y7 h8) (.cons (up t9 y8 h9) (.cons (up t10 y9 h10) (.cons ⟨dd,rfl,S0.ne (y10.free hdd),sp _ _ (s11 _ _ zA1)⟩ (zBj ((h11.mono sp).frame fun b o g e=>⟨S0.ne ((y10.trans (Same.new hdd)).free g),e⟩))))))))))))
    ·rw [hn]
     show stateB o=false
     revert o
     decide +kernel
   ·refine iteBF (tag_no hn) (kk l Hx (F3.on (Same.refl _) fun h=>?_))
    cases t with
    | word=>exact .inl (.inl rfl)
    | number=>exact .inl (.inr (.inl rfl))
    | wishing=>exact .inr rfl
    | thing=>exact absurd rfl h
    | mark=>exact .inl (.inr (.inr (.inl rfl)))
    | owner=>exact .inl (.inr (.inr (.inr rfl)))
    | state=>exact absurd rfl hn
  clear F3
  intro l Hx F4
  refine' zD1 (F:=OddF H q k t v True) _ (fun kk=>_)
  rotate_left 2
  ·obtain ⟨_,_,_,_,_,_,_,_,sH⟩:=id F4
   refine ⟨_,rfl,rfl,_,rfl,?_⟩
   by_cases hn:t=.thing
   ·refine iteBT (zCw.mpr hn) fun u1 H1 s1 h1=>?_
    obtain ⟨l1,x1,rfl,g1,e1,_,k1⟩:=id h1.list_inv
    refine ⟨_,rfl,fun u2 H2 s2 h2=>?_⟩
    obtain ⟨l2,x2,rfl,g2,e2,_,k2⟩:=id h2.list_inv
    have n1:=k1.length
    have n2:=k2.length
    have m1:oddT1.length=12:=rfl
    have m2:oddT2.length=9:=rfl
    have m3:oddT3.length=7:=rfl
    refine ⟨l1,l2,_,_,rfl,rfl,s2 _ _ e1,e2,small _ (by omega),fun p3 hp3=>?_⟩
    have s3:Same H2 (upd H2 p3 (.lst (x1++x2))):=Same.new hp3
    have e3:(upd H2 p3 (.lst (x1++x2))) p3=some (.lst (x1++x2)):=zA1
    generalize upd H2 p3 (.lst (x1++x2))=H3 at s3 e3 ⊢
    refine ⟨_,rfl,fun u4 H4 s4 h4=>?_⟩
    obtain ⟨l4,x4,rfl,g4,e4,_,k4⟩:=id h4.list_inv
    have n4:=k4.length
    refine ⟨p3,l4,_,_,rfl,rfl,s4 _ _ e3,e4,small _ (by rw [List.length_append];omega),fun p5 hp5=>?_⟩
    have s5:Same H4 (upd H4 p5 (.lst (x1++x2++x4))):=Same.new hp5
    have e5:(upd H4 p5 (.lst (x1++x2++x4))) p5=some (.lst (x1++x2++x4)):=zA1
    have sa:Same H H4:=(((sH.trans s1).trans s2).trans s3).trans s4
    have pq:p5≠q:=S0.ne (sa.free hp5)
    generalize upd H4 p5 (.lst (x1++x2++x4))=H5 at s5 e5 ⊢
    dsimp only [gName]
    simp only [List.set_set]
    refine kk p5 H5 ⟨_,(oddT1++oddT2++oddT3).map some,e5,zBj (((((k1.mono s2).mono s3).mono s4).mono s5 |>.frame fun b o g e=>⟨S0.ne (sH.free g),e⟩).append ((((k2.mono s3).mono s4).mono s5).frame fun b o g e=>⟨S0.ne ((sH.trans s1).free g),e⟩) |>.append ((k4.mono s5).frame fun b o g e=>⟨S0.ne ((((sH.trans s1).trans s2).trans s3).free g),e⟩)),fun _ o ho=>?_,by rw [List.length_append,List.length_append];omega,by rw [List.length_append,List.length_append];omega,pq,sa.trans s5⟩
    obtain ⟨d,hd,rfl⟩:=List.mem_map.mp ho
    rw [hn]
    exact ⟨fun n=>oddT_ok d hd,d,rfl⟩
   ·exact iteBF (tag_no hn) (kk l Hx (F4.on (Same.refl _) fun _=>hn))
  clear F4
  rintro l Hx ⟨xs,os,hl,hp,ho,x0,x100,lq,sH⟩
  refine ⟨_,rfl,_,rfl,_,rfl,l,_,rfl,.inl (SqL.of hl),q,_,_,rfl,S0' sH,by omega,by omega,by omega,fun r H2 r0 r1 S2 k2=>?_⟩
  obtain ⟨j,rfl⟩:∃ j:Nat,r=(j:Int):=⟨r.toNat,by omega⟩
  obtain ⟨u,eu⟩:∃ u,xs[j]? = some u:=⟨_,List.getElem?_eq_getElem (by omega)⟩
  obtain ⟨o,eo,hu⟩:=zBk hp eu
  refine ⟨l,_,(j:Int),_,rfl,rfl,SqL.of (by rw [k2 _ lq];exact hl),zBh eu,q1 u o H2 (hu.to fun b n o e=>by rw [k2 b n];exact e).x (ho trivial o (List.mem_of_getElem? eo)) S2 fun b o e nb=>by rw [k2 b nb];exact sH _ _ e⟩
end
end L2.W
namespace L2.W
open PySem My
structure MkC (K:PySem.W.Frag) (mg:Str→Option Value) (x:Str) (C f:Addr):Prop where
 mkd:Mk K C f
 mgC:mg x=some (.ref C)
noncomputable def Way.cls (CM CS CT:Addr):Way→Addr
 | .make=>CM
 | .set=>CS
 | .take=>CT
noncomputable def Shaped (wy:Way) (os:List (Option PyData)):Prop:=∀ (i:Nat) (t:Tag),(tagsOf wy)[i]? = some t→t=.state∨∃ d,os[i]? = some (some d)
noncomputable def spMadeL (CM CS CT CD:Addr):Sp:=fun vs H Q E=>∃ (wy:Way) (l:Addr) (xs:List V) (os:List (Option PyData)),vs=[.str wy.nm,.ref l]∧H l=some (.lst xs)∧xs.length=wy.size∧Paired (HasX H) xs os∧Shaped wy os ∧
 (okF wy os=true→∀ p dx H',H p=none→Same H H'→H' p=some (.ins (wy.cls CM CS CT) dx (fsOf wy xs))→Q (.ref p) H')∧(okF wy os=false→Rz CD none H E)
theorem Rz.made {CD x dx C:Addr}{H:Hp}{E:XK} (r:Rz CD none H E) (hx:H x=none) (hdx:H dx=none) (ne:dx≠x):Rz CD (some x) (upd (upd H dx (.own x)) x (.ins C dx [])) E:=fun e H' he hx' k=>by
 have hx2:(upd H dx (.own x)) x=none:=by rw [zA9 ne.symm];exact hx
 have s:Same H (upd (upd H dx (.own x)) x (.ins C dx [])):=(Same.new hdx).trans (Same.new hx2)
 exact r e H' (s.free he) hx' fun b o q _=>k b o (s b o q) fun z=>by injection z with z;rw [z,hx] at q;cases q
theorem okF_make {a b c d o:PyData}{s:Option PyData}:okF .make [some a,some b,some c,some d,some o,s]=makeB a b c d o s:=by
 show (nameD a && (wholeFrom 1 b && (wholeFrom 0 c && (formD d && (ownerD d o && (stateB s && true))))))=_
 unfold makeB deedB
 simp [Bool.and_assoc]
theorem okF_set {a b c d m o f v:PyData}:okF .set [some a,some b,some c,some d,some m,some o,some f,some v]=setB a b c d m o f v:=by
 show (nameD a && (wholeFrom 1 b && (wholeFrom 0 c && (formD d && (wholeFrom 1 m && (ownerD d o && (nameD f && (nameD v && true))))))))=_
 unfold setB deedB
 simp [Bool.and_assoc]
theorem okF_take {a b c d m o:PyData}:okF .take [some a,some b,some c,some d,some m,some o]=takeB a b c d m o:=by
 show (nameD a && (wholeFrom 1 b && (wholeFrom 0 c && (formD d && (wholeFrom 1 m && (ownerD d o && true))))))=_
 unfold takeB deedB
 simp [Bool.and_assoc]
theorem zC0 {α β : Type}{R : α→β→Prop}:∀ {l:List α}{m:List β},Paired R l m→l.length=m.length
 | _,_,.nil=>rfl
 | _,_,.cons _ t=>by rw [List.length_cons,List.length_cons,zC0 t]
theorem zAi {wy:Way}{os:List (Option PyData)} (h:Shaped wy os) {i:Nat}{t:Tag}{o:Option PyData} (e:(tagsOf wy)[i]? = some t) (n:t≠.state) (eo:os[i]? = some o):∃ d,o=some d:=by
 rcases h i t e with z | ⟨d,z⟩
 ·exact absurd z n
 ·rw [eo] at z;exact ⟨d,Option.some.inj z⟩
section
variable {P:Program}{w:World}{K:PySem.W.Frag}{mg:Str→Option Value}{base:Heap}
theorem scMdL:FnScope ["_law_way", "_law_fields_here"] ["_law_way", "_law_fields_here"] (defScope sMade):=⟨rfl,rfl,rfl,by decide +kernel,rfl,by decide +kernel,by decide +kernel⟩
theorem ok_madeL {f CM CS CT CD fM fS fT:Addr}{fd dM dS dT:FuncData} (MM:MkC K mg "Make" CM fM) (MS:MkC K mg "Set" CS fS) (MT:MkC K mg "Take" CT fT)
  (GM:FnOk P w K mg base (CXM P w) 5 fM dM ["self", "hand", "number", "wishing", "name", "owner_mark", "state"] (spMakeI CM CD)) (GS:FnOk P w K mg base (CXM P w) 5 fS dS ["self", "hand", "number", "wishing", "name", "mark", "owner_mark", "field", "value"] (spSetI CS CD)) (GT:FnOk P w K mg base (CXM P w) 5 fT dT ["self", "hand", "number", "wishing", "name", "mark", "owner_mark"] (spTakeI CT CD))
  (bM:Binds K dM ["self", "hand", "number", "wishing", "name", "owner_mark", "state"] []) (bS:Binds K dS ["self", "hand", "number", "wishing", "name", "mark", "owner_mark", "field", "value"] []) (bT:Binds K dT ["self", "hand", "number", "wishing", "name", "mark", "owner_mark"] [])
  (F:Fun K "_law_made" "_law_made" sMade f fd):FnOk P w K mg base (CXM P w) 7 f fd ["_law_way", "_law_fields_here"] (spMadeL CM CS CT CD):=by
 refine Fun.okX F scMdL (fun vs H Q E h=>?_) (fun cdv A outer s H vs Q E hr h=>?_)
 ·obtain ⟨wy,l,xs,os,rfl,_⟩:=h
  rfl
 ·obtain ⟨wy,l,xs,os,rfl,hl,xl,hp,sh,k1,k2⟩:=h
  refine ⟨_,zA3 (zAp (zAf zB8 (pv 0) zA6 (nomark _))
     (zA4 (zAd (zCj MM.mkd GM hr rfl MM.mgC bM .nil zAy (zA0 (zAs zAc (pv 1) zA5 (fun _ _=>rfl)) (zA0 (zAs zAc (pv 1) zA5 (fun _ _=>rfl)) (zA0 (zAs zAc (pv 1) zA5 (fun _ _=>rfl)) (zA0 (zAs zAc (pv 1) zA5 (fun _ _=>rfl)) (zA0 (zAs zAc (pv 1) zA5 (fun _ _=>rfl)) (zA0 (zAs zAc (pv 1) zA5 (fun _ _=>rfl)) zA2))))))))) zAb)
     (zA3 (zAp (zAf zB8 (pv 0) zA6 (nomark _))
     (zA4 (zAd (zCj MS.mkd GS hr rfl MS.mgC bS .nil zAy (zA0 (zAs zAc (pv 1) zA5 (fun _ _=>rfl)) (zA0 (zAs zAc (pv 1) zA5 (fun _ _=>rfl)) (zA0 (zAs zAc (pv 1) zA5 (fun _ _=>rfl)) (zA0 (zAs zAc (pv 1) zA5 (fun _ _=>rfl)) (zA0 (zAs zAc (pv 1) zA5 (fun _ _=>rfl)) (zA0 (zAs zAc (pv 1) zA5 (fun _ _=>rfl)) (zA0 (zAs zAc (pv 1) zA5 (fun _ _=>rfl)) (zA0 (zAs zAc (pv 1) zA5 (fun _ _=>rfl)) zA2))))))))))) zAb)
     (zA4 (zAd (zCj MT.mkd GT hr rfl MT.mgC bT .nil zAy (zA0 (zAs zAc (pv 1) zA5 (fun _ _=>rfl)) (zA0 (zAs zAc (pv 1) zA5 (fun _ _=>rfl)) (zA0 (zAs zAc (pv 1) zA5 (fun _ _=>rfl)) (zA0 (zAs zAc (pv 1) zA5 (fun _ _=>rfl)) (zA0 (zAs zAc (pv 1) zA5 (fun _ _=>rfl)) (zA0 (zAs zAc (pv 1) zA5 (fun _ _=>rfl)) zA2)))))))))),?_⟩
  have L:SqL K H l xs:=SqL.of hl
  cases wy with
  | make =>
   obtain ⟨a,b,c,d,o,st,rfl⟩:=len6 xl
   refine ⟨_,rfl,rfl,_,rfl,iteBT (by decide +kernel) ?_⟩
   refine ⟨_,rfl,l,_,0,_,rfl,rfl,L,rfl,_,rfl,l,_,1,_,rfl,rfl,L,rfl,_,rfl,l,_,2,_,rfl,rfl,L,rfl,_,rfl,l,_,3,_,rfl,rfl,L,rfl,_,rfl,l,_,4,_,rfl,rfl,L,rfl,_,rfl,l,_,5,_,rfl,rfl,L,rfl,?_⟩
   intro x dx hx hdx hne
   have hx2:(upd H dx (.own x)) x=none:=by rw [zA9 hne.symm];exact hx
   have sn:Same H (upd (upd H dx (.own x)) x (.ins CM dx [])):=(Same.new hdx).trans (Same.new hx2)
   cases hp with
   | @cons _ oa _ _ h1 hp=>cases hp with
    | @cons _ ob _ _ h2 hp=>cases hp with
     | @cons _ oc _ _ h3 hp=>cases hp with
      | @cons _ od _ _ h4 hp=>cases hp with
       | @cons _ oo _ _ h5 hp=>cases hp with
        | @cons _ os _ _ h6 hp=>cases hp with
         | nil =>
          obtain ⟨da,rfl⟩:=zAi sh (i:=0) rfl (fun z=>nomatch z) rfl
          obtain ⟨db,rfl⟩:=zAi sh (i:=1) rfl (fun z=>nomatch z) rfl
          obtain ⟨dc,rfl⟩:=zAi sh (i:=2) rfl (fun z=>nomatch z) rfl
          obtain ⟨dd,rfl⟩:=zAi sh (i:=3) rfl (fun z=>nomatch z) rfl
          obtain ⟨dO,rfl⟩:=zAi sh (i:=4) rfl (fun z=>nomatch z) rfl
          rw [okF_make] at k1 k2
          exact ⟨x,dx,a,b,c,d,o,st,da,db,dc,dd,dO,os,rfl,zA1,Has.mono h1 sn,Has.mono h2 sn,Has.mono h3 sn,Has.mono h4 sn,Has.mono h5 sn,h6.mono sn,fun e H' hp' fr=>⟨rfl,k1 e x dx H' hx (fun b o q=>fr b o (sn _ _ q) (zA8 q hx)) hp'⟩,fun e=>(k2 e).made hx hdx hne⟩
  | set =>
   obtain ⟨a,b,c,d,m,o,fl,va,rfl⟩:=len8 xl
   refine ⟨_,rfl,rfl,_,rfl,iteBF (by decide +kernel) ⟨_,rfl,rfl,_,rfl,iteBT (by decide +kernel) ?_⟩⟩
   refine ⟨_,rfl,l,_,0,_,rfl,rfl,L,rfl,_,rfl,l,_,1,_,rfl,rfl,L,rfl,_,rfl,l,_,2,_,rfl,rfl,L,rfl,_,rfl,l,_,3,_,rfl,rfl,L,rfl,_,rfl,l,_,4,_,rfl,rfl,L,rfl,_,rfl,l,_,5,_,rfl,rfl,L,rfl,_,rfl,l,_,6,_,rfl,rfl,L,rfl,_,rfl,l,_,7,_,rfl,rfl,L,rfl,?_⟩
   intro x dx hx hdx hne
   have hx2:(upd H dx (.own x)) x=none:=by rw [zA9 hne.symm];exact hx
   have sn:Same H (upd (upd H dx (.own x)) x (.ins CS dx [])):=(Same.new hdx).trans (Same.new hx2)
   obtain ⟨oa,ob,oc,od,om,oo,of,ov,rfl⟩:=len8 ((zC0 hp).symm.trans xl)
   obtain ⟨da,rfl⟩:=zAi sh (i:=0) rfl (fun z=>nomatch z) rfl
   obtain ⟨db,rfl⟩:=zAi sh (i:=1) rfl (fun z=>nomatch z) rfl
   obtain ⟨dc,rfl⟩:=zAi sh (i:=2) rfl (fun z=>nomatch z) rfl
   obtain ⟨dd,rfl⟩:=zAi sh (i:=3) rfl (fun z=>nomatch z) rfl
   obtain ⟨dm,rfl⟩:=zAi sh (i:=4) rfl (fun z=>nomatch z) rfl
   obtain ⟨dO,rfl⟩:=zAi sh (i:=5) rfl (fun z=>nomatch z) rfl
   obtain ⟨df,rfl⟩:=zAi sh (i:=6) rfl (fun z=>nomatch z) rfl
   obtain ⟨dv,rfl⟩:=zAi sh (i:=7) rfl (fun z=>nomatch z) rfl
   have at_:∀ (i:Nat) {v:V}{dw:PyData},[a,b,c,d,m,o,fl,va][i]? = some v→[some da,some db,some dc,some dd,some dm,some dO,some df,some dv][i]? = some (some dw)→Has Any (upd (upd H dx (.own x)) x (.ins CS dx [])) v dw:=fun i {v dw} e1 e2=>by
    obtain ⟨o',e3,h3⟩:=zBk hp e1
    rw [e2] at e3
    cases e3
    exact Has.mono h3 sn
   rw [okF_set] at k1 k2
   exact ⟨x,dx,a,b,c,d,m,o,fl,va,da,db,dc,dd,dm,dO,df,dv,rfl,zA1,at_ 0 rfl rfl,at_ 1 rfl rfl,at_ 2 rfl rfl,at_ 3 rfl rfl,at_ 4 rfl rfl,at_ 5 rfl rfl,at_ 6 rfl rfl,at_ 7 rfl rfl,fun e H' hp' fr=>⟨rfl,k1 e x dx H' hx (fun b o q=>fr b o (sn _ _ q) (zA8 q hx)) hp'⟩,fun e=>(k2 e).made hx hdx hne⟩
  | take =>
   obtain ⟨a,b,c,d,m,o,rfl⟩:=len6 xl
   refine ⟨_,rfl,rfl,_,rfl,iteBF (by decide +kernel) ⟨_,rfl,rfl,_,rfl,iteBF (by decide +kernel) ?_⟩⟩
   refine ⟨_,rfl,l,_,0,_,rfl,rfl,L,rfl,_,rfl,l,_,1,_,rfl,rfl,L,rfl,_,rfl,l,_,2,_,rfl,rfl,L,rfl,_,rfl,l,_,3,_,rfl,rfl,L,rfl,_,rfl,l,_,4,_,rfl,rfl,L,rfl,_,rfl,l,_,5,_,rfl,rfl,L,rfl,?_⟩
   intro x dx hx hdx hne
   have hx2:(upd H dx (.own x)) x=none:=by rw [zA9 hne.symm];exact hx
   have sn:Same H (upd (upd H dx (.own x)) x (.ins CT dx [])):=(Same.new hdx).trans (Same.new hx2)
   obtain ⟨oa,ob,oc,od,om,oo,rfl⟩:=len6 ((zC0 hp).symm.trans xl)
   obtain ⟨da,rfl⟩:=zAi sh (i:=0) rfl (fun z=>nomatch z) rfl
   obtain ⟨db,rfl⟩:=zAi sh (i:=1) rfl (fun z=>nomatch z) rfl
   obtain ⟨dc,rfl⟩:=zAi sh (i:=2) rfl (fun z=>nomatch z) rfl
   obtain ⟨dd,rfl⟩:=zAi sh (i:=3) rfl (fun z=>nomatch z) rfl
   obtain ⟨dm,rfl⟩:=zAi sh (i:=4) rfl (fun z=>nomatch z) rfl
   obtain ⟨dO,rfl⟩:=zAi sh (i:=5) rfl (fun z=>nomatch z) rfl
   have at_:∀ (i:Nat) {v:V}{dw:PyData},[a,b,c,d,m,o][i]? = some v→[some da,some db,some dc,some dd,some dm,some dO][i]? = some (some dw)→Has Any (upd (upd H dx (.own x)) x (.ins CT dx [])) v dw:=fun i {v dw} e1 e2=>by
    obtain ⟨o',e3,h3⟩:=zBk hp e1
    rw [e2] at e3
    cases e3
    exact Has.mono h3 sn
   rw [okF_take] at k1 k2
   exact ⟨x,dx,a,b,c,d,m,o,da,db,dc,dd,dm,dO,rfl,zA1,at_ 0 rfl rfl,at_ 1 rfl rfl,at_ 2 rfl rfl,at_ 3 rfl rfl,at_ 4 rfl rfl,at_ 5 rfl rfl,fun e H' hp' fr=>⟨rfl,k1 e x dx H' hx (fun b o q=>fr b o (sn _ _ q) (zA8 q hx)) hp'⟩,fun e=>(k2 e).made hx hdx hne⟩
structure RefsD (K:PySem.W.Frag) (mg:Str→Option Value) (CD CR c1 c2 c3 c4 c5 c6 c7 c8 c9 c10 c11 c12 c13:Addr):Prop where
 x:XCls K CD
 at_:mg "NoDeed" = some (.ref CD)
 rest:mg "RestError" = some (.ref CR)
 ve:mg "ValueError" = none
 exm:PySem.W.exmOne K (.ref CD) (.ref CR)=some true
 own:PySem.W.kitOne K (.ref CD) (.ref CD)=some true
 val:PySem.W.kitOne K (.ref CD) (.type "ValueError")=some true
 n1:mg "NoKind" = some (.ref c1)
 n2:mg "TooMany" = some (.ref c2)
 n3:mg "NoName" = some (.ref c3)
 n4:mg "NoWish" = some (.ref c4)
 n5:mg "NoLimit" = some (.ref c5)
 n6:mg "NoState" = some (.ref c6)
 n7:mg "NoPlace" = some (.ref c7)
 n8:mg "NoRule" = some (.ref c8)
 n9:mg "NoStep" = some (.ref c9)
 n10:mg "NoSituation" = some (.ref c10)
 n11:mg "NoRound" = some (.ref c11)
 n12:mg "NoText" = some (.ref c12)
 n13:mg "NoRow" = some (.ref c13)
 nine:PySem.W.kitAny K (.ref CD) ([c1,c2,c3,c4,c5,c6,c7,c8,c9].map Value.ref)=some false
 four:PySem.W.kitAny K (.ref CD) ([c10,c11,c12,c13].map Value.ref)=some false
noncomputable def spRefused:Sp:=fun vs H Q _=>∃ (wy:Way) (l:Addr) (xs:List V) (os:List (Option PyData)),vs=[.str wy.nm,.ref l]∧H l=some (.lst xs)∧xs.length=wy.size∧Paired (HasX H) xs os∧Shaped wy os∧okF wy os=false∧∀ H',Same H H'→Q (.str "refused") H'
theorem scRf:FnScope ["_law_way", "_law_fields_here", "_law_word_here", "_law_others", "e"] ["_law_way", "_law_fields_here"] (defScope sRefused):=⟨rfl,rfl,rfl,by decide +kernel,rfl,by decide +kernel,by decide +kernel⟩
theorem ok_refused {f fm CM CS CT CD CR c1 c2 c3 c4 c5 c6 c7 c8 c9 c10 c11 c12 c13:Addr}{fd fdm:FuncData} (T:Tops K mg) (R:RefsD K mg CD CR c1 c2 c3 c4 c5 c6 c7 c8 c9 c10 c11 c12 c13) (F:Fun K "_law_refused" "_law_refused" sRefused f fd) (DM:Def K mg "_law_made" sMade ["_law_way", "_law_fields_here"] fm fdm)
  (GM:FnOk P w K mg base (CXM P w) 7 fm fdm ["_law_way", "_law_fields_here"] (spMadeL CM CS CT CD)):FnOk P w K mg base (CXM P w) 8 f fd ["_law_way", "_law_fields_here"] spRefused:=by
 refine Fun.okX F scRf (fun vs H Q E h=>?_) (fun cdv A outer s H vs Q E hr h=>?_)
 ·obtain ⟨wy,l,xs,os,rfl,_⟩:=h
  rfl
 ·obtain ⟨wy,l,xs,os,rfl,hl,xl,hp,sh,bad,k⟩:=h
  have nd:=scRf.nd
  refine ⟨_,zA3 (zAe (i:=2) nd rfl (Or.inl rfl) zA6)
     (zA3 (ps_try (i:=4) (B:=CR) rfl rfl rfl nd rfl rfl rfl R.rest (fun pins W=>(zA4 (zAq (zA7 GM hr rfl DM.at_ DM.fn.kp DM.bind .nil (pass_try rfl) (zA0 (pv 0) (zA0 (pv 1) zA2))))))
     (fun e=>(zA3 (zAe (i:=3) nd rfl (Or.inl rfl) (zAa (zCc (K:=K) rfl) rfl T.isinst PyProof.Rows.boot_isinstance (zA0 (pv 4) (zA0 (zBd (zA0 (zAh (v:=(.ref c1)) rfl R.n1 rfl) (zA0 (zAh (v:=(.ref c2)) rfl R.n2 rfl) (zA0 (zAh (v:=(.ref c3)) rfl R.n3 rfl) (zA0 (zAh (v:=(.ref c4)) rfl R.n4 rfl) (zA0 (zAh (v:=(.ref c5)) rfl R.n5 rfl) (zA0 (zAh (v:=(.ref c6)) rfl R.n6 rfl) (zA0 (zAh (v:=(.ref c7)) rfl R.n7 rfl) (zA0 (zAh (v:=(.ref c8)) rfl R.n8 rfl) (zA0 (zAh (v:=(.ref c9)) rfl R.n9 rfl) zA2)))))))))) zA2))))
     (zA3 (zAe (i:=3) nd rfl (Or.inl rfl) (pe_or (pv 3) (pe_or (zAa (zCc (K:=K) rfl) rfl T.isinst PyProof.Rows.boot_isinstance (zA0 (pv 4) (zA0 (zBd (zA0 (zAh (v:=(.ref c10)) rfl R.n10 rfl) (zA0 (zAh (v:=(.ref c11)) rfl R.n11 rfl) (zA0 (zAh (v:=(.ref c12)) rfl R.n12 rfl) (zA0 (zAh (v:=(.ref c13)) rfl R.n13 rfl) zA2))))) zA2))) (zC9 (pe_not (zAa (zCb (K:=K) rfl) rfl T.isinst PyProof.Rows.boot_isinstance (zA0 (pv 4) (zA0 (zB7 (v:=.ty "ValueError") rfl R.ve (by decide +kernel) rfl) zA2))))))))
     (zA4 (zAe (i:=2) nd rfl (Or.inl rfl) (zAs zAc (zAu (zA0 zA6 (zA0 zA6 zA2))) (zAw call_int1 rfl T.int PyProof.Rows.boot_int (zA0 (pe_or (pv 3) (zC9 (pe_not (zAa (zCb (K:=K) rfl) rfl T.isinst PyProof.Rows.boot_isinstance (zA0 (pv 4) (zA0 (zAh (v:=.ref CD) rfl R.at_ rfl) zA2)))))) zA2)) (fun _ _=>rfl))))))))
     (zA4 (zAd (pv 2)))),?_⟩
  refine ⟨fun σ' e C' H'=>σ'=[some (.str wy.nm),some (.ref l),some (.str ""),none,none]∧Same H H'∧C'=CD,?_,?_⟩
  ·exact ⟨_,rfl,_,rfl,wy,l,xs,os,rfl,hl,xl,hp,sh,(fun e=>absurd (e.symm.trans bad) (by decide)),fun _ e H' he hx fr=>⟨e,CD,rfl,rfl,rfl,(fun b o q=>fr b o q fun z=>nomatch z),rfl⟩⟩
  ·rintro σ' e C' H' he ⟨rfl,s1,rfl⟩
   refine ⟨R.exm,?_⟩
   have nine:(9:Nat)≤sizeLine:=Nat.le_of_lt (small1000 (by decide))
   refine ⟨_,rfl,nine,fun t1 ht1=>⟨e,C',t1,[c1,c2,c3,c4,c5,c6,c7,c8,c9],false,rfl,(Same.new ht1) _ _ he,R.x,zA1,R.nine,?_⟩⟩
   have s2:=s1.trans (Same.new (o:=.tup ([c1,c2,c3,c4,c5,c6,c7,c8,c9].map V.ref)) ht1)
   have he2:=(Same.new (o:=.tup ([c1,c2,c3,c4,c5,c6,c7,c8,c9].map V.ref)) ht1) _ _ he
   refine ⟨_,rfl,_,rfl,iteF ⟨_,rfl,by show 4≤sizeLine;omega,fun t2 ht2=>⟨e,C',t2,[c10,c11,c12,c13],false,rfl,(Same.new ht2) _ _ he2,R.x,zA1,R.four,_,rfl,iteF ?_⟩⟩⟩
   have s3:=s2.trans (Same.new (o:=.tup ([c10,c11,c12,c13].map V.ref)) ht2)
   have he3:=(Same.new (o:=.tup ([c10,c11,c12,c13].map V.ref)) ht2) _ _ he2
   refine ⟨_,rfl,e,_,_,.type "ValueError",true,rfl,he3,R.x,rfl,R.val,(fun _=>⟨_,rfl⟩),_,rfl,?_⟩
   refine ⟨by show 2≤sizeLine;omega,fun t4 ht4=>?_⟩
   refine ⟨_,rfl,_,rfl,iteF ⟨_,rfl,e,_,_,.ref C',true,rfl,(Same.new ht4) _ _ he3,R.x,rfl,R.own,(fun z=>absurd rfl (z C')),_,rfl,.inr ⟨_,rfl,?_⟩⟩⟩
   exact ⟨t4,_,0,_,rfl,rfl,SqL.of zA1,rfl,⟨_,rfl,k _ (s3.trans (Same.new ht4))⟩⟩
end
end L2.W
namespace L2.W
open PySem My
theorem zC3 {G G':Addr→Prop}{H:Hp}{x y:V}{Q:VK}{d:PyData} (hx:Has G H x d) (hy:Has G' H y d) (hd:d.depth≤64) (q:Q (.bl false) H):rNeD x y H Q:=⟨d,d,hx.any,hy.any,hd,hd,by rw [hx.eqv];exact q⟩
theorem zC5 {G G':Addr→Prop}{H:Hp}{x y:V}{Q:VK}{d:PyData} (hx:Has G H x d) (hy:Has G' H y d) (hd:d.depth≤64) (q:Q (.bl true) H):rEqD x y H Q:=⟨d,d,hx.any,hy.any,hd,hd,by rw [hx.eqv];exact q⟩
theorem depths:∀ {ds:List PyData},(∀ d∈ds,d.depth≤3)→PyData.depthAll ds≤3
 | [],_=>by decide
 | d :: r,h=>by
  have h1:=h d List.mem_cons_self
  have h2:=depths fun x hx=>h x (List.mem_cons_of_mem _ hx)
  show max d.depth (PyData.depthAll r)≤3
  omega
structure IsD (K:PySem.W.Frag) (CM CS CT CDd C:Addr) (wy:Way):Prop where
 fc:FCls K C
 ha:PySem.W.findIn K (.ref C) "__class__" = some (some (.builtin "object.__class__"))
 hn:PySem.W.specialIn K (.builtin "object.__class__") "__get__" = some (some (.builtin "getset_descriptor.__get__"))
 htk:PySem.W.takesIn K (.builtin "object.__class__")=some true
 hm:PySem.W.mroIn K C (.type "object")=some true
 kM:PySem.W.kitOne K (.ref C) (.ref CM)=some (match wy with | .make=>true | _=>false)
 kS:PySem.W.kitOne K (.ref C) (.ref CS)=some (match wy with | .set=>true | _=>false)
 kT:PySem.W.kitOne K (.ref C) (.ref CT)=some (match wy with | .take=>true | _=>false)
 kD:PySem.W.kitOne K (.ref C) (.ref CDd)=some true
structure PtD (P:Program) (w:World) (K:PySem.W.Frag) (mg:Str→Option Value) (base:Heap) (C:Addr) (wy:Way) (f:Addr) (fd:FuncData):Prop where
 mt:Meth K C "parts" f
 G:FnOk P w K mg base (CXM P w) 1 f fd ["self"] (spPts C wy)
 b:Binds K fd ["self"] []
noncomputable def spRight (CM CS CT:Addr):Sp:=fun vs H Q _=>∃ (wy:Way) (p dx l:Addr) (xs:List V) (ds:List PyData),vs=[.str wy.nm,.ref p,.ref l]∧xs.length=wy.size∧H p=some (.ins (wy.cls CM CS CT) dx (fsOf wy xs))∧H l=some (.lst xs)∧HasAll Any H xs ds∧(∀ d∈ds,d.depth≤3)∧∀ H',Same H H'→Q (.bl true) H'
theorem fs_no {wy:Way}{xs:List V}{m:Str} (h1:¬ m = "hand") (h2:¬ m = "number") (h3:¬ m = "wishing") (h4:¬ m = "name") (h5:¬ m = "mark") (h6:¬ m = "owner_mark") (h7:¬ m = "state") (h8:¬ m = "field") (h9:¬ m = "value") (hl:xs.length=wy.size):(fsOf wy xs).lookup m=none:=by
 have dn:∀ a b c d:V,(dF a b c d).lookup m=none:=fun a b c d=>(lkN h4).trans ((lkN h3).trans ((lkN h2).trans (lkN h1)))
 have tn:∀ a b c d e o:V,(tF a b c d e o).lookup m=none:=fun a b c d e o=>(lkN h6).trans ((lkN h5).trans (dn _ _ _ _))
 cases wy with
 | make=>obtain ⟨_,_,_,_,_,_,rfl⟩:=len6 hl;exact (lkN h7).trans ((lkN h6).trans (dn _ _ _ _))
 | set=>obtain ⟨_,_,_,_,_,_,_,_,rfl⟩:=len8 hl;exact (lkN h9).trans ((lkN h8).trans (tn _ _ _ _ _ _))
 | take=>obtain ⟨_,_,_,_,_,_,rfl⟩:=len6 hl;exact tn _ _ _ _ _ _
theorem zD2 {R:Hp→Prop}{H H':Hp} (s:Same H H') (h:∀ Hx,Same H Hx→R Hx):R H':=h H' s
theorem k_heap2 {R:Hp→Prop}{H H':Hp}{l:Addr}{o:HO} (s:Same H H') (e:H' l=some o) (h:∀ Hx,Same H Hx→Hx l=some o→R Hx):R H':=h H' s e
section
variable {P:Program}{w:World}{K:PySem.W.Frag}{mg:Str→Option Value}{base:Heap}
theorem scRt:FnScope ["_law_way", "_law_made_here", "_law_fields_here", "_law_kinds", "_law_found"] ["_law_way", "_law_made_here", "_law_fields_here"] (defScope sRight):=⟨rfl,rfl,rfl,by decide +kernel,rfl,by decide +kernel,by decide +kernel⟩
theorem ok_right {f CM CS CT CDd:Addr}{fP:Way→Addr}{fd:FuncData}{dP:Way→FuncData} (T:Tops K mg) (m1:mg "Make" = some (.ref CM)) (m2:mg "Set" = some (.ref CS)) (m3:mg "Take" = some (.ref CT)) (m4:mg "Deed" = some (.ref CDd)) (I:∀ wy:Way,IsD K CM CS CT CDd (wy.cls CM CS CT) wy) (PT':∀ wy:Way,PtD P w K mg base (wy.cls CM CS CT) wy (fP wy) (dP wy))
  (F:Fun K "_law_right" "_law_right" sRight f fd):FnOk P w K mg base (CXM P w) 2 f fd ["_law_way", "_law_made_here", "_law_fields_here"] (spRight CM CS CT):=by
 refine Fun.okX F scRt (fun vs H Q E h=>?_) (fun cdv A outer s H vs Q E hr h=>?_)
 ·obtain ⟨wy,p,dx,l,xs,ds,rfl,_⟩:=h
  rfl
 ·obtain ⟨wy,p,dx,l,xs,ds,rfl,xl,hp,hl,hx,dep,k⟩:=h
  have nd:=scRt.nd
  have J:=I wy
  have PP:=PT' wy
  have FC:=J.fc
  have FCcl:=FC.dc.cl
  refine ⟨_,zA3 (zAe (i:=3) nd rfl (Or.inl rfl) (zAu (zA0 (zAa zAn rfl T.isinst PyProof.Rows.boot_isinstance (zA0 (pv 1) (zA0 (zAh (v:=.ref CM) rfl m1 rfl) zA2))) (zA0 (zAa zAn rfl T.isinst PyProof.Rows.boot_isinstance (zA0 (pv 1) (zA0 (zAh (v:=.ref CS) rfl m2 rfl) zA2))) (zA0 (zAa zAn rfl T.isinst PyProof.Rows.boot_isinstance (zA0 (pv 1) (zA0 (zAh (v:=.ref CT) rfl m3 rfl) zA2))) (zA0 (zAa zAn rfl T.isinst PyProof.Rows.boot_isinstance (zA0 (pv 1) (zA0 (zAh (v:=.ref CDd) rfl m4 rfl) zA2))) zA2))))))
     (zA3 (zAp (zAf (op_neD hr.units) (pv 3) (zAu (zA0 (zB1 zB8 (pv 0) zA6 (nomark _)) (zA0 (zB1 zB8 (pv 0) zA6 (nomark _)) (zA0 (zB1 zB8 (pv 0) zA6 (nomark _)) (zA0 zBn zA2))))) (nomark _))
     (zA4 (zAd zBn)) zAb)
     (zA3 (zAp (zAf (op_neD hr.units) (zBd (zA0 (zAk (pv 1) rfl) (zA0 (zAk (pv 1) rfl) (zA0 (zAk (pv 1) rfl) (zA0 (zAk (pv 1) rfl) zA2))))) (zAw zBa rfl T.tuple PyProof.Rows.boot_tuple (zA0 (zB6 zCg (pv 2) zCi (zBm zA5)) zA2)) (nomark _))
     (zA4 (zAd zBn)) zAb)
     (zA3 (zAe (i:=4) nd rfl (Or.inl rfl) (zAu (zA0 (zAk (pv 1) rfl) zA2)))
     (zA3 (zAp (zAf zB8 (pv 0) zA6 (nomark _))
     (zA4 (zAq (zBr PySem.F.plainAttrs_list PySem.F.slot_list_append PySem.F.type_list_append zB2 (pv 4) (zA0 (zAk (pv 1) rfl) zA2)))) (zA4 (zAe (i:=4) nd rfl (Or.inl rfl) (zAg zBl (zAu (zA0 (zAk (pv 1) rfl) zA2)) (pv 4)))))
     (zA3 (zAp (zAf zB8 (pv 0) zA6 (nomark _))
     (zA4 (zAe (i:=4) nd rfl (Or.inl rfl) (zAg zBl (pv 4) (zAu (zA0 (zAk (pv 1) rfl) (zA0 (zAk (pv 1) rfl) zA2)))))) zAb)
     (zA4 (zAd (zCk (zB1 (op_eqD hr.units) (pv 4) (zB6 zCg (pv 2) (zBm zA5) zCi) (nomark _)) (zCk (zAa zAn rfl T.isinst PyProof.Rows.boot_isinstance (zA0 (zCd (pv 1) FCcl PP.mt PP.G hr PP.b .nil (passC calmM)) (zA0 (zB7 (v:=.ty "tuple") rfl T.tuple PyProof.Rows.boot_tuple rfl) zA2))) (zC9 (zB1 (op_eqD hr.units) (zCd (pv 1) FCcl PP.mt PP.G hr PP.b .nil (passC calmM)) (zAw zBa rfl T.tuple PyProof.Rows.boot_tuple (zA0 (pv 2) zA2)) (nomark _)))))))))))),?_⟩
  have small:∀ n:Nat,n≤1000→n≤sizeLine:=fun n h=>Nat.le_of_lt (small1000 h)
  have ti:TyOf K H (.ref p) (.ref (wy.cls CM CS CT)):=.ins hp FCcl J.ha J.hn J.htk J.hm
  refine ⟨_,rfl,_,_,_,_,_,rfl,ti,rfl,J.kM,_,rfl,_,_,_,_,_,rfl,ti,rfl,J.kS,_,rfl,_,_,_,_,_,rfl,ti,rfl,J.kT,_,rfl,_,_,_,_,_,rfl,ti,rfl,J.kD,small 4 (by decide),fun l1 h1=>?_⟩
  refine ⟨_,rfl,_,rfl,rfl,_,rfl,rfl,_,rfl,rfl,small 4 (by decide),fun l2 h2=>?_⟩
  cases wy with
  | make =>
   obtain ⟨a,b,c,d,o,s,rfl⟩:=len6 xl
   obtain ⟨qa,qb,qc,qd,qo,qs,rfl⟩:=len6 (hx.length.symm.trans xl)
   have at_:∀ (i:Nat) {z:V}{dz:PyData},([a,b,c,d,o,s]:List V)[i]? = some z→([qa,qb,qc,qd,qo,qs]:List PyData)[i]? = some dz→Has Any H z dz:=fun i {z dz} e1 e2=>by
    obtain ⟨d',e3,h3⟩:=hx.get e1
    rw [e2] at e3
    cases e3
    exact h3
   rw [show decide (V.str Way.make.nm=V.str "make")=true from by decide +kernel,show decide (V.str Way.make.nm=V.str "set")=false from by decide +kernel,show decide (V.str Way.make.nm=V.str "take")=false from by decide +kernel]
   refine zC3 (G:=Any) (G':=Any) (d:=.list [.bool true,.bool false,.bool false,.bool true]) (.lst trivial ((Same.new h2) _ _ zA1) (by show 4≤1000;decide) (.cons (.bl _) (.cons (.bl _) (.cons (.bl _) (.cons (.bl _) .nil))))) (.lst trivial zA1 (by show 4≤1000;decide) (.cons (.bl _) (.cons (.bl _) (.cons (.bl _) (.cons (.bl _) .nil))))) (by decide) ⟨_,rfl,iteF ?_⟩
   refine' zD2 (R:=_) (Same.trans (Same.new h1) (Same.new h2)) _
   intro H2 s2
   have p2:=s2 _ _ hp
   refine ⟨_,rfl,p,CM,dx,_,_,rfl,p2,FCcl,FC.dc.n1,fs_1 xl rfl,_,rfl,p,CM,dx,_,_,rfl,p2,FCcl,FC.dc.n2,fs_2 xl rfl,_,rfl,p,CM,dx,_,_,rfl,p2,FCcl,FC.dc.n3,fs_3 xl rfl,_,rfl,p,CM,dx,_,_,rfl,p2,FCcl,FC.dc.n4,fs_4 xl rfl,small 4 (by decide),fun t3 h3=>?_⟩
   refine ⟨_,rfl,_,rfl,l,_,rfl,SqL.of ((Same.new h3) _ _ (s2 _ _ hl)),fun l4 h4=>?_⟩
   rw [show cutV [a,b,c,d,o,s] none (some 4)=[a,b,c,d] by unfold cutV HT.sIx;rfl]
   refine ⟨l4,_,rfl,.inl ⟨SqL.of zA1,fun t5 h5=>?_⟩⟩
   have s5:Same H2 (upd (upd (upd H2 t3 (.tup [a,b,c,d])) l4 (.lst [a,b,c,d])) t5 (.tup [a,b,c,d])):=((Same.new h3).trans (Same.new h4)).trans (Same.new h5)
   have four:∀ {Hz:Hp},Same H2 Hz→HasAll Any Hz [a,b,c,d] [qa,qb,qc,qd]:=fun sz=>.cons ((at_ 0 rfl rfl).mono (s2.trans sz)) (.cons ((at_ 1 rfl rfl).mono (s2.trans sz)) (.cons ((at_ 2 rfl rfl).mono (s2.trans sz)) (.cons ((at_ 3 rfl rfl).mono (s2.trans sz)) .nil)))
   have dp4:PyData.depth (.tuple [qa,qb,qc,qd])≤64:=by
    show PyData.depthAll [qa,qb,qc,qd] + 1≤64
    have:=depths (ds:=[qa,qb,qc,qd]) fun z hz=>dep z (List.mem_of_mem_take (i:=4) (l:=[qa,qb,qc,qd,qo,qs]) hz)
    omega
   refine zC3 (G:=Any) (G':=Any) (d:=.tuple [qa,qb,qc,qd]) (.tup trivial ((Same.new h5) _ _ ((Same.new h4) _ _ zA1)) (by show 4≤1000;decide) (four s5)) (.tup trivial zA1 (by show 4≤1000;decide) (four s5)) dp4 ⟨_,rfl,iteF ?_⟩
   refine' zD2 (R:=_) (s2.trans s5) _
   intro H6 s6
   have p6:=s6 _ _ hp
   refine ⟨_,rfl,p,CM,dx,_,_,rfl,p6,FCcl,FC.o,mF_o _ _ _ _ _ _,small 1 (by decide),fun l7 h7=>?_⟩
   refine ⟨_,rfl,rfl,_,rfl,iteBT (by decide +kernel) ⟨_,rfl,.inl ⟨rfl,_,SqL.of zA1⟩,_,rfl,p,CM,dx,_,_,rfl,(Same.new h7) _ _ p6,FCcl,FC.s,mF_s _ _ _ _ _ _,l7,_,_,rfl,rfl,zA1,small1000 (by show 1≤1000;decide),?_⟩⟩
   rw [zB5]
   refine ⟨_,rfl,rfl,_,rfl,iteBF (by decide +kernel) ?_⟩
   have s9:Same H6 (upd H6 l7 (.lst [o,s])):=Same.new h7
   have e9:(upd H6 l7 (.lst [o,s])) l7=some (.lst [o,s]):=zA1
   refine' k_heap2 (R:=_) s9 e9 _
   clear s9 e9
   intro H9 s9 e9
   have s69:=s6.trans s9
   have restH:∀ {Hz:Hp},Same H Hz→HasAll Any Hz [o,s] [qo,qs]:=fun sz=>(.cons ((at_ 4 rfl rfl).mono sz) (.cons ((at_ 5 rfl rfl).mono sz) .nil))
   have allH:∀ {Hz:Hp},Same H Hz→HasAll Any Hz [a,b,c,d,o,s] [qa,qb,qc,qd,qo,qs]:=fun sz=>(.cons ((at_ 0 rfl rfl).mono sz) (.cons ((at_ 1 rfl rfl).mono sz) (.cons ((at_ 2 rfl rfl).mono sz) (.cons ((at_ 3 rfl rfl).mono sz) (.cons ((at_ 4 rfl rfl).mono sz) (.cons ((at_ 5 rfl rfl).mono sz) .nil))))))
   refine ⟨_,rfl,_,rfl,_,rfl,l,_,rfl,SqL.of (s69 _ _ hl),fun l10 h10=>?_⟩
   rw [show cutV [a,b,c,d,o,s] (some 4) none=[o,s] by unfold cutV HT.sIx;rfl]
   have s10:Same H9 (upd H9 l10 (.lst [o,s])):=Same.new h10
   have dpr:PyData.depth (.list [qo,qs])≤64:=by
    show PyData.depthAll [qo,qs] + 1≤64
    have:=depths (ds:=[qo,qs]) fun z hz=>dep z (List.mem_of_mem_drop (i:=4) (l:=[qa,qb,qc,qd,qo,qs]) hz)
    omega
   refine zC5 (G:=Any) (G':=Any) (d:=.list [qo,qs]) (.lst trivial (s10 _ _ e9) (by show 2≤1000;decide) (restH (s69.trans s10))) (.lst trivial zA1 (by show 2≤1000;decide) (restH (s69.trans s10))) dpr ⟨_,rfl,iteT ?_⟩
   generalize upd H9 l10 (.lst [o,s])=H10 at s10 ⊢
   have s11:=s69.trans s10
   have no:=fs_no (m:="parts") (by decide +kernel) (by decide +kernel) (by decide +kernel) (by decide +kernel) (by decide +kernel) (by decide +kernel) (by decide +kernel) (by decide +kernel) (by decide +kernel) xl
   refine ⟨_,rfl,p,dx,_,rfl,s11 _ _ hp,no,p,dx,_,rfl,xl,s11 _ _ hp,fun t12 H12 h12 s12 e12=>⟨_,_,_,_,_,rfl,.tup e12,rfl,rfl,_,rfl,iteT ?_⟩⟩
   have s13:=s11.trans s12
   refine ⟨_,rfl,p,dx,_,rfl,s13 _ _ hp,no,p,dx,_,rfl,xl,s13 _ _ hp,fun t14 H14 h14 s14 e14=>⟨_,rfl,l,_,rfl,.inl ⟨SqL.of ((s13.trans s14) _ _ hl),fun t15 h15=>?_⟩⟩⟩
   have s15:=(s13.trans s14).trans (Same.new (o:=.tup [a,b,c,d,o,s]) h15)
   have dpa:PyData.depth (.tuple [qa,qb,qc,qd,qo,qs])≤64:=by
    show PyData.depthAll [qa,qb,qc,qd,qo,qs] + 1≤64
    have:=depths dep
    omega
   exact zC5 (G:=Any) (G':=Any) (d:=.tuple [qa,qb,qc,qd,qo,qs]) (.tup trivial ((Same.new h15) _ _ e14) (by show 6≤1000;decide) (allH s15)) (.tup trivial zA1 (by show 6≤1000;decide) (allH s15)) dpa (k _ s15)
  | set =>
   obtain ⟨a,b,c,d,m,o,f,v,rfl⟩:=len8 xl
   obtain ⟨qa,qb,qc,qd,qm,qo,qf,qv,rfl⟩:=len8 (hx.length.symm.trans xl)
   have at_:∀ (i:Nat) {z:V}{dz:PyData},([a,b,c,d,m,o,f,v]:List V)[i]? = some z→([qa,qb,qc,qd,qm,qo,qf,qv]:List PyData)[i]? = some dz→Has Any H z dz:=fun i {z dz} e1 e2=>by
    obtain ⟨d',e3,h3⟩:=hx.get e1
    rw [e2] at e3
    cases e3
    exact h3
   rw [show decide (V.str Way.set.nm=V.str "make")=false from by decide +kernel,show decide (V.str Way.set.nm=V.str "set")=true from by decide +kernel,show decide (V.str Way.set.nm=V.str "take")=false from by decide +kernel]
   refine zC3 (G:=Any) (G':=Any) (d:=.list [.bool false,.bool true,.bool false,.bool true]) (.lst trivial ((Same.new h2) _ _ zA1) (by show 4≤1000;decide) (.cons (.bl _) (.cons (.bl _) (.cons (.bl _) (.cons (.bl _) .nil))))) (.lst trivial zA1 (by show 4≤1000;decide) (.cons (.bl _) (.cons (.bl _) (.cons (.bl _) (.cons (.bl _) .nil))))) (by decide) ⟨_,rfl,iteF ?_⟩
   refine' zD2 (R:=_) (Same.trans (Same.new h1) (Same.new h2)) _
   intro H2 s2
   have p2:=s2 _ _ hp
   refine ⟨_,rfl,p,CS,dx,_,_,rfl,p2,FCcl,FC.dc.n1,fs_1 xl rfl,_,rfl,p,CS,dx,_,_,rfl,p2,FCcl,FC.dc.n2,fs_2 xl rfl,_,rfl,p,CS,dx,_,_,rfl,p2,FCcl,FC.dc.n3,fs_3 xl rfl,_,rfl,p,CS,dx,_,_,rfl,p2,FCcl,FC.dc.n4,fs_4 xl rfl,small 4 (by decide),fun t3 h3=>?_⟩
   refine ⟨_,rfl,_,rfl,l,_,rfl,SqL.of ((Same.new h3) _ _ (s2 _ _ hl)),fun l4 h4=>?_⟩
   rw [show cutV [a,b,c,d,m,o,f,v] none (some 4)=[a,b,c,d] by unfold cutV HT.sIx;rfl]
   refine ⟨l4,_,rfl,.inl ⟨SqL.of zA1,fun t5 h5=>?_⟩⟩
   have s5:Same H2 (upd (upd (upd H2 t3 (.tup [a,b,c,d])) l4 (.lst [a,b,c,d])) t5 (.tup [a,b,c,d])):=((Same.new h3).trans (Same.new h4)).trans (Same.new h5)
   have four:∀ {Hz:Hp},Same H2 Hz→HasAll Any Hz [a,b,c,d] [qa,qb,qc,qd]:=fun sz=>.cons ((at_ 0 rfl rfl).mono (s2.trans sz)) (.cons ((at_ 1 rfl rfl).mono (s2.trans sz)) (.cons ((at_ 2 rfl rfl).mono (s2.trans sz)) (.cons ((at_ 3 rfl rfl).mono (s2.trans sz)) .nil)))
   have dp4:PyData.depth (.tuple [qa,qb,qc,qd])≤64:=by
    show PyData.depthAll [qa,qb,qc,qd] + 1≤64
    have:=depths (ds:=[qa,qb,qc,qd]) fun z hz=>dep z (List.mem_of_mem_take (i:=4) (l:=[qa,qb,qc,qd,qm,qo,qf,qv]) hz)
    omega
   refine zC3 (G:=Any) (G':=Any) (d:=.tuple [qa,qb,qc,qd]) (.tup trivial ((Same.new h5) _ _ ((Same.new h4) _ _ zA1)) (by show 4≤1000;decide) (four s5)) (.tup trivial zA1 (by show 4≤1000;decide) (four s5)) dp4 ⟨_,rfl,iteF ?_⟩
   refine' zD2 (R:=_) (s2.trans s5) _
   intro H6 s6
   have p6:=s6 _ _ hp
   refine ⟨_,rfl,p,CS,dx,_,_,rfl,p6,FCcl,FC.o,sF_o _ _ _ _ _ _ _ _,small 1 (by decide),fun l7 h7=>?_⟩
   refine ⟨_,rfl,rfl,_,rfl,iteBF (by decide +kernel) ⟨_,rfl,p,CS,dx,_,_,rfl,(Same.new h7) _ _ p6,FCcl,FC.m,sF_m _ _ _ _ _ _ _ _,small 1 (by decide),fun l8 h8=>⟨_,rfl,l8,l7,_,_,rfl,rfl,zA1,(Same.new h8) _ _ zA1,small 2 (by decide),fun lf h9=>?_⟩⟩⟩
   have s9:Same H6 (upd (upd (upd H6 l7 (.lst [o])) l8 (.lst [m])) lf (.lst ([m]++[o]))):=((Same.new h7).trans (Same.new h8)).trans (Same.new h9)
   have e9:(upd (upd (upd H6 l7 (.lst [o])) l8 (.lst [m])) lf (.lst ([m]++[o]))) lf=some (.lst [m,o]):=zA1
   generalize upd (upd (upd H6 l7 (.lst [o])) l8 (.lst [m])) lf (.lst ([m]++[o]))=Hb at s9 e9 ⊢
   have pb:=s9 _ _ p6
   refine ⟨_,rfl,rfl,_,rfl,iteBT (by decide +kernel) ⟨_,rfl,_,rfl,p,CS,dx,_,_,rfl,pb,FCcl,FC.f,sF_f _ _ _ _ _ _ _ _,_,rfl,p,CS,dx,_,_,rfl,pb,FCcl,FC.v,sF_v _ _ _ _ _ _ _ _,small 2 (by decide),fun lg h10=>⟨lf,lg,_,_,rfl,rfl,(Same.new h10) _ _ e9,zA1,small 4 (by decide),fun lh h11=>?_⟩⟩⟩
   have s12:Same H6 (upd (upd Hb lg (.lst [f,v])) lh (.lst ([m,o]++[f,v]))):=(s9.trans (Same.new h10)).trans (Same.new h11)
   have e12:(upd (upd Hb lg (.lst [f,v])) lh (.lst ([m,o]++[f,v]))) lh=some (.lst [m,o,f,v]):=zA1
   clear s9 e9
   dsimp only [gName]
   simp only [List.set_set]
   refine' k_heap2 (R:=_) s12 e12 _
   clear s12 e12
   intro H9 s9 e9
   have s69:=s6.trans s9
   have restH:∀ {Hz:Hp},Same H Hz→HasAll Any Hz [m,o,f,v] [qm,qo,qf,qv]:=fun sz=>(.cons ((at_ 4 rfl rfl).mono sz) (.cons ((at_ 5 rfl rfl).mono sz) (.cons ((at_ 6 rfl rfl).mono sz) (.cons ((at_ 7 rfl rfl).mono sz) .nil))))
   have allH:∀ {Hz:Hp},Same H Hz→HasAll Any Hz [a,b,c,d,m,o,f,v] [qa,qb,qc,qd,qm,qo,qf,qv]:=fun sz=>(.cons ((at_ 0 rfl rfl).mono sz) (.cons ((at_ 1 rfl rfl).mono sz) (.cons ((at_ 2 rfl rfl).mono sz) (.cons ((at_ 3 rfl rfl).mono sz) (.cons ((at_ 4 rfl rfl).mono sz) (.cons ((at_ 5 rfl rfl).mono sz) (.cons ((at_ 6 rfl rfl).mono sz) (.cons ((at_ 7 rfl rfl).mono sz) .nil))))))))
   refine ⟨_,rfl,_,rfl,_,rfl,l,_,rfl,SqL.of (s69 _ _ hl),fun l10 h10=>?_⟩
   rw [show cutV [a,b,c,d,m,o,f,v] (some 4) none=[m,o,f,v] by unfold cutV HT.sIx;rfl]
   have s10:Same H9 (upd H9 l10 (.lst [m,o,f,v])):=Same.new h10
   have dpr:PyData.depth (.list [qm,qo,qf,qv])≤64:=by
    show PyData.depthAll [qm,qo,qf,qv] + 1≤64
    have:=depths (ds:=[qm,qo,qf,qv]) fun z hz=>dep z (List.mem_of_mem_drop (i:=4) (l:=[qa,qb,qc,qd,qm,qo,qf,qv]) hz)
    omega
   refine zC5 (G:=Any) (G':=Any) (d:=.list [qm,qo,qf,qv]) (.lst trivial (s10 _ _ e9) (by show 4≤1000;decide) (restH (s69.trans s10))) (.lst trivial zA1 (by show 4≤1000;decide) (restH (s69.trans s10))) dpr ⟨_,rfl,iteT ?_⟩
   generalize upd H9 l10 (.lst [m,o,f,v])=H10 at s10 ⊢
   have s11:=s69.trans s10
   have no:=fs_no (m:="parts") (by decide +kernel) (by decide +kernel) (by decide +kernel) (by decide +kernel) (by decide +kernel) (by decide +kernel) (by decide +kernel) (by decide +kernel) (by decide +kernel) xl
   refine ⟨_,rfl,p,dx,_,rfl,s11 _ _ hp,no,p,dx,_,rfl,xl,s11 _ _ hp,fun t12 H12 h12 s12 e12=>⟨_,_,_,_,_,rfl,.tup e12,rfl,rfl,_,rfl,iteT ?_⟩⟩
   have s13:=s11.trans s12
   refine ⟨_,rfl,p,dx,_,rfl,s13 _ _ hp,no,p,dx,_,rfl,xl,s13 _ _ hp,fun t14 H14 h14 s14 e14=>⟨_,rfl,l,_,rfl,.inl ⟨SqL.of ((s13.trans s14) _ _ hl),fun t15 h15=>?_⟩⟩⟩
   have s15:=(s13.trans s14).trans (Same.new (o:=.tup [a,b,c,d,m,o,f,v]) h15)
   have dpa:PyData.depth (.tuple [qa,qb,qc,qd,qm,qo,qf,qv])≤64:=by
    show PyData.depthAll [qa,qb,qc,qd,qm,qo,qf,qv] + 1≤64
    have:=depths dep
    omega
   exact zC5 (G:=Any) (G':=Any) (d:=.tuple [qa,qb,qc,qd,qm,qo,qf,qv]) (.tup trivial ((Same.new h15) _ _ e14) (by show 8≤1000;decide) (allH s15)) (.tup trivial zA1 (by show 8≤1000;decide) (allH s15)) dpa (k _ s15)
  | take =>
   obtain ⟨a,b,c,d,m,o,rfl⟩:=len6 xl
   obtain ⟨qa,qb,qc,qd,qm,qo,rfl⟩:=len6 (hx.length.symm.trans xl)
   have at_:∀ (i:Nat) {z:V}{dz:PyData},([a,b,c,d,m,o]:List V)[i]? = some z→([qa,qb,qc,qd,qm,qo]:List PyData)[i]? = some dz→Has Any H z dz:=fun i {z dz} e1 e2=>by
    obtain ⟨d',e3,h3⟩:=hx.get e1
    rw [e2] at e3
    cases e3
    exact h3
   rw [show decide (V.str Way.take.nm=V.str "make")=false from by decide +kernel,show decide (V.str Way.take.nm=V.str "set")=false from by decide +kernel,show decide (V.str Way.take.nm=V.str "take")=true from by decide +kernel]
   refine zC3 (G:=Any) (G':=Any) (d:=.list [.bool false,.bool false,.bool true,.bool true]) (.lst trivial ((Same.new h2) _ _ zA1) (by show 4≤1000;decide) (.cons (.bl _) (.cons (.bl _) (.cons (.bl _) (.cons (.bl _) .nil))))) (.lst trivial zA1 (by show 4≤1000;decide) (.cons (.bl _) (.cons (.bl _) (.cons (.bl _) (.cons (.bl _) .nil))))) (by decide) ⟨_,rfl,iteF ?_⟩
   refine' zD2 (R:=_) (Same.trans (Same.new h1) (Same.new h2)) _
   intro H2 s2
   have p2:=s2 _ _ hp
   refine ⟨_,rfl,p,CT,dx,_,_,rfl,p2,FCcl,FC.dc.n1,fs_1 xl rfl,_,rfl,p,CT,dx,_,_,rfl,p2,FCcl,FC.dc.n2,fs_2 xl rfl,_,rfl,p,CT,dx,_,_,rfl,p2,FCcl,FC.dc.n3,fs_3 xl rfl,_,rfl,p,CT,dx,_,_,rfl,p2,FCcl,FC.dc.n4,fs_4 xl rfl,small 4 (by decide),fun t3 h3=>?_⟩
   refine ⟨_,rfl,_,rfl,l,_,rfl,SqL.of ((Same.new h3) _ _ (s2 _ _ hl)),fun l4 h4=>?_⟩
   rw [show cutV [a,b,c,d,m,o] none (some 4)=[a,b,c,d] by unfold cutV HT.sIx;rfl]
   refine ⟨l4,_,rfl,.inl ⟨SqL.of zA1,fun t5 h5=>?_⟩⟩
   have s5:Same H2 (upd (upd (upd H2 t3 (.tup [a,b,c,d])) l4 (.lst [a,b,c,d])) t5 (.tup [a,b,c,d])):=((Same.new h3).trans (Same.new h4)).trans (Same.new h5)
   have four:∀ {Hz:Hp},Same H2 Hz→HasAll Any Hz [a,b,c,d] [qa,qb,qc,qd]:=fun sz=>.cons ((at_ 0 rfl rfl).mono (s2.trans sz)) (.cons ((at_ 1 rfl rfl).mono (s2.trans sz)) (.cons ((at_ 2 rfl rfl).mono (s2.trans sz)) (.cons ((at_ 3 rfl rfl).mono (s2.trans sz)) .nil)))
   have dp4:PyData.depth (.tuple [qa,qb,qc,qd])≤64:=by
    show PyData.depthAll [qa,qb,qc,qd] + 1≤64
    have:=depths (ds:=[qa,qb,qc,qd]) fun z hz=>dep z (List.mem_of_mem_take (i:=4) (l:=[qa,qb,qc,qd,qm,qo]) hz)
    omega
   refine zC3 (G:=Any) (G':=Any) (d:=.tuple [qa,qb,qc,qd]) (.tup trivial ((Same.new h5) _ _ ((Same.new h4) _ _ zA1)) (by show 4≤1000;decide) (four s5)) (.tup trivial zA1 (by show 4≤1000;decide) (four s5)) dp4 ⟨_,rfl,iteF ?_⟩
   refine' zD2 (R:=_) (s2.trans s5) _
   intro H6 s6
   have p6:=s6 _ _ hp
   refine ⟨_,rfl,p,CT,dx,_,_,rfl,p6,FCcl,FC.o,tF_o _ _ _ _ _ _,small 1 (by decide),fun l7 h7=>?_⟩
   refine ⟨_,rfl,rfl,_,rfl,iteBF (by decide +kernel) ⟨_,rfl,p,CT,dx,_,_,rfl,(Same.new h7) _ _ p6,FCcl,FC.m,tF_m _ _ _ _ _ _,small 1 (by decide),fun l8 h8=>⟨_,rfl,l8,l7,_,_,rfl,rfl,zA1,(Same.new h8) _ _ zA1,small 2 (by decide),fun lf h9=>?_⟩⟩⟩
   have s9:Same H6 (upd (upd (upd H6 l7 (.lst [o])) l8 (.lst [m])) lf (.lst ([m]++[o]))):=((Same.new h7).trans (Same.new h8)).trans (Same.new h9)
   have e9:(upd (upd (upd H6 l7 (.lst [o])) l8 (.lst [m])) lf (.lst ([m]++[o]))) lf=some (.lst [m,o]):=zA1
   refine ⟨_,rfl,rfl,_,rfl,iteBF (by decide +kernel) ?_⟩
   dsimp only [gName]
   simp only [List.set_set]
   refine' k_heap2 (R:=_) s9 e9 _
   clear s9 e9
   intro H9 s9 e9
   have s69:=s6.trans s9
   have restH:∀ {Hz:Hp},Same H Hz→HasAll Any Hz [m,o] [qm,qo]:=fun sz=>(.cons ((at_ 4 rfl rfl).mono sz) (.cons ((at_ 5 rfl rfl).mono sz) .nil))
   have allH:∀ {Hz:Hp},Same H Hz→HasAll Any Hz [a,b,c,d,m,o] [qa,qb,qc,qd,qm,qo]:=fun sz=>(.cons ((at_ 0 rfl rfl).mono sz) (.cons ((at_ 1 rfl rfl).mono sz) (.cons ((at_ 2 rfl rfl).mono sz) (.cons ((at_ 3 rfl rfl).mono sz) (.cons ((at_ 4 rfl rfl).mono sz) (.cons ((at_ 5 rfl rfl).mono sz) .nil))))))
   refine ⟨_,rfl,_,rfl,_,rfl,l,_,rfl,SqL.of (s69 _ _ hl),fun l10 h10=>?_⟩
   rw [show cutV [a,b,c,d,m,o] (some 4) none=[m,o] by unfold cutV HT.sIx;rfl]
   have s10:Same H9 (upd H9 l10 (.lst [m,o])):=Same.new h10
   have dpr:PyData.depth (.list [qm,qo])≤64:=by
    show PyData.depthAll [qm,qo] + 1≤64
    have:=depths (ds:=[qm,qo]) fun z hz=>dep z (List.mem_of_mem_drop (i:=4) (l:=[qa,qb,qc,qd,qm,qo]) hz)
    omega
   refine zC5 (G:=Any) (G':=Any) (d:=.list [qm,qo]) (.lst trivial (s10 _ _ e9) (by show 2≤1000;decide) (restH (s69.trans s10))) (.lst trivial zA1 (by show 2≤1000;decide) (restH (s69.trans s10))) dpr ⟨_,rfl,iteT ?_⟩
   generalize upd H9 l10 (.lst [m,o])=H10 at s10 ⊢
   have s11:=s69.trans s10
   have no:=fs_no (m:="parts") (by decide +kernel) (by decide +kernel) (by decide +kernel) (by decide +kernel) (by decide +kernel) (by decide +kernel) (by decide +kernel) (by decide +kernel) (by decide +kernel) xl
   refine ⟨_,rfl,p,dx,_,rfl,s11 _ _ hp,no,p,dx,_,rfl,xl,s11 _ _ hp,fun t12 H12 h12 s12 e12=>⟨_,_,_,_,_,rfl,.tup e12,rfl,rfl,_,rfl,iteT ?_⟩⟩
   have s13:=s11.trans s12
   refine ⟨_,rfl,p,dx,_,rfl,s13 _ _ hp,no,p,dx,_,rfl,xl,s13 _ _ hp,fun t14 H14 h14 s14 e14=>⟨_,rfl,l,_,rfl,.inl ⟨SqL.of ((s13.trans s14) _ _ hl),fun t15 h15=>?_⟩⟩⟩
   have s15:=(s13.trans s14).trans (Same.new (o:=.tup [a,b,c,d,m,o]) h15)
   have dpa:PyData.depth (.tuple [qa,qb,qc,qd,qm,qo])≤64:=by
    show PyData.depthAll [qa,qb,qc,qd,qm,qo] + 1≤64
    have:=depths dep
    omega
   exact zC5 (G:=Any) (G':=Any) (d:=.tuple [qa,qb,qc,qd,qm,qo]) (.tup trivial ((Same.new h15) _ _ e14) (by show 6≤1000;decide) (allH s15)) (.tup trivial zA1 (by show 6≤1000;decide) (allH s15)) dpa (k _ s15)
end
end L2.W
namespace L2.W
open PySem My
noncomputable def spLaw21 (K:PySem.W.Frag):Sp:=fun vs H Q _=>∃ (a:Addr) (ns:List Int),vs=[.ref a]∧SqL K H a (ns.map V.int)∧ns.length≤63∧∀ H',Q (.bl true) H'
theorem cut_ints (ns:List Int) (lo hi:Option Int):∃ ms:List Int,cutV (ns.map V.int) lo hi=ms.map V.int∧ms.length≤ns.length:=by
 unfold cutV
 rw [← List.map_drop,← List.map_take]
 exact ⟨_,rfl,by rw [List.length_take,List.length_drop];omega⟩
theorem cut_take {xs:List V}{j:Nat} (h:j≤xs.length):cutV xs none (some (j:Int))=xs.take j:=by
 have n:¬ ((j:Int) < 0):=by omega
 unfold cutV HT.sIx
 simp [n,Nat.min_eq_left h]
theorem cut_drop {xs:List V}{j:Nat} (h:j≤xs.length):cutV xs (some (j:Int)) none=xs.drop j:=by
 have n:¬ ((j:Int) < 0):=by omega
 unfold cutV HT.sIx
 simp [n,Nat.min_eq_left h]
 rw [List.take_of_length_le (by rw [List.length_drop];omega)]
theorem zCl {n:Option PyData}:∀ {ts:List Tag}{os:List (Option PyData)},okAll n ts os=true→ts.length=os.length
 | [],[],_=>rfl
 | _ :: ts,_ :: os,h=>by
  have h:(_ && okAll n ts os)=true:=h
  rw [Bool.and_eq_true] at h
  rw [List.length_cons,List.length_cons,zCl h.2]
 | [],_ :: _,h=>nomatch h
 | _ :: _,[],h=>nomatch h
theorem zBt {n:Option PyData}:∀ {ts:List Tag}{os:List (Option PyData)}{i:Nat}{t:Tag}{o:Option PyData},okAll n ts os=true→ts[i]? = some t→os[i]? = some o→tagB n t o=true
 | t' :: ts,o' :: os,i,t,o,h,e1,e2=>by
  have h:(tagB n t' o' && okAll n ts os)=true:=h
  rw [Bool.and_eq_true] at h
  cases i with
  | zero=>cases e1;cases e2;exact h.1
  | succ i=>exact zBt h.2 (by simpa using e1) (by simpa using e2)
 | [],[],_,_,_,_,e,_=>by simp at e
 | [],_ :: _,_,_,_,h,_,_=>nomatch h
 | _ :: _,[],_,_,_,h,_,_=>nomatch h
theorem zDc {H:Hp}:∀ {xs:List V}{ds:List PyData},HasAll Any H xs ds→Paired (HasX H) xs (ds.map some)
 | _,_,.nil=>.nil
 | _,_,.cons h t=>.cons h (zDc t)
theorem zCy {R:V→Option PyData→Prop}{u:V}{o:Option PyData} (h:R u o):∀ {xs:List V}{os:List (Option PyData)}{j:Nat},Paired R xs os→Paired R (xs.set j u) (os.set j o)
 | _,_,_,.nil=>.nil
 | _,_,0,.cons _ t=>.cons h t
 | _,_,j + 1,.cons r t=>.cons r (zCy h t)
theorem set_split {α : Type}:∀ {l:List α}{j:Nat}{u : α},j < l.length→l.take j++[u]++l.drop (j + 1)=l.set j u
 | [],j,u,h=>absurd h (Nat.not_lt_zero _)
 | a :: l,0,u,_=>by simp
 | a :: l,j + 1,u,h=>by
  have ih:=set_split (l:=l) (j:=j) (u:=u) (by simpa using h)
  rw [List.take_succ_cons,List.drop_succ_cons,List.set_cons_succ,List.cons_append,List.cons_append,ih]
theorem tag_depth {n:Option PyData}{t:Tag}{d:PyData} (h:tagB n t (some d)=true):d.depth≤3:=by
 have flat:∀ {d:PyData},nameD d=true→d.depth≤1:=fun {d} h=>by
  cases d with
  | str x=>exact Nat.zero_le _
  | _=>cases h
 have wh:∀ {l:Int}{d:PyData},wholeFrom l d=true→d.depth≤1:=fun {l d} h=>by
  cases d with
  | int x=>exact Nat.zero_le _
  | _=>cases h
 cases t with
 | word=>have:=flat h;omega
 | number=>have:=wh (l:=1) h;omega
 | mark=>have:=wh (l:=1) h;omega
 | wishing=>have:=wh (l:=0) h;omega
 | thing =>
  cases d with
  | str x=>exact Nat.zero_le _
  | _=>cases h
 | owner =>
  cases n with
  | none=>cases h
  | some m =>
   cases m with
   | str x =>
    have h:ownerB x d=true:=h
    unfold ownerB at h
    split at h
    ·have:=wh h;omega
    ·cases d with
     | none=>exact Nat.zero_le _
     | _=>cases h
   | _=>cases h
 | state =>
  cases d with
  | tuple ds =>
   have h:ds.all nameD=true:=h
   show PyData.depthAll ds + 1≤3
   have key:∀ l:List PyData,(∀ d∈l,d.depth≤1)→PyData.depthAll l≤1:=by
    intro l
    induction l with
    | nil=>intro _;decide
    | cons a r ih =>
     intro hl
     have h1:=hl a List.mem_cons_self
     have h2:=ih fun x hx=>hl x (List.mem_cons_of_mem _ hx)
     show max a.depth (PyData.depthAll r)≤1
     omega
   have:=key ds fun x hx=>flat (List.all_eq_true.mp h x hx)
   omega
  | _=>cases h
theorem okF_spoilt {wy:Way}{ds:List PyData}{j:Nat}{t:Tag}{o:Option PyData}{x:V}{dx:PyData}{G:Addr→Prop}{H:Hp} (ok:okF wy (ds.map some)=true) (et:(tagsOf wy)[j]? = some t) (hj:ds[j]? = some dx) (hv:Has G H x dx) (od:oddB t (decide (x=.non)) o):okF wy ((ds.map some).set j o)=false:=by
 cases e:okF wy ((ds.map some).set j o) with
 | false=>rfl
 | true =>
  exfalso
  have jl:j < ds.length:=(List.getElem?_eq_some_iff.mp hj).1
  have g:=zBt e et (by rw [List.getElem?_set_self (by rw [List.length_map];exact jl)])
  have gold:∀ {i:Nat}{t':Tag}{d:PyData},(tagsOf wy)[i]? = some t'→ds[i]? = some d→tagB (nameAt (ds.map some)) t' (some d)=true:=fun {i t' d} e1 e2=>zBt ok e1 (by rw [List.getElem?_map,e2];rfl)
  cases t with
  | word=>rw [od.1] at g;cases g
  | number=>rw [od.1] at g;cases g
  | mark=>rw [od.1] at g;cases g
  | wishing=>rw [od.1] at g;cases g
  | thing=>rw [od.1] at g;cases g
  | state=>rw [show tagB _ .state o=stateB o from rfl,show stateB o=false from od] at g;cases g
  | owner =>
   have j3:j≠3:=fun z=>by rw [z,zBw] at et;cases et
   have en:nameAt ((ds.map some).set j o)=nameAt (ds.map some):=by
    unfold nameAt
    rw [List.getD_eq_getElem?_getD,List.getD_eq_getElem?_getD,List.getElem?_set_ne j3]
   rw [en] at g
   have l3:3 < ds.length:=by
    have:=zCl ok
    rw [List.length_map,zD5] at this
    cases wy <;> · have:_=ds.length:=this;simp [Way.size] at this;omega
   obtain ⟨m,em⟩:∃ m,ds[3]? = some m:=⟨_,List.getElem?_eq_getElem l3⟩
   have enm:nameAt (ds.map some)=some m:=by
    unfold nameAt
    rw [List.getD_eq_getElem?_getD,List.getElem?_map,em]
    rfl
   have gm:=gold (zBw wy) em
   have go:=gold et hj
   rw [enm] at g go
   have sm:∃ y,m=.str y:=by
    cases m with
    | str y=>exact ⟨y,rfl⟩
    | _=>cases gm
   obtain ⟨y,rfl⟩:=sm
   have go:ownerB y dx=true:=go
   have od:if decide (x=.non)=true then ∃ d,o=some d∧isNone d=false else ∃ d,o=some d∧wholeFrom 1 d=false:=od
   unfold ownerB at go
   by_cases c:1 < Txt.count y "."
   ·rw [if_pos c] at go
    have nx:¬ x=.non:=fun z=>by
     rw [z] at hv
     cases hv
     cases go
    rw [decide_eq_false nx,if_neg (by decide)] at od
    obtain ⟨d,rfl,hd⟩:=od
    have g:ownerB y d=true:=g
    unfold ownerB at g
    rw [if_pos c,hd] at g
    cases g
   ·rw [if_neg c] at go
    have nx:x=.non:=by
     cases hv with
     | non=>rfl
     | bl b=>cases go
     | int i=>cases go
     | str z _ _=>cases go
     | lst _ _ _ _=>cases go
     | tup _ _ _ _=>cases go
    rw [decide_eq_true nx,if_pos rfl] at od
    obtain ⟨d,rfl,hd⟩:=od
    have g:ownerB y d=true:=g
    unfold ownerB at g
    rw [if_neg c] at g
    cases d with
    | none=>cases hd
    | _=>cases g
structure Asks (P:Program) (w:World) (K:PySem.W.Frag) (mg:Str→Option Value) (base:Heap) (CM CS CT CD fd fn ff fr fm fo ft fx:Addr) (dd dn df dr dm dO dt dx:FuncData):Prop where
 T:Tops K mg
 d:Def K mg "_law_source" sSource ["_law_cell"] fd dd
 Gd:FnOk P w K mg base (CXM P w) 1 fd dd ["_law_cell"] spDigits
 n:Def K mg "_law_next" sNext ["_law_source_here", "_law_many"] fn dn
 Gn:FnOk P w K mg base (CXM P w) 2 fn dn ["_law_source_here", "_law_many"] spNext
 f:Def K mg "_law_fields" sLFields ["_law_source_here", "_law_way"] ff df
 Gf:FnOk P w K mg base (CXM P w) 5 ff df ["_law_source_here", "_law_way"] spFieldsL
 r:Def K mg "_law_right" sRight ["_law_way", "_law_made_here", "_law_fields_here"] fr dr
 Gr:FnOk P w K mg base (CXM P w) 2 fr dr ["_law_way", "_law_made_here", "_law_fields_here"] (spRight CM CS CT)
 m:Def K mg "_law_made" sMade ["_law_way", "_law_fields_here"] fm dm
 Gm:FnOk P w K mg base (CXM P w) 7 fm dm ["_law_way", "_law_fields_here"] (spMadeL CM CS CT CD)
 o:Def K mg "_law_odd" sOdd ["_law_source_here", "_law_tag", "_law_field"] fo dO
 Go:FnOk P w K mg base (CXM P w) 3 fo dO ["_law_source_here", "_law_tag", "_law_field"] spOdd
 t:Def K mg "_law_tags" sTags ["_law_way"] ft dt
 Gt:FnOk P w K mg base (CXM P w) 1 ft dt ["_law_way"] spTags
 x:Def K mg "_law_refused" sRefused ["_law_way", "_law_fields_here"] fx dx
 Gx:FnOk P w K mg base (CXM P w) 8 fx dx ["_law_way", "_law_fields_here"] spRefused
section
variable {P:Program}{w:World}{K:PySem.W.Frag}{mg:Str→Option Value}{base:Heap}
theorem scL21:FnScope ["_law_script", "_law_cell", "_law_source_here", "_law_way", "_law_fields_here", "_law_at", "_law_spoilt"] ["_law_script"] (defScope sLaw):=⟨rfl,rfl,rfl,by decide +kernel,rfl,by decide +kernel,by decide +kernel⟩
set_option maxHeartbeats 4000000 in
theorem ok_law21 {f CM CS CT CD fd fn ff fr fm fo ft fx:Addr}{fdl dd dn df dr dm dO dt dx:FuncData} (F:Fun K "law" "law" sLaw f fdl) (A:Asks P w K mg base CM CS CT CD fd fn ff fr fm fo ft fx dd dn df dr dm dO dt dx):FnOk P w K mg base (CXM P w) 9 f fdl ["_law_script"] (spLaw21 K):=by
 have T:=A.T
 refine Fun.okC F scL21 (fun vs H Q E h=>?_) (fun cdv Ar outer s H vs Q E hr h=>?_)
 ·obtain ⟨a,ns,rfl,_⟩:=h
  rfl
 ·obtain ⟨a,ns,rfl,hS,hlen,k⟩:=h
  have nd:=scL21.nd
  have hr1:=hr.mono (show 1≤8 by decide)
  have hr2:=hr.mono (show 2≤8 by decide)
  have hr3:=hr.mono (show 3≤8 by decide)
  have hr5:=hr.mono (show 5≤8 by decide)
  have hr7:=hr.mono (show 7≤8 by decide)
  refine ⟨_,zA3 (zCx PassesOwn.never rfl (zBz (zAg zBl (zB6 zCg (pv 0) zCi (zBm zA5)) (zAu (zA0 zA5 zA2)))) (zAx (i:=1) nd rfl (Or.inl rfl))
     (zA3 (zAe (i:=2) nd rfl (Or.inl rfl) (zA7 A.Gd hr1 rfl A.d.at_ A.d.fn.kp A.d.bind .nil (passC calmM) (zA0 (pv 1) zA2)))
     (zA3 (zAe (i:=3) nd rfl (Or.inl rfl) (zAs zAc (zAu (zA0 zA6 (zA0 zA6 (zA0 zA6 zA2)))) (zA7 A.Gn hr2 rfl A.n.at_ A.n.fn.kp A.n.bind .nil (passC calmM) (zA0 (pv 2) (zA0 zA5 zA2))) (fun _ _=>rfl)))
     (zA3 (zAe (i:=4) nd rfl (Or.inl rfl) (zA7 A.Gf hr5 rfl A.f.at_ A.f.fn.kp A.f.bind .nil (passC calmM) (zA0 (pv 2) (zA0 (pv 3) zA2))))
     (zA3 (zAp (zB0 (zAz (zA7 A.Gr hr2 rfl A.r.at_ A.r.fn.kp A.r.bind .nil (passC calmM) (zA0 (pv 3) (zA0 (zA7 A.Gm hr7 rfl A.m.at_ A.m.fn.kp A.m.bind .nil (passC calmM) (zA0 (pv 3) (zA0 (pv 4) zA2))) (zA0 (pv 4) zA2))))))
     (zA4 (zAd zBn)) zAb)
     (zA3 (zAe (i:=5) nd rfl (Or.inl rfl) (zA7 A.Gn hr2 rfl A.n.at_ A.n.fn.kp A.n.bind .nil (passC calmM) (zA0 (pv 2) (zA0 (zAa zB4 rfl T.len PySem.boot_len (zA0 (pv 4) zA2)) zA2))))
     (zA3 (zAe (i:=6) nd rfl (Or.inl rfl) (zAg zBl (zAg zBl (zB6 zCg (pv 4) zCi (zBm (pv 5))) (zAu (zA0 (zA7 A.Go hr3 rfl A.o.at_ A.o.fn.kp A.o.bind .nil (passC calmM) (zA0 (pv 2) (zA0 (zAs zAc (zA7 A.Gt hr1 rfl A.t.at_ A.t.fn.kp A.t.bind .nil (passC calmM) (zA0 (pv 3) zA2)) (pv 5) (fun _ _=>rfl)) (zA0 (zAs zAc (pv 4) (pv 5) (fun _ _=>rfl)) zA2)))) zA2))) (zB6 zCg (pv 4) (zBm (zAg zBf (pv 5) zA5)) zCi)))
     (zA4 (zAp (zAf op_ne (zA7 A.Gx hr rfl A.x.at_ A.x.fn.kp A.x.bind .nil (passC calmM) (zA0 (pv 3) (zA0 (pv 6) zA2))) zA6 (nomark _))
     (zA4 (zAd zBn)) zAb)))))))))
     (zA4 (zAd zBn)),?_⟩
  have small:∀ n:Nat,n≤1000→n≤sizeLine:=fun n h=>Nat.le_of_lt (small1000 h)
  obtain ⟨ms,ems,hms⟩:=cut_ints ns none (some 40)
  refine ⟨_,rfl,_,rfl,a,_,rfl,hS,fun p hp=>?_⟩
  rw [ems]
  refine ⟨small 1 (by decide),fun p1 hp1=>⟨p,p1,_,_,rfl,rfl,(Same.new hp1) _ _ zA1,zA1,by rw [List.length_map];exact small _ (by show ms.length + 1≤1000;omega),fun p2 hp2=>?_⟩⟩
  rw [show ms.map V.int++[V.int 0]=(ms++[0]).map V.int by rw [List.map_append];rfl]
  generalize ms++[0]=zs
  refine ⟨p2,rfl,⟨_,SqL.of zA1⟩,for_list (K:=K) (a:=p2) (xs:=zs.map V.int) (fun i σ H2=>∃ u1 u2 u3 u4 u5 u6:Option V,σ = [some (.ref a),u1,u2,u3,u4,u5,u6]∧H2 p2=some (.lst (zs.map V.int))) ⟨none,none,none,none,none,none,rfl,zA1⟩ (fun i σ H2 _ hz=>by obtain ⟨_,_,_,_,_,_,_,q⟩:=hz;exact SqL.of q) ?_ ?_⟩
  ·rintro i y σ H2 hi ⟨u1,u2,u3,u4,u5,u6,rfl,hp2'⟩
   rw [List.getElem?_map] at hi
   obtain ⟨z,_,rfl⟩:=Option.map_eq_some_iff.mp hi
   refine ⟨_,rfl,z,rfl,fun q H3 hq S3 s3 k3=>?_⟩
   have pq:p2≠q:=zA8 hp2' hq
   have hp3:=s3 _ _ hp2'
   refine ⟨small 3 (by decide),fun lw hlw=>?_⟩
   have lwq:=S3.ne hlw
   have hp4:=(Same.new (o:=.lst [.str "make",.str "set",.str "take"]) hlw) _ _ hp3
   refine ⟨_,rfl,q,_,_,rfl,S3.look fun o e=>(Same.new hlw) _ _ e,by decide,by decide,by decide,fun r H4 r0 r1 S4 k4=>?_⟩
   obtain ⟨j,rfl⟩:∃ j:Nat,r=(j:Int):=⟨r.toNat,by omega⟩
   obtain ⟨wy,ew⟩:∃ wy:Way,([V.str "make",V.str "set",V.str "take"]:List V)[j]? = some (.str wy.nm):=by
    match j,r1 with
    | 0,_=>exact ⟨.make,rfl⟩
    | 1,_=>exact ⟨.set,rfl⟩
    | 2,_=>exact ⟨.take,rfl⟩
    | _ + 3,h=>exact absurd h (by omega)
   refine ⟨lw,_,(j:Int),_,rfl,rfl,SqL.of (by rw [k4 _ lwq];exact zA1),zBh ew,?_⟩
   have hp5:H4 p2=some (.lst (zs.map V.int)):=by rw [k4 _ pq];exact hp4
   refine ⟨_,rfl,_,rfl,q,_,wy,rfl,S4,by omega,fun l xs ds H5 hlN hl hx ok S5 f5=>?_⟩
   have hp6:=f5 _ _ hp5 pq
   have lq:l≠q:=S4.ne hlN
   have tl:=zD5 wy
   have dl:ds.length=wy.size:=by have:=zCl ok;rw [List.length_map] at this;omega
   have xl:xs.length=wy.size:=by rw [hx.length,dl]
   have s8:wy.size≤8:=by cases wy <;> decide
   have s0:0 < wy.size:=by cases wy <;> decide
   have dep:∀ d∈ds,d.depth≤3:=fun d hd=>by
    obtain ⟨i,hi,e⟩:=List.getElem_of_mem hd
    obtain ⟨t,et⟩:∃ t,(tagsOf wy)[i]? = some t:=⟨_,List.getElem?_eq_getElem (by omega)⟩
    exact tag_depth (zBt ok et (by rw [List.getElem?_map,List.getElem?_eq_getElem hi,e];rfl))
   have shp:Shaped wy (ds.map some):=fun i t et=>.inr (by
    have:i < (tagsOf wy).length:=(List.getElem?_eq_some_iff.mp et).1
    exact ⟨ds[i]'(by omega),by rw [List.getElem?_map,List.getElem?_eq_getElem (by omega)];rfl⟩)
   refine ⟨_,rfl,_,rfl,_,rfl,wy,l,xs,ds.map some,rfl,hl,xl,zDc hx.any,shp,(fun _ pm dxm H6 hpm s6 epm=>?_),fun e=>absurd (ok.symm.trans e) (by decide)⟩
   refine ⟨_,rfl,wy,pm,dxm,l,xs,ds,rfl,xl,epm,s6 _ _ hl,hx.any.mono s6,dep,fun H7 s7=>⟨_,rfl,iteF ?_⟩⟩
   have s57:=s6.trans s7
   have S7:Src H7 q _:=S5.look fun o e=>s57 _ _ e
   refine ⟨_,rfl,_,rfl,l,_,rfl,.inl (SqL.of (s57 _ _ hl)),q,_,_,rfl,S7,by omega,by omega,by omega,fun r8 H8 a0 a1 S8 k8=>?_⟩
   obtain ⟨j,rfl⟩:∃ j:Nat,r8=(j:Int):=⟨r8.toNat,by omega⟩
   have jl:j < xs.length:=by omega
   have f8:∀ b o,H5 b=some o→b≠q→H8 b=some o:=fun b o e nb=>by rw [k8 b nb];exact s57 _ _ e
   have hl8:=f8 _ _ hl lq
   have hx8:HasAll (fun a=>a≠q) H8 xs ds:=hx.frame fun b o g e=>⟨S4.ne g.1,f8 _ _ e (S4.ne g.1)⟩
   have hp8:=f8 _ _ hp6 pq
   refine ⟨_,rfl,_,rfl,_,rfl,l,_,rfl,SqL.of hl8,fun l9 h9=>?_⟩
   rw [cut_take (Nat.le_of_lt jl)]
   have s9:Same H8 (upd H8 l9 (.lst (xs.take j))):=Same.new h9
   have e9:(upd H8 l9 (.lst (xs.take j))) l9=some (.lst (xs.take j)):=zA1
   have l9q:=S8.ne h9
   generalize upd H8 l9 (.lst (xs.take j))=H9 at s9 e9 ⊢
   refine ⟨_,rfl,_,rfl,wy,rfl,fun lt H10 hlt s10 et10=>?_⟩
   obtain ⟨t,et⟩:∃ t,(tagsOf wy)[j]? = some t:=⟨_,List.getElem?_eq_getElem (by omega)⟩
   obtain ⟨xj,exj⟩:∃ xj,xs[j]? = some xj:=⟨_,List.getElem?_eq_getElem jl⟩
   obtain ⟨dj,edj,hdj⟩:=hx8.get exj
   have s910:=s9.trans s10
   have S10:Src H10 q _:=S8.look fun o e=>s910 _ _ e
   refine ⟨_,rfl,lt,_,(j:Int),_,rfl,rfl,SqL.of et10,zBh (show ((tagsOf wy).map tagV)[j]? = some (tagV t) by rw [List.getElem?_map,et];rfl),_,rfl,_,rfl,l,_,(j:Int),_,rfl,rfl,SqL.of (s910 _ _ hl8),zBh exj,?_⟩
   refine ⟨q,_,t,xj,rfl,S10,by omega,fun u o H11 hu od S11 f11=>⟨small 1 (by decide),fun l12 h12=>?_⟩⟩
   have e9':=f11 _ _ (s10 _ _ e9) l9q
   refine ⟨l9,l12,_,_,rfl,rfl,(Same.new h12) _ _ e9',zA1,small _ (by rw [List.length_take];show _ + 1≤1000;omega),fun l13 h13=>?_⟩
   have s13:Same H11 (upd (upd H11 l12 (.lst [u])) l13 (.lst (xs.take j++[u]))):=(Same.new h12).trans (Same.new h13)
   have e13:(upd (upd H11 l12 (.lst [u])) l13 (.lst (xs.take j++[u]))) l13=some (.lst (xs.take j++[u])):=zA1
   generalize upd (upd H11 l12 (.lst [u])) l13 (.lst (xs.take j++[u]))=H13 at s13 e13 ⊢
   have f13:∀ b o,H8 b=some o→b≠q→H13 b=some o:=fun b o e nb=>s13 _ _ (f11 _ _ (s910 _ _ e) nb)
   refine ⟨_,rfl,_,rfl,_,_,rfl,rfl,_,rfl,l,_,rfl,SqL.of (f13 _ _ hl8 lq),fun l14 h14=>?_⟩
   rw [show ((j:Int) + 1)=((j + 1:Nat):Int) by push_cast;rfl,cut_drop jl]
   refine ⟨l13,l14,_,_,rfl,rfl,(Same.new h14) _ _ e13,zA1,small _ (by rw [List.length_append,List.length_take,List.length_drop];show _ + 1 + _≤1000;omega),fun l15 h15=>?_⟩
   rw [set_split jl]
   have s15:Same H13 (upd (upd H13 l14 (.lst (xs.drop (j + 1)))) l15 (.lst (xs.set j u))):=(Same.new h14).trans (Same.new h15)
   have e15:(upd (upd H13 l14 (.lst (xs.drop (j + 1)))) l15 (.lst (xs.set j u))) l15=some (.lst (xs.set j u)):=zA1
   generalize upd (upd H13 l14 (.lst (xs.drop (j + 1)))) l15 (.lst (xs.set j u))=H15 at s15 e15 ⊢
   have f15:∀ b o,H8 b=some o→b≠q→H15 b=some o:=fun b o e nb=>s15 _ _ (f13 _ _ e nb)
   have hu15:=(hu.mono s13).mono s15
   have px:Paired (HasX H15) (xs.set j u) ((ds.map some).set j o):=zCy hu15 (zDc (hx8.frame fun b o g e=>⟨trivial,f15 _ _ e g⟩))
   have sh2:Shaped wy ((ds.map some).set j o):=fun i t' et'=>by
    by_cases c:j=i
    ·subst c
     rw [et] at et'
     cases et'
     cases t with
     | state=>exact .inl rfl
     | owner =>
      have od:if decide (xj=.non)=true then ∃ d,o=some d∧isNone d=false else ∃ d,o=some d∧wholeFrom 1 d=false:=od
      split at od
      ·obtain ⟨d,e,_⟩:=od;exact .inr ⟨d,by rw [List.getElem?_set_self (by rw [List.length_map];omega),e]⟩
      ·obtain ⟨d,e,_⟩:=od;exact .inr ⟨d,by rw [List.getElem?_set_self (by rw [List.length_map];omega),e]⟩
     | word=>obtain ⟨_,d,e⟩:=od;exact .inr ⟨d,by rw [List.getElem?_set_self (by rw [List.length_map];omega),e]⟩
     | number=>obtain ⟨_,d,e⟩:=od;exact .inr ⟨d,by rw [List.getElem?_set_self (by rw [List.length_map];omega),e]⟩
     | wishing=>obtain ⟨_,d,e⟩:=od;exact .inr ⟨d,by rw [List.getElem?_set_self (by rw [List.length_map];omega),e]⟩
     | thing=>obtain ⟨_,d,e⟩:=od;exact .inr ⟨d,by rw [List.getElem?_set_self (by rw [List.length_map];omega),e]⟩
     | mark=>obtain ⟨_,d,e⟩:=od;exact .inr ⟨d,by rw [List.getElem?_set_self (by rw [List.length_map];omega),e]⟩
    ·rw [List.getElem?_set_ne c]
     exact shp i t' et'
   refine ⟨_,rfl,_,rfl,wy,l15,xs.set j u,(ds.map some).set j o,rfl,e15,by rw [List.length_set];exact xl,px,sh2,okF_spoilt ok et edj hdj od,fun H16 s16=>⟨rfl,_,rfl,iteBF (by decide +kernel) ?_⟩⟩
   exact ⟨_,_,_,_,_,_,rfl,s16 _ _ (f15 _ _ hp8 pq)⟩
  ·rintro σ H2 ⟨u1,u2,u3,u4,u5,u6,rfl,_⟩
   exact k _
end
end L2.W
namespace L2.W
open PySem My
theorem ln1 {α : Type}{us:List α} (h:us.length=1):∃ a,us=[a]:=List.length_eq_one_iff.mp h
theorem ln2 {α : Type}{us:List α} (h:us.length=2):∃ a0 a1,us=[a0,a1]:=by
 cases us with
 | nil=>cases h
 | cons a0 r=>obtain ⟨a1,rfl⟩:=ln1 (show r.length=1 from Nat.succ.inj h);exact ⟨a0,a1,rfl⟩
theorem ln3 {α : Type}{us:List α} (h:us.length=3):∃ a0 a1 a2,us=[a0,a1,a2]:=by
 cases us with
 | nil=>cases h
 | cons a0 r=>obtain ⟨a1,a2,rfl⟩:=ln2 (show r.length=2 from Nat.succ.inj h);exact ⟨a0,a1,a2,rfl⟩
theorem ln4 {α : Type}{us:List α} (h:us.length=4):∃ a0 a1 a2 a3,us=[a0,a1,a2,a3]:=by
 cases us with
 | nil=>cases h
 | cons a0 r=>obtain ⟨a1,a2,a3,rfl⟩:=ln3 (show r.length=3 from Nat.succ.inj h);exact ⟨a0,a1,a2,a3,rfl⟩
theorem ln5 {α : Type}{us:List α} (h:us.length=5):∃ a0 a1 a2 a3 a4,us=[a0,a1,a2,a3,a4]:=by
 cases us with
 | nil=>cases h
 | cons a0 r=>obtain ⟨a1,a2,a3,a4,rfl⟩:=ln4 (show r.length=4 from Nat.succ.inj h);exact ⟨a0,a1,a2,a3,a4,rfl⟩
theorem ln6 {α : Type}{us:List α} (h:us.length=6):∃ a0 a1 a2 a3 a4 a5,us=[a0,a1,a2,a3,a4,a5]:=by
 cases us with
 | nil=>cases h
 | cons a0 r=>obtain ⟨a1,a2,a3,a4,a5,rfl⟩:=ln5 (show r.length=5 from Nat.succ.inj h);exact ⟨a0,a1,a2,a3,a4,a5,rfl⟩
theorem ln7 {α : Type}{us:List α} (h:us.length=7):∃ a0 a1 a2 a3 a4 a5 a6,us=[a0,a1,a2,a3,a4,a5,a6]:=by
 cases us with
 | nil=>cases h
 | cons a0 r=>obtain ⟨a1,a2,a3,a4,a5,a6,rfl⟩:=ln6 (show r.length=6 from Nat.succ.inj h);exact ⟨a0,a1,a2,a3,a4,a5,a6,rfl⟩
theorem ln8 {α : Type}{us:List α} (h:us.length=8):∃ a0 a1 a2 a3 a4 a5 a6 a7,us=[a0,a1,a2,a3,a4,a5,a6,a7]:=by
 cases us with
 | nil=>cases h
 | cons a0 r=>obtain ⟨a1,a2,a3,a4,a5,a6,a7,rfl⟩:=ln7 (show r.length=7 from Nat.succ.inj h);exact ⟨a0,a1,a2,a3,a4,a5,a6,a7,rfl⟩
theorem ln9 {α : Type}{us:List α} (h:us.length=9):∃ a0 a1 a2 a3 a4 a5 a6 a7 a8,us=[a0,a1,a2,a3,a4,a5,a6,a7,a8]:=by
 cases us with
 | nil=>cases h
 | cons a0 r=>obtain ⟨a1,a2,a3,a4,a5,a6,a7,a8,rfl⟩:=ln8 (show r.length=8 from Nat.succ.inj h);exact ⟨a0,a1,a2,a3,a4,a5,a6,a7,a8,rfl⟩
theorem all_mk {l:PySem.W.OpenLaw}{w:World}{K:PySem.W.Frag}{h:Heap}{mg:Str→Option Value}{fx:Addr} (X:K.In h) (G:h.Ns mainGlobals mg) (hfa:mg "law" = some (.ref fx))
  {CM CS CT CDd CD CR c1 c2 c3 c4 c5 c6 c7 c8 c9 c10 c11 c12 c13:Addr}{t0 t1 t2 t3:Tok}
  {fN:Addr}{ocN kVN dcN pmN cdN ctN:Value}{odN anN:Option Addr}{slN:Array (Option Value)}
  {fW:Addr}{ocW kVW dcW pmW cdW ctW:Value}{odW anW:Option Addr}{slW:Array (Option Value)}
  {fWf:Addr}{ocWf kVWf dcWf pmWf cdWf ctWf:Value}{odWf anWf:Option Addr}{slWf:Array (Option Value)}
  {fWr:Addr}{ocWr kVWr dcWr pmWr cdWr ctWr:Value}{odWr anWr:Option Addr}{slWr:Array (Option Value)}
  {fH:Addr}{ocH kVH dcH pmH cdH ctH:Value}{odH anH:Option Addr}{slH:Array (Option Value)}
  {fCm:Addr}{ocCm kVCm dcCm pmCm cdCm ctCm:Value}{odCm anCm:Option Addr}{slCm:Array (Option Value)}
  {fCo:Addr}{ocCo kVCo dcCo pmCo cdCo ctCo:Value}{odCo anCo:Option Addr}{slCo:Array (Option Value)}
  {fm:Addr}{ocm kVm dcm pmm cdm ctm:Value}{odm anm:Option Addr}{slm:Array (Option Value)}
  {fs:Addr}{ocs kVs dcs pms cds cts:Value}{ods ans:Option Addr}{sls:Array (Option Value)}
  {fn:Addr}{ocn kVn dcn pmn cdn ctn:Value}{odn ann:Option Addr}{sln:Array (Option Value)}
  {fwd:Addr}{ocwd kVwd dcwd pmwd cdwd ctwd:Value}{odwd anwd:Option Addr}{slwd:Array (Option Value)}
  {fnu:Addr}{ocnu kVnu dcnu pmnu cdnu ctnu:Value}{odnu annu:Option Addr}{slnu:Array (Option Value)}
  {fnm:Addr}{ocnm kVnm dcnm pmnm cdnm ctnm:Value}{odnm annm:Option Addr}{slnm:Array (Option Value)}
  {ftg:Addr}{octg kVtg dctg pmtg cdtg cttg:Value}{odtg antg:Option Addr}{sltg:Array (Option Value)}
  {ffl:Addr}{ocfl kVfl dcfl pmfl cdfl ctfl:Value}{odfl anfl:Option Addr}{slfl:Array (Option Value)}
  {fod:Addr}{ocod kVod dcod pmod cdod ctod:Value}{odod anod:Option Addr}{slod:Array (Option Value)}
  {fmd:Addr}{ocmd kVmd dcmd pmmd cdmd ctmd:Value}{odmd anmd:Option Addr}{slmd:Array (Option Value)}
  {frf:Addr}{ocrf kVrf dcrf pmrf cdrf ctrf:Value}{odrf anrf:Option Addr}{slrf:Array (Option Value)}
  {frt:Addr}{ocrt kVrt dcrt pmrt cdrt ctrt:Value}{odrt anrt:Option Addr}{slrt:Array (Option Value)}
  {fL:Addr}{ocL kVL dcL pmL cdL ctL:Value}{odL anL:Option Addr}{slL:Array (Option Value)}
  {fDi:Addr}{ocDi kVDi dcDi pmDi cdDi ctDi:Value}{odDi anDi:Option Addr}{slDi:Array (Option Value)}
  {fMi:Addr}{ocMi kVMi dcMi pmMi cdMi ctMi:Value}{odMi anMi:Option Addr}{slMi:Array (Option Value)}
  {fSi:Addr}{ocSi kVSi dcSi pmSi cdSi ctSi:Value}{odSi anSi:Option Addr}{slSi:Array (Option Value)}
  {fTi:Addr}{ocTi kVTi dcTi pmTi cdTi ctTi:Value}{odTi anTi:Option Addr}{slTi:Array (Option Value)}
  {fMp:Addr}{ocMp kVMp dcMp pmMp cdMp ctMp:Value}{odMp anMp:Option Addr}{slMp:Array (Option Value)}
  {fSp:Addr}{ocSp kVSp dcSp pmSp cdSp ctSp:Value}{odSp anSp:Option Addr}{slSp:Array (Option Value)}
  {fTp:Addr}{ocTp kVTp dcTp pmTp cdTp ctTp:Value}{odTp anTp:Option Addr}{slTp:Array (Option Value)}
  (xaN:PySem.W.nsIn K mainGlobals "is_name" = some (some (.ref fN))) (xlN:K.lookup fN=some ⟨ocN,odN,.func (PySem.W.fnOf "is_name" "is_name" (defArgs sIsName) (defBody sIsName) (defScope sIsName) .none kVN dcN pmN anN cdN ctN),slN⟩) (xcN:PySem.W.codeIn K cdN "is_name" = true) (xkN:PySem.W.keepIn K (.ref fN)=true)
  (xaW:PySem.W.nsIn K mainGlobals "is_whole" = some (some (.ref fW))) (xlW:K.lookup fW=some ⟨ocW,odW,.func (PySem.W.fnOf "is_whole" "is_whole" (defArgs sIsWhole) (defBody sIsWhole) (defScope sIsWhole) .none kVW dcW pmW anW cdW ctW),slW⟩) (xcW:PySem.W.codeIn K cdW "is_whole" = true) (xkW:PySem.W.keepIn K (.ref fW)=true)
  (xaWf:PySem.W.nsIn K mainGlobals "is_whole_from" = some (some (.ref fWf))) (xlWf:K.lookup fWf=some ⟨ocWf,odWf,.func (PySem.W.fnOf "is_whole_from" "is_whole_from" (defArgs sWholeFrom) (defBody sWholeFrom) (defScope sWholeFrom) .none kVWf dcWf pmWf anWf cdWf ctWf),slWf⟩) (xcWf:PySem.W.codeIn K cdWf "is_whole_from" = true) (xkWf:PySem.W.keepIn K (.ref fWf)=true)
  (xaWr:PySem.W.nsIn K mainGlobals "is_written_number" = some (some (.ref fWr))) (xlWr:K.lookup fWr=some ⟨ocWr,odWr,.func (PySem.W.fnOf "is_written_number" "is_written_number" (defArgs sWritten) (defBody sWritten) (defScope sWritten) .none kVWr dcWr pmWr anWr cdWr ctWr),slWr⟩) (xcWr:PySem.W.codeIn K cdWr "is_written_number" = true) (xkWr:PySem.W.keepIn K (.ref fWr)=true)
  (xaH:PySem.W.nsIn K mainGlobals "has_form" = some (some (.ref fH))) (xlH:K.lookup fH=some ⟨ocH,odH,.func (PySem.W.fnOf "has_form" "has_form" (defArgs sHasForm) (defBody sHasForm) (defScope sHasForm) .none kVH dcH pmH anH cdH ctH),slH⟩) (xcH:PySem.W.codeIn K cdH "has_form" = true) (xkH:PySem.W.keepIn K (.ref fH)=true)
  (xaCm:PySem.W.nsIn K mainGlobals "check_mark" = some (some (.ref fCm))) (xlCm:K.lookup fCm=some ⟨ocCm,odCm,.func (PySem.W.fnOf "check_mark" "check_mark" (defArgs sCheckMark) (defBody sCheckMark) (defScope sCheckMark) .none kVCm dcCm pmCm anCm cdCm ctCm),slCm⟩) (xcCm:PySem.W.codeIn K cdCm "check_mark" = true) (xkCm:PySem.W.keepIn K (.ref fCm)=true)
  (xaCo:PySem.W.nsIn K mainGlobals "check_owner_mark" = some (some (.ref fCo))) (xlCo:K.lookup fCo=some ⟨ocCo,odCo,.func (PySem.W.fnOf "check_owner_mark" "check_owner_mark" (defArgs sCheckOwner) (defBody sCheckOwner) (defScope sCheckOwner) .none kVCo dcCo pmCo anCo cdCo ctCo),slCo⟩) (xcCo:PySem.W.codeIn K cdCo "check_owner_mark" = true) (xkCo:PySem.W.keepIn K (.ref fCo)=true)
  (xam:PySem.W.nsIn K mainGlobals "_law_mixed" = some (some (.ref fm))) (xlm:K.lookup fm=some ⟨ocm,odm,.func (PySem.W.fnOf "_law_mixed" "_law_mixed" (defArgs sMixed) (defBody sMixed) (defScope sMixed) .none kVm dcm pmm anm cdm ctm),slm⟩) (xcm:PySem.W.codeIn K cdm "_law_mixed" = true) (xkm:PySem.W.keepIn K (.ref fm)=true)
  (xas:PySem.W.nsIn K mainGlobals "_law_source" = some (some (.ref fs))) (xls:K.lookup fs=some ⟨ocs,ods,.func (PySem.W.fnOf "_law_source" "_law_source" (defArgs sSource) (defBody sSource) (defScope sSource) .none kVs dcs pms ans cds cts),sls⟩) (xcs:PySem.W.codeIn K cds "_law_source" = true) (xks:PySem.W.keepIn K (.ref fs)=true)
  (xan:PySem.W.nsIn K mainGlobals "_law_next" = some (some (.ref fn))) (xln:K.lookup fn=some ⟨ocn,odn,.func (PySem.W.fnOf "_law_next" "_law_next" (defArgs sNext) (defBody sNext) (defScope sNext) .none kVn dcn pmn ann cdn ctn),sln⟩) (xcn:PySem.W.codeIn K cdn "_law_next" = true) (xkn:PySem.W.keepIn K (.ref fn)=true)
  (xawd:PySem.W.nsIn K mainGlobals "_law_word" = some (some (.ref fwd))) (xlwd:K.lookup fwd=some ⟨ocwd,odwd,.func (PySem.W.fnOf "_law_word" "_law_word" (defArgs sWord) (defBody sWord) (defScope sWord) .none kVwd dcwd pmwd anwd cdwd ctwd),slwd⟩) (xcwd:PySem.W.codeIn K cdwd "_law_word" = true) (xkwd:PySem.W.keepIn K (.ref fwd)=true)
  (xanu:PySem.W.nsIn K mainGlobals "_law_number" = some (some (.ref fnu))) (xlnu:K.lookup fnu=some ⟨ocnu,odnu,.func (PySem.W.fnOf "_law_number" "_law_number" (defArgs sNumber) (defBody sNumber) (defScope sNumber) .none kVnu dcnu pmnu annu cdnu ctnu),slnu⟩) (xcnu:PySem.W.codeIn K cdnu "_law_number" = true) (xknu:PySem.W.keepIn K (.ref fnu)=true)
  (xanm:PySem.W.nsIn K mainGlobals "_law_name" = some (some (.ref fnm))) (xlnm:K.lookup fnm=some ⟨ocnm,odnm,.func (PySem.W.fnOf "_law_name" "_law_name" (defArgs sName) (defBody sName) (defScope sName) .none kVnm dcnm pmnm annm cdnm ctnm),slnm⟩) (xcnm:PySem.W.codeIn K cdnm "_law_name" = true) (xknm:PySem.W.keepIn K (.ref fnm)=true)
  (xatg:PySem.W.nsIn K mainGlobals "_law_tags" = some (some (.ref ftg))) (xltg:K.lookup ftg=some ⟨octg,odtg,.func (PySem.W.fnOf "_law_tags" "_law_tags" (defArgs sTags) (defBody sTags) (defScope sTags) .none kVtg dctg pmtg antg cdtg cttg),sltg⟩) (xctg:PySem.W.codeIn K cdtg "_law_tags" = true) (xktg:PySem.W.keepIn K (.ref ftg)=true)
  (xafl:PySem.W.nsIn K mainGlobals "_law_fields" = some (some (.ref ffl))) (xlfl:K.lookup ffl=some ⟨ocfl,odfl,.func (PySem.W.fnOf "_law_fields" "_law_fields" (defArgs sLFields) (defBody sLFields) (defScope sLFields) .none kVfl dcfl pmfl anfl cdfl ctfl),slfl⟩) (xcfl:PySem.W.codeIn K cdfl "_law_fields" = true) (xkfl:PySem.W.keepIn K (.ref ffl)=true)
  (xaod:PySem.W.nsIn K mainGlobals "_law_odd" = some (some (.ref fod))) (xlod:K.lookup fod=some ⟨ocod,odod,.func (PySem.W.fnOf "_law_odd" "_law_odd" (defArgs sOdd) (defBody sOdd) (defScope sOdd) .none kVod dcod pmod anod cdod ctod),slod⟩) (xcod:PySem.W.codeIn K cdod "_law_odd" = true) (xkod:PySem.W.keepIn K (.ref fod)=true)
  (xamd:PySem.W.nsIn K mainGlobals "_law_made" = some (some (.ref fmd))) (xlmd:K.lookup fmd=some ⟨ocmd,odmd,.func (PySem.W.fnOf "_law_made" "_law_made" (defArgs sMade) (defBody sMade) (defScope sMade) .none kVmd dcmd pmmd anmd cdmd ctmd),slmd⟩) (xcmd:PySem.W.codeIn K cdmd "_law_made" = true) (xkmd:PySem.W.keepIn K (.ref fmd)=true)
  (xarf:PySem.W.nsIn K mainGlobals "_law_refused" = some (some (.ref frf))) (xlrf:K.lookup frf=some ⟨ocrf,odrf,.func (PySem.W.fnOf "_law_refused" "_law_refused" (defArgs sRefused) (defBody sRefused) (defScope sRefused) .none kVrf dcrf pmrf anrf cdrf ctrf),slrf⟩) (xcrf:PySem.W.codeIn K cdrf "_law_refused" = true) (xkrf:PySem.W.keepIn K (.ref frf)=true)
  (xart:PySem.W.nsIn K mainGlobals "_law_right" = some (some (.ref frt))) (xlrt:K.lookup frt=some ⟨ocrt,odrt,.func (PySem.W.fnOf "_law_right" "_law_right" (defArgs sRight) (defBody sRight) (defScope sRight) .none kVrt dcrt pmrt anrt cdrt ctrt),slrt⟩) (xcrt:PySem.W.codeIn K cdrt "_law_right" = true) (xkrt:PySem.W.keepIn K (.ref frt)=true)
  (xaL:PySem.W.nsIn K mainGlobals "law" = some (some (.ref fL))) (xlL:K.lookup fL=some ⟨ocL,odL,.func (PySem.W.fnOf "law" "law" (defArgs sLaw) (defBody sLaw) (defScope sLaw) .none kVL dcL pmL anL cdL ctL),slL⟩) (xcL:PySem.W.codeIn K cdL "law" = true) (xkL:PySem.W.keepIn K (.ref fL)=true)
  (aCM:PySem.W.nsIn K mainGlobals "Make" = some (some (.ref CM)))
  (aCS:PySem.W.nsIn K mainGlobals "Set" = some (some (.ref CS)))
  (aCT:PySem.W.nsIn K mainGlobals "Take" = some (some (.ref CT)))
  (aCDd:PySem.W.nsIn K mainGlobals "Deed" = some (some (.ref CDd)))
  (xaDi:PySem.W.findIn K (.ref CDd) "__init__" = some (some (.ref fDi))) (xiDi:PySem.W.isFn K (.ref fDi)=true) (xlDi:K.lookup fDi=some ⟨ocDi,odDi,.func (PySem.W.fnOf "__init__" "Deed.__init__" (defArgs sInitD) (defBody sInitD) (defScope sInitD) .none kVDi dcDi pmDi anDi cdDi ctDi),slDi⟩) (xcDi:PySem.W.codeIn K cdDi "Deed.__init__" = true) (xkDi:PySem.W.keepIn K (.ref fDi)=true)
  (xaMi:PySem.W.findIn K (.ref CM) "__init__" = some (some (.ref fMi))) (xiMi:PySem.W.isFn K (.ref fMi)=true) (xlMi:K.lookup fMi=some ⟨ocMi,odMi,.func (PySem.W.fnOf "__init__" "Make.__init__" (defArgs sInitM) (defBody sInitM) (defScope sInitM) .none kVMi dcMi pmMi anMi cdMi ctMi),slMi⟩) (xcMi:PySem.W.codeIn K cdMi "Make.__init__" = true) (xkMi:PySem.W.keepIn K (.ref fMi)=true)
  (xaSi:PySem.W.findIn K (.ref CS) "__init__" = some (some (.ref fSi))) (xiSi:PySem.W.isFn K (.ref fSi)=true) (xlSi:K.lookup fSi=some ⟨ocSi,odSi,.func (PySem.W.fnOf "__init__" "Set.__init__" (defArgs sInitS) (defBody sInitS) (defScope sInitS) .none kVSi dcSi pmSi anSi cdSi ctSi),slSi⟩) (xcSi:PySem.W.codeIn K cdSi "Set.__init__" = true) (xkSi:PySem.W.keepIn K (.ref fSi)=true)
  (xaTi:PySem.W.findIn K (.ref CT) "__init__" = some (some (.ref fTi))) (xiTi:PySem.W.isFn K (.ref fTi)=true) (xlTi:K.lookup fTi=some ⟨ocTi,odTi,.func (PySem.W.fnOf "__init__" "Take.__init__" (defArgs sInitT) (defBody sInitT) (defScope sInitT) .none kVTi dcTi pmTi anTi cdTi ctTi),slTi⟩) (xcTi:PySem.W.codeIn K cdTi "Take.__init__" = true) (xkTi:PySem.W.keepIn K (.ref fTi)=true)
  (xaMp:PySem.W.findIn K (.ref CM) "parts" = some (some (.ref fMp))) (xiMp:PySem.W.isFn K (.ref fMp)=true) (xlMp:K.lookup fMp=some ⟨ocMp,odMp,.func (PySem.W.fnOf "parts" "Make.parts" (defArgs sPartsM) (defBody sPartsM) (defScope sPartsM) .none kVMp dcMp pmMp anMp cdMp ctMp),slMp⟩) (xcMp:PySem.W.codeIn K cdMp "Make.parts" = true) (xkMp:PySem.W.keepIn K (.ref fMp)=true)
  (xaSp:PySem.W.findIn K (.ref CS) "parts" = some (some (.ref fSp))) (xiSp:PySem.W.isFn K (.ref fSp)=true) (xlSp:K.lookup fSp=some ⟨ocSp,odSp,.func (PySem.W.fnOf "parts" "Set.parts" (defArgs sPartsS) (defBody sPartsS) (defScope sPartsS) .none kVSp dcSp pmSp anSp cdSp ctSp),slSp⟩) (xcSp:PySem.W.codeIn K cdSp "Set.parts" = true) (xkSp:PySem.W.keepIn K (.ref fSp)=true)
  (xaTp:PySem.W.findIn K (.ref CT) "parts" = some (some (.ref fTp))) (xiTp:PySem.W.isFn K (.ref fTp)=true) (xlTp:K.lookup fTp=some ⟨ocTp,odTp,.func (PySem.W.fnOf "parts" "Take.parts" (defArgs sPartsT) (defBody sPartsT) (defScope sPartsT) .none kVTp dcTp pmTp anTp cdTp ctTp),slTp⟩) (xcTp:PySem.W.codeIn K cdTp "Take.parts" = true) (xkTp:PySem.W.keepIn K (.ref fTp)=true)
  (pgCM:PySem.W.plainGet K CM Str.empty=true) (hdCM:PySem.W.hasDictIn K CM=true) (poCM:PySem.W.plainOver K CM=true) (saCM:PySem.W.findIn K (.ref CM) "__setattr__" = some (some (.builtin "object.__setattr__"))) (mkCM:PySem.W.makesIn K CM=true) (kcCM:PySem.W.keepIn K (.ref CM)=true)
  (no0CM:PySem.W.findIn K (.ref CM) "hand" = some none)
  (no1CM:PySem.W.findIn K (.ref CM) "number" = some none)
  (no2CM:PySem.W.findIn K (.ref CM) "wishing" = some none)
  (no3CM:PySem.W.findIn K (.ref CM) "name" = some none)
  (no4CM:PySem.W.findIn K (.ref CM) "mark" = some none)
  (no5CM:PySem.W.findIn K (.ref CM) "owner_mark" = some none)
  (no6CM:PySem.W.findIn K (.ref CM) "state" = some none)
  (no7CM:PySem.W.findIn K (.ref CM) "field" = some none)
  (no8CM:PySem.W.findIn K (.ref CM) "value" = some none)
  (haCM:PySem.W.findIn K (.ref CM) "__class__" = some (some (.builtin "object.__class__"))) (hmCM:PySem.W.mroIn K CM (.type "object")=some true)
  (kCMCM:PySem.W.kitOne K (.ref CM) (.ref CM)=some true)
  (kCMCS:PySem.W.kitOne K (.ref CM) (.ref CS)=some false)
  (kCMCT:PySem.W.kitOne K (.ref CM) (.ref CT)=some false)
  (kCMCDd:PySem.W.kitOne K (.ref CM) (.ref CDd)=some true)
  (pgCS:PySem.W.plainGet K CS Str.empty=true) (hdCS:PySem.W.hasDictIn K CS=true) (poCS:PySem.W.plainOver K CS=true) (saCS:PySem.W.findIn K (.ref CS) "__setattr__" = some (some (.builtin "object.__setattr__"))) (mkCS:PySem.W.makesIn K CS=true) (kcCS:PySem.W.keepIn K (.ref CS)=true)
  (no0CS:PySem.W.findIn K (.ref CS) "hand" = some none)
  (no1CS:PySem.W.findIn K (.ref CS) "number" = some none)
  (no2CS:PySem.W.findIn K (.ref CS) "wishing" = some none)
  (no3CS:PySem.W.findIn K (.ref CS) "name" = some none)
  (no4CS:PySem.W.findIn K (.ref CS) "mark" = some none)
  (no5CS:PySem.W.findIn K (.ref CS) "owner_mark" = some none)
  (no6CS:PySem.W.findIn K (.ref CS) "state" = some none)
  (no7CS:PySem.W.findIn K (.ref CS) "field" = some none)
  (no8CS:PySem.W.findIn K (.ref CS) "value" = some none)
  (haCS:PySem.W.findIn K (.ref CS) "__class__" = some (some (.builtin "object.__class__"))) (hmCS:PySem.W.mroIn K CS (.type "object")=some true)
  (kCSCM:PySem.W.kitOne K (.ref CS) (.ref CM)=some false)
  (kCSCS:PySem.W.kitOne K (.ref CS) (.ref CS)=some true)
  (kCSCT:PySem.W.kitOne K (.ref CS) (.ref CT)=some false)
  (kCSCDd:PySem.W.kitOne K (.ref CS) (.ref CDd)=some true)
  (pgCT:PySem.W.plainGet K CT Str.empty=true) (hdCT:PySem.W.hasDictIn K CT=true) (poCT:PySem.W.plainOver K CT=true) (saCT:PySem.W.findIn K (.ref CT) "__setattr__" = some (some (.builtin "object.__setattr__"))) (mkCT:PySem.W.makesIn K CT=true) (kcCT:PySem.W.keepIn K (.ref CT)=true)
  (no0CT:PySem.W.findIn K (.ref CT) "hand" = some none)
  (no1CT:PySem.W.findIn K (.ref CT) "number" = some none)
  (no2CT:PySem.W.findIn K (.ref CT) "wishing" = some none)
  (no3CT:PySem.W.findIn K (.ref CT) "name" = some none)
  (no4CT:PySem.W.findIn K (.ref CT) "mark" = some none)
  (no5CT:PySem.W.findIn K (.ref CT) "owner_mark" = some none)
  (no6CT:PySem.W.findIn K (.ref CT) "state" = some none)
  (no7CT:PySem.W.findIn K (.ref CT) "field" = some none)
  (no8CT:PySem.W.findIn K (.ref CT) "value" = some none)
  (haCT:PySem.W.findIn K (.ref CT) "__class__" = some (some (.builtin "object.__class__"))) (hmCT:PySem.W.mroIn K CT (.type "object")=some true)
  (kCTCM:PySem.W.kitOne K (.ref CT) (.ref CM)=some false)
  (kCTCS:PySem.W.kitOne K (.ref CT) (.ref CS)=some false)
  (kCTCT:PySem.W.kitOne K (.ref CT) (.ref CT)=some true)
  (kCTCDd:PySem.W.kitOne K (.ref CT) (.ref CDd)=some true)
  (hn:PySem.W.specialIn K (.builtin "object.__class__") "__get__" = some (some (.builtin "getset_descriptor.__get__"))) (htk:PySem.W.takesIn K (.builtin "object.__class__")=some true)
  (rdD:PySem.W.readsIn K CDd (.type "type")=true) (fcD:PySem.W.findCls K (.ref CDd) (.type "type") "__init__" = some (.val (.ref fDi))) (hdD:PySem.W.handedIn (.ref fDi)=true) (spD:PySem.W.specialIn K (.ref CDd) "__getattribute__" = some (some (.builtin "type.__getattribute__")))
  (bCD:PySem.W.nsIn K mainGlobals "NoDeed" = some (some (.ref CD)))
  (bCR:PySem.W.nsIn K mainGlobals "RestError" = some (some (.ref CR)))
  (bc1:PySem.W.nsIn K mainGlobals "NoKind" = some (some (.ref c1)))
  (bc2:PySem.W.nsIn K mainGlobals "TooMany" = some (some (.ref c2)))
  (bc3:PySem.W.nsIn K mainGlobals "NoName" = some (some (.ref c3)))
  (bc4:PySem.W.nsIn K mainGlobals "NoWish" = some (some (.ref c4)))
  (bc5:PySem.W.nsIn K mainGlobals "NoLimit" = some (some (.ref c5)))
  (bc6:PySem.W.nsIn K mainGlobals "NoState" = some (some (.ref c6)))
  (bc7:PySem.W.nsIn K mainGlobals "NoPlace" = some (some (.ref c7)))
  (bc8:PySem.W.nsIn K mainGlobals "NoRule" = some (some (.ref c8)))
  (bc9:PySem.W.nsIn K mainGlobals "NoStep" = some (some (.ref c9)))
  (bc10:PySem.W.nsIn K mainGlobals "NoSituation" = some (some (.ref c10)))
  (bc11:PySem.W.nsIn K mainGlobals "NoRound" = some (some (.ref c11)))
  (bc12:PySem.W.nsIn K mainGlobals "NoText" = some (some (.ref c12)))
  (bc13:PySem.W.nsIn K mainGlobals "NoRow" = some (some (.ref c13)))
  (zVE:PySem.W.nsIn K mainGlobals "ValueError" = some none)
  (xex:PySem.W.excIn K CD [.type "ValueError",.type "Exception",.type "BaseException",.type "object"] "ValueError.__new__" = true) (xga:PySem.W.findIn K (.ref CD) "__getattribute__" = some (some (.builtin "BaseException.__getattribute__"))) (xgt:PySem.W.findIn K (.ref CD) "__getattr__" = some none) (xcf:PySem.W.findIn K (.ref CD) "__class__" = some (some (.builtin "object.__class__"))) (xob:PySem.W.mroIn K CD (.type "object")=some true) (xem:PySem.W.exmOne K (.ref CD) (.ref CR)=some true) (xon:PySem.W.kitOne K (.ref CD) (.ref CD)=some true) (xva:PySem.W.kitOne K (.ref CD) (.type "ValueError")=some true) (xni:PySem.W.kitAny K (.ref CD) ([c1,c2,c3,c4,c5,c6,c7,c8,c9].map Value.ref)=some false) (xfo:PySem.W.kitAny K (.ref CD) ([c10,c11,c12,c13].map Value.ref)=some false)
  (cc0:PySem.W.nsIn K mainGlobals "LETTERS" = some (some (.str letters t0)))
  (cc1:PySem.W.nsIn K mainGlobals "MOST_LETTERS" = some (some (.int 8 t1)))
  (cc2:PySem.W.nsIn K mainGlobals "FIGURES" = some (some (.str "0123456789" t2)))
  (cc3:PySem.W.nsIn K mainGlobals "MOST_FIGURES" = some (some (.int 6 t3)))
  (z_isinstance:PySem.W.nsIn K mainGlobals "isinstance" = some none)
  (z_len:PySem.W.nsIn K mainGlobals "len" = some none)
  (z_all:PySem.W.nsIn K mainGlobals "all" = some none)
  (z_range:PySem.W.nsIn K mainGlobals "range" = some none)
  (z_str:PySem.W.nsIn K mainGlobals "str" = some none)
  (z_tuple:PySem.W.nsIn K mainGlobals "tuple" = some none)
  (z_int:PySem.W.nsIn K mainGlobals "int" = some none)
  (z_bool:PySem.W.nsIn K mainGlobals "bool" = some none) :
  ∃ fd:FuncData,(∀ (s:Shared) (v:Value),BindsTo s fd ⟨[v],[]⟩ [("_law_script",v)])∧∀ base:Heap,K.In base→base.Ns mainGlobals mg→FnOk l.prog w K mg base CX0 9 fx fd ["_law_script"] (spLaw21 K):=by
 have e:=hfa.symm.trans (PySem.W.mg_of X G xaL)
 cases e
 have T:Tops K mg:=⟨PySem.W.mg_none_of X G z_isinstance,PySem.W.mg_none_of X G z_len,PySem.W.mg_none_of X G z_all,PySem.W.mg_none_of X G z_range,PySem.W.mg_none_of X G z_str,PySem.W.mg_none_of X G z_tuple,PySem.W.mg_none_of X G z_int,PySem.W.mg_none_of X G z_bool,⟨_,PySem.W.mg_of X G cc0⟩,⟨_,PySem.W.mg_of X G cc1⟩,⟨_,PySem.W.mg_of X G cc2⟩,⟨_,PySem.W.mg_of X G cc3⟩⟩
 have FN:=zAo (st:=sIsName) xlN xcN xkN
 have DN:Def K mg "is_name" sIsName ["thing"] fN _:=⟨FN,PySem.W.mg_of X G xaN,FN.binds (ps:=["thing"]) fun _ _ _ _ _ _ us hl=>by obtain ⟨z0,rfl⟩:=ln1 hl;rfl⟩
 have FW:=zAo (st:=sIsWhole) xlW xcW xkW
 have DW:Def K mg "is_whole" sIsWhole ["thing"] fW _:=⟨FW,PySem.W.mg_of X G xaW,FW.binds (ps:=["thing"]) fun _ _ _ _ _ _ us hl=>by obtain ⟨z0,rfl⟩:=ln1 hl;rfl⟩
 have FWf:=zAo (st:=sWholeFrom) xlWf xcWf xkWf
 have DWf:Def K mg "is_whole_from" sWholeFrom ["least", "thing"] fWf _:=⟨FWf,PySem.W.mg_of X G xaWf,FWf.binds (ps:=["least", "thing"]) fun _ _ _ _ _ _ us hl=>by obtain ⟨z0,z1,rfl⟩:=ln2 hl;rfl⟩
 have FWr:=zAo (st:=sWritten) xlWr xcWr xkWr
 have DWr:Def K mg "is_written_number" sWritten ["text", "most_figures"] fWr _:=⟨FWr,PySem.W.mg_of X G xaWr,FWr.binds (ps:=["text", "most_figures"]) fun _ _ _ _ _ _ us hl=>by obtain ⟨z0,z1,rfl⟩:=ln2 hl;rfl⟩
 have FH:=zAo (st:=sHasForm) xlH xcH xkH
 have DH:Def K mg "has_form" sHasForm ["thing"] fH _:=⟨FH,PySem.W.mg_of X G xaH,FH.binds (ps:=["thing"]) fun _ _ _ _ _ _ us hl=>by obtain ⟨z0,rfl⟩:=ln1 hl;rfl⟩
 have FCm:=zAo (st:=sCheckMark) xlCm xcCm xkCm
 have DCm:Def K mg "check_mark" sCheckMark ["mark"] fCm _:=⟨FCm,PySem.W.mg_of X G xaCm,FCm.binds (ps:=["mark"]) fun _ _ _ _ _ _ us hl=>by obtain ⟨z0,rfl⟩:=ln1 hl;rfl⟩
 have FCo:=zAo (st:=sCheckOwner) xlCo xcCo xkCo
 have DCo:Def K mg "check_owner_mark" sCheckOwner ["name", "owner_mark"] fCo _:=⟨FCo,PySem.W.mg_of X G xaCo,FCo.binds (ps:=["name", "owner_mark"]) fun _ _ _ _ _ _ us hl=>by obtain ⟨z0,z1,rfl⟩:=ln2 hl;rfl⟩
 have Fm:=zAo (st:=sMixed) xlm xcm xkm
 have Dm:Def K mg "_law_mixed" sMixed ["_law_cell", "_law_k"] fm _:=⟨Fm,PySem.W.mg_of X G xam,Fm.binds (ps:=["_law_cell", "_law_k"]) fun _ _ _ _ _ _ us hl=>by obtain ⟨z0,z1,rfl⟩:=ln2 hl;rfl⟩
 have Fs:=zAo (st:=sSource) xls xcs xks
 have Ds:Def K mg "_law_source" sSource ["_law_cell"] fs _:=⟨Fs,PySem.W.mg_of X G xas,Fs.binds (ps:=["_law_cell"]) fun _ _ _ _ _ _ us hl=>by obtain ⟨z0,rfl⟩:=ln1 hl;rfl⟩
 have Fn:=zAo (st:=sNext) xln xcn xkn
 have Dn:Def K mg "_law_next" sNext ["_law_source_here", "_law_many"] fn _:=⟨Fn,PySem.W.mg_of X G xan,Fn.binds (ps:=["_law_source_here", "_law_many"]) fun _ _ _ _ _ _ us hl=>by obtain ⟨z0,z1,rfl⟩:=ln2 hl;rfl⟩
 have Fwd:=zAo (st:=sWord) xlwd xcwd xkwd
 have Dwd:Def K mg "_law_word" sWord ["_law_source_here"] fwd _:=⟨Fwd,PySem.W.mg_of X G xawd,Fwd.binds (ps:=["_law_source_here"]) fun _ _ _ _ _ _ us hl=>by obtain ⟨z0,rfl⟩:=ln1 hl;rfl⟩
 have Fnu:=zAo (st:=sNumber) xlnu xcnu xknu
 have Dnu:Def K mg "_law_number" sNumber ["_law_source_here", "_law_least"] fnu _:=⟨Fnu,PySem.W.mg_of X G xanu,Fnu.binds (ps:=["_law_source_here", "_law_least"]) fun _ _ _ _ _ _ us hl=>by obtain ⟨z0,z1,rfl⟩:=ln2 hl;rfl⟩
 have Fnm:=zAo (st:=sName) xlnm xcnm xknm
 have Dnm:Def K mg "_law_name" sName ["_law_source_here"] fnm _:=⟨Fnm,PySem.W.mg_of X G xanm,Fnm.binds (ps:=["_law_source_here"]) fun _ _ _ _ _ _ us hl=>by obtain ⟨z0,rfl⟩:=ln1 hl;rfl⟩
 have Ftg:=zAo (st:=sTags) xltg xctg xktg
 have Dtg:Def K mg "_law_tags" sTags ["_law_way"] ftg _:=⟨Ftg,PySem.W.mg_of X G xatg,Ftg.binds (ps:=["_law_way"]) fun _ _ _ _ _ _ us hl=>by obtain ⟨z0,rfl⟩:=ln1 hl;rfl⟩
 have Ffl:=zAo (st:=sLFields) xlfl xcfl xkfl
 have Dfl:Def K mg "_law_fields" sLFields ["_law_source_here", "_law_way"] ffl _:=⟨Ffl,PySem.W.mg_of X G xafl,Ffl.binds (ps:=["_law_source_here", "_law_way"]) fun _ _ _ _ _ _ us hl=>by obtain ⟨z0,z1,rfl⟩:=ln2 hl;rfl⟩
 have Fod:=zAo (st:=sOdd) xlod xcod xkod
 have Dod:Def K mg "_law_odd" sOdd ["_law_source_here", "_law_tag", "_law_field"] fod _:=⟨Fod,PySem.W.mg_of X G xaod,Fod.binds (ps:=["_law_source_here", "_law_tag", "_law_field"]) fun _ _ _ _ _ _ us hl=>by obtain ⟨z0,z1,z2,rfl⟩:=ln3 hl;rfl⟩
 have Fmd:=zAo (st:=sMade) xlmd xcmd xkmd
 have Dmd:Def K mg "_law_made" sMade ["_law_way", "_law_fields_here"] fmd _:=⟨Fmd,PySem.W.mg_of X G xamd,Fmd.binds (ps:=["_law_way", "_law_fields_here"]) fun _ _ _ _ _ _ us hl=>by obtain ⟨z0,z1,rfl⟩:=ln2 hl;rfl⟩
 have Frf:=zAo (st:=sRefused) xlrf xcrf xkrf
 have Drf:Def K mg "_law_refused" sRefused ["_law_way", "_law_fields_here"] frf _:=⟨Frf,PySem.W.mg_of X G xarf,Frf.binds (ps:=["_law_way", "_law_fields_here"]) fun _ _ _ _ _ _ us hl=>by obtain ⟨z0,z1,rfl⟩:=ln2 hl;rfl⟩
 have Frt:=zAo (st:=sRight) xlrt xcrt xkrt
 have Drt:Def K mg "_law_right" sRight ["_law_way", "_law_made_here", "_law_fields_here"] frt _:=⟨Frt,PySem.W.mg_of X G xart,Frt.binds (ps:=["_law_way", "_law_made_here", "_law_fields_here"]) fun _ _ _ _ _ _ us hl=>by obtain ⟨z0,z1,z2,rfl⟩:=ln3 hl;rfl⟩
 have FL:=zAo (st:=sLaw) xlL xcL xkL
 have FDi:=zAo (st:=sInitD) xlDi xcDi xkDi
 have bDi:=FDi.binds (ps:=["self", "hand", "number", "wishing", "name"]) fun _ _ _ _ _ _ us hl=>by obtain ⟨z0,z1,z2,z3,z4,rfl⟩:=ln5 hl;rfl
 have FMi:=zAo (st:=sInitM) xlMi xcMi xkMi
 have bMi:=FMi.binds (ps:=["self", "hand", "number", "wishing", "name", "owner_mark", "state"]) fun _ _ _ _ _ _ us hl=>by obtain ⟨z0,z1,z2,z3,z4,z5,z6,rfl⟩:=ln7 hl;rfl
 have FSi:=zAo (st:=sInitS) xlSi xcSi xkSi
 have bSi:=FSi.binds (ps:=["self", "hand", "number", "wishing", "name", "mark", "owner_mark", "field", "value"]) fun _ _ _ _ _ _ us hl=>by obtain ⟨z0,z1,z2,z3,z4,z5,z6,z7,z8,rfl⟩:=ln9 hl;rfl
 have FTi:=zAo (st:=sInitT) xlTi xcTi xkTi
 have bTi:=FTi.binds (ps:=["self", "hand", "number", "wishing", "name", "mark", "owner_mark"]) fun _ _ _ _ _ _ us hl=>by obtain ⟨z0,z1,z2,z3,z4,z5,z6,rfl⟩:=ln7 hl;rfl
 have FMp:=zAo (st:=sPartsM) xlMp xcMp xkMp
 have bMp:=FMp.binds (ps:=["self"]) fun _ _ _ _ _ _ us hl=>by obtain ⟨z0,rfl⟩:=ln1 hl;rfl
 have FSp:=zAo (st:=sPartsS) xlSp xcSp xkSp
 have bSp:=FSp.binds (ps:=["self"]) fun _ _ _ _ _ _ us hl=>by obtain ⟨z0,rfl⟩:=ln1 hl;rfl
 have FTp:=zAo (st:=sPartsT) xlTp xcTp xkTp
 have bTp:=FTp.binds (ps:=["self"]) fun _ _ _ _ _ _ us hl=>by obtain ⟨z0,rfl⟩:=ln1 hl;rfl
 have FCCM:FCls K CM:=⟨⟨⟨pgCM,hdCM,poCM,saCM⟩,no0CM,no1CM,no2CM,no3CM⟩,no4CM,no5CM,no6CM,no7CM,no8CM⟩
 have FCCS:FCls K CS:=⟨⟨⟨pgCS,hdCS,poCS,saCS⟩,no0CS,no1CS,no2CS,no3CS⟩,no4CS,no5CS,no6CS,no7CS,no8CS⟩
 have FCCT:FCls K CT:=⟨⟨⟨pgCT,hdCT,poCT,saCT⟩,no0CT,no1CT,no2CT,no3CT⟩,no4CT,no5CT,no6CT,no7CT,no8CT⟩
 have I:∀ wy:Way,IsD K CM CS CT CDd (wy.cls CM CS CT) wy:=fun wy=>by
  cases wy with
  | make=>exact ⟨FCCM,haCM,hn,htk,hmCM,kCMCM,kCMCS,kCMCT,kCMCDd⟩
  | set=>exact ⟨FCCS,haCS,hn,htk,hmCS,kCSCM,kCSCS,kCSCT,kCSCDd⟩
  | take=>exact ⟨FCCT,haCT,hn,htk,hmCT,kCTCM,kCTCS,kCTCT,kCTCDd⟩
 have R:XTop K mg "NoDeed" CD:=⟨PySem.W.mg_of X G bCD,xex⟩
 have RD:RefsD K mg CD CR c1 c2 c3 c4 c5 c6 c7 c8 c9 c10 c11 c12 c13:=⟨⟨xex,xga,xgt,xcf,xob⟩,PySem.W.mg_of X G bCD,PySem.W.mg_of X G bCR,PySem.W.mg_none_of X G zVE,xem,xon,xva,PySem.W.mg_of X G bc1,PySem.W.mg_of X G bc2,PySem.W.mg_of X G bc3,PySem.W.mg_of X G bc4,PySem.W.mg_of X G bc5,PySem.W.mg_of X G bc6,PySem.W.mg_of X G bc7,PySem.W.mg_of X G bc8,PySem.W.mg_of X G bc9,PySem.W.mg_of X G bc10,PySem.W.mg_of X G bc11,PySem.W.mg_of X G bc12,PySem.W.mg_of X G bc13,xni,xfo⟩
 refine ⟨PySem.W.fnOf "law" "law" (defArgs sLaw) (defBody sLaw) (defScope sLaw) .none kVL dcL pmL anL cdL ctL,fun s v=>.of_eq rfl,fun base _ _=>?_⟩
 have GN:FnOk l.prog w K mg base (CXM l.prog w) 1 fN _ ["thing"] spNameD:=zDe DN.fn T
 have GCm:FnOk l.prog w K mg base (CXM l.prog w) 3 fCm _ ["mark"] (spMark CD):=ok_mark T R DCm.fn DW DWf
 have GCo:FnOk l.prog w K mg base (CXM l.prog w) 4 fCo _ ["name", "owner_mark"] (spOwnerM CD):=ok_ownerM R DCo.fn DCm GCm
 have GDi:FnOk l.prog w K mg base (CXM l.prog w) 3 fDi _ ["self", "hand", "number", "wishing", "name"] (spDeedI K CD):=ok_deedI T R FDi DN DW DWf DWr DH
 have DA:DAll l.prog w K mg base CD CDd fN fCm fCo fDi _ _ _ _:=⟨T,R,⟨rdD,fcD,hdD,spD,xkDi⟩,PySem.W.mg_of X G aCDd,bDi,GDi,DN,GN,DCm,GCm,DCo,GCo⟩
 have TCT:TCls K CT:=⟨FCCT.dc,FCCT.m,FCCT.o⟩
 have TCS:TCls K CS:=⟨FCCS.dc,FCCS.m,FCCS.o⟩
 have GMi:FnOk l.prog w K mg base (CXM l.prog w) 5 fMi _ ["self", "hand", "number", "wishing", "name", "owner_mark", "state"] (spMakeI CM CD):=ok_makeI DA ⟨FCCM.dc,FCCM.o,FCCM.s⟩ FMi
 have GSi:FnOk l.prog w K mg base (CXM l.prog w) 5 fSi _ ["self", "hand", "number", "wishing", "name", "mark", "owner_mark", "field", "value"] (spSetI CS CD):=ok_setI DA ⟨TCS,FCCS.f,FCCS.v⟩ FSi
 have GTi:FnOk l.prog w K mg base (CXM l.prog w) 5 fTi _ ["self", "hand", "number", "wishing", "name", "mark", "owner_mark"] (spTakeI CT CD):=ok_takeI DA TCT FTi
 have Gmd:FnOk l.prog w K mg base (CXM l.prog w) 7 fmd _ ["_law_way", "_law_fields_here"] (spMadeL CM CS CT CD):=ok_madeL ⟨⟨mkCM,xaMi,xiMi,kcCM⟩,PySem.W.mg_of X G aCM⟩ ⟨⟨mkCS,xaSi,xiSi,kcCS⟩,PySem.W.mg_of X G aCS⟩ ⟨⟨mkCT,xaTi,xiTi,kcCT⟩,PySem.W.mg_of X G aCT⟩ GMi GSi GTi bMi bSi bTi Dmd.fn
 have PT:∀ wy:Way,PtD l.prog w K mg base (wy.cls CM CS CT) wy (wy.cls fMp fSp fTp) (match wy with | .make=>_ | .set=>_ | .take=>_):=fun wy=>by
  cases wy with
  | make=>exact ⟨⟨xaMp,xiMp,xkMp⟩,ok_ptsM FCCM FMp,bMp⟩
  | set=>exact ⟨⟨xaSp,xiSp,xkSp⟩,ok_ptsS FCCS FSp,bSp⟩
  | take=>exact ⟨⟨xaTp,xiTp,xkTp⟩,ok_ptsT FCCT FTp,bTp⟩
 have Grt:FnOk l.prog w K mg base (CXM l.prog w) 2 frt _ ["_law_way", "_law_made_here", "_law_fields_here"] (spRight CM CS CT):=ok_right T (PySem.W.mg_of X G aCM) (PySem.W.mg_of X G aCS) (PySem.W.mg_of X G aCT) (PySem.W.mg_of X G aCDd) I PT Drt.fn
 have Grf:FnOk l.prog w K mg base (CXM l.prog w) 8 frf _ ["_law_way", "_law_fields_here"] spRefused:=ok_refused T RD Drf.fn Dmd Gmd
 have Gs:FnOk l.prog w K mg base (CXM l.prog w) 1 fs _ ["_law_cell"] spDigits:=ok_digits Ds.fn
 have Gn:FnOk l.prog w K mg base (CXM l.prog w) 2 fn _ ["_law_source_here", "_law_many"] spNext:=zC2 calmM Dn.fn Dm
 have Gfl:FnOk l.prog w K mg base (CXM l.prog w) 5 ffl _ ["_law_source_here", "_law_way"] spFieldsL:=ok_fieldsL calmM T Dfl.fn Dm Dn Dwd Dnu Dnm Dtg
 have God:FnOk l.prog w K mg base (CXM l.prog w) 3 fod _ ["_law_source_here", "_law_tag", "_law_field"] spOdd:=ok_odd calmM T Dod.fn Dm Dn
 have Gtg:FnOk l.prog w K mg base (CXM l.prog w) 1 ftg _ ["_law_way"] spTags:=ok_tags Dtg.fn
 exact (ok_law21 FL ⟨T,Ds,Gs,Dn,Gn,Dfl,Gfl,Drt,Grt,Dmd,Gmd,Dod,God,Dtg,Gtg,Drf,Grf⟩).calm calmM
theorem walk {l:PySem.W.OpenLaw}{q:Program}{loose:List Str}{XP:(Str→Option Value)→Heap→Prop}{YP:World→Heap→Prop}{d:DefRec}{K:Params→PySem.W.Frag} (hn:l.most=some 63) (hdf:d.params.defaults=[])
  (hY:∀ (w:World) (h:Heap),YP w h→(K w.params).In h)
  (F:∀ (w:World) (mg:Str→Option Value) (fa:Addr) (h:Heap),(K w.params).In h→h.Ns mainGlobals mg→mg d.name=some (.ref fa) →
   ∃ fd:FuncData,(∀ (s:Shared) (u:Value),BindsTo s fd ⟨[u],[]⟩ [("_law_script",u)])∧∀ base:Heap,(K w.params).In base→base.Ns mainGlobals mg→FnOk l.prog w (K w.params) mg base CX0 9 fa fd ["_law_script"] (spLaw21 (K w.params))) :
  PySem.W.WalkO q loose XP YP l.row.toRowW d [] (fun f vs=>PySem.call f vs) :=
 L2.walk_of (n:=63) (k:=9) (x:="_law_script") (CX:=fun _=>CX0) (sp:=fun w=>spLaw21 (K w.params)) hn (by decide) hdf ⟨rfl,by decide,by decide⟩ hY F (fun _ _ a ns hl _ hS=>⟨a,ns,rfl,hS,hl,fun _=>rfl⟩) fun _ _ _ _ _ z=>z
end L2.W
theorem PySem.W.Fast.tw5143449729801591713:True:=trivial
theorem PySem.W.Fast.tw10342508616193302717:True:=trivial
theorem PySem.W.Fast.tw17765344238084199285:True:=trivial
theorem PySem.W.Fast.tw17558985590633986930:True:=trivial
theorem PySem.W.Fast.tw12833780891642173597:True:=trivial
theorem PySem.W.Fast.tw8047581087236356699:True:=trivial
theorem PySem.W.Fast.tw16708096982842641206:True:=trivial
theorem PySem.W.Fast.tw465675587926469815:True:=trivial
theorem PySem.W.Fast.tw12308044235045900272:True:=trivial
theorem PySem.W.Fast.tw6454394978787373943:True:=trivial
theorem PySem.W.Fast.tw11961994364631291881:True:=trivial
theorem PySem.W.Fast.tw11425840575454629918:True:=trivial
theorem PySem.W.Fast.tw17025938138778705210:True:=trivial
theorem PySem.W.Fast.tw15958074719017654073:True:=trivial
theorem PySem.W.Fast.tw931547768156111051:True:=trivial
theorem PySem.W.Fast.tw5602266930704080178:True:=trivial
theorem PySem.W.Fast.tw11508526796663122518:True:=trivial
theorem PySem.W.Fast.tw16107394270443982702:True:=trivial
theorem PySem.W.Fast.tw5432356949613247764:True:=trivial
theorem PySem.W.Fast.tw12204367813861108907:True:=trivial
theorem PySem.W.Fast.tw485115156641721155:True:=trivial
theorem PySem.W.Fast.tw18161685556642251864:True:=trivial
theorem PySem.W.Fast.tw13090328052145867847:True:=trivial
theorem PySem.W.Fast.tw14333271805748385470:True:=trivial
theorem PySem.W.Fast.tw5694646177646822826:True:=trivial
theorem PySem.W.Fast.tw17039727634760183554:True:=trivial
theorem PySem.W.Fast.tw12502771187803943805:True:=trivial
theorem PySem.W.Fast.tw16179655187580046860:True:=trivial
theorem PySem.W.Fast.tw16822487900794468736:True:=trivial
theorem PySem.W.Fast.tw8587878812188166489:True:=trivial
theorem PySem.W.Fast.tw17566394909794067509:True:=trivial
theorem PySem.W.Fast.tw12111737335689646611:True:=trivial
theorem PySem.W.Fast.tw10685260973533348291:True:=trivial
theorem PySem.W.Fast.tw12116640631228228633:True:=trivial
theorem PySem.W.Fast.tw12404651412981941356:True:=trivial
theorem PySem.W.Fast.tw9671323059476198476:True:=trivial
theorem PySem.W.Fast.tw14437444946250346024:True:=trivial
theorem PySem.W.Fast.tw7604454977593322405:True:=trivial
theorem PySem.W.Fast.tw9310139196169420191:True:=trivial
theorem PySem.W.Fast.tw7418191496608068158:True:=trivial
theorem PySem.W.Fast.tw2736525521801866246:True:=trivial
theorem PySem.W.Fast.tw5082689046694591146:True:=trivial
theorem PySem.W.Fast.tw4754853489466909373:True:=trivial
theorem PySem.W.Fast.tw11613655117865147608:True:=trivial
theorem PySem.W.Fast.tw1952397959469144953:True:=trivial
theorem PySem.W.Fast.tw3421931149106787377:True:=trivial
theorem PySem.W.Fast.tw17560200763317884313:True:=trivial
theorem PySem.W.Fast.tw12245624437356789436:True:=trivial
theorem PySem.W.Fast.tw9234495424269216555:True:=trivial
theorem PySem.W.Fast.tw2212077839347004879:True:=trivial
theorem PySem.W.Fast.tw1045370711404664338:True:=trivial
theorem PySem.W.Fast.tw16681045945621106631:True:=trivial
theorem PySem.W.Fast.tw5942354407680092750:True:=trivial
theorem PySem.W.Fast.tw4449619191521771676:True:=trivial
theorem PySem.W.Fast.tw14314439266359830939:True:=trivial
theorem PySem.W.Fast.tw17202159481568533112:True:=trivial
theorem PySem.W.Fast.tw1732532005929157446:True:=trivial
theorem PySem.W.Fast.tw6562062303435602026:True:=trivial
theorem PySem.W.Fast.tw12463386822078518358:True:=trivial
theorem PySem.W.Fast.tw12858384431402624747:True:=trivial
theorem PySem.W.Fast.tw3533859032176238844:True:=trivial
theorem PySem.W.Fast.tw18277189121313051316:True:=trivial
theorem PySem.W.Fast.tw331693554746303617:True:=trivial
theorem PySem.W.Fast.tw12573253035993922857:True:=trivial
theorem PySem.W.Fast.tw14654462609015382748:True:=trivial
theorem PySem.W.Fast.tw1825485700240308559:True:=trivial
theorem PySem.W.Fast.tw874226980640278893:True:=trivial
theorem PySem.W.Fast.tw2996516119316153245:True:=trivial
theorem PySem.W.Fast.tw1218691153734214622:True:=trivial
theorem PySem.W.Fast.tw3937893714290722900:True:=trivial
theorem PySem.W.Fast.tw17793365899295420458:True:=trivial
theorem PySem.W.Fast.tw8077482226248551376:True:=trivial
theorem PySem.W.Fast.tw10333186775775329387:True:=trivial
theorem PySem.W.Fast.tw17440945438310016213:True:=trivial
theorem PySem.W.Fast.tw8785071639508442124:True:=trivial
theorem PySem.W.Fast.tw952289224310046553:True:=trivial
theorem PySem.W.Fast.tw10624192021170513415:True:=trivial
theorem PySem.W.Fast.tw9069719005573178533:True:=trivial
theorem PySem.W.Fast.tw15840632358151211212:True:=trivial
theorem PySem.W.Fast.tw14179553072209998843:True:=trivial
theorem PySem.W.Fast.tw14909199392145866278:True:=trivial
theorem PySem.W.Fast.tw9352467517020834239:True:=trivial
theorem PySem.W.Fast.tw12652987605367824692:True:=trivial
theorem PySem.W.Fast.tw10880189683996397446:True:=trivial
theorem PySem.W.Fast.tw6510844301006115810:True:=trivial
theorem PySem.W.Fast.tw14336916757930567064:True:=trivial
theorem PySem.W.Fast.tw6972216400124230663:True:=trivial
theorem PySem.W.Fast.tw790363186977169668:True:=trivial
theorem PySem.W.Fast.tw16439301033063039642:True:=trivial
theorem PySem.W.Fast.tw5482553545798042830:True:=trivial
theorem PySem.W.Fast.tw1930198707195615285:True:=trivial
theorem PySem.W.Fast.tw11132980866045422742:True:=trivial
theorem PySem.W.Fast.tw9573780193716398522:True:=trivial
theorem PySem.W.Fast.tw13483726677164263935:True:=trivial
theorem PySem.W.Fast.tw6525046492154184962:True:=trivial
theorem PySem.W.Fast.tw2470528466155925797:True:=trivial
open PySem PySem.W PyProof.Rows
set_option maxRecDepth 100000 in
set_option maxHeartbeats 0 in
theorem PySem.Challenge.cw_cometorest_k21_what_is_a_deed_holds : PySem.Challenge.rw_cometorest_k21_what_is_a_deed.Holds := by
 w_on;o_law;k_head;(case hw=>w_witness2)
 k_fill
 refine L2.W.walk (l:=PySem.Challenge.rw_cometorest_k21_what_is_a_deed) rfl rfl (fun w h Y=>PySem.W.kIn_of Y) ?F
 case F =>
  intro w mg fa h KX G hmg
  refine' L2.W.all_mk KX G hmg ?xaN ?xlN ?xcN ?xkN ?xaW ?xlW ?xcW ?xkW ?xaWf ?xlWf ?xcWf ?xkWf ?xaWr ?xlWr ?xcWr ?xkWr ?xaH ?xlH ?xcH ?xkH ?xaCm ?xlCm ?xcCm ?xkCm ?xaCo ?xlCo ?xcCo ?xkCo ?xam ?xlm ?xcm ?xkm ?xas ?xls ?xcs ?xks ?xan ?xln ?xcn ?xkn ?xawd ?xlwd ?xcwd ?xkwd ?xanu ?xlnu ?xcnu ?xknu ?xanm ?xlnm ?xcnm ?xknm ?xatg ?xltg ?xctg ?xktg ?xafl ?xlfl ?xcfl ?xkfl ?xaod ?xlod ?xcod ?xkod ?xamd ?xlmd ?xcmd ?xkmd ?xarf ?xlrf ?xcrf ?xkrf ?xart ?xlrt ?xcrt ?xkrt ?xaL ?xlL ?xcL ?xkL ?aCM ?aCS ?aCT ?aCDd ?xaDi ?xiDi ?xlDi ?xcDi ?xkDi ?xaMi ?xiMi ?xlMi ?xcMi ?xkMi ?xaSi ?xiSi ?xlSi ?xcSi ?xkSi ?xaTi ?xiTi ?xlTi ?xcTi ?xkTi ?xaMp ?xiMp ?xlMp ?xcMp ?xkMp ?xaSp ?xiSp ?xlSp ?xcSp ?xkSp ?xaTp ?xiTp ?xlTp ?xcTp ?xkTp ?pgCM ?hdCM ?poCM ?saCM ?mkCM ?kcCM ?no0CM ?no1CM ?no2CM ?no3CM ?no4CM ?no5CM ?no6CM ?no7CM ?no8CM ?haCM ?hmCM ?kCMCM ?kCMCS ?kCMCT ?kCMCDd ?pgCS ?hdCS ?poCS ?saCS ?mkCS ?kcCS ?no0CS ?no1CS ?no2CS ?no3CS ?no4CS ?no5CS ?no6CS ?no7CS ?no8CS ?haCS ?hmCS ?kCSCM ?kCSCS ?kCSCT ?kCSCDd ?pgCT ?hdCT ?poCT ?saCT ?mkCT ?kcCT ?no0CT ?no1CT ?no2CT ?no3CT ?no4CT ?no5CT ?no6CT ?no7CT ?no8CT ?haCT ?hmCT ?kCTCM ?kCTCS ?kCTCT ?kCTCDd ?hn ?htk ?rdD ?fcD ?hdD ?spD ?bCD ?bCR ?bc1 ?bc2 ?bc3 ?bc4 ?bc5 ?bc6 ?bc7 ?bc8 ?bc9 ?bc10 ?bc11 ?bc12 ?bc13 ?zVE ?xex ?xga ?xgt ?xcf ?xob ?xem ?xon ?xva ?xni ?xfo ?cc0 ?cc1 ?cc2 ?cc3 ?z_isinstance ?z_len ?z_all ?z_range ?z_str ?z_tuple ?z_int ?z_bool
  (case xaN=>k_is)
  (case xlN=>k_is)
  (case xcN=>k_is)
  (case xkN=>k_is)
  (case xaW=>k_is)
  (case xlW=>k_is)
  (case xcW=>k_is)
  (case xkW=>k_is)
  (case xaWf=>k_is)
  (case xlWf=>k_is)
  (case xcWf=>k_is)
  (case xkWf=>k_is)
  (case xaWr=>k_is)
  (case xlWr=>k_is)
  (case xcWr=>k_is)
  (case xkWr=>k_is)
  (case xaH=>k_is)
  (case xlH=>k_is)
  (case xcH=>k_is)
  (case xkH=>k_is)
  (case xaCm=>k_is)
  (case xlCm=>k_is)
  (case xcCm=>k_is)
  (case xkCm=>k_is)
  (case xaCo=>k_is)
  (case xlCo=>k_is)
  (case xcCo=>k_is)
  (case xkCo=>k_is)
  (case xam=>k_is)
  (case xlm=>k_is)
  (case xcm=>k_is)
  (case xkm=>k_is)
  (case xas=>k_is)
  (case xls=>k_is)
  (case xcs=>k_is)
  (case xks=>k_is)
  (case xan=>k_is)
  (case xln=>k_is)
  (case xcn=>k_is)
  (case xkn=>k_is)
  (case xawd=>k_is)
  (case xlwd=>k_is)
  (case xcwd=>k_is)
  (case xkwd=>k_is)
  (case xanu=>k_is)
  (case xlnu=>k_is)
  (case xcnu=>k_is)
  (case xknu=>k_is)
  (case xanm=>k_is)
  (case xlnm=>k_is)
  (case xcnm=>k_is)
  (case xknm=>k_is)
  (case xatg=>k_is)
  (case xltg=>k_is)
  (case xctg=>k_is)
  (case xktg=>k_is)
  (case xafl=>k_is)
  (case xlfl=>k_is)
  (case xcfl=>k_is)
  (case xkfl=>k_is)
  (case xaod=>k_is)
  (case xlod=>k_is)
  (case xcod=>k_is)
  (case xkod=>k_is)
  (case xamd=>k_is)
  (case xlmd=>k_is)
  (case xcmd=>k_is)
  (case xkmd=>k_is)
  (case xarf=>k_is)
  (case xlrf=>k_is)
  (case xcrf=>k_is)
  (case xkrf=>k_is)
  (case xart=>k_is)
  (case xlrt=>k_is)
  (case xcrt=>k_is)
  (case xkrt=>k_is)
  (case xaL=>k_is)
  (case xlL=>k_is)
  (case xcL=>k_is)
  (case xkL=>k_is)
  (case aCM=>k_is)
  (case aCS=>k_is)
  (case aCT=>k_is)
  (case aCDd=>k_is)
  (case xaDi=>k_is)
  (case xiDi=>k_is)
  (case xlDi=>k_is)
  (case xcDi=>k_is)
  (case xkDi=>k_is)
  (case xaMi=>k_is)
  (case xiMi=>k_is)
  (case xlMi=>k_is)
  (case xcMi=>k_is)
  (case xkMi=>k_is)
  (case xaSi=>k_is)
  (case xiSi=>k_is)
  (case xlSi=>k_is)
  (case xcSi=>k_is)
  (case xkSi=>k_is)
  (case xaTi=>k_is)
  (case xiTi=>k_is)
  (case xlTi=>k_is)
  (case xcTi=>k_is)
  (case xkTi=>k_is)
  (case xaMp=>k_is)
  (case xiMp=>k_is)
  (case xlMp=>k_is)
  (case xcMp=>k_is)
  (case xkMp=>k_is)
  (case xaSp=>k_is)
  (case xiSp=>k_is)
  (case xlSp=>k_is)
  (case xcSp=>k_is)
  (case xkSp=>k_is)
  (case xaTp=>k_is)
  (case xiTp=>k_is)
  (case xlTp=>k_is)
  (case xcTp=>k_is)
  (case xkTp=>k_is)
  (case pgCM=>k_is)
  (case hdCM=>k_is)
  (case poCM=>k_is)
  (case saCM=>k_is)
  (case mkCM=>k_is)
  (case kcCM=>k_is)
  (case no0CM=>k_is)
  (case no1CM=>k_is)
  (case no2CM=>k_is)
  (case no3CM=>k_is)
  (case no4CM=>k_is)
  (case no5CM=>k_is)
  (case no6CM=>k_is)
  (case no7CM=>k_is)
  (case no8CM=>k_is)
  (case haCM=>k_is)
  (case hmCM=>k_is)
  (case kCMCM=>first | k_is | rfl | kernel_rfl | decide +kernel)
  (case kCMCS=>first | k_is | rfl | kernel_rfl | decide +kernel)
  (case kCMCT=>first | k_is | rfl | kernel_rfl | decide +kernel)
  (case kCMCDd=>first | k_is | rfl | kernel_rfl | decide +kernel)
  (case pgCS=>k_is)
  (case hdCS=>k_is)
  (case poCS=>k_is)
  (case saCS=>k_is)
  (case mkCS=>k_is)
  (case kcCS=>k_is)
  (case no0CS=>k_is)
  (case no1CS=>k_is)
  (case no2CS=>k_is)
  (case no3CS=>k_is)
  (case no4CS=>k_is)
  (case no5CS=>k_is)
  (case no6CS=>k_is)
  (case no7CS=>k_is)
  (case no8CS=>k_is)
  (case haCS=>k_is)
  (case hmCS=>k_is)
  (case kCSCM=>first | k_is | rfl | kernel_rfl | decide +kernel)
  (case kCSCS=>first | k_is | rfl | kernel_rfl | decide +kernel)
  (case kCSCT=>first | k_is | rfl | kernel_rfl | decide +kernel)
  (case kCSCDd=>first | k_is | rfl | kernel_rfl | decide +kernel)
  (case pgCT=>k_is)
  (case hdCT=>k_is)
  (case poCT=>k_is)
  (case saCT=>k_is)
  (case mkCT=>k_is)
  (case kcCT=>k_is)
  (case no0CT=>k_is)
  (case no1CT=>k_is)
  (case no2CT=>k_is)
  (case no3CT=>k_is)
  (case no4CT=>k_is)
  (case no5CT=>k_is)
  (case no6CT=>k_is)
  (case no7CT=>k_is)
  (case no8CT=>k_is)
  (case haCT=>k_is)
  (case hmCT=>k_is)
  (case kCTCM=>first | k_is | rfl | kernel_rfl | decide +kernel)
  (case kCTCS=>first | k_is | rfl | kernel_rfl | decide +kernel)
  (case kCTCT=>first | k_is | rfl | kernel_rfl | decide +kernel)
  (case kCTCDd=>first | k_is | rfl | kernel_rfl | decide +kernel)
  (case hn=>k_is)
  (case htk=>k_is)
  (case rdD=>first | k_is | rfl | kernel_rfl | decide +kernel)
  (case fcD=>first | k_is | rfl | kernel_rfl | decide +kernel)
  (case hdD=>first | k_is | rfl | kernel_rfl | decide +kernel)
  (case spD=>first | k_is | rfl | kernel_rfl | decide +kernel)
  (case bCD=>k_is)
  (case bCR=>k_is)
  (case bc1=>k_is)
  (case bc2=>k_is)
  (case bc3=>k_is)
  (case bc4=>k_is)
  (case bc5=>k_is)
  (case bc6=>k_is)
  (case bc7=>k_is)
  (case bc8=>k_is)
  (case bc9=>k_is)
  (case bc10=>k_is)
  (case bc11=>k_is)
  (case bc12=>k_is)
  (case bc13=>k_is)
  (case zVE=>k_is)
  (case xex=>first | k_is | rfl | kernel_rfl | decide +kernel)
  (case xga=>first | k_is | rfl | kernel_rfl | decide +kernel)
  (case xgt=>first | k_is | rfl | kernel_rfl | decide +kernel)
  (case xcf=>first | k_is | rfl | kernel_rfl | decide +kernel)
  (case xob=>first | k_is | rfl | kernel_rfl | decide +kernel)
  (case xem=>first | k_is | rfl | kernel_rfl | decide +kernel)
  (case xon=>first | k_is | rfl | kernel_rfl | decide +kernel)
  (case xva=>first | k_is | rfl | kernel_rfl | decide +kernel)
  (case xni=>first | k_is | rfl | kernel_rfl | decide +kernel)
  (case xfo=>first | k_is | rfl | kernel_rfl | decide +kernel)
  (case cc0=>k_is)
  (case cc1=>k_is)
  (case cc2=>k_is)
  (case cc3=>k_is)
  (case z_isinstance=>k_is)
  (case z_len=>k_is)
  (case z_all=>k_is)
  (case z_range=>k_is)
  (case z_str=>k_is)
  (case z_tuple=>k_is)
  (case z_int=>k_is)
  (case z_bool=>k_is)
