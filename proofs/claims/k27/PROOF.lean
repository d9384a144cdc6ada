import PyProof.Rows.All
import Wide.All
import OpenK.AllK
import Wide.FinOn
import Lean
import PyProof.EqAt
import PyProof.EqKinds
import PyProof.TupleCall
import PySem.Challenge.RW_cometorest_k27_taken_with_what_they_own
import KE.KMinKey
import KE.KLam
import KE.KNestM
import KE.KDictList
import PyProof.EnumMake
import PyProof.EnumFor
import PyProof.EnumStmt
import PyProof.AttrMissHeap
import KE.KDictOf
import PyProof.StrLawsChain
import PyProof.StrLawsTight
import PyProof.Rows.StrItems
import PyProof.Rows.StrSplitCount
import PyProof.FString
import KE.KIntText
import KE.KTryMore
import PyProof.NsDelKeeps
import PyProof.ExcClass3
import PyProof.ExcBaseAll.ValueError
import PyProof.ExcAttrAll.ValueError
import PyProof.NeKinds
import PyProof.FactsAll.dict
import KE.KDictSum
import PyProof.DictItems
import KE.KPairComp
import KE.KxWritten
import PyProof.SumAny
import PyProof.Rows.StrLen
import PyProof.CallStr
import PyProof.StrCalls6
import PyProof.Rows.StrCase
import OpenK.KMake
import KE.KSortTup
import KE.KEqDict
set_option Elab.async false
set_option linter.all false
set_option maxRecDepth 100000
noncomputable section
abbrev Z0:=@PySem.Heap.get?_push_of_some
abbrev Z1:=@Nat.le_refl
abbrev Z2:=@List.length_map
abbrev Z3:=@Nat.le_trans
abbrev Z4:=@List.size_toArray
abbrev Z5:=@Nat.lt_of_lt_of_le
abbrev Z6:=@Bool.false_ne_true
abbrev Z7:=@List.getElem?_eq_getElem
abbrev Z8:=@PySem.Heap.lt_size
abbrev Z9:=@PySem.Heap.get?_push_size
abbrev Za:=@Nat.ne_of_lt
abbrev Zb:=@List.mem_cons_of_mem
abbrev Zc:=@Bool.and_eq_true
abbrev Zd:=@List.length_cons
abbrev Ze:=@List.getElem?_append_left
abbrev Zf:=@List.length_append
abbrev Zg:=@List.getElem?_append_right
abbrev Zh:=@List.mem_of_getElem?
abbrev Zi:=@List.map_cons
abbrev Zj:=@List.mem_cons_self
abbrev Zk:=@List.lookup_cons
abbrev Zl:=@Option.some.inj
abbrev Zm:=@List.mem_append_right
abbrev Zn:=@List.filterMap_cons
abbrev Zo:=@List.getElem?_map
abbrev Zp:=@Nat.lt_succ_self
abbrev Zq:=@List.mem_append_left
abbrev Zr:=@List.not_mem_nil
abbrev Zs:=@Nat.le_of_lt
abbrev Zt:=@Array.length_toList
abbrev Zu:=@List.replicate_succ
abbrev Zv:=@Nat.lt_irrefl
abbrev Zw:=@List.mem_cons
abbrev Zx:=@List.length_take
abbrev Zy:=@List.all_eq_true
abbrev Zz:=@PySem.Heap.size_push
abbrev Y0:=@List.length_filter_le
abbrev Y1:=@List.find?_cons
abbrev Y2:=@PySem.Heap.get?_none_of_le
abbrev Y3:=@List.getElem?_set_ne
abbrev Y4:=@Nat.zero_le
abbrev Y5:=@List.flatten_cons
abbrev Y6:=@List.getElem?_take_of_lt
abbrev Y7:=@List.filterMap_map
abbrev Y8:=@Int.emod_lt_of_pos
abbrev Y9:=@Nat.lt_succ_of_lt
abbrev Ya:=@List.all_cons
abbrev Yb:=@List.any_cons
abbrev Yc:=@Bool.eq_iff_iff
abbrev Yd:=@Nat.lt_of_le_of_lt
abbrev Ye:=@List.length_range
abbrev Yf:=@Nat.le_succ
namespace L2
open PySem PySem.Spec PyProof.Rows
abbrev Key:=Sum Int Str
def keyIs:Key→Value→Bool
 | .inl k,v=>Value.isInt k v
 | .inr x,v=>Value.isStrOf x v
def keyH (w:World):Key→Int
 | .inl k=>hashInt k
 | .inr x=>hashStr w x
theorem zB9:∀ {k:Key}{v:Value},keyIs k v=true→(∃ i t,k=Sum.inl i∧v=Value.int i t)∨(∃ x t,k=Sum.inr x∧v=Value.str x t)
 | .inl i,v,h=>by
  obtain ⟨t,e⟩:=Value.isInt_shape (k:=i) (v:=v) h;exact .inl ⟨i,t,rfl,e⟩
 | .inr x,v,h=>by
  obtain ⟨t,e⟩:=Value.isStrOf_shape (x:=x) (v:=v) h;exact .inr ⟨x,t,rfl,e⟩
theorem zPf (i:Int) (t:Tok):keyIs (.inl i) (.int i t)=true:=by simp [keyIs,Value.isInt]
theorem zPe (x:Str) (t:Tok):keyIs (.inr x) (.str x t)=true:=by simp [keyIs,Value.isStrOf]
theorem yEt (a b:Int):decide ((Sum.inl a:Key)=Sum.inl b)=(a == b):=by
 by_cases e:a=b
 ·subst e;simp
 ·have h:¬ (Sum.inl a:Key)=Sum.inl b:=fun q=>e (Sum.inl.inj q);rw [decide_eq_false h];exact (beq_eq_false_iff_ne.mpr e).symm
theorem yEq (a b:Str):decide ((Sum.inr a:Key)=Sum.inr b)=decide (a=b):=by
 by_cases e:a=b
 ·subst e;simp
 ·have h:¬ (Sum.inr a:Key)=Sum.inr b:=fun q=>e (Sum.inr.inj q);rw [decide_eq_false h,decide_eq_false e]
theorem yEs (a:Int) (b:Str):decide ((Sum.inl a:Key)=Sum.inr b)=false:=decide_eq_false (fun q=>nomatch q)
theorem yEr (a:Str) (b:Int):decide ((Sum.inr a:Key)=Sum.inl b)=false:=decide_eq_false (fun q=>nomatch q)
def mixKind (prog:Program) (w:World):PySem.KeyKind prog w Key where
 is:=keyIs
 hash:=keyH w
 inj:=fun v a b ha hb=>by
  rcases zB9 ha with ⟨i,t,rfl,rfl⟩ | ⟨x,t,rfl,rfl⟩
  ·rcases zB9 hb with ⟨j,u,rfl,e⟩ | ⟨y,u,rfl,e⟩
   ·injection e with e1 _;rw [e1]
   ·exact nomatch e
  ·rcases zB9 hb with ⟨j,u,rfl,e⟩ | ⟨y,u,rfl,e⟩
   ·exact nomatch e
   ·injection e with e1 _;rw [e1]
 byValue:=fun k v h=>by
  rcases zB9 h with ⟨i,t,rfl,rfl⟩ | ⟨x,t,rfl,rfl⟩ <;> rfl
 pyHash:=fun hv h=>by
  rcases zB9 hv with ⟨i,t,rfl,rfl⟩ | ⟨x,t,rfl,rfl⟩
  ·exact wpAny_pyHash_int h
  ·exact wpAny_pyHash_str h
 eqBool:=fun hu hv h=>by
  rcases zB9 hu with ⟨i,t,rfl,rfl⟩ | ⟨x,t,rfl,rfl⟩
  ·rcases zB9 hv with ⟨j,u,rfl,rfl⟩ | ⟨y,u,rfl,rfl⟩
   ·rw [yEt] at h;exact wpAny_eqBool_int h
   ·rw [yEs] at h;exact SeqAt.EqAt.int_str i t y u _ _ _ _ h
  ·rcases zB9 hv with ⟨j,u,rfl,rfl⟩ | ⟨y,u,rfl,rfl⟩
   ·rw [yEr] at h;exact SeqAt.EqAt.str_int x t j u _ _ _ _ h
   ·rw [yEq] at h;exact wpAny_eqBool_str h
 «strs»:=fun k x t v h=>by
  rcases zB9 h with ⟨i,u,rfl,e⟩ | ⟨y,u,rfl,e⟩
  ·exact nomatch e
  ·injection e with e1 _;subst e1;cases v <;> rfl
theorem zQj (prog:Program) (w:World) (i:Int) (t:Tok):(mixKind prog w).is (.inl i) (.int i t)=true:=zPf i t
theorem zQi (prog:Program) (w:World) (x:Str) (t:Tok):(mixKind prog w).is (.inr x) (.str x t)=true:=zPe x t
end L2
namespace L2
open PySem PySem.Spec PyProof.Rows
inductive V where
 | non | bl (b:Bool) | int (i:Int) | str (x:Str) | byt (b:Array UInt8) | flt (b:UInt64) | ref (a:Addr) | ty (n:String)
 deriving DecidableEq
def RelV:V→Value→Prop
 | .non,u=>u=Value.none
 | .bl b,u=>u=Value.bool b
 | .int i,u=>∃ t,u=Value.int i t
 | .str x,u=>∃ t,u=Value.str x t
 | .byt b,u=>∃ t,u=Value.bytes b t
 | .flt b,u=>∃ t,u=Value.float b t
 | .ref a,u=>u=Value.ref a
 | .ty n,u=>u=Value.type n
abbrev Vals:List V→List Value→Prop:=Paired RelV
theorem Vals.length {xs:List V}{us:List Value} (r:Vals xs us):xs.length=us.length:=Paired.length r
theorem Vals.get:∀ {xs:List V}{us:List Value}{i:Nat}{x:V},Vals xs us→xs[i]? = some x→∃ u,us[i]? = some u∧RelV x u
 | _,_,_,_,.nil,e=>by simp at e
 | _,_,0,_,.cons r _,e=>by simp at e;subst e;exact ⟨_,rfl,r⟩
 | _,_,i + 1,x,.cons _ t,e=>by
  obtain ⟨u,h1,h2⟩:=Vals.get (i:=i) (x:=x) t (by simpa using e);exact ⟨u,by simpa using h1,h2⟩
theorem Vals.set {x:V}{u:Value} (r:RelV x u):∀ {xs:List V}{us:List Value} (i:Nat),Vals xs us→Vals (xs.set i x) (us.set i u)
 | _,_,_,.nil=>.nil
 | _,_,0,.cons _ t=>.cons r t
 | _,_,i + 1,.cons q t=>.cons q (Vals.set r i t)
theorem Vals.append:∀ {xs ys:List V}{us ws:List Value},Vals xs us→Vals ys ws→Vals (xs++ys) (us++ws)
 | _,_,_,_,.nil,s=>s
 | _,_,_,_,.cons r t,s=>.cons r (Vals.append t s)
theorem Vals.take:∀ {xs:List V}{us:List Value} (n:Nat),Vals xs us→Vals (xs.take n) (us.take n)
 | _,_,0,_=>.nil
 | _,_,_ + 1,.nil=>.nil
 | _,_,n + 1,.cons r t=>.cons r (Vals.take n t)
theorem Vals.drop:∀ {xs:List V}{us:List Value} (n:Nat),Vals xs us→Vals (xs.drop n) (us.drop n)
 | _,_,0,r=>r
 | _,_,_ + 1,.nil=>.nil
 | _,_,n + 1,.cons _ t=>Vals.drop n t
def RelO:Option V→Option Value→Prop
 | some v,some u=>RelV v u
 | none,none=>True
 | _,_=>False
def KV {κ : Type}:List (κ×V)→List (κ×Value)→Prop:=Paired fun (p : κ×V) (q : κ×Value)=>p.1=q.1∧RelV p.2 q.2
def kV:Key→V
 | .inl i=>.int i
 | .inr x=>.str x
inductive HO where
 | lst (xs:List V)
 | tup (xs:List V)
 | dK (kvs:List (Key×V)) | dT (kvs:List (List Key×V))
 | set (S:Int→Bool) (n:Nat)
 | ins (C dx:Addr) (fs:List (Str×V))
 | own (x:Addr)
 | xd (fs:List (Str×V))
 | met (f x:Addr)
 | rng (lo hi:Int)
 | frz (o:Obj) (u:HO)
 | tbl (ps:Array Value)
 | ext (φ : Heap→Prop)
abbrev Hp:=Addr→Option HO
def upd (H:Hp) (a:Addr) (o:HO):Hp:=fun b=>if b=a then some o else H b
theorem zAc {H:Hp}{a:Addr}{o:HO}:upd H a o a=some o:=by unfold upd;rw [if_pos rfl]
theorem zAa {H:Hp}{a b:Addr}{o:HO} (h:b≠a):upd H a o b=H b:=by unfold upd;rw [if_neg h]
theorem ne_of {H:Hp}{a b:Addr}{o u:HO} (h:H a=some o) (h':H b=some u) (d:o≠u):a≠b:=by
 intro e;subst e;rw [h] at h';exact d (Zl h')
theorem zA7 {H:Hp}{a b:Addr}{o:HO} (h:H a=some o) (h':H b=none):a≠b:=by
 intro e;subst e;rw [h] at h';cases h'
section
variable (P:Program) (w:World)
def ObjOk (H:Hp) (h:Heap) (a:Addr):HO→Prop
 | .lst xs=>xs.length≤sizeLine∧∃ (its:List Value) (n:Nat),Vals xs its∧h.get? a=some { cls:=.type "list",data:=.seq its.toArray n }
 | .tup xs=>xs.length≤sizeLine∧∃ its:List Value,Vals xs its∧IsTup h a its.toArray
 | .dK kvs=>kvs.length≤sizeLine∧(a == sysModules)=false∧∃ vs,KV kvs vs∧h.DictOf (mixKind P w) a vs
 | .dT kvs=>kvs.length≤sizeLine∧(a == sysModules)=false∧∃ xs:List (List Key×Addr×Value),
  Paired (fun (p:List Key×V) (q:List Key×Addr×Value)=>p.1=q.1∧H q.2.1=some (.tup (p.1.map kV))∧RelV p.2 q.2.2) kvs xs ∧
  ∃ o es ep,h.get? a=some o∧o.ExactDict∧o.data=.dict es ep∧es.toList=xs.map (entryOfKey (tupleKind (mixKind P w)))∧(xs.map (·.1)).Nodup
 | .set S n=>h.SetOf (intKind P w) a S n
 | .ins C dx fs=>H dx=some (.own a)∧fs.length≤1000∧dx≠a∧h.get? a=some (PySem.W.instObj C dx) ∧
  ∃ mA,h.Ns1 dx mA∧(∀ f,RelO (fs.lookup f) (mA f))∧PySem.Within mA (fs.map (·.1))
 | .own _=>∃ o,h.get? a=some o
 | .xd fs=>∃ mA,h.Ns1 a mA∧∀ f,RelO (fs.lookup f) (mA f)
 | .rng lo hi=>∃ t u v,h.get? a=some { cls:=.type "range",data:=.fields #[.int lo t,.int hi u,.int 1 v] }
 | .frz o u=>h.get? a=some o∧ObjOk H h a u
 | .tbl ps=>h.get? a=some { cls:=.none,data:=.fields ps }
 | .met f x=>h.get? a=some (PySem.W.methodObj (.ref f) (.ref x))
 | .ext φ=>φ h∧(∃ o,h.get? a=some o)∧∀ h1 h2:Heap,φ h1→(∀ o,h1.get? a=some o→h2.get? a=some o)→φ h2
def HOk (H:Hp) (h:Heap):Prop:=∀ a o,H a=some o→ObjOk P w H h a o
end
section
variable {P:Program}{w:World}{H H':Hp}{h h':Heap}{a:Addr}{o:HO}
theorem ObjOk.lt (x:ObjOk P w H h a o):a < h.objs.size:=by
 cases o with
 | lst xs=>obtain ⟨_,_,_,_,e⟩:=x;exact Z8 e
 | tup xs=>obtain ⟨_,_,_,p⟩:=x;exact p.lt
 | dK kvs=>obtain ⟨_,_,_,_,o,_,_,e,_⟩:=x;exact Z8 e
 | dT kvs=>obtain ⟨_,_,_,_,o,_,_,e,_⟩:=x;exact Z8 e
 | set S n=>obtain ⟨o,_,_,_,e,_⟩:=x;exact Z8 e
 | ins C dx fs=>obtain ⟨_,_,_,e,_⟩:=x;exact Z8 e
 | own y=>obtain ⟨_,e⟩:=x;exact Z8 e
 | xd fs=>obtain ⟨_,⟨_,_,_,e,_⟩,_⟩:=x;exact Z8 e
 | rng lo hi=>obtain ⟨_,_,_,e⟩:=x;exact Z8 e
 | frz ob u=>obtain ⟨e,_⟩:=x;exact Z8 e
 | tbl ps=>exact Z8 (show h.get? a=some _ from x)
 | met f y=>exact Z8 (show h.get? a=some _ from x)
 | ext φ=>obtain ⟨_,⟨_,e⟩,_⟩:=x;exact Z8 e
theorem Paired.mapP {α β : Type}{F G : α→β→Prop}:∀ {l₁ : List α}{l₂ : List β},Paired F l₁ l₂→(∀ a b,F a b→G a b)→Paired G l₁ l₂
 | _,_,.nil,_=>.nil
 | _,_,.cons r t,f=>.cons (f _ _ r) (Paired.mapP t f)
theorem ObjOk.stay (x:ObjOk P w H h a o) (k:∀ b u,(b=a∨H b=some (.own a))→h.get? b=some u→h'.get? b=some u)
 (ho:∀ b,H b=some (.own a)→H' b=some (.own a)) (ht:∀ b xs,H b=some (.tup xs)→H' b=some (.tup xs)):ObjOk P w H' h' a o:=by
 induction o with
 | lst xs=>obtain ⟨z,its,n,r,e⟩:=x;exact ⟨z,its,n,r,k _ _ (.inl rfl) e⟩
 | tup xs=>obtain ⟨z,its,r,ob,e,c⟩:=x;exact ⟨z,its,r,ob,k _ _ (.inl rfl) e,c⟩
 | dK kvs=>obtain ⟨z,y,vs,r,ob,es,ep,e,c⟩:=x;exact ⟨z,y,vs,r,ob,es,ep,k _ _ (.inl rfl) e,c⟩
 | dT kvs =>
  obtain ⟨z,y,xs,r,ob,es,ep,e,c⟩:=x;exact ⟨z,y,xs,Paired.mapP r fun p q z=>⟨z.1,ht _ _ z.2.1,z.2.2⟩,ob,es,ep,k _ _ (.inl rfl) e,c⟩
 | set S n=>obtain ⟨ob,es,ep,t,e,c⟩:=x;exact ⟨ob,es,ep,t,k _ _ (.inl rfl) e,c⟩
 | ins C dx fs =>
  obtain ⟨d,z,ne,e,mA,⟨od,es,ep,e2,c⟩,r⟩:=x;exact ⟨ho _ d,z,ne,k _ _ (.inl rfl) e,mA,⟨od,es,ep,k _ _ (.inr d) e2,c⟩,r⟩
 | own y=>obtain ⟨ob,e⟩:=x;exact ⟨ob,k _ _ (.inl rfl) e⟩
 | xd fs=>obtain ⟨mA,⟨od,es,ep,e,c⟩,r⟩:=x;exact ⟨mA,⟨od,es,ep,k _ _ (.inl rfl) e,c⟩,r⟩
 | rng lo hi=>obtain ⟨t,u,v,e⟩:=x;exact ⟨t,u,v,k _ _ (.inl rfl) e⟩
 | frz ob u ih=>obtain ⟨e,q⟩:=x;exact ⟨k _ _ (.inl rfl) e,ih q⟩
 | tbl ps =>
  have e:h.get? a=some { cls:=.none,data:=.fields ps }:=x;show h'.get? a=some { cls:=.none,data:=.fields ps };exact k a _ (.inl rfl) e
 | met f y =>
  have e:h.get? a=some (PySem.W.methodObj (.ref f) (.ref y)):=x;show h'.get? a=some (PySem.W.methodObj (.ref f) (.ref y));exact k a _ (.inl rfl) e
 | ext φ=>obtain ⟨p,⟨o,e⟩,st⟩:=x;exact ⟨st _ _ p fun o q=>k _ _ (.inl rfl) q,⟨o,k _ _ (.inl rfl) e⟩,st⟩
theorem HOk.lt (x:HOk P w H h) (e:H a=some o):a < h.objs.size:=(x a o e).lt
theorem HOk.fresh (x:HOk P w H h) (e:h.objs.size≤a):H a=none:=by
 cases q:H a with
 | none=>rfl
 | some u=>exact absurd (Z5 (x.lt q) e) (Zv _)
theorem HOk.kept (x:HOk P w H h) (k:∀ b u,h.get? b=some u→h'.get? b=some u):HOk P w H h':=fun a o e =>
 (x a o e).stay (fun b u _ q=>k b u q) (fun _ q=>q) fun _ _ q=>q
theorem HOk.laid (x:HOk P w H h) (k:∀ b u,h.get? b=some u→h'.get? b=some u) (hp:h.objs.size≤a) (new:ObjOk P w (upd H a o) h' a o):HOk P w (upd H a o) h':=fun b u e=>by
 have hn:=x.fresh hp;by_cases hb:b=a
 ·subst hb;rw [zAc] at e;cases e;exact new
 ·rw [zAa hb] at e;exact (x b u e).stay (fun c v _ q=>k c v q) (fun c q=>by rw [zAa (zA7 q hn)];exact q) fun c xs q=>by rw [zAa (zA7 q hn)];exact q
end
def Rd (H:Hp) (a:Addr) (u:HO):Prop:=H a=some u∨∃ o,H a=some (.frz o u)
theorem Rd.ok {P:Program}{w:World}{H:Hp}{h:Heap}{a:Addr}{u:HO} (r:Rd H a u) (x:HOk P w H h):ObjOk P w H h a u:=by
 rcases r with r | ⟨o,r⟩
 ·exact x a u r
 ·obtain ⟨_,q⟩:=x a _ r;exact q
def Mut:Option HO→Prop
 | some (.lst _)=>True
 | some (.dK _)=>True
 | some (.dT _)=>True
 | some (.set _ _)=>True
 | some (.ins _ _ _)=>True
 | some (.ext _)=>True
 | _=>False
section
variable {P:Program}{w:World}{H:Hp}{h h':Heap}{x e:Addr}{o':HO}
theorem HOk.write (ok:HOk P w H h) (mu:Mut (H x)) (he:e=x∨H e=some (.own x)) (k:∀ b u,b≠e→h.get? b=some u→h'.get? b=some u) (heo:∃ u,h'.get? e=some u)
 (new:ObjOk P w (upd H x o') h' x o'):HOk P w (upd H x o') h':=fun b u q=>by
 have nown:∀ c y,H c=some (.own y)→c≠x:=fun c y r z=>by subst z;rw [r] at mu;exact mu
 have ntup:∀ c xs,H c=some (.tup xs)→c≠x:=fun c xs r z=>by subst z;rw [r] at mu;exact mu
 by_cases hb:b=x
 ·subst hb;rw [zAc] at q;cases q;exact new
 ·rw [zAa hb] at q;by_cases hbe:b=e
  ·have q':H b=some (.own x):=by
    rcases he with z | z
    ·exact absurd (hbe.trans z) hb
    ·rw [hbe];exact z
   rw [q] at q';cases q';obtain ⟨v,hv⟩:=heo;exact ⟨v,by rw [hbe];exact hv⟩
  ·refine (ok b u q).stay (fun c v hc r=>k c v ?_ r) (fun c r=>by rw [zAa (nown c b r)];exact r) fun c xs r=>by rw [zAa (ntup c xs r)];exact r
   rcases hc with rfl | hc
   ·exact hbe
   ·rintro rfl;rcases he with z | z
    ·exact nown c b hc z
    ·rw [hc] at z;cases z;exact hb rfl
end
structure Un (fs ex:List Addr) (H H':Hp) (h h':Heap):Prop where
 keep:∀ b o,h.get? b=some o→H b=none→b∉fs→b∉ex→h'.get? b=some o
 slot:∀ b o,h.get? b=some o→H b=none→b∈fs→b∉ex→∃ sl,h'.get? b=some { o with slots:=sl }
 free:∀ b o,h.get? b=some o→H b=none→b∉ex→H' b=none
 there:∀ b o,h.get? b=some o→b∉ex→∃ o',h'.get? b=some o'
 tups:∀ b xs,H b=some (.tup xs)→H' b=some (.tup xs)
 frzs:∀ b o u,H b=some (.frz o u)→H' b=some (.frz o u)
 tbls:∀ b ps,H b=some (.tbl ps)→∃ more,H' b=some (.tbl (ps++more))
section
variable {fs fs' ex ex':List Addr}{H H1 H2:Hp}{h h1 h2 h':Heap}{a x e:Addr}{o:HO}
theorem Un.any (u:Un fs ex H H1 h h1) {b:Addr}{ob:Obj} (q:h.get? b=some ob) (n:H b=none) (hx:b∉ex):∃ sl,h1.get? b=some { ob with slots:=sl }:=by
 by_cases hb:b∈fs
 ·exact u.slot b ob q n hb hx
 ·exact ⟨ob.slots,u.keep b ob q n hb hx⟩
theorem Un.kept (k:∀ b u,h.get? b=some u→h'.get? b=some u):Un fs ex H H h h' :=
 ⟨fun b ob q _ _ _=>k b ob q,fun b ob q _ _ _=>⟨ob.slots,k b ob q⟩,fun _ _ _ n _=>n,fun b ob q _=>⟨ob,k b ob q⟩,fun _ _ q=>q,fun _ _ _ q=>q,fun _ ps q=>⟨#[],by rw [q];simp⟩⟩
theorem Un.refl:Un fs ex H H h h:=Un.kept fun _ _ q=>q
theorem Un.laid (k:∀ b u,h.get? b=some u→h'.get? b=some u) (hp:h.objs.size≤a) (hn:H a=none):Un fs ex H (upd H a o) h h' where
 keep:=fun b u q _ _ _=>k b u q
 slot:=fun b u q _ _ _=>⟨u.slots,k b u q⟩
 free:=fun b u q n _=>by rw [zAa (Za (Z5 (Z8 q) hp))];exact n
 there:=fun b u q _=>⟨u,k b u q⟩
 tups:=fun b xs q=>by rw [zAa (zA7 q hn)];exact q
 frzs:=fun b u xs q=>by rw [zAa (zA7 q hn)];exact q
 tbls:=fun b ps q=>⟨#[],by rw [zAa (zA7 q hn),q];simp⟩
theorem Un.write (mu:Mut (H x)) (he:e=x∨H e=some (.own x)) (k:∀ b u,b≠e→h.get? b=some u→h'.get? b=some u) (heo:∃ u,h'.get? e=some u):Un fs ex H (upd H x o) h h':=by
 have hx:∀ b,H b=none→b≠x:=fun b n z=>by subst z;rw [n] at mu;exact mu
 have hb:∀ b,H b=none→b≠e:=fun b n z=>by
  subst z;rcases he with r | r
  ·exact hx b n r
  ·rw [n] at r;cases r
 have hm:∀ b u,H b=some u→¬ Mut (some u)→b≠x:=fun b u q nm z=>by subst z;rw [q] at mu;exact nm mu
 refine ⟨fun b u q n _ _=>k b u (hb b n) q,fun b u q n _ _=>⟨u.slots,k b u (hb b n) q⟩,fun b u q n _=>by rw [zAa (hx b n)];exact n,fun b u q _=>?_,
  fun b xs q=>by rw [zAa (hm b _ q fun z=>z)];exact q,fun b u xs q=>by rw [zAa (hm b _ q fun z=>z)];exact q,fun b ps q=>⟨#[],by rw [zAa (hm b _ q fun z=>z),q];simp⟩⟩
 by_cases hbe:b=e
 ·subst hbe;exact heo
 ·exact ⟨u,k b u hbe q⟩
end
def trk (h:Heap) (H:Hp):List Addr:=(List.range h.objs.size).filter fun a=>(H a).isSome
def hidT (h:Heap) (H:Hp):Heap:=PySem.W.hideAll h (trk h H)
theorem zV4 (h:Heap) (H:Hp):(hidT h H).objs.size=h.objs.size:=PySem.W.hideAll_size _ _
theorem zXj {h:Heap}{H:Hp}{b:Addr}{o:Obj} (e:h.get? b=some o) (n:H b=none):(hidT h H).get? b=some o :=
 PySem.W.hideAll_get _ e fun hm=>by
  have q:(H b).isSome=true:=(List.mem_filter.mp hm).2;rw [n] at q;simp at q
theorem yAu {h:Heap}{H:Hp}{b:Addr}{o:Obj} (e:(hidT h H).get? b=some o):h.get? b=some o∧H b=none:=by
 have e':h.get? b=some o:=PySem.W.of_hideAll (trk h H) e;refine ⟨e',?_⟩;cases q:H b with
 | none=>rfl
 | some x =>
  have hm:b∈trk h H:=List.mem_filter.mpr ⟨List.mem_range.mpr (Z8 e'),by simp [q]⟩;have z:(hidT h H).get? b=none:=PySem.W.hideAll_none (trk h H) hm;rw [z] at e;cases e
end L2
namespace L2
open PySem PySem.Spec PyProof.Rows
structure Mod (K:PySem.W.Frag) (mg:Str→Option Value) (base:Heap):Prop where
 kin:K.In base
 glob:base.Ns mainGlobals mg
 blt:∃ mb,base.Ns builtinsNs mb∧∀ x:Str,x≠"__name__"→mb x=bootBuiltins x
 nolimit:base.NoLimit
structure Cx where
 prog:Program
 w:World
 K:PySem.W.Frag
 mg:Str→Option Value
 base:Heap
 A:Around
 N:List Str
 s₀ : Shared
 H₀ : Hp
 env:Env
 outer:List Env
 stack:List Env
 ex:List Addr
 fn:Str→Bool
 calm:Bool
 pn:List (Addr×Obj)
 xe:Value→Shared→Prop
def frs (l:List Env):List Addr:=l.filterMap (·.frame)
abbrev Cx.fs (X:Cx):List Addr:=frs X.outer
def Vis (sc:Scope) (x:Str):Prop:=sc.names.lookup x=some .local∨sc.names.lookup x=some .cell∨sc.names.lookup x=some .free
def Loc (sc:Scope) (x:Str):Prop:=sc.names.lookup x=some .local∨sc.names.lookup x=some .cell
def Look (env:Env) (h:Heap) (m:Str→Option Value) (x:Str) (u:Value):Prop :=
 (env.kindOf x=some .local∧m x=some u)∨((env.kindOf x=some .cell∨env.kindOf x=some .free)∧∃ c,env.cells.lookup x=some c∧h.IsCell c (some u))
structure Cx.Ok (X:Cx):Prop where
 mod:Mod X.K X.mg X.base
 kind:X.env.scope.kind=.function
 glob:X.env.globals=mainGlobals
 blt:X.env.builtins=builtinsNs
 above:X.s₀.heap.objs.size≤X.env.locals
 inj:∀ x y c,X.env.cells.lookup x=some c→X.env.cells.lookup y=some c→x=y
 has:∀ x,(X.env.kindOf x=some .cell∨X.env.kindOf x=some .free)→∃ c,X.env.cells.lookup x=some c
 cab:∀ x c,X.fn x=true→X.env.cells.lookup x=some c→X.s₀.heap.objs.size≤c
 hd:X.calm=true→X.A.handled=none
 frames:X.A.frames=some X.stack
 stk:X.stack=X.outer∨(X.stack=X.env :: X.outer∧X.env.frame=some X.env.locals)
 exf:∀ b∈X.ex,b≠X.env.locals∧∀ x c,X.env.cells.lookup x=some c→c≠b
 bs:∀ b o,X.base.get? b=some o→X.s₀.heap.get? b=some o∧X.H₀ b=none
 bsz:X.base.objs.size≤X.s₀.heap.objs.size
 noex:∀ b o,X.base.get? b=some o→b∉X.ex
 exfs:∀ b∈X.ex,b∉X.fs
 funs:X.s₀.heap.FunFrames X.base X.outer
 frf:∀ b∈X.fs,X.H₀ b=none
structure Inv (X:Cx) (pins:List (Addr×Obj)) (σ : List (Option V)) (H:Hp) (s:Shared):Prop where
 ok:X.Ok
 os:s.os=X.s₀.os
 bare:AllBare s.gens
 base:Un X.fs X.ex X.H₀ H X.s₀.heap s.heap
 loc:∃ m,s.heap.Ns X.env.locals m∧∀ (i:Nat) (x:Str) (v:V),X.N[i]? = some x→σ[i]? = some (some v)→Vis X.env.scope x→∃ u,RelV v u∧Look X.env s.heap m x u
 cell:∀ x c,X.env.cells.lookup x=some c→∃ v,s.heap.IsCell c v
 free:H X.env.locals=none
 freeC:∀ x c,X.env.cells.lookup x=some c→H c=none
 pin:∀ p∈X.pn++pins,s.heap.get? p.1=some p.2∧H p.1=none∧p.1≠X.env.locals∧p.1∉X.fs∧∀ v,p.2.data≠.cell v
 hok:HOk X.prog X.w H s.heap
 len : σ.length=X.N.length
section
variable {X:Cx}{pins:List (Addr×Obj)}{σ : List (Option V)}{H H':Hp}{s:Shared}{h':Heap}
theorem Cx.Ok.nofr (ok:X.Ok) {b:Addr}{o:Obj} (e:X.base.get? b=some o):b∉X.fs:=fun hb=>by
 have:=(ok.funs.mem hb).1;rw [e] at this;cases this
theorem Inv.bs (I:Inv X pins σ H s):∀ b o,X.base.get? b=some o→s.heap.get? b=some o∧H b=none:=fun b o e =>
 ⟨I.base.keep b o (I.ok.bs b o e).1 (I.ok.bs b o e).2 (I.ok.nofr e) (I.ok.noex b o e),I.base.free b o (I.ok.bs b o e).1 (I.ok.bs b o e).2 (I.ok.noex b o e)⟩
theorem Inv.bk (I:Inv X pins σ H s):∀ b o,X.base.get? b=some o→s.heap.get? b=some o:=fun b o e=>(I.bs b o e).1
theorem Inv.mod (I:Inv X pins σ H s):Mod X.K X.mg X.base:=I.ok.mod
theorem Inv.kIn (I:Inv X pins σ H s):X.K.In s.heap:=I.ok.mod.kin.keeps I.bk
theorem Inv.nolimit (I:Inv X pins σ H s):s.heap.NoLimit:=I.ok.mod.nolimit.keeps I.bk
theorem Inv.lt (I:Inv X pins σ H s):X.env.locals < s.heap.objs.size:=let ⟨_,hn,_⟩:=I.loc;hn.lt
theorem Inv.sz (I:Inv X pins σ H s):X.s₀.heap.objs.size≤s.heap.objs.size:=Z3 I.ok.above (Zs I.lt)
theorem Inv.nofs (I:Inv X pins σ H s) {a:Addr} (h:s.heap.objs.size≤a):a∉X.fs:=fun hb=>by
 obtain ⟨_,o,ho,_⟩:=I.ok.funs.mem hb;exact absurd (Z5 (Z8 ho) (Z3 I.sz h)) (Zv _)
theorem Inv.cne (I:Inv X pins σ H s):∀ x c,X.env.cells.lookup x=some c→c≠X.env.locals:=fun x c e z=>by
 obtain ⟨v,o,ho,hd⟩:=I.cell x c e;obtain ⟨m,⟨o',es,ep,ho',hd',_⟩,_⟩:=I.loc;rw [z,ho'] at ho;cases ho;rw [hd'] at hd;cases hd
theorem Inv.funs (I:Inv X pins σ H s):s.heap.FunFrames X.base X.outer:=by
 have all:∀ (l:List Env),(∀ b∈frs l,b∈X.fs)→X.s₀.heap.FunFrames X.base l→s.heap.FunFrames X.base l:=by
  intro l
  induction l with
  | nil=>intro _ _;trivial
  | cons env r ih =>
   intro hs hl;obtain ⟨hk,⟨L,o,hf,hn,ho,hd⟩,hr⟩:=hl;have hL:L∈X.fs:=hs L (by unfold frs;rw [Zn,hf];exact Zj);obtain ⟨sl,e⟩:=I.base.slot L o ho (I.ok.frf L hL) hL fun z=>I.ok.exfs L z hL;exact ⟨hk,⟨L,_,hf,hn,e,hd⟩,ih (fun b hb=>hs b (by unfold frs;rw [Zn,hf];exact Zb _ hb)) hr⟩
 exact all X.outer (fun _ hb=>hb) I.ok.funs
theorem Inv.stack (I:Inv X pins σ H s):s.heap.FunFrames X.base X.stack:=by
 rcases I.ok.stk with e | ⟨e,hf⟩
 ·rw [e];exact I.funs
 ·rw [e];obtain ⟨m,hn,_⟩:=I.loc;refine .cons (by rw [I.ok.kind];decide) hf hn ?_ I.funs;exact Y2 (Z3 I.ok.bsz I.ok.above)
theorem Inv.stkSub (I:Inv X pins σ H s):∀ b∈frs X.stack,b∈X.env.locals :: X.fs:=fun b hb=>by
 rcases I.ok.stk with e | ⟨e,hf⟩
 ·rw [e] at hb;exact Zb _ hb
 ·rw [e] at hb;unfold frs at hb;rw [Zn,hf] at hb;exact hb
theorem Inv.stkFree (I:Inv X pins σ H s):∀ b∈frs X.stack,H b=none:=fun b hb=>by
 rcases List.mem_cons.mp (I.stkSub b hb) with e | hb
 ·rw [e];exact I.free
 ·obtain ⟨_,o,ho,_⟩:=I.ok.funs.mem hb;exact I.base.free b o ho (I.ok.frf b hb) fun z=>I.ok.exfs b z hb
theorem Inv.step {g':Array GenState}{t':Nat}{d':Drawn}{ch:List Addr} (I:Inv X pins σ H s)
 (hch:∀ b∈ch,(b∈X.ex∨X.s₀.heap.get? b=none)∧b≠X.env.locals∧(∀ x c,X.env.cells.lookup x=some c→c≠b)∧∀ p∈X.pn++pins,p.1≠b)
 (keep:∀ b o,b≠X.env.locals→b∉X.fs→b∉ch→s.heap.get? b=some o→H b=none→h'.get? b=some o)
 (slot:∀ b o,b≠X.env.locals→b∈X.fs→b∉ch→s.heap.get? b=some o→H b=none→∃ sl,h'.get? b=some { o with slots:=sl }) (free:∀ b o,b∉ch→s.heap.get? b=some o→H b=none→H' b=none)
 (there:∀ b o,b∉ch→s.heap.get? b=some o→∃ o',h'.get? b=some o')
 (tups:∀ b xs,H b=some (.tup xs)→H' b=some (.tup xs)) (frzs:∀ b o u,H b=some (.frz o u)→H' b=some (.frz o u)) (tbls:∀ b ps,H b=some (.tbl ps)→∃ more,H' b=some (.tbl (ps++more)))
 (ns:∀ m,s.heap.Ns X.env.locals m→h'.Ns X.env.locals m) (hok:HOk X.prog X.w H' h') (hg:AllBare g') :
 Inv X pins σ H' { s with heap:=h',gens:=g',drawn:=d',toks:=t' }:=by
 have neL:∀ b o,X.s₀.heap.get? b=some o→b≠X.env.locals:=fun b o e=>Za (Z5 (Z8 e) I.ok.above);have neC:∀ b o,X.s₀.heap.get? b=some o→b∉X.ex→b∉ch:=fun b o e hx hb=>by
  rcases (hch b hb).1 with z | z
  ·exact hx z
  ·rw [z] at e;cases e
 have cellK:∀ x c,X.env.cells.lookup x=some c→∀ v,s.heap.IsCell c v→h'.IsCell c v:=fun x c e v ⟨o,ho,hd⟩=>by
  have nch:c∉ch:=fun z=>(hch c z).2.2.1 x c e rfl;by_cases hc:c∈X.fs
  ·obtain ⟨sl,q⟩:=slot c o (I.cne x c e) hc nch ho (I.freeC x c e);exact ⟨_,q,hd⟩
  ·exact ⟨o,keep c o (I.cne x c e) hc nch ho (I.freeC x c e),hd⟩
 refine ⟨I.ok,I.os,hg,⟨fun b o e n hb hx=>?_,fun b o e n hb hx=>?_,fun b o e n hx=>?_,fun b o e hx=>?_,fun b xs e=>tups b xs (I.base.tups b xs e),fun b o xs e=>frzs b o xs (I.base.frzs b o xs e),fun b ps e=>?_⟩,?_,fun x c e=>?_,?_,fun x c e=>?_,fun p hp=>?_,hok,I.len⟩
 ·exact keep b o (neL b o e) hb (neC b o e hx) (I.base.keep b o e n hb hx) (I.base.free b o e n hx)
 ·obtain ⟨sl,e1⟩:=I.base.slot b o e n hb hx;obtain ⟨sl',e2⟩:=slot b _ (neL b o e) hb (neC b o e hx) e1 (I.base.free b o e n hx);exact ⟨sl',e2⟩
 ·obtain ⟨o',e1⟩:=I.base.there b o e hx;exact free b o' (neC b o e hx) e1 (I.base.free b o e n hx)
 ·obtain ⟨o',e1⟩:=I.base.there b o e hx;exact there b o' (neC b o e hx) e1
 ·obtain ⟨m1,e1⟩:=I.base.tbls b ps e;obtain ⟨m2,e2⟩:=tbls b _ e1;exact ⟨m1++m2,by rw [e2,Array.append_assoc]⟩
 ·obtain ⟨m,hn,hl⟩:=I.loc;refine ⟨m,ns m hn,fun i x v e1 e2 e3=>?_⟩;obtain ⟨u,r,l⟩:=hl i x v e1 e2 e3;refine ⟨u,r,?_⟩;rcases l with l | ⟨k,c,e,z⟩
  ·exact .inl l
  ·exact .inr ⟨k,c,e,cellK x c e _ z⟩
 ·obtain ⟨v,z⟩:=I.cell x c e;exact ⟨v,cellK x c e v z⟩
 ·obtain ⟨m,⟨o,_,_,ho,_⟩,_⟩:=I.loc;exact free _ o (fun z=>(hch _ z).2.1 rfl) ho I.free
 ·obtain ⟨v,o,ho,hd⟩:=I.cell x c e;exact free c o (fun z=>(hch c z).2.2.1 x c e rfl) ho (I.freeC x c e)
 ·obtain ⟨e,n,ne,nf,d⟩:=I.pin p hp;have nch:p.1∉ch:=fun z=>(hch p.1 z).2.2.2 p hp rfl;exact ⟨keep p.1 p.2 ne nf nch e n,free p.1 p.2 nch e n,ne,nf,d⟩
theorem Inv.un {t':Nat} (I:Inv X pins σ H s) (u:Un X.fs [] H H' s.heap h') (hok:HOk X.prog X.w H' h'):Inv X pins σ H' { s with heap:=h',toks:=t' }:=by
 obtain ⟨m,⟨o,es,ep,ho,r⟩,_⟩:=id I.loc;obtain ⟨sl,hL⟩:=u.any ho I.free (by simp)
 exact I.step (g':=s.gens) (d':=s.drawn) (ch:=[]) (fun _ z=>nomatch z) (fun b o _ hb _ e n=>u.keep b o e n hb (by simp)) (fun b o _ hb _ e n=>u.slot b o e n hb (by simp)) (fun b o _ e n=>u.free b o e n (by simp)) (fun b o _ e=>u.there b o e (by simp)) u.tups u.frzs u.tbls (fun m' hm=>by
  obtain ⟨o',es',ep',ho',r'⟩:=hm;rw [ho] at ho';cases ho'
  exact ⟨_,es',ep',hL,r'⟩) hok I.bare
theorem Inv.call {g':Array GenState}{t':Nat}{d':Drawn}{ch:List Addr} (I:Inv X pins σ H s) (u:Un (frs X.stack) ch H H' s.heap h') (hok:HOk X.prog X.w H' h') (hg:AllBare g')
 (hch:∀ b∈ch,(b∈X.ex∨X.s₀.heap.objs.size≤b)∧b≠X.env.locals∧(∀ x c,X.env.cells.lookup x=some c→c≠b)∧∀ p∈X.pn++pins,p.1≠b) :
 Inv X pins σ H' { s with heap:=h',gens:=g',drawn:=d',toks:=t' }:=by
 obtain ⟨m,⟨o,es,ep,ho,r⟩,_⟩:=id I.loc;obtain ⟨sl,hL⟩:=u.any ho I.free fun z=>(hch _ z).2.1 rfl
 exact I.step (ch:=ch) (fun b hb=>⟨(hch b hb).1.imp_right fun z=>Y2 z,(hch b hb).2⟩) (fun b o hL hb hc e n=>u.keep b o e n (fun z=>(List.mem_cons.mp (I.stkSub b z)).elim hL hb) hc) (fun b o _ _ hc e n=>u.any e n hc) (fun b o hc e n=>u.free b o e n hc) (fun b o hc e=>u.there b o e hc) u.tups u.frzs u.tbls (fun m' hm=>by
  obtain ⟨o',es',ep',ho',r'⟩:=hm;rw [ho] at ho';cases ho'
  exact ⟨_,es',ep',hL,r'⟩) hok hg
theorem Inv.turned {t':Nat}{it:Addr} (I:Inv X pins σ H s) (k:∀ b o,b≠it→s.heap.get? b=some o→h'.get? b=some o) (hn:H it=none) (hL:it≠X.env.locals)
 (h1:it∈X.ex∨X.s₀.heap.objs.size≤it) (h2:∀ x c,X.env.cells.lookup x=some c→c≠it) (h3:∀ p∈X.pn++pins,p.1≠it):Inv X pins σ H { s with heap:=h',toks:=t' }:=by
 have nit:∀ b u,H b=some u→b≠it:=fun b u e z=>by rw [z,hn] at e;cases e
 refine I.step (g':=s.gens) (d':=s.drawn) (ch:=[it]) (fun b hb=>?_) (fun b o _ _ hc e _=>k b o (fun z=>hc (by simp [z])) e) (fun b o _ _ hc e _=>⟨o.slots,k b o (fun z=>hc (by simp [z])) e⟩) (fun _ _ _ _ n=>n)
  (fun b o hc e=>⟨o,k b o (fun z=>hc (by simp [z])) e⟩) (fun _ _ e=>e) (fun _ _ _ e=>e) (fun b ps e=>⟨#[],by rw [e];simp⟩) (fun m hm=>?_) (fun b u e=>?_) I.bare
 ·have e:b=it:=by simpa using hb
  subst e;exact ⟨h1.imp_right fun z=>Y2 z,hL,h2,h3⟩
 ·obtain ⟨o,es,ep,ho,r⟩:=hm;exact ⟨o,es,ep,k _ o (Ne.symm hL) ho,r⟩
 ·refine (I.hok b u e).stay (fun c v hc q=>k c v ?_ q) (fun _ q=>q) fun _ _ q=>q;rcases hc with z | z
  ·rw [z];exact nit b u e
  ·exact nit c _ z
theorem Inv.tok (I:Inv X pins σ H s) (t:Nat):Inv X pins σ H { s with toks:=t }:=I.un (h':=s.heap) (t':=t) Un.refl I.hok
theorem Inv.kept {t':Nat} (I:Inv X pins σ H s) (k:∀ b u,s.heap.get? b=some u→h'.get? b=some u):Inv X pins σ H { s with heap:=h',toks:=t' }:=I.un (Un.kept k) (I.hok.kept k)
theorem Inv.laid {a:Addr}{o:HO}{t':Nat} (I:Inv X pins σ H s) (k:∀ b u,s.heap.get? b=some u→h'.get? b=some u) (hp:s.heap.objs.size≤a) (new:ObjOk X.prog X.w (upd H a o) h' a o) :
 Inv X pins σ (upd H a o) { s with heap:=h',toks:=t' }:=I.un (Un.laid k hp (I.hok.fresh hp)) (I.hok.laid k hp new)
theorem Inv.write {x e:Addr}{o:HO}{t':Nat} (I:Inv X pins σ H s) (mu:Mut (H x)) (he:e=x∨H e=some (.own x)) (k:∀ b u,b≠e→s.heap.get? b=some u→h'.get? b=some u) (heo:∃ u,h'.get? e=some u)
 (new:ObjOk X.prog X.w (upd H x o) h' x o):Inv X pins σ (upd H x o) { s with heap:=h',toks:=t' }:=I.un (Un.write mu he k heo) (I.hok.write mu he k heo new)
theorem Inv.pins_of {pins':List (Addr×Obj)} (I:Inv X pins σ H s) (h:∀ p∈pins',s.heap.get? p.1=some p.2∧H p.1=none∧p.1≠X.env.locals∧p.1∉X.fs∧∀ v,p.2.data≠.cell v):Inv X pins' σ H s :=
 ⟨I.ok,I.os,I.bare,I.base,I.loc,I.cell,I.free,I.freeC,fun p hp=>(List.mem_append.mp hp).elim (fun z=>I.pin p (Zq _ z)) (h p),I.hok,I.len⟩
theorem zRt {N:List Str} (hN:N.Nodup) {i j:Nat}{x:Str} (a:N[i]? = some x) (b:N[j]? = some x):i=j:=by
 obtain ⟨h1,e1⟩:=List.getElem?_eq_some_iff.mp a;obtain ⟨h2,e2⟩:=List.getElem?_eq_some_iff.mp b;exact (List.getElem_inj hN).mp (e1.trans e2.symm)
theorem zOk {M:Model}{A:Around}{E:Value→Shared→Prop}{i:Nat}{x:Str}{v:V}{u:Value}{Q:Unit→Shared→Prop} (I:Inv X pins σ H s) (hN:X.N.Nodup) (hi:X.N[i]? = some x) (hx:Loc X.env.scope x) (r:RelV v u)
 (h:∀ s',Inv X pins (σ.set i (some v)) H s'→(∃ a,Heap.SameBut a s.heap s'.heap∧(a=X.env.locals∨X.env.cells.lookup x=some a))→Q () s') (hf:X.fn x=true∨X.env.scope.names.lookup x=some .local:=by first | exact .inl rfl | exact .inr rfl | assumption):wpAny M A (storeName X.env x u) Q E s:=by
 obtain ⟨m,hn,hl⟩:=id I.loc;have hcls:(X.env.scope.kind == .class || (X.env.scope.kind == .module && X.env.locals != X.env.globals))=false:=by rw [I.ok.kind];rfl
 have hiσ : i < σ.length:=by rw [I.len];exact (List.getElem?_eq_some_iff.mp hi).1
 have cne:=I.cne;have tracked:∀ {a:Addr}{h':Heap},(∃ o,s.heap.get? a=some o∧H a=none)→Heap.SameBut a s.heap h'→HOk X.prog X.w H h':=fun {a h'} ha hs b ob e=>by
  obtain ⟨_,_,hfree⟩:=ha;refine (I.hok b ob e).stay (fun c w' hc q=>(hs.2 c ?_).trans q) (fun _ q=>q) fun _ _ q=>q;rintro rfl;rcases hc with rfl | hc
  ·rw [hfree] at e;cases e
  ·rw [hfree] at hc;cases hc
 rcases hx with hk | hk
 ·refine wpAny_storeName_local hk hn (fun h' hn' hs=>?_) hcls;obtain ⟨oL,_,_,hoL,_⟩:=id hn;refine h _ ⟨I.ok,I.os,I.bare,⟨fun b o e n hb hx=>?_,fun b o e n hb hx=>?_,I.base.free,fun b o e hx=>?_,I.base.tups,I.base.frzs,I.base.tbls⟩,⟨_,hn',fun j y v' e1 e2 e3=>?_⟩,fun y c e=>?_,I.free,I.freeC,fun p hp=>?_,tracked ⟨oL,hoL,I.free⟩ hs,by simpa using I.len⟩ ⟨_,hs,.inl rfl⟩
  ·exact (hs.2 b (Za (Z5 (Z8 e) I.ok.above))).trans (I.base.keep b o e n hb hx)
  ·obtain ⟨sl,e1⟩:=I.base.slot b o e n hb hx;exact ⟨sl,(hs.2 b (Za (Z5 (Z8 e) I.ok.above))).trans e1⟩
  ·obtain ⟨o',e1⟩:=I.base.there b o e hx;exact ⟨o',(hs.2 b (Za (Z5 (Z8 e) I.ok.above))).trans e1⟩
  ·by_cases hj:j=i
   ·subst hj;rw [hi] at e1;cases e1;rw [List.getElem?_set_self hiσ] at e2;cases e2;exact ⟨u,r,.inl ⟨hk,by simp⟩⟩
   ·rw [Y3 (Ne.symm hj)] at e2;obtain ⟨u',r',q⟩:=hl j y v' e1 e2 e3;refine ⟨u',r',?_⟩;rcases q with ⟨k,e⟩ | ⟨k,c,e,z⟩
    ·refine .inl ⟨k,?_⟩;have:y≠x:=fun e=>hj (zRt hN e1 (e ▸ hi));simp [this,e]
    ·exact .inr ⟨k,c,e,z.sameBut hs (cne y c e)⟩
  ·obtain ⟨w',z⟩:=I.cell y c e;exact ⟨w',z.sameBut hs (cne y c e)⟩
  ·obtain ⟨e,n,ne,nf,d⟩:=I.pin p hp;exact ⟨(hs.2 p.1 ne).trans e,n,ne,nf,d⟩
 ·have hfn:X.fn x=true:=by
   rcases hf with z | z
   ·exact z
   ·rw [z] at hk;cases hk
  obtain ⟨c,hc⟩:=I.ok.has x (.inl hk);obtain ⟨w',z⟩:=I.cell x c hc;refine wpAny_storeName_cell I.ok.kind hk hc z (fun h' hc' hs=>?_);obtain ⟨oc,hoc,hocd⟩:=id z;refine h { s with heap:=h' } ⟨I.ok,I.os,I.bare,⟨fun b o e n hb hx=>?_,fun b o e n hb hx=>?_,I.base.free,fun b o e hx=>?_,I.base.tups,I.base.frzs,I.base.tbls⟩,⟨m,hn.sameBut hs (Ne.symm (cne x c hc)),fun j y v' e1 e2 e3=>?_⟩,fun y c' e=>?_,I.free,I.freeC,fun p hp=>?_,tracked ⟨oc,hoc,I.freeC x c hc⟩ hs,by simpa using I.len⟩ ⟨c,hs,.inr hc⟩
  ·exact (hs.2 b (Za (Z5 (Z8 e) (I.ok.cab x c hfn hc)))).trans (I.base.keep b o e n hb hx)
  ·obtain ⟨sl,e1⟩:=I.base.slot b o e n hb hx;exact ⟨sl,(hs.2 b (Za (Z5 (Z8 e) (I.ok.cab x c hfn hc)))).trans e1⟩
  ·obtain ⟨o',e1⟩:=I.base.there b o e hx;exact ⟨o',(hs.2 b (Za (Z5 (Z8 e) (I.ok.cab x c hfn hc)))).trans e1⟩
  ·by_cases hj:j=i
   ·subst hj;rw [hi] at e1;cases e1;rw [List.getElem?_set_self hiσ] at e2;cases e2;exact ⟨u,r,.inr ⟨.inl hk,c,hc,hc'⟩⟩
   ·rw [Y3 (Ne.symm hj)] at e2;obtain ⟨u',r',q⟩:=hl j y v' e1 e2 e3;refine ⟨u',r',?_⟩;rcases q with q | ⟨k,c',e,z'⟩
    ·exact .inl q
    ·refine .inr ⟨k,c',e,z'.sameBut hs ?_⟩;rintro rfl;exact hj (zRt hN e1 (I.ok.inj _ _ _ e hc ▸ hi))
  ·by_cases hcc:c'=c
   ·subst hcc;exact ⟨_,hc'⟩
   ·obtain ⟨w2,z2⟩:=I.cell y c' e;exact ⟨w2,z2.sameBut hs hcc⟩
  ·obtain ⟨e,n,ne,nf,d⟩:=I.pin p hp;refine ⟨(hs.2 p.1 ?_).trans e,n,ne,nf,d⟩;intro q;rw [q,hoc] at e;have q':oc=p.2:=Zl e;exact d w' (by rw [← q'];exact hocd)
theorem zRa {M:Model}{A:Around}{E:Value→Shared→Prop}{i:Nat}{x:Str}{v:V}{u:Value}{Q:Unit→Shared→Prop} (I:Inv X pins σ H s) (hN:X.N.Nodup) (hi:X.N[i]? = some x) (hx:Loc X.env.scope x) (r:RelV v u)
 (h:∀ s',Inv X pins (σ.set i (some v)) H s'→Q () s') (hf:X.fn x=true∨X.env.scope.names.lookup x=some .local:=by first | exact .inl rfl | exact .inr rfl | assumption):wpAny M A (storeName X.env x u) Q E s :=
 zOk I hN hi hx r (fun s' I' _=>h s' I') hf
theorem Inv.call' {s':Shared}{ch:List Addr} (I:Inv X pins σ H s) (ho:s'.os=s.os) (u:Un (frs X.stack) ch H H' s.heap s'.heap) (hok:HOk X.prog X.w H' s'.heap) (hg:AllBare s'.gens)
 (hch:∀ b∈ch,(b∈X.ex∨X.s₀.heap.objs.size≤b)∧b≠X.env.locals∧(∀ x c,X.env.cells.lookup x=some c→c≠b)∧∀ p∈X.pn++pins,p.1≠b):Inv X pins σ H' s':=by
 obtain ⟨h',g',d',t',o'⟩:=s';have e:o'=s.os:=ho;subst e;exact I.call (g':=g') (t':=t') (d':=d') u hok hg hch
end
abbrev XK:=Value→Option Addr→Hp→Prop
abbrev St:=List (Option V)
abbrev VK:=V→Hp→Prop
abbrev TE:=St→Hp→VK→Prop
abbrev TT:=St→Hp→(Bool→Hp→Prop)→Prop
abbrev TA:=St→Hp→(List V→Hp→Prop)→Prop
structure Ends where
 nx:St→Hp→Prop
 rt:VK
 bk:St→Hp→Prop:=fun _ _=>False
 ct:St→Hp→Prop:=fun _ _=>False
abbrev TS:=Ends→St→Hp→Prop
def EP (X:Cx) (pins:List (Addr×Obj)) (σ : St) (Q:VK) (u:Value) (s':Shared):Prop:=∃ v H',Inv X pins σ H' s'∧RelV v u∧Q v H'
def TP (X:Cx) (pins:List (Addr×Obj)) (σ : St) (Q:Bool→Hp→Prop) (b:Bool) (s':Shared):Prop:=∃ H',Inv X pins σ H' s'∧Q b H'
def AP (X:Cx) (pins:List (Addr×Obj)) (σ : St) (Q:List V→Hp→Prop) (us:List Value) (s':Shared):Prop:=∃ vs H',Inv X pins σ H' s'∧Vals vs us∧Q vs H'
def SP (X:Cx) (pins:List (Addr×Obj)) (D:Ends) (f:Flow) (s':Shared):Prop :=
 match f with
 | .next=>∃ σ' H',Inv X pins σ' H' s'∧D.nx σ' H'
 | .brk=>∃ σ' H',Inv X pins σ' H' s'∧D.bk σ' H'
 | .cont=>∃ σ' H',Inv X pins σ' H' s'∧D.ct σ' H'
 | .ret u=>∃ v σ' H',Inv X pins σ' H' s'∧RelV v u∧D.rt v H'
def PE (X:Cx) (e:Expr) (t:TE):Prop :=
 ∀ (pins:List (Addr×Obj)) (s:Shared) (σ : St) (H:Hp) (Q:VK),Inv X pins σ H s→t σ H Q→wpAny (model X.prog X.w) X.A (eval e X.env) (EP X pins σ Q) X.xe s
def PT (X:Cx) (e:Expr) (t:TT):Prop :=
 ∀ (pins:List (Addr×Obj)) (s:Shared) (σ : St) (H:Hp) (Q:Bool→Hp→Prop),Inv X pins σ H s→t σ H Q→wpAny (model X.prog X.w) X.A (isTrue e X.env (eval e X.env)) (TP X pins σ Q) X.xe s
def PW (X:Cx) (e:Expr) (t:TT):Prop :=
 ∀ (whole:Sem Value) (pins:List (Addr×Obj)) (s:Shared) (σ : St) (H:Hp) (Q:Bool→Hp→Prop),Inv X pins σ H s→t σ H Q→wpAny (model X.prog X.w) X.A (isTrue e X.env whole) (TP X pins σ Q) X.xe s
theorem PW.pt {X:Cx}{e:Expr}{t:TT} (h:PW X e t):PT X e t:=h _
def PA (X:Cx) (es:List Expr) (t:TA):Prop :=
 ∀ (pos:Pos) (pins:List (Addr×Obj)) (s:Shared) (σ : St) (H:Hp) (Q:List V→Hp→Prop),Inv X pins σ H s→t σ H Q→wpAny (model X.prog X.w) X.A (spliced (backTo pos (starEach es X.env))) (AP X pins σ Q) X.xe s
def PS (X:Cx) (st:Stmt) (t:TS):Prop :=
 ∀ (pins:List (Addr×Obj)) (s:Shared) (σ : St) (H:Hp) (D:Ends),Inv X pins σ H s→t D σ H→wpAny (model X.prog X.w) X.A (exec st X.env) (SP X pins D) X.xe s
def PSs (X:Cx) (st:List Stmt) (t:TS):Prop :=
 ∀ (pins:List (Addr×Obj)) (s:Shared) (σ : St) (H:Hp) (D:Ends),Inv X pins σ H s→t D σ H→wpAny (model X.prog X.w) X.A (execs st X.env) (SP X pins D) X.xe s
theorem thn {α : Type}{t:Sem α}{Q Q' : α→Shared→Prop}{M:Model}{A:Around}{E:Value→Shared→Prop}{s:Shared} (h:wpAny M A t Q E s) (hQ:∀ a s,Q a s→Q' a s):wpAny M A t Q' E s:=wpAny_mono h hQ fun _ _ x=>x
end L2
namespace L2
open PySem PySem.Spec PyProof.Rows
section
variable {X:Cx}
theorem bin {a b:Expr}{ta tb:TE} (ha:PE X a ta) (hb:PE X b tb) {pins:List (Addr×Obj)}{s:Shared}{σ : St}{H:Hp}{R:V→V→Hp→Prop} (I:Inv X pins σ H s) (h:ta σ H fun x H1=>tb σ H1 fun y H2=>R x y H2)
 {α : Type}{Q : α→Shared→Prop}{f:Value→Value→Sem α}
 (hf:∀ v u s2 x y H2,Inv X pins σ H2 s2→RelV x v→RelV y u→R x y H2→wpAny (model X.prog X.w) X.A (f v u) Q X.xe s2) :
 wpAny (model X.prog X.w) X.A (eval a X.env) (fun v s₁=>wpAny (model X.prog X.w) X.A (eval b X.env) (fun u s₂=>wpAny (model X.prog X.w) X.A (f v u) Q X.xe s₂) X.xe s₁) X.xe s:=by
 refine thn (ha pins s σ H _ I h) fun v s1 ⟨x,H1,I1,r1,q1⟩=>?_;refine thn (hb pins s1 σ H1 _ I1 q1) fun u s2 ⟨y,H2,I2,r2,q2⟩=>?_;exact hf v u s2 x y H2 I2 r1 r2 q2
def tVar (i:Nat):TE:=fun σ H Q=>∃ v,σ[i]? = some (some v)∧Q v H
def tC (v:V):TE:=fun _ H Q=>Q v H
theorem yDi {i:Nat}{x:Str}{pos:Pos} (hN:X.N[i]? = some x) (hv:Vis X.env.scope x) (hd:(x == ("__debug__" : Str))=false:=by decide) (hcd:(x == ("__classdict__" : Str))=false:=by decide):PE X (.Name x pos) (tVar i):=by
 intro pins s σ H Q I h;obtain ⟨v,e,h⟩:=h;obtain ⟨m,hn,hl⟩:=I.loc;obtain ⟨u,r,l⟩:=hl i x v hN e hv;have fin:EP X pins σ Q u s:=⟨v,H,I,r,h⟩;rcases l with ⟨hk,hm⟩ | ⟨hk,c,hc,hcell⟩
 ·exact wpAny_Name (wpAny_loadName_local I.ok.kind hk hn hm fin) hd
 ·rcases hk with hk | hk
  ·exact wpAny_Name (wpAny_loadName_cell I.ok.kind hk hc hcell fin) hd
  ·exact wpAny_Name (wpAny_loadName_free I.ok.kind hk hc hcell fin hcd) hd
theorem zRo {i j pos}:PE X (.Constant (.int i) j pos) (tC (.int i)):=fun _ _ _ H _ I h=>wpAny_Constant_int ⟨.int i,H,I.tok _,⟨_,rfl⟩,h⟩
theorem pe_bl {b j pos}:PE X (.Constant (.bool b) j pos) (tC (.bl b)):=fun _ _ _ H _ I h=>Constant_bool ⟨.bl b,H,I,rfl,h⟩
theorem yDn {j pos}:PE X (.Constant .none j pos) (tC .non):=fun _ _ _ H _ I h=>Constant_none ⟨.non,H,I,rfl,h⟩
theorem zYl {x j pos}:PE X (.Constant (.str x) j pos) (tC (.str x)):=fun _ _ _ H _ I h=>Calls.Constant_str ⟨.str x,H,I.tok _,⟨_,rfl⟩,h⟩
def Gl (X:Cx) (x:Str):Prop:=X.env.kindOf x=some .globalImplicit
theorem zLv {E:Value→Shared→Prop}{pins:List (Addr×Obj)}{s:Shared}{σ : St}{H:Hp}{x:Str}{u:Value}{pos:Pos}{Q:Value→Shared→Prop} (I:Inv X pins σ H s) (hg:Gl X x) (hm:X.mg x=some u) (h:Q u s)
 (hd:(x == ("__debug__" : Str))=false:=by decide):wpAny (model X.prog X.w) X.A (eval (.Name x pos) X.env) Q E s :=
 Calls.Name_function_global I.ok.kind hg (Calls.loadGlobal_global (by rw [I.ok.glob];exact I.mod.glob.keeps I.bk) hm h) hd
theorem zMx {E:Value→Shared→Prop}{pins:List (Addr×Obj)}{s:Shared}{σ : St}{H:Hp}{x:Str}{u:Value}{pos:Pos}{Q:Value→Shared→Prop} (I:Inv X pins σ H s) (hg:Gl X x) (hm:X.mg x=none) (hv:bootBuiltins x=some u) (h:Q u s)
 (hn:x≠"__name__":=by decide) (hd:(x == ("__debug__" : Str))=false:=by decide):wpAny (model X.prog X.w) X.A (eval (.Name x pos) X.env) Q E s:=by
 obtain ⟨mb,h1,h2⟩:=I.mod.blt;exact Calls.Name_function_global I.ok.kind hg (Calls.loadGlobal_builtin (by rw [I.ok.glob];exact I.mod.glob.keeps I.bk) hm (by rw [I.ok.blt];exact h1.keeps I.bk) ((h2 x hn).trans hv) h) hd
theorem zNj {x:Str}{v:V}{u:Value}{pos:Pos} (hg:Gl X x) (hm:X.mg x=some u) (r:RelV v u) (hd:(x == ("__debug__" : Str))=false:=by decide):PE X (.Name x pos) (tC v) :=
 fun _ _ _ H _ I h=>zLv I hg hm ⟨v,H,I,r,h⟩ hd
theorem yAd {x:Str}{v:V}{u:Value}{pos:Pos} (hg:Gl X x) (hm:X.mg x=none) (hv:bootBuiltins x=some u) (r:RelV v u) (hn:x≠"__name__":=by decide) (hd:(x == ("__debug__" : Str))=false:=by decide):PE X (.Name x pos) (tC v) :=
 fun _ _ _ H _ I h=>zMx I hg hm hv ⟨v,H,I,r,h⟩ hn hd
variable {a b:Expr}{ta tb:TE}{pos:Pos}
variable {tA tB':TT}{rest:List Expr}
def tAnd (t u:TT):TT:=fun σ H Q=>t σ H fun c H1=>if c=true then u σ H1 Q else Q false H1
def tOr (t u:TT):TT:=fun σ H Q=>t σ H fun c H1=>if c=true then Q true H1 else u σ H1 Q
def tNot (t:TT):TT:=fun σ H Q=>t σ H fun c H1=>Q (!c) H1
theorem zZx (ha:PT X a tA):PW X (.BoolOp .And [a] pos) tA:=by
 intro wh pins s σ H Q I h;refine isTrue_and (thn (ha pins s σ H Q I h) fun c s1 e=>?_);cases c with
 | true=>exact isTrue_and_nil e
 | false=>exact e
theorem yCx (ha:PT X a tA):PW X (.BoolOp .Or [a] pos) tA:=by
 intro wh pins s σ H Q I h;refine isTrue_or (thn (ha pins s σ H Q I h) fun c s1 e=>?_);cases c with
 | false=>exact isTrue_or_nil e
 | true=>exact e
theorem yCy (ha:PT X a tA) (hb:PW X (.BoolOp .And (b :: rest) pos) tB'):PW X (.BoolOp .And (a :: b :: rest) pos) (tAnd tA tB'):=by
 intro wh pins s σ H Q I h;refine isTrue_and (thn (ha pins s σ H _ I h) fun c s1 ⟨H1,I1,q1⟩=>?_);cases c with
 | true=>exact hb wh pins s1 σ H1 Q I1 q1
 | false=>exact ⟨H1,I1,q1⟩
theorem pw_or (ha:PT X a tA) (hb:PW X (.BoolOp .Or (b :: rest) pos) tB'):PW X (.BoolOp .Or (a :: b :: rest) pos) (tOr tA tB'):=by
 intro wh pins s σ H Q I h;refine isTrue_or (thn (ha pins s σ H _ I h) fun c s1 ⟨H1,I1,q1⟩=>?_);cases c with
 | true=>exact ⟨H1,I1,q1⟩
 | false=>exact hb wh pins s1 σ H1 Q I1 q1
theorem yD3 (ha:PT X a tA):PT X (.UnaryOp .Not a pos) (tNot tA):=by
 intro pins s σ H Q I h;exact isTrue_not (ha pins s σ H (fun c H1=>Q (!c) H1) I h)
def tAndV (ta tb:TE):TE:=fun σ H Q=>ta σ H fun x H1=>∃ c,x=.bl c∧if c=true then tb σ H1 Q else Q (.bl false) H1
def tNotV (ta:TE):TE:=fun σ H Q=>ta σ H fun x H1=>∃ c,x=.bl c∧Q (.bl (!c)) H1
theorem yDk {op}{t:TE} (h:PE X a t):PE X (.BoolOp op [a] pos) t:=fun pins s σ H Q I hw=>BoolOp_one (h pins s σ H Q I hw)
theorem yDp (ha:PE X a ta) (hb:PE X (.BoolOp .And (b :: rest) pos) tb):PE X (.BoolOp .And (a :: b :: rest) pos) (tAndV ta tb):=by
 intro pins s σ H Q I h;refine BoolOp_and (thn (ha pins s σ H _ I h) fun v s1 ⟨x,H1,I1,r1,q1⟩=>?_);obtain ⟨c,rfl,q1⟩:=q1;cases r1;refine wpAny_truthy_bool ?_;cases c with
 | true=>exact hb pins s1 σ H1 Q I1 q1
 | false=>exact ⟨.bl false,H1,I1,rfl,q1⟩
theorem yDm (ha:PE X a ta):PE X (.UnaryOp .Not a pos) (tNotV ta):=by
 intro pins s σ H Q I h;refine UnaryOp_ (thn (ha pins s σ H _ I h) fun v s1 ⟨x,H1,I1,r1,q1⟩=>?_);obtain ⟨c,rfl,q1⟩:=q1;cases r1;exact not_of (wpAny_truthy_bool ⟨.bl (!c),H1,I1,rfl,q1⟩)
def tIf (t:TT) (ta tb:TE):TE:=fun σ H Q=>t σ H fun c H1=>if c=true then ta σ H1 Q else tb σ H1 Q
theorem zWj {c:Expr} (hc:PT X c tA) (ha:PE X a ta) (hb:PE X b tb):PE X (.IfExp c a b pos) (tIf tA ta tb):=by
 intro pins s σ H Q I h;refine wpAny_IfExp (thn (hc pins s σ H _ I h) fun d s1 ⟨H1,I1,q1⟩=>?_);cases d with
 | true=>exact ha pins s1 σ H1 Q I1 q1
 | false=>exact hb pins s1 σ H1 Q I1 q1
end
end L2
namespace L2
open PySem PySem.Spec PyProof.Rows
def SqL (K:PySem.W.Frag) (H:Hp) (a:Addr) (xs:List V):Prop :=
 Rd H a (.lst xs) ∨
  ∃ (o:Obj) (its:Array Value) (n:Nat),K.lookup a=some o∧o.cls=.type "list"∧o.dict=none∧o.data=.seq its n∧its.size≤sizeLine∧Vals xs its.toList
def SqT (K:PySem.W.Frag) (H:Hp) (a:Addr) (xs:List V):Prop :=
 Rd H a (.tup xs) ∨
  ∃ (o:Obj) (its:Array Value) (n:Nat),K.lookup a=some o∧o.cls=.type "tuple"∧o.data=.seq its n∧its.size≤sizeLine∧Vals xs its.toList
def absV:Value→Option V
 | .none=>some .non
 | .bool b=>some (.bl b)
 | .int i _=>some (.int i)
 | .str x _=>some (.str x)
 | .bytes b _=>some (.byt b)
 | .float b _=>some (.flt b)
 | .ref a=>some (.ref a)
 | .type n=>some (.ty n)
 | _=>none
theorem RelV.abs {x:V}{u:Value} (r:RelV x u):absV u=some x:=by
 cases x with
 | non=>cases r;rfl
 | bl _=>cases r;rfl
 | int _=>obtain ⟨t,rfl⟩:=r;rfl
 | str _=>obtain ⟨t,rfl⟩:=r;rfl
 | byt _=>obtain ⟨t,rfl⟩:=r;rfl
 | flt _=>obtain ⟨t,rfl⟩:=r;rfl
 | ref _=>cases r;rfl
 | ty _=>cases r;rfl
theorem RelV.inj {x y:V}{u:Value} (r:RelV x u) (q:RelV y u):x=y:=Zl (r.abs.symm.trans q.abs)
theorem Vals.inj:∀ {xs ys:List V}{us:List Value},Vals xs us→Vals ys us→xs=ys
 | _,_,_,.nil,.nil=>rfl
 | _,_,_,.cons r t,.cons r' t'=>by rw [r.inj r',Vals.inj t t']
section
variable {X:Cx}{pins:List (Addr×Obj)}{σ : St}{H:Hp}{s:Shared}{a:Addr}{xs ys:List V}
theorem SqL.of {K:PySem.W.Frag} (h:H a=some (.lst xs)):SqL K H a xs:=.inl (.inl h)
theorem SqT.of {K:PySem.W.Frag} (h:H a=some (.tup xs)):SqT K H a xs:=.inl (.inl h)
theorem Inv.list (I:Inv X pins σ H s) (h:SqL X.K H a xs):∃ its:List Value,Vals xs its∧PlainL s.heap a its.toArray∧xs.length≤sizeLine:=by
 rcases h with h | ⟨o,its,n,hk,hc,hd,hs,hz,r⟩
 ·obtain ⟨z,its,n,r,e⟩:=h.ok I.hok;exact ⟨its,r,⟨_,n,e,rfl,rfl,rfl⟩,z⟩
 ·refine ⟨its.toList,r,⟨o,n,I.kIn a o hk,hc,hd,by simpa using hs⟩,?_⟩;have e:=r.length;simp only [Zt] at e;omega
theorem Inv.tuple (I:Inv X pins σ H s) (h:SqT X.K H a xs):∃ its:List Value,Vals xs its∧IsTup s.heap a its.toArray∧xs.length≤sizeLine:=by
 rcases h with h | ⟨o,its,n,hk,hc,hs,hz,r⟩
 ·obtain ⟨z,its,r,p⟩:=h.ok I.hok;exact ⟨its,r,p,z⟩
 ·refine ⟨its.toList,r,⟨o,I.kIn a o hk,hc,n,by simpa using hs⟩,?_⟩;have e:=r.length;simp only [Zt] at e;omega
theorem Inv.list_inj (I:Inv X pins σ H s) (h:SqL X.K H a xs) (h':SqL X.K H a ys):xs=ys:=by
 obtain ⟨its,r,⟨o,n,e,_,_,d⟩,_⟩:=I.list h;obtain ⟨its',r',⟨o',n',e',_,_,d'⟩,_⟩:=I.list h';rw [e] at e';cases e';rw [d] at d';injection d' with d1 _;have:its=its':=by simpa using congrArg Array.toList d1
 subst this;exact r.inj r'
theorem Inv.tuple_inj (I:Inv X pins σ H s) (h:SqT X.K H a xs) (h':SqT X.K H a ys):xs=ys:=by
 obtain ⟨its,r,⟨o,e,_,n,d⟩,_⟩:=I.tuple h;obtain ⟨its',r',⟨o',e',_,n',d'⟩,_⟩:=I.tuple h';rw [e] at e';cases e';rw [d] at d';injection d' with d1 _;have:its=its':=by simpa using congrArg Array.toList d1
 subst this;exact r.inj r'
end
section
variable {X:Cx}{pins:List (Addr×Obj)}{σ : St}{H:Hp}{s:Shared}{E:Value→Shared→Prop}
end
section
variable {X:Cx}{st:Stmt}{rest:List Stmt}{t u:TS}{e:Expr}{te:TE}{pos:Pos}
def tNext:TS:=fun D σ H=>D.nx σ H
def tSeq (t u:TS):TS:=fun D σ H=>t { D with nx:=u D } σ H
theorem zTx:PSs X [] tNext:=fun _ _ σ H _ I h=>wpAny_execs_nil ⟨σ,H,I,h⟩
theorem zWb (h1:PS X st t) (h2:PSs X rest u):PSs X (st :: rest) (tSeq t u):=by
 intro pins s σ H D I h;refine wpAny_execs_cons (thn (h1 pins s σ H { D with nx:=u D } I h) fun f s1 q=>?_);cases f with
 | next =>
  obtain ⟨σ',H',I',q⟩:=q;exact h2 pins s1 σ' H' D I' q
 | ret v=>exact q
 | brk=>exact q
 | cont=>exact q
theorem zZz (h1:PS X st t):PSs X [st] t:=by
 intro pins s σ H D I h;refine wpAny_execs_cons (thn (h1 pins s σ H D I h) fun f s1 q=>?_);cases f with
 | next=>exact wpAny_execs_nil q
 | ret v=>exact q
 | brk=>exact q
 | cont=>exact q
theorem Inv.quiet {pins:List (Addr×Obj)}{σ : St}{H:Hp}{s:Shared} (I:Inv X pins σ H s):interactive X.env=false:=by simp [interactive,I.ok.kind]
def tDrop (te:TE):TS:=fun D σ H=>te σ H fun _ H1=>D.nx σ H1
theorem yA1 (he:PE X e te) (hs:swapsWith e none pos.line X.env=pure false:=by rfl):PS X (.Expr e pos) (tDrop te):=by
 intro pins s σ H D I h;exact wpAny_Expr_any (thn (he pins s σ H _ I h) fun v s1 ⟨x,H1,I1,r1,q1⟩=>⟨σ,H1,I1,q1⟩) I.quiet hs
def tRet (te:TE):TS:=fun D σ H=>te σ H D.rt
theorem yD5 (he:PE X e te):PS X (.Return (some e) pos) (tRet te):=by
 intro pins s σ H D I h;exact wpAny_Return_some (thn (he pins s σ H _ I h) fun v s1 ⟨x,H1,I1,r1,q1⟩=>⟨x,σ,H1,I1,r1,q1⟩)
def tIfS (c:TT) (t u:TS):TS:=fun D σ H=>c σ H fun b H1=>if b=true then t D σ H1 else u D σ H1
theorem ps_if {c:Expr}{a b:List Stmt}{tc:TT} (hc:PT X c tc) (ha:PSs X a t) (hb:PSs X b u):PS X (.If c a b pos) (tIfS tc t u):=by
 intro pins s σ H D I h;refine wpAny_If (thn (hc pins s σ H _ I h) fun d s1 ⟨H1,I1,q1⟩=>?_);cases d with
 | true=>exact ha pins s1 σ H1 D I1 q1
 | false=>exact hb pins s1 σ H1 D I1 q1
end
abbrev TG:=V→St→Hp→(St→Hp→Prop)→Prop
abbrev TGs:=List V→St→Hp→(St→Hp→Prop)→Prop
def PG (X:Cx) (target:Expr) (t:TG):Prop :=
 ∀ (pins:List (Addr×Obj)) (s:Shared) (σ : St) (H:Hp) (v:V) (u:Value) (Q:St→Hp→Prop),Inv X pins σ H s→RelV v u→t v σ H Q →
  wpAny (model X.prog X.w) X.A (assign target X.env u) (fun _ s'=>∃ σ' H',Inv X pins σ' H' s'∧Q σ' H') X.xe s
def PGs (X:Cx) (ts:List Expr) (t:TGs):Prop :=
 ∀ (pins:List (Addr×Obj)) (s:Shared) (σ : St) (H:Hp) (vs:List V) (us:List Value) (Q:St→Hp→Prop),Inv X pins σ H s→Vals vs us→t vs σ H Q →
  wpAny (model X.prog X.w) X.A (assignInOrder ((assignEach ts X.env).map (·.2)) us) (fun _ s'=>∃ σ' H',Inv X pins σ' H' s'∧Q σ' H') X.xe s
abbrev TSet:=V→V→V→Hp→(Hp→Prop)→Prop
def PSet (X:Cx) (t:TSet):Prop :=
 ∀ (pins:List (Addr×Obj)) (s:Shared) (σ : St) (H:Hp) (o i v:V) (ov iv u:Value) (Q:Hp→Prop),Inv X pins σ H s→RelV o ov→RelV i iv→RelV v u→t o i v H Q →
  wpAny (model X.prog X.w) X.A (setItem ov iv u) (fun _ s'=>∃ H',Inv X pins σ H' s'∧Q H') X.xe s
section
variable {X:Cx}{pos:Pos}
def gName (i:Nat):TG:=fun v σ H Q=>Q (σ.set i (some v)) H
theorem yA8 {i:Nat}{x:Str} (hN:X.N.Nodup) (hi:X.N[i]? = some x) (hx:Loc X.env.scope x) (hf:X.fn x=true∨X.env.scope.names.lookup x=some .local:=by first | exact .inl rfl | exact .inr rfl | assumption):PG X (.Name x pos) (gName i):=by
 intro pins s σ H v u Q I r h;exact wpAny_assign_Name (zRa I hN hi hx r (fun s' I'=>⟨_,H,I',h⟩) hf)
def gNil:TGs:=fun vs σ H Q=>vs=[]∧Q σ H
def gCons (t:TG) (u:TGs):TGs:=fun vs σ H Q=>∃ v r,vs=v :: r∧t v σ H fun σ' H'=>u r σ' H' Q
theorem yA7:PGs X [] gNil:=by
 intro pins s σ H vs us Q I r h;obtain ⟨e,h⟩:=h;subst e;cases r;exact assignInOrder_nil ⟨σ,H,I,h⟩
theorem zWg {e:Expr}{es:List Expr}{t:TG}{u:TGs} (h1:PG X e t) (h2:PGs X es u)
 (hs:(assignEach (e :: es) X.env).map (·.2)=assign e X.env :: (assignEach es X.env).map (·.2):=by rfl):PGs X (e :: es) (gCons t u):=by
 intro pins s σ H vs us Q I r h;obtain ⟨v,vr,e1,h⟩:=h;subst e1;cases r with
 | cons r rr =>
  rw [hs];refine assignInOrder_cons (thn (h1 pins s σ H _ _ _ I r h) fun _ s1 ⟨σ1,H1,I1,q1⟩=>?_);exact h2 pins s1 σ1 H1 _ _ Q I1 rr q1
def gTup (K:PySem.W.Frag) (n:Nat) (t:TGs):TG:=fun v σ H Q=>∃ a xs,v=.ref a∧SqT K H a xs∧xs.length=n∧t xs σ H Q
theorem yDe {es:List Expr}{k:Nat}{t:TGs}{n:Nat} (hc:X.calm=true) (h:PGs X es t)
 (hn:(assignEach es X.env).length=n:=by rfl) (hst:(assignEach es X.env).findIdx? (·.1)=none:=by rfl):PG X (.Tuple es k pos) (gTup X.K n t):=by
 intro pins s σ H v u Q I r hw;obtain ⟨a,xs,e1,hq,hl,hw⟩:=hw;subst e1;cases r;obtain ⟨its,rv,ht,hz⟩:=I.tuple hq;refine assign_Tuple_tuple (I.ok.hd hc) ht (by simp [hn,← hl,rv.length]) hst fun h' hx=>?_;have I1:Inv X pins σ H { s with heap:=h' }:=I.kept (t':=s.toks) fun b o e=>hx b o (Za (Z8 e)) e;exact h pins _ σ H xs _ Q I1 (by simpa using rv) hw
def gSub (to ti:TE) (t:TSet):TG:=fun v σ H Q=>to σ H fun o H1=>ti σ H1 fun i H2=>t o i v H2 fun H3=>Q σ H3
theorem yDf {o i:Expr}{to ti:TE}{t:TSet} (ho:PE X o to) (hi:PE X i ti) (hs:PSet X t)
 (ha:∀ v,assign (.Subscript o i pos) X.env v=(do
  let ov ← holding [v] (eval o X.env)
  let iv ← holding [v,ov] (eval i X.env)
  standAt pos
  holding [v,ov,iv] (setItem ov iv v)
  release [v,ov,iv] []):=by intro _;rfl):PG X (.Subscript o i pos) (gSub to ti t):=by
 intro pins s σ H v u Q I r h;rw [ha];refine wpAny_bind (wpAny_holding (thn (ho pins s σ H _ I h) fun ov s1 ⟨x,H1,I1,r1,q1⟩=>?_));refine wpAny_bind (wpAny_holding (thn (hi pins s1 σ H1 _ I1 q1) fun iv s2 ⟨y,H2,I2,r2,q2⟩=>?_));refine wpAny_bind (wpAny_standAt (wpAny_bind (wpAny_holding (thn (hs pins s2 σ H2 x y v ov iv u _ I2 r1 r2 r q2) fun _ s3 ⟨H3,I3,q3⟩=>?_))));exact wpAny_release ⟨σ,H3,I3,q3⟩
def tAsg (te:TE) (g:TG):TS:=fun D σ H=>te σ H fun x H1=>g x σ H1 D.nx
theorem yD8 {tg e:Expr}{te:TE}{g:TG} (he:PE X e te) (hg:PG X tg g) (hs:swapsWithSole [tg] e pos.line X.env=pure false:=by rfl) (hw:swappedStores [tg] e X.env=pure none:=by rfl)
 (h1:(assignEach [tg] X.env).map (·.2)=[assign tg X.env]:=by rfl):PS X (.Assign [tg] e pos) (tAsg te g):=by
 intro pins s σ H D I h;refine wpAny_Assign_stores (thn (he pins s σ H _ I h) fun v s1 ⟨x,H1,I1,r1,q1⟩=>?_) hs hw;rw [h1];exact thn (hg pins s1 σ H1 x v _ I1 r1 q1) fun _ s2 q=>q
theorem yD4 {i:Nat}{x:Str}{e:Expr}{te:TE}{pos':Pos} (hN:X.N.Nodup) (hi:X.N[i]? = some x) (hx:Loc X.env.scope x) (he:PE X e te) (hs:swapsWith e (some (.Name x pos')) pos.line X.env=pure false:=by rfl) (hf:X.fn x=true∨X.env.scope.names.lookup x=some .local:=by first | exact .inl rfl | exact .inr rfl | assumption) :
 PS X (.Assign [.Name x pos'] e pos) (tAsg te (gName i)):=by
 intro pins s σ H D I h;refine wpAny_Assign_Name (thn (he pins s σ H _ I h) fun v s1 ⟨y,H1,I1,r1,q1⟩=>?_) hs;exact zRa I1 hN hi hx r1 (fun s2 I2=>⟨_,H1,I2,q1⟩) hf
end
section
variable {X:Cx}{pos:Pos}
def tWhile (c:TT) (tb:TS):TS:=fun D σ H=>∃ W:Nat→St→Hp→Prop,(∃ m,W m σ H)∧∀ m σ H,W m σ H →
 c σ H fun b H1=>if b=true then ∃ N:St→Hp→Prop,(∀ σ' H',N σ' H'→∃ m',m' < m∧W m' σ' H')∧tb { D with nx:=N,ct:=N,bk:=D.nx } σ H1 else D.nx σ H1
theorem zWc {c:Expr}{body:List Stmt}{tc:TT}{tb:TS} (hp:PassesOwn (model X.prog X.w) X.A X.env X.xe) (hc:PT X c tc) (hb:PSs X body tb):PS X (.While c body [] pos) (tWhile tc tb):=by
 intro pins s σ H D I h;obtain ⟨W,⟨m0,w0⟩,turn⟩:=h;refine wpAny_While (codeAny_whileLoop (fun n s'=>∃ σ' H',Inv X pins σ' H' s'∧W n σ' H') ?_ m0 ⟨σ,H,I,w0⟩);rintro n s1 ⟨σ1,H1,I1,w1⟩;refine wpAny_passesOwn hp (thn (hc pins s1 σ1 H1 _ I1 (turn n σ1 H1 w1)) fun b s2 ⟨H2,I2,q2⟩=>?_);cases b with
 | true =>
  obtain ⟨N,hN,q2⟩:=q2;rw [if_pos rfl];refine wpAny_passesOwn hp (thn (hb pins s2 σ1 H2 _ I2 q2) fun f s3 q3=>?_);cases f with
  | next =>
   obtain ⟨σ3,H3,I3,n3⟩:=q3;obtain ⟨m',hm,w3⟩:=hN σ3 H3 n3;exact ⟨m',hm,σ3,H3,I3,w3⟩
  | cont =>
   obtain ⟨σ3,H3,I3,n3⟩:=q3;obtain ⟨m',hm,w3⟩:=hN σ3 H3 n3;exact ⟨m',hm,σ3,H3,I3,w3⟩
  | brk=>exact q3
  | ret v=>exact q3
 | false =>
  rw [if_neg Z6];exact wpAny_execs_nil ⟨σ1,H2,I2,q2⟩
end
structure It where
 go:Nat→Hp→Prop
 yld:Nat→Hp→V→Hp→Prop
 stop:Nat→Hp→Prop
def FpOk (X:Cx) (pins:List (Addr×Obj)) (H:Hp) (b:Addr):Prop :=
 H b=none∧b≠X.env.locals∧b∉X.fs∧(b∈X.ex∨X.s₀.heap.objs.size≤b)∧(∀ x c,X.env.cells.lookup x=some c→c≠b)∧∀ p∈X.pn++pins,p.1≠b
theorem Inv.fpOk {X:Cx}{pins:List (Addr×Obj)}{σ : St}{H H':Hp}{s:Shared}{b:Addr} (I:Inv X pins σ H s) (hb:s.heap.objs.size≤b) (hn:H' b=none):FpOk X pins H' b:=by
 refine ⟨hn,Nat.ne_of_gt (Z5 I.lt hb),I.nofs hb,.inr (Z3 I.sz hb),fun x c e z=>?_,fun p hp z=>?_⟩
 ·obtain ⟨v,q⟩:=I.cell x c e;exact absurd (Z5 q.lt (by rw [z];exact hb)) (Zv _)
 ·exact absurd (Z5 (Z8 (I.pin p hp).1) (by rw [z];exact hb)) (Zv _)
structure TurnP (Φ : Cx→Prop) (P:Program) (w:World) (K:PySem.W.Frag) (tg:Expr) (J:It) (fp:List Addr) (it:Addr) (tn:Nat→Heap→Prop):Prop where
 mem:it∈fp
 obj:∀ i h,tn i h→∀ b∈fp,∃ o,h.get? b=some o∧∀ v,o.data≠.cell v
 keep:∀ i h h',tn i h→(∀ b∈fp,∀ o,h.get? b=some o→h'.get? b=some o)→tn i h'
 item:∀ (X:Cx),X.prog=P→X.w=w→X.K=K→Φ X→∀ (i:Nat) (pins:List (Addr×Obj)) (s:Shared) (σ : St) (H:Hp) (E:Value→Shared→Prop),Inv X pins σ H s→(∀ b∈fp,FpOk X pins H b)→tn i s.heap→J.go i H →
  wpAny (model P w) X.A (pyNext (.ref it)) (fun r s1=>∃ u,r=some u ∧
   wpAny (model P w) X.A (letOwnedTupleGo tg (.ref it) u) (fun _ s2=>∃ x H',Inv X pins σ H' s2∧RelV x u∧J.yld i H x H'∧tn (i + 1) s2.heap∧∀ b∈fp,H' b=none) E s1) E s
 done:∀ (X:Cx),X.prog=P→X.w=w→X.K=K→Φ X→∀ (i:Nat) (pins:List (Addr×Obj)) (s:Shared) (σ : St) (H:Hp) (E:Value→Shared→Prop),Inv X pins σ H s→(∀ b∈fp,FpOk X pins H b)→tn i s.heap→J.stop i H →
  wpAny (model P w) X.A (pyNext (.ref it)) (fun r s1=>r=none∧Inv X pins σ H s1) E s
 self:∀ (A:Around) (i:Nat) (s:Shared) (Q:Value→Shared→Prop) (E:Value→Shared→Prop),tn i s.heap→Q (.ref it) s→wpAny (model P w) A (pyIter (.ref it)) Q E s
abbrev Turn:=TurnP fun X=>X.calm=true
abbrev TI:=St→Hp→(It→Hp→Prop)→Prop
def PIE (X:Cx) (pins:List (Addr×Obj)) (σ : St) (tg:Expr) (R:It→Hp→Prop) (itv:Value) (s2:Shared):Prop :=
 ∃ (it:Addr) (fp:List Addr) (tn:Nat→Heap→Prop) (J:It) (H':Hp),itv=.ref it∧Inv X pins σ H' s2∧Turn X.prog X.w X.K tg J fp it tn∧tn 0 s2.heap∧(∀ b∈fp,FpOk X pins H' b)∧R J H'
def PI (X:Cx) (tg iter:Expr) (wi:TI):Prop :=
 ∀ (pins:List (Addr×Obj)) (s:Shared) (σ : St) (H:Hp) (R:It→Hp→Prop),Inv X pins σ H s→wi σ H R →
  wpAny (model X.prog X.w) X.A (eval iter X.env) (fun v s1=>wpAny (model X.prog X.w) X.A (pyIter v) (PIE X pins σ tg R) X.xe s1) X.xe s
theorem zXk {M:Model}{A:Around}{E:Value→Shared→Prop}{s:Shared}{tg:Expr}{it:Addr}{u:Value}{o:Obj}{n:String}{vs:Array Value}{Q:Unit→Shared→Prop} (ho:s.heap.get? it=some o) (hc:o.cls=.type n) (hd:o.data=.fields vs)
 (hn:["enumerate", "zip", "dict_itemiterator", "dict_reverseitemiterator", "odict_iterator", "itertools.zip_longest", "itertools.pairwise"].contains n=false) (hQ:Q () s):wpAny M A (letOwnedTupleGo tg (.ref it) u) Q E s:=by
 unfold letOwnedTupleGo
 cases tg <;> first
  | exact wpAny_pure hQ
  | (cases u <;> first
     | exact wpAny_pure hQ
     | (refine wpAny_bind (wpAny_load ho ?_)
        rw [hc,hd];show wpAny M A (if (["enumerate", "zip", "dict_itemiterator", "dict_reverseitemiterator", "odict_iterator", "itertools.zip_longest", "itertools.pairwise"].contains n && vs[0]? == some (rawInt _))=true then _ else _) Q E s;rw [if_neg (by intro h;rw [hn,Bool.false_and] at h;cases h)]
        exact wpAny_pure hQ))
def Itl (K:PySem.W.Frag) (a:Addr):It :=
 ⟨fun i H=>∃ xs x,SqL K H a xs∧xs[i]? = some x,fun i H x H'=>H'=H∧∀ xs,SqL K H a xs→xs[i]? = some x,fun i H=>∃ xs,SqL K H a xs∧xs.length≤i⟩
def Itt (K:PySem.W.Frag) (a:Addr):It :=
 ⟨fun i H=>∃ xs x,SqT K H a xs∧xs[i]? = some x,fun i H x H'=>H'=H∧∀ xs,SqT K H a xs→xs[i]? = some x,fun i H=>∃ xs,SqT K H a xs∧xs.length≤i⟩
def Itr (lo:Int) (n:Nat):It:=⟨fun i _=>i < n,fun i H x H'=>H'=H∧x=.int (lo + i),fun i _=>n≤i⟩
theorem zTi {P:Program}{w:World}{K:PySem.W.Frag}{tg:Expr} (a it:Addr):Turn P w K tg (Itl K a) [it] it (fun i h=>h.IsListIter it a i) where
 mem:=by simp
 obj:=fun i h st b hb=>by
  have e:b=it:=by simpa using hb
  subst e;obtain ⟨o,e,c,d⟩:=st;exact ⟨o,e,fun v z=>by rw [d] at z;cases z⟩
 keep:=fun i h h' st k=>st.at fun o e=>k it (by simp) o e
 item:=by
  intro X hP hw hK hc i pins s σ H E I hf st hg;subst hP hw hK;obtain ⟨xs,x,hq,hx⟩:=hg;obtain ⟨its,rv,p,hz⟩:=I.list hq;obtain ⟨u,hu,ru⟩:=rv.get hx;obtain ⟨f0,f1,f2,f3,f4,f5⟩:=hf it (by simp);refine wpAny_pyNext_list_item st p.isList (x:=u) (by simpa using hu) fun h' st' sb=>?_;have I1:Inv X pins σ H { s with heap:=h' }:=I.turned (t':=s.toks) (fun b o hb e=>(sb.2 b hb).trans e) f0 f1 f3 f4 f5;obtain ⟨o,e,c,d⟩:=id st';exact ⟨u,rfl,zXk (s:={ s with heap:=h' }) e c d (by decide) ⟨x,H,I1,ru,⟨rfl,fun ys hy=>by rw [I.list_inj hy hq];exact hx⟩,st',fun b hb=>(hf b hb).1⟩⟩
 done:=by
  intro X hP hw hK hc i pins s σ H E I hf st hg;subst hP hw hK;obtain ⟨xs,hq,hx⟩:=hg;obtain ⟨its,rv,p,hz⟩:=I.list hq;obtain ⟨f0,f1,f2,f3,f4,f5⟩:=hf it (by simp);have hl:=rv.length;exact wpAny_pyNext_list_end (I.ok.hd hc) st p.isList (by simp;omega) fun h' eb=>⟨rfl,I.turned (t':=s.toks) (fun b o hb e=>eb b o hb e) f0 f1 f3 f4 f5⟩
 self:=fun _ _ _ _ _ st h=>wpAny_pyIter_listiter st h
theorem zSr {P:Program}{w:World}{K:PySem.W.Frag}{tg:Expr} (a it:Addr):Turn P w K tg (Itt K a) [it] it (fun i h=>h.IsTupleIter it a i) where
 mem:=by simp
 obj:=fun i h st b hb=>by
  have e:b=it:=by simpa using hb
  subst e;obtain ⟨o,e,c,d⟩:=st;exact ⟨o,e,fun v z=>by rw [d] at z;cases z⟩
 keep:=fun i h h' st k=>st.at fun o e=>k it (by simp) o e
 item:=by
  intro X hP hw hK hc i pins s σ H E I hf st hg;subst hP hw hK;obtain ⟨xs,x,hq,hx⟩:=hg;obtain ⟨its,rv,p,hz⟩:=I.tuple hq;obtain ⟨u,hu,ru⟩:=rv.get hx;obtain ⟨f0,f1,f2,f3,f4,f5⟩:=hf it (by simp);refine wpAny_pyNext_tuple_item st (show s.heap.IsTuple a its.toArray from p) (x:=u) (by simpa using hu) fun h' st' sb=>?_;have I1:Inv X pins σ H { s with heap:=h' }:=I.turned (t':=s.toks) (fun b o hb e=>(sb.2 b hb).trans e) f0 f1 f3 f4 f5;obtain ⟨o,e,c,d⟩:=id st';exact ⟨u,rfl,zXk (s:={ s with heap:=h' }) e c d (by decide) ⟨x,H,I1,ru,⟨rfl,fun ys hy=>by rw [I.tuple_inj hy hq];exact hx⟩,st',fun b hb=>(hf b hb).1⟩⟩
 done:=by
  intro X hP hw hK hc i pins s σ H E I hf st hg;subst hP hw hK;obtain ⟨xs,hq,hx⟩:=hg;obtain ⟨its,rv,p,hz⟩:=I.tuple hq;obtain ⟨f0,f1,f2,f3,f4,f5⟩:=hf it (by simp);have hl:=rv.length;exact wpAny_pyNext_tuple_end (I.ok.hd hc) st (show s.heap.IsTuple a its.toArray from p) (by simp;omega) fun h' eb=>⟨rfl,I.turned (t':=s.toks) (fun b o hb e=>eb b o hb e) f0 f1 f3 f4 f5⟩
 self:=fun _ _ _ _ _ st h=>wpAny_pyIter_tupleiter st h
theorem zSs {P:Program}{w:World}{K:PySem.W.Frag}{tg:Expr} (it:Addr) (lo:Int) (n:Nat):Turn P w K tg (Itr lo n) [it] it (fun i h=>IsRangeIter h it (lo + (i:Nat) * 1) ((n:Int) - (i:Nat)) 1) where
 mem:=by simp
 obj:=fun i h st b hb=>by
  have e:b=it:=by simpa using hb
  subst e
  exact ⟨_,st,fun v z=>by
   have z':Data.fields _=Data.cell v:=z
   cases z'⟩
 keep:=fun i h h' st k=>k it (by simp) _ st
 item:=by
  intro X hP hw hK hc i pins s σ H E I hf st hg;subst hP hw hK;obtain ⟨f0,f1,f2,f3,f4,f5⟩:=hf it (by simp);have W:=Walks.range (prog:=X.prog) (w:=X.w) (I.ok.hd hc) it lo 1 n;refine W.item i s _ _ hg st fun v h' tk hv st' kk=>?_;obtain ⟨t,rfl⟩:=hv;have I1:Inv X pins σ H { s with heap:=h',toks:=tk }:=I.turned (fun b o hb e=>kk b o (by simpa using hb) e) f0 f1 f3 f4 f5;refine ⟨_,rfl,zXk (s:={ s with heap:=h',toks:=tk }) (n:="range_iterator") st' rfl rfl (by decide) ⟨.int (lo + i),H,I1,⟨t,?_⟩,⟨rfl,rfl⟩,st',fun b hb=>(hf b hb).1⟩⟩;rw [Int.mul_one]
 done:=by
  intro X hP hw hK hc i pins s σ H E I hf st hg;subst hP hw hK;obtain ⟨f0,f1,f2,f3,f4,f5⟩:=hf it (by simp);exact wpAny_pyNext_range_end (I.ok.hd hc) st (by have:n≤i:=hg;omega) fun h' eb=>⟨rfl,I.turned (t':=s.toks) (fun b o hb e=>eb b o hb e) f0 f1 f3 f4 f5⟩
 self:=fun _ _ _ _ _ st h=>wpAny_pyIter_rangeiter st h
end L2
namespace L2
open PySem PySem.Spec PyProof.Rows
section
variable {X:Cx}{tg:Expr}
def iList (K:PySem.W.Frag) (tl:TE):TI:=fun σ H R=>tl σ H fun x H1=>∃ a,x=.ref a∧(∃ xs,SqL K H1 a xs)∧R (Itl K a) H1
def iTup (K:PySem.W.Frag) (tl:TE):TI:=fun σ H R=>tl σ H fun x H1=>∃ a,x=.ref a∧(∃ xs,SqT K H1 a xs)∧R (Itt K a) H1
theorem yA5 {l:Expr}{tl:TE} (hl:PE X l tl):PI X tg l (iList X.K tl):=by
 intro pins s σ H R I h;refine thn (hl pins s σ H _ I h) fun v s1 ⟨x,H1,I1,r1,q1⟩=>?_;obtain ⟨a,e,⟨xs,hq⟩,q⟩:=q1;subst e;cases r1;obtain ⟨its,rv,p,hz⟩:=I1.list hq;refine wpAny_pyIter_list p.isList ?_;refine ⟨s1.heap.objs.size,[s1.heap.objs.size],_,_,H1,rfl,I1.kept (t':=s1.toks) fun b o e=>Z0 _ e,zTi a _,⟨_,Z9 _ rfl,rfl,rfl⟩,fun b hb=>?_,q⟩;have e:b=s1.heap.objs.size:=by simpa using hb
 subst e;exact I1.fpOk (Z1 _) (I1.hok.fresh (Z1 _))
theorem yDc {l:Expr}{tl:TE} (hl:PE X l tl):PI X tg l (iTup X.K tl):=by
 intro pins s σ H R I h;refine thn (hl pins s σ H _ I h) fun v s1 ⟨x,H1,I1,r1,q1⟩=>?_;obtain ⟨a,e,⟨xs,hq⟩,q⟩:=q1;subst e;cases r1;obtain ⟨its,rv,p,hz⟩:=I1.tuple hq;refine wpAny_pyIter_tuple (show s1.heap.IsTuple a its.toArray from p) ?_;refine ⟨s1.heap.objs.size,[s1.heap.objs.size],_,_,H1,rfl,I1.kept (t':=s1.toks) fun b o e=>Z0 _ e,zSr a _,⟨_,Z9 _ rfl,rfl,rfl⟩,fun b hb=>?_,q⟩;have e:b=s1.heap.objs.size:=by simpa using hb
 subst e;exact I1.fpOk (Z1 _) (I1.hok.fresh (Z1 _))
theorem zW8 {pins:List (Addr×Obj)}{σ : St}{H:Hp}{s:Shared}{R:It→Hp→Prop}{E:Value→Shared→Prop}{lo hi:Int}{t u v:Tok}{tk:Nat} (I:Inv X pins σ H s) (h1 : -(2 ^ 62)≤lo) (h2:lo < 2 ^ 62) (h3 : -(2 ^ 62)≤hi) (h4:hi < 2 ^ 62)
 (q:R (Itr lo (hi - lo).toNat) H):wpAny (model X.prog X.w) X.A (pyIter (.ref s.heap.objs.size)) (PIE X pins σ tg R) E { s with heap:=s.heap.push { cls:=.type "range",data:=.fields #[.int lo t,.int hi u,.int 1 v] },toks:=tk }:=by
 refine wpAny_pyIter_range (IsRange.new ..) (small_one h1 h2 h3 h4) ?_;have I1:Inv X pins σ H { s with heap:=s.heap.push { cls:=.type "range",data:=.fields #[.int lo t,.int hi u,.int 1 v] },toks:=tk }:=I.kept fun b o e=>Z0 _ e
 refine ⟨(s.heap.push { cls:=.type "range",data:=.fields #[.int lo t,.int hi u,.int 1 v] }).objs.size,[(s.heap.push { cls:=.type "range",data:=.fields #[.int lo t,.int hi u,.int 1 v] }).objs.size],_,_,H,rfl,
  I1.kept (t':=tk) fun b o e=>Z0 _ e,zSs _ lo (hi - lo).toNat,?_,fun b hb=>?_,q⟩
 ·have e1:lo + ((0:Nat):Int) * 1=lo:=by simp
  have e2:(((hi - lo).toNat:Nat):Int) - ((0:Nat):Int)=Builtin.Range.rangeSize lo hi 1:=by rw [rangeSize_one];split <;> omega
  show IsRangeIter _ _ (lo + ((0:Nat):Int) * 1) ((((hi - lo).toNat:Nat):Int) - ((0:Nat):Int)) 1;rw [e1,e2];exact Z9 _ rfl
 ·have e:b=(s.heap.push { cls:=.type "range",data:=.fields #[.int lo t,.int hi u,.int 1 v] }).objs.size:=by simpa using hb
  subst e;exact I1.fpOk (Z1 _) (I1.hok.fresh (Z1 _))
def iRng1 (ta:TA):TI:=fun σ H R=>ta σ H fun vs H1=>∃ j:Int,vs=[.int j]∧-(2 ^ 62)≤j∧j < 2 ^ 62∧R (Itr 0 j.toNat) H1
theorem zTz {a:Expr}{ta:TA}{p pos:Pos} (hg:Gl X "range") (hm:X.mg "range" = none) (ha:PA X [a] ta) (hs:starEach [a] X.env=[(false,eval a X.env)]:=by rfl):PI X tg (.Call (.Name "range" p) [a] [] pos) (iRng1 ta):=by
 intro pins s σ H R I h;refine Call_ (zMx I hg hm boot_range (PyProof.Rows.callWith_type1 (thn (ha pos pins s σ H _ I h) fun us s1 ⟨vs,H1,I1,r1,q1⟩=>?_) hs rfl));obtain ⟨j,e,q1,q2,q⟩:=q1;subst e;cases r1 with
 | cons r rr =>
  cases rr;obtain ⟨t,rfl⟩:=r;exact call_range_1 (zW8 I1 (by omega) (by omega) q1 q2 (by simpa using q))
def tFor (wi:TI) (g:TG) (tb:TS):TS:=fun D σ H=>wi σ H fun J H1=>∃ W:Nat→Nat→St→Hp→Prop,(∃ m,W 0 m σ H1)∧∀ i m σ H,W i m σ H →
 (J.stop i H∧D.nx σ H)∨(J.go i H∧∃ N:St→Hp→Prop,(∀ σ' H',N σ' H'→∃ m',m' < m∧W (i + 1) m' σ' H')∧∀ x H',J.yld i H x H'→g x σ H' fun σ2 H2=>tb { D with nx:=N,ct:=N,bk:=D.nx } σ2 H2)
def pinsAt (fp:List Addr) (h:Heap):List (Addr×Obj):=fp.filterMap fun b=>(h.get? b).map fun o=>(b,o)
theorem zJi {fp:List Addr}{h:Heap}{b:Addr}{o:Obj} (hb:b∈fp) (e:h.get? b=some o):(b,o)∈pinsAt fp h:=List.mem_filterMap.mpr ⟨b,hb,by rw [e];rfl⟩
theorem zU9 {fp:List Addr}{h:Heap}{p:Addr×Obj} (hp:p∈pinsAt fp h):p.1∈fp∧h.get? p.1=some p.2:=by
 obtain ⟨b,hb,e⟩:=List.mem_filterMap.mp hp;cases q:h.get? b with
 | none=>rw [q] at e;cases e
 | some o =>
  rw [q] at e;have e':(b,o)=p:=Zl e;subst e';exact ⟨hb,q⟩
theorem Inv.pinned {pins:List (Addr×Obj)}{σ : St}{H:Hp}{s:Shared}{fp:List Addr} (I:Inv X pins σ H s) (hf:∀ b∈fp,FpOk X pins H b) (ho:∀ b∈fp,∃ o,s.heap.get? b=some o∧∀ v,o.data≠.cell v):Inv X (pins++pinsAt fp s.heap) σ H s :=
 I.pins_of fun p hp=>(List.mem_append.mp hp).elim (fun z=>I.pin p (Zm _ z)) fun z=>by
  obtain ⟨hb,e⟩:=zU9 z;obtain ⟨f0,f1,f2,_⟩:=hf p.1 hb;obtain ⟨o,e',d⟩:=ho p.1 hb;rw [e] at e';cases e';exact ⟨e,f0,f1,f2,d⟩
theorem Inv.unpinned {pins pl:List (Addr×Obj)}{σ : St}{H:Hp}{s:Shared} (I:Inv X (pins++pl) σ H s):Inv X pins σ H s:=I.pins_of fun p hp=>I.pin p (Zm _ (Zq _ hp))
theorem yD6 {iter:Expr}{body:List Stmt}{wi:TI}{g:TG}{tb:TS}{pos:Pos} (hp:PassesOwn (model X.prog X.w) X.A X.env X.xe) (hc:X.calm=true) (hi:PI X tg iter wi) (hg:PG X tg g) (hb:PSs X body tb)
 (hs:∀ x,foldedSetIterable iter X.env x=pure x:=by intro _;rfl):PS X (.For tg iter body [] pos) (tFor wi g tb):=by
 intro pins s σ H D I h;refine wpAny_For (thn (hi pins s σ H _ I h) fun v s1 h1=>thn h1 fun itv s2 h2=>?_) hs;obtain ⟨it,fp,tn,J,H2,e,I2,T,st2,f2,W,⟨m0,w0⟩,turn⟩:=h2;subst e;have stat:∀ {H':Hp},(∀ b∈fp,H' b=none)→∀ b∈fp,FpOk X pins H' b:=fun hn b hb=>⟨hn b hb,(f2 b hb).2⟩;refine codeAny_forLoop_any (fun n s'=>∃ i σ' H',Inv X pins σ' H' s'∧tn i s'.heap∧(∀ b∈fp,H' b=none)∧W i n σ' H') ?_ m0 ⟨0,σ,H2,I2,st2,fun b hb=>(f2 b hb).1,w0⟩;rintro n s3 ⟨i,σ3,H3,I3,st3,fr3,w3⟩;rcases turn i n σ3 H3 w3 with ⟨stop,qn⟩ | ⟨go,N,hN,step⟩
 ·refine wpAny_passesOwn hp (thn (T.done X rfl rfl rfl hc i pins s3 σ3 H3 X.xe I3 (stat fr3) st3 stop) fun r s4 ⟨hr,I4⟩=>?_);subst hr;exact wpAny_execs_nil ⟨σ3,H3,I4,qn⟩
 ·refine wpAny_passesOwn hp (thn (T.item X rfl rfl rfl hc i pins s3 σ3 H3 X.xe I3 (stat fr3) st3 go) fun r s4 ⟨u,hr,h4⟩=>?_);subst hr;refine wpAny_passesOwn hp (thn h4 fun _ s5 ⟨x,H5,I5,r5,y5,st5,fr5⟩=>?_);have I5':=I5.pinned (stat fr5) (T.obj _ _ st5);refine wpAny_passesOwn hp (thn (hg _ s5 σ3 H5 x u _ I5' r5 (step x H5 y5)) fun _ s6 ⟨σ6,H6,I6,q6⟩=>?_);refine wpAny_passesOwn hp (thn (hb _ s6 σ6 H6 _ I6 q6) fun f s7 q7=>?_);have again:∀ {σ7:St}{H7:Hp},Inv X (pins++pinsAt fp s5.heap) σ7 H7 s7→N σ7 H7→∃ m,m < n∧∃ i σ' H',Inv X pins σ' H' s7∧tn i s7.heap∧(∀ b∈fp,H' b=none)∧W i m σ' H':=fun {σ7 H7} I7 n7=>by
   obtain ⟨m',hm,w7⟩:=hN σ7 H7 n7;refine ⟨m',hm,i + 1,σ7,H7,I7.unpinned,T.keep _ _ _ st5 fun b hb o e=>(I7.pin (b,o) (Zm _ (Zm _ (zJi hb e)))).1,fun b hb=>?_,w7⟩;obtain ⟨o,e,d⟩:=T.obj _ _ st5 b hb;exact (I7.pin (b,o) (Zm _ (Zm _ (zJi hb e)))).2.1
  cases f with
  | next=>obtain ⟨σ7,H7,I7,n7⟩:=q7;exact again I7 n7
  | cont=>obtain ⟨σ7,H7,I7,n7⟩:=q7;exact again I7 n7
  | brk=>obtain ⟨σ7,H7,I7,q7⟩:=q7;exact ⟨σ7,H7,I7.unpinned,q7⟩
  | ret v=>obtain ⟨x7,σ7,H7,I7,r7,q7⟩:=q7;exact ⟨x7,σ7,H7,I7.unpinned,r7,q7⟩
end
end L2
namespace L2
open PySem PySem.Spec PyProof.Rows
abbrev R2:=V→V→Hp→VK→Prop
def OpR (X:Cx) (f:Value→Value→Sem Value) (r:R2):Prop :=
 ∀ (pins:List (Addr×Obj)) (s:Shared) (σ : St) (H:Hp) (x y:V) (v u:Value) (Q:VK),Inv X pins σ H s→RelV x v→RelV y u→r x y H Q →
  wpAny (model X.prog X.w) X.A (f v u) (EP X pins σ Q) X.xe s
def UnR (X:Cx) (f:Value→Sem Value) (r:V→Hp→VK→Prop):Prop :=
 ∀ (pins:List (Addr×Obj)) (s:Shared) (σ : St) (H:Hp) (x:V) (v:Value) (Q:VK),Inv X pins σ H s→RelV x v→r x H Q →
  wpAny (model X.prog X.w) X.A (f v) (EP X pins σ Q) X.xe s
def CallR (X:Cx) (f:Value) (r:List V→Hp→VK→Prop):Prop :=
 ∀ (pins:List (Addr×Obj)) (s:Shared) (σ : St) (H:Hp) (xs:List V) (us:List Value) (Q:VK),Inv X pins σ H s→Vals xs us→r xs H Q →
  wpAny (model X.prog X.w) X.A (call f us) (EP X pins σ Q) X.xe s
def TruR (X:Cx) (r:V→Hp→(Bool→Hp→Prop)→Prop):Prop :=
 ∀ (pins:List (Addr×Obj)) (s:Shared) (σ : St) (H:Hp) (x:V) (v:Value) (Q:Bool→Hp→Prop),Inv X pins σ H s→RelV x v→r x H Q →
  wpAny (model X.prog X.w) X.A (truthy v) (TP X pins σ Q) X.xe s
def tOp (r:R2) (ta tb:TE):TE:=fun σ H Q=>ta σ H fun x H1=>tb σ H1 fun y H2=>r x y H2 Q
def tUn (r:V→Hp→VK→Prop) (ta:TE):TE:=fun σ H Q=>ta σ H fun x H1=>r x H1 Q
def rI (C:Int→Int→Prop) (g:Int→Int→V):R2:=fun x y H Q=>∃ i j,x=.int i∧y=.int j∧C i j∧Q (g i j) H
def rI0 (g:Int→Int→V):R2:=fun x y H Q=>∃ i j,x=.int i∧y=.int j∧Q (g i j) H
def rU (g:Int→V):V→Hp→VK→Prop:=fun x H Q=>∃ i,x=.int i∧Q (g i) H
section
variable {X:Cx}{a b c:Expr}{ta tb tc:TE}{pos:Pos}
theorem binT (ha:PE X a ta) (hb:PE X b tb) {pins:List (Addr×Obj)}{s:Shared}{σ : St}{H:Hp}{R:V→V→Hp→Prop} (I:Inv X pins σ H s)
 (h:ta σ H fun x H1=>tb σ H1 fun y H2=>R x y H2) {Q:Value→Shared→Prop}{f:Value→Value→Sem Value}
 (hf:∀ v u s2 x y H2,Inv X pins σ H2 s2→RelV x v→RelV y u→R x y H2→wpAny (model X.prog X.w) X.A (f v u) Q X.xe s2) :
 wpAny (model X.prog X.w) X.A (eval a X.env) (fun v s₁=>wpAny (model X.prog X.w) X.A (eval b X.env) (fun u s₂=>wpAny (model X.prog X.w) X.A (f v u) Q X.xe s₂) X.xe s₁) X.xe s:=by
 refine thn (ha pins s σ H _ I h) fun v s1 ⟨x,H1,I1,r1,q1⟩=>?_;refine thn (hb pins s1 σ H1 _ I1 q1) fun u s2 ⟨y,H2,I2,r2,q2⟩=>?_;exact hf v u s2 x y H2 I2 r1 r2 q2
theorem pe_op {op:Operator}{r:R2} (ho:OpR X (binaryOp op) r) (ha:PE X a ta) (hb:PE X b tb):PE X (.BinOp a op b pos) (tOp r ta tb):=by
 intro pins s σ H Q I h;exact wpAny_BinOp (binT ha hb I h fun v u s2 x y H2 I2 rx ry q=>ho pins s2 σ H2 x y v u Q I2 rx ry q)
theorem pe_un {op:UnaryOp}{r:V→Hp→VK→Prop} (ho:UnR X (unaryOp op) r) (ha:PE X a ta):PE X (.UnaryOp op a pos) (tUn r ta):=by
 intro pins s σ H Q I h;exact UnaryOp_ (thn (ha pins s σ H _ I h) fun v s1 ⟨x,H1,I1,r1,q1⟩=>ho pins s1 σ H1 x v Q I1 r1 q1)
theorem opI {f:Value→Value→Sem Value}{C:Int→Int→Prop}{g:Int→Int→Int}
 (rule:∀ (i j:Int) (t u:Tok) (s:Shared) (Q:Value→Shared→Prop) (E:Value→Shared→Prop),C i j→Q (.int (g i j) s.toks) { s with toks:=s.toks + 1 }→wpAny (model X.prog X.w) X.A (f (.int i t) (.int j u)) Q E s) :
 OpR X f (rI C fun i j=>.int (g i j)):=by
 intro pins s σ H x y v u Q I rx ry h;obtain ⟨i,j,rfl,rfl,hc,q⟩:=h;obtain ⟨t,rfl⟩:=rx;obtain ⟨t',rfl⟩:=ry;exact rule i j t t' s _ _ hc ⟨.int (g i j),H,I.tok _,⟨_,rfl⟩,q⟩
theorem opI0 {f:Value→Value→Sem Value}{g:Int→Int→Int}
 (rule:∀ (i j:Int) (t u:Tok) (s:Shared) (Q:Value→Shared→Prop) (E:Value→Shared→Prop),Q (.int (g i j) s.toks) { s with toks:=s.toks + 1 }→wpAny (model X.prog X.w) X.A (f (.int i t) (.int j u)) Q E s) :
 OpR X f (rI0 fun i j=>.int (g i j)):=by
 intro pins s σ H x y v u Q I rx ry h;obtain ⟨i,j,rfl,rfl,q⟩:=h;obtain ⟨t,rfl⟩:=rx;obtain ⟨t',rfl⟩:=ry;exact rule i j t t' s _ _ ⟨.int (g i j),H,I.tok _,⟨_,rfl⟩,q⟩
theorem opB0 {f:Value→Value→Sem Value}{g:Int→Int→Bool}
 (rule:∀ (i j:Int) (t u:Tok) (s:Shared) (Q:Value→Shared→Prop) (E:Value→Shared→Prop),Q (.bool (g i j)) s→wpAny (model X.prog X.w) X.A (f (.int i t) (.int j u)) Q E s) :
 OpR X f (rI0 fun i j=>.bl (g i j)):=by
 intro pins s σ H x y v u Q I rx ry h;obtain ⟨i,j,rfl,rfl,q⟩:=h;obtain ⟨t,rfl⟩:=rx;obtain ⟨t',rfl⟩:=ry;exact rule i j t t' s _ _ ⟨.bl (g i j),H,I,rfl,q⟩
def CMul (i j:Int):Prop:=(-(2 ^ 64) < i∧i < 2 ^ 64)∨(-(2 ^ 64) < j∧j < 2 ^ 64)
theorem CMul.ok {i j:Int} (h:CMul i j):IntMulOk i j:=by
 rcases h with ⟨h1,h2⟩ | ⟨h1,h2⟩
 ·exact .of_left (intBits_le_64 h1 h2)
 ·exact .of_right (intBits_le_64 h1 h2)
theorem yE6:OpR X (binaryOp .Add) (rI0 fun i j=>.int (i + j)):=opI0 fun _ _ _ _ _ _ _ q=>add_int q
theorem yDs:OpR X (binaryOp .Sub) (rI0 fun i j=>.int (i - j)):=opI0 fun _ _ _ _ _ _ _ q=>sub_int q
theorem yDy:OpR X (binaryOp .Mult) (rI CMul fun i j=>.int (i * j)):=opI fun _ _ _ _ _ _ _ hc q=>mul_int q hc.ok
theorem yDz:OpR X (binaryOp .Mod) (rI (fun _ j=>0 < j) fun i j=>.int (i % j)):=opI fun i j _ _ _ _ _ hc q=>by
 have h1:(0:Int) < j:=hc;exact mod_int' (by omega) (by rw [Int.fmod_eq_emod_of_nonneg i (by omega)];exact q)
theorem unI {f:Value→Sem Value}{g:Int→Int}
 (rule:∀ (i:Int) (t:Tok) (s:Shared) (Q:Value→Shared→Prop) (E:Value→Shared→Prop),Q (.int (g i) s.toks) { s with toks:=s.toks + 1 }→wpAny (model X.prog X.w) X.A (f (.int i t)) Q E s) :
 UnR X f (rU fun i=>.int (g i)):=by
 intro pins s σ H x v Q I rx h;obtain ⟨i,rfl,q⟩:=h;obtain ⟨t,rfl⟩:=rx;exact rule i t s _ _ ⟨.int (g i),H,I.tok _,⟨_,rfl⟩,q⟩
theorem yCf:UnR X (unaryOp .USub) (rU fun i=>.int (-i)):=unI fun _ _ _ _ _ q=>neg_int q
end
def scal:V→V→Bool
 | .non,.non=>true | .non,.int _=>true | .int _,.non=>true | .non,.bl _=>true | .bl _,.non=>true | .non,.str _=>true | .str _,.non=>true
 | .int _,.int _=>true | .bl _,.bl _=>true | .str _,.str _=>true | .byt _,.byt _=>true
 | .int _,.str _=>true | .str _,.int _=>true | .bl _,.str _=>true | .str _,.bl _=>true
 | _,_=>false
def rEq:R2:=fun x y H Q=>scal x y=true∧Q (.bl (decide (x=y))) H
def rNe:R2:=fun x y H Q=>scal x y=true∧Q (.bl (!decide (x=y))) H
theorem zVj {i j:Int}:decide (V.int i=V.int j)=(i == j):=by
 rw [Yc];simp
theorem zZa {i j:Bool}:decide (V.bl i=V.bl j)=(i == j):=by
 rw [Yc];simp
theorem zVi {i j:Str}:decide (V.str i=V.str j)=(i == j):=by
 rw [Yc];simp
theorem zVk {i j:Array UInt8}:decide (V.byt i=V.byt j)=(i.toList == j.toList):=by
 rw [Yc];cases i;cases j;simp
section
variable {X:Cx}{a b c:Expr}{ta tb tc:TE}{pos:Pos}
theorem zAy {pins:List (Addr×Obj)}{σ : St}{H:Hp}{s:Shared}{Q:VK}{k k':Bool} (I:Inv X pins σ H s) (q:Q (.bl k) H) (e:k=k'):EP X pins σ Q (.bool k') s:=by
 subst e;exact ⟨.bl k,H,I,rfl,q⟩
theorem op_eq:OpR X (compareOp .Eq) rEq:=by
 intro pins s σ H x y v u Q I rx ry h;obtain ⟨hs,q⟩:=h;cases x with
 | non =>
  cases rx;cases y with
  | non=>cases ry;exact PySem.EqNone.eq_none_none (zAy I q (by simp))
  | bl j=>cases ry;exact PySem.EqNone.eq_none_bool (zAy I q (by simp))
  | int j=>obtain ⟨t',rfl⟩:=ry;exact PySem.EqNone.eq_none_int (zAy I q (by simp))
  | str j=>obtain ⟨t',rfl⟩:=ry;exact PySem.EqNone.eq_none_str (zAy I q (by simp))
  | _=>exact absurd (show false=true from hs) Z6
 | bl i =>
  cases rx;cases y with
  | non=>cases ry;exact PySem.EqNone.eq_bool_none (zAy I q (by simp))
  | bl j=>cases ry;exact eq_bool (zAy I q zZa)
  | str j=>obtain ⟨t',rfl⟩:=ry;exact PySem.EqMixed.eq_bool_str (zAy I q (by simp))
  | _=>exact absurd (show false=true from hs) Z6
 | int i =>
  obtain ⟨t,rfl⟩:=rx;cases y with
  | non=>cases ry;exact PySem.EqNone.eq_int_none (zAy I q (by simp))
  | int j=>obtain ⟨t',rfl⟩:=ry;exact eq_int (zAy I q zVj)
  | str j=>obtain ⟨t',rfl⟩:=ry;exact PySem.EqMixed.eq_int_str (zAy I q (by simp))
  | _=>exact absurd (show false=true from hs) Z6
 | str i =>
  obtain ⟨t,rfl⟩:=rx;cases y with
  | non=>cases ry;exact PySem.EqNone.eq_str_none (zAy I q (by simp))
  | bl j=>cases ry;exact PySem.EqMixed.eq_str_bool (zAy I q (by simp))
  | int j=>obtain ⟨t',rfl⟩:=ry;exact PySem.EqMixed.eq_str_int (zAy I q (by simp))
  | str j=>obtain ⟨t',rfl⟩:=ry;exact eq_str (zAy I q zVi)
  | _=>exact absurd (show false=true from hs) Z6
 | byt i =>
  obtain ⟨t,rfl⟩:=rx;cases y with
  | byt j=>obtain ⟨t',rfl⟩:=ry;exact PySem.W.eq_bytes (zAy I q zVk)
  | _=>exact absurd (show false=true from hs) Z6
 | _=>cases y <;> exact absurd (show false=true from hs) Z6
theorem op_ne:OpR X (compareOp .NotEq) rNe:=by
 intro pins s σ H x y v u Q I rx ry h;obtain ⟨hs,q⟩:=h;cases x with
 | non =>
  cases rx;cases y with
  | non=>cases ry;exact PySem.EqNone.ne_none_none (zAy I q (by simp))
  | bl j=>cases ry;exact PySem.EqNone.ne_none_bool (zAy I q (by simp))
  | int j=>obtain ⟨t',rfl⟩:=ry;exact PySem.EqNone.ne_none_int (zAy I q (by simp))
  | str j=>obtain ⟨t',rfl⟩:=ry;exact PySem.EqNone.ne_none_str (zAy I q (by simp))
  | _=>exact absurd (show false=true from hs) Z6
 | bl i =>
  cases rx;cases y with
  | non=>cases ry;exact PySem.EqNone.ne_bool_none (zAy I q (by simp))
  | bl j=>cases ry;exact ne_bool (zAy I q (congrArg not zZa))
  | str j=>obtain ⟨t',rfl⟩:=ry;exact PySem.EqMixed.ne_bool_str (zAy I q (by simp))
  | _=>exact absurd (show false=true from hs) Z6
 | int i =>
  obtain ⟨t,rfl⟩:=rx;cases y with
  | non=>cases ry;exact PySem.EqNone.ne_int_none (zAy I q (by simp))
  | int j=>obtain ⟨t',rfl⟩:=ry;exact ne_int (zAy I q (congrArg not zVj))
  | str j=>obtain ⟨t',rfl⟩:=ry;exact PySem.EqMixed.ne_int_str (zAy I q (by simp))
  | _=>exact absurd (show false=true from hs) Z6
 | str i =>
  obtain ⟨t,rfl⟩:=rx;cases y with
  | non=>cases ry;exact PySem.EqNone.ne_str_none (zAy I q (by simp))
  | bl j=>cases ry;exact PySem.EqMixed.ne_str_bool (zAy I q (by simp))
  | int j=>obtain ⟨t',rfl⟩:=ry;exact PySem.EqMixed.ne_str_int (zAy I q (by simp))
  | str j=>obtain ⟨t',rfl⟩:=ry;exact ne_str (zAy I q (congrArg not zVi))
  | _=>exact absurd (show false=true from hs) Z6
 | byt i =>
  obtain ⟨t,rfl⟩:=rx;cases y with
  | byt j=>obtain ⟨t',rfl⟩:=ry;exact PySem.W.ne_bytes (zAy I q (congrArg not zVk))
  | _=>exact absurd (show false=true from hs) Z6
 | _=>cases y <;> exact absurd (show false=true from hs) Z6
theorem op_lt:OpR X (compareOp .Lt) (rI0 fun i j=>.bl (decide (i < j))):=opB0 fun _ _ _ _ _ _ _ q=>lt_int q
theorem op_le:OpR X (compareOp .LtE) (rI0 fun i j=>.bl (decide (i≤j))):=opB0 fun _ _ _ _ _ _ _ q=>le_int q
theorem op_gt:OpR X (compareOp .Gt) (rI0 fun i j=>.bl (decide (j < i))):=opB0 fun _ _ _ _ _ _ _ q=>gt_int q
theorem op_ge:OpR X (compareOp .GtE) (rI0 fun i j=>.bl (decide (j≤i))):=opB0 fun _ _ _ _ _ _ _ q=>ge_int q
theorem zU6:OpR X (compareOp .In) (fun x y H Q=>∃ i j,x=.str i∧y=.str j∧Q (.bl (!(Builtin.Str.occurrences j i 0 j.length 1).isEmpty)) H):=by
 intro pins s σ H x y v u Q I rx ry h;obtain ⟨i,j,rfl,rfl,q⟩:=h;obtain ⟨t,rfl⟩:=rx;obtain ⟨t',rfl⟩:=ry;exact in_str (zAy I q rfl)
theorem yE0:OpR X (compareOp .Is) (fun x y H Q=>y=.non∧Q (.bl (decide (x=.non))) H):=by
 intro pins s σ H x y v u Q I rx ry h;obtain ⟨rfl,q⟩:=h;cases ry;refine is_none_gen (zAy I q ?_)
 cases x <;> first
  | (cases rx;rfl)
  | (obtain ⟨t,rfl⟩:=rx;rfl)
theorem yAs:OpR X (compareOp .IsNot) (fun x y H Q=>y=.non∧Q (.bl (!decide (x=.non))) H):=by
 intro pins s σ H x y v u Q I rx ry h;obtain ⟨rfl,q⟩:=h;cases ry;refine isnot_none_gen (zAy I q ?_)
 cases x <;> first
  | (cases rx;rfl)
  | (obtain ⟨t,rfl⟩:=rx;rfl)
theorem yAb {op:CmpOp}{r:R2} (ho:OpR X (compareOp op) r) (ha:PE X a ta) (hb:PE X b tb) (hm:behindInMarks op b=false):PE X (.Compare a [op] [b] pos) (tOp r ta tb):=by
 intro pins s σ H Q I h;exact wpAny_Compare1 (binT ha hb I h fun v u s2 x y H2 I2 rx ry q=>ho pins s2 σ H2 x y v u Q I2 rx ry q) hm
def tTest (t:TE):TT:=fun σ H Q=>t σ H fun x H'=>∃ k,x=.bl k∧Q k H'
theorem zZy {op:CmpOp}{r:R2} (ho:OpR X (compareOp op) r) (ha:PE X a ta) (hb:PE X b tb) (hm:behindInMarks op b=false):PT X (.Compare a [op] [b] pos) (tTest (tOp r ta tb)):=by
 intro pins s σ H Q I h
 refine wpAny_isTrue_Compare1 (thn (ha pins s σ H _ I h) fun v s1 ⟨x,H1,I1,r1,q1⟩=>thn (hb pins s1 σ H1 _ I1 q1) fun u s2 ⟨y,H2,I2,r2,q2⟩ =>
  thn (ho pins s2 σ H2 x y v u _ I2 r1 r2 q2) fun c s3 ⟨z,H3,I3,r3,k,e,q3⟩=>?_) hm
 subst e;cases r3;exact wpAny_truthy_bool ⟨H3,I3,q3⟩
def tChain (r r':R2) (ta tb tc:TE):TE:=fun σ H Q=>ta σ H fun x H1=>tb σ H1 fun y H2=>r x y H2 fun z H3=>∃ k,z=.bl k ∧
 (if k=true then tc σ H3 fun w' H4=>r' y w' H4 Q else Q (.bl false) H3)
theorem zWn {op op':CmpOp}{r r':R2} (ho:OpR X (compareOp op) r) (ho':OpR X (compareOp op') r') (ha:PE X a ta) (hb:PE X b tb) (hc:PE X c tc)
 (hm:lastMarks [op,op'] [b,c]=false:=by with_unfolding_all rfl):PE X (.Compare a [op,op'] [b,c] pos) (tChain r r' ta tb tc):=by
 intro pins s σ H Q I h
 refine Compare_chain (thn (ha pins s σ H _ I h) fun v s1 ⟨x,H1,I1,r1,q1⟩=>chain_link (thn (hb pins s1 σ H1 _ I1 q1) fun u s2 ⟨y,H2,I2,r2,q2⟩ =>
  thn (ho pins s2 σ H2 x y v u _ I2 r1 r2 q2) fun d s3 ⟨z,H3,I3,r3,k,e,q3⟩=>?_)) hm
 subst e;cases r3;refine wpAny_truthy_bool ?_;cases k with
 | false=>exact ite_ff ⟨.bl false,H3,I3,rfl,q3⟩
 | true=>exact ite_tt (chain_last (thn (hc pins s3 σ H3 _ I3 q3) fun w' s4 ⟨z',H4,I4,r4,q4⟩=>ho' pins s4 σ H4 y z' u w' Q I4 r2 r4 q4))
theorem zWa {op op':CmpOp}{r r':R2} (ho:OpR X (compareOp op) r) (ho':OpR X (compareOp op') r') (ha:PE X a ta) (hb:PE X b tb) (hc:PE X c tc)
 (hm:lastMarks [op,op'] [b,c]=false:=by with_unfolding_all rfl):PT X (.Compare a [op,op'] [b,c] pos) (tTest (tChain r r' ta tb tc)):=by
 intro pins s σ H Q I h
 refine isTrue_chain (thn (ha pins s σ H _ I h) fun v s1 ⟨x,H1,I1,r1,q1⟩=>test_link (thn (hb pins s1 σ H1 _ I1 q1) fun u s2 ⟨y,H2,I2,r2,q2⟩ =>
  thn (ho pins s2 σ H2 x y v u _ I2 r1 r2 q2) fun d s3 ⟨z,H3,I3,r3,k,e,q3⟩=>?_)) hm
 subst e;cases r3;refine wpAny_truthy_bool ?_;cases k with
 | false =>
  obtain ⟨k',e',q'⟩:=q3;cases e';exact ite_ff ⟨H3,I3,q'⟩
 | true =>
  refine ite_tt (test_last (thn (hc pins s3 σ H3 _ I3 q3) fun w' s4 ⟨z',H4,I4,r4,q4⟩=>thn (ho' pins s4 σ H4 y z' u w' _ I4 r2 r4 q4) fun d' s5 ⟨z2,H5,I5,r5,k2,e2,q5⟩=>?_));subst e2;cases r5;exact wpAny_truthy_bool ⟨H5,I5,q5⟩
def TruV (K:PySem.W.Frag) (x:V) (H:Hp) (k:Bool):Prop :=
 match x with
 | .non=>k=false
 | .bl b=>k=b
 | .int i=>k=(i != 0)
 | .str y=>y.length≤sizeLine∧k=((y.length:Int) != 0)
 | .byt y=>y.size≤sizeLine∧k=((y.size:Int) != 0)
 | .ref p=>(∃ xs,SqL K H p xs∧k = !xs.isEmpty)∨(∃ xs,SqT K H p xs∧k = !xs.isEmpty)∨∃ kvs,H p=some (.dK kvs)∧k = !kvs.isEmpty
 | _=>False
theorem zT6 {κ : Type}{kvs:List (κ×V)}{vs:List (κ×Value)} (r:KV kvs vs):(!vs.isEmpty) = !kvs.isEmpty:=by
 cases r <;> rfl
theorem zMy {xs:List V}{its:List Value} (r:Vals xs its):(!its.toArray.isEmpty) = !xs.isEmpty:=by
 cases r <;> simp
theorem line63:(sizeLine:Nat) < 2 ^ 63:=by rw [sizeLine_eq];decide
theorem yCj:TruR X (fun x H Q=>∃ k,TruV X.K x H k∧Q k H):=by
 intro pins s σ H x v Q I rx h;obtain ⟨k,e,q⟩:=h;have hl:=line63;have hs:sizeLine=16777216:=sizeLine_eq;cases x with
 | non =>
  cases rx;have e':k=false:=e;subst e';exact truthy_none ⟨H,I,q⟩
 | bl b =>
  cases rx;have e':k=b:=e;subst e';exact wpAny_truthy_bool ⟨H,I,q⟩
 | int i =>
  obtain ⟨t,rfl⟩:=rx;have e':k=(i != 0):=e;subst e';exact PySem.P.truthy_int ⟨H,I,q⟩
 | str y =>
  obtain ⟨t,rfl⟩:=rx;obtain ⟨hy,e'⟩:y.length≤sizeLine∧k=((y.length:Int) != 0):=e;subst e';exact PySem.P.truthy_str (by omega) ⟨H,I.tok _,q⟩
 | byt y =>
  obtain ⟨t,rfl⟩:=rx;obtain ⟨hy,e'⟩:y.size≤sizeLine∧k=((y.size:Int) != 0):=e;subst e';exact PySem.W.truthy_bytes (by omega) ⟨H,I.tok _,q⟩
 | ref p =>
  cases rx;have e':(∃ xs,SqL X.K H p xs∧k = !xs.isEmpty)∨(∃ xs,SqT X.K H p xs∧k = !xs.isEmpty)∨∃ kvs,H p=some (.dK kvs)∧k = !kvs.isEmpty:=e;rcases e' with ⟨xs,hx,e'⟩ | ⟨xs,hx,e'⟩ | ⟨kvs,hx,e'⟩
  ·subst e';obtain ⟨its,r,pl,hz⟩:=I.list hx;have hlen:=r.length;exact wpAny_truthy_list pl.isList (by simp only [Z4];omega) ⟨H,I.tok _,by rw [zMy r];exact q⟩
  ·subst e';obtain ⟨its,r,pl,hz⟩:=I.tuple hx;have hlen:=r.length;exact truthy_tuple pl (by simp only [Z4];omega) ⟨H,I.tok _,by rw [zMy r];exact q⟩
  ·subst e';obtain ⟨hz,hS,vs,r,m⟩:kvs.length≤sizeLine∧(p == sysModules)=false∧∃ vs,KV kvs vs∧s.heap.DictOf (mixKind X.prog X.w) p vs:=I.hok p _ hx;have hlen:kvs.length=vs.length:=Paired.length r;exact wpAny_truthy_dict hS m (by omega) ⟨H,I.tok _,by rw [zT6 r];exact q⟩
 | _=>exact (show False from e).elim
theorem zW9 (ha:PE X a ta) (he:∀ whole,isTrue a X.env whole=(do let v ← whole;standAt a.pos;holding [v] (truthy v))) :
 PT X a (fun σ H Q=>ta σ H fun x H'=>∃ k,TruV X.K x H' k∧Q k H'):=by
 intro pins s σ H Q I h;exact isTrue_plain (thn (ha pins s σ H _ I h) fun v s1 ⟨x,H1,I1,r1,q1⟩=>yCj pins s1 σ H1 x v Q I1 r1 q1) (he _)
theorem zSz:OpR X (binaryOp .Add) (fun x y H Q=>∃ i j,x=.str i∧y=.str j∧i.length + j.length≤sizeLine∧Q (.str (i++j)) H):=by
 intro pins s σ H x y v u Q I rx ry h;obtain ⟨i,j,rfl,rfl,hz,q⟩:=h;obtain ⟨t,rfl⟩:=rx;obtain ⟨t',rfl⟩:=ry;exact add_str (fun t' tk=>⟨.str (i++j),H,I.tok _,⟨_,rfl⟩,q⟩) hz
theorem vals1 {x:V}{us:List Value} (r:Vals [x] us):∃ u,us=[u]∧RelV x u:=by
 cases r with
 | cons r1 r2=>cases r2;exact ⟨_,rfl,r1⟩
end
end L2
namespace L2
open PySem PySem.Spec PyProof.Rows
structure ObjM (h:Heap) (x dx C:Addr) (mA:Str→Option Value):Prop where
 obj:h.get? x=some (PySem.W.instObj C dx)
 ns:h.Ns1 dx mA
 ne:dx≠x
theorem zUr {h:Heap}{dx:Addr}{mA:Str→Option Value} (n:h.Ns1 dx mA):∃ od,h.get? dx=some od∧∀ name,PySem.W.lookIn name od=some (mA name):=by
 obtain ⟨o,es,ep,ho,hd,hk,_,hm⟩:=n;refine ⟨o,ho,fun name=>?_⟩;have e:=hm name;unfold nsFind findBy at e;rw [← Array.find?_toList] at e;unfold PySem.W.lookIn;rw [hd];dsimp only;split
 ·rename_i y q
  rw [q] at e;exact congrArg some e
 ·rename_i q
  rw [q] at e;have a:es.toList.any (·.refKey)=false:=by
   rw [List.any_eq_false];intro y hy;obtain ⟨z,t,hkey⟩:=hk y (Array.mem_toList_iff.mp hy);simp [DictEntry.refKey,hkey]
  have a':¬ es.toList.any (·.refKey)=true:=by rw [a];exact Z6
  rw [if_neg a'];exact congrArg some e
theorem ObjM.look {h:Heap}{x dx C:Addr}{mA:Str→Option Value} (I:ObjM h x dx C mA):∃ od,PySem.W.InstAt h x (PySem.W.instObj C dx) C (some od)∧∀ name,PySem.W.lookIn name od=some (mA name) :=
 let ⟨od,ho,hl⟩:=zUr I.ns
 ⟨od,⟨I.obj,rfl,rfl,ho⟩,hl⟩
section
variable {prog:Program}{w:World}{A:Around}{E:Value→Shared→Prop}{s:Shared}{K:PySem.W.Frag}{x dx C f:Addr}{mA:Str→Option Value}{name:Str}{v:Value}
theorem zV8 {expr:Bool}{Q:Value→Shared→Prop} (X:K.In s.heap) (I:ObjM s.heap x dx C mA) (hg:PySem.W.plainGet K C name=true) (hh:PySem.W.hasDictIn K C=true)
 (ha:PySem.W.findIn K (.ref C) name=some none) (hv:mA name=some v) (hv':PySem.W.handedIn v=true) (h:Q v { s with toks:=s.toks + 1 }) :
 wpAny (model prog w) A (getAttr (.ref x) name expr) Q E s:=by
 obtain ⟨od,J,hl⟩:=I.look;exact PySem.W.get_value X J (PySem.W.plainGet_of hg).1 (PySem.W.findObj_own hh ha rfl (by rw [hl,hv])) hv' h
theorem zXl {pl:Sem Bool}{Q:Value×List Value→Shared→Prop} (X:K.In s.heap) (I:ObjM s.heap x dx C mA) (hg:PySem.W.plainGet K C name=true)
 (hf:PySem.W.findIn K (.ref C) name=some (some (.ref f))) (ht:PySem.W.isFn K (.ref f)=true) (hv:mA name=none) (h:Q (.ref f,[.ref x]) s) :
 wpAny (model prog w) A (getMethod (.ref x) name pl) Q E s:=by
 obtain ⟨od,J,hl⟩:=I.look;exact PySem.W.method_fn X J (PySem.W.plainGet_of hg).1 (PySem.W.plainGet_of hg).2 hf (beq_iff_eq.mp ht) (by show (PySem.W.lookIn name od).map (·.isSome)=some false;rw [hl,hv];rfl) h
theorem zZv {ns:List Str}{Q:Unit→Shared→Prop} (X:K.In s.heap) (I:ObjM s.heap x dx C mA)
 (hs:PySem.W.findIn K (.ref C) "__setattr__" = some (some (.builtin "object.__setattr__"))) (hp:PySem.W.plainOver K C=true) (ht:PySem.W.takerIn K C name=some none) (hh:PySem.W.hasDictIn K C=true)
 (hw:PySem.Within mA ns) (hsz:ns.length≤sizeLine)
 (h:∀ h',ObjM h' x dx C (fun y=>if y=name then some v else mA y)→Heap.SameBut dx s.heap h'→Q () { s with heap:=h',toks:=s.toks + 2 }) :
 wpAny (model prog w) A (setAttr (.ref x) name v) Q E s:=by
 obtain ⟨od,J,hl⟩:=I.look;refine PySem.W.set_plain X J hs (PySem.W.osa_open (s:={ s with toks:=s.toks + 1 }) (r:=none) X J hp ht fun b=>?_);obtain ⟨cd,hc,hd'⟩:=PySem.W.any_some hh;have hx:s.heap.get? x=some ⟨.ref C,some dx,.plain,#[]⟩:=I.obj;refine wpAny_bind (wpAny_pure (wpAny_bind (wpAny_bind (wpAny_loadPart hx (wpAny_bind (PySem.W.Looks.here (s:={ s with toks:=s.toks + 1 }) (PySem.W.looks_clsIn X hc) ?_))))));rw [hd'];refine wpAny_pure (a:=some dx) (wpAny_bind (wpAny_pure (wpAny_bind ?_)));refine wpAny_nsSet1 (s:={ s with toks:=s.toks + 1 }) I.ns fun h' hn2 hs2=>?_;obtain ⟨oD,esD,epD,hoD,hdD,hcD⟩:=hn2.count (PySem.Within.cons name v hw);refine wpAny_bind (wpAny_lookBehind hoD (by rw [hdD];exact pastItsLine_dict (Z3 hcD (by rw [Zd];omega))) ?_);exact wpAny_pure (h _ ⟨(hs2.2 _ (Ne.symm I.ne)).trans I.obj,hn2,I.ne⟩ hs2)
theorem zX9 {R:Result→Shared→Prop}{vs:List Value}{kw:List (Str×Value)} (X:K.In s.heap) (hm:PySem.W.makesIn K C=true)
 (hi:PySem.W.findIn K (.ref C) "__init__" = some (some (.ref f))) (hf:PySem.W.typeIn K (.ref f)=some (.type "function"))
 (h:codeAny (model prog w) (A.under (.builtin "type.__call__" ⟨.ref C :: vs,kw⟩)) (.call (.ref f) ⟨.ref (s.heap.objs.size + 1) :: vs,kw⟩) (PySem.W.InitBack (s.heap.objs.size + 1) R)
  { s with heap:=(s.heap.push PySem.W.emptyDict).push (PySem.W.instObj C s.heap.objs.size) }) :
 codeAny (model prog w) A (.call (.ref C) ⟨vs,kw⟩) R s:=by
 obtain ⟨hh,g,d,t,os⟩:=s;exact PySem.W.make_core (PySem.W.makes_of X hm) (PySem.W.looks_findIn X hi) (fun self=>PySem.W.bind_fn X self hf) (.inl rfl) h
end
def putF (f:Str) (v:V):List (Str×V)→List (Str×V)
 | []=>[(f,v)]
 | (g,x) :: r=>if g=f then (g,v) :: r else (g,x) :: putF f v r
theorem zLr (f g:Str) (v:V):∀ fs:List (Str×V),(putF f v fs).lookup g=if g=f then some v else fs.lookup g
 | []=>by
  show List.lookup g [(f,v)]=_;by_cases h:g=f
  ·have hb:(g == f)=true:=beq_iff_eq.mpr h;simp only [List.lookup,hb,if_pos h]
  ·have hb:(g == f)=false:=beq_eq_false_iff_ne.mpr h;simp only [List.lookup,hb,if_neg h]
 | (k,x) :: r=>by
  have ih:=zLr f g v r;rw [show putF f v ((k,x) :: r)=(if k=f then (k,v) :: r else (k,x) :: putF f v r) from rfl];by_cases hk:k=f
  ·rw [if_pos hk];by_cases h:g=k
   ·have hb:(g == k)=true:=beq_iff_eq.mpr h;simp only [List.lookup,hb,if_pos (h.trans hk)]
   ·have hb:(g == k)=false:=beq_eq_false_iff_ne.mpr h;simp only [List.lookup,hb,if_neg (fun e:g=f=>h (e.trans hk.symm))]
  ·rw [if_neg hk];by_cases h:g=k
   ·have hb:(g == k)=true:=beq_iff_eq.mpr h;simp only [List.lookup,hb,if_neg (fun e:g=f=>hk (h.symm.trans e))]
   ·have hb:(g == k)=false:=beq_eq_false_iff_ne.mpr h;simp only [List.lookup,hb];exact ih
theorem zLw (f:Str) (v:V):∀ fs:List (Str×V),f∈(putF f v fs).map (·.1)∧∀ g,g∈fs.map (·.1)→g∈(putF f v fs).map (·.1)
 | []=>⟨by simp [putF],fun g h=>by simp at h⟩
 | (k,x) :: r=>by
  obtain ⟨i1,i2⟩:=zLw f v r;rw [show putF f v ((k,x) :: r)=(if k=f then (k,v) :: r else (k,x) :: putF f v r) from rfl];by_cases hk:k=f
  ·rw [if_pos hk];subst hk;exact ⟨by simp,fun g h=>by simpa using h⟩
  ·rw [if_neg hk];refine ⟨?_,fun g h=>?_⟩
   ·rw [Zi];exact Zb _ i1
   ·rw [Zi] at h ⊢;rcases List.mem_cons.mp h with e | e
    ·exact List.mem_cons.mpr (.inl e)
    ·exact Zb _ (i2 g e)
theorem zLu (f:Str) (v:V):∀ fs:List (Str×V),(putF f v fs).length≤fs.length + 1
 | []=>by simp [putF]
 | (k,x) :: r=>by
  have ih:=zLu f v r;rw [show putF f v ((k,x) :: r)=(if k=f then (k,v) :: r else (k,x) :: putF f v r) from rfl];by_cases hk:k=f
  ·rw [if_pos hk,Zd,Zd];omega
  ·rw [if_neg hk,Zd,Zd];omega
theorem RelO.some_of {v:V}{o:Option Value} (r:RelO (some v) o):∃ u,o=some u∧RelV v u:=by
 cases o with
 | none=>exact (show False from r).elim
 | some u=>exact ⟨u,rfl,r⟩
theorem RelO.none_of {o:Option Value} (r:RelO none o):o=none:=by
 cases o with
 | none=>rfl
 | some u=>exact (show False from r).elim
theorem zV5 {v:V}{u:Value} (r:RelV v u):PySem.W.handedIn u=true:=by
 cases v with
 | non=>cases (show u=Value.none from r);rfl
 | bl b=>cases (show u=Value.bool b from r);rfl
 | int i=>obtain ⟨t,e⟩:=(show ∃ t,u=Value.int i t from r);cases e;rfl
 | str x=>obtain ⟨t,e⟩:=(show ∃ t,u=Value.str x t from r);cases e;rfl
 | byt b=>obtain ⟨t,e⟩:=(show ∃ t,u=Value.bytes b t from r);cases e;rfl
 | flt b=>obtain ⟨t,e⟩:=(show ∃ t,u=Value.float b t from r);cases e;rfl
 | ref a=>cases (show u=Value.ref a from r);rfl
 | ty n=>cases (show u=Value.type n from r);rfl
section
variable {P:Program}{w:World}{H H':Hp}{h h':Heap}{a C dx:Addr}{fs fs':List (Str×V)}
theorem zLy (hok:HOk P w H h) (e:H a=some (.ins C dx fs)):∃ mA,ObjM h a dx C mA∧(∀ f,RelO (fs.lookup f) (mA f))∧PySem.Within mA (fs.map (·.1))∧fs.length≤1000∧H dx=some (.own a):=by
 obtain ⟨d,z,ne,ob,mA,n,r,q⟩:=(show ObjOk P w H h a (.ins C dx fs) from hok a _ e);exact ⟨mA,⟨ob,n,ne⟩,r,q,z,d⟩
end
structure Cls (K:PySem.W.Frag) (C:Addr):Prop where
 pg:PySem.W.plainGet K C Str.empty=true
 hd:PySem.W.hasDictIn K C=true
 po:PySem.W.plainOver K C=true
 sa:PySem.W.findIn K (.ref C) "__setattr__" = some (some (.builtin "object.__setattr__"))
theorem Cls.get {K:PySem.W.Frag}{C:Addr} (c:Cls K C) (f:Str):PySem.W.plainGet K C f=true:=c.pg
def NoAttr (K:PySem.W.Frag) (C:Addr) (f:Str):Prop:=PySem.W.findIn K (.ref C) f=some none
theorem NoAttr.taker {K:PySem.W.Frag}{C:Addr}{f:Str} (n:NoAttr K C f):PySem.W.takerIn K C f=some none:=by
 unfold PySem.W.takerIn;rw [show PySem.W.findIn K (.ref C) f=some none from n];rfl
structure Meth (K:PySem.W.Frag) (C:Addr) (m:Str) (f:Addr):Prop where
 at_:PySem.W.findIn K (.ref C) m=some (some (.ref f))
 fn:PySem.W.isFn K (.ref f)=true
 kp:PySem.W.keepIn K (.ref f)=true
section
variable {X:Cx}{pins:List (Addr×Obj)}{σ : St}{H:Hp}{s:Shared}{a C dx:Addr}{fs:List (Str×V)}{f:Str}{v:V}{A:Around}{E:Value→Shared→Prop}
theorem zT7 {b:Bool}{Q:Value→Shared→Prop} (I:Inv X pins σ H s) (e:H a=some (.ins C dx fs)) (c:Cls X.K C) (n:NoAttr X.K C f) (l:fs.lookup f=some v)
 (h:∀ u s',Inv X pins σ H s'→RelV v u→Q u s'):wpAny (model X.prog X.w) A (getAttr (.ref a) f b) Q E s:=by
 obtain ⟨mA,O,r,_,_,_⟩:=zLy I.hok e;obtain ⟨u,hu,ru⟩:=RelO.some_of (v:=v) (o:=mA f) (by rw [← l];exact r f);exact zV8 I.kIn O (c.get f) c.hd n hu (zV5 ru) (h u _ (I.tok _) ru)
theorem zMz {m:Str}{g:Addr}{pl:Sem Bool}{Q:Value×List Value→Shared→Prop} (I:Inv X pins σ H s) (e:H a=some (.ins C dx fs)) (c:Cls X.K C) (k:Meth X.K C m g) (l:fs.lookup m=none)
 (h:Q (.ref g,[.ref a]) s):wpAny (model X.prog X.w) A (getMethod (.ref a) m pl) Q E s:=by
 obtain ⟨mA,O,r,_,_,_⟩:=zLy I.hok e;have hn:mA m=none:=RelO.none_of (by rw [← l];exact r m);exact zXl I.kIn O (c.get m) k.at_ k.fn hn h
theorem zSv {y:V}{u:Value}{Q:Unit→Shared→Prop} (I:Inv X pins σ H s) (e:H a=some (.ins C dx fs)) (c:Cls X.K C) (n:NoAttr X.K C f) (hl:fs.length < 1000) (ry:RelV y u)
 (h:∀ s',Inv X pins σ (upd H a (.ins C dx (putF f y fs))) s'→Q () s'):wpAny (model X.prog X.w) A (setAttr (.ref a) f u) Q E s:=by
 obtain ⟨mA,O,r,wi,_,ho⟩:=zLy I.hok e;have hz:(fs.map (·.1)).length≤sizeLine:=by rw [Z2,sizeLine_eq];omega
 refine zZv I.kIn O c.sa c.po n.taker c.hd wi hz fun h' O' sb=>h _ ?_;have hd:∃ o,h'.get? dx=some o:=let ⟨o,_,_,e',_⟩:=O'.ns;⟨o,e'⟩;refine I.write (x:=a) (e:=dx) (by rw [e];exact True.intro) (.inr ho) (fun b q hb z=>(sb.2 b hb).trans z) hd ?_;refine ⟨by rw [zAa O.ne];exact ho,?_,O.ne,O'.obj,_,O'.ns,fun g=>?_,fun g hg=>?_⟩
 ·have:=zLu f y fs;omega
 ·show RelO ((putF f y fs).lookup g) (if g=f then some u else mA g);rw [zLr];by_cases q:g=f
  ·rw [if_pos q,if_pos q];exact ry
  ·rw [if_neg q,if_neg q];exact r g
 ·by_cases q:g=f
  ·rw [q];exact (zLw f y fs).1
  ·refine (zLw f y fs).2 g (wi g fun z=>hg ?_);show (if g=f then some u else mA g)=none;rw [if_neg q];exact z
theorem Inv.made (I:Inv X pins σ H s):Inv X pins σ (upd (upd H s.heap.objs.size (.own (s.heap.objs.size + 1))) (s.heap.objs.size + 1) (.ins C s.heap.objs.size []))
 { s with heap:=(s.heap.push PySem.W.emptyDict).push (PySem.W.instObj C s.heap.objs.size) }:=by
 have e1:(s.heap.push PySem.W.emptyDict).get? s.heap.objs.size=some PySem.W.emptyDict:=Z9 s.heap rfl;have e2:((s.heap.push PySem.W.emptyDict).push (PySem.W.instObj C s.heap.objs.size)).get? (s.heap.objs.size + 1)=some (PySem.W.instObj C s.heap.objs.size):=by
  have:=Z9 (s.heap.push PySem.W.emptyDict) (o:=PySem.W.instObj C s.heap.objs.size) rfl
  rwa [Zz] at this
 have e3:(s.heap.push PySem.W.emptyDict).Ns s.heap.objs.size (fun _=>none):=⟨PySem.W.emptyDict,#[],_,e1,rfl,(fun e he=>absurd he (by simp)),fun _=>rfl⟩;have I1:=I.laid (a:=s.heap.objs.size) (o:=.own (s.heap.objs.size + 1)) (h':=s.heap.push PySem.W.emptyDict) (t':=s.toks) (fun b u q=>Z0 _ q) (Z1 _) ⟨_,e1⟩;refine I1.laid (a:=s.heap.objs.size + 1) (o:=.ins C s.heap.objs.size []) (t':=s.toks) (fun b u q=>Z0 _ q) (Nat.le_of_eq (Zz _ _)) ?_;have ne:s.heap.objs.size≠s.heap.objs.size + 1:=Za (Zp _);refine ⟨by rw [zAa ne,zAc],Y4 _,ne,e2,fun _=>none,(Heap.Ns1.of_empty e3).at fun o q=>Z0 _ q,fun _=>True.intro,fun y hy=>absurd rfl hy⟩
theorem zVy {prog:Program}{w:World}{env:Env}{e:Expr}{f:Str}{pos:Pos}{s:Shared}{Q:Value→Shared→Prop} (hb:attributeBase e f env (eval e env)=eval e env)
 (h:wpAny (model prog w) A (eval e env) (fun o s₁=>wpAny (model prog w) A (getAttr o f true) Q E s₁) E s):wpAny (model prog w) A (eval (.Attribute e f pos) env) Q E s :=
 Attribute_any_ h (by rw [arm_eval_Attribute,hb])
end
def tFld (K:PySem.W.Frag) (ta:TE) (f:Str):TE:=fun σ H Q=>ta σ H fun x H1=>∃ a C dx fs v,x=.ref a∧H1 a=some (.ins C dx fs)∧Cls K C∧NoAttr K C f∧fs.lookup f=some v∧Q v H1
def sFld (K:PySem.W.Frag) (ta tv:TE) (f:Str):TS:=fun D σ H=>tv σ H fun y H1=>ta σ H1 fun x H2=>∃ a C dx fs,x=.ref a∧H2 a=some (.ins C dx fs)∧Cls K C∧NoAttr K C f∧fs.length < 1000 ∧
 D.nx σ (upd H2 a (.ins C dx (putF f y fs)))
section
variable {X:Cx}{o e value:Expr}{f:Str}{pos pos' tpos:Pos}{ta tv:TE}
theorem yDo (he:PE X e ta) (hb:attributeBase e f X.env (eval e X.env)=eval e X.env):PE X (.Attribute e f pos) (tFld X.K ta f):=by
 intro pins s σ H Q I h;refine zVy hb (thn (he pins s σ H _ I h) fun u s1 ⟨x,H1,I1,rx,a,C,dx,fs,v,ex,ea,c,n,l,q⟩=>?_);subst ex;obtain rfl:u=Value.ref a:=rx;exact zT7 I1 ea c n l fun u' s2 I2 ru=>⟨v,H1,I2,ru,q⟩
theorem yD7 (ha:PE X o ta) (hv:PE X value tv) (hs:swapsWith value (some (.Attribute o f pos')) pos.line X.env=pure false):PS X (.Assign [.Attribute o f pos'] value pos) (sFld X.K ta tv f):=by
 intro pins s σ H D I h;refine plainObj_wpAny_Assign_Attribute (thn (hv pins s σ H _ I h) fun u s1 ⟨y,H1,I1,ry,q⟩=>thn (ha pins s1 σ H1 _ I1 q) fun ov s2 ⟨x,H2,I2,rx,a,C,dx,fs,ex,ea,c,n,l,q2⟩=>?_) hs;subst ex;obtain rfl:ov=Value.ref a:=rx;exact zSv I2 ea c n l ry fun s3 I3=>⟨σ,_,I3,q2⟩
end
section
variable {X:Cx}{pins:List (Addr×Obj)}{σ : St}{H:Hp}{s:Shared}{A:Around}{E:Value→Shared→Prop}{Q:Value→Shared→Prop}{c:Value}{b:Bool}
inductive TyOf (K:PySem.W.Frag) (H:Hp):V→Value→Prop where
 | non:TyOf K H .non (.type "NoneType")
 | bl (x:Bool):TyOf K H (.bl x) (.type "bool")
 | int (i:Int):TyOf K H (.int i) (.type "int")
 | str (x:Str):TyOf K H (.str x) (.type "str")
 | flt (x:UInt64):TyOf K H (.flt x) (.type "float")
 | lst {a:Addr}{xs:List V} (e:H a=some (.lst xs)):TyOf K H (.ref a) (.type "list")
 | frz {a:Addr}{o:Obj}{xs:List V} (e:H a=some (.frz o (.lst xs))):TyOf K H (.ref a) (.type "list")
 | tup {a:Addr}{xs:List V} (e:H a=some (.tup xs)):TyOf K H (.ref a) (.type "tuple")
 | dK {a:Addr}{kvs:List (Key×V)} (e:H a=some (.dK kvs)):TyOf K H (.ref a) (.type "dict")
 | dT {a:Addr}{kvs:List (List Key×V)} (e:H a=some (.dT kvs)):TyOf K H (.ref a) (.type "dict")
 | ins {a C dx:Addr}{fs:List (Str×V)} (e:H a=some (.ins C dx fs)) (cl:Cls K C) (ha:PySem.W.findIn K (.ref C) "__class__" = some (some (.builtin "object.__class__")))
  (hn:PySem.W.specialIn K (.builtin "object.__class__") "__get__" = some (some (.builtin "getset_descriptor.__get__"))) (htk:PySem.W.takesIn K (.builtin "object.__class__")=some true)
  (hm:PySem.W.mroIn K C (.type "object")=some true):TyOf K H (.ref a) (.ref C)
theorem zUx {x:V}{u t:Value} (I:Inv X pins σ H s) (rx:RelV x u) (ty:TyOf X.K H x t) (e:PySem.W.kitOne X.K t c=some b) (h:∀ tk,Q (.bool b) { s with toks:=tk }) :
 wpAny (model X.prog X.w) A (call (.builtin "isinstance") [u,c]) Q E s:=by
 cases ty with
 | non=>cases (show u=Value.none from rx);exact PySem.W.kia_one PySem.W.kitx_none I.kIn True.intro e (fun z=>nomatch z) h
 | bl y=>cases (show u=Value.bool y from rx);exact PySem.W.kia_one PySem.W.kitx_bool I.kIn True.intro e (fun z=>nomatch z) h
 | int i=>obtain ⟨t,q⟩:=(show ∃ t,u=Value.int i t from rx);cases q;exact PySem.W.kia_one PySem.W.kitx_int I.kIn True.intro e (fun z=>nomatch z) h
 | str y=>obtain ⟨t,q⟩:=(show ∃ t,u=Value.str y t from rx);cases q;exact PySem.W.kia_one PySem.W.kitx_str I.kIn True.intro e (fun z=>nomatch z) h
 | flt y=>obtain ⟨t,q⟩:=(show ∃ t,u=Value.float y t from rx);cases q;exact PySem.W.kia_one PySem.W.kitx_float I.kIn True.intro e (fun z=>nomatch z) h
 | @lst a xs ea =>
  cases (show u=Value.ref a from rx);obtain ⟨_,_,n,_,h1⟩:=(show ObjOk X.prog X.w H s.heap a (.lst xs) from I.hok a _ ea);exact PySem.W.kia_one PySem.W.kitx_list I.kIn ⟨_,h1,rfl⟩ e (fun z=>nomatch z) h
 | @frz a ob xs ea =>
  cases (show u=Value.ref a from rx);obtain ⟨_,_,_,n,_,h1⟩:=(show ObjOk X.prog X.w H s.heap a (.frz ob (.lst xs)) from I.hok a _ ea);exact PySem.W.kia_one PySem.W.kitx_list I.kIn ⟨_,h1,rfl⟩ e (fun z=>nomatch z) h
 | @tup a xs ea =>
  cases (show u=Value.ref a from rx);obtain ⟨_,_,_,p⟩:=(show ObjOk X.prog X.w H s.heap a (.tup xs) from I.hok a _ ea);obtain ⟨o,h1,h2,_⟩:=p;exact PySem.W.kia_one PySem.W.kitx_tuple I.kIn ⟨o,h1,h2⟩ e (fun z=>nomatch z) h
 | @dK a kvs ea =>
  cases (show u=Value.ref a from rx);obtain ⟨_,_,vs,_,p⟩:=(show ObjOk X.prog X.w H s.heap a (.dK kvs) from I.hok a _ ea);obtain ⟨o,es,ep,h1,h2,_⟩:=p;exact PySem.W.kia_one PySem.W.kitx_dict I.kIn ⟨o,h1,h2.1⟩ e (fun z=>nomatch z) h
 | @dT a kvs ea =>
  cases (show u=Value.ref a from rx);obtain ⟨_,_,xs,_,o,es,ep,h1,h2,_⟩:=(show ObjOk X.prog X.w H s.heap a (.dT kvs) from I.hok a _ ea);exact PySem.W.kia_one PySem.W.kitx_dict I.kIn ⟨o,h1,h2.1⟩ e (fun z=>nomatch z) h
 | @ins a C dx fs ea cl ha hn htk hm =>
  cases (show u=Value.ref a from rx);obtain ⟨mA,O,_⟩:=zLy I.hok ea;obtain ⟨od,J,_⟩:=O.look;exact PySem.W.kia_one (PySem.W.kitx_own (cl.get _) cl.hd ha hn htk hm) I.kIn J e (fun z=>nomatch z) h
end
end L2
namespace L2
open PySem PySem.Spec PyProof.Rows
structure RoomQ (q:Bool) (k:Nat) (A:Around):Prop where
 hd:q=true→A.handled=none
 dp:A.depth + 3 * k + 5 < recursionLimit
 un:A.units + 16 * k + 200 < cLine
abbrev Room:=RoomQ true
theorem RoomQ.mono {q:Bool}{j k:Nat}{A:Around} (r:RoomQ q k A) (h:j≤k):RoomQ q j A:=⟨r.hd,by have:=r.dp;omega,by have:=r.un;omega⟩
theorem RoomQ.deeper {q:Bool}{k:Nat}{A:Around} (r:RoomQ q (k + 1) A) (env:Env):RoomQ q k (A.deeper env) :=
 ⟨r.hd,by have:=r.dp;show A.depth + 1 + 3 * k + 5 < _;omega,by have:=r.un;show A.units + 3 + 16 * k + 200 < _;omega⟩
theorem RoomQ.in1 {q:Bool}{k:Nat}{A:Around} (r:RoomQ q (k + 1) A):RoomQ q k A.in1 :=
 ⟨r.hd,by have:=r.dp;show A.depth + 3 * k + 5 < _;omega,by have:=r.un;show A.units + 1 + 16 * k + 200 < _;omega⟩
theorem zT4 {A:Around}{C:Addr}{us:List Value}{kw:List (Str×Value)}:(A.under (.builtin "type.__call__" ⟨.ref C :: us,kw⟩)).depth=A.depth + 1:=by
 first | rfl | simp [Around.under,Code.weight,Code.isCreation,Code.isGuard,Code.isCaller,Code.frames,Code.isFrame,guardIds]
theorem zT3 {A:Around}{C:Addr}{us:List Value}{kw:List (Str×Value)}:(A.under (.builtin "type.__call__" ⟨.ref C :: us,kw⟩)).units=A.units + 1:=by
 first | rfl | simp [Around.under,Code.cUnits,Code.frames,Code.isFrame]
theorem RoomQ.make {q:Bool}{k:Nat}{A:Around} (r:RoomQ q (k + 1) A) (C:Addr) (us:List Value) (kw:List (Str×Value)):RoomQ q k (A.under (.builtin "type.__call__" ⟨.ref C :: us,kw⟩)) :=
 ⟨r.hd,by have:=r.dp;rw [zT4];omega,by have:=r.un;rw [zT3];omega⟩
theorem RoomQ.depth {q:Bool}{k:Nat}{A:Around} (r:RoomQ q k A):A.depth < recursionLimit:=by have:=r.dp;omega
theorem RoomQ.units {q:Bool}{k:Nat}{A:Around} (r:RoomQ q k A):A.units + 64 < cLine:=by have:=r.un;omega
def tNil:TA:=fun _ H Q=>Q [] H
def tCons (ta:TE) (tr:TA):TA:=fun σ H Q=>ta σ H fun x H1=>tr σ H1 fun xs H2=>Q (x :: xs) H2
section
variable {X:Cx}{e:Expr}{es:List Expr}{te:TE}{t:TA}{pos:Pos}
theorem zMu:PA X [] tNil:=fun _ _ _ _ H Q I h=>Calls.spliced_nil ⟨[],H,I,.nil,h⟩
theorem zGd (ha:PE X e te) (hr:PA X es t) (hs:starEach (e :: es) X.env=(false,eval e X.env) :: starEach es X.env:=by rfl):PA X (e :: es) (tCons te t):=by
 intro pos pins s σ H Q I h;rw [hs];show wpAny _ _ (spliced ((false,eval e X.env) :: backTo pos (starEach es X.env))) _ _ s;refine Calls.spliced_cons (thn (ha pins s σ H _ I h) fun u s1 ⟨x,H1,I1,r1,q1⟩=>?_);exact thn (hr pos pins s1 σ H1 _ I1 q1) fun us s2 ⟨xs,H2,I2,r2,q2⟩=>⟨x :: xs,H2,I2,.cons r1 r2,q2⟩
def tTup (t:TA):TE:=fun σ H Q=>t σ H fun xs H1=>xs.length≤sizeLine∧∀ p,H1 p=none→Q (.ref p) (upd H1 p (.tup xs))
def tLst (t:TA):TE:=fun σ H Q=>t σ H fun xs H1=>xs.length≤sizeLine∧∀ p,H1 p=none→Q (.ref p) (upd H1 p (.lst xs))
theorem yDj {x1} (h:PA X es t):PE X (.Tuple es x1 pos) (tTup t):=by
 intro pins s σ H Q I hq;refine wpAny_Tuple_spliced (thn (h pos pins s σ H _ I hq) fun us s1 ⟨xs,H1,I1,r,z,q⟩=>⟨by rw [← r.length];exact z,?_⟩);have hf:H1 s1.heap.objs.size=none:=I1.hok.fresh (Z1 _);refine ⟨.ref s1.heap.objs.size,upd H1 s1.heap.objs.size (.tup xs),I1.laid (t':=s1.toks) (fun b u e=>Z0 _ e) (Z1 _) ?_,rfl,q _ hf⟩;exact ⟨z,us,r,⟨_,Z9 _ rfl,rfl,_,rfl⟩⟩
theorem zYm (h:PA X es t):PE X (.List es pos) (tLst t):=by
 intro pins s σ H Q I hq;refine wpAny_List_spliced (thn (h pos pins s σ H _ I hq) fun us s1 ⟨xs,H1,I1,r,z,q⟩=>⟨by rw [← r.length];exact z,?_⟩);have hf:H1 s1.heap.objs.size=none:=I1.hok.fresh (Z1 _);refine ⟨.ref s1.heap.objs.size,upd H1 s1.heap.objs.size (.lst xs),I1.laid (t':=s1.toks) (fun b u e=>Z0 _ e) (Z1 _) ?_,rfl,q _ hf⟩;exact ⟨z,us,0,r,Z9 _ rfl⟩
end
abbrev Sp:=List V→Hp→VK→XK→Prop
abbrev CXT:=List Env→Hp→Shared→XK→Value→Shared→Prop
structure Env0 (P:Program) (w:World) (K:PySem.W.Frag) (mg:Str→Option Value) (base:Heap) (A:Around) (outer:List Env) (s:Shared) (H:Hp):Prop where
 frames:A.frames=some outer
 mod:Mod K mg base
 bs:∀ b o,base.get? b=some o→s.heap.get? b=some o∧H b=none
 bsz:base.objs.size≤s.heap.objs.size
 funs:s.heap.FunFrames base outer
 frf:∀ b∈frs outer,H b=none
 hok:HOk P w H s.heap
 bare:AllBare s.gens
def CE (outer:List Env) (P:Program) (w:World) (H:Hp) (s:Shared) (Q:VK) (u:Value) (s':Shared):Prop :=
 ∃ v H',s'.os=s.os∧AllBare s'.gens∧Un (frs outer) [] H H' s.heap s'.heap∧HOk P w H' s'.heap∧RelV v u∧Q v H'
def CR (CX:CXT) (outer:List Env) (P:Program) (w:World) (H:Hp) (s:Shared) (Q:VK) (E:XK) (r:Result) (s':Shared):Prop :=
 match r with
 | .ok (.ret u)=>CE outer P w H s Q u s'
 | .ok _=>False
 | .error e=>CX outer H s E e s'
structure FnOkQ (q:Bool) (P:Program) (w:World) (K:PySem.W.Frag) (mg:Str→Option Value) (base:Heap) (CX:CXT) (k:Nat) (f:Addr) (fd:FuncData) (ps:List Str) (sp:Sp):Prop where
 len:∀ vs H Q E,sp vs H Q E→vs.length=ps.length
 run:∀ (A:Around) (outer:List Env) (s:Shared) (H:Hp) (args:Args) (us:List Value) (vs:List V) (Q:VK) (E:XK),RoomQ q k A→Env0 P w K mg base A outer s H→BindsTo s fd args (ps.zip us)→Vals vs us→sp vs H Q E →
  codeAny (model P w) A (.call (.ref f) args) (CR CX outer P w H s Q E) s
abbrev FnOk:=FnOkQ true
theorem FnOk.mono {P:Program}{w:World}{K:PySem.W.Frag}{mg:Str→Option Value}{base:Heap}{CX:CXT}{j k:Nat}{f:Addr}{fd:FuncData}{ps:List Str}{sp:Sp} (F:FnOk P w K mg base CX j f fd ps sp) (h:j≤k) :
 FnOk P w K mg base CX k f fd ps sp:=⟨F.len,fun A outer s H args us vs Q E hr=>F.run A outer s H args us vs Q E (hr.mono h)⟩
theorem FnOk.imp {P:Program}{w:World}{K:PySem.W.Frag}{mg:Str→Option Value}{base:Heap}{CX:CXT}{k:Nat}{f:Addr}{fd:FuncData}{ps:List Str}{sp sp':Sp} (F:FnOk P w K mg base CX k f fd ps sp)
 (h:∀ vs H Q E,sp' vs H Q E→sp vs H Q E):FnOk P w K mg base CX k f fd ps sp' :=
 ⟨fun vs H Q E q=>F.len vs H Q E (h _ _ _ _ q),fun A outer s H args us vs Q E hr he hb hv hs=>F.run A outer s H args us vs Q E hr he hb hv (h _ _ _ _ hs)⟩
theorem Env0.make {P:Program}{w:World}{K:PySem.W.Frag}{mg:Str→Option Value}{base:Heap}{A:Around}{outer:List Env}{s:Shared}{H:Hp} (e:Env0 P w K mg base A outer s H) (C:Addr) (us:List Value) (kw:List (Str×Value)) :
 Env0 P w K mg base (A.under (.builtin "type.__call__" ⟨.ref C :: us,kw⟩)) outer s H:=⟨by first | exact e.frames | (simpa [Around.under,Code.envs,Code.isFrame,pushEnvs] using e.frames),e.mod,e.bs,e.bsz,e.funs,e.frf,e.hok,e.bare⟩
section
variable {X:Cx}{pins:List (Addr×Obj)}{σ : St}{H:Hp}{s s':Shared}
theorem Inv.env0 (I:Inv X pins σ H s):Env0 X.prog X.w X.K X.mg X.base X.A X.stack s H :=
 ⟨I.ok.frames,I.ok.mod,I.bs,Z3 I.ok.bsz I.sz,I.stack,I.stkFree,I.hok,I.bare⟩
theorem Inv.after {Q:VK}{u:Value} (I:Inv X pins σ H s) (h:CE X.stack X.prog X.w H s Q u s'):EP X pins σ Q u s':=by
 obtain ⟨v,H',os,bare,un,hok,r,q⟩:=h;obtain ⟨hh,g,d,t,os'⟩:=s';obtain rfl:os'=s.os:=os;exact ⟨v,H',I.call (h':=hh) (g':=g) (d':=d) (t':=t) (ch:=[]) un hok bare (fun b z=>absurd z (by simp)),r,q⟩
end
def tCall (sp:Sp) (dvs:List V) (E:St→XK) (t:TA):TE:=fun σ H Q=>t σ H fun vs H1=>sp (vs++dvs) H1 Q (E σ)
def tMake (C:Addr) (sp:Sp) (dvs:List V) (E:St→XK) (t:TA):TE:=fun σ H Q=>t σ H fun vs H1=>∀ x dx,H1 x=none→H1 dx=none→dx≠x →
 sp (.ref x :: (vs++dvs)) (upd (upd H1 dx (.own x)) x (.ins C dx [])) (fun v H2=>v=.non∧Q (.ref x) H2) (E σ)
def Binds (K:PySem.W.Frag) (fd:FuncData) (ps:List Str) (ds:List Value):Prop :=
 ∀ (s:Shared) (us:List Value),K.In s.heap→(us++ds).length=ps.length→BindsTo s fd ⟨us,[]⟩ (ps.zip (us++ds))
theorem Binds.all {K:PySem.W.Frag}{fd:FuncData}{ps:List Str} (h:∀ us:List Value,us.length=ps.length→bindArgs fd ⟨us,[]⟩=pure (ps.zip us)):Binds K fd ps []:=fun s us _ hl=>by
 rw [List.append_nil] at hl ⊢;exact .of_eq (h us hl)
def Passes (CX:CXT) (X:Cx) (E:St→XK):Prop:=∀ (pins:List (Addr×Obj)) (σ : St) (H:Hp) (s:Shared) (e:Value) (s':Shared),Inv X pins σ H s→CX X.stack H s (E σ) e s'→X.xe e s'
section
variable {X:Cx}{CX:CXT}{k:Nat}{f C:Addr}{fd:FuncData}{ps:List Str}{sp:Sp}{dvs:List V}{ds:List Value}{E:St→XK}{x m:Str}{p pos apos:Pos}{e o:Expr}{es:List Expr}{ta:TE}{t:TA}
theorem zRl {pins:List (Addr×Obj)}{σ : St}{H:Hp}{s:Shared}{Q:VK}{us:List Value}{vs:List V}{q:Bool} (F:FnOkQ q X.prog X.w X.K X.mg X.base CX k f fd ps sp) (hr:RoomQ q k X.A) (hb:Binds X.K fd ps ds) (hd:Vals dvs ds) (hx:Passes CX X E)
 (I:Inv X pins σ H s) (r:Vals vs us) (h:sp (vs++dvs) H Q (E σ)):wpAny (model X.prog X.w) X.A (call (.ref f) us) (EP X pins σ Q) X.xe s:=by
 have r2:Vals (vs++dvs) (us++ds):=r.append hd;have hl:(us++ds).length=ps.length:=by rw [← r2.length];exact F.len _ _ _ _ h
 refine wpAny_call (codeAny_mono (F.run X.A X.stack s H ⟨us,[]⟩ (us++ds) (vs++dvs) Q (E σ) hr I.env0 (hb s us I.kIn hl) r2 h) fun r s' hq=>?_);cases r with
 | error e=>exact hx pins σ H s e s' I hq
 | ok fl =>
  cases fl with
  | ret u=>exact I.after hq
  | next=>exact False.elim hq
  | brk=>exact False.elim hq
  | cont=>exact False.elim hq
theorem yAc {q:Bool} (F:FnOkQ q X.prog X.w X.K X.mg X.base CX k f fd ps sp) (hr:RoomQ q k X.A) (hg:Gl X x) (hm:X.mg x=some (.ref f)) (hk:PySem.W.keepIn X.K (.ref f)=true) (hb:Binds X.K fd ps ds) (hd:Vals dvs ds) (hx:Passes CX X E)
 (ha:PA X (e :: es) t) (hdb:(x == ("__debug__" : Str))=false:=by decide) (he:starEach (e :: es) X.env=(false,eval e X.env) :: starEach es X.env:=by rfl) (hpl:(backTo pos (starEach es X.env)).any (·.1)=false:=by rfl) :
 PE X (.Call (.Name x p) (e :: es) [] pos) (tCall sp dvs E t):=by
 intro pins s σ H Q I h;refine wpAny_Call_Name_kw (zLv I hg hm ?_ hdb);refine PySem.W.callWith_K (h₀:=X.base) I.ok.mod.kin hk (thn (ha pos pins s σ H _ I h) fun us s1 ⟨vs,H1,I1,r,q⟩=>⟨I1.kIn,?_⟩) he hpl;exact zRl F hr hb hd hx I1 r q
structure Mk (K:PySem.W.Frag) (C f:Addr):Prop where
 makes:PySem.W.makesIn K C=true
 init:PySem.W.findIn K (.ref C) "__init__" = some (some (.ref f))
 fn:PySem.W.isFn K (.ref f)=true
 kp:PySem.W.keepIn K (.ref C)=true
theorem zW7 {pins:List (Addr×Obj)}{σ : St}{H:Hp}{s:Shared}{Q:VK}{us:List Value}{vs:List V} (M:Mk X.K C f) (F:FnOk X.prog X.w X.K X.mg X.base CX k f fd ps sp) (hr:Room (k + 1) X.A) (hb:Binds X.K fd ps ds) (hd:Vals dvs ds)
 (hx:Passes CX X E) (I:Inv X pins σ H s) (r:Vals vs us)
 (h:∀ x dx,H x=none→H dx=none→dx≠x→sp (.ref x :: (vs++dvs)) (upd (upd H dx (.own x)) x (.ins C dx [])) (fun v H2=>v=.non∧Q (.ref x) H2) (E σ)) :
 wpAny (model X.prog X.w) X.A (call (.ref C) us) (EP X pins σ Q) X.xe s:=by
 have hq:=h (s.heap.objs.size + 1) s.heap.objs.size (I.hok.fresh (Yf _)) (I.hok.fresh (Z1 _)) (Za (Zp _));have I2:=Inv.made (C:=C) I;have r2:Vals (V.ref (s.heap.objs.size + 1) :: (vs++dvs)) (Value.ref (s.heap.objs.size + 1) :: (us++ds)):=.cons rfl (r.append hd);have hl:(Value.ref (s.heap.objs.size + 1) :: us++ds).length=ps.length:=by
  have e:=r2.length;rw [F.len _ _ _ _ hq] at e;exact e.symm
 refine wpAny_call (zX9 (f:=f) I.kIn M.makes M.init (beq_iff_eq.mp M.fn) (codeAny_mono (F.run _ X.stack _ _ ⟨Value.ref (s.heap.objs.size + 1) :: us,[]⟩ (Value.ref (s.heap.objs.size + 1) :: (us++ds)) _ _ (E σ) (hr.make C us [])
  (I2.env0.make C us []) (hb _ (Value.ref (s.heap.objs.size + 1) :: us) I2.kIn hl) r2 hq) fun r s' hq'=>?_))
 cases r with
 | error e=>exact hx pins σ _ _ e s' I2 hq'
 | ok fl =>
  cases fl with
  | ret u =>
   obtain ⟨v,H',I3,rv,ev,q3⟩:=I2.after hq';subst ev;exact ⟨rv,⟨V.ref (s.heap.objs.size + 1),H',I3,rfl,q3⟩⟩
  | next=>exact False.elim hq'
  | brk=>exact False.elim hq'
  | cont=>exact False.elim hq'
theorem zU3 (M:Mk X.K C f) (F:FnOk X.prog X.w X.K X.mg X.base CX k f fd ps sp) (hr:Room (k + 1) X.A) (hg:Gl X x) (hm:X.mg x=some (.ref C)) (hb:Binds X.K fd ps ds) (hd:Vals dvs ds) (hx:Passes CX X E)
 (ha:PA X (e :: es) t) (hdb:(x == ("__debug__" : Str))=false:=by decide) (he:starEach (e :: es) X.env=(false,eval e X.env) :: starEach es X.env:=by rfl) (hpl:(backTo pos (starEach es X.env)).any (·.1)=false:=by rfl) :
 PE X (.Call (.Name x p) (e :: es) [] pos) (tMake C sp dvs E t):=by
 intro pins s σ H Q I h;refine wpAny_Call_Name_kw (zLv I hg hm ?_ hdb);refine PySem.W.callWith_K (h₀:=X.base) I.ok.mod.kin M.kp (thn (ha pos pins s σ H _ I h) fun us s1 ⟨vs,H1,I1,r,q⟩=>⟨I1.kIn,?_⟩) he hpl;exact zW7 M F hr hb hd hx I1 r q
end
section
variable {X:Cx}{CX:CXT}{k:Nat}{f C:Addr}{fd:FuncData}{ps ks:List Str}{sp:Sp}{E:St→XK}{x m:Str}{p pos apos kpos:Pos}{e o:Expr}{es:List Expr}{kws:List Keyword}{te ta:TE}{t tk:TA}{nm:Option Str}
variable {g:List Value→List Value→List Value}{gV:List V→List V→List V}
end
structure FnScope (N P:List Str) (sc:Scope):Prop where
 kind:sc.kind=.function
 co:sc.isCoroutine=false
 gen:sc.isGenerator=false
 nd:N.Nodup
 pre:N.take P.length=P
 par:∀ x∈P,sc.names.lookup x=some .local∨sc.names.lookup x=some .cell
 nofree:∀ y∈sc.names,y.2≠.free
theorem zPw {kindOf:Str→Option NameKind}{x:Str}:∀ {binds:List (Str×Value)}{m:Str→Option Value},(∀ v,(x,v)∉binds)→bindL kindOf binds m x=m x
 | [],_,_=>rfl
 | (n,v) :: r,m,h=>by
  unfold bindL;rw [zPw fun w hw=>h w (Zb _ hw)];split
  ·have:x≠n:=by rintro rfl;exact h v Zj
   simp [this]
  ·rfl
theorem zPy {kindOf:Str→Option NameKind}{x:Str}:∀ {binds:List (Str×Value)}{m:Str→Option Value},(∀ v,(x,v)∉binds)→bindC kindOf binds m x=m x
 | [],_,_=>rfl
 | (n,v) :: r,m,h=>by
  unfold bindC;rw [zPy fun w hw=>h w (Zb _ hw)];split
  ·rfl
  ·have:x≠n:=by rintro rfl;exact h v Zj
   simp [this]
theorem zPx {kindOf:Str→Option NameKind}{x:Str}{v:Value}:∀ {P:List Str}{vs:List Value}{i:Nat}{m:Str→Option Value},P.Nodup→P[i]? = some x→vs[i]? = some v→kindOf x=some .local →
 bindL kindOf (P.zip vs) m x=some v
 | [],_,_,_,_,h,_,_=>by simp at h
 | _ :: _,[],_,_,_,_,h,_=>by simp at h
 | p :: P,w :: vs,0,m,nd,h1,h2,hk=>by
  simp at h1 h2;subst h1;subst h2;show bindL kindOf ((p,w) :: P.zip vs) m p=_;unfold bindL;rw [zPw fun v hv=>(List.nodup_cons.mp nd).1 (List.of_mem_zip hv).1,if_pos hk];simp
 | p :: P,w :: vs,i + 1,m,nd,h1,h2,hk=>by
  show bindL kindOf ((p,w) :: P.zip vs) m x=_;unfold bindL;exact zPx (i:=i) (List.nodup_cons.mp nd).2 (by simpa using h1) (by simpa using h2) hk
theorem zPz {kindOf:Str→Option NameKind}{x:Str}{v:Value}:∀ {P:List Str}{vs:List Value}{i:Nat}{m:Str→Option Value},P.Nodup→P[i]? = some x→vs[i]? = some v→kindOf x≠some .local →
 bindC kindOf (P.zip vs) m x=some v
 | [],_,_,_,_,h,_,_=>by simp at h
 | _ :: _,[],_,_,_,_,h,_=>by simp at h
 | p :: P,w :: vs,0,m,nd,h1,h2,hk=>by
  simp at h1 h2;subst h1;subst h2;show bindC kindOf ((p,w) :: P.zip vs) m p=_;unfold bindC;rw [zPy fun v hv=>(List.nodup_cons.mp nd).1 (List.of_mem_zip hv).1,if_neg hk];simp
 | p :: P,w :: vs,i + 1,m,nd,h1,h2,hk=>by
  show bindC kindOf ((p,w) :: P.zip vs) m x=_;unfold bindC;exact zPz (i:=i) (List.nodup_cons.mp nd).2 (by simpa using h1) (by simpa using h2) hk
def start (N:List Str) (vs:List V):St:=vs.map some++List.replicate (N.length - vs.length) none
def cxOfC (q:Bool) (CX:CXT) (P:Program) (w:World) (K:PySem.W.Frag) (mg:Str→Option Value) (base:Heap) (N:List Str) (qual:Str) (scope:Scope) (f:Addr) (cd:Value) (A:Around) (outer:List Env) (s:Shared) (H:Hp) (E:XK):Cx where
 prog:=P
 w:=w
 K:=K
 mg:=mg
 base:=base
 A:=A.deeper (envOfC qual scope s.heap.objs.size f cd)
 N:=N
 s₀:=s
 H₀:=H
 env:=envOfC qual scope s.heap.objs.size f cd
 outer:=outer
 stack:=envOfC qual scope s.heap.objs.size f cd :: outer
 ex:=[]
 calm:=q
 fn:=fun _=>true
 pn:=[]
 xe:=fun e s'=>wpAny (model P w) (A.deeper (envOfC qual scope s.heap.objs.size f cd)) (leaving (envOfC qual scope s.heap.objs.size f cd) e) (fun _ s''=>CX outer H s E e s'') (fun e' s''=>CX outer H s E e' s'') s'
abbrev cxOf:=cxOfC true
theorem zSm {sc:Scope}{n:Nat}{x:Str} (h:sc.names.lookup x=some .cell):∃ c,(cellsFrom n sc.names []).lookup x=some c:=by
 have q:=PySem.W.cellsFrom_some sc.names n [] (.inl h);exact Option.isSome_iff_exists.mp q
theorem zV1 {q:Bool}{CX:CXT}{P:Program}{w:World}{K:PySem.W.Frag}{mg:Str→Option Value}{base:Heap}{N ps:List Str}{qual:Str}{scope:Scope}{f:Addr}{cd:Value}{A:Around}{outer:List Env}{s s1:Shared}{H:Hp}{E:XK}{us:List Value}{vs:List V}
 (S:FnScope N ps scope) (hd:q=true→A.handled=none) (e0:Env0 P w K mg base A outer s H) (hl:vs.length=ps.length) (r:Vals vs us)
 (x:InCallC s s.heap.objs.size (bindL (envOfC qual scope s.heap.objs.size f cd).kindOf (ps.zip us) fun _=>none) (cellsFrom (s.heap.objs.size + 1) scope.names []) (bindC (envOfC qual scope s.heap.objs.size f cd).kindOf (ps.zip us) fun _=>none) s1) :
 Inv (cxOfC q CX P w K mg base N qual scope f cd A outer s H E) [] (start N vs) H s1:=by
 have hpl:ps.length≤N.length:=by have:=congrArg List.length S.pre;rw [Zx] at this;omega
 obtain ⟨h1,tk,rfl,hk⟩:=x.done;have noA:∀ b:Addr,b∉(cxOfC q CX P w K mg base N qual scope f cd A outer s H E).ex:=fun b z=>absurd (show b∈([]:List Addr) from z) (by simp)
 refine ⟨⟨e0.mod,S.kind,rfl,rfl,Z1 _,fun y z c h1 h2=>?_,fun y hy=>?_,fun y c _ h=>?_,hd,Around.frames_deeper e0.frames,.inr ⟨rfl,rfl⟩,fun b z=>absurd z (noA b),e0.bs,e0.bsz,fun b _ _=>noA b,fun b z=>absurd z (noA b),e0.funs,e0.frf⟩,
  rfl,e0.bare,Un.kept hk,⟨_,x.toInCall.ns,fun i y v h1 h2 h3=>?_⟩,fun y c h=>⟨_,x.cell y c h⟩,e0.hok.fresh (Z1 _),fun y c h=>?_,fun p hp=>absurd (show p∈([]:List (Addr×Obj)) from hp) (by simp),e0.hok.kept hk,?_⟩
 ·exact name_of_addr x.apart (PySem.mem_of_lookup h1) (PySem.mem_of_lookup h2)
 ·have hy:scope.names.lookup y=some .cell∨scope.names.lookup y=some .free:=hy;rcases hy with hy | hy
  ·exact zSm hy
  ·exact absurd rfl (S.nofree _ (PySem.mem_of_lookup hy))
 ·exact Zs (x.above y c (PySem.mem_of_lookup h))
 ·have hi:i < vs.length:=by
   unfold start at h2;by_cases hi:i < vs.length
   ·exact hi
   ·rw [Zg (by simpa using hi)] at h2;rw [List.getElem?_replicate] at h2;split at h2 <;> cases h2
  have ha:vs[i]? = some v:=by
   unfold start at h2;rw [Ze (by simpa using hi),Zo] at h2;cases e:vs[i]? with
   | none=>rw [e] at h2;cases h2
   | some a=>rw [e] at h2;cases h2;rfl
  obtain ⟨u,hu,rv⟩:=r.get ha;have hp:ps[i]? = some y:=by
   rw [← S.pre,Y6 (by omega)];exact h1
  have ndP:ps.Nodup:=by rw [← S.pre];exact S.nd.sublist (List.take_sublist _ _)
  refine ⟨u,rv,?_⟩;rcases S.par y (Zh hp) with k | k
  ·exact .inl ⟨k,zPx ndP hp hu k⟩
  ·obtain ⟨c,e⟩:=zSm (n:=s.heap.objs.size + 1) k;refine .inr ⟨.inl k,c,e,?_⟩;have q:=x.cell y c e;rw [zPz ndP hp hu (by show scope.names.lookup y≠_;rw [k];decide)] at q;exact q
 ·exact e0.hok.fresh (Zs (x.above y c (PySem.mem_of_lookup h)))
 ·unfold start;show _=N.length;rw [Zf,Z2,List.length_replicate];omega
theorem yF6 {q:Bool}{CX:CXT}{P:Program}{w:World}{K:PySem.W.Frag}{mg:Str→Option Value}{base:Heap}{k:Nat}{f:Addr}{name qual:Str}{params:Arguments}{body:List Stmt}{scope:Scope}{dV kV doc pm cdv ct oc:Value}{an od:Option Addr}
 {osl:Array (Option Value)}{N ps:List Str}{sp:Sp} (lk:K.lookup f=some ⟨oc,od,.func (PySem.W.fnOf name qual params body scope dV kV doc pm an cdv ct),osl⟩) (hcd:PySem.W.codeIn K cdv qual=true) (S:FnScope N ps scope)
 (len:∀ vs H Q E,sp vs H Q E→vs.length=ps.length)
 (hbody:∀ (A:Around) (outer:List Env) (s:Shared) (H:Hp) (vs:List V) (Q:VK) (E:XK),RoomQ q k (A.deeper (envOfC qual scope s.heap.objs.size f cdv))→sp vs H Q E →
  ∃ t,PSs (cxOfC q CX P w K mg base N qual scope f cdv A outer s H E) body t∧t { nx:=fun _ H'=>Q .non H',rt:=Q } (start N vs) H) :
 FnOkQ q P w K mg base CX (k + 1) f (PySem.W.fnOf name qual params body scope dV kV doc pm an cdv ct) ps sp:=by
 refine ⟨len,fun A outer s H args us vs Q E hr e0 hb r hsp=>?_⟩;have hl:=len _ _ _ _ hsp;have KX:K.In s.heap:=e0.mod.kin.keeps fun b o e=>(e0.bs b o e).1;have lim:s.heap.NoLimit:=e0.mod.nolimit.keeps fun b o e=>(e0.bs b o e).1;have hkind:∀ y∈ps.zip us,scope.names.lookup y.1=some .local∨(scope.names.lookup y.1=some .cell∧((cellsFrom (s.heap.objs.size + 1) scope.names []).lookup y.1).isSome=true):=fun ⟨n,v⟩ hy=>by
  rcases S.par n (List.of_mem_zip hy).1 with q | q
  ·exact .inl q
  ·exact .inr ⟨q,PySem.W.cellsFrom_some _ _ _ (.inl q)⟩
 refine codeAny_call_function hr.depth (KX _ _ lk) rfl S.co S.gen rfl (PySem.W.codeRec_of KX hcd) (hb _ _ _ _ ?_);refine wpAny_newFunctionEnv_cells S.kind hkind fun env he s1 x=>?_;subst he;refine ⟨lim.keeps x.toInCall.keep,codeAny_func ?_⟩;obtain ⟨t,ht,hq⟩:=hbody A outer s H vs Q E (hr.deeper _) hsp;have I:Inv (cxOfC q CX P w K mg base N qual scope f cdv A outer s H E) [] (start N vs) H s1:=zV1 S hr.hd e0 hl r x;refine wpAny_mono (ht [] s1 (start N vs) H _ I hq) (fun fl s' hs=>?_) fun e s' hs=>hs;have fin:∀ {σ':St}{H':Hp}{v:V}{u:Value},Inv (cxOfC q CX P w K mg base N qual scope f cdv A outer s H E) [] σ' H' s'→RelV v u→Q v H'→CE outer P w H s Q u s' :=
  fun {σ' H' v u} J rv z=>⟨v,H',J.os,J.bare,J.base,J.hok,rv,z⟩
 cases fl with
 | ret u =>
  obtain ⟨v,σ',H',J,rv,q⟩:=hs;exact fin J rv q
 | next =>
  obtain ⟨σ',H',J,q⟩:=hs;exact fin (v:=V.non) (u:=Value.none) J rfl q
 | brk =>
  obtain ⟨_,_,_,q⟩:=hs;exact False.elim q
 | cont =>
  obtain ⟨_,_,_,q⟩:=hs;exact False.elim q
end L2
namespace L2
open PySem PySem.Spec PyProof.Rows
section
variable {X:Cx}{x:Str}{p pos:Pos}{e:Expr}{es:List Expr}{t:TA}{id T:String}{r:List V→Hp→VK→Prop}
def tCB (r:List V→Hp→VK→Prop) (t:TA):TE:=fun σ H Q=>t σ H fun vs H1=>r vs H1 Q
theorem zIn (hc:CallR X (.builtin id) r) (hg:Gl X x) (hm:X.mg x=none) (hv:bootBuiltins x=some (.builtin id)) (ha:PA X (e :: es) t) (hn:x≠"__name__":=by decide) (hdb:(x == ("__debug__" : Str))=false:=by decide)
 (he:starEach (e :: es) X.env=(false,eval e X.env) :: starEach es X.env:=by rfl) (hpl:(backTo pos (starEach es X.env)).any (·.1)=false:=by rfl):PE X (.Call (.Name x p) (e :: es) [] pos) (tCB r t):=by
 intro pins s σ H Q I h;refine wpAny_Call_Name_kw (zMx I hg hm hv ?_ hn hdb);exact PyProof.Rows.callWith_builtin1 (thn (ha pos pins s σ H _ I h) fun us s1 ⟨vs,H1,I1,r1,q1⟩=>hc pins s1 σ H1 vs us Q I1 r1 q1) he hpl
theorem zOs (hc:CallR X (.type T) r) (hg:Gl X x) (hm:X.mg x=none) (hv:bootBuiltins x=some (.type T)) (ha:PA X (e :: es) t) (hn:x≠"__name__":=by decide) (hdb:(x == ("__debug__" : Str))=false:=by decide)
 (he:starEach (e :: es) X.env=(false,eval e X.env) :: starEach es X.env:=by rfl) (hpl:(backTo pos (starEach es X.env)).any (·.1)=false:=by rfl):PE X (.Call (.Name x p) (e :: es) [] pos) (tCB r t):=by
 intro pins s σ H Q I h;refine wpAny_Call_Name_kw (zMx I hg hm hv ?_ hn hdb);exact PyProof.Rows.callWith_type1 (thn (ha pos pins s σ H _ I h) fun us s1 ⟨vs,H1,I1,r1,q1⟩=>hc pins s1 σ H1 vs us Q I1 r1 q1) he hpl
end
end L2
namespace HT
open PySem PyProof.Rows
section
open PySem.SeqAt
open PySem.AutoSeq1 (wpAny_loadPart')
open PySem.MeetsSeq PySem.MeetsSeq2 PySem.MeetsSeq3
end
section
variable {prog:Program}{w:World}{A:Around}{E:Value→Shared→Prop}{s:Shared}
theorem cat_tup {t b:Addr}{vs ws:List Value}{Q:Value→Shared→Prop} (ht:IsTup s.heap t vs.toArray) (hb:IsTup s.heap b ws.toArray) (hv:vs≠[])
 (h1:ws=[]→Q (.ref t) s) (h2:ws≠[]→Q (.ref s.heap.objs.size) { s with heap:=s.heap.push { cls:=.type "tuple",data:=.seq (vs++ws).toArray } })
 (hsz:vs.length + ws.length≤sizeLine):wpAny (model prog w) A (binaryOp .Add (.ref t) (.ref b)) Q E s:=by
 obtain ⟨⟨cls,dd,data,sl⟩,ho,hc,n,hd⟩:=id ht;obtain ⟨⟨cls2,dd2,data2,sl2⟩,ho2,hc2,n2,hd2⟩:=id hb;simp only at hc hd hc2 hd2;subst hc hd hc2 hd2;have e:vs.toArray++ws.toArray=(vs++ws).toArray:=by simp
 by_cases hw:ws=[]
 ·exact concat_meets ⟨_,ho,rfl⟩ ⟨_,ho2,rfl⟩ noFill_tuple_add seq_tuple_add PySem.F.slot_tuple_add PySem.F.entry_tuple_add (PySem.F.args_tuple_add_2 _ _)
   (tuple_addW1 t b vs.toArray ws.toArray n n2 dd dd2 sl sl2 (by simpa using hv) (by simp [hw])) ⟨ho,ho2,h1 hw⟩
 ·refine concat_meets ⟨_,ho,rfl⟩ ⟨_,ho2,rfl⟩ noFill_tuple_add seq_tuple_add PySem.F.slot_tuple_add PySem.F.entry_tuple_add (PySem.F.args_tuple_add_2 _ _)
   (tuple_addW2 t b vs.toArray ws.toArray n n2 dd dd2 sl sl2 (by simpa using hv) (by simpa using hw) (by rw [Z4,Z4];exact hsz)) ⟨ho,ho2,?_⟩
  rw [e];exact h2 hw
def sIx (n d:Nat):Option Int→Nat
 | none=>d
 | some v=>if v < 0 then (v + (n:Int)).toNat else min v.toNat n
theorem yCr (n d:Nat) (hd:d≤n) (o:Option Int):sIx n d o≤n:=by
 cases o with
 | none=>exact hd
 | some v =>
  show (if v < 0 then (v + (n:Int)).toNat else min v.toNat n)≤n;by_cases hv:v < 0
  ·rw [if_pos hv];omega
  ·rw [if_neg hv];exact Nat.min_le_right _ _
theorem zVr (v:Int) (n d:Nat):(if v < 0 then max (v + (n:Int)) 0 else min v (n:Int))=((sIx n d (some v):Nat):Int):=by
 show (if v < 0 then max (v + (n:Int)) 0 else min v (n:Int))=(((if v < 0 then (v + (n:Int)).toNat else min v.toNat n):Nat):Int);by_cases hv:v < 0
 ·simp only [if_pos hv];omega
 ·simp only [if_neg hv];omega
theorem zTe (lo hi:Option Int) (n:Nat):Builtin.Slice.sliceAdjust lo hi 1 (n:Int)=(((sIx n 0 lo:Nat):Int),((sIx n n hi:Nat):Int)):=by
 have h1:¬ ((1:Int) < 0):=by omega
 unfold Builtin.Slice.sliceAdjust;simp only [h1,if_false];refine Prod.ext ?_ ?_
 ·cases lo with
  | none=>rfl
  | some v=>exact zVr v n 0
 ·cases hi with
  | none=>rfl
  | some v=>exact zVr v n n
theorem zSx (i j:Nat):Builtin.Slice.slicePlaces (i:Int) (j:Int) 1=j - i:=by
 unfold Builtin.Slice.slicePlaces;have h1:(1:Int) > 0:=by omega
 simp only [h1,if_true,Int.ediv_one];split <;> omega
theorem zMo {v:Value}{o:Option Int}{Q:Option Int→Shared→Prop} (p:IsPart v o) (h:Q o s):wpAny (model prog w) A (Builtin.Slice.slicePartIndex v) Q E s:=by
 cases p with
 | none=>exact slicePart_none h
 | int i t=>exact slicePart_int h
theorem zKm {sl:Addr}{vl vu:Value}{lo hi:Option Int}{n:Nat}{Q:Int×Int×Nat→Shared→Prop} (hs:s.heap.IsSliceOf sl vl vu .none) (pl:IsPart vl lo) (pu:IsPart vu hi)
 (h:Q (((sIx n 0 lo:Nat):Int),1,sIx n n hi - sIx n 0 lo) s):wpAny (model prog w) A (Builtin.Slice.sliceApplied (.ref sl) (pure (n:Int))) Q E s:=by
 obtain ⟨os,hos,hcs,hds⟩:=id hs;unfold Builtin.Slice.sliceApplied Builtin.Slice.sliceFields;refine wpAny_bind (wpAny_bind (wpAny_field hos hds (x:=vl) rfl (wpAny_bind (wpAny_field hos hds (x:=vu) rfl (wpAny_bind (wpAny_field hos hds (x:=.none) rfl (wpAny_pure ?_)))))));refine wpAny_bind (slicePart_none ?_);show wpAny _ _ (if ((1:Int) == 0)=true then _ else _) _ _ s;rw [if_neg (by decide)];refine wpAny_bind (zMo pl (wpAny_bind (zMo pu (wpAny_bind (wpAny_pure ?_)))));show wpAny _ _ (match Builtin.Slice.sliceAdjust lo hi 1 (n:Int) with | (lo,hi)=>pure (lo,(1:Int),Builtin.Slice.slicePlaces lo hi 1)) _ _ s;rw [zTe lo hi n];show wpAny _ _ (pure (((sIx n 0 lo:Nat):Int),(1:Int),Builtin.Slice.slicePlaces ((sIx n 0 lo:Nat):Int) ((sIx n n hi:Nat):Int) 1)) _ _ s;rw [zSx];exact wpAny_pure h
theorem zWe (xs:Array Value) (i k:Nat):((List.range k).filterMap fun (m:Nat)=>xs[((i:Int) + (m:Int) * 1).toNat]?).toArray=((xs.toList.drop i).take k).toArray:=by
 have e:(fun (m:Nat)=>xs[((i:Int) + (m:Int) * 1).toNat]?)=fun m=>xs[i + m]?:=by
  funext m;have:((i:Int) + (m:Int) * 1).toNat=i + m:=by omega
  rw [this]
 rw [e];have:=pick_run xs i k;rw [Y7] at this;have e2:((fun x=>xs[x]?) ∘ fun x=>i + x)=fun m=>xs[i + m]?:=rfl;rw [e2] at this;rw [this]
theorem getItem_tuple_cut {t sl:Addr}{items:Array Value}{vl vu:Value}{lo hi:Option Int}{Q:Value→Shared→Prop} (ht:IsTup s.heap t items) (hs:s.heap.IsSliceOf sl vl vu .none) (pl:IsPart vl lo) (pu:IsPart vu hi)
 (hw:¬ (sIx items.size 0 lo=0∧sIx items.size items.size hi=items.size))
 (h:Q (.ref s.heap.objs.size) { s with heap:=s.heap.push { cls:=.type "tuple",data:=.seq ((items.toList.drop (sIx items.size 0 lo)).take (sIx items.size items.size hi - sIx items.size 0 lo)).toArray } })
 (hsz:items.size≤sizeLine):wpAny (model prog w) A (getItem (.ref t) (.ref sl)) Q E s:=by
 have htake:sizeOk (.seq ((items.toList.drop (sIx items.size 0 lo)).take (sIx items.size items.size hi - sIx items.size 0 lo)).toArray):=by
  show ((items.toList.drop (sIx items.size 0 lo)).take (sIx items.size items.size hi - sIx items.size 0 lo)).toArray.size≤sizeLine;rw [Z4,Zx,List.length_drop,Zt];omega
 have hj:sIx items.size items.size hi≤items.size:=yCr _ _ (Z1 _) hi;obtain ⟨os,hos,hcs,hds⟩:=id hs;have hTs:s.TypeIs (.ref sl) "slice":=⟨os,hos,hcs⟩;unfold getItem
 try with_reducible refine wpAny_holding ?_
 first | refine wpAny_bind (wpAny_pure ?_) | skip
 refine wpAny_bind (wpAny_sequenceKey ht.typeIs (by decide) ?_)
 refine wpAny_bind (wpAny_callSpecial?_slot (name:=Str.ofString "__getitem__") ht.typeIs PyProof.Rows.slot_tuple_getitem
  (wpAny_call_entry PyProof.Rows.slot_tuple_getitem ht.typeIs entry_tuple_getitem ?_ (args_tuple_getitem _ _)))
 show wpAny _ _ (Builtin.Tuple.tupleItemsOf (.ref t) >>= _) _ _ s;refine wpAny_bind (tupleItemsOf_ ht ?_);refine wpAny_bind (wpAny_typeOf hTs ?_);rw [if_pos (by decide)];refine wpAny_bind (zKm hs pl pu ?_);have hno:¬ ((((sIx items.size 0 lo:Nat):Int) == 0 && (1:Int) == 1 && (sIx items.size items.size hi - sIx items.size 0 lo) == items.size)=true):=by
  intro q;rw [Zc,Zc] at q;have q1:((sIx items.size 0 lo:Nat):Int)=0:=eq_of_beq q.1.1;have q2:sIx items.size items.size hi - sIx items.size 0 lo=items.size:=eq_of_beq q.2;exact hw ⟨by omega,by omega⟩
 show wpAny _ _ (if (((sIx items.size 0 lo:Nat):Int) == 0 && (1:Int) == 1 && (sIx items.size items.size hi - sIx items.size 0 lo) == items.size)=true then _ else _) _ _ s;rw [if_neg hno,zWe]
 first
  | exact wpAny_bind (m:=Builtin.Tuple.tupleExact _) (wpAny_newObj_type (wpAny_pure ⟨_,rfl,wpAny_pure h⟩) htake)
  | exact wpAny_bind (m:=Builtin.Tuple.tupleExact _) (wpAny_newObj_type (wpAny_bind (wpAny_pure (wpAny_pure ⟨_,rfl,wpAny_pure h⟩))) htake)
  | exact wpAny_bind (wpAny_bind (m:=Builtin.Tuple.tupleExact _) (wpAny_newObj_type (wpAny_pure (wpAny_pure ⟨_,rfl,wpAny_pure h⟩)) htake))
  | exact wpAny_bind (wpAny_bind (m:=Builtin.Tuple.tupleExact _) (wpAny_newObj_type (wpAny_pure ⟨_,rfl,wpAny_pure h⟩) htake))
end
end HT
namespace L2
open PySem PySem.Spec PyProof.Rows
abbrev TO:=St→Hp→(Option Int→Hp→Prop)→Prop
def PO (X:Cx) (e:Option Expr) (t:TO):Prop :=
 ∀ (pins:List (Addr×Obj)) (s:Shared) (σ : St) (H:Hp) (Q:Option Int→Hp→Prop),Inv X pins σ H s→t σ H Q →
  wpAny (model X.prog X.w) X.A (evalPart e X.env) (fun u s'=>∃ o H',Inv X pins σ H' s'∧IsPart u o∧Q o H') X.xe s
def tNoPart:TO:=fun _ H Q=>Q none H
def tPart (t:TE):TO:=fun σ H Q=>t σ H fun x H1=>∃ i,x=.int i∧Q (some i) H1
section
variable {X:Cx}{e:Expr}{te:TE}{lo hi:Option Expr}{tl th:TO}{pos p2:Pos}
theorem yA4:PO X none tNoPart:=by
 intro pins s σ H Q I h;rw [evalPart_none];exact wpAny_pure ⟨none,H,I,.none,h⟩
theorem yA3 (h:PE X e te):PO X (some e) (tPart te):=by
 intro pins s σ H Q I hw;rw [evalPart_some];refine thn (h pins s σ H _ I hw) fun u s1 ⟨x,H1,I1,r1,q1⟩=>?_;obtain ⟨i,rfl,q⟩:=q1;obtain ⟨t,rfl⟩:=r1;exact ⟨some i,H1,I1,.int i t,q⟩
def SlR (X:Cx) (r:V→Option Int→Option Int→Hp→VK→Prop):Prop :=
 ∀ (pins:List (Addr×Obj)) (s:Shared) (σ : St) (H:Hp) (x:V) (v vl vu:Value) (lo hi:Option Int) (sl:Addr) (Q:VK),Inv X pins σ H s→RelV x v→s.heap.IsSliceOf sl vl vu .none→IsPart vl lo→IsPart vu hi→r x lo hi H Q →
  ∃ T id,typeLookup (.type T) "__getitem__" = pure (some (.builtin id))∧s.TypeIs v T∧wpAny (model X.prog X.w) X.A (getItem v (.ref sl)) (EP X pins σ Q) X.xe s
theorem SlR.or {r r':V→Option Int→Option Int→Hp→VK→Prop} (h:SlR X r) (h':SlR X r'):SlR X (fun x lo hi H Q=>r x lo hi H Q∨r' x lo hi H Q):=by
 intro pins s σ H x v vl vu lo hi sl Q I rx hs pl pu q;rcases q with q | q
 ·exact h pins s σ H x v vl vu lo hi sl Q I rx hs pl pu q
 ·exact h' pins s σ H x v vl vu lo hi sl Q I rx hs pl pu q
def tSl (r:V→Option Int→Option Int→Hp→VK→Prop) (te:TE) (tl th:TO):TE:=fun σ H Q=>te σ H fun x H1=>tl σ H1 fun l H2=>th σ H2 fun u H3=>r x l u H3 Q
theorem zWh {r:V→Option Int→Option Int→Hp→VK→Prop} (hr:SlR X r) (he:PE X e te) (hl:PO X lo tl) (hu:PO X hi th):PE X (.Subscript e (.Slice lo hi none p2) pos) (tSl r te tl th):=by
 intro pins s σ H Q I h;refine Subscript_ (thn (he pins s σ H _ I h) fun v s1 ⟨x,H1,I1,r1,q1⟩=>?_);refine wpAny_Slice (thn (hl pins s1 σ H1 _ I1 q1) fun vl s2 ⟨l,H2,I2,pl,q2⟩=>thn (hu pins s2 σ H2 _ I2 q2) fun vu s3 ⟨u,H3,I3,pu,q3⟩=>?_);rw [evalPart_none];refine wpAny_pure ?_;have I4:Inv X pins σ H3 { s3 with heap:=s3.heap.push { cls:=.type "slice",data:=.fields #[vl,vu,.none] } }:=I3.kept (t':=s3.toks) fun b ob q=>Z0 _ q;obtain ⟨T,id,hT,ht,hg⟩:=hr pins { s3 with heap:=s3.heap.push { cls:=.type "slice",data:=.fields #[vl,vu,.none] } } σ H3 x v vl vu l u s3.heap.objs.size Q I4 r1 (Heap.IsSliceOf.new ..) pl pu q3;show wpAny (model X.prog X.w) X.A (subscriptTail e (.Slice lo hi none p2) v (.ref s3.heap.objs.size)) (EP X pins σ Q) X.xe { s3 with heap:=s3.heap.push { cls:=.type "slice",data:=.fields #[vl,vu,.none] } };exact tail_any (ops:=[.ref s3.heap.objs.size,v]) ht hT hg (by with_unfolding_all rfl)
def cutV (xs:List V) (lo hi:Option Int):List V:=(xs.drop (HT.sIx xs.length 0 lo)).take (HT.sIx xs.length xs.length hi - HT.sIx xs.length 0 lo)
theorem zHv (xs:List V) (lo hi:Option Int):(cutV xs lo hi).length≤xs.length:=by
 unfold cutV;rw [Zx,List.length_drop];omega
def rSlT (K:PySem.W.Frag):V→Option Int→Option Int→Hp→VK→Prop:=fun x lo hi H Q=>∃ a xs,x=.ref a∧SqT K H a xs ∧
 ¬ (HT.sIx xs.length 0 lo=0∧HT.sIx xs.length xs.length hi=xs.length)∧∀ p,H p=none→Q (.ref p) (upd H p (.tup (cutV xs lo hi)))
theorem yCp:SlR X (rSlT X.K):=by
 intro pins s σ H x v vl vu lo hi sl Q I rx hs pl pu h;obtain ⟨a,xs,rfl,hx,hw,q⟩:=h;cases rx;obtain ⟨its,r,ht,hz⟩:=I.tuple hx;have hlen:its.toArray.size=xs.length:=by rw [Z4];exact r.length.symm
 refine ⟨"tuple",_,PyProof.Rows.slot_tuple_getitem.lookup,ht.typeIs,?_⟩;refine HT.getItem_tuple_cut ht hs pl pu (by rw [hlen];exact hw) ?_ (by rw [hlen];exact hz);rw [hlen];refine ⟨.ref s.heap.objs.size,_,I.laid (t':=s.toks) (o:=.tup (cutV xs lo hi)) (fun b ob q=>Z0 _ q) (Z1 _) ?_,rfl,q _ (I.hok.fresh (Z1 _))⟩;exact ⟨Z3 (zHv xs lo hi) hz,_,(r.drop (HT.sIx xs.length 0 lo)).take (HT.sIx xs.length xs.length hi - HT.sIx xs.length 0 lo),IsTup.new _ _⟩
theorem Vals.nil_iff {xs:List V}{us:List Value} (r:Vals xs us):us=[] ↔ xs=[]:=by
 cases r with
 | nil=>simp
 | cons _ _=>simp
end
end L2
namespace L2
open PySem PySem.Spec PyProof.Rows
def ixN (n:Nat) (i:Int):Option Nat:=if 0≤i then (if i < n then some i.toNat else none) else if -(n:Int)≤i then some (i + n).toNat else none
def atI {α : Type} (xs:List α) (i:Int):Option α:=(ixN xs.length i).bind fun j=>xs[j]?
theorem zUw {n:Nat}{i:Int}{j:Nat} (h:ixN n i=some j):seqIndex? i n=some j∧j < n∧-(n:Int)≤i∧i < n:=by
 unfold ixN at h;by_cases h0:0≤i
 ·rw [if_pos h0] at h;by_cases h1:i < n
  ·rw [if_pos h1] at h;have e:i.toNat=j:=Zl h;exact ⟨by rw [seqIndex_of h0 h1,e],by omega,by omega,h1⟩
  ·rw [if_neg h1] at h;cases h
 ·rw [if_neg h0] at h;by_cases h1 : -(n:Int)≤i
  ·rw [if_pos h1] at h;have e:(i + n).toNat=j:=Zl h;exact ⟨by rw [seqIndex_neg (by omega) h1,e],by omega,h1,by omega⟩
  ·rw [if_neg h1] at h;cases h
theorem zQy {α : Type}{xs:List α}{i:Int}{v : α} (h:atI xs i=some v):∃ j,seqIndex? i xs.length=some j∧xs[j]? = some v∧j < xs.length∧-(xs.length:Int)≤i∧i < xs.length:=by
 unfold atI at h;cases e:ixN xs.length i with
 | none=>rw [e] at h;cases h
 | some j =>
  rw [e] at h;obtain ⟨h1,h2,h3,h4⟩:=zUw e;exact ⟨j,h1,h,h2,h3,h4⟩
def PlainIx (b:Expr):Prop:=∀ o i,subscripted b false o i=operate [o,i] (getItem o i)
def IxR (X:Cx) (r:R2):Prop :=
 ∀ (value slice:Expr) (pins:List (Addr×Obj)) (s:Shared) (σ : St) (H:Hp) (x y:V) (v u:Value) (Q:VK),Inv X pins σ H s→RelV x v→RelV y u→r x y H Q →
  subscripted slice false v u=operate [v,u] (getItem v u)→wpAny (model X.prog X.w) X.A (subscriptTail value slice v u) (EP X pins σ Q) X.xe s
def MtR (X:Cx) (id:String) (r:V→List V→Hp→VK→Prop):Prop :=
 ∀ (pins:List (Addr×Obj)) (s:Shared) (σ : St) (H:Hp) (x:V) (xs:List V) (v:Value) (us:List Value) (Q:VK),Inv X pins σ H s→RelV x v→Vals xs us→r x xs H Q →
  wpAny (model X.prog X.w) X.A (call (.builtin id) (v :: us)) (EP X pins σ Q) X.xe s
section
variable {X:Cx}{a b:Expr}{ta tb:TE}{pos:Pos}
theorem IxR.or {r r':R2} (h:IxR X r) (h':IxR X r'):IxR X (fun x y H Q=>r x y H Q∨r' x y H Q):=by
 intro value slice pins s σ H x y v u Q I rx ry q hs;rcases q with q | q
 ·exact h value slice pins s σ H x y v u Q I rx ry q hs
 ·exact h' value slice pins s σ H x y v u Q I rx ry q hs
theorem pe_ix {r:R2} (hr:IxR X r) (ha:PE X a ta) (hb:PE X b tb) (hs:PlainIx b):PE X (.Subscript a b pos) (tOp r ta tb):=by
 intro pins s σ H Q I h;exact Subscript_ (binT ha hb I h fun v u s2 x y H2 I2 rx ry q=>hr a b pins s2 σ H2 x y v u Q I2 rx ry q (hs _ _))
def rIxL (K:PySem.W.Frag):R2:=fun x y H Q=>∃ p xs i v,x=.ref p∧y=.int i∧SqL K H p xs∧atI xs i=some v∧Q v H
def rIxT (K:PySem.W.Frag):R2:=fun x y H Q=>∃ p xs i v,x=.ref p∧y=.int i∧SqT K H p xs∧atI xs i=some v∧Q v H
def rIxS:R2:=fun x y H Q=>∃ z i c,x=.str z∧y=.int i∧z.length≤sizeLine∧atI z.cps.toList i=some c∧Q (.str ⟨#[c]⟩) H
theorem yB8:IxR X (rIxL X.K):=by
 intro value slice pins s σ H x y v u Q I rx ry h hs;obtain ⟨p,xs,i,z,rfl,rfl,hq,he,q⟩:=h;cases rx;obtain ⟨t,rfl⟩:=ry;obtain ⟨its,r,pl,hz⟩:=I.list hq;obtain ⟨j,h1,h2,h3,h4,h5⟩:=zQy he;obtain ⟨w,ew,rw'⟩:=r.get h2;have hl:=r.length;have hn:=line63;have fin:EP X pins σ Q w s:=⟨z,H,I,rw',q⟩;by_cases h0:0≤i
 ·have hj:i.toNat=j:=by
   rw [seqIndex_of h0 h5] at h1;exact Zl h1
  exact item_listR pl.isList h0 (by omega) (by rw [hj];simpa using ew) fin hs
 ·have hj:(i + (its.toArray.size:Int)).toNat=j:=by
   rw [seqIndex_neg (by omega) h4] at h1;rw [Z4,← hl];exact Zl h1
  exact subscriptTail_builtinR (x:=w) pl.isList.typeIs slot_list_getitem.lookup
   (wpAny_getItem_list_neg (Q:=fun r s'=>r=w∧EP X pins σ Q r s') pl.isList (by omega) (by rw [Z4] <;> omega) (by omega) (by rw [hj];simpa using ew) ⟨rfl,fin⟩) hs
theorem yEv:IxR X (rIxT X.K):=by
 intro value slice pins s σ H x y v u Q I rx ry h hs;obtain ⟨p,xs,i,z,rfl,rfl,hq,he,q⟩:=h;cases rx;obtain ⟨t,rfl⟩:=ry;obtain ⟨its,r,pl,hz⟩:=I.tuple hq;obtain ⟨j,h1,h2,h3,h4,h5⟩:=zQy he;obtain ⟨w,ew,rw'⟩:=r.get h2;have hl:=r.length;have hn:=line63;have fin:EP X pins σ Q w s:=⟨z,H,I,rw',q⟩;exact subscriptTail_builtinR (x:=w) pl.typeIs slot_tuple_getitem.lookup
  (getItem_tuple (j:=j) (Q:=fun r s'=>r=w∧EP X pins σ Q r s') pl (by omega) (by omega) (by rw [Z4,← hl];exact h1) (by simpa using ew) ⟨rfl,fin⟩) hs
theorem yEw:IxR X rIxS:=by
 intro value slice pins s σ H x y v u Q I rx ry h hs;obtain ⟨z,i,c,rfl,rfl,hz,he,q⟩:=h;obtain ⟨t,rfl⟩:=rx;obtain ⟨t',rfl⟩:=ry;obtain ⟨j,h1,h2,h3,h4,h5⟩:=zQy he;have hl:z.cps.toList.length=z.length:=by simp [Str.length]
 rw [hl] at h1 h4 h5;have hn:=line63
 exact tail_any (typeIs_str s z t) slot_str_getitem.lookup (getItem_str (c:=c) (by
  have e1:decide (i < -(2 ^ 63:Int))=false:=decide_eq_false (by omega);have e2:decide (i ≥ 2 ^ 63)=false:=decide_eq_false (by omega)
  rw [e1,e2,Bool.or_false]) (by rw [h1];simpa using h2) ⟨.str ⟨#[c]⟩,H,I.tok _,⟨_,rfl⟩,q⟩) hs
def rIx (K:PySem.W.Frag):R2:=fun x y H Q=>rIxL K x y H Q∨rIxT K x y H Q∨rIxS x y H Q
theorem yEx:IxR X (rIx X.K):=yB8.or (yEv.or yEw)
theorem zT2 (its:List Value) (n j:Nat) (u:Value):Obj.mapSeq (·.setIfInBounds j u) { cls:=.type "list",data:=.seq its.toArray n }={ cls:=.type "list",data:=.seq (its.set j u).toArray n }:=by
 simp [Obj.mapSeq]
theorem Inv.lst {pins:List (Addr×Obj)}{σ : St}{H:Hp}{s:Shared}{p:Addr}{xs:List V} (I:Inv X pins σ H s) (h:H p=some (.lst xs)) :
 ∃ (its:List Value) (n:Nat),Vals xs its∧s.heap.get? p=some { cls:=.type "list",data:=.seq its.toArray n }∧xs.length≤sizeLine:=by
 obtain ⟨z,its,n,r,e⟩:=I.hok p _ h;exact ⟨its,n,r,e,z⟩
theorem Inv.lstUpd {pins:List (Addr×Obj)}{σ : St}{H:Hp}{s:Shared}{p:Addr}{xs ys:List V}{its its':List Value}{n n':Nat}{f:Obj→Obj} (I:Inv X pins σ H s) (h:H p=some (.lst xs))
 (ho:s.heap.get? p=some { cls:=.type "list",data:=.seq its.toArray n }) (hf:f { cls:=.type "list",data:=.seq its.toArray n }={ cls:=.type "list",data:=.seq its'.toArray n' }) (r:Vals ys its') (hz:ys.length≤sizeLine) (t:Nat) :
 Inv X pins σ (upd H p (.lst ys)) { s with heap:=s.heap.update p f,toks:=t }:=by
 have e:(s.heap.update p f).get? p=some { cls:=.type "list",data:=.seq its'.toArray n' }:=by
  rw [Heap.get?_update_self f ho (by rw [hf] <;> rfl),hf]
 refine I.write (x:=p) (e:=p) (by rw [h];trivial) (.inl rfl) (fun b u hb q=>(Heap.get?_update_other _ _ (Ne.symm hb)).trans q) ⟨_,e⟩ ?_;exact ⟨hz,its',n',r,e⟩
def rSetL:V→V→V→Hp→(Hp→Prop)→Prop:=fun o i v H Q=>∃ p xs k j,o=.ref p∧i=.int k∧H p=some (.lst xs)∧ixN xs.length k=some j∧Q (upd H p (.lst (xs.set j v)))
theorem zW6:PSet X rSetL:=by
 intro pins s σ H o i v ov iv u Q I ro ri rv h;obtain ⟨p,xs,k,j,rfl,rfl,hp,hj,q⟩:=h;cases ro;obtain ⟨t,rfl⟩:=ri;obtain ⟨its,n,r,ho,hz⟩:=I.lst hp;obtain ⟨h1,h2,h3,h4⟩:=zUw hj;have hl:=r.length;have hn:=line63;have I':Inv X pins σ (upd H p (.lst (xs.set j v))) { s with heap:=s.heap.update p (Obj.mapSeq (·.setIfInBounds j u)) } :=
  I.lstUpd hp ho (zT2 its n j u) (r.set rv j) (by rw [List.length_set];exact hz) s.toks
 by_cases h0:0≤k
 ·have hk:k.toNat=j:=by
   rw [seqIndex_of h0 h4] at h1;exact Zl h1
  exact PySem.W.ki_setAt ho h0 (by omega) (by rw [Z4,← hl];exact h4) (by rw [hk];exact ⟨_,I',q⟩)
 ·have hk:(k + (its.toArray.size:Int)).toNat=j:=by
   rw [seqIndex_neg (by omega) h3] at h1;rw [Z4,← hl];exact Zl h1
  exact PySem.W.ki_setBack ho (by omega) (by rw [Z4,← hl];exact h3) (by omega) (by rw [hk];exact ⟨_,I',q⟩)
theorem zOn (lo hi:Option Int) (n:Nat):(sliceBounds lo hi none n).1=((HT.sIx n 0 lo:Nat):Int)∧(sliceBounds lo hi none n).2.1=((HT.sIx n n hi:Nat):Int)∧(sliceBounds lo hi none n).2.2=1:=by
 refine ⟨?_,?_,rfl⟩
 ·cases lo with
  | none=>simp [sliceBounds,HT.sIx]
  | some i =>
   simp only [sliceBounds,HT.sIx,Option.getD_none,show (1:Int) > 0 by decide,if_true];by_cases h:i < 0
   ·simp only [h,if_true] <;> omega
   ·simp only [h,if_false] <;> omega
 ·cases hi with
  | none=>simp [sliceBounds,HT.sIx]
  | some i =>
   simp only [sliceBounds,HT.sIx,Option.getD_none,show (1:Int) > 0 by decide,if_true];by_cases h:i < 0
   ·simp only [h,if_true] <;> omega
   ·simp only [h,if_false] <;> omega
theorem zNi (its:List Value) (lo hi:Option Int):slicePick its.toArray lo hi none=((its.drop (HT.sIx its.length 0 lo)).take (HT.sIx its.length its.length hi - HT.sIx its.length 0 lo)).toArray:=by
 obtain ⟨h1,h2,h3⟩:=zOn lo hi its.toArray.size;unfold slicePick;rw [h1,h2,h3];simp only [sliceRange_one,pick_run,Z4] <;> rfl
def rSlL (K:PySem.W.Frag):V→Option Int→Option Int→Hp→VK→Prop:=fun x lo hi H Q=>∃ a xs,x=.ref a∧SqL K H a xs∧∀ p,H p=none→Q (.ref p) (upd H p (.lst (cutV xs lo hi)))
theorem zZu:SlR X (rSlL X.K):=by
 intro pins s σ H x v vl vu lo hi sl Q I rx hs pl pu h;obtain ⟨a,xs,rfl,hx,q⟩:=h;cases rx;obtain ⟨its,r,ht,hz⟩:=I.list hx;have hlen:=r.length;refine ⟨"list",_,slot_list_getitem.lookup,ht.isList.typeIs,?_⟩;refine wpAny_getItem_list_slice ht.isList hs pl pu .none (by simp) ?_ (by rw [Z4] <;> omega);rw [zNi,← hlen];refine ⟨.ref s.heap.objs.size,_,I.laid (t':=s.toks) (o:=.lst (cutV xs lo hi)) (fun b ob q=>Z0 _ q) (Z1 _) ?_,rfl,q _ (I.hok.fresh (Z1 _))⟩;exact ⟨Z3 (zHv xs lo hi) hz,_,0,(r.drop (HT.sIx xs.length 0 lo)).take (HT.sIx xs.length xs.length hi - HT.sIx xs.length 0 lo),Z9 _ rfl⟩
def flatV:V→Bool
 | .non=>true
 | .bl _=>true
 | .int _=>true
 | .str _=>true
 | _=>false
def eqV:V→V→Bool
 | .non,.non=>true
 | .bl a,.bl b=>a == b
 | .bl a,.int b=>(if a then 1 else 0) == b
 | .int a,.bl b=>a == (if b then 1 else 0)
 | .int a,.int b=>a == b
 | .str a,.str b=>a == b
 | _,_=>false
theorem yF9 {A:Around}{s:Shared}{y x:V}{u v:Value} (ry:RelV y u) (rx:RelV x v) (fy:flatV y=true) (fx:flatV x=true):SeqAt.EqAt A s u v (eqV y x):=by
 cases y with
 | non =>
  cases ry;cases x with
  | non=>cases rx;exact SeqAt.EqAt.same _
  | bl b=>cases rx;exact SeqAt.EqAt.none_bool b
  | int b=>obtain ⟨t,rfl⟩:=rx;exact SeqAt.EqAt.none_int b t
  | str b=>obtain ⟨t,rfl⟩:=rx;exact SeqAt.EqAt.none_str b t
  | _=>exact absurd (show false=true from fx) Z6
 | bl a =>
  cases ry;cases x with
  | non=>cases rx;exact SeqAt.EqAt.bool_none a
  | bl b=>cases rx;exact SeqAt.EqAt.bool_bool a b
  | int b=>obtain ⟨t,rfl⟩:=rx;exact SeqAt.EqAt.bool_int a b t
  | str b=>obtain ⟨t,rfl⟩:=rx;exact SeqAt.EqAt.bool_str a b t
  | _=>exact absurd (show false=true from fx) Z6
 | int a =>
  obtain ⟨t',rfl⟩:=ry;cases x with
  | non=>cases rx;exact SeqAt.EqAt.int_none a t'
  | bl b=>cases rx;exact SeqAt.EqAt.int_bool a t' b
  | int b=>obtain ⟨t,rfl⟩:=rx;exact SeqAt.EqAt.int_int a t' b t
  | str b=>obtain ⟨t,rfl⟩:=rx;exact SeqAt.EqAt.int_str a t' b t
  | _=>exact absurd (show false=true from fx) Z6
 | str a =>
  obtain ⟨t',rfl⟩:=ry;cases x with
  | non=>cases rx;exact SeqAt.EqAt.str_none a t'
  | bl b=>cases rx;exact SeqAt.EqAt.str_bool a t' b
  | int b=>obtain ⟨t,rfl⟩:=rx;exact SeqAt.EqAt.str_int a t' b t
  | str b=>obtain ⟨t,rfl⟩:=rx;exact SeqAt.EqAt.str_str a t' b t
  | _=>exact absurd (show false=true from fx) Z6
 | _=>exact absurd (show false=true from fy) Z6
def eqU (x:V) (u:Value):Bool:=match u with
 | .none=>eqV .non x
 | .bool b=>eqV (.bl b) x
 | .int i _=>eqV (.int i) x
 | .str z _=>eqV (.str z) x
 | _=>false
theorem zZ5 {x y:V}{u:Value} (r:RelV y u) (f:flatV y=true):eqU x u=eqV y x:=by
 cases y with
 | non=>cases r;rfl
 | bl b=>cases r;rfl
 | int i=>obtain ⟨t,rfl⟩:=r;rfl
 | str z=>obtain ⟨t,rfl⟩:=r;rfl
 | _=>exact absurd (show false=true from f) Z6
theorem zRv {A:Around}{s:Shared}{x:V}{v:Value} (rx:RelV x v) (fx:flatV x=true):∀ {xs:List V}{us:List Value},Vals xs us→xs.all flatV=true→∀ u∈us,SeqAt.EqAt A s u v (eqU x u)
 | _,_,.nil,_=>fun u hu=>by cases hu
 | y :: xs,u :: us,.cons r t,f=>fun u' hu=>by
  rw [Ya,Zc] at f;rcases List.mem_cons.mp hu with rfl | hu
  ·rw [zZ5 r f.1];exact yF9 r rx f.1 fx
  ·exact zRv rx fx t f.2 u' hu
theorem zOt:OpR X (compareOp .NotIn) (fun x y H Q=>∃ i j,x=.str i∧y=.str j∧Q (.bl (!(!(Builtin.Str.occurrences j i 0 j.length 1).isEmpty))) H):=by
 intro pins s σ H x y v u Q I rx ry h;obtain ⟨i,j,rfl,rfl,q⟩:=h;obtain ⟨t,rfl⟩:=rx;obtain ⟨t',rfl⟩:=ry;exact notIn_str ⟨.bl _,H,I,rfl,q⟩
theorem zPu:CallR X (.builtin "len") (fun xs H Q=>∃ p ys,xs=[.ref p]∧(SqL X.K H p ys∨SqT X.K H p ys)∧Q (.int ys.length) H):=by
 intro pins s σ H xs us Q I r h;obtain ⟨p,ys,rfl,hq,q⟩:=h;obtain ⟨u,rfl,rx⟩:=vals1 r;cases rx;have hn:=line63;rcases hq with hq | hq
 ·obtain ⟨its,r',pl,hz⟩:=I.list hq;have hlen:=r'.length;exact Calls.call_len_list pl.isList (by simp only [Z4] <;> omega) ⟨.int ys.length,H,I.tok _,⟨s.toks + 1,by rw [Z4,hlen]⟩,q⟩
 ·obtain ⟨its,r',pl,hz⟩:=I.tuple hq;have hlen:=r'.length;exact len_tuple pl (by simp only [Z4] <;> omega) ⟨.int ys.length,H,I.tok _,⟨s.toks + 1,by rw [Z4,hlen]⟩,q⟩
theorem zPt:CallR X (.builtin "len") (fun xs H Q=>∃ z,xs=[.str z]∧z.length≤sizeLine∧Q (.int z.length) H):=by
 intro pins s σ H xs us Q I r h;obtain ⟨z,rfl,hz,q⟩:=h;obtain ⟨u,rfl,t,rfl⟩:=vals1 r;have hn:=line63;exact len_str (by omega) ⟨.int z.length,H,I.tok _,⟨_,rfl⟩,q⟩
theorem zPs:CallR X (.type "list") (fun xs H Q=>∃ p ys,xs=[.ref p]∧(SqL X.K H p ys∨SqT X.K H p ys)∧∀ l,H l=none→Q (.ref l) (upd H l (.lst ys))):=by
 intro pins s σ H xs us Q I r h;obtain ⟨p,ys,rfl,hq,q⟩:=h;obtain ⟨u,rfl,rx⟩:=vals1 r;cases rx
 have fin:∀ (its:List Value),Vals ys its→ys.length≤sizeLine→∀ (h':Heap) (c':Nat),(∀ b o',s.heap.get? b=some o'→h'.get? b=some o') →
  h'.get? s.heap.objs.size=some { cls:=.type "list",dict:=none,data:=.seq its.toArray c',slots:=#[] }→EP X pins σ Q (.ref s.heap.objs.size) { s with heap:=h' }:=fun its r' hz h' c' kp e =>
  ⟨.ref s.heap.objs.size,_,I.laid (t':=s.toks) kp (Z1 _) (show ObjOk X.prog X.w _ h' _ (.lst ys) from ⟨hz,its,c',r',e⟩),rfl,q _ (I.hok.fresh (Z1 _))⟩
 rcases hq with hq | hq
 ·obtain ⟨its,r',pl,hz⟩:=I.list hq;have hlen:=r'.length;obtain ⟨o,ho,hc,n,hd⟩:=pl.isList;exact call_list_seq p (.inl rfl) ho hc hd (fun h' c' kp e=>fin its r' hz h' c' kp e) (by simp only [Z4] <;> omega)
 ·obtain ⟨its,r',pl,hz⟩:=I.tuple hq;have hlen:=r'.length;obtain ⟨o,ho,hc,n,hd⟩:=pl;exact call_list_seq p (.inr rfl) ho hc hd (fun h' c' kp e=>fin its r' hz h' c' kp e) (by simp only [Z4] <;> omega)
theorem zOa:CallR X (.type "tuple") (fun xs H Q=>∃ p ys,xs=[.ref p]∧((SqL X.K H p ys∧∀ l,H l=none→Q (.ref l) (upd H l (.tup ys)))∨(SqT X.K H p ys∧Q (.ref p) H))):=by
 intro pins s σ H xs us Q I r h;obtain ⟨p,ys,rfl,h⟩:=h;obtain ⟨u,rfl,rx⟩:=vals1 r;cases rx;rcases h with ⟨hq,q⟩ | ⟨hq,q⟩
 ·obtain ⟨its,r',pl,hz⟩:=I.list hq;have hlen:=r'.length;refine call_tuple_list pl.isList (fun h' kp=>?_) (by simp only [Z4] <;> omega);have I1:Inv X pins σ H { s with heap:=h' }:=I.kept (t':=s.toks) kp;have I2:Inv X pins σ (upd H h'.objs.size (.tup ys)) { s with heap:=h'.push { cls:=.type "tuple",data:=.seq its.toArray } } :=
   I1.laid (t':=s.toks) (fun b o e=>Z0 _ e) (Z1 _) (show ObjOk X.prog X.w _ _ _ (.tup ys) from ⟨hz,its,r',IsTup.new _ _⟩)
  exact ⟨.ref h'.objs.size,_,I2,rfl,q _ (I1.hok.fresh (Z1 _))⟩
 ·obtain ⟨its,r',pl,hz⟩:=I.tuple hq;exact call_tuple_same pl ⟨.ref p,H,I,rfl,q⟩
def tyV (K:PySem.W.Frag) (T:String) (x:V) (H:Hp):Prop:=match x with
 | .str _=>T = "str"
 | .int _=>T = "int"
 | .ref p=>(T = "list"∧∃ xs,SqL K H p xs)∨(T = "tuple"∧∃ o,K.lookup p=some o∧o.cls=.type "tuple"∧o.dict=none) ∨
  (T = "dict"∧((∃ kvs,H p=some (.dK kvs))∨∃ kvs,H p=some (.dT kvs)))∨(T = "set"∧∃ S n,H p=some (.set S n))
 | _=>False
theorem yCh {pins:List (Addr×Obj)}{σ : St}{H:Hp}{s:Shared}{T:String}{x:V}{v:Value} (I:Inv X pins σ H s) (r:RelV x v) (ty:tyV X.K T x H) :
 s.TypeIs v T∧∀ a,v=.ref a→∃ ob,s.heap.get? a=some ob∧ob.dict=none:=by
 cases x with
 | str z =>
  obtain ⟨t,rfl⟩:=r;cases (show T = "str" from ty);exact ⟨typeIs_str s z t,fun _ e=>nomatch e⟩
 | int i =>
  obtain ⟨t,rfl⟩:=r;cases (show T = "int" from ty);exact ⟨typeIs_int s i t,fun _ e=>nomatch e⟩
 | ref p =>
  cases r;rcases ty with ⟨rfl,xs,hq⟩ | ⟨rfl,o,hk,hc,hd⟩ | ⟨rfl,hk⟩ | ⟨rfl,S,n,hk⟩
  ·obtain ⟨its,_,pl,_⟩:=I.list hq;refine ⟨pl.isList.typeIs,fun a e=>?_⟩;cases e;obtain ⟨o,n,e,c,hd,_⟩:=pl;exact ⟨o,e,hd⟩
  ·refine ⟨⟨o,I.kIn p o hk,hc⟩,fun a e=>?_⟩;cases e;exact ⟨o,I.kIn _ o hk,hd⟩
  ·have z:∃ o,s.heap.get? p=some o∧o.ExactDict:=by
    rcases hk with ⟨kvs,hk⟩ | ⟨kvs,hk⟩
    ·obtain ⟨_,_,_,_,o,_,_,e,ex,_⟩:=I.hok p _ hk;exact ⟨o,e,ex⟩
    ·obtain ⟨_,_,_,_,o,_,_,e,ex,_⟩:=I.hok p _ hk;exact ⟨o,e,ex⟩
   obtain ⟨o,e,ex⟩:=z;refine ⟨⟨o,e,ex.1⟩,fun a e2=>?_⟩;cases e2;exact ⟨o,e,ex.2.1⟩
  ·obtain ⟨o,_,_,_,e,ex,_⟩:=I.hok p _ hk;refine ⟨⟨o,e,ex.1⟩,fun a e2=>?_⟩;cases e2;exact ⟨o,e,ex.2.1⟩
 | _=>exact False.elim ty
def tBM (K:PySem.W.Frag) (T:String) (r:V→List V→Hp→VK→Prop) (to:TE) (t:TA):TE:=fun σ H Q=>to σ H fun x H1=>tyV K T x H1∧t σ H1 fun xs H2=>r x xs H2 Q
variable {o e:Expr}{es:List Expr}{to:TE}{t:TA}{name:Str}{apos cpos:Pos}{T id:String}{r:V→List V→Hp→VK→Prop}
theorem pe_bm (pa:PlainAttrs T) (slot:Slot T name id) (hty:typeOf (.builtin id)=pure (.type "method_descriptor")) (hm:MtR X id r) (ho:PE X o to) (ha:PA X (e :: es) t)
 (hbase:attributeBase o name X.env (eval o X.env)=eval o X.env:=by rfl)
 (hfew:((backTo cpos (starEach (e :: es) X.env)).all (fun x=>!x.1) && (backToKw cpos (keywordEach [] X.env)).all (fun x=>x.1.isSome)
  && decide ((e :: es).length + ([]:List Keyword).length + (if ([]:List Keyword).isEmpty then 0 else 1) < 30))=true:=by rfl)
 (hline:(apos.endLine == cpos.line)=true:=by rfl) (hs:starEach (e :: es) X.env=(false,eval e X.env) :: starEach es X.env:=by rfl) (hplain:(backTo cpos (starEach es X.env)).any (·.1)=false:=by rfl) :
 PE X (.Call (.Attribute o name apos) (e :: es) [] cpos) (tBM X.K T r to t):=by
 intro pins s σ H Q I h;refine wpAny_Call_method_late hbase hfew hline rfl (thn (ho pins s σ H _ I h) fun v s1 ⟨x,H1,I1,r1,ty,q1⟩=>?_);obtain ⟨h1,h2⟩:=yCh I1 r1 ty;refine ⟨T,id,pa,slot,hty,h1,h2,?_⟩;have hA:=ha cpos pins s1 σ H1 _ I1 q1;rw [hs] at hA ⊢;refine Calls.callWith_builtin (by show (false || (backTo cpos (starEach es X.env)).any (·.1))=false;rw [hplain] <;> rfl) (Calls.evalArgs_plain ?_);exact thn hA fun us s2 ⟨vs,H2,I2,r2,q2⟩=>hm pins s2 σ H2 x vs v us Q I2 r1 r2 q2
end
end L2
namespace L2
open PySem PySem.Spec PyProof.Rows
def MtM (X:Cx) (id:String) (r:V→List V→Hp→VK→Prop):Prop :=
 ∀ (pins:List (Addr×Obj)) (s:Shared) (σ : St) (H:Hp) (x:V) (xs:List V) (v:Value) (us:List Value) (Q:VK),Inv X pins σ H s→RelV x v→Vals xs us→r x xs H Q →
  wpAny (model X.prog X.w) X.A (call (.builtin id) (v :: us)) (EP X pins σ Q) X.xe s
theorem Vals.one:∀ {x:V}{us:List Value},Vals [x] us→∃ u,us=[u]∧RelV x u
 | _,_,.cons r .nil=>⟨_,rfl,r⟩
theorem Vals.rep {xs:List V}{us:List Value} (h:Vals xs us):∀ k:Nat,Vals (List.replicate k xs).flatten (List.replicate k us).flatten
 | 0=>.nil
 | k + 1=>by
  rw [Zu,Zu,Y5,Y5];exact Vals.append h (Vals.rep h k)
theorem yC7 {α : Type} (l:List α):l.eraseIdx (l.length - 1)=l.dropLast:=by
 induction l with
 | nil=>rfl
 | cons a r ih =>
  cases r with
  | nil=>rfl
  | cons b r =>
   have e:(a :: b :: r).length - 1=((b :: r).length - 1) + 1:=by
    have h1:(a :: b :: r).length=r.length + 2:=rfl;have h2:(b :: r).length=r.length + 1:=rfl;omega
   rw [e,List.eraseIdx_cons_succ,ih]
   all_goals rfl
theorem zPk (its:List Value):∀ (k:Nat) (acc:List Value),
 List.foldl (fun x1 x2=>x1++x2) acc.toArray (List.replicate k its.toArray)=(acc++(List.replicate k its).flatten).toArray
 | 0,acc=>by simp
 | k + 1,acc=>by
  have e:acc.toArray++its.toArray=(acc++its).toArray:=by simp
  have e2:(acc++its)++(List.replicate k its).flatten=acc++(List.replicate (k + 1) its).flatten:=by
   rw [Zu,Y5,List.append_assoc]
  rw [← e2,← zPk its k (acc++its),← e,Zu,List.foldl_cons]
section
variable {X:Cx}{pins:List (Addr×Obj)}{σ : St}{H:Hp}{s:Shared}{l b:Addr}{xs ys zs:List V}
theorem Inv.lset {its its':List Value}{n:Nat}{f:Array Value→Array Value}{t':Nat} (I:Inv X pins σ H s) (hH:H l=some (.lst xs))
 (e:s.heap.get? l=some { cls:=.type "list",data:=.seq its.toArray n }) (hf:f its.toArray=its'.toArray) (hv:Vals ys its') (hz:ys.length≤sizeLine) :
 Inv X pins σ (upd H l (.lst ys)) { s with heap:=s.heap.update l (Obj.mapSeq f),toks:=t' }:=by
 have q:=PySem.IsL.update e f;rw [hf] at q;refine I.write (x:=l) (e:=l) (by rw [hH];exact trivial) (.inl rfl) (fun b' u hb hu=>(Heap.get?_update_other s.heap (Obj.mapSeq f) (Ne.symm hb)).trans hu) ⟨_,q⟩ ?_;exact ⟨hz,its',_,hv,q⟩
theorem Inv.lnew {its:List Value}{t':Nat} (I:Inv X pins σ H s) (hv:Vals ys its) (hz:ys.length≤sizeLine) :
 Inv X pins σ (upd H s.heap.objs.size (.lst ys)) { s with heap:=s.heap.push { cls:=.type "list",data:=.seq its.toArray },toks:=t' } :=
 I.laid (fun _ _ q=>Z0 _ q) (Z1 _) ⟨hz,its,0,hv,Z9 _ rfl⟩
theorem Inv.fresh (I:Inv X pins σ H s):H s.heap.objs.size=none:=I.hok.fresh (Z1 _)
theorem Inv.lstM (I:Inv X pins σ H s) (hH:H l=some (.lst xs)):xs.length≤sizeLine∧∃ (its:List Value) (n:Nat),Vals xs its∧xs.length=its.length∧s.heap.get? l=some { cls:=.type "list",data:=.seq its.toArray n }:=by
 obtain ⟨z,its,n,r,e⟩:=I.hok l _ hH;exact ⟨z,its,n,r,r.length,e⟩
theorem notLongL {n:Nat} (h:n≤sizeLine):Builtin.List.listTooLong n=false:=by
 unfold Builtin.List.listTooLong;exact decide_eq_false (by omega)
end
section
variable {X:Cx}
def rAppend:V→List V→Hp→VK→Prop:=fun x vs H Q=>∃ l xs y,x=.ref l∧vs=[y]∧H l=some (.lst xs)∧xs.length < sizeLine∧Q .non (upd H l (.lst (xs++[y])))
theorem zUm:MtM X "list.append" rAppend:=by
 intro pins s σ H x vs v us Q I rx rv h;obtain ⟨l,xs,y,rfl,rfl,hH,hz,q⟩:=h;cases rx;obtain ⟨u,rfl,ru⟩:=rv.one;obtain ⟨z,its,n,r,hl,e⟩:=I.lstM hH;refine call_meets F.slot_list_append ⟨_,e,rfl⟩ F.entry_list_append (F.args_list_append_2 _ _) (PySem.list_append l its.toArray n u (by rw [Z4];omega)) ⟨e,?_⟩;refine ⟨.non,_,I.lset (its':=its++[u]) hH e (by simp) (r.append (.cons ru .nil)) ?_,rfl,q⟩;rw [Zf,List.length_singleton];omega
def rExtend:V→List V→Hp→VK→Prop:=fun x vs H Q=>∃ l b xs zs,x=.ref l∧vs=[.ref b]∧H l=some (.lst xs)∧H b=some (.lst zs)∧xs.length + zs.length≤sizeLine∧Q .non (upd H l (.lst (xs++zs)))
theorem zUk:MtM X "list.extend" rExtend:=by
 intro pins s σ H x vs v us Q I rx rv h;obtain ⟨l,b,xs,zs,rfl,rfl,hH,hB,hz,q⟩:=h;cases rx;obtain ⟨u,rfl,ru⟩:=rv.one;cases ru;obtain ⟨z,its,n,r,hl,e⟩:=I.lstM hH;obtain ⟨z2,its2,n2,r2,hl2,e2⟩:=I.lstM hB;have hsz:its.toArray.size + its2.toArray.size≤sizeLine:=by rw [Z4,Z4];omega
 have hlong:¬ (!its.toArray.isEmpty && Builtin.List.listTooLong (its.toArray.size + its2.toArray.size))=true:=by
  rw [notLongL hsz,Bool.and_false];exact Z6
 refine call_meets F.slot_list_extend ⟨_,e,rfl⟩ F.entry_list_extend (F.args_list_extend_2 _ _)
  (AutoSeq1.list_extend_list_list_0 l its.toArray n b its2.toArray n2 hlong (by rw [Z4];omega) (by omega)) ⟨e,e2,?_⟩
 refine ⟨.non,_,I.lset (its':=its++its2) hH e (by simp) (r.append r2) ?_,rfl,q⟩;rw [Zf];omega
def rCat:R2:=fun x y H Q=>∃ l b xs zs,x=.ref l∧y=.ref b∧H l=some (.lst xs)∧H b=some (.lst zs)∧xs.length + zs.length≤sizeLine∧∀ p,H p=none→Q (.ref p) (upd H p (.lst (xs++zs)))
theorem yE5:OpR X (binaryOp .Add) rCat:=by
 intro pins s σ H x y v u Q I rx ry h;obtain ⟨l,b,xs,zs,rfl,rfl,hH,hB,hz,q⟩:=h;cases rx;cases ry;obtain ⟨z,its,n,r,hl,e⟩:=I.lstM hH;obtain ⟨z2,its2,n2,r2,hl2,e2⟩:=I.lstM hB;refine PySem.P.add_list e e2 ?_ (by rw [Z4,Z4];omega);have ea:its.toArray++its2.toArray=(its++its2).toArray:=by simp
 rw [ea];exact ⟨.ref _,_,I.lnew (t':=s.toks) (r.append r2) (by rw [Zf];omega),rfl,q _ I.fresh⟩
def rRep:R2:=fun x y H Q=>∃ l k xs,x=.ref l∧y=.int k∧H l=some (.lst xs)∧-(2 ^ 63)≤k∧k < 2 ^ 63∧xs.length * k.toNat≤sizeLine ∧
 ∀ p,H p=none→Q (.ref p) (upd H p (.lst (List.replicate k.toNat xs).flatten))
theorem yB4 {α : Type} (xs:List α) (k:Nat):(List.replicate k xs).flatten.length=k * xs.length:=by
 induction k with
 | zero=>simp
 | succ k ih=>rw [Zu,Y5,Zf,ih,Nat.succ_mul,Nat.add_comm]
theorem yDt:OpR X (binaryOp .Mult) rRep:=by
 intro pins s σ H x y v u Q I rx ry h;obtain ⟨l,k,xs,rfl,rfl,hH,h1,h2,hz,q⟩:=h;cases rx;obtain ⟨t,rfl⟩:=ry;obtain ⟨z,its,n,r,hl,e⟩:=I.lstM hH;have hlen:its.toArray.size * k.toNat≤sizeLine:=by rw [Z4,← hl];exact hz
 have hcap:¬ its.toArray.size * k.toNat > (2 ^ 63 - 1) / 8:=by
  have:(sizeLine:Nat)≤(2 ^ 63 - 1) / 8:=by decide
  omega
 have hfit:¬ (!Builtin.List.listFitsIndex k)=true:=by
  rw [fitsIndex_both h1 h2];exact Z6
 have hlong:¬ Builtin.List.listTooLong (its.toArray.size * k.toNat)=true:=by
  rw [notLongL hlen];exact Z6
 have hnew:List.foldl (fun x1 x2=>x1++x2) #[] (List.replicate (if its.toArray.isEmpty=true then 0 else k.toNat) its.toArray)=(List.replicate k.toNat its).flatten.toArray:=by
  have f0:∀ m:Nat,List.foldl (fun x1 x2=>x1++x2) #[] (List.replicate m its.toArray)=(List.replicate m its).flatten.toArray:=fun m=>by
   have:=zPk its m [];rw [List.nil_append] at this;exact this
  rw [f0];cases its with
  | nil=>simp
  | cons a r'=>rw [if_neg (by simp)]
 refine wpAny_binaryOp_repeat_ref (T:="list") (U:="int") (by decide) ⟨_,e,rfl⟩ (fun s'=>typeIs_int s' k t) noFill_list_mul F.fills_int_mul F.slot_int_rmul repeat_list F.slot_int_index.lookup
  (call_meets F.slot_int_rmul (typeIs_int s k t) F.entry_int_rmul (F.args_int_rmul_2 _ _) (int___rmul___int_list k t l its.toArray n)
   ⟨e,rfl,⟨_,e,rfl⟩,call_meets F.slot_list_mul ⟨_,e,rfl⟩ F.entry_list_mul (F.args_list_mul_2 _ _) (AutoListH.list___mul___list_int_3 l its.toArray n k t hfit hcap hlong) ⟨e,?_⟩⟩)
 rw [hnew];exact ⟨.ref _,_,I.lnew (t':=s.toks) (r.rep k.toNat) (by rw [yB4,Nat.mul_comm];exact hz),rfl,q _ I.fresh⟩
end
section
variable {prog:Program}{w:World}{A:Around}{E:Value→Shared→Prop}{s:Shared}
set_option maxRecDepth 100000 in
end
section
variable {X:Cx}
end
end L2
namespace Att
open PySem PySem.W PySem.Calls PyProof.Rows
theorem zLx {P:Params}{h:Heap}:∀ (ns:List Int) (vs:List Value),WellAll P h vs (ns.map WData.int)→IntsAre vs ns:=by
 intro ns
 induction ns with
 | nil =>
  intro vs w;rw [List.map_nil] at w;cases w;exact .nil
 | cons n ns ih =>
  intro vs w;rw [Zi] at w;cases w with
  | cons a b =>
   cases a;exact .cons _ _ (ih _ b)
theorem zTu {l:OpenLaw}{n:Nat} (hn:l.most=some n) {P:Params}{h:Heap}{args:List WData}{vals:List Value}
 (hpre:l.row.toRowW.claim.pre args=true) (hwl:WellAll P h vals args) :
 ∃ a vs ns,vals=[Value.ref a]∧args=[WData.list (ns.map WData.int)]∧h.get? a=some { cls:=.type "list",data:=.seq vs.toArray }∧IntsAre vs ns∧ns.length≤n:=by
 have hsh:WShape.hasAll [] args [.list .int]=true:=(pre_splitW hpre).1;have hc:l.pre.holds [] { args:=args }=true:=(pre_splitW hpre).2;obtain ⟨d,r,rfl,h1,h2⟩:=hasAllW_cons hsh;obtain rfl:=hasAllW_nil h2;obtain ⟨xs,rfl,h3⟩:=hasW_list h1;obtain ⟨ns,rfl⟩:=items_int h3;have hlen:ns.length≤n:=by
  unfold OpenLaw.pre at hc;have h4:(WTm.not (.lt (.lit (.int (n:Int))) (.len (.arg 0)))).holds [] { args:=[.list (ns.map .int)] }=true:=by
   have h4:=(holds_andW hc).1;rw [hn] at h4;exact h4
  have h5:=condW_of h4 (w_not (w_lt w_lit (w_len_list (w_arg rfl))));rw [Z2] at h5;refine Nat.le_of_not_lt fun q=>?_;have q':(n:Int) < ((ns.length:Nat):Int):=by omega
  first
   | (rw [decide_eq_true q'] at h5;exact absurd h5 (by decide))
   | (simp at h5;omega)
 cases hwl with
 | cons w1 w2 =>
  cases w2;cases w1 with
  | list ho hall=>exact ⟨_,_,ns,rfl,rfl,ho,zLx ns _ hall,hlen⟩
theorem zTy (l:OpenLaw) (args:List WData):l.row.toRowW.claim.post args (.bool true) args=true :=
 postW_of (r:=l.row.toRowW) (X:=(true == true))
  (show WShape.has [] (.bool true) .bool=true by first | rfl | decide | simp [WShape.has,WShape.arms,WShape.armsAll])
  (show (WTm.eq .res (.lit (.bool true))).value [] { args:=args,res:=some (.bool true),after:=args }=some (.bool (true == true)) from w_eq_bool (w_res rfl) w_lit) rfl
theorem attach_call {l:OpenLaw}{n:Nat}{q:Program}{loose:List Str}{XP:(Str→Option Value)→Heap→Prop}{YP:World→Heap→Prop}{d:DefRec}
 (hn:l.most=some n) (hdf:d.params.defaults=[])
 (call:∀ (w:World) (s₀ s₁ : Shared) (mg mb:Str→Option Value) (fa:Addr) (o:Obj) (pm cd doc:Value) (a:Addr) (vs:List Value) (ns:List Int),
  Ground q loose [] XP w s₀ mg mb s₁.heap→YP w s₁.heap →
  s₁.heap.get? fa=some o→o.data=.func (docDef d.name d.params d.body d.scope pm cd doc)→s₁.heap.CodeRec cd d.name→mg d.name=some (.ref fa) →
  s₁.heap.get? a=some { cls:=.type "list",data:=.seq vs.toArray }→IntsAre vs ns→ns.length≤n→s₁.gens = #[] →
  codeAny (model l.prog w) callerA (.call (.ref fa) ⟨[.ref a],[]⟩) (fun r s'=>r=.ok (.ret (.bool true))∧OldK s₁.heap s'.heap∧s'.os=s₁.os∧AllBare s'.gens) s₁) :
 WalkO q loose XP YP l.row.toRowW d [] (fun f vs=>PySem.call f vs):=by
 intro w s₀ s₁ mg mb G Y fa o pm cd doc dV kV ho hd hcd hD hmg hg args vals as hpre hlay hrd hwl hlo;obtain rfl:dV=.none:=Dflts.none hD hdf;obtain rfl:kV=.none:=Dflts.noKw hD;obtain ⟨a,vs,ns,rfl,rfl,hobj,hints,hlen⟩:=zTu hn hpre hwl;refine enter_call (codeAny_mono (call w s₀ s₁ mg mb fa o pm cd doc a vs ns G Y ho (fd_plain hd) hcd hmg hobj hints hlen hg) fun r s' hq=>?_);obtain ⟨rfl,h2,h3,h4⟩:=hq;exact ⟨.inl ⟨.bool true,.bool true,[],rfl,fun _=>rfl,.bool true,zTy l _,fun _=>⟨List.Pairwise.nil,fun _ hm=>(nomatch hm)⟩⟩,h2,h3,h4⟩
section
variable {prog:Program}{w:World}{A:Around}{E:Value→Shared→Prop}{s:Shared}{K:Frag}
end
end Att
namespace L2
open PySem PySem.Spec PyProof.Rows
theorem zOi:∀ {vs:List Value}{ns:List Int},IntsAre vs ns→Vals (ns.map V.int) vs
 | _,_,.nil=>.nil
 | _,_,.cons n t h=>.cons ⟨t,rfl⟩ (zOi h)
end L2
namespace L2
open PySem PySem.Spec PyProof.Rows
end L2
namespace L2
open PySem PySem.Spec PyProof.Rows
def inClass (s:Stmt) (j:Nat):Stmt:=match s with
 | .ClassDef _ _ _ body _ _ _ _ _ _ _=>body.getD j (.Pass ⟨0,0,0,0⟩)
 | _=>.Pass ⟨0,0,0,0⟩
def defArgs (s:Stmt):Arguments:=match s with
 | .FunctionDef _ a _ _ _ _ _ _ _ _=>a
 | _=>{ posonlyargs:=[],args:=[],vararg:=none,kwonlyargs:=[],kw_defaults:=[],kwarg:=none,defaults:=[] }
def defBody (s:Stmt):List Stmt:=match s with
 | .FunctionDef _ _ b _ _ _ _ _ _ _=>b
 | _=>[]
def defScope (s:Stmt):Scope:=match s with
 | .FunctionDef _ _ _ _ _ _ sc _ _ _=>sc
 | _=>{ kind:=.function,names:=[],isGenerator:=false,isCoroutine:=false }
abbrev CX0:CXT:=fun _ _ _ _ _ _=>False
structure Fun (K:PySem.W.Frag) (x qual:Str) (st:Stmt) (f:Addr) (fd:FuncData):Prop where
 ex:∃ (oc:Value) (od:Option Addr) (kV doc pm:Value) (an:Option Addr) (cdv ct:Value) (osl:Array (Option Value)),
  fd=PySem.W.fnOf x qual (defArgs st) (defBody st) (defScope st) .none kV doc pm an cdv ct∧K.lookup f=some ⟨oc,od,.func fd,osl⟩∧PySem.W.codeIn K cdv qual=true
 kp:PySem.W.keepIn K (.ref f)=true
section
variable {P:Program}{w:World}{K:PySem.W.Frag}{mg:Str→Option Value}{base:Heap}
theorem Fun.binds {x qual:Str}{st:Stmt}{f:Addr}{fd:FuncData}{ps:List Str} (F:Fun K x qual st f fd)
 (h:∀ (kV doc pm:Value) (an:Option Addr) (cdv ct:Value) (us:List Value),us.length=ps.length→bindArgs (PySem.W.fnOf x qual (defArgs st) (defBody st) (defScope st) .none kV doc pm an cdv ct) ⟨us,[]⟩=pure (ps.zip us)):Binds K fd ps []:=by
 obtain ⟨oc,od,kV,doc,pm,an,cdv,ct,osl,rfl,lk,hcd⟩:=F.ex;exact .all (h kV doc pm an cdv ct)
theorem zZ3 {x qual:Str}{st:Stmt}{f:Addr}{oc:Value}{od an:Option Addr}{osl:Array (Option Value)}{kV doc pm cdv ct:Value} (l:K.lookup f=some ⟨oc,od,.func (PySem.W.fnOf x qual (defArgs st) (defBody st) (defScope st) .none kV doc pm an cdv ct),osl⟩)
 (c:PySem.W.codeIn K cdv qual=true) (k:PySem.W.keepIn K (.ref f)=true):Fun K x qual st f (PySem.W.fnOf x qual (defArgs st) (defBody st) (defScope st) .none kV doc pm an cdv ct):=⟨⟨oc,od,kV,doc,pm,an,cdv,ct,osl,rfl,l,c⟩,k⟩
end
theorem zAn {A:Around}{k:Nat} (hr:Room k A):A.units + 1 < cLine:=Yd (Nat.add_le_add_left (by decide:1≤64) _) hr.units
section
variable {X:Cx}
end
def Same (H H':Hp):Prop:=∀ b o,H b=some o→H' b=some o
end L2
namespace L2
open PySem PySem.Spec PyProof.Rows
section
variable {κ : Type} [DecidableEq κ]
def valV (kvs:List (κ×V)) (k : κ):Option V:=(kvs.find? fun kv=>decide (kv.1=k)).map (·.2)
def putK (kvs:List (κ×V)) (k : κ) (v:V):List (κ×V) :=
 if (kvs.any fun kv=>decide (kv.1=k))=true then kvs.map (fun kv=>if kv.1=k then (kv.1,v) else kv) else kvs++[(k,v)]
def dropK (kvs:List (κ×V)) (k : κ):List (κ×V):=kvs.filter fun kv=>decide (kv.1≠k)
theorem zNd {p : κ×V}{r:List (κ×V)}{k : κ} (e:p.1=k):valV (p :: r) k=some p.2:=by simp [valV,Y1,e]
theorem zNe {p : κ×V}{r:List (κ×V)}{k : κ} (e:¬ p.1=k):valV (p :: r) k=valV r k:=by simp [valV,Y1,e]
theorem zR4 (k : κ):∀ kvs:List (κ×V),(kvs.any fun kv=>decide (kv.1=k))=(valV kvs k).isSome
 | []=>rfl
 | p :: r=>by
  rw [Yb];by_cases e:p.1=k
  ·simp only [zNd e,decide_eq_true e,Bool.true_or,Option.isSome_some]
  ·rw [zNe e,decide_eq_false e,Bool.false_or];exact zR4 k r
theorem zLt (kvs:List (κ×V)) (k : κ) (v:V):(putK kvs k v).length≤kvs.length + 1:=by
 unfold putK;split
 ·rw [Z2];omega
 ·rw [Zf,Zd,List.length_nil];omega
theorem RelO.isSome_eq {o:Option V}{u:Option Value} (r:RelO o u):o.isSome=u.isSome:=by
 cases o with
 | none=>cases u with
  | none=>rfl
  | some _=>exact (show False from r).elim
 | some _=>cases u with
  | none=>exact (show False from r).elim
  | some _=>rfl
theorem RelO.getD {o:Option V}{u:Option Value}{d:V}{d':Value} (r:RelO o u) (rd:RelV d d'):RelV (o.getD d) (u.getD d'):=by
 cases o with
 | none=>cases u with
  | none=>exact rd
  | some _=>exact (show False from r).elim
 | some _=>cases u with
  | none=>exact (show False from r).elim
  | some _=>exact r
theorem KV.val {kvs:List (κ×V)}{vs:List (κ×Value)} (r:KV kvs vs) (k : κ):RelO (valV kvs k) (valueAt vs k):=by
 unfold KV at r
 induction r with
 | nil=>exact True.intro
 | @cons p q ps qs h t ih =>
  obtain ⟨h1,h2⟩:=h;by_cases e:p.1=k
  ·have e':q.1=k:=h1.symm.trans e;have b:valueAt (q :: qs) k=some q.2:=by simp [valueAt,Y1,e']
   rw [zNd e,b];exact h2
  ·have e':¬ q.1=k:=fun z=>e (h1.trans z);have b:valueAt (q :: qs) k=valueAt qs k:=by simp [valueAt,Y1,e']
   rw [zNe e,b];exact ih
theorem KV.any {kvs:List (κ×V)}{vs:List (κ×Value)} (r:KV kvs vs) (k : κ):(kvs.any fun kv=>decide (kv.1=k))=vs.any fun kv=>decide (kv.1=k):=by
 unfold KV at r
 induction r with
 | nil=>rfl
 | cons h t ih=>rw [Yb,Yb,ih,h.1]
theorem KV.repl {kvs:List (κ×V)}{vs:List (κ×Value)} (r:KV kvs vs) (k : κ) {y:V}{u:Value} (ry:RelV y u) :
 KV (kvs.map fun kv=>if kv.1=k then (kv.1,y) else kv) (vs.map fun kv=>if kv.1=k then (kv.1,u) else kv):=by
 unfold KV at r ⊢
 induction r with
 | nil=>exact .nil
 | @cons p q ps qs h t ih =>
  rw [Zi,Zi];refine .cons ?_ ih;obtain ⟨h1,h2⟩:=h;by_cases e:p.1=k
  ·rw [if_pos e,if_pos (h1.symm.trans e)];exact ⟨h1,ry⟩
  ·rw [if_neg e,if_neg (fun z=>e (h1.trans z))];exact ⟨h1,h2⟩
theorem KV.put {kvs:List (κ×V)}{vs:List (κ×Value)} (r:KV kvs vs) (k : κ) {y:V}{u:Value} (ry:RelV y u):KV (putK kvs k y) (stored vs k u):=by
 unfold putK stored;rw [r.any k];by_cases e:(vs.any fun kv=>decide (kv.1=k))=true
 ·rw [if_pos e,if_pos e];exact r.repl k ry
 ·rw [if_neg e,if_neg e];exact Paired.snoc r ⟨rfl,ry⟩
theorem KV.drop {kvs:List (κ×V)}{vs:List (κ×Value)} (r:KV kvs vs) (k : κ):KV (dropK kvs k) (without vs k):=by
 unfold KV at r ⊢;unfold dropK without
 induction r with
 | nil=>exact .nil
 | @cons p q ps qs h t ih =>
  obtain ⟨h1,h2⟩:=h;rw [List.filter_cons,List.filter_cons];by_cases e:p.1=k
  ·have a:¬ decide (p.1≠k)=true:=by simp [e]
   have b:¬ decide (q.1≠k)=true:=by simp [h1.symm.trans e]
   rw [if_neg a,if_neg b];exact ih
  ·have e':¬ q.1=k:=fun z=>e (h1.trans z);have a:decide (p.1≠k)=true:=by simp [e]
   have b:decide (q.1≠k)=true:=by simp [e']
   rw [if_pos a,if_pos b];exact .cons ⟨h1,h2⟩ ih
theorem KV.keys {kvs:List (κ×V)}{vs:List (κ×Value)} (r:KV kvs vs):kvs.map (·.1)=vs.map (·.1):=by
 unfold KV at r
 induction r with
 | nil=>rfl
 | cons h t ih=>rw [Zi,Zi,ih,h.1]
theorem KV.length {kvs:List (κ×V)}{vs:List (κ×Value)} (r:KV kvs vs):kvs.length=vs.length:=Paired.length r
theorem zSc (kvs:List (κ×V)) (k : κ):(dropK kvs k).length≤kvs.length:=Y0 _ _
end
theorem zO1 {P:Program}{w:World}{k:Key}{u:Value} (r:RelV (kV k) u):(mixKind P w).is k u=true:=by
 cases k with
 | inl i=>obtain ⟨t,e⟩:=(show ∃ t,u=Value.int i t from r);subst e;exact zQj P w i t
 | inr x=>obtain ⟨t,e⟩:=(show ∃ t,u=Value.str x t from r);subst e;exact zQi P w x t
theorem zPg {P:Program}{w:World}:∀ {ks:List Key}{us:List Value},Vals (ks.map kV) us→ItemsAre (mixKind P w) ks us
 | [],_,r=>by rw [List.map_nil] at r;cases r;exact .nil
 | k :: ks,_,r=>by
  rw [Zi] at r;cases r with
  | cons h t=>exact .cons (zO1 h) (zPg t)
abbrev KT (H:Hp):List (List Key×V)→List (List Key×Addr×Value)→Prop:=Paired fun p q=>p.1=q.1∧H q.2.1=some (.tup (p.1.map kV))∧RelV p.2 q.2.2
theorem KT.val {H:Hp}{kvs:List (List Key×V)}{xs:List (List Key×Addr×Value)} (r:KT H kvs xs) (k:List Key):RelO (valV kvs k) ((atKey xs k).map (·.2)):=by
 induction r with
 | nil=>exact True.intro
 | @cons p q ps qs h t ih =>
  obtain ⟨h1,_,h2⟩:=h;by_cases e:p.1=k
  ·have e':q.1=k:=h1.symm.trans e;have b:atKey (q :: qs) k=some q.2:=by simp [atKey,Y1,e']
   rw [zNd e,b];exact h2
  ·have e':¬ q.1=k:=fun z=>e (h1.trans z);have b:atKey (q :: qs) k=atKey qs k:=by simp [atKey,Y1,e']
   rw [zNe e,b];exact ih
theorem KT.repl {H:Hp}{kvs:List (List Key×V)}{xs:List (List Key×Addr×Value)} (r:KT H kvs xs) (k:List Key) {y:V}{u:Value} (ry:RelV y u) :
 KT H (kvs.map fun kv=>if kv.1=k then (kv.1,y) else kv) (xs.map (putAt k u)):=by
 induction r with
 | nil=>exact .nil
 | @cons p q ps qs h t ih =>
  rw [Zi,Zi];refine .cons ?_ ih;obtain ⟨h1,h2,h3⟩:=h;unfold putAt;by_cases e:p.1=k
  ·rw [if_pos e,if_pos (h1.symm.trans e)];exact ⟨h1,h2,ry⟩
  ·rw [if_neg e,if_neg (fun z=>e (h1.trans z))];exact ⟨h1,h2,h3⟩
theorem KT.put {H:Hp}{kvs:List (List Key×V)}{xs:List (List Key×Addr×Value)} (r:KT H kvs xs) (k:List Key) {b:Addr}{y:V}{u:Value} (hb:H b=some (.tup (k.map kV))) (ry:RelV y u) :
 KT H (putK kvs k y) (storedH xs k b u):=by
 have e:(kvs.any fun kv=>decide (kv.1=k))=(atKey xs k).isSome:=by
  rw [zR4,(r.val k).isSome_eq,Option.isSome_map]
 unfold putK storedH;rw [e];by_cases q:(atKey xs k).isSome=true
 ·rw [if_pos q,if_pos q];exact r.repl k ry
 ·rw [if_neg q,if_neg q];exact Paired.snoc r ⟨rfl,hb,ry⟩
theorem KT.keeps {H H':Hp}{kvs:List (List Key×V)}{xs:List (List Key×Addr×Value)} (r:KT H kvs xs) (ht:∀ b ys,H b=some (.tup ys)→H' b=some (.tup ys)):KT H' kvs xs :=
 Paired.mapP r fun _ _ z=>⟨z.1,ht _ _ z.2.1,z.2.2⟩
section
variable {P:Program}{w:World}{H:Hp}{h:Heap}{a:Addr}
theorem yCu {u:HO} (ok:HOk P w H h) (e:Rd H a u):ObjOk P w H h a u:=e.ok ok
theorem zG5 {kvs:List (Key×V)} (ok:HOk P w H h) (e:Rd H a (.dK kvs)):kvs.length≤sizeLine∧(a == sysModules)=false∧∃ vs,KV kvs vs∧h.DictOf (mixKind P w) a vs :=
 show ObjOk P w H h a (.dK kvs) from yCu ok e
theorem yBl {kvs:List (Key×V)} (ok:HOk P w H h) (e:H a=some (.dK kvs)):kvs.length≤sizeLine∧(a == sysModules)=false∧∃ vs,KV kvs vs∧h.DictOf (mixKind P w) a vs:=zG5 ok (.inl e)
theorem zDw {ks:List Key} (ok:HOk P w H h) (e:H a=some (.tup (ks.map kV))):(tupleKind (mixKind P w)).is h ks a:=by
 obtain ⟨_,its,r,o,h1,h2,n,h3⟩:=(show ObjOk P w H h a (.tup (ks.map kV)) from ok a _ e);exact ⟨o,its.toArray,n,h1,h2,h3,by simpa using zPg r⟩
theorem zPm {kvs:List (List Key×V)} (ok:HOk P w H h) (e:Rd H a (.dT kvs)):kvs.length≤sizeLine∧(a == sysModules)=false ∧
 ∃ xs,KT H kvs xs∧h.DictOfH (tupleKind (mixKind P w)) a xs:=by
 obtain ⟨z,y,xs,r,o,es,ep,h1,h2,h3,h4,h5⟩:=(show ObjOk P w H h a (.dT kvs) from yCu ok e);refine ⟨z,y,xs,r,o,es,ep,h1,h2,h3,h4,fun x hx=>?_,h5⟩;have all:∀ {l:List (List Key×V)}{m:List (List Key×Addr×Value)},KT H l m→∀ x∈m,(tupleKind (mixKind P w)).is h x.1 x.2.1:=by
  intro l m q
  induction q with
  | nil=>intro x hx;exact nomatch hx
  | @cons p q ps qs hq t ih =>
   intro x hx;rcases List.mem_cons.mp hx with e | hx
   ·subst e;exact zDw ok (by rw [← hq.1];exact hq.2.1)
   ·exact ih x hx
 exact all r x hx
theorem dt_of {kvs:List (List Key×V)} (ok:HOk P w H h) (e:H a=some (.dT kvs)):kvs.length≤sizeLine∧(a == sysModules)=false ∧
 ∃ xs,KT H kvs xs∧h.DictOfH (tupleKind (mixKind P w)) a xs:=zPm ok (.inl e)
end
def DGet (H:Hp) (a:Addr) (y:V) (r:Option V):Prop :=
 (∃ kvs k,Rd H a (.dK kvs)∧y=kV k∧r=valV kvs k)∨∃ kvs k b,Rd H a (.dT kvs)∧y=.ref b∧H b=some (.tup (k.map kV))∧r=valV kvs k
def DPut (H:Hp) (a:Addr) (y v:V) (H':Hp):Prop :=
 (∃ kvs k,H a=some (.dK kvs)∧y=kV k∧kvs.length < sizeLine∧H'=upd H a (.dK (putK kvs k v))) ∨
 ∃ kvs k b,H a=some (.dT kvs)∧y=.ref b∧H b=some (.tup (k.map kV))∧kvs.length < sizeLine∧H'=upd H a (.dT (putK kvs k v))
theorem DGet.k {H:Hp}{a:Addr}{kvs:List (Key×V)}{k:Key} (e:H a=some (.dK kvs)):DGet H a (kV k) (valV kvs k):=.inl ⟨kvs,k,.inl e,rfl,rfl⟩
theorem DGet.t {H:Hp}{a b:Addr}{kvs:List (List Key×V)}{k:List Key} (e:H a=some (.dT kvs)) (eb:H b=some (.tup (k.map kV))):DGet H a (.ref b) (valV kvs k):=.inr ⟨kvs,k,b,.inl e,rfl,eb,rfl⟩
theorem DPut.k {H:Hp}{a:Addr}{kvs:List (Key×V)}{k:Key}{v:V} (e:H a=some (.dK kvs)) (hl:kvs.length < sizeLine):DPut H a (kV k) v (upd H a (.dK (putK kvs k v))):=.inl ⟨kvs,k,e,rfl,hl,rfl⟩
theorem DPut.t {H:Hp}{a b:Addr}{kvs:List (List Key×V)}{k:List Key}{v:V} (e:H a=some (.dT kvs)) (eb:H b=some (.tup (k.map kV))) (hl:kvs.length < sizeLine) :
 DPut H a (.ref b) v (upd H a (.dT (putK kvs k v))):=.inr ⟨kvs,k,b,e,rfl,eb,hl,rfl⟩
section
variable {X:Cx}{pins:List (Addr×Obj)}{σ : St}{H:Hp}{s:Shared}{a:Addr}{y v:V}{u r:Value}{o:Option V}{A:Around}{E:Value→Shared→Prop}
theorem Inv.big (I:Inv X pins σ H s):sysModules < s.heap.objs.size:=by
 have h:mainGlobals < s.heap.objs.size:=(I.mod.glob.keeps I.bk).lt;exact Nat.lt_trans (by decide) h
theorem zVo {Q:Value→Shared→Prop} (hu:A.units + 1 < cLine) (I:Inv X pins σ H s) (g:DGet H a y (some v)) (ry:RelV y u) (h:∀ w' s',Inv X pins σ H s'→RelV v w'→Q w' s') :
 wpAny (model X.prog X.w) A (getItem (.ref a) u) Q E s:=by
 rcases g with ⟨kvs,k,e,ey,l⟩ | ⟨kvs,k,b,e,ey,eb,l⟩
 ·subst ey;obtain ⟨z,hd,vs,rel,dd⟩:=zG5 I.hok e;obtain ⟨w',hw,rw'⟩:=RelO.some_of (v:=v) (o:=valueAt vs k) (by rw [l];exact rel.val k);exact wpAny_getItem_of (zO1 ry) dd.mapOf hw (h w' _ (I.tok _) rw')
 ·subst ey;cases (show u=Value.ref b from ry);obtain ⟨z,hd,xs,rel,dd⟩:=zPm I.hok e;obtain ⟨w',hw,rw'⟩:=RelO.some_of (v:=v) (o:=(atKey xs k).map (·.2)) (by rw [l];exact rel.val k);obtain ⟨p,hp,hp2⟩:=Option.map_eq_some_iff.mp hw;refine wpAny_getItem_heap (tupleKind_room_in1 hu) (zDw I.hok eb) dd hp ?_;rw [hp2];exact h w' _ (I.tok _) rw'
theorem d_in {Q:Value→Shared→Prop} (hu:A.units + 1 < cLine) (I:Inv X pins σ H s) (g:DGet H a y o) (ry:RelV y u) (h:∀ s',Inv X pins σ H s'→Q (.bool o.isSome) s') :
 wpAny (model X.prog X.w) A (compareOp .In u (.ref a)) Q E s:=by
 rcases g with ⟨kvs,k,e,ey,l⟩ | ⟨kvs,k,b,e,ey,eb,l⟩
 ·subst ey;obtain ⟨z,hd,vs,rel,dd⟩:=zG5 I.hok e;refine wpAny_in_of (zO1 ry) hd dd.mapOf ?_;rw [← (rel.val k).isSome_eq,← l];exact h _ (I.tok _)
 ·subst ey;cases (show u=Value.ref b from ry);obtain ⟨z,hd,xs,rel,dd⟩:=zPm I.hok e;refine wpAny_in_heap (tupleKind_room_in1 hu) (zDw I.hok eb) hd dd ?_;have q:=(rel.val k).isSome_eq;rw [Option.isSome_map] at q;rw [← q,← l];exact h _ (I.tok _)
theorem yBq {Q:Value→Shared→Prop} (hu:A.units + 1 < cLine) (I:Inv X pins σ H s) (g:DGet H a y o) (ry:RelV y u) (h:∀ s',Inv X pins σ H s'→Q (.bool (!o.isSome)) s') :
 wpAny (model X.prog X.w) A (compareOp .NotIn u (.ref a)) Q E s:=by
 rcases g with ⟨kvs,k,e,ey,l⟩ | ⟨kvs,k,b,e,ey,eb,l⟩
 ·subst ey;obtain ⟨z,hd,vs,rel,dd⟩:=zG5 I.hok e;refine wpAny_notIn_of (zO1 ry) hd dd.mapOf ?_;rw [← (rel.val k).isSome_eq,← l];exact h _ (I.tok _)
 ·subst ey;cases (show u=Value.ref b from ry);obtain ⟨z,hd,xs,rel,dd⟩:=zPm I.hok e;refine wpAny_notIn_heap (tupleKind_room_in1 hu) (zDw I.hok eb) hd dd ?_;have q:=(rel.val k).isSome_eq;rw [Option.isSome_map] at q;rw [← q,← l];exact h _ (I.tok _)
theorem zO7 {h':Heap}{t':Nat}{ob:HO} (I:Inv X pins σ H s) (mu:Mut (H a)) (hs:Heap.SameBut a s.heap h') (he:∃ q,h'.get? a=some q) (new:ObjOk X.prog X.w (upd H a ob) h' a ob) :
 Inv X pins σ (upd H a ob) { s with heap:=h',toks:=t' } :=
 I.write (x:=a) (e:=a) mu (.inl rfl) (fun b q hb z=>(hs.2 b hb).trans z) he new
theorem zSd {P:Program}{w:World}{H':Hp}{h':Heap}{kvs:List (Key×V)}{vs:List (Key×Value)} (z:kvs.length≤sizeLine) (hd:(a == sysModules)=false) (rel:KV kvs vs) (dd:h'.DictOf (mixKind P w) a vs) :
 ObjOk P w H' h' a (.dK kvs):=⟨z,hd,vs,rel,dd⟩
theorem zVn {H':Hp}{Q:Unit→Shared→Prop} (hu:A.units + 1 < cLine) (I:Inv X pins σ H s) (g:DPut H a y v H') (ry:RelV y u) (rv:RelV v r) (h:∀ s',Inv X pins σ H' s'→Q () s') :
 wpAny (model X.prog X.w) A (setItem (.ref a) u r) Q E s:=by
 rcases g with ⟨kvs,k,e,ey,l,eH⟩ | ⟨kvs,k,b,e,ey,eb,l,eH⟩
 ·subst ey eH;obtain ⟨z,hd,vs,rel,dd⟩:=yBl I.hok e;have hz:vs.length≤sizeLine:=by rw [← rel.length];exact z
  have hl:(putK kvs k v).length≤sizeLine:=by have:=zLt kvs k v;omega
  refine wpAny_setItem_pairs (hsz:=hz) (zO1 ry) dd fun h' dd' hs=>h _ ?_;have he:∃ q,h'.get? a=some q:=let ⟨q,_,_,hq,_⟩:=dd';⟨q,hq⟩;exact zO7 I (by rw [e];exact True.intro) hs he (zSd hl hd (rel.put k rv) dd')
 ·subst ey eH;cases (show u=Value.ref b from ry);obtain ⟨z,hd,xs,rel,dd⟩:=dt_of I.hok e;have hz:xs.length≤sizeLine:=by rw [← Paired.length rel];exact z
  have hl:(putK kvs k v).length≤sizeLine:=by have:=zLt kvs k v;omega
  refine wpAny_setItem_heap (hsz:=hz) (tupleKind_room_in1 hu) (zDw I.hok eb) dd fun h' dd' hs=>h _ ?_;obtain ⟨q,es,ep,hq,h2,h3,h4,_,h5⟩:=dd';refine zO7 I (by rw [e];exact True.intro) hs ⟨q,hq⟩ ⟨hl,hd,_,(rel.put k eb rv).keeps fun c ys ec=>?_,q,es,ep,hq,h2,h3,h4,h5⟩;rw [zAa (ne_of ec e (fun z=>nomatch z))];exact ec
end
section
variable {X:Cx}{pins:List (Addr×Obj)}{σ : St}{H:Hp}{s:Shared}{a:Addr}{kvs:List (Key×V)}{k:Key}{u:Value}{A:Around}{E:Value→Shared→Prop}
theorem yFi {Q:Unit→Shared→Prop} (I:Inv X pins σ H s) (e:H a=some (.dK kvs)) (ry:RelV (kV k) u) (l:(valV kvs k).isSome=true) (h:∀ s',Inv X pins σ (upd H a (.dK (dropK kvs k))) s'→Q () s') :
 wpAny (model X.prog X.w) A (delItem (.ref a) u) Q E s:=by
 obtain ⟨z,hd,vs,rel,dd⟩:=yBl I.hok e;refine wpAny_delItem_slot dd.typeIs (by decide) PySem.F.slot_dict_delitem
  (call_meetsIn PySem.F.slot_dict_delitem dd.typeIs PySem.F.entry_dict_delitem (PySem.F.args_dict_delitem_2 _ _) (meets_dict_delitem_pairs (mixKind X.prog X.w) a (zO1 ry)) ⟨vs,dd,by rw [← rel.length];exact z,by rw [← (rel.val k).isSome_eq];exact l,fun h' dd' hs=>h _ ?_⟩)
 have he:∃ q,h'.get? a=some q:=let ⟨q,_,_,hq,_⟩:=dd';⟨q,hq⟩;exact zO7 I (by rw [e];exact True.intro) hs he (zSd (Z3 (zSc kvs k) z) hd (rel.drop k) dd')
theorem d_pop {v:V}{more:List Value}{Q:Value→Shared→Prop} (I:Inv X pins σ H s) (e:H a=some (.dK kvs)) (ry:RelV (kV k) u) (l:valV kvs k=some v) (hm:more=[]∨∃ x,more=[x])
 (h:∀ w' s',Inv X pins σ (upd H a (.dK (dropK kvs k))) s'→RelV v w'→Q w' s'):wpAny (model X.prog X.w) A (call (.builtin "dict.pop") (.ref a :: u :: more)) Q E s:=by
 obtain ⟨z,hd,vs,rel,dd⟩:=yBl I.hok e;obtain ⟨w',hw,rw'⟩:=RelO.some_of (v:=v) (o:=valueAt vs k) (by rw [← l];exact rel.val k);have hp:(keyPart u).isSome=true:=by
  cases k with
  | inl i=>obtain ⟨t,q⟩:=(show ∃ t,u=Value.int i t from ry);subst q;rfl
  | inr x=>obtain ⟨t,q⟩:=(show ∃ t,u=Value.str x t from ry);subst q;rfl
 have ha:argsOk "dict.pop" ⟨.ref a :: u :: more,[]⟩:=by
  rcases hm with q | ⟨x,q⟩
  ·subst q;exact PySem.F.args_dict_pop_2 _ _
  ·subst q;exact PySem.F.args_dict_pop_3 _ _ _
 refine call_meetsIn PySem.F.slot_dict_pop dd.typeIs PySem.F.entry_dict_pop ha (meets_dict_pop_there (mixKind X.prog X.w) a (zO1 ry) more hm hp)
  ⟨vs,w',dd,by rw [← rel.length];exact z,hw,fun h' dd' hs=>h w' _ ?_ rw'⟩
 have he:∃ q,h'.get? a=some q:=let ⟨q,_,_,hq,_⟩:=dd';⟨q,hq⟩;exact zO7 I (by rw [e];exact True.intro) hs he (zSd (Z3 (zSc kvs k) z) hd (rel.drop k) dd')
theorem d_len {Q:Value→Shared→Prop} (I:Inv X pins σ H s) (e:Rd H a (.dK kvs)) (h:∀ t s',Inv X pins σ H s'→Q (.int kvs.length t) s'):wpAny (model X.prog X.w) A (call (.builtin "len") [.ref a]) Q E s:=by
 obtain ⟨z,hd,vs,rel,dd⟩:=zG5 I.hok e;refine call_len_dict hd dd (by rw [← rel.length];rw [sizeLine_eq] at z;omega) ?_;rw [← rel.length];exact h _ _ (I.tok _)
end
theorem zQs {X:Cx}{pins:List (Addr×Obj)}{σ : St}{H:Hp}{s:Shared}{a:Addr}{y:V}{o:Option V} (I:Inv X pins σ H s) (g:DGet H a y o):s.TypeIs (.ref a) "dict":=by
 rcases g with ⟨kvs,k,e,_,_⟩ | ⟨kvs,k,b,e,_,_,_⟩
 ·obtain ⟨_,_,vs,_,dd⟩:=zG5 I.hok e;exact dd.typeIs
 ·obtain ⟨_,_,xs,_,dd⟩:=zPm I.hok e;exact dd.typeIs
def sDPut (td ty tv:TE):TS:=fun D σ H=>tv σ H fun v H1=>td σ H1 fun x H2=>ty σ H2 fun y H3=>∃ a H4,x=.ref a∧DPut H3 a y v H4∧D.nx σ H4
section
variable {X:Cx}{o i e value:Expr}{pos pos' tpos:Pos}{td ty tv:TE}
theorem yA2 (hu:X.A.units + 1 < cLine) (ho:PE X o td) (hi:PE X i ty) (hv:PE X value tv) (hs:swapsWith value (some (.Subscript o i pos')) pos.line X.env=pure false) :
 PS X (.Assign [.Subscript o i pos'] value pos) (sDPut td ty tv):=by
 intro pins s σ H D I h;refine wpAny_Assign_Subscript (thn (hv pins s σ H _ I h) fun r s1 ⟨v,H1,I1,rv,q1⟩=>thn (ho pins s1 σ H1 _ I1 q1) fun u s2 ⟨x,H2,I2,rx,q2⟩=>thn (hi pins s2 σ H2 _ I2 q2) fun iv s3 ⟨y,H3,I3,ry,a,H4,ex,g,q3⟩=>?_) hs;subst ex;obtain rfl:u=Value.ref a:=rx;exact zVn hu I3 g ry rv fun s4 I4=>⟨σ,H4,I4,q3⟩
end
theorem zXt {P:Program}{w:World}{H:Hp} (h:Heap) (hb:sysModules < h.objs.size):ObjOk P w H (h.push { cls:=.type "dict",data:=.dict #[] }) h.objs.size (.dK []) :=
 ⟨Y4 _,beq_eq_false_iff_ne.mpr (Ne.symm (Za hb)),[],.nil,Heap.DictOf.new h⟩
def tDNewK:TE:=fun _ H Q=>∀ p,H p=none→Q (.ref p) (upd H p (.dK []))
section
variable {X:Cx}{pos:Pos}
theorem zRp:PE X (.Dict [] [] pos) tDNewK:=fun pins s σ H Q I h =>
 wpAny_Dict_empty ⟨.ref s.heap.objs.size,_,I.laid (a:=s.heap.objs.size) (o:=.dK []) (t':=s.toks) (fun _ _ q=>Z0 _ q) (Z1 _) (zXt s.heap I.big),rfl,h _ (I.hok.fresh (Z1 _))⟩
end
structure M1 (X:Cx) (o:Expr) (m:Str) (apos:Pos) (e:Expr) (cpos:Pos):Prop where
 base:attributeBase o m X.env (eval o X.env)=eval o X.env
 few:((backTo cpos (starEach [e] X.env)).all (fun x=>!x.1) && (backToKw cpos (keywordEach [] X.env)).all (fun x=>x.1.isSome)
  && decide (([e]:List Expr).length + ([]:List Keyword).length + (if ([]:List Keyword).isEmpty then 0 else 1) < 30))=true
 line:(apos.endLine == cpos.line)=true
 trees:backTo cpos (starEach [e] X.env)=[(false,eval e X.env)]
structure M2 (X:Cx) (o:Expr) (m:Str) (apos:Pos) (e f:Expr) (cpos:Pos):Prop where
 base:attributeBase o m X.env (eval o X.env)=eval o X.env
 few:((backTo cpos (starEach [e,f] X.env)).all (fun x=>!x.1) && (backToKw cpos (keywordEach [] X.env)).all (fun x=>x.1.isSome)
  && decide (([e,f]:List Expr).length + ([]:List Keyword).length + (if ([]:List Keyword).isEmpty then 0 else 1) < 30))=true
 line:(apos.endLine == cpos.line)=true
 trees:backTo cpos (starEach [e,f] X.env)=[(false,eval e X.env),(false,eval f X.env)]
def IsD (H:Hp) (a:Addr):Prop:=(∃ kvs,Rd H a (.dK kvs))∨∃ kvs,Rd H a (.dT kvs)
theorem zS4 {X:Cx}{pins:List (Addr×Obj)}{σ : St}{H:Hp}{s:Shared}{a:Addr} (I:Inv X pins σ H s) (d:IsD H a) :
 s.TypeIs (.ref a) "dict"∧(∀ b,Value.ref a=.ref b→∃ ob,s.heap.get? b=some ob∧ob.dict=none)∧(a == sysModules)=false:=by
 rcases d with ⟨kvs,e⟩ | ⟨kvs,e⟩
 ·obtain ⟨_,hd,vs,_,dd⟩:=zG5 I.hok e;refine ⟨dd.typeIs,fun b q=>?_,hd⟩;cases q;obtain ⟨ob,_,_,h1,h2,_⟩:=dd;exact ⟨ob,h1,h2.2.1⟩
 ·obtain ⟨_,hd,xs,_,dd⟩:=zPm I.hok e;refine ⟨dd.typeIs,fun b q=>?_,hd⟩;cases q;obtain ⟨ob,_,_,h1,h2,_⟩:=dd;exact ⟨ob,h1,h2.2.1⟩
section
variable {X:Cx}{pins:List (Addr×Obj)}{σ : St}{H:Hp}{s:Shared}{a:Addr}{y d:V}{u r:Value}{o:Option V}{A:Around}{E:Value→Shared→Prop}
theorem yFh {Q:Value→Shared→Prop} (hu:A.units + 1 < cLine) (I:Inv X pins σ H s) (g:DGet H a y o) (ry:RelV y u) (h:∀ w' s',Inv X pins σ H s'→RelV (o.getD .non) w'→Q w' s') :
 wpAny (model X.prog X.w) A (call (.builtin "dict.get") [.ref a,u]) Q E s:=by
 rcases g with ⟨kvs,k,e,ey,l⟩ | ⟨kvs,k,b,e,ey,eb,l⟩
 ·subst ey;obtain ⟨z,hd,vs,rel,dd⟩:=zG5 I.hok e;refine call_meetsIn PySem.F.slot_dict_get dd.typeIs PySem.F.entry_dict_get (PySem.F.args_dict_get_2 _ _) (meets_dict_get (mixKind X.prog X.w) a (zO1 ry) hd) ⟨_,dd.mapOf,h _ _ (I.tok _) ?_⟩;rw [l];exact (rel.val k).getD rfl
 ·subst ey;cases (show u=Value.ref b from ry);obtain ⟨z,hd,xs,rel,dd⟩:=zPm I.hok e;refine call_meetsIn PySem.F.slot_dict_get dd.typeIs PySem.F.entry_dict_get (PySem.F.args_dict_get_2 _ _) (meetsH_dict_get (tupleKind (mixKind X.prog X.w)) a b hd) ⟨tupleKind_room_in1 hu,k,xs,zDw I.hok eb,dd,h _ _ (I.tok _) ?_⟩;rw [l];exact (rel.val k).getD rfl
theorem yFg {Q:Value→Shared→Prop} (hu:A.units + 1 < cLine) (I:Inv X pins σ H s) (g:DGet H a y o) (ry:RelV y u) (rd:RelV d r) (h:∀ w' s',Inv X pins σ H s'→RelV (o.getD d) w'→Q w' s') :
 wpAny (model X.prog X.w) A (call (.builtin "dict.get") [.ref a,u,r]) Q E s:=by
 rcases g with ⟨kvs,k,e,ey,l⟩ | ⟨kvs,k,b,e,ey,eb,l⟩
 ·subst ey;obtain ⟨z,hd,vs,rel,dd⟩:=zG5 I.hok e;refine call_meetsIn PySem.F.slot_dict_get dd.typeIs PySem.F.entry_dict_get (PySem.F.args_dict_get_3 _ _ _) (meets_dict_get_default (mixKind X.prog X.w) a (zO1 ry) hd r) ⟨_,dd.mapOf,h _ _ (I.tok _) ?_⟩;rw [l];exact (rel.val k).getD rd
 ·subst ey;cases (show u=Value.ref b from ry);obtain ⟨z,hd,xs,rel,dd⟩:=zPm I.hok e;refine call_meetsIn PySem.F.slot_dict_get dd.typeIs PySem.F.entry_dict_get (PySem.F.args_dict_get_3 _ _ _) (meetsH_dict_get_default (tupleKind (mixKind X.prog X.w)) a b hd r) ⟨tupleKind_room_in1 hu,k,xs,zDw I.hok eb,dd,h _ _ (I.tok _) ?_⟩;rw [l];exact (rel.val k).getD rd
end
def tDGet1 (td ty:TE):TE:=fun σ H Q=>td σ H fun x H1=>∃ a,x=.ref a∧IsD H1 a∧ty σ H1 fun y H2=>∃ o,DGet H2 a y o∧Q (o.getD .non) H2
def tDGet2 (td ty tx:TE):TE:=fun σ H Q=>td σ H fun x H1=>∃ a,x=.ref a∧IsD H1 a∧ty σ H1 fun y H2=>tx σ H2 fun z H3=>∃ o,DGet H3 a y o∧Q (o.getD z) H3
def tDPop1 (td ty:TE):TE:=fun σ H Q=>td σ H fun x H1=>∃ a,x=.ref a∧IsD H1 a∧ty σ H1 fun y H2=>∃ kvs k v,H2 a=some (.dK kvs)∧y=kV k∧valV kvs k=some v∧Q v (upd H2 a (.dK (dropK kvs k)))
section
variable {X:Cx}{o e f:Expr}{apos cpos:Pos}{td ty tx:TE}
theorem zWm (hu:X.A.units + 1 < cLine) (ho:PE X o td) (he:PE X e ty) (m:M1 X o "get" apos e cpos):PE X (.Call (.Attribute o "get" apos) [e] [] cpos) (tDGet1 td ty):=by
 intro pins s σ H Q I h;refine wpAny_Call_method m.base m.few m.line PySem.F.plainAttrs_dict PySem.F.slot_dict_get PySem.F.type_dict_get (thn (ho pins s σ H _ I h) fun u s1 ⟨x,H1,I1,rx,a,ex,d,q1⟩=>?_);subst ex;obtain rfl:u=Value.ref a:=rx;obtain ⟨t1,t2,_⟩:=zS4 I1 d;refine ⟨t1,t2,?_⟩;rw [m.trees];refine Calls.callWith_builtin rfl (Calls.evalArgs_plain (Calls.spliced_cons (thn (he pins s1 σ H1 _ I1 q1) fun iv s2 ⟨y,H2,I2,ry,ov,g,q2⟩=>Calls.spliced_nil ?_)));exact yFh hu I2 g ry fun w' s3 I3 rw'=>⟨_,H2,I3,rw',q2⟩
theorem zWl (hu:X.A.units + 1 < cLine) (ho:PE X o td) (he:PE X e ty) (hf:PE X f tx) (m:M2 X o "get" apos e f cpos):PE X (.Call (.Attribute o "get" apos) [e,f] [] cpos) (tDGet2 td ty tx):=by
 intro pins s σ H Q I h;refine wpAny_Call_method m.base m.few m.line PySem.F.plainAttrs_dict PySem.F.slot_dict_get PySem.F.type_dict_get (thn (ho pins s σ H _ I h) fun u s1 ⟨x,H1,I1,rx,a,ex,d,q1⟩=>?_);subst ex;obtain rfl:u=Value.ref a:=rx;obtain ⟨t1,t2,_⟩:=zS4 I1 d;refine ⟨t1,t2,?_⟩;rw [m.trees]
 refine Calls.callWith_builtin rfl (Calls.evalArgs_plain (Calls.spliced_cons (thn (he pins s1 σ H1 _ I1 q1) fun iv s2 ⟨y,H2,I2,ry,q2⟩ =>
  Calls.spliced_cons (thn (hf pins s2 σ H2 _ I2 q2) fun fv s3 ⟨z,H3,I3,rz,ov,g,q3⟩=>Calls.spliced_nil ?_))))
 exact yFg hu I3 g ry rz fun w' s4 I4 rw'=>⟨_,H3,I4,rw',q3⟩
theorem zWk (ho:PE X o td) (he:PE X e ty) (m:M1 X o "pop" apos e cpos):PE X (.Call (.Attribute o "pop" apos) [e] [] cpos) (tDPop1 td ty):=by
 intro pins s σ H Q I h;refine wpAny_Call_method m.base m.few m.line PySem.F.plainAttrs_dict PySem.F.slot_dict_pop PySem.F.type_dict_pop (thn (ho pins s σ H _ I h) fun u s1 ⟨x,H1,I1,rx,a,ex,d,q1⟩=>?_);subst ex;obtain rfl:u=Value.ref a:=rx;obtain ⟨t1,t2,_⟩:=zS4 I1 d;refine ⟨t1,t2,?_⟩;rw [m.trees];refine Calls.callWith_builtin rfl (Calls.evalArgs_plain (Calls.spliced_cons (thn (he pins s1 σ H1 _ I1 q1) fun iv s2 ⟨y,H2,I2,ry,kvs,k,v,ea,ey,l,q2⟩=>Calls.spliced_nil ?_)));subst ey;exact d_pop I2 ea ry l (.inl rfl) fun w' s3 I3 rw'=>⟨v,_,I3,rw',q2⟩
end
section
variable {X:Cx}{pins:List (Addr×Obj)}{σ : St}{H:Hp}{s:Shared}{a:Addr}{kvs:List (Key×V)}{A:Around}{E:Value→Shared→Prop}
theorem zXv {Q:Value→Shared→Prop} (I:Inv X pins σ H s) (e:Rd H a (.dK kvs)) (h:∀ p s',H p=none→Inv X pins σ (upd H p (.dK kvs)) s'→Q (.ref p) s'):wpAny (model X.prog X.w) A (call (.type "dict") [.ref a]) Q E s:=by
 obtain ⟨z,hd,vs,rel,dd⟩:=zG5 I.hok e;refine kt_call_dict hd dd (by rw [← rel.length];exact z) fun h' dd' hs=>?_;refine h _ _ (I.hok.fresh (Z1 _)) (I.laid (a:=s.heap.objs.size) (o:=.dK kvs) (t':=s.toks) (fun b q hq=>?_) (Z1 _) (zSd z (beq_eq_false_iff_ne.mpr (Ne.symm (Za I.big))) rel dd'));exact (hs.2 b (Za (Z8 hq))).trans (Z0 _ hq)
end
section
variable {X:Cx}{pins:List (Addr×Obj)}{σ : St}{H:Hp}{s:Shared}{a:Addr}{y:V}{u:Value}{A:Around}{E:Value→Shared→Prop}
end
end L2
namespace L2
open PySem PySem.Spec PyProof.Rows
def PFs (X:Cx) (ifs:List Expr) (t:TT):Prop :=
 ∀ (pins:List (Addr×Obj)) (s:Shared) (σ : St) (H:Hp) (Q:Bool→Hp→Prop),Inv X pins σ H s→t σ H Q →
  wpAny (model X.prog X.w) X.A (forIn ifs true fun c r=>if r=true then do let ok ← isTrue c X.env (eval c X.env);pure (ForInStep.yield ok) else pure (ForInStep.yield r)) (TP X pins σ Q) X.xe s
def tYes:TT:=fun _ H Q=>Q true H
theorem yDh {X:Cx}:PFs X [] tYes:=fun _ _ _ H _ I h=>wpAny_tests_nil ⟨H,I,h⟩
theorem yDg {X:Cx}{c:Expr}{t:TT} (h:PT X c t):PFs X [c] t:=fun pins s σ H Q I q=>wpAny_tests_one (h pins s σ H Q I q)
section
variable {prog:Program}{w:World}{A:Around}{R:Result→Shared→Prop}
theorem zVq {elt tg iter:Expr}{ifs:List Expr}{sc:Scope}{pos:Pos}{it acc:Value}{env:Env} (J:Nat→Shared→Prop) (N:Value→Shared→Prop)
 (hN:N=notedBy (model prog w) A env fun e z=>R (.error e) z)
 (turn:∀ k z,J k z→wpAny (model prog w) A (pyNext it) (fun r z1=>match r with
  | none=>R (.ok .next) z1
  | some v=>wpAny (model prog w) A (letOwnedTupleGo tg it v) (fun _ z2=>wpAny (model prog w) A (assign tg env v) (fun _ z3 =>
   wpAny (model prog w) A (forIn ifs true fun c r=>if r=true then do let ok ← isTrue c env (eval c env);pure (ForInStep.yield ok) else pure (ForInStep.yield r)) (fun ok z4 =>
    if ok=true then wpAny (model prog w) A (eval elt env) (fun y z5=>wpAny (model prog w) A (call (.builtin "list.append") [acc,y]) (fun _ z6=>∃ j,j < k∧J j z6) N z5) N z4
    else ∃ j,j < k∧J j z4) N z3) N z2) N z1) N z)
 {z:Shared} (k:Nat) (h:J k z):codeAny (model prog w) A (.compLoop (.ListComp elt [⟨tg,iter,ifs,0⟩] sc pos) 0 it acc env) R z:=by
 subst hN;refine codeAny_loop rfl J (fun k z hJ=>?_) k h;show wpAny _ A ((compTurn (.ListComp elt [⟨tg,iter,ifs,0⟩] sc pos) 0 it acc env).onRaise (fun x=>do noteFrame x env;theTreesLotGoes x)) _ _ z;refine wpAny_noted ?_;rw [compTurn_list];refine wpAny_bind (wpAny_standAt (wpAny_bind (thn (turn k z hJ) fun r z1 h1=>?_)));cases r with
 | none=>exact wpAny_pure h1
 | some v =>
  refine wpAny_bind (thn h1 fun _ z2 h2=>?_);refine wpAny_bind (thn h2 fun _ z3 h3=>?_);refine wpAny_bind (thn h3 fun ok z4 h4=>?_);cases ok with
  | false=>exact wpAny_pure ⟨rfl,h4⟩
  | true=>exact wpAny_bind (wpAny_bind (thn h4 fun y z5 h5=>wpAny_bind (thn h5 fun _ z6 h6=>wpAny_pure (wpAny_pure ⟨rfl,h6⟩))))
end
def cxComp (X:Cx) (sc:Scope) (cl:List (Str×Addr)) (T:List Str) (C:Addr) (s2:Shared) (H2:Hp) (fp:List Addr):Cx where
 prog:=X.prog
 w:=X.w
 K:=X.K
 mg:=X.mg
 base:=X.base
 A:=X.A
 N:=X.N++T
 s₀:=s2
 H₀:=H2
 env:=compEnvC sc cl C X.env
 outer:=X.stack
 stack:=X.stack
 ex:=fp
 fn:=fun _=>false
 calm:=X.calm
 pn:=[]
 xe:=fun _ _=>False
def ClOk (X:Cx):List (Str×Addr)→Prop
 | []=>True
 | p :: r=>X.env.cells.lookup p.1=some p.2∧ClOk X r
theorem ClOk.look {X:Cx}:∀ {cl:List (Str×Addr)},ClOk X cl→∀ x c,cl.lookup x=some c→X.env.cells.lookup x=some c
 | [],_,_,_,h=>by cases h
 | p :: r,k,x,c,h=>by
  cases e:x == p.1 with
  | true =>
   rw [Zk,e] at h;have ex:x=p.1:=by simpa using e
   rw [ex,k.1];exact h
  | false =>
   rw [Zk,e] at h;exact ClOk.look k.2 x c h
structure ScOk (X:Cx) (sc:Scope) (cl:List (Str×Addr)) (T:List Str):Prop where
 clos:closureFor sc X.env=pure cl
 cell:∀ y∈sc.names,y.2≠.cell
 kind:sc.kind=.function
 names:∀ x∈sc.names,x.2=.local→sc.names.lookup x.1=some .local
 cls:ClOk X cl
 has:∀ x∈sc.names,x.2=.free→(cl.lookup x.1).isSome=true∧(X.env.scope.names.lookup x.1=some .cell∨X.env.scope.names.lookup x.1=some .free)
 out:∀ x∈X.N,sc.names.lookup x≠some .local
theorem zJa {sc:Scope}{env:Env}{x:Str}{k:NameKind}:∀ {names:List (Str×NameKind)},
 (names.map fun (n,k)=>if (k == NameKind.free && env.scope.kind == .function && env.kindOf n == some .cell) then (n,NameKind.cell) else (n,k)).lookup x=some k →
 ∃ j,(x,j)∈names∧names.lookup x=some j∧(j=k∨(j=.free∧k=.cell))
 | [],h=>by cases h
 | (n,j) :: r,h=>by
  cases e:x == n with
  | true =>
   have ex:x=n:=by simpa using e
   subst ex;refine ⟨j,Zj,by rw [Zk,e],?_⟩;have h':List.lookup x ((if (j == NameKind.free && env.scope.kind == .function && env.kindOf x == some .cell)=true then (x,NameKind.cell) else (x,j)) :: _)=some k:=h;by_cases c:(j == NameKind.free && env.scope.kind == .function && env.kindOf x == some .cell)=true
   ·rw [if_pos c,Zk,e] at h';have c1:(j == NameKind.free)=true:=by
     cases q:(j == NameKind.free) with
     | true=>rfl
     | false=>rw [q] at c;simp at c
    exact .inr ⟨by simpa using c1,(Zl h').symm⟩
   ·rw [if_neg c,Zk,e] at h';exact .inl (Zl h')
  | false =>
   have h':List.lookup x ((if (j == NameKind.free && env.scope.kind == .function && env.kindOf n == some .cell)=true then (n,NameKind.cell) else (n,j)) :: _)=some k:=h;have h2:(List.map (fun (n,k)=>if (k == NameKind.free && env.scope.kind == .function && env.kindOf n == some .cell) then (n,NameKind.cell) else (n,k)) r).lookup x=some k:=by
    by_cases c:(j == NameKind.free && env.scope.kind == .function && env.kindOf n == some .cell)=true
    ·rw [if_pos c,Zk,e] at h';exact h'
    ·rw [if_neg c,Zk,e] at h';exact h'
   obtain ⟨i,m,l,q⟩:=zJa (sc:=sc) (env:=env) h2;exact ⟨i,Zb _ m,by rw [Zk,e];exact l,q⟩
section
variable {X:Cx}{sc:Scope}{cl:List (Str×Addr)}{T:List Str}
theorem ScOk.seen (S:ScOk X sc cl T) {C:Addr}{x:Str} (h:(compEnvC sc cl C X.env).scope.names.lookup x=some .cell∨(compEnvC sc cl C X.env).scope.names.lookup x=some .free) :
 (∃ c,cl.lookup x=some c)∧(X.env.scope.names.lookup x=some .cell∨X.env.scope.names.lookup x=some .free):=by
 have key:∀ k,(k=.cell∨k=.free)→(relabel sc X.env).names.lookup x=some k→(∃ c,cl.lookup x=some c)∧(X.env.scope.names.lookup x=some .cell∨X.env.scope.names.lookup x=some .free):=by
  intro k hk h;obtain ⟨j,m,l,q⟩:=zJa (sc:=sc) (env:=X.env) h;have jf:j=.free:=by
   rcases q with rfl | ⟨q,_⟩
   ·rcases hk with rfl | rfl
    ·exact absurd rfl (S.cell _ m)
    ·rfl
   ·exact q
  subst jf;obtain ⟨a,b⟩:=S.has _ m rfl;exact ⟨Option.isSome_iff_exists.mp a,b⟩
 rcases h with h | h
 ·exact key _ (.inl rfl) h
 ·exact key _ (.inr rfl) h
theorem ScOk.local_out (S:ScOk X sc cl T) {C:Addr}{x:Str} (hx:x∈X.N):(compEnvC sc cl C X.env).scope.names.lookup x≠some .local:=by
 intro h;obtain ⟨j,m,l,q⟩:=zJa (sc:=sc) (env:=X.env) h;rcases q with rfl | ⟨_,q⟩
 ·exact S.out x hx l
 ·cases q
variable {pins:List (Addr×Obj)}{σ : St}{H:Hp}{s:Shared}{fp:List Addr}{C:Addr}
theorem yBu (S:ScOk X sc cl T) (I:Inv X pins σ H s) (hf:∀ b∈fp,FpOk X pins H b) (hl:∀ b∈fp,b < s.heap.objs.size) (hC:s.heap.objs.size≤C):(cxComp X sc cl T C s H fp).Ok where
 mod:=I.ok.mod
 kind:=S.kind
 glob:=I.ok.glob
 blt:=I.ok.blt
 above:=hC
 inj:=fun x y c h1 h2=>I.ok.inj x y c (S.cls.look x c h1) (S.cls.look y c h2)
 has:=fun x hx=>(S.seen hx).1
 cab:=fun x c h=>by cases h
 hd:=I.ok.hd
 frames:=I.ok.frames
 stk:=.inl rfl
 exf:=fun b hb=>⟨Za (Z5 (hl b hb) hC),fun x c h=>(hf b hb).2.2.2.2.1 x c (S.cls.look x c h)⟩
 bs:=I.bs
 bsz:=Z3 I.ok.bsz I.sz
 noex:=fun b o e hb=>by
  rcases (hf b hb).2.2.2.1 with z | z
  ·exact I.ok.noex b o e z
  ·exact absurd (Z5 (Z8 e) (Z3 I.ok.bsz z)) (Zv _)
 exfs:=fun b hb z=>by
  rcases List.mem_cons.mp (I.stkSub b z) with e | e
  ·exact (hf b hb).2.1 e
  ·exact (hf b hb).2.2.1 e
 funs:=I.stack
 frf:=I.stkFree
theorem zSk (S:ScOk X sc cl T) (I:Inv X pins σ H s) (hf:∀ b∈fp,FpOk X pins H b) (hl:∀ b∈fp,b < s.heap.objs.size) (hC:s.heap.objs.size≤C) {h1:Heap}{m:Str→Option Value}{t1:Nat}
 (k:∀ b o,s.heap.get? b=some o→h1.get? b=some o) (hn:h1.Ns C m):Inv (cxComp X sc cl T C s H fp) [] (σ++List.replicate T.length none) H { s with heap:=h1,toks:=t1 } where
 ok:=yBu S I hf hl hC
 os:=rfl
 bare:=I.bare
 base:=Un.kept k
 loc:=by
  refine ⟨m,hn,fun i x v e1 e2 e3=>?_⟩;have hi:i < σ.length:=by
   by_cases hi:i < σ.length
   ·exact hi
   ·rw [Zg (Nat.not_lt.mp hi),List.getElem?_replicate] at e2;split at e2 <;> cases e2
  rw [Ze hi] at e2;have e1':X.N[i]? = some x:=by
   have e:(X.N++T)[i]? = some x:=e1
   rwa [Ze (by rw [← I.len];exact hi)] at e
  have hx:x∈X.N:=Zh e1';have e3':(compEnvC sc cl C X.env).scope.names.lookup x=some .cell∨(compEnvC sc cl C X.env).scope.names.lookup x=some .free:=by
   rcases e3 with z | z | z
   ·exact absurd z (S.local_out hx)
   ·exact .inl z
   ·exact .inr z
  obtain ⟨⟨c,hc⟩,ko⟩:=S.seen e3';obtain ⟨m0,hn0,hl0⟩:=I.loc;obtain ⟨u,r,l⟩:=hl0 i x v e1' e2 (.inr ko);refine ⟨u,r,.inr ⟨e3',c,hc,?_⟩⟩;have hc':=S.cls.look x c hc;rcases l with ⟨kl,_⟩ | ⟨_,c',hc2,z⟩
  ·have kl':X.env.scope.names.lookup x=some .local:=kl;rcases ko with q | q
   ·rw [q] at kl';cases kl'
   ·rw [q] at kl';cases kl'
  ·rw [hc'] at hc2;cases hc2;obtain ⟨o,ho,hd⟩:=z;exact ⟨o,k _ _ ho,hd⟩
 cell:=fun x c hc=>by
  obtain ⟨v,o,ho,hd⟩:=I.cell x c (S.cls.look x c hc);exact ⟨v,o,k _ _ ho,hd⟩
 free:=I.hok.fresh hC
 freeC:=fun x c hc=>I.freeC x c (S.cls.look x c hc)
 pin:=fun p hp=>absurd (show p∈([]:List (Addr×Obj)) from hp) (by simp)
 hok:=I.hok.kept k
 len:=by
  show (σ++List.replicate T.length none).length=(X.N++T).length;rw [Zf,Zf,List.length_replicate,I.len]
theorem zXw (S:ScOk X sc cl T) (I:Inv X pins σ H s) (hf:∀ b∈fp,FpOk X pins H b) {D:Addr} (hD:s.heap.objs.size≤D) (hC:s.heap.objs.size≤C) (hDC:D≠C) {s1:Shared}{H1:Hp}{σ1:St}{p1:List (Addr×Obj)}{ys:List V}{its:List Value}
 (J:Inv (cxComp X sc cl T C s H fp) p1 σ1 H1 s1) (hH:H1 D=none) (rv:Vals ys its) (hz:ys.length≤sizeLine) (hget:s1.heap.get? D=some (LCg.lst its)) :
 Inv X pins σ (upd H1 D (.lst ys)) s1:=by
 have fD:H D=none:=I.hok.fresh hD;have nD:∀ b o,s.heap.get? b=some o→b≠D:=fun b o e=>Za (Z5 (Z8 e) hD);refine I.call' (ch:=fp) J.os ⟨fun b o e n hb hx=>J.base.keep b o e n hb hx,fun b o e n hb hx=>J.base.slot b o e n hb hx,fun b o e n hx=>?_,fun b o e hx=>J.base.there b o e hx,fun b xs e=>?_,fun b o u e=>?_,fun b ps e=>?_⟩ (fun b u e=>?_) J.bare fun b hb=>⟨(hf b hb).2.2.2.1,(hf b hb).2.1,(hf b hb).2.2.2.2.1,(hf b hb).2.2.2.2.2⟩
 ·rw [zAa (nD b o e)];exact J.base.free b o e n hx
 ·rw [zAa (zA7 e fD)];exact J.base.tups b xs e
 ·rw [zAa (zA7 e fD)];exact J.base.frzs b o u e
 ·rw [zAa (zA7 e fD)];exact J.base.tbls b ps e
 ·by_cases hb:b=D
  ·subst hb;rw [zAc] at e;cases e;exact ⟨hz,its,its.length,rv,hget⟩
  ·rw [zAa hb] at e;exact (J.hok b u e).stay (fun c v _ q=>q) (fun c q=>by rw [zAa (zA7 q hH)];exact q) fun c xs q=>by rw [zAa (zA7 q hH)];exact q
end
def CompGoal (J:It) (k:Nat) (σ : St) (H1:Hp) (g:TG) (tt:TT) (te:TE) (Q:VK):Prop:=∃ W:Nat→Nat→List V→Hp→Prop,(∃ m,W 0 m [] H1)∧∀ i m ys H,W i m ys H →
 (J.stop i H∧ys.length≤sizeLine∧∀ p,H p=none→Q (.ref p) (upd H p (.lst ys))) ∨
 (J.go i H∧ys.length≤sizeLine∧∀ x H',J.yld i H x H'→g x (σ++List.replicate k none) H' fun σ2 H2=>tt σ2 H2 fun b H3 =>
  if b=true then te σ2 H3 fun y H4=>∃ m',m' < m∧W (i + 1) m' (ys++[y]) H4 else ∃ m',m' < m∧W (i + 1) m' ys H3)
def tComp (k:Nat) (wi:TI) (g:TG) (tt:TT) (te:TE):TE:=fun σ H Q=>wi σ H fun J H1=>CompGoal J k σ H1 g tt te Q
section
variable {X:Cx}{elt tg iter:Expr}{ifs:List Expr}{sc:Scope}{pos:Pos}{cl:List (Str×Addr)}{T:List Str}{wi:TI}{g:TG}{tt:TT}{te:TE}
theorem zSj {pins:List (Addr×Obj)}{σ : St}{s2:Shared}{H2:Hp}{Q:VK}{E:Value→Shared→Prop}{R:Value→Addr→Result→Shared→Prop}{it:Addr}{fp:List Addr}{tn:Nat→Heap→Prop}{J:It}
 {Φ : Cx→Prop} (hc:∀ C s H fp,Φ (cxComp X sc cl T C s H fp)) (S:ScOk X sc cl T)
 (hg:∀ C s H fp,PG (cxComp X sc cl T C s H fp) tg g) (hf:∀ C s H fp,PFs (cxComp X sc cl T C s H fp) ifs tt) (he:∀ C s H fp,PE (cxComp X sc cl T C s H fp) elt te)
 (I:Inv X pins σ H2 s2) (TT':TurnP Φ X.prog X.w X.K tg J fp it tn) (st:tn 0 s2.heap) (f2:∀ b∈fp,FpOk X pins H2 b)
 (W:Nat→Nat→List V→Hp→Prop) (m0:Nat) (w0:W 0 m0 [] H2)
 (turn:∀ i m ys H,W i m ys H→(J.stop i H∧ys.length≤sizeLine∧∀ p,H p=none→Q (.ref p) (upd H p (.lst ys))) ∨
  (J.go i H∧ys.length≤sizeLine∧∀ x H',J.yld i H x H'→g x (σ++List.replicate T.length none) H' fun σ2 H2=>tt σ2 H2 fun b H3 =>
   if b=true then te σ2 H3 fun y H4=>∃ m',m' < m∧W (i + 1) m' (ys++[y]) H4 else ∃ m',m' < m∧W (i + 1) m' ys H3))
 (hR:∀ (D C:Addr) (s1:Shared) (H1:Hp) (m:Str→Option Value),Inv X pins σ H1 s1→H1 C=none→C≠X.env.locals→X.s₀.heap.objs.size≤C→(∀ x c,X.env.cells.lookup x=some c→c≠C)→(∀ p∈X.pn++pins,p.1≠C) →
  s1.heap.Ns C m→Q (.ref D) H1→R (.ref D) C (.ok .next) s1) :
 wpAny (model X.prog X.w) X.A (newList []) (fun acc s₃=>wpAny (model X.prog X.w) X.A (newFunctionEnv sc X.env.globals cl [] X.env.qual none .none (some X.env)) (fun cenv s₄ =>
  codeAny (model X.prog X.w) X.A (.compStart (.ListComp elt [⟨tg,iter,ifs,0⟩] sc pos) 0 (.ref it) acc { cenv with scope:=relabel sc X.env }) (R acc cenv.locals) s₄) E s₃) E s2:=by
 refine wpAny_newObj_type (wpAny_newFunctionEnv S.cell (by intro y hy;simp at hy) (fun h1 hn1 sb1=>?_) S.kind);dsimp only at hn1 sb1 ⊢;generalize hH:s2.heap.push { cls:=.type "list",dict:=none,data:=.seq ([]:List Value).toArray }=G at hn1 sb1 ⊢;have hC:G.objs.size=s2.heap.objs.size + 1:=by rw [← hH,Zz]
 have hDC:s2.heap.objs.size≠G.objs.size:=by rw [hC];exact Za (Zp _)
 have hCle:s2.heap.objs.size≤G.objs.size:=by rw [hC];exact Yf _
 have old:∀ b o,s2.heap.get? b=some o→h1.get? b=some o:=fun b o e=>by
  exact sb1.extBut b o (Za (Z5 (Z8 e) hCle)) (Z0 _ (hH ▸ Z0 _ e))
 have hacc:h1.get? s2.heap.objs.size=some (LCg.lst []):=sb1.extBut _ _ hDC (Z0 _ (hH ▸ Z9 _ rfl));have fl:∀ b∈fp,b < s2.heap.objs.size:=fun b hb=>by
  obtain ⟨o,e,_⟩:=TT'.obj _ _ st b hb;exact Z8 e
 have DS:s2.heap.objs.size∉frs X.stack:=fun z=>by
  rcases List.mem_cons.mp (I.stkSub _ z) with e | e
  ·exact Za I.lt e.symm
  ·exact I.nofs (Z1 _) e
 have keepT:∀ (i:Nat) (h h':Heap),tn i h→(∀ b o,b < s2.heap.objs.size→h.get? b=some o→h'.get? b=some o)→tn i h':=fun i h h' z k=>TT'.keep i h h' z fun b hb o e=>k b o (fl b hb) e;have fpo:∀ {H':Hp}{pl:List (Addr×Obj)},(∀ b∈fp,H' b=none)→(∀ p∈pl,s2.heap.objs.size≤p.1)→∀ b∈fp,FpOk (cxComp X sc cl T G.objs.size s2 H2 fp) pl H' b:=fun {H' pl} hn hp b hb=>by
  refine ⟨hn b hb,fun z=>?_,fun z=>?_,.inl hb,fun x c h=>(f2 b hb).2.2.2.2.1 x c (S.cls.look x c h),fun p hp' z=>?_⟩
  ·exact Za (Z5 (fl b hb) hCle) z
  ·rcases List.mem_cons.mp (I.stkSub b z) with e | e
   ·exact (f2 b hb).2.1 e
   ·exact (f2 b hb).2.2.1 e
  ·exact Za (Z5 (fl b hb) (hp p (show p∈pl from hp'))) z.symm
 let Y:=cxComp X sc cl T G.objs.size s2 H2 fp
 have loop:∀ z:Shared,z={ s2 with heap:=h1,toks:=s2.toks + ([]:List (Str×Value)).length } →
  codeAny (model X.prog X.w) X.A (.compLoop (.ListComp elt [⟨tg,iter,ifs,0⟩] sc pos) 0 (.ref it) (.ref s2.heap.objs.size) (compEnvC sc cl G.objs.size X.env)) (R (.ref s2.heap.objs.size) G.objs.size) z:=by
  rintro z rfl;refine zVq (fun n z=>∃ i ys its H',Inv Y [] (σ++List.replicate T.length none) H' z∧tn i z.heap∧(∀ b∈fp,H' b=none)∧H' s2.heap.objs.size=none∧Vals ys its∧z.heap.get? s2.heap.objs.size=some (LCg.lst its)∧W i n ys H') _ rfl ?_ m0
   ⟨0,[],[],H2,zSk S I f2 fl hCle old hn1,TT'.keep _ _ _ st fun b hb o e=>old b o e,fun b hb=>(f2 b hb).1,I.hok.fresh (Z1 _),.nil,hacc,w0⟩
  rintro n z ⟨i,ys,its,H',IY,stz,frz,fD,rv,hget,wz⟩;have IP:Inv Y [(s2.heap.objs.size,LCg.lst its)] (σ++List.replicate T.length none) H' z:=IY.pins_of fun p hp=>by
   have e:p=(s2.heap.objs.size,LCg.lst its):=by simpa using hp
   subst e;exact ⟨hget,fD,hDC,DS,fun v q=>by cases (show Data.seq _ _=Data.cell v from q)⟩
  have hpl:∀ p∈[(s2.heap.objs.size,LCg.lst its)],s2.heap.objs.size≤p.1:=fun p hp=>by
   have e:p=(s2.heap.objs.size,LCg.lst its):=by simpa using hp
   subst e;exact Z1 _
  rcases turn i n ys H' wz with ⟨stop,hz,q⟩ | ⟨go,hz,step⟩
  ·refine thn (TT'.done Y rfl rfl rfl (hc _ _ _ _) i _ z _ H' _ IP (fpo frz hpl) stz stop) fun r z1 ⟨hr,I1⟩=>?_;subst hr;have g1:z1.heap.get? s2.heap.objs.size=some (LCg.lst its):=(I1.pin (s2.heap.objs.size,LCg.lst its) (by simp [Y,cxComp])).1;obtain ⟨mC,hnC,_⟩:=I1.loc;have out:=zXw S I f2 (Z1 _) hCle hDC I1 fD rv hz g1;refine hR _ _ z1 _ mC out ?_ ?_ ?_ ?_ ?_ hnC (q _ fD)
   ·rw [zAa (Ne.symm hDC)];exact I1.free
   ·exact (Za (Z5 I.lt hCle)).symm
   ·exact Z3 I.sz hCle
   ·intro x c hcc;obtain ⟨v,zc⟩:=I.cell x c hcc;exact Za (Z5 zc.lt hCle)
   ·intro p hp;exact Za (Z5 (Z8 (I.pin p hp).1) hCle)
  ·refine thn (TT'.item Y rfl rfl rfl (hc _ _ _ _) i _ z _ H' _ IP (fpo frz hpl) stz go) fun r z1 ⟨u,hr,h1'⟩=>?_;subst hr;refine thn h1' fun _ z2 ⟨x,H3,I3,r3,y3,st3,fr3⟩=>?_;have I3':=I3.pinned (fpo fr3 hpl) (TT'.obj _ _ st3);have fin:∀ {H':Hp}{σ':St}{z':Shared},Inv Y ([(s2.heap.objs.size,LCg.lst its)]++pinsAt fp z2.heap) σ' H' z'→tn (i + 1) z'.heap∧(∀ b∈fp,H' b=none)∧H' s2.heap.objs.size=none∧z'.heap.get? s2.heap.objs.size=some (LCg.lst its):=fun {H' σ' z'} I'=>by
    have a1:∀ b∈fp,∀ o,z2.heap.get? b=some o→z'.heap.get? b=some o∧H' b=none:=fun b hb o e =>
     let p:=I'.pin (b,o) (Zm _ (Zm _ (zJi hb e)))
     ⟨p.1,p.2.1⟩
    have a2:=I'.pin (s2.heap.objs.size,LCg.lst its) (Zm _ (by simp))
    exact ⟨TT'.keep _ _ _ st3 fun b hb o e=>(a1 b hb o e).1,fun b hb=>by
     obtain ⟨o,e,_⟩:=TT'.obj _ _ st3 b hb
     exact (a1 b hb o e).2,a2.2.1,a2.1⟩
   have bare:∀ {H':Hp}{σ':St}{z':Shared},Inv Y ([(s2.heap.objs.size,LCg.lst its)]++pinsAt fp z2.heap) σ' H' z'→Inv Y [] σ' H' z':=fun I'=>I'.pins_of fun p hp=>absurd hp (by simp);refine wpAny_mono (hg G.objs.size s2 H2 fp _ z2 _ H3 x u _ I3' r3 (step x H3 y3)) (fun _ z3 ⟨σ4,H4,I4,q4⟩=>?_) fun _ _ e=>e.elim;refine wpAny_mono (hf G.objs.size s2 H2 fp _ z3 _ H4 _ I4 q4) (fun ok z4 ⟨H5,I5,q5⟩=>?_) fun _ _ e=>e.elim;have lenσ : ∀ {H':Hp}{σ':St}{z':Shared}{pl},Inv Y pl σ' H' z'→(σ++List.replicate T.length none).length = σ'.length:=fun I'=>by rw [I'.len];exact IY.len
   have weak:∀ {H':Hp}{z':Shared},Inv Y [] σ4 H' z'→Inv Y [] (σ++List.replicate T.length none) H' z':=fun {H' z'} I'=>by
    have c0:=zSk (T:=T) (t1:=z'.toks) S I f2 fl hCle old hn1;obtain ⟨m',hn',hl'⟩:=I'.loc;obtain ⟨_,_,hl0⟩:=I.loc;refine ⟨I'.ok,I'.os,I'.bare,I'.base,⟨m',hn',fun j x v e1 e2 e3=>?_⟩,I'.cell,I'.free,I'.freeC,I'.pin,I'.hok,(lenσ I').trans I'.len⟩;have hj:j < σ.length:=by
     by_cases hj:j < σ.length
     ·exact hj
     ·rw [Zg (Nat.not_lt.mp hj),List.getElem?_replicate] at e2;split at e2 <;> cases e2
    have e2':=e2;rw [Ze hj] at e2';have e1':X.N[j]? = some x:=by
     have e:(X.N++T)[j]? = some x:=e1
     rwa [Ze (by rw [← I.len];exact hj)] at e
    have hx:x∈X.N:=Zh e1';have e3':(compEnvC sc cl G.objs.size X.env).scope.names.lookup x=some .cell∨(compEnvC sc cl G.objs.size X.env).scope.names.lookup x=some .free:=by
     rcases e3 with z | z | z
     ·exact absurd z (S.local_out hx)
     ·exact .inl z
     ·exact .inr z
    obtain ⟨⟨c,hc'⟩,ko⟩:=S.seen e3';obtain ⟨u,r,l⟩:=hl0 j x v e1' e2' (.inr ko);have hcX:=S.cls.look x c hc';refine ⟨u,r,.inr ⟨e3',c,hc',?_⟩⟩;rcases l with ⟨kl,_⟩ | ⟨_,c',hc2,zc⟩
    ·have kl':X.env.scope.names.lookup x=some .local:=kl;rcases ko with q | q
     ·rw [q] at kl';cases kl'
     ·rw [q] at kl';cases kl'
    ·rw [hcX] at hc2;cases hc2;obtain ⟨o,ho,hd⟩:=zc;have nfp:c∉fp:=fun hb=>(f2 c hb).2.2.2.2.1 x c hcX rfl;obtain ⟨sl,e⟩:=I'.base.any ho (I.freeC x c hcX) nfp;exact ⟨_,e,hd⟩
   cases ok with
   | false =>
    rw [if_neg Z6] at q5 ⊢;obtain ⟨m',hm,w'⟩:=q5;obtain ⟨b1,b2,b3,b4⟩:=fin I5;exact ⟨m',hm,i + 1,ys,its,H5,weak (bare I5),b1,b2,b3,rv,b4,w'⟩
   | true =>
    rw [if_pos rfl] at q5 ⊢;refine wpAny_mono (he G.objs.size s2 H2 fp _ z4 _ H5 _ I5 q5) (fun y z5 ⟨yv,H6,I6,r6,q6⟩=>?_) fun _ _ e=>e.elim;obtain ⟨m',hm,w'⟩:=q6;obtain ⟨b1,b2,b3,b4⟩:=fin I6;refine append_at (hsz:=by show its.toArray.size≤sizeLine;rw [Z4,← rv.length];exact hz) b4 fun h6 sb6 g6=>?_
    have I7:Inv Y [] (σ++List.replicate T.length none) H6 { z5 with heap:=h6 }:=(weak (bare I6)).turned (t':=z5.toks) (it:=s2.heap.objs.size) (fun b o hb e=>(sb6.2 b hb).trans e) b3 hDC (.inr (Z1 _)) (fun x c h=>by
     obtain ⟨v,zc⟩:=I.cell x c (S.cls.look x c h)
     exact Za zc.lt) fun p hp=>absurd (show p∈([]:List (Addr×Obj)) from hp) (by simp)
    refine ⟨m',hm,i + 1,ys++[yv],its++[y],H6,I7,keepT _ _ _ b1 fun b o hb e=>(sb6.2 b (Za hb)).trans e,b2,b3,rv.append (.cons r6 .nil),g6.trans (congrArg some (LCg.lst_snoc its y)),w'⟩
 exact codeAny_compStart_list (loop _ rfl) (TT'.self _ 0 _ _ _ (TT'.keep _ _ _ st fun b hb o e=>old b o e) (loop _ rfl))
theorem yAa (hc:X.calm=true) (S:ScOk X sc cl T) (hi:PI X tg iter wi)
 (hg:∀ C s H fp,PG (cxComp X sc cl T C s H fp) tg g) (hf:∀ C s H fp,PFs (cxComp X sc cl T C s H fp) ifs tt) (he:∀ C s H fp,PE (cxComp X sc cl T C s H fp) elt te)
 (hs:∀ x,foldedSetIterable iter X.env x=pure x:=by intro _;rfl):PE X (.ListComp elt [⟨tg,iter,ifs,0⟩] sc pos) (tComp T.length wi g tt te):=by
 intro pins s σ H Q I h;rw [eval_ListComp];refine wpAny_comprehension_free (use:=none) rfl hs S.clos S.kind S.names (thn (hi pins s σ H _ I h) fun v s1 h1=>thn h1 fun itv s2 h2=>?_);obtain ⟨it,fp,tn,J,H2,e,I2,TT',st2,f2,W,⟨m0,w0⟩,turn⟩:=h2;subst e;refine zSj (Q:=Q) (fun _ _ _ _=>hc) S hg hf he I2 TT' st2 f2 W m0 w0 turn fun D C z H1 m I1 n1 n2 n3 n4 n5 hn q=>?_;exact ⟨m,hn,fun h' sb=>⟨.ref D,H1,I1.turned (t':=z.toks) (it:=C) (fun b o hb e=>(sb.2 b hb).trans e) n1 n2 (.inr n3) n4 n5,rfl,q⟩⟩
theorem zSw {i:Nat}{y:Str}{py spos:Pos} (hc:X.calm=true) (S:ScOk X sc cl T) (hi:PI X tg iter wi)
 (hg:∀ C s H fp,PG (cxComp X sc cl T C s H fp) tg g) (hf:∀ C s H fp,PFs (cxComp X sc cl T C s H fp) ifs tt) (he:∀ C s H fp,PE (cxComp X sc cl T C s H fp) elt te)
 (hN:X.N.Nodup) (hix:X.N[i]? = some y) (hx:X.env.scope.names.lookup y=some .local)
 (hsw:swapsWith (.ListComp elt [⟨tg,iter,ifs,0⟩] sc pos) (some (.Name y py)) spos.line X.env=pure true)
 (hs:∀ x,foldedSetIterable iter X.env x=pure x:=by intro _;rfl) :
 PS X (.Assign [.Name y py] (.ListComp elt [⟨tg,iter,ifs,0⟩] sc pos) spos) (tAsg (tComp T.length wi g tt te) (gName i)):=by
 intro pins s σ H D I h;rw [exec_Assign_Name_used _ _ _ _ hsw];refine wpAny_bind (wpAny_standAt (wpAny_bind ?_));show wpAny _ X.A (do let _ ← comprehension (.ListComp elt [⟨tg,iter,ifs,0⟩] sc pos) sc X.env _ (newList []) false (eval iter X.env) (some (assign (.Name y py) X.env))) _ _ s;refine wpAny_bind (thn (wpAny_comprehension_free (use:=some (assign (.Name y py) X.env)) (Q:=fun _ s'=>SP X pins D .next s') rfl hs S.clos S.kind S.names (thn (hi pins s σ H _ I h) fun v s1 h1=>thn h1 fun itv s2 h2=>?_)) fun _ s' hq=>wpAny_pure (wpAny_pure hq));obtain ⟨it,fp,tn,J,H2,e,I2,TT',st2,f2,W,⟨m0,w0⟩,turn⟩:=h2;subst e;refine zSj (Q:=fun x H1=>gName i x σ H1 D.nx) (fun _ _ _ _=>hc) S hg hf he I2 TT' st2 f2 W m0 w0 turn fun A C z H1 m I1 n1 n2 n3 n4 n5 hn q=>?_;show wpAny _ X.A (assign (.Name y py) X.env (.ref A)) _ _ z;refine wpAny_assign_Name (zOk (v:=.ref A) I1 hN hix (.inl hx) rfl (fun z' I' ⟨a,sb,ha⟩=>?_) (.inr hx));have hCa:C≠a:=by
  rcases ha with e | e
  ·rw [e];exact n2
  ·exact (n4 y a e).symm
 refine ⟨m,hn.sameBut sb hCa,fun h' sb'=>⟨_,H1,I'.turned (t':=z'.toks) (it:=C) (fun b o hb e=>(sb'.2 b hb).trans e) n1 n2 (.inr n3) n4 n5,q⟩⟩
end
end L2
namespace L2
open PySem PySem.Spec PyProof.Rows
section
variable {X:Cx}
theorem v1 {x:V}{us:List Value} (r:Vals [x] us):∃ u,us=[u]∧RelV x u:=by
 cases r with
 | cons a b=>cases b;exact ⟨_,rfl,a⟩
theorem v2 {x y:V}{us:List Value} (r:Vals [x,y] us):∃ u v,us=[u,v]∧RelV x u∧RelV y v:=by
 cases r with
 | cons a b =>
  cases b with
  | cons c d=>cases d;exact ⟨_,_,rfl,a,c⟩
theorem zM9:CallR X (.builtin "isinstance") (fun xs H Q=>∃ x c t cv b,xs=[x,c]∧TyOf X.K H x t∧RelV c cv∧PySem.W.kitOne X.K t cv=some b∧Q (.bl b) H):=by
 intro pins s σ H xs us Q I r h;obtain ⟨x,c,t,cv,b,rfl,ty,rc,e,q⟩:=h;obtain ⟨u,v,rfl,ru,rv⟩:=v2 r;have hv:v=cv:=by
  cases c with
  | non=>exact (show v=Value.none from rv).trans (show cv=Value.none from rc).symm
  | bl z=>exact (show v=Value.bool z from rv).trans (show cv=Value.bool z from rc).symm
  | int i =>
   obtain ⟨t1,rfl⟩:=rc;exact absurd e (by unfold PySem.W.kitOne;cases ty <;> simp [PySem.W.kitCls])
  | str i =>
   obtain ⟨t1,rfl⟩:=rc;exact absurd e (by unfold PySem.W.kitOne;cases ty <;> simp [PySem.W.kitCls])
  | byt i =>
   obtain ⟨t1,rfl⟩:=rc;exact absurd e (by unfold PySem.W.kitOne;cases ty <;> simp [PySem.W.kitCls])
  | flt i =>
   obtain ⟨t1,rfl⟩:=rc;exact absurd e (by unfold PySem.W.kitOne;cases ty <;> simp [PySem.W.kitCls])
  | ref a=>exact (show v=Value.ref a from rv).trans (show cv=Value.ref a from rc).symm
  | ty n=>exact (show v=Value.type n from rv).trans (show cv=Value.type n from rc).symm
 subst hv;exact zUx I ru ty e fun tk=>⟨.bl b,H,I.tok tk,rfl,q⟩
theorem zPv:∀ {bs:List Bool}{us:List Value}{i:Nat}{v:Value},Vals (bs.map V.bl) us→us[i]? = some v→∃ b,bs[i]? = some b∧v=Value.bool b
 | [],_,i,v,.nil,h=>by simp at h
 | b :: r,_,0,v,.cons a t,h=>by
  simp at h;subst h;exact ⟨b,rfl,a⟩
 | b :: r,_,i + 1,v,.cons a t,h=>by
  obtain ⟨b',e,q⟩:=zPv (bs:=r) (i:=i) t (by simpa using h);exact ⟨b',by simpa using e,q⟩
theorem zQ1:∀ (bs:List Bool),((List.range bs.length).all fun i=>(bs[i]?).getD true)=bs.all id
 | []=>rfl
 | b :: r=>by
  rw [Zd,List.range_succ_eq_map,Ya,List.all_map,Ya];have e:=zQ1 r;simp only [Function.comp_def,List.getElem?_cons_succ,List.getElem?_cons_zero,Option.getD_some,id] at *;rw [← e]
theorem zY3 (hc:X.calm=true):CallR X (.builtin "all") (fun xs H Q=>∃ (p:Addr) (bs:List Bool),xs=[.ref p]∧SqL X.K H p (bs.map V.bl)∧Q (.bl (bs.all id)) H):=by
 intro pins s σ H xs us Q I r h;obtain ⟨p,bs,rfl,hp,q⟩:=h;obtain ⟨u,rfl,ru⟩:=v1 r;cases (show u=Value.ref p from ru);obtain ⟨its,rv,pl,hz⟩:=I.list hp;have hl:=pl.isList;have hlt:p < s.heap.objs.size:=by obtain ⟨_,e,_⟩:=hl;exact Z8 e
 have hlen:its.length=bs.length:=by rw [← rv.length,Z2]
 refine call_all_walk (wpAny_pyIter_list hl ?_)
 refine ⟨s.heap.objs.size,[s.heap.objs.size,p],[s.heap.objs.size],its.toArray.size,_,_,fun i=>(bs[i]?).getD true,rfl,Walks.list (A:=X.A.in1) (I.ok.hd hc) _ p (Za hlt) its.toArray,
  ⟨⟨_,Z9 _ rfl,rfl,rfl⟩,hl.push _⟩,fun i v s' Q' E' hP hQ=>?_,fun h' tk hk=>?_⟩
 ·obtain ⟨b,e,rfl⟩:=zPv rv (by simpa using hP);simp only [e,Option.getD_some] at hQ;exact wpAny_truthy_bool hQ
 ·rw [Z4,hlen,zQ1];exact ⟨.bl _,H,I.kept (t':=tk) fun b o e=>hk b o (fun hm=>by rw [List.mem_singleton.mp hm] at e;exact Zv _ (Z8 e)) (Z0 _ e),rfl,q⟩
def Its (x:Str):It:=⟨fun i _=>i < x.length,fun i H v H'=>H'=H∧∃ c,x.cps[i]? = some c∧v=.str ⟨#[c]⟩,fun i _=>x.length≤i⟩
def iStr (tl:TE):TI:=fun σ H R=>tl σ H fun v H1=>∃ x,v=.str x∧R (Its x) H1
theorem zR6 {P:Program}{w:World}{K:PySem.W.Frag}{y:Str}{py:Pos}{x:Str}{it:Addr}{St:Nat→Heap→Prop} (ho:∀ i h,St i h→∃ o,h.get? it=some o∧∀ v,o.data≠.cell v)
 (W:∀ A':Around,A'.handled=none→Walks P w A' it [it] [it] x.cps.size (SignAt x) St) (hself:∀ (A:Around) (i:Nat) (s:Shared) (Q:Value→Shared→Prop) (E:Value→Shared→Prop),St i s.heap→Q (.ref it) s→wpAny (model P w) A (pyIter (.ref it)) Q E s)
 (hst:∀ i h,St i h→i≤x.cps.size→True):Turn P w K (.Name y py) (Its x) [it] it (fun i h=>i≤x.cps.size∧St i h) where
 mem:=by simp
 obj:=fun i h st b hb=>by
  have e:b=it:=by simpa using hb
  subst e;exact ho i h st.2
 keep:=fun i h h' st k=>⟨st.1,(W { callerA with handled:=none } rfl).frame i h h' st.2 k⟩
 item:=by
  intro X hP hw hK hc i pins s σ H E I hf st hg;subst hP hw hK;obtain ⟨f0,f1,f2,f3,f4,f5⟩:=hf it (by simp);refine (W X.A (I.ok.hd hc)).item i s _ _ hg st.2 fun v h' tk hv st' kk=>?_;obtain ⟨c,u,hc',rfl⟩:=hv;have I1:Inv X pins σ H { s with heap:=h',toks:=tk }:=I.turned (fun b o hb e=>kk b o (by simpa using hb) e) f0 f1 f3 f4 f5;exact ⟨_,rfl,wpAny_pure ⟨.str ⟨#[c]⟩,H,I1,⟨u,rfl⟩,⟨rfl,c,hc',rfl⟩,⟨hg,st'⟩,fun b hb=>(hf b hb).1⟩⟩
 done:=by
  intro X hP hw hK hc i pins s σ H E I hf st hg;subst hP hw hK;obtain ⟨f0,f1,f2,f3,f4,f5⟩:=hf it (by simp);have e:i=x.cps.size:=Nat.le_antisymm st.1 hg;have st2:=st.2;rw [e] at st2;exact (W X.A (I.ok.hd hc)).done s _ _ st2 fun h' tk kk=>⟨rfl,I.turned (fun b o hb e=>kk b o (by simpa using hb) e) f0 f1 f3 f4 f5⟩
 self:=fun A i s Q E st h=>hself A i s Q E st.2 h
theorem yDd {y:Str}{py:Pos}{l:Expr}{tl:TE} (hl:PE X l tl):PI X (.Name y py) l (iStr tl):=by
 intro pins s σ H R I h;refine thn (hl pins s σ H _ I h) fun v s1 ⟨x,H1,I1,r1,q1⟩=>?_;obtain ⟨z,rfl,q⟩:=q1;obtain ⟨t,rfl⟩:=r1;have fin:∀ {o:Obj}{St:Nat→Heap→Prop},Turn X.prog X.w X.K (.Name y py) (Its z) [s1.heap.objs.size] s1.heap.objs.size St→St 0 (s1.heap.push o)→PIE X pins σ (.Name y py) R (.ref s1.heap.objs.size) { s1 with heap:=s1.heap.push o }:=fun {o St} T st=>by
  refine ⟨s1.heap.objs.size,[s1.heap.objs.size],St,_,H1,rfl,I1.kept (t':=s1.toks) fun b o e=>Z0 _ e,T,st,fun b hb=>?_,q⟩;have e:b=s1.heap.objs.size:=by simpa using hb
  subst e;exact I1.fpOk (Z1 _) (I1.hok.fresh (Z1 _))
 cases ha:z.cps.all (· < 128)
 ·refine wpAny_pyIter_wide ha (fin (zR6 (fun i h st=>?_) (fun A' hA=>Walks.strWide hA _ z t) (fun A i s Q E st h=>wpAny_pyIter_striter_wide st h) fun _ _ _ _=>trivial) ⟨Y4 _,⟨_,Z9 _ rfl,rfl,rfl⟩⟩);obtain ⟨o,e,c,d⟩:=st;exact ⟨o,e,fun v q=>by rw [d] at q;cases q⟩
 ·refine wpAny_pyIter_ascii ha (fin (zR6 (fun i h st=>?_) (fun A' hA=>Walks.strAscii hA _ z t) (fun A i s Q E st h=>wpAny_pyIter_striter_ascii st h) fun _ _ _ _=>trivial) ⟨Y4 _,⟨_,Z9 _ rfl,rfl,rfl⟩⟩);obtain ⟨o,e,c,d⟩:=st;exact ⟨o,e,fun v q=>by rw [d] at q;cases q⟩
theorem zYe:SlR X (fun x lo hi H Q=>∃ z,x=.str z∧z.length≤sizeLine∧Q (.str (Txt.slice z lo hi)) H):=by
 intro pins s σ H x v vl vu lo hi sl Q I rx hs pl pu h;obtain ⟨z,rfl,hz,q⟩:=h;obtain ⟨t,rfl⟩:=rx;obtain ⟨os,ho,hc,hd⟩:=id hs;have fin:∀ t' k,EP X pins σ Q (.str (Txt.slice z lo hi) t') { s with toks:=k }:=fun t' k=>⟨.str _,H,I.tok k,⟨t',rfl⟩,q⟩;refine ⟨"str",_,F.slot_str_getitem.lookup,typeIs_str _ _ _,?_⟩;cases pl with
 | none =>
  cases pu with
  | none=>exact wpAny_getItem_str_slice (l:=none) (u:=none) (st:=none) hs rfl (post_val_or_str ⟨Z3 (Txt.slice_le z _ _) hz,fin⟩)
  | int j uj=>exact wpAny_getItem_str_slice (l:=none) (u:=some (j,uj)) (st:=none) hs rfl (post_val_or_str ⟨Z3 (Txt.slice_le z _ _) hz,fin⟩)
 | int i ui =>
  cases pu with
  | none=>exact wpAny_getItem_str_slice (l:=some (i,ui)) (u:=none) (st:=none) hs rfl (post_val_or_str ⟨Z3 (Txt.slice_le z _ _) hz,fin⟩)
  | int j uj=>exact wpAny_getItem_str_slice (l:=some (i,ui)) (u:=some (j,uj)) (st:=none) hs rfl (post_val_or_str ⟨Z3 (Txt.slice_le z _ _) hz,fin⟩)
end
section
variable {X:Cx}{CX:CXT}{k:Nat}{f C:Addr}{fd:FuncData}{ps ks:List Str}{sp:Sp}{E:St→XK}{x:Str}{p pos:Pos}{e:Expr}{es:List Expr}{kws:List Keyword}{t tk:TA}{g:List Value→List Value→List Value}{gV:List V→List V→List V}
end
end L2
namespace L2
open PySem PySem.Spec PyProof.Rows
theorem zUs {j:Int} (h0:0 < j) (h1:j < 2 ^ 64):j.natAbs.log2 < 9000:=by
 have:j.natAbs < 2 ^ 64:=by omega
 have h:j.natAbs.log2 < 64:=(Nat.log2_lt (by omega)).mpr this;omega
def CDivB (i j:Int):Prop:=0 < j∧j < 2 ^ 64
theorem zWw {X:Cx}:OpR X (binaryOp .FloorDiv) (rI CDivB fun i j=>.int (i / j)):=opI fun i j _ _ _ _ _ hc q=>by
 have h1:(0:Int) < j:=hc.1;exact floordiv_int (by omega) (by rw [Int.fdiv_eq_ediv_of_nonneg i (by omega)];exact q) (.inl (PyProof.noPylong_of_log2 (zUs hc.1 hc.2)))
mutual
inductive Has (G:Addr→Prop) (H:Hp):V→PyData→Prop where
 | non:Has G H .non .none
 | bl (b:Bool):Has G H (.bl b) (.bool b)
 | int (i:Int):Has G H (.int i) (.int i)
 | str (x:Str) (hx:x.length≤1000) (ho:PyData.strOk x=true):Has G H (.str x) (.str x)
 | lst {a:Addr}{xs:List V}{ds:List PyData}:G a→H a=some (.lst xs)→xs.length≤1000→HasAll G H xs ds→Has G H (.ref a) (.list ds)
 | tup {a:Addr}{xs:List V}{ds:List PyData}:G a→H a=some (.tup xs)→xs.length≤1000→HasAll G H xs ds→Has G H (.ref a) (.tuple ds)
inductive HasAll (G:Addr→Prop) (H:Hp):List V→List PyData→Prop where
 | nil:HasAll G H [] []
 | cons {x:V}{xs:List V}{d:PyData}{ds:List PyData}:Has G H x d→HasAll G H xs ds→HasAll G H (x :: xs) (d :: ds)
end
section
variable {G:Addr→Prop}{H:Hp}
theorem HasAll.length:∀ {xs:List V}{ds:List PyData},HasAll G H xs ds→xs.length=ds.length
 | _,_,.nil=>rfl
 | _,_,.cons _ t=>by rw [Zd,Zd,HasAll.length t]
end
section
variable {X:Cx}{pins:List (Addr×Obj)}{σ : St}{H:Hp}{s:Shared}{G:Addr→Prop}
end
section
variable {κ : Type} [DecidableEq κ]
def dstep (acc:List κ) (x : κ):List κ:=if x∈acc then acc else acc++[x]
def dl (l:List κ):List κ:=l.foldl dstep []
theorem yBk (l:List κ) (x : κ):dl (l++[x])=dstep (dl l) x:=by unfold dl;rw [List.foldl_append];rfl
theorem zGo:∀ (l acc:List κ) (k : κ),k∈l.foldl dstep acc ↔ k∈acc∨k∈l
 | [],acc,k=>by simp
 | x :: r,acc,k=>by
  rw [List.foldl_cons,zGo r];unfold dstep;by_cases h:x∈acc
  ·rw [if_pos h];constructor
   ·rintro (a | a)
    ·exact .inl a
    ·exact .inr (Zb _ a)
   ·rintro (a | a)
    ·exact .inl a
    ·rcases List.mem_cons.mp a with rfl | a
     ·exact .inl h
     ·exact .inr a
  ·rw [if_neg h];simp only [List.mem_append,Zw,Zr,or_false];constructor
   ·rintro ((a | a) | a)
    ·exact .inl a
    ·exact .inr (.inl a)
    ·exact .inr (.inr a)
   ·rintro (a | a | a)
    ·exact .inl (.inl a)
    ·exact .inl (.inr a)
    ·exact .inr a
theorem zYv {l:List κ}{k : κ}:k∈dl l ↔ k∈l:=by unfold dl;rw [zGo];simp
theorem zGp:∀ (l acc:List κ),(l.foldl dstep acc).length≤acc.length + l.length
 | [],acc=>Z1 _
 | x :: r,acc=>by
  rw [List.foldl_cons];refine Z3 (zGp r _) ?_;unfold dstep;split
  ·rw [Zd];omega
  ·simp only [Zf,Zd,List.length_nil];omega
theorem zVd (l:List κ):(dl l).length≤l.length:=by have:=zGp l [];simpa [dl] using this
variable {prog:Program}{w:World}{A:Around}{R:Result→Shared→Prop}{I:Addr}{fp wr:List Addr}{n:Nat}{P:Nat→Value→Prop}{St:Nat→Heap→Prop}
theorem zQ4 {knd:KeyKind prog w κ}{h:Heap}{a:Addr}{S S' : κ→Bool}{m m':Nat} (x:h.SetOf knd a S m) (e:∀ k,S k=S' k) (em:m=m'):h.SetOf knd a S' m':=by
 have e':S=S':=funext e;subst e' em;exact x
theorem zTt (W:Walks prog w A.in1 I fp wr n P St) {D:Addr} (hD:D∉fp) {knd:KeyKind prog w κ}{ks:List κ} (hn:ks.length=n) (hval:∀ i v k,P i v→ks[i]? = some k→knd.is k v=true∧v.scannable=true) (hb:n + 1 < scanBound) :
 ∀ (j i:Nat) (z:Shared),n - i=j→i≤n→St i z.heap→z.heap.SetOf knd D (fun k=>decide (k∈ks.take i)) (dl (ks.take i)).length →
  (∀ h' tk,(∀ b o,b∉D :: wr→z.heap.get? b=some o→h'.get? b=some o)→h'.SetOf knd D (fun k=>decide (k∈ks)) (dl ks).length→R (.ok (.ret .none)) { z with heap:=h',toks:=tk }) →
  codeAny (model prog w) A (.builtin "set.update.loop" ⟨[.ref D,.ref I],[]⟩) R z:=by
 have hDw:D∉wr:=fun h=>hD (W.sub _ h);intro j
 induction j with
 | zero =>
  intro i z hj hi st hS hR;obtain rfl:i=n:=by omega
  refine codeAny_builtin PyProof.Rows.F.entry_set_update_loop ?_;rw [Around.under_plainId PyProof.Rows.F.plain_set_update_loop _];show wpAny _ A.in1 (pyNext (.ref I) >>= _) _ _ z;refine wpAny_bind (W.done z _ _ st fun h' tk kk=>?_);rw [List.take_of_length_le (Nat.le_of_eq hn)] at hS;obtain ⟨o,es,ep,t,ho,more⟩:=hS;exact wpAny_pure (hR h' tk (fun b o hb e=>kk b o (fun m=>hb (Zb _ m)) e) ⟨o,es,ep,t,kk D _ hDw ho,more⟩)
 | succ j ih =>
  intro i z hj hi st hS hR;have lt:i < n:=by omega
  refine codeAny_builtin PyProof.Rows.F.entry_set_update_loop ?_;rw [Around.under_plainId PyProof.Rows.F.plain_set_update_loop _];show wpAny _ A.in1 (pyNext (.ref I) >>= _) _ _ z;refine wpAny_bind (W.item i z _ _ lt st fun v h1 tk1 hP st1 k1=>?_);have hk:ks[i]? = some (ks[i]'(by omega)):=Z7 _;obtain ⟨hv,hs⟩:=hval i v _ hP hk;obtain ⟨o,es,ep,t,ho,more⟩:=hS;have hS1:h1.SetOf knd D (fun k=>decide (k∈ks.take i)) (dl (ks.take i)).length:=⟨o,es,ep,t,k1 D _ hDw ho,more⟩;show wpAny _ A.in1 (holding [v] (setAdd D v) >>= _) _ _ _;refine wpAny_bind (wpAny_holding ?_);unfold setAdd;refine wpAny_holding (wpAny_bind (knd.pyHash hv ?_));have room:(dl (ks.take i)).length + 1 < scanBound:=by
   have a1:=zVd (ks.take i);have a2:(ks.take i).length≤i:=List.length_take_le _ _;omega
  refine wpAny_setAddHashed_of (knd:=knd) (s:={ z with heap:=h1,toks:=tk1 + 1 }) hv hs hS1 room fun h2 sb2 hS2=>?_;have et:ks.take (i + 1)=ks.take i++[ks[i]'(by omega)]:=by rw [List.take_add_one,hk];rfl
  have hS3:h2.SetOf knd D (fun k=>decide (k∈ks.take (i + 1))) (dl (ks.take (i + 1))).length:=by
   refine zQ4 hS2 (fun k=>?_) ?_
   ·rw [et,Yc];simp only [Bool.or_eq_true,decide_eq_true_eq,List.mem_append,List.mem_singleton]
   ·rw [et,yBk];unfold dstep;by_cases q:ks[i]'(by omega)∈ks.take i
    ·rw [if_pos (by simpa using q),if_pos (zYv.mpr q)]
    ·rw [if_neg (by simpa using q),if_neg (fun z=>q (zYv.mp z)),Zf,List.length_singleton]
  refine wpAny_pure ⟨plainId_quiet PyProof.Rows.F.plain_set_update_loop _,ih (i + 1) _ (by omega) lt (W.frame _ h1 _ st1 fun b hb o e=>?_) hS3 fun h' tk kk hS'=>hR h' tk (fun b o hb e=>kk b o hb ?_) hS'⟩
  ·rw [sb2.2 b (fun q:b=D=>hD (by rw [← q];exact hb))];exact e
  ·rw [sb2.2 b (fun q:b=D=>hb (by rw [q];exact Zj))];exact k1 b o (fun m=>hb (Zb _ m)) e
end
end L2
namespace L2
open PySem PySem.Spec PyProof.Rows
abbrev bareSet (b:Bool):Obj:={ cls:=.type "set",dict:=none,data:=.set #[] 0 (.fresh 0 0 b) }
section
variable {κ : Type} [DecidableEq κ] {prog:Program}{w:World}{A:Around}{E:Value→Shared→Prop}{z:Shared}
def SetMade (knd:KeyKind prog w κ) (ks:List κ) (z:Shared) (r:Value) (z':Shared):Prop :=
 r=.none∧∃ h' tk,z'={ z with heap:=h',toks:=tk }∧h'.SetOf knd z.heap.objs.size (fun k=>decide (k∈ks)) (dl ks).length∧∀ b o,b < z.heap.objs.size→z.heap.get? b=some o→h'.get? b=some o
set_option maxHeartbeats 6400000 in
theorem zVw {knd:KeyKind prog w κ}{l:Addr}{its:Array Value}{ks:List κ}{Q:Value→Shared→Prop} (hh:A.handled=none) (hl:z.heap.IsList l its) (hn:ks.length=its.size)
 (hv:∀ (i:Nat) (v:Value) (k : κ),its[i]? = some v→ks[i]? = some k→knd.is k v=true∧v.scannable=true) (hb:its.size + 1 < scanBound)
 (h:∀ z',SetMade knd ks z .none z'→Q (.ref z.heap.objs.size) z'):wpAny (model prog w) A (call (.type "set") [.ref l]) Q E z:=by
 obtain ⟨mc,mt,m0⟩:=PySem.F.called_set.mro;have m1:=PySem.F.called_set.made;have m2:=PySem.F.called_set.sub;refine wpAny_call (codeAny_of_tree ?_);show wpAny _ _ (callAny (.type "set") _) _ _ _;refine wpAny_pure ⟨Code.quiet_builtin _ (by decide +kernel),codeAny_builtin PySem.F.entry_type_call ?_⟩;rw [Around.under_plain (weight_type_call_type "set" [.ref l] []) rfl];have m3:=PySem.F.called_set.notType;have m4:=PySem.F.called_set.canCreate;have m5:=PySem.F.typeCall_set_1 (.ref l)
 repeat (any_goals (first | assumption | wp_step))
 refine codeAny_mono (code_set_new_1 (.ref l) (E:=E) (Q₁:=fun r z1=>∃ b:Bool,r=.ref z.heap.objs.size∧z1={ z with heap:=z.heap.push (bareSet b) }) fun b=>⟨b,rfl,rfl⟩) fun r z1 hr=>?_;cases r with
 | error e=>exact hr
 | ok fl =>
  cases fl with
  | next=>exact hr.elim
  | brk=>exact hr.elim
  | cont=>exact hr.elim
  | ret r =>
   obtain ⟨b,rfl,rfl⟩:=hr;have g0:(z.heap.push (bareSet b)).get? z.heap.objs.size=some (bareSet b):=Z9 _ rfl;have ty:Shared.TypeIs { z with heap:=z.heap.push (bareSet b) } (.ref z.heap.objs.size) "set":=⟨_,g0,rfl⟩;have i1:=PySem.F.called_set.init.lookup;have i2:=PySem.F.called_set.init.bind (.ref z.heap.objs.size)
   repeat (any_goals (first | assumption | wp_step))
   refine codeAny_mono (codeAny_call_builtin (R:=wants (SetMade knd ks z) E) PySem.F.called_set.init.plain PySem.F.entry_set_init (check_set_init_1 ty ?_)) fun r2 z2 hr2=>?_
   ·obtain ⟨⟨oc,od,odt,osl⟩,ho,c1,nl,d1⟩:=hl;simp only at c1 d1;subst c1 d1;have ho1:(z.heap.push (bareSet b)).get? l=some { cls:=.type "list",dict:=od,data:=.seq its nl,slots:=osl }:=Z0 _ ho;have s1:=PySem.F.sub_list_set;have s2:=PySem.F.sub_list_frozenset;have s3:(Value.type "list" == Value.type "dict")=false:=by decide
    have hl1:(z.heap.push (bareSet b)).IsList l its:=⟨_,ho1,rfl,nl,rfl⟩;unfold Builtin.«set.__init__» noKeywords Builtin.Frozenset.updateFrom;generalize ePI:pyIter=PI
    wp_walk
    subst ePI;refine wpAny_pyIter_list hl1 ?_;refine wpAny_bind (wpAny_runValue ?_);have lt:l < z.heap.objs.size:=Z8 ho;have sz1:(z.heap.push (bareSet b)).objs.size=z.heap.objs.size + 1:=Zz _ _;have neI:l≠(z.heap.push (bareSet b)).objs.size:=by rw [sz1];exact Za (Y9 lt)
    have nD:z.heap.objs.size∉[(z.heap.push (bareSet b)).objs.size,l]:=by
     rw [sz1];simp only [Zw,Zr,or_false,not_or];exact ⟨Za (Zp _),Nat.ne_of_gt lt⟩
    refine zTt (Walks.list (by simp [hh]) _ l neI its) nD (knd:=knd) (ks:=ks) hn hv hb (its.size - 0) 0 _ (by omega) (Y4 _) ⟨⟨_,Z9 _ rfl,rfl,rfl⟩,hl1.push _⟩ ?_ fun h' tk kk hS=>?_
    ·refine zQ4 ((PyProof.Rows.setObjOf_fresh (knd:=knd) b).setOf (Z0 _ g0) (by unfold scanBound;omega)) (fun k=>?_) rfl;simp
    ·show wpAny _ _ _ _ _ _;refine wpAny_pure ?_;show wpAny _ _ (ret Value.none) _ _ _;refine wpAny_pure ⟨rfl,h',tk,rfl,hS,fun c o hc e=>kk c o ?_ (Z0 _ (Z0 _ e))⟩;rw [sz1];simp only [Zw,Zr,or_false,not_or];exact ⟨Za hc,Za (Y9 hc)⟩
   ·cases r2 with
    | error e=>exact hr2
    | ok fl2 =>
     cases fl2 with
     | next=>exact hr2.elim
     | brk=>exact hr2.elim
     | cont=>exact hr2.elim
     | ret r =>
      have hs:=hr2;obtain ⟨rfl,h',tk,rfl,hS,kk⟩:=hr2
      repeat (any_goals (first | assumption | wp_step))
      exact h _ hs
end
def SetS (P:Program) (w:World) (p:Addr) (ks:List Str):HO:=.ext fun h=>h.SetOf (strKind P w) p (fun k=>decide (k∈ks)) (dl ks).length
section
variable {X:Cx}
theorem zR8:∀ {ks:List Str}{us:List Value}{i:Nat}{v:Value}{k:Str},Vals (ks.map V.str) us→us[i]? = some v→ks[i]? = some k→∃ t,v=Value.str k t
 | [],_,i,v,k,.nil,h,_=>by simp at h
 | b :: r,_,0,v,k,.cons a t,h,hk=>by
  simp at h hk;subst h hk;exact a
 | b :: r,_,i + 1,v,k,.cons a t,h,hk=>zR8 (ks:=r) (i:=i) t (by simpa using h) (by simpa using hk)
theorem zOd (hc:X.calm=true):CallR X (.type "set") (fun xs H Q=>∃ (p:Addr) (ks:List Str),xs=[.ref p]∧SqL X.K H p (ks.map V.str)∧ks.length≤4000∧∀ d,H d=none→Q (.ref d) (upd H d (SetS X.prog X.w d ks))):=by
 intro pins s σ H xs us Q I r h;obtain ⟨p,ks,rfl,hp,hz,q⟩:=h;obtain ⟨u,rfl,ru⟩:=v1 r;cases (show u=Value.ref p from ru);obtain ⟨its,rv,pl,_⟩:=I.list hp;have hlen:its.length=ks.length:=by rw [← rv.length,Z2]
 refine zVw (knd:=strKind X.prog X.w) (ks:=ks) (I.ok.hd hc) pl.isList (by rw [Z4,hlen]) (fun i v k h1 h2=>?_) (by rw [Z4,hlen];unfold scanBound;omega) fun z' hs=>?_
 ·obtain ⟨t,rfl⟩:=zR8 rv (by simpa using h1) h2;exact ⟨strKind_is _ _ _ _,rfl⟩
 ·obtain ⟨_,h',tk,rfl,hS,kk⟩:=hs;refine ⟨.ref s.heap.objs.size,_,I.laid (t':=tk) (a:=s.heap.objs.size) (o:=SetS X.prog X.w s.heap.objs.size ks) (fun b o e=>kk b o (Z8 e) e) (Z1 _) ?_,rfl,q _ (I.hok.fresh (Z1 _))⟩;refine ⟨hS,?_,fun h1 h2 hs1 k12=>?_⟩
  ·obtain ⟨o,_,_,_,e,_⟩:=hS;exact ⟨o,e⟩
  ·obtain ⟨o,es,ep,t,e,more⟩:=hs1;exact ⟨o,es,ep,t,k12 o e,more⟩
theorem zJm:CallR X (.builtin "len") (fun xs H Q=>∃ (d:Addr) (ks:List Str),xs=[.ref d]∧H d=some (SetS X.prog X.w d ks)∧ks.length≤4000∧Q (.int (dl ks).length) H):=by
 intro pins s σ H xs us Q I r h;obtain ⟨d,ks,rfl,hd,hz,q⟩:=h;obtain ⟨u,rfl,ru⟩:=v1 r;cases (show u=Value.ref d from ru);obtain ⟨hS,_,_⟩:=I.hok d _ hd;obtain ⟨o,es,ep,t,e,hex,hdt,_,_,hb,hf,hn⟩:=hS;refine call_len_set e hex hdt hf ?_ ?_
 ·unfold scanBound at hb;omega
 ·rw [hn];exact ⟨.int _,H,I.tok _,⟨_,rfl⟩,q⟩
end
end L2
namespace L2
open PySem PySem.Spec PyProof.Rows
theorem ScOk.auto {X:Cx}{sc:Scope}{cl:List (Str×Addr)}{T:List Str} (h1:closureFor sc X.env=pure cl:=by rfl) (h2:(sc.names.all fun y=>y.2 != .cell)=true:=by rfl) (h3:sc.kind=.function:=by rfl)
 (h4:(sc.names.all fun x=>x.2 != .local || sc.names.lookup x.1 == some .local)=true:=by rfl)
 (h5:ClOk X cl:=by first | exact trivial | exact ⟨rfl,trivial⟩ | exact ⟨rfl,rfl,trivial⟩ | exact ⟨rfl,rfl,rfl,trivial⟩ | exact ⟨rfl,rfl,rfl,rfl,trivial⟩)
 (h6:(sc.names.all fun x=>x.2 != .free || ((cl.lookup x.1).isSome && (X.env.scope.names.lookup x.1 == some .cell || X.env.scope.names.lookup x.1 == some .free)))=true:=by rfl)
 (h7:(X.N.all fun x=>sc.names.lookup x != some .local)=true:=by rfl):ScOk X sc cl T where
 clos:=h1
 cell:=fun y hy=>by have:=List.all_eq_true.mp h2 y hy;simpa using this
 kind:=h3
 names:=fun x hx hl=>by
  have:=List.all_eq_true.mp h4 x hx;rw [hl] at this
  simpa using this
 cls:=h5
 has:=fun x hx hf=>by
  have:=List.all_eq_true.mp h6 x hx;rw [hf] at this
  simpa using this
 out:=fun x hx=>by have:=List.all_eq_true.mp h7 x hx;simpa using this
def Calm (CX:CXT):Prop:=∀ o H s e s',CX o H s (fun _ _ _=>False) e s'→False
end L2
namespace L2
open PySem PySem.Spec PyProof.Rows
section
variable {X:Cx}{pins:List (Addr×Obj)}{σ : St}{H:Hp}{s:Shared}
theorem Inv.adopt {T:Addr}{o:HO} (I:Inv X pins σ H s) (hn:H T=none) (h1:X.s₀.heap.objs.size≤T) (hL:T≠X.env.locals) (h2:∀ x c,X.env.cells.lookup x=some c→c≠T) (h3:∀ p∈X.pn++pins,p.1≠T)
 (new:ObjOk X.prog X.w (upd H T o) s.heap T o):Inv X pins σ (upd H T o) s:=by
 refine I.step (h':=s.heap) (g':=s.gens) (d':=s.drawn) (t':=s.toks) (ch:=[T]) (fun b hb=>?_) (fun b o _ _ _ e _=>e) (fun b o _ _ _ e _=>⟨o.slots,e⟩) (fun b o hc e n=>?_) (fun b o _ e=>⟨o,e⟩)
  (fun b xs e=>?_) (fun b o u e=>?_) (fun b ps e=>⟨#[],?_⟩) (fun m h=>h) (fun b u e=>?_) I.bare
 ·have e:b=T:=by simpa using hb
  subst e;exact ⟨.inr (Y2 h1),hL,h2,h3⟩
 ·rw [zAa (fun z=>hc (by simp [z]))];exact n
 ·rw [zAa (zA7 e hn)];exact e
 ·rw [zAa (zA7 e hn)];exact e
 ·rw [zAa (zA7 e hn),e];simp
 ·by_cases hb:b=T
  ·subst hb;rw [zAc] at e;cases e;exact new
  ·rw [zAa hb] at e;exact (I.hok b u e).stay (fun c v _ q=>q) (fun c q=>by rw [zAa (zA7 q hn)];exact q) fun c xs q=>by rw [zAa (zA7 q hn)];exact q
theorem Inv.turns {h':Heap}{t':Nat}{ch:List Addr} (I:Inv X pins σ H s) (k:∀ b o,b∉ch→s.heap.get? b=some o→h'.get? b=some o) (hf:∀ b∈ch,FpOk X pins H b):Inv X pins σ H { s with heap:=h',toks:=t' }:=by
 have nit:∀ b u,H b=some u→b∉ch:=fun b u e z=>by rw [(hf b z).1] at e;cases e
 refine I.step (g':=s.gens) (d':=s.drawn) (ch:=ch) (fun b hb=>⟨(hf b hb).2.2.2.1.imp_right fun z=>Y2 z,(hf b hb).2.1,(hf b hb).2.2.2.2.1,(hf b hb).2.2.2.2.2⟩) (fun b o _ _ hc e _=>k b o hc e) (fun b o _ _ hc e _=>⟨o.slots,k b o hc e⟩) (fun _ _ _ _ n=>n)
  (fun b o hc e=>⟨o,k b o hc e⟩) (fun _ _ e=>e) (fun _ _ _ e=>e) (fun b ps e=>⟨#[],by rw [e];simp⟩) (fun m hm=>?_) (fun b u e=>?_) I.bare
 ·obtain ⟨o,es,ep,ho,r⟩:=hm;exact ⟨o,es,ep,k _ o (fun z=>(hf _ z).2.1 rfl) ho,r⟩
 ·refine (I.hok b u e).stay (fun c v hc q=>k c v ?_ q) (fun _ q=>q) fun _ _ q=>q;rcases hc with z | z
  ·rw [z];exact nit b u e
  ·exact nit c _ z
end
section
variable {X:Cx}
theorem zOj:∀ {ks:List Str}{us:List Value},Vals (ks.map V.str) us→∃ l:List (Str×Tok),us=strValues l∧l.map (·.1)=ks
 | [],_,.nil=>⟨[],rfl,rfl⟩
 | k :: r,_,.cons a t=>by
  obtain ⟨tk,rfl⟩:=a;obtain ⟨l,e1,e2⟩:=zOj t;exact ⟨(k,tk) :: l,by rw [e1];rfl,by rw [Zi,e2]⟩
theorem yAy {K:PySem.W.Frag} (hK:X.K=K):MtR X "str.join" (fun x xs H Q=>∃ (z:Str) (p:Addr) (ks:List Str),x=.str z∧xs=[.ref p]∧SqL K H p (ks.map V.str)∧PySem.JoinOk z ks=true∧Q (.str (Txt.join z ks)) H):=by
 subst hK;intro pins s σ H x xs v us Q I rx rs h;obtain ⟨z,p,ks,rfl,rfl,hp,hj,q⟩:=h;obtain ⟨t,rfl⟩:=rx;obtain ⟨u,rfl,ru⟩:=v1 rs;cases (show u=Value.ref p from ru);obtain ⟨its,rv,pl,_⟩:=I.list hp;obtain ⟨l,rfl,el⟩:=zOj rv;exact PySem.SC.join pl.isList el hj fun t' k=>⟨.str _,H,I.tok k,⟨t',rfl⟩,q⟩
end
end L2
namespace L2
open PySem PySem.Spec PyProof.Rows
section
variable {X:Cx}{K:PySem.W.Frag}{o e:Expr}{es:List Expr}{to ta tl:TE}{t:TA}{name f:Str}{apos cpos pos:Pos}{T id:String}{r:V→List V→Hp→VK→Prop}{tg:Expr}
end
end L2
namespace L2
open PySem PySem.Spec PyProof.Rows
end L2
namespace L2
open PySem PySem.Spec PyProof.Rows
section
variable {X:Cx}
def rCat2 (K:PySem.W.Frag):R2:=fun x y H Q=>∃ a b xs ys,x=.ref a∧y=.ref b∧SqT K H a xs∧SqT K H b ys∧xs.length + ys.length≤sizeLine ∧
 (xs=[]→Q (.ref b) H)∧(xs≠[]→ys=[]→Q (.ref a) H)∧(xs≠[]→ys≠[]→∀ p,H p=none→Q (.ref p) (upd H p (.tup (xs++ys))))
theorem yAt {K:PySem.W.Frag} (hK:X.K=K):OpR X (binaryOp .Add) (rCat2 K):=by
 subst hK;intro pins s σ H x y v u Q I rx ry h;obtain ⟨a,b,xs,ys,rfl,rfl,ha,hb,hz,q0,q1,q2⟩:=h;cases rx;cases ry;obtain ⟨its,r1,p1,_⟩:=I.tuple ha;obtain ⟨its2,r2,p2,_⟩:=I.tuple hb;by_cases hx:xs=[]
 ·obtain ⟨⟨cls,dd,data,sl⟩,ho,hc,n,hd⟩:=id p1;obtain ⟨⟨cls2,dd2,data2,sl2⟩,ho2,hc2,n2,hd2⟩:=id p2;simp only at hc hd hc2 hd2;subst hc hd hc2 hd2;have hv:its=[]:=r1.nil_iff.mpr hx;exact concat_meets ⟨_,ho,rfl⟩ ⟨_,ho2,rfl⟩ noFill_tuple_add seq_tuple_add PySem.F.slot_tuple_add PySem.F.entry_tuple_add (PySem.F.args_tuple_add_2 _ _)
   (tuple_addW0 a b its.toArray its2.toArray n n2 dd dd2 sl sl2 (by simp [hv])) ⟨ho,ho2,.ref b,H,I,rfl,q0 hx⟩
 ·refine HT.cat_tup p1 p2 (fun z=>hx (r1.nil_iff.mp z)) (fun z=>⟨.ref a,H,I,rfl,q1 hx (r2.nil_iff.mp z)⟩) (fun z=>?_) (by rw [← r1.length,← r2.length];exact hz);refine ⟨.ref s.heap.objs.size,_,I.laid (t':=s.toks) (o:=.tup (xs++ys)) (fun b ob q=>Z0 _ q) (Z1 _) ?_,rfl,q2 hx (fun w=>z (r2.nil_iff.mpr w)) _ (I.hok.fresh (Z1 _))⟩;exact ⟨by rw [Zf];exact hz,_,r1.append r2,IsTup.new _ _⟩
end
end L2
namespace L2
open PySem PySem.Spec PyProof.Rows
def Kept (h h':Heap):Prop:=∀ b o,h.get? b=some o→h'.get? b=some o
theorem Kept.trans {a b c:Heap} (x:Kept a b) (y:Kept b c):Kept a c:=fun p o e=>y p o (x p o e)
theorem Kept.push (h:Heap) (o:Obj):Kept h (h.push o):=fun _ _ e=>Z0 _ e
theorem Kept.same {g h h':Heap}{a:Addr} (k:Kept g h) (ha:g.objs.size≤a) (sb:Heap.SameBut a h h'):Kept g h':=fun b o e =>
 (sb.2 b (Za (Z5 (Z8 e) ha))).trans (k b o e)
theorem Kept.but {g h h':Heap}{a:Addr} (k:Kept g h) (ha:g.objs.size≤a) (sb:∀ b o,b∉[a]→h.get? b=some o→h'.get? b=some o):Kept g h':=fun b o e =>
 sb b o (fun z=>Za (Z5 (Z8 e) ha) (List.mem_singleton.mp z)) (k b o e)
def ltS (a b:Str):Prop:=a.cps.toList < b.cps.toList
instance (a b:Str):Decidable (ltS a b):=inferInstanceAs (Decidable (a.cps.toList < b.cps.toList))
theorem zIy {a b c:Str} (x:ltS a b) (y:ltS b c):ltS a c:=List.lt_trans x y
section
variable {P:Program}{w:World}{A:Around}{E:Value→Shared→Prop}{z:Shared}{g:Heap}{l q I S:Addr}{vs:List Value}{R:Result→Shared→Prop}
def KeyEnd (z:Shared) (h:Heap) (k:Str) (u:Value) (y:Shared):Prop:=∃ (h':Heap) (tk':Nat) (t:Tok),u=.str k t∧y={ z with heap:=h',toks:=tk' }∧Kept h h'
theorem zX6 (ks:Nat→Str) (hh:A.handled=none) (hl:g.IsList l vs.toArray) (hI:g.objs.size≤I) (hS:g.objs.size≤S) (ne:S≠I)
 (turn:∀ i v,vs[i]? = some v→∀ (h:Heap) (tk:Nat),Kept g h→wpAny (model P w) A.in1 (call (.ref q) [v]) (KeyEnd z h (ks i)) (fun _ _=>False) { z with heap:=h,toks:=tk })
 (fin:∀ i v h tk,vs[i]? = some v→(∀ j,j < vs.length→¬ ltS (ks j) (ks i))→Kept g h→R (.ok (.ret v)) { z with heap:=h,toks:=tk }) :
 ∀ (r j i:Nat) (h:Heap) (tk:Nat) (b:Value) (t:Tok) (n:Nat),vs.length - (j + 1)=r→j + 1≤vs.length→Kept g h→h.get? S=some (seqObj "list" #[b,.str (ks i) t] n)→h.IsListIter I l (j + 1) →
  vs[i]? = some b→i≤j→(∀ k,k≤j→¬ ltS (ks k) (ks i))→codeAny (model P w) A (.builtin "min.loop" ⟨[.ref I,.ref q,.ref S],[]⟩) R { z with heap:=h,toks:=tk }:=by
 have nm:(toString "min"++toString ".loop" : String) = "min.loop":=by decide
 have hlI:l≠I:=by
  obtain ⟨o,e,_⟩:=hl;exact Za (Z5 (Z8 e) hI)
 have W:=Walks.list (prog:=P) (w:=w) (A:=A.in1) hh I l hlI vs.toArray;have sz:vs.toArray.size=vs.length:=by simp
 have lst:∀ {h},Kept g h→h.IsList l vs.toArray:=fun {h} k=>by
  obtain ⟨o,e,r⟩:=hl;exact ⟨o,k _ _ e,r⟩
 intro r
 induction r with
 | zero =>
  intro j i h tk b t n hr hj k hs it hb hij best;have hin:j + 1=vs.length:=by omega
  refine codeAny_builtin PySem.F.entry_min_loop ?_;rw [Around.under_plainId PySem.F.plain_min_loop _];show wpAny _ A.in1 (seqItems? (Value.ref S) >>= _) _ _ _;refine wpAny_bind (wpAny_seqItems hs rfl ?_);show wpAny _ A.in1 (tryCatch (pyNext (Value.ref I)) _ >>= _) _ _ _;refine wpAny_bind (wpAny_tryCatch (W.done _ _ _ ⟨by rw [sz,← hin];exact it,lst k⟩ fun h1 tk1 k1=>?_));have e1:=k1 S _ (by simpa using ne) hs;show wpAny _ A.in1 (updateSeq S (fun _=>(#[]:Array Value)) >>= _) _ _ _;refine wpAny_bind (wpAny_updateSeq e1 rfl (wpAny_bind (wpAny_letGo (wpAny_pure ?_))));exact fin i b _ _ hb (fun k' hk=>best k' (by omega)) ((k.but hI k1).same hS (Heap.SameBut.update h1 S _))
 | succ r ih =>
  intro j i h tk b t n hr hj k hs it hb hij best;have hlt:j + 1 < vs.length:=by omega
  refine codeAny_builtin PySem.F.entry_min_loop ?_;rw [Around.under_plainId PySem.F.plain_min_loop _];show wpAny _ A.in1 (seqItems? (Value.ref S) >>= _) _ _ _;refine wpAny_bind (wpAny_seqItems hs rfl ?_);show wpAny _ A.in1 (tryCatch (pyNext (Value.ref I)) _ >>= _) _ _ _;refine wpAny_bind (wpAny_tryCatch (W.item (j + 1) _ _ _ (by rw [sz];exact hlt) ⟨it,lst k⟩ fun v h1 tk1 hp st k1=>?_));have hv:vs[j + 1]? = some v:=by simpa using hp
  have e1:=k1 S _ (by simpa using ne) hs;have kg:=k.but hI k1;show wpAny _ A.in1 (tryCatch (holding [v] (call (Value.ref q) [v])) _ >>= _) _ _ _;refine wpAny_bind (wpAny_tryCatch (wpAny_holding (wpAny_mono (turn (j + 1) v hv h1 tk1 kg) (fun u y he=>?_) fun _ _ f=>f.elim)));obtain ⟨h2,tk2,t2,rfl,rfl,k2⟩:=he;have e2:=k2 S _ e1;have it2:h2.IsListIter I l (j + 1 + 1):=st.1.at fun o e=>k2 _ _ e;have kg2:=kg.trans k2;show wpAny _ A.in1 (tryCatch (holding [v,Value.str (ks (j + 1)) t2] (richCompare .Lt (Value.str (ks (j + 1)) t2) (Value.str (ks i) t) >>= _)) _ >>= _) _ _ _;refine wpAny_bind (wpAny_tryCatch (wpAny_holding (wpAny_bind (show wpAny _ _ (compareOp .Lt (Value.str (ks (j + 1)) t2) (Value.str (ks i) t)) _ _ _ from lt_str ?_))));refine wpAny_bind (wpAny_holding (wpAny_truthy_bool ?_));refine wpAny_bind (wpAny_letGo (wpAny_pure ?_));by_cases c:ltS (ks (j + 1)) (ks i)
  ·have c':(ks (j + 1)).cps.toList < (ks i).cps.toList:=c;obtain ⟨n2,g2⟩:∃ n2,(h2.update S (Obj.mapSeq fun _=>#[v,Value.str (ks (j + 1)) t2])).get? S=some (seqObj "list" #[v,Value.str (ks (j + 1)) t2] n2):=⟨_,get?_update_seq e2 fun _=>#[v,Value.str (ks (j + 1)) t2]⟩;have s2:=Heap.SameBut.update h2 S (Obj.mapSeq fun _=>#[v,Value.str (ks (j + 1)) t2]);simp only [c',decide_true,if_true];refine wpAny_bind (wpAny_updateSeq e2 rfl (wpAny_bind (wpAny_letGo ?_)));rw [nm];refine wpAny_pure ⟨plainId_quiet PySem.F.plain_min_loop _,ih (j + 1) (j + 1) _ _ v t2 n2 (by omega) hlt (kg2.same hS s2) g2 (it2.at fun o e=>(s2.2 I (Ne.symm ne)).trans e) hv (Z1 _) fun k' hk=>?_⟩;by_cases e:k'=j + 1
   ·subst e;exact fun z=>List.lt_irrefl _ z
   ·exact fun z=>best k' (by omega) (zIy z c)
  ·have c':¬ (ks (j + 1)).cps.toList < (ks i).cps.toList:=c;simp only [c',decide_false,Bool.false_eq_true,if_false];refine wpAny_bind (wpAny_letGo ?_);rw [nm];refine wpAny_pure ⟨plainId_quiet PySem.F.plain_min_loop _,ih (j + 1) i _ _ b t n (by omega) hlt kg2 e2 it2 hb (by omega) fun k' hk=>?_⟩;by_cases e:k'=j + 1
   ·subst e;exact c
   ·exact best k' (by omega)
theorem yAz {Q:Value→Shared→Prop} (ks:Nat→Str) (hh:A.handled=none) (hl:z.heap.IsList l vs.toArray) (h0:0 < vs.length)
 (turn:∀ i v,vs[i]? = some v→∀ (h:Heap) (tk:Nat),Kept z.heap h→wpAny (model P w) A.in1 (call (.ref q) [v]) (KeyEnd z h (ks i)) (fun _ _=>False) { z with heap:=h,toks:=tk })
 (fin:∀ i v h tk,vs[i]? = some v→(∀ j,j < vs.length→¬ ltS (ks j) (ks i))→Kept z.heap h→Q v { z with heap:=h,toks:=tk }) :
 wpAny (model P w) A (call (.builtin "min") [.ref l] [(Str.ofString "key",.ref q)]) Q E z:=by
 have nm:(toString "min"++toString ".loop" : String) = "min.loop":=by decide
 refine kmk_tree PySem.F.kind_min PySem.F.plain_min PySem.F.entry_min (kmk_min_key _ _) ?_;show wpAny _ A.in1 (Builtin.Builtins.bindParams "min" ["key", "default"] 0 ⟨[],[(Str.ofString "key",Value.ref q)]⟩ >>= _) _ _ z;refine wpAny_bind (wpAny_of_eq (show Builtin.Builtins.bindParams "min" ["key", "default"] 0 ⟨[],[(Str.ofString "key",Value.ref q)]⟩=pure [some (Value.ref q),none] from rfl) ?_);refine wpAny_bind (wpAny_pure (wpAny_bind (wpAny_pyIter_list hl (wpAny_bind (wpAny_newList ?_ (Y4 _))))));rw [nm];refine wpAny_pure ⟨plainId_quiet PySem.F.plain_min_loop _,?_⟩
 let oI:Obj:={ cls:=.type "list_iterator",data:=.fields #[.ref l,.int 0 0] }
 have sz1:(z.heap.push oI).objs.size=z.heap.objs.size + 1:=Zz ..;have gI:((z.heap.push oI).push (seqObj "list" #[] 0)).get? z.heap.objs.size=some oI:=Z0 _ (Z9 _ rfl);have gS:((z.heap.push oI).push (seqObj "list" #[] 0)).get? (z.heap.push oI).objs.size=some (seqObj "list" #[] 0):=Z9 _ rfl;have kk:Kept z.heap ((z.heap.push oI).push (seqObj "list" #[] 0)):=(Kept.push _ _).trans (Kept.push _ _);have hI:z.heap.objs.size≤z.heap.objs.size:=Z1 _;have hS:z.heap.objs.size≤(z.heap.push oI).objs.size:=by rw [sz1];exact Yf _
 have ne:(z.heap.push oI).objs.size≠z.heap.objs.size:=by rw [sz1];exact Nat.succ_ne_self _
 have hlI:l≠z.heap.objs.size:=by
  obtain ⟨o,e,_⟩:=hl;exact Za (Z8 e)
 have W:=Walks.list (prog:=P) (w:=w) (A:=A.in1) hh z.heap.objs.size l hlI vs.toArray;have sz:vs.toArray.size=vs.length:=by simp
 have lst:∀ {h},Kept z.heap h→h.IsList l vs.toArray:=fun {h} k=>by
  obtain ⟨o,e,r⟩:=hl;exact ⟨o,k _ _ e,r⟩
 refine codeAny_builtin PySem.F.entry_min_loop ?_;rw [Around.under_plainId PySem.F.plain_min_loop _];show wpAny _ A.in1 (seqItems? (Value.ref (z.heap.push oI).objs.size) >>= _) _ _ _;refine wpAny_bind (wpAny_seqItems gS rfl ?_);show wpAny _ A.in1 (tryCatch (pyNext (Value.ref z.heap.objs.size)) _ >>= _) _ _ _;refine wpAny_bind (wpAny_tryCatch (W.item 0 _ _ _ (by rw [sz];exact h0) ⟨⟨_,gI,rfl,rfl⟩,lst kk⟩ fun v h1 tk1 hp st k1=>?_));have hv:vs[0]? = some v:=by simpa using hp
 have e1:=k1 _ _ (by simpa using ne) gS;have kg:=kk.but hI k1;show wpAny _ A.in1 (tryCatch (holding [v] (call (Value.ref q) [v])) _ >>= _) _ _ _;refine wpAny_bind (wpAny_tryCatch (wpAny_holding (wpAny_mono (turn 0 v hv h1 tk1 kg) (fun u y he=>?_) fun _ _ f=>f.elim)));obtain ⟨h2,tk2,t2,rfl,rfl,k2⟩:=he;have e2:=k2 _ _ e1;have s2:=Heap.SameBut.update h2 (z.heap.push oI).objs.size (Obj.mapSeq fun _=>#[v,Value.str (ks 0) t2]);obtain ⟨n2,g2⟩:∃ n2,(h2.update (z.heap.push oI).objs.size (Obj.mapSeq fun _=>#[v,Value.str (ks 0) t2])).get? (z.heap.push oI).objs.size=some (seqObj "list" #[v,Value.str (ks 0) t2] n2):=⟨_,get?_update_seq e2 fun _=>#[v,Value.str (ks 0) t2]⟩;show wpAny _ A.in1 (updateSeq (z.heap.push oI).objs.size (fun _=>#[v,Value.str (ks 0) t2]) >>= _) _ _ _;refine wpAny_bind (wpAny_updateSeq e2 rfl ?_);rw [nm];refine wpAny_pure ⟨plainId_quiet PySem.F.plain_min_loop _,zX6 ks hh hl hI hS ne turn fin _ 0 0 _ _ v t2 n2 rfl h0 ((kg.trans k2).same hS s2) g2 ((st.1.at fun o e=>k2 _ _ e).at fun o e=>(s2.2 _ (Ne.symm ne)).trans e) hv (Z1 _) fun k' hk=>?_⟩;have:k'=0:=by omega
 subst this;exact fun z=>List.lt_irrefl _ z
end
end L2
namespace L2
open PySem PySem.Spec PyProof.Rows
def CodeO (c:Addr) (q:Str):HO:=.ext fun h=>h.CodeRec (.ref c) q
def TabOk (H:Hp) (P:Addr) (pos:Pos) (q:Str):Prop:=H P=some (.tbl #[])∨∃ c,H P=some (.tbl #[rawInt pos.line,rawInt pos.col,.ref c])∧H c=some (CodeO c q)
def GrownBut (P:Addr) (H H':Hp):Prop:=∀ b o,H b=some o→b≠P→H' b=some o
theorem TabOk.ne {H:Hp}{P:Addr}{pos:Pos}{q:Str} (T:TabOk H P pos q) {a:Addr}{o:HO} (e:H a=some o) (h:∀ ps,o≠.tbl ps):a≠P:=by
 rintro rfl;rcases T with z | ⟨c,z,_⟩ <;> rw [e] at z <;> exact h _ (Zl z)
theorem TabOk.stay {H H':Hp}{P:Addr}{pos:Pos}{q:Str} (T:TabOk H P pos q) (k:∀ b o,H b=some o→H' b=some o):TabOk H' P pos q:=by
 rcases T with z | ⟨c,z,y⟩
 ·exact .inl (k _ _ z)
 ·exact .inr ⟨c,k _ _ z,k _ _ y⟩
theorem TabOk.but {H H':Hp}{P:Addr}{pos:Pos}{q:Str}{p:Addr}{u:HO} (T:TabOk H P pos q) (hp:H p=some u) (h1:∀ ps,u≠.tbl ps) (h2:∀ f,u≠.ext f) (k:∀ b o,H b=some o→b≠p→H' b=some o):TabOk H' P pos q:=by
 have n1:=T.ne hp h1;rcases T with z | ⟨c,z,y⟩
 ·exact .inl (k _ _ z (Ne.symm n1))
 ·refine .inr ⟨c,k _ _ z (Ne.symm n1),k _ _ y ?_⟩;rintro rfl;rw [hp] at y;exact h2 _ (Zl y)
def BltAt (mg:Str→Option Value) (base:Heap):Prop:=∃ (bm:Addr) (ob:Obj),mg "__builtins__" = some (.ref bm)∧bm≠builtinsNs∧bm≠mainGlobals∧base.get? bm=some ob∧ob.cls=.type "module"∧ob.dict=some builtinsNs∧ob.data=.plain
structure LamTxt (K:PySem.W.Frag) (mg:Str→Option Value) (base:Heap) (c P:Addr):Prop where
 hd:PySem.W.codeHdIn K c P=true
 blt:BltAt mg base
section
variable {X:Cx}{pins:List (Addr×Obj)}{σ : St}{H:Hp}{s:Shared}{A:Around}{E:Value→Shared→Prop}
theorem zIl {c:Addr}{q:Str}:∀ h1 h2:Heap,h1.CodeRec (.ref c) q→(∀ o,h1.get? c=some o→h2.get? c=some o)→h2.CodeRec (.ref c) q:=fun h1 h2 ⟨c',o,vs,t,e,ho,r⟩ k=>by
 cases e;exact ⟨c,o,vs,t,rfl,k o ho,r⟩
theorem zXf {params:Arguments}{body:Expr}{scope:Scope}{pos:Pos}{c P:Addr}{q:Str}{Q:Value→Shared→Prop} (I:Inv X pins σ H s) (T:LamTxt X.K X.mg X.base c P) (hcode:X.env.code=.ref c) (hq:X.env.qual++"<lambda>" = q)
 (hcl:closureFor scope X.env=pure []) (hdef:defaultsOf params X.env=([],[])) (W:TabOk H P pos q)
 (h:∀ (H':Hp) (s':Shared) (f c':Addr) (pm ctv:Value),Inv X pins σ H' s'→s'.heap.get? f=some (PySem.W.kla_obj "<lambda>" q params body scope [] pm c' ctv)→s'.heap.CodeRec (.ref c') q→TabOk H' P pos q→GrownBut P H H'→Q (.ref f) s') :
 wpAny (model X.prog X.w) A (eval (.Lambda params body scope pos) X.env) Q E s:=by
 subst hq;refine PySem.W.kla_eval hdef ?_;obtain ⟨bm,ob,e1,e3,e4,e2,e5,e6,e7⟩:=T.blt;have hbP:bm≠P:=by
  rintro rfl;have:=(I.bs _ _ e2).2;rcases W with z | ⟨c',z,_⟩ <;> rw [this] at z <;> cases z
 have hb:s.heap.BuiltinsAt X.mg P:=⟨bm,ob,e1,e3,e4,hbP,I.bk _ _ e2,e5,e6,e7⟩;have hg:=I.mod.glob.keeps I.bk;have C:=PySem.W.codeHd_of_K I.kIn T.hd;have tab:∀ {ps},H P=some (.tbl ps)→s.heap.get? P=some (PySem.W.tabObj ps):=fun {ps} e=>I.hok P _ e;have hgP:mainGlobals≠P:=by
  rintro rfl;obtain ⟨o,es,ep,ho,hd,_⟩:=hg;rcases W with z | ⟨c',z,_⟩ <;> (rw [tab z] at ho;cases ho;cases hd)
 rcases W with z | ⟨c',z,y⟩
 ·refine PySem.W.kla_makeFunction hcl I.ok.glob hg hcode C (tab z) trivial rfl hgP hb fun c' ctv h' tk hx hge hlt hrec htb=>?_;have fc:H c'=none:=I.hok.fresh hge;have nP:c'≠P:=Ne.symm (zA7 z fc)
  let H':Hp:=upd (upd H P (.tbl #[rawInt pos.line,rawInt pos.col,.ref c'])) c' (CodeO c' (X.env.qual++"<lambda>"))
  have hP':H' P=some (.tbl #[rawInt pos.line,rawInt pos.col,.ref c']):=by show upd _ _ _ _=_;rw [zAa (Ne.symm nP),zAc]
  have hc':H' c'=some (CodeO c' (X.env.qual++"<lambda>")):=zAc;have gr:∀ b o,H b=some o→b≠P→H' b=some o:=fun b o e nb=>by
   show upd _ _ _ _=_;rw [zAa (zA7 e fc),zAa nb];exact e
  have I1:Inv X pins σ H' { s with heap:=h',toks:=tk }:=by
   refine I.step (g':=s.gens) (d':=s.drawn) (ch:=[]) (fun _ m=>nomatch m) (fun b o _ _ _ e n=>hx b o (Ne.symm (zA7 z n)) e) (fun b o _ _ _ e n=>⟨o.slots,hx b o (Ne.symm (zA7 z n)) e⟩) (fun b o _ e n=>?_) (fun b o _ e=>?_)
    (fun b xs e=>gr b _ e fun k=>by subst k;rw [z] at e;cases e) (fun b o u e=>gr b _ e fun k=>by subst k;rw [z] at e;cases e) (fun b ps e=>?_) (fun m hm=>?_) (fun b u e=>?_) I.bare
   ·show upd _ _ _ _=_;rw [zAa (Za (Z5 (Z8 e) hge)),zAa (Ne.symm (zA7 z n))];exact n
   ·by_cases k:b=P
    ·subst k;exact ⟨_,htb⟩
    ·exact ⟨o,hx b o k e⟩
   ·by_cases k:b=P
    ·subst k;rw [z] at e;cases e;exact ⟨#[rawInt pos.line,rawInt pos.col,.ref c'],by rw [hP'];rfl⟩
    ·exact ⟨#[],by rw [gr b _ e k];simp⟩
   ·exact hm.extBut hx fun k=>by have:=I.free;rw [k,z] at this;cases this
   ·by_cases k1:b=c'
    ·subst k1;rw [hc'] at e;cases e;obtain ⟨_,o,_,_,e',ho,_⟩:=id hrec;cases e';exact ⟨hrec,⟨o,ho⟩,zIl⟩
    ·by_cases k2:b=P
     ·subst k2;rw [hP'] at e;cases e;exact htb
     ·have e':H b=some u:=by
       have e2:upd (upd H P _) c' _ b=some u:=e
       rwa [zAa k1,zAa k2] at e2
      refine (I.hok b u e').stay (fun d v hd' r=>hx d v ?_ r) (fun d r=>gr d _ r ?_) fun d xs r=>gr d _ r ?_
      ·rcases hd' with k | k
       ·rw [k];exact k2
       ·rintro rfl;rw [z] at k;cases k
      ·rintro rfl;rw [z] at r;cases r
      ·rintro rfl;rw [z] at r;cases r
  have I2:Inv X pins σ H' { s with heap:=h'.push _,toks:=tk }:=I1.kept (t':=tk) (h':=h'.push (PySem.W.kla_obj "<lambda>" (X.env.qual++"<lambda>") params body scope [] ((X.mg "__name__").getD .none) c' ctv)) fun b u e=>Z0 _ e;refine h H' _ h'.objs.size c' ((X.mg "__name__").getD .none) ctv I2 (Z9 _ rfl) ?_ (.inr ⟨c',hP',hc'⟩) gr;exact zIl h' _ hrec fun o e=>Z0 _ e
 ·refine PySem.W.kla_makeFunctionHit (cv:=.ref c') hcl I.ok.glob hg hcode C (tab z) trivial ?_ hb fun ctv h' tk kk sz=>?_
  ·simp [codeAmong,rawInt]
  ·have I2:Inv X pins σ H { s with heap:=h'.push _,toks:=tk }:=I.kept (t':=tk) (h':=h'.push (PySem.W.kla_obj "<lambda>" (X.env.qual++"<lambda>") params body scope [] ((X.mg "__name__").getD .none) c' ctv)) fun b u e=>Z0 _ (kk b u e);refine h H _ h'.objs.size c' ((X.mg "__name__").getD .none) ctv I2 (Z9 _ rfl) ?_ (.inr ⟨c',z,y⟩) fun b o e _=>e;obtain ⟨hr,_,_⟩:=I.hok c' _ y;exact zIl s.heap _ hr fun o e=>Z0 _ (kk _ _ e)
end
structure LamSc (scope:Scope) (x:Str):Prop where
 co:scope.isCoroutine=false
 gen:scope.isGenerator=false
 kind:scope.kind=.function
 cell:∀ y∈scope.names,y.2≠.cell
 loc:scope.names.lookup x=some .local
section
variable {P:Program}{w:World}{A:Around}{z:Shared}
theorem yB6 {f c':Addr}{nm q x fld k:Str}{params:Arguments}{p1 p2:Pos}{scope:Scope}{pm ctv v:Value} (ho:z.heap.get? f=some (PySem.W.kla_obj nm q params (.Attribute (.Name x p1) fld p2) scope [] pm c' ctv)) (hc:z.heap.CodeRec (.ref c') q)
 (hroom:A.depth < recursionLimit) (hlim:z.heap.NoLimit) (hb:bindArgs (PySem.W.kla_fn nm q params (.Attribute (.Name x p1) fld p2) scope [] pm (.ref c') ctv) ⟨[v],[]⟩=pure [(x,v)]) (S:LamSc scope x) (hx:(x == ("__debug__" : Str))=false)
 (hat:∀ env:Env,attributeBase (.Name x p1) fld env (eval (.Name x p1) env)=eval (.Name x p1) env)
 (hget:∀ (A':Around) (E':Value→Shared→Prop) (h:Heap) (tk:Nat),Kept z.heap h→wpAny (model P w) A' (getAttr v fld true) (fun u y=>∃ t tk',u=.str k t∧y={ z with heap:=h,toks:=tk' }) E' { z with heap:=h,toks:=tk }) :
 wpAny (model P w) A (call (.ref f) [v]) (KeyEnd z z.heap k) (fun _ _=>False) z:=by
 refine wpAny_call (PySem.W.kla_callFunE hroom ho rfl S.co S.gen rfl hc ?_);rw [hb];refine wpAny_pure (wpAny_newFunctionEnv S.cell (fun y hy=>by rw [List.mem_singleton.mp hy];exact S.loc) (fun h1 hns hsb=>?_) S.kind);have kk:Kept z.heap h1:=fun b o e=>(hsb.2 b (Za (Z8 e))).trans (Z0 _ e);refine ⟨hlim.keeps kk,PySem.W.kla_codeExpr (zVy (hat _) (wpAny_Name (wpAny_loadName_local S.kind S.loc hns (v:=v) (by simp) ?_) hx))⟩;refine thn (hget _ _ h1 _ kk) fun u y ⟨t,tk',eu,ey⟩=>?_;exact ⟨h1,tk',t,eu,ey,kk⟩
end
def tMinKey (K:PySem.W.Frag) (P:Addr) (pos:Pos) (q fld:Str) (ta:TA):TE:=fun σ H Q=>ta σ H fun vs H1=>∃ (l:Addr) (xs:List V) (ks:List Str),vs=[.ref l]∧SqL K H1 l xs∧0 < xs.length∧TabOk H1 P pos q∧ks.length=xs.length ∧
 (∀ (i:Nat) (v:V) (k:Str),xs[i]? = some v→ks[i]? = some k→∃ a C dx fs,v=.ref a∧H1 a=some (.ins C dx fs)∧Cls K C∧NoAttr K C fld∧fs.lookup fld=some (.str k)) ∧
 ∀ (i:Nat) (v:V) (k:Str) (H2:Hp),xs[i]? = some v→ks[i]? = some k→(∀ y∈ks,¬ ltS y k)→TabOk H2 P pos q→GrownBut P H1 H2→Q v H2
section
variable {X:Cx}
theorem zU1 {e:Expr}{ta:TA}{x fld q:Str}{params:Arguments}{p p1 p2 lpos kpos pos:Pos}{scope:Scope}{c P:Addr} (T:LamTxt X.K X.mg X.base c P) (hcode:X.env.code=.ref c) (hr:Room 2 X.A) (hcm:X.calm=true) (hg:Gl X "min") (hm:X.mg "min" = none) (ha:PA X [e] ta)
 (S:LamSc scope x) (hq:X.env.qual++"<lambda>" = q:=by rfl) (hcl:closureFor scope X.env=pure []:=by rfl) (hdef:defaultsOf params X.env=([],[]):=by rfl)
 (hb:∀ (pm cd ctv v:Value),bindArgs (PySem.W.kla_fn "<lambda>" q params (.Attribute (.Name x p1) fld p2) scope [] pm cd ctv) ⟨[v],[]⟩=pure [(x,v)]:=by intros;rfl) (hx:(x == ("__debug__" : Str))=false:=by decide)
 (hat:∀ env:Env,attributeBase (.Name x p1) fld env (eval (.Name x p1) env)=eval (.Name x p1) env:=by intros;rfl)
 (he:backTo pos (starEach [e] X.env)=(false,eval e X.env) :: backTo pos (starEach [] X.env):=by rfl) (hpl:(backTo pos (starEach [e] X.env)).any (·.1)=false:=by rfl) :
 PE X (.Call (.Name "min" p) [e] [⟨some "key",.Lambda params (.Attribute (.Name x p1) fld p2) scope lpos,kpos⟩] pos) (tMinKey X.K P lpos q fld ta):=by
 intro pins s σ H Q I h;refine wpAny_Call_Name_kw (zMx I hg hm PyProof.Rows.boot_min ?_);refine PyProof.Rows.callWith_kw (thn (ha pos pins s σ H _ I h) fun us s1 ⟨vs,H1,I1,r1,q1⟩=>?_) he hpl rfl rfl;obtain ⟨l,xs,ks,rfl,hl,h0,W,hlen,hat1,fin⟩:=q1;obtain ⟨u,rfl,ru⟩:=v1 r1;cases (show u=Value.ref l from ru);refine PyProof.Rows.evalAll_cons (wpAny_bind (zXf I1 T hcode hq hcl hdef W fun H2 s2 f c' pm ctv I2 ho hrec W2 gr=>wpAny_bind (wpAny_standAt (wpAny_pure ?_))));refine PyProof.Rows.evalAll_nil ?_;have hlP:SqL X.K H2 l xs:=by
  rcases hl with (z | ⟨o,z⟩) | z
  ·exact .inl (.inl (gr _ _ z (W.ne z (fun _ k=>nomatch k))))
  ·exact .inl (.inr ⟨o,gr _ _ z (W.ne z (fun _ k=>nomatch k))⟩)
  ·exact .inr z
 obtain ⟨its,rv,pl,_⟩:=I2.list hlP;have il:=rv.length;refine yAz (vs:=its) (fun i=>ks.getD i Str.empty) (I2.ok.hd hcm) pl.isList (by omega) (fun i v hv h tk kk=>?_) fun i v h tk hv hbest kk=>?_
 ·have hi:i < its.length:=(List.getElem?_eq_some_iff.mp hv).1;obtain ⟨y,hy⟩:∃ y,xs[i]? = some y:=⟨_,Z7 (by omega)⟩;obtain ⟨k,hk⟩:∃ k,ks[i]? = some k:=⟨_,Z7 (by omega)⟩;obtain ⟨u,hu,ry⟩:=rv.get hy;rw [hv] at hu;cases hu;obtain ⟨a,C,dx,fs,rfl,ea,cc,nn,lf⟩:=hat1 i y k hy hk;cases (show v=Value.ref a from ry);have ek:ks.getD i Str.empty=k:=by simp [hk]
  show wpAny _ _ _ (KeyEnd s2 h (ks.getD i Str.empty)) _ _;rw [ek];have I3:Inv X pins σ H2 { s2 with heap:=h,toks:=tk }:=I2.kept (t':=tk) kk;have ea2:H2 a=some (.ins C dx fs):=gr _ _ ea (W.ne ea (fun _ k=>nomatch k));refine yB6 (z:={ s2 with heap:=h,toks:=tk }) (kk _ _ ho) (zIl _ _ hrec fun o e=>kk _ _ e) hr.in1.depth I3.nolimit (hb _ _ _ _) S hx hat fun A' E' h2 tk2 k2=>?_;have I4:Inv X pins σ H2 { s2 with heap:=h2,toks:=tk2 }:=I3.kept (t':=tk2) k2;obtain ⟨mA,O,r,_,_,_⟩:=zLy I4.hok ea2;obtain ⟨w',hw,rw'⟩:=RelO.some_of (v:=V.str k) (o:=mA fld) (by rw [← lf];exact r fld);obtain ⟨t,rfl⟩:=rw';exact zV8 I4.kIn O (cc.get fld) cc.hd nn hw rfl ⟨t,_,rfl,rfl⟩
 ·have hi:i < its.length:=(List.getElem?_eq_some_iff.mp hv).1;obtain ⟨y,hy⟩:∃ y,xs[i]? = some y:=⟨_,Z7 (by omega)⟩;obtain ⟨k,hk⟩:∃ k,ks[i]? = some k:=⟨_,Z7 (by omega)⟩;obtain ⟨u,hu,ry⟩:=rv.get hy;rw [hv] at hu;cases hu;have ek:ks.getD i Str.empty=k:=by simp [hk]
  refine ⟨y,H2,I2.kept (t':=tk) kk,ry,fin i y k H2 hy hk (fun y' hy'=>?_) W2 gr⟩;obtain ⟨j,hj,ej⟩:=List.getElem_of_mem hy';have:=hbest j (by omega);rw [ek] at this;have e2:ks.getD j Str.empty=y':=by simp [Z7 hj,ej]
  rw [e2] at this;exact this
end
end L2
namespace L2
open PySem PySem.Spec PyProof.Rows
theorem yFu {p:Program}{loose:List Str}{mean:ExcName→Option Value}{mg mb:Str→Option Value}{h:Heap} (T:PyProof.Rows.Top p loose mean mg mb h):BltAt mg h:=by
 obtain ⟨bm,ob,b1,b2,b3,b4,b5,b6⟩:=T.bmain;refine ⟨bm,ob,b1,b2,fun q=>?_,b3,b4,b5,b6⟩;obtain ⟨o,es,ep,e,hd,_⟩:=T.g;rw [q,e] at b3;cases b3;rw [hd] at b6;cases b6
end L2
namespace L2
open PySem PySem.Spec PyProof.Rows
def Ite (K:PySem.W.Frag) (a:Addr):It :=
 ⟨fun i H=>∃ xs x,SqL K H a xs∧xs[i]? = some x,
  fun i H v H'=>∃ p x,v=.ref p∧H p=none∧H'=upd H p (.tup [.int (i:Nat),x])∧∀ xs,SqL K H a xs→xs[i]? = some x,
  fun i H=>∃ xs,SqL K H a xs∧xs.length≤i⟩
theorem zTl {P:Program}{w:World}{K:PySem.W.Frag}{es:List Expr}{x1:_}{pos:Pos}{l e it:Addr} (D:e≠it) :
 Turn P w K (.Tuple es x1 pos) (Ite K l) [e,it] e (fun i h=>(∃ old,IsEnum h e it ((i:Nat):Int) old)∧h.IsListIter it l i) where
 mem:=by simp
 obj:=fun i h st b hb=>by
  obtain ⟨⟨old,h1⟩,⟨o4,h4,_,d4⟩⟩:=st;simp only [Zw,Zr,or_false] at hb;rcases hb with rfl | rfl
  ·exact ⟨_,h1,fun v q=>by cases (show Data.fields _=Data.cell v from q)⟩
  ·exact ⟨_,h4,fun v q=>by rw [d4] at q;cases q⟩
 keep:=fun i h h' st k=>by
  obtain ⟨⟨old,h1⟩,h4⟩:=st;exact ⟨⟨old,k e (by simp) _ h1⟩,h4.at fun o q=>k it (by simp) o q⟩
 item:=by
  intro X hP hw hK hc i pins s σ H E I hf st hg;subst hP hw hK;obtain ⟨⟨old,h1⟩,h4⟩:=st;obtain ⟨xs,x,qx,ex⟩:=hg;obtain ⟨its,rx,px,_⟩:=I.list qx;obtain ⟨u,hu,ru⟩:=rx.get ex;refine wpAny_pyNext_enum_item h1 h4 px.isList (x:=u) (by simpa using hu) D fun h' a1 a2 a3 a4 a5=>?_;refine ⟨_,rfl,wpAny_letOwnedTupleGo_enum a1 fun h2' b1 sb=>?_⟩;have ne:s.heap.objs.size≠e:=fun q=>by have:=Z8 h1;rw [← q] at this;exact Zv _ this
  have J:Inv X pins σ H { s with heap:=h2',toks:=s.toks + 1 }:=I.turns (t':=s.toks + 1) (ch:=[e,it]) (fun b o hb q=>by
   simp only [Zw,Zr,or_false,not_or] at hb
   exact (sb.2 b hb.1).trans (a5 b o hb.1 hb.2 q)) hf
  have gT:h2'.get? s.heap.objs.size=some { cls:=.type "tuple",data:=.seq #[.int (i:Nat) s.toks,u] }:=(sb.2 _ ne).trans a3;have fT:H s.heap.objs.size=none:=I.hok.fresh (Z1 _)
  have J2:Inv X pins σ (upd H s.heap.objs.size (.tup [.int (i:Nat),x])) { s with heap:=h2',toks:=s.toks + 1 }:=J.adopt fT I.sz (Nat.ne_of_gt I.lt) (fun n c q=>by
   obtain ⟨w',q⟩:=I.cell n c q
   exact Za q.lt) (fun p hp=>Za (Z8 (I.pin p hp).1)) ⟨by show 2≤sizeLine;decide,[.int (i:Nat) s.toks,u],.cons ⟨_,rfl⟩ (.cons ru .nil),⟨_,gT,rfl,_,rfl⟩⟩
  refine ⟨.ref s.heap.objs.size,_,J2,rfl,⟨_,x,rfl,fT,rfl,fun zs hz=>by rw [I.list_inj hz qx];exact ex⟩,⟨⟨u,?_⟩,a2.at fun o q=>(sb.2 _ (Ne.symm D)).trans q⟩,fun b hb=>?_⟩
  ·have:(((i + 1:Nat)):Int)=(i:Int) + 1:=by push_cast;rfl
   rw [this];exact b1
  ·have hb':=(hf b hb).1;have:b≠s.heap.objs.size:=by
    rintro rfl;obtain ⟨o,q⟩:∃ o,s.heap.get? s.heap.objs.size=some o:=by
     simp only [Zw,Zr,or_false] at hb;rcases hb with q | q <;> rw [q]
     ·exact ⟨_,h1⟩
     ·obtain ⟨o,q,_⟩:=h4;exact ⟨o,q⟩
    exact Zv _ (Z8 q)
   rw [zAa this];exact hb'
 done:=by
  intro X hP hw hK hc i pins s σ H E I hf st hg;subst hP hw hK;obtain ⟨⟨old,h1⟩,h4⟩:=st;obtain ⟨xs,qx,hend⟩:=hg;obtain ⟨its,rx,px,_⟩:=I.list qx;have e1:=rx.length;refine wpAny_pyNext_enum_end (I.ok.hd hc) h1 h4 px.isList (by simp;omega) fun h' kk=>⟨rfl,I.turns (t':=s.toks) (ch:=[e,it]) (fun b o hb q=>?_) hf⟩;simp only [Zw,Zr,or_false,not_or] at hb;exact kk b o hb.2 q
 self:=fun _ _ _ _ _ st h=>wpAny_pyIter_enum st.1.choose_spec h
def iEnum (K:PySem.W.Frag) (ta:TA):TI:=fun σ H R=>ta σ H fun vs H1=>∃ a,vs=[.ref a]∧(∃ xs,SqL K H1 a xs)∧R (Ite K a) H1
section
variable {X:Cx}
theorem yA6 {es:List Expr}{x1:_}{tp:Pos}{e1:Expr}{ta:TA}{p pos:Pos} (hg:Gl X "enumerate") (hm:X.mg "enumerate" = none) (ha:PA X [e1] ta) (hs:starEach [e1] X.env=[(false,eval e1 X.env)]:=by rfl) :
 PI X (.Tuple es x1 tp) (.Call (.Name "enumerate" p) [e1] [] pos) (iEnum X.K ta):=by
 intro pins s σ H R I h;refine Call_ (zMx I hg hm boot_enumerate (PyProof.Rows.callWith_type1 (thn (ha pos pins s σ H _ I h) fun us s1 ⟨vs,H1,I1,r1,q1⟩=>?_) hs rfl));obtain ⟨a,rfl,⟨xs,qx⟩,q⟩:=q1;obtain ⟨u,rfl,ru⟩:=v1 r1;cases (show u=Value.ref a from ru);obtain ⟨its,rx,px,_⟩:=I1.list qx;refine call_enumerate_list px.isList fun h' a1 a2 a3 a4=>wpAny_pyIter_enum a1 ?_;have I2:Inv X pins σ H1 { s1 with heap:=h' }:=I1.kept (t':=s1.toks) a4;refine ⟨s1.heap.objs.size + 1,[s1.heap.objs.size + 1,s1.heap.objs.size],_,_,H1,rfl,I2,zTl (Nat.succ_ne_self _),⟨⟨_,a1⟩,a2⟩,fun c hc=>?_,q⟩;have hc':s1.heap.objs.size≤c:=by
  simp only [Zw,Zr,or_false] at hc;rcases hc with q | q
  ·rw [q];exact Yf _
  ·rw [q];exact Z1 _
 exact I1.fpOk hc' (I1.hok.fresh hc')
end
def Froze (H:Hp) (d:Addr) (kvs:List (Key×V)) (H':Hp):Prop:=∃ o,H'=upd H d (.frz o (.dK kvs))
theorem Froze.at {H H':Hp}{d:Addr}{kvs:List (Key×V)} (z:Froze H d kvs H'):Rd H' d (.dK kvs):=by
 obtain ⟨o,rfl⟩:=z;exact .inr ⟨o,zAc⟩
theorem Froze.ne {H H':Hp}{d:Addr}{kvs:List (Key×V)} (z:Froze H d kvs H') {b:Addr} (h:b≠d):H' b=H b:=by
 obtain ⟨o,rfl⟩:=z;exact zAa h
section
variable {X:Cx}{pins:List (Addr×Obj)}{σ : St}{H:Hp}{s:Shared}{d:Addr}{kvs:List (Key×V)}
theorem yCd {H:Hp}{a:Addr}{o:HO} (h:H a=some o):upd H a o=H:=by
 funext b;by_cases e:b=a
 ·subst e;rw [zAc,h]
 ·rw [zAa e]
theorem Inv.freeze (I:Inv X pins σ H s) (r:Rd H d (.dK kvs)):∃ o es ep,o.data=.dict es ep∧s.heap.get? d=some o∧Inv X pins σ (upd H d (.frz o (.dK kvs))) s:=by
 rcases r with r | ⟨o,r⟩
 ·have ok:=I.hok d _ r;obtain ⟨_,_,_,_,o,es,ep,e,ex,dd,_⟩:=id ok;refine ⟨o,es,ep,dd,e,?_⟩;have tup:∀ b xs,H b=some (.tup xs)→b≠d:=fun b xs q z=>by subst z;rw [r] at q;cases q
  refine I.step (h':=s.heap) (g':=s.gens) (d':=s.drawn) (t':=s.toks) (ch:=[]) (fun _ m=>nomatch m) (fun b o _ _ _ e _=>e) (fun b o _ _ _ e _=>⟨o.slots,e⟩) (fun b o _ q n=>?_) (fun b o _ e=>⟨o,e⟩)
   (fun b xs q=>?_) (fun b o u q=>?_) (fun b ps q=>⟨#[],?_⟩) (fun m h=>h) (fun b u q=>?_) I.bare
  ·rw [zAa (Ne.symm (zA7 r n))];exact n
  ·rw [zAa (tup b xs q)];exact q
  ·rw [zAa (fun z=>by subst z;rw [r] at q;cases q)];exact q
  ·rw [zAa (fun z=>by subst z;rw [r] at q;cases q),q];simp
  ·by_cases hb:b=d
   ·subst hb;rw [zAc] at q;cases q;exact ⟨e,ok⟩
   ·rw [zAa hb] at q;exact (I.hok b u q).stay (fun c v _ q=>q) (fun c q=>by rw [zAa (fun z=>by subst z;rw [r] at q;cases q)];exact q) fun c xs q=>by rw [zAa (tup c xs q)];exact q
 ·obtain ⟨e,_,_,_,_,o',es,ep,e',ex,dd,_⟩:=I.hok d _ r;rw [e] at e';cases e';exact ⟨o,es,ep,dd,e,by rw [yCd r];exact I⟩
theorem Inv.dictAt {o:Obj}{es:Array DictEntry}{ep:Nat} (I:Inv X pins σ H s) (e:H d=some (.frz o (.dK kvs))) (hd:o.data=.dict es ep):∃ vs,KV kvs vs∧s.heap.DictAt (mixKind X.prog X.w) d vs ep∧(d == sysModules)=false:=by
 obtain ⟨g,_,lo,vs,kv,o',es',ep',g',ex,hd',r⟩:=I.hok d _ e;rw [g] at g';cases g';rw [hd] at hd';cases hd';exact ⟨vs,kv,⟨o,es,g,ex,hd,r⟩,lo⟩
end
theorem KV.get {κ : Type}:∀ {kvs:List (κ×V)}{vs:List (κ×Value)}{i:Nat}{k : κ}{x:V},KV kvs vs→kvs[i]? = some (k,x)→∃ u,vs[i]? = some (k,u)∧RelV x u
 | _,_,_,_,_,.nil,e=>by simp at e
 | _,_,0,k,x,.cons (b:=b) r _,e=>by
  simp at e;obtain ⟨k',u⟩:=b;subst e;obtain ⟨e1,e2⟩:=r;exact ⟨u,by simp at e1;simp [e1],e2⟩
 | _,_,i + 1,k,x,.cons _ t,e=>by
  obtain ⟨u,h1,h2⟩:=KV.get (i:=i) (k:=k) (x:=x) t (by simpa using e);exact ⟨u,by simpa using h1,h2⟩
theorem KV.len {κ : Type}{kvs:List (κ×V)}{vs:List (κ×Value)} (h:KV kvs vs):kvs.length=vs.length:=Paired.length h
theorem zQp {k:Key}{v:Value} (h:keyIs k v=true):RelV (kV k) v:=by
 rcases zB9 h with ⟨i,t,rfl,rfl⟩ | ⟨x,t,rfl,rfl⟩
 ·exact ⟨t,rfl⟩
 ·exact ⟨t,rfl⟩
def Itk (d:Addr) (kvs:List (Key×V)) (o:Obj):It :=
 ⟨fun i H=>H d=some (.frz o (.dK kvs))∧i < kvs.length,fun i H v H'=>H'=H∧∃ k x,kvs[i]? = some (k,x)∧v=kV k,fun i H=>H d=some (.frz o (.dK kvs))∧kvs.length≤i⟩
theorem zTj {P:Program}{w:World}{K:PySem.W.Frag}{tg:Expr}{d it:Addr}{kvs:List (Key×V)}{o:Obj}{es:Array DictEntry}{ep:Nat} (hd:o.data=.dict es ep) :
 Turn P w K tg (Itk d kvs o) [it] it (fun i h=>h.IsKeyIter it d i kvs.length ep) where
 mem:=by simp
 obj:=fun i h st b hb=>by
  have e:b=it:=by simpa using hb
  subst e;obtain ⟨o,e,c,d⟩:=st;exact ⟨o,e,fun v z=>by rw [d] at z;cases z⟩
 keep:=fun i h h' st k=>st.at fun o e=>k it (by simp) o e
 item:=by
  intro X hP hw hK hc i pins s σ H E I hf st hg;subst hP hw hK;obtain ⟨ho,hi⟩:=hg;obtain ⟨vs,kv,da,lo⟩:=I.dictAt ho hd;obtain ⟨⟨k,x⟩,hk⟩:∃ p,kvs[i]? = some p:=⟨_,Z7 hi⟩;obtain ⟨u,hu,ru⟩:=kv.get hk;obtain ⟨f0,f1,f2,f3,f4,f5⟩:=hf it (by simp);have st0:s.heap.IsKeyIter it d i kvs.length ep:=st;rw [kv.len] at st0;refine wpAny_pyNext_dict_item st0 da hu fun key h' hkey st' sb=>?_;have I1:Inv X pins σ H { s with heap:=h' }:=I.turned (t':=s.toks) (fun b o hb e=>(sb.2 b hb).trans e) f0 f1 f3 f4 f5;obtain ⟨o2,e,c,d2⟩:=id st';exact ⟨key,rfl,zXk (s:={ s with heap:=h' }) e c d2 (by decide) ⟨kV k,H,I1,zQp hkey,⟨rfl,k,x,hk,rfl⟩,by rw [kv.len];exact st',fun b hb=>(hf b hb).1⟩⟩
 done:=by
  intro X hP hw hK hc i pins s σ H E I hf st hg;subst hP hw hK;obtain ⟨ho,hi⟩:=hg;obtain ⟨vs,kv,da,lo⟩:=I.dictAt ho hd;obtain ⟨f0,f1,f2,f3,f4,f5⟩:=hf it (by simp);have st0:s.heap.IsKeyIter it d i kvs.length ep:=st;rw [kv.len] at st0;exact wpAny_pyNext_dict_end (I.ok.hd hc) st0 da (by have:=kv.len;simp;omega) fun h' eb=>⟨rfl,I.turned (t':=s.toks) (fun b o hb e=>eb b o hb e) f0 f1 f3 f4 f5⟩
 self:=fun _ _ _ _ _ st h=>wpAny_pyIter_keyiter st h
def ViewO (v d:Addr):HO:=.ext fun h=>h.IsValuesView v d
section
variable {X:Cx}{tg:Expr}
def tValues (td:TE):TE:=fun σ H Q=>td σ H fun x H1=>∃ d kvs,x=.ref d∧Rd H1 d (.dK kvs)∧∀ v,H1 v=none→Q (.ref v) (upd H1 v (ViewO v d))
theorem zU0 {o:Expr}{td:TE}{apos cpos:Pos} (ho:PE X o td) (hbase:attributeBase o "values" X.env (eval o X.env)=eval o X.env:=by rfl) (hline:(apos.endLine == cpos.line)=true:=by rfl) :
 PE X (.Call (.Attribute o "values" apos) [] [] cpos) (tValues td):=by
 intro pins s σ H Q I h;refine wpAny_Call_method0_late hbase hline (thn (ho pins s σ H _ I h) fun v s1 ⟨x,H1,I1,r1,d,kvs,ex,rd,q1⟩=>?_);subst ex;obtain rfl:v=Value.ref d:=r1;obtain ⟨t1,t2,lo⟩:=zS4 I1 (.inl ⟨kvs,rd⟩);obtain ⟨_,_,vs,kv,dd⟩:=zG5 I1.hok rd;refine ⟨"dict", "dict.values",PySem.F.plainAttrs_dict,PySem.F.slot_dict_values,PySem.F.type_dict_values,t1,t2,Calls.callWith_builtin rfl (PySem.evalArgs_none ?_)⟩;refine call_meetsIn PySem.F.slot_dict_values t1 PySem.F.entry_dict_values (PySem.F.args_dict_values_1 _) (meets_dict_values (mixKind X.prog X.w) d lo) ⟨⟨vs,dd⟩,?_⟩;have fr:H1 s1.heap.objs.size=none:=I1.hok.fresh (Z1 _);refine ⟨.ref s1.heap.objs.size,_,I1.laid (t':=s1.toks) (a:=s1.heap.objs.size) (o:=ViewO s1.heap.objs.size d) (fun b u e=>Z0 _ e) (Z1 _) ⟨⟨_,Z9 _ rfl,rfl,rfl⟩,⟨_,Z9 _ rfl⟩,fun h1 h2 ⟨o',e,r⟩ k=>⟨o',k _ e,r⟩⟩,rfl,q1 _ fr⟩
theorem zMi:CallR X (.type "list") (fun vs H Q=>∃ d kvs,vs=[.ref d]∧Rd H d (.dK kvs)∧X.calm=true∧∀ p,H p=none→Q (.ref p) (upd H p (.lst (kvs.map fun kv=>kV kv.1)))):=by
 intro pins s σ H vs us Q I rv h;obtain ⟨d,kvs,rfl,rd,hc,q⟩:=h;obtain ⟨u,rfl,ru⟩:=v1 rv;cases (show u=Value.ref d from ru);obtain ⟨hz,lo,ks,kv,dd⟩:=zG5 I.hok rd;obtain ⟨o,es,ep,g,ex,hd,r⟩:=id dd;have da:s.heap.DictAt (mixKind X.prog X.w) d ks ep:=⟨o,es,g,ex,hd,r⟩;have kl:=kv.len;refine PySem.W.kdl_call (PySem.W.kdl_dict (knd:=mixKind X.prog X.w) (kvs:=ks) (ep:=ep) lo) (I.ok.hd hc) da (by omega) fun h' tk acc c' kk hS hacc=>?_;have fr:H s.heap.objs.size=none:=I.hok.fresh (Z1 _);refine ⟨.ref s.heap.objs.size,_,I.laid (t':=tk) (a:=s.heap.objs.size) (o:=.lst (kvs.map fun kv=>kV kv.1)) kk (Z1 _) ⟨by rw [Z2];exact hz,acc.toList,c',?_,by rw [Array.toArray_toList];exact hS⟩,rfl,q _ fr⟩;have ln:acc.toList.length=kvs.length:=by rw [Zt,kl];exact hacc.1
 have all:∀ (j:Nat) (v:Value),acc.toList[j]? = some v→∃ k x,kvs[j]? = some (k,x)∧RelV (kV k) v:=fun j v e=>by
  obtain ⟨k,x,e2,hk⟩:=hacc.2 j v (by rw [← Array.getElem?_toList];exact e);have hj:j < kvs.length:=by rw [← ln];exact (List.getElem?_eq_some_iff.mp e).1
  obtain ⟨⟨k',x'⟩,hk'⟩:∃ p,kvs[j]? = some p:=⟨_,Z7 hj⟩;obtain ⟨u',hu',_⟩:=kv.get hk';rw [e2] at hu';cases hu';exact ⟨k,x',hk',zQp hk⟩
 clear hS hacc hz da dd kk kl kv rd q;generalize acc.toList=ys at ln all
 induction kvs generalizing ys with
 | nil =>
  cases ys with
  | nil=>exact .nil
  | cons a b=>cases ln
 | cons p t ih =>
  cases ys with
  | nil=>cases ln
  | cons a b =>
   refine .cons ?_ (ih b (by simpa using ln) fun j v e=>?_)
   ·obtain ⟨k,x,e,q⟩:=all 0 a rfl;simp at e;subst e;exact q
   ·obtain ⟨k,x,e2,q⟩:=all (j + 1) v (by simpa using e);exact ⟨k,x,by simpa using e2,q⟩
theorem zP9:∀ (a b:List Nat),ltCps a b=true ↔ a < b
 | [],[]=>by simp [ltCps]
 | [],_ :: _=>by simp [ltCps]
 | _ :: _,[]=>by simp [ltCps]
 | a :: r,b :: t=>by
  rw [List.cons_lt_cons_iff];simp only [ltCps,Bool.or_eq_true,Zc,decide_eq_true_eq,beq_iff_eq,zP9 r t]
theorem zPd {a b c:Str} (x:¬ ltS b a) (y:¬ ltS c b):¬ ltS c a:=by
 have h1:a.cps.toList≤b.cps.toList:=x;have h2:b.cps.toList≤c.cps.toList:=y;exact List.le_trans h1 h2
theorem zOq:∀ (l:List Str) (a:Str),risingS a l=true→(a :: l).Pairwise (fun x y=>¬ ltS y x)
 | [],a,_=>by simp
 | b :: r,a,h=>by
  have h':(!ltCps b.cps.toList a.cps.toList && risingS b r)=true:=h;simp only [Zc,Bool.not_eq_true'] at h';have ih:=zOq r b h'.2;have hab:¬ ltS b a:=fun z=>by
   have:=(zP9 _ _).mpr z;rw [h'.1] at this;cases this
  refine List.pairwise_cons.mpr ⟨fun y hy=>?_,ih⟩;rcases List.mem_cons.mp hy with rfl | hy
  ·exact hab
  ·exact zPd hab ((List.pairwise_cons.mp ih).1 y hy)
theorem zOl:∀ (l:List Str),sortedS l=true→l.Pairwise (fun x y=>¬ ltS y x)
 | [],_=>.nil
 | a :: r,h=>zOq r a h
theorem zNg:∀ {ks:List Str}{us:List Value},Vals (ks.map V.str) us→StrsAre us ks
 | [],_,.nil=>.nil
 | k :: r,_,.cons a t=>by
  obtain ⟨tk,rfl⟩:=a;exact .cons k tk (zNg t)
theorem zL1:∀ {ks:List Str}{us:List Value},StrsAre us ks→Vals (ks.map V.str) us
 | _,_,.nil=>.nil
 | _,_,.cons x t r=>.cons ⟨t,rfl⟩ (zL1 r)
theorem zKq {K:PySem.W.Frag} (hK:X.K=K):CallR X (.builtin "sorted") (fun vs H Q=>∃ (l:Addr) (ks:List Str),vs=[.ref l]∧SqL K H l (ks.map V.str)∧ks.length < 64 ∧
 ∀ p (ks':List Str),H p=none→ks'.Perm ks→ks'.Pairwise (fun a b=>¬ ltS b a)→Q (.ref p) (upd H p (.lst (ks'.map V.str)))):=by
 subst hK;intro pins s σ H vs us Q I rv h;obtain ⟨l,ks,rfl,hl,h64,q⟩:=h;obtain ⟨u,rfl,ru⟩:=v1 rv;cases (show u=Value.ref l from ru);obtain ⟨its,rx,pl,hz⟩:=I.list hl;have sa:=zNg rx;have il:=rx.length;simp only [Z2] at il hz;refine sorted_strs pl.isList sa (by omega) fun out ss' a1 a2 a3=>?_;obtain ⟨e,he⟩:=sortedAll_at s.heap its out;have fr:H (s.heap.objs.size + 1)=none:=I.hok.fresh (Yf _);have ln:ss'.length=ks.length:=a2.length_eq;refine ⟨.ref (s.heap.objs.size + 1),_,I.laid (t':=s.toks) (a:=s.heap.objs.size + 1) (o:=.lst (ss'.map V.str)) (fun _ _=>sortedAll_old) (Yf _) ⟨by rw [Z2];omega,out.toList,e,zL1 a1,by simpa [seqObj] using he⟩,rfl,q _ ss' fr a2 ?_⟩;exact zOl ss' a3
end
end L2
namespace L2
open PySem PySem.Spec PyProof.Rows
theorem zPa:typeLookup (.type "list") "keys" = pure none:=by rw [typeLookup_type,builtinLookup_eq_fast];kernel_rfl
theorem zPl:entryFor table "dict.update.loop" = some Builtin.«dict.update.loop»:=entryFor_of_tree (by kernel_rfl)
theorem zIm:plainId "dict.update.loop" = true:=by decide +kernel
section
variable {P:Program}{w:World}{A:Around}{E:Value→Shared→Prop}
theorem yAv {s:Shared}{a:Addr}{o:Obj}{xs:Array Value}{k:Nat}{Q:Option Value→Shared→Prop} (hx:s.heap.get? a=some o) (hc:o.cls=.type "list") (hdat:o.data=.seq xs k) (hd:o.dict=none) (hA:A.handled=none)
 (h:∀ h' tk,Kept s.heap h'→Q none { s with heap:=h',toks:=tk }):wpAny (model P w) A (getAttr? (.ref a) "keys") Q E s:=by
 obtain ⟨c,dct,dat,sl⟩:=o;simp only at hc hdat hd;subst hc hdat hd;obtain ⟨hp,g,d,tk,os⟩:=s;have hT:∀ n,(⟨hp,g,d,n,os⟩:Shared).TypeIs (.ref a) "list":=fun _=>⟨_,hx,rfl⟩;have f1:=sub_AttributeError;have f3:=F.slot_list_getattribute.lookup;have f4:=F.slot_list_getattribute.bind (.ref a);have f5:=am_list_getattr_none;unfold getAttr? getAttrBy? getAttrBy
 repeat (any_goals (first | assumption | exact hT _ | ((with_reducible show wpAny _ _ (call (Value.builtin "list.__getattribute__") _ _) _ _ _);refine call_meets F.slot_list_getattribute (hT _) am_entry_list_getattribute (F.args_list_getattribute_2 _ _) (meets_getattribute_miss_list a xs k sl "keys" _ zPa (by decide) (by size_fits)) ⟨hx,hA,fun h' tk' e hx'=>?_⟩) | wp_step))
 obtain ⟨t',u',he⟩:=hx'.there;show wpAny _ _ (getattributeRaised _ _ _ _ _ _ _) _ _ _;unfold getattributeRaised hookOrError attributeErrorLeaves
 repeat (any_goals (first | assumption | wp_step))
 exact h _ _ hx'.of.keeps
theorem zWy {α : Type}{l:List α} (h:l.Nodup) {i j:Nat}{x : α} (a:l[i]? = some x) (b:l[j]? = some x):i=j:=by
 obtain ⟨h1,e1⟩:=List.getElem?_eq_some_iff.mp a;obtain ⟨h2,e2⟩:=List.getElem?_eq_some_iff.mp b;exact (List.getElem_inj h).mp (e1.trans e2.symm)
theorem zSy {z:Shared}{g:Heap}{l I d:Addr}{its:List Value}{ps:List (Key×Value)}{R:Result→Shared→Prop} (hh:A.handled=none) (hl:g.IsList l its.toArray) (hI:g.objs.size≤I) (hd:g.objs.size≤d) (ne:d≠I) (hz:its.length≤sizeLine)
 (len:ps.length=its.length) (nd:(ps.map (·.1)).Nodup) (hp:∀ (i:Nat) (v:Value) (k:Key) (u:Value),its[i]? = some v→ps[i]? = some (k,u)→∃ (t:Addr) (y:Value),v=.ref t∧IsTup g t #[y,u]∧keyIs k y=true)
 (fin:∀ h tk,Kept g h→h.DictOf (mixKind P w) d ps→R (.ok (.ret .none)) { z with heap:=h,toks:=tk }) :
 ∀ (r i:Nat) (h:Heap) (tk:Nat),its.length - i=r→i≤its.length→Kept g h→h.DictOf (mixKind P w) d (ps.take i)→h.IsListIter I l i →
  codeAny (model P w) A (.builtin "dict.update.loop" ⟨[.ref d,.ref I,rawInt (i:Nat),.none],[]⟩) R { z with heap:=h,toks:=tk }:=by
 have hlI:l≠I:=by
  obtain ⟨o,e,_⟩:=hl;exact Za (Z5 (Z8 e) hI)
 have W:=Walks.list (prog:=P) (w:=w) (A:=A.in1) hh I l hlI its.toArray;have sz:its.toArray.size=its.length:=by simp
 have lst:∀ {h},Kept g h→h.IsList l its.toArray:=fun {h} k=>by
  obtain ⟨o,e,r⟩:=hl;exact ⟨o,k _ _ e,r⟩
 have dk:∀ {h h':Heap}{q:List (Key×Value)},h.DictOf (mixKind P w) d q→(∀ b o,b∉[I]→h.get? b=some o→h'.get? b=some o)→h'.DictOf (mixKind P w) d q:=fun ⟨o,es,ep,e,r⟩ k=>⟨o,es,ep,k _ _ (by simpa using ne) e,r⟩;intro r
 induction r with
 | zero =>
  intro i h tk hr hi k hm it;have hin:i=its.length:=by omega
  subst hin;refine codeAny_builtin zPl ?_;rw [Around.under_plainId zIm _];show wpAny _ A.in1 (pyNext (Value.ref I) >>= _) _ _ _;refine wpAny_bind (W.done _ _ _ ⟨by rw [sz];exact it,lst k⟩ fun h1 tk1 k1=>?_);show wpAny _ A.in1 (Builtin.Dict.addKeywords d [] >>= _) _ _ _;refine wpAny_bind (wpAny_pure (wpAny_pure ?_));rw [← len,List.take_length] at hm;exact fin _ _ (k.but hI k1) (dk hm k1)
 | succ r ih =>
  intro i h tk hr hi k hm it;have hlt:i < its.length:=by omega
  refine codeAny_builtin zPl ?_;rw [Around.under_plainId zIm _];show wpAny _ A.in1 (pyNext (Value.ref I) >>= _) _ _ _;refine wpAny_bind (W.item i _ _ _ (by rw [sz];exact hlt) ⟨it,lst k⟩ fun v h1 tk1 hv st k1=>?_);have hv':its[i]? = some v:=by simpa using hv
  obtain ⟨⟨key,u⟩,hk⟩:∃ p,ps[i]? = some p:=⟨_,Z7 (by omega)⟩;obtain ⟨t,y,rfl,ht,hy⟩:=hp i v key u hv' hk;have kg:=k.but hI k1;have ht1:=ht.keeps kg;obtain ⟨o,ho,hc,n,hdt⟩:=id ht1;have hT:({ z with heap:=h1,toks:=tk1 }:Shared).TypeIs (.ref t) "tuple":=⟨o,ho,hc⟩;refine wpAny_bind (wpAny_holding (wpAny_bind (wpAny_tryCatch ?_)));unfold Builtin.Dict.pairItems;refine wpAny_bind (wpAny_typeOf hT ?_);rw [if_pos (by decide)];refine wpAny_bind (wpAny_seqItems ho hdt (wpAny_pure ?_));show wpAny _ A.in1 (holding [y,u] (dictSet d y u)) _ _ _;have hm1:=dk hm k1;have nk:key∉(ps.take i).map (·.1):=fun m=>by
   obtain ⟨q,hq,e⟩:=List.mem_map.mp m;obtain ⟨j,hj,ej⟩:=List.getElem_of_mem hq;have hj':j < i:=by simp at hj;omega
   have e1:(ps.map (·.1))[j]? = some key:=by
    have:ps[j]? = some q:=by
     have:=Z7 hj;rw [Y6 hj'] at this;rw [this,ej]
    simp [this,e]
   have e2:(ps.map (·.1))[i]? = some key:=by simp [hk]
   have:=zWy nd e1 e2;omega
  have st1:stored (ps.take i) key u=ps.take (i + 1):=by
   have hany:¬ ((ps.take i).any fun kv=>decide (kv.1=key))=true:=by
    rw [List.any_eq_true];rintro ⟨kv,h1,h2⟩;exact nk (List.mem_map.mpr ⟨kv,h1,of_decide_eq_true h2⟩)
   rw [stored,if_neg hany,List.take_add_one,hk];rfl
  refine wpAny_holding (wpAny_dictSet_pairs (knd:=mixKind P w) (k:=key) hy hm1 (fun h2 hm2 sb=>?_) (by have:=List.length_take_le i ps;omega));rw [st1] at hm2;refine wpAny_pure ⟨plainId_quiet zIm _,?_⟩;have e3:((i:Nat):Int) + 1=((i + 1:Nat):Int):=by push_cast;rfl
  show codeAny _ A (.builtin "dict.update.loop" ⟨[.ref d,.ref I,rawInt (((i:Nat):Int) + 1),.none],[]⟩) _ _;rw [e3];exact ih (i + 1) h2 _ (by omega) (by omega) (kg.same hd sb) hm2 (st.1.at fun o e=>(sb.2 I (Ne.symm ne)).trans e)
theorem zTa {z:Shared}{l:Addr}{its:List Value}{ps:List (Key×Value)}{Q:Value→Shared→Prop} (hh:A.handled=none) (hl:PlainL z.heap l its.toArray) (hz:its.length≤sizeLine)
 (len:ps.length=its.length) (nd:(ps.map (·.1)).Nodup) (hp:∀ (i:Nat) (v:Value) (k:Key) (u:Value),its[i]? = some v→ps[i]? = some (k,u)→∃ (t:Addr) (y:Value),v=.ref t∧IsTup z.heap t #[y,u]∧keyIs k y=true)
 (fin:∀ h tk,Kept z.heap h→h.DictOf (mixKind P w) z.heap.objs.size ps→Q (.ref z.heap.objs.size) { z with heap:=h,toks:=tk }) :
 wpAny (model P w) A (call (.type "dict") [.ref l]) Q E z:=by
 refine callType_codes (Q₁:=fun obj s₁=>obj=.ref z.heap.objs.size∧s₁ = { z with heap:=z.heap.push { cls:=.type "dict",data:=.dict #[] } }) F.kt_called_dict (F.kt_typeCall_dict_1 _) F.entry_dict_init (kt_code_dict_new _ ⟨rfl,rfl⟩) ?_;rintro obj s₁ ⟨rfl,rfl⟩;have hnew:(z.heap.push { cls:=.type "dict",data:=.dict #[] }).DictOf (mixKind P w) z.heap.objs.size []:=Heap.DictOf.new z.heap;have k0:Kept z.heap (z.heap.push { cls:=.type "dict",data:=.dict #[] }):=Kept.push _ _;obtain ⟨ol,n,el,cl,dl,sl⟩:=id hl;refine ⟨hnew.typeIs,F.args_dict_init_2 _ _,?_⟩;unfold Builtin.«dict.__init__»;refine wpAny_bind ?_;unfold Builtin.Dict.selfAndRest;refine wpAny_bind (wpAny_notOrdered_dict hnew.typeIs ?_);show wpAny _ _ (pure (z.heap.objs.size,[Value.ref l])) _ _ _;refine wpAny_pure ?_;show wpAny _ _ (Builtin.Dict.updateFrom "dict.__init__" z.heap.objs.size (.ref l) [] .none) _ _ _;unfold Builtin.Dict.updateFrom;have hT:({ z with heap:=z.heap.push { cls:=.type "dict",data:=.dict #[] } }:Shared).TypeIs (.ref l) "list":=⟨ol,k0 _ _ el,cl⟩;refine wpAny_bind (wpAny_typeOf hT ?_);rw [if_pos (by decide)];refine wpAny_bind (yAv (k0 _ _ el) cl sl dl hh fun h1 tk1 k1=>?_);simp only [Option.isNone_none,if_true];have hl1:h1.IsList l its.toArray:=by
  obtain ⟨o,e,r⟩:=hl.isList;exact ⟨o,k1 _ _ (k0 _ _ e),r⟩
 refine wpAny_bind (wpAny_rule (wpAny_bind (wpAny_pyIter_list hl1 (wpAny_pure ⟨plainId_quiet zIm _,?_⟩))));have sz1:z.heap.objs.size + 1≤h1.objs.size:=by
  have:=Z8 (k1 _ _ (Z9 z.heap (o:={ cls:=.type "dict",data:=.dict #[] }) rfl));exact this
 refine zSy (g:=z.heap) (z:=z) (A:=A.in1) hh hl.isList (I:=h1.objs.size) (d:=z.heap.objs.size) (by omega) (Z1 _) (Za (by omega)) hz len nd hp (fun h tk kk hm=>⟨rfl,fin h tk kk hm⟩) _ 0 _ _ rfl (Y4 _) ((k0.trans k1).trans (Kept.push _ _)) ?_ ⟨_,Z9 _ rfl,rfl,rfl⟩;obtain ⟨o,es,ep,e,r⟩:=hnew;exact ⟨o,es,ep,Z0 _ (k1 _ _ e),r⟩
end
section
variable {X:Cx}
theorem zMa {K:PySem.W.Frag} (hK:X.K=K):CallR X (.type "dict") (fun vs H Q=>∃ (l:Addr) (ts:List Addr) (kvs:List (Key×V)),vs=[.ref l]∧SqL K H l (ts.map V.ref)∧X.calm=true∧(kvs.map (·.1)).Nodup∧kvs.length=ts.length ∧
 (∀ (i:Nat) (t:Addr) (k:Key) (v:V),ts[i]? = some t→kvs[i]? = some (k,v)→H t=some (.tup [kV k,v]))∧∀ p,H p=none→Q (.ref p) (upd H p (.dK kvs))):=by
 subst hK;intro pins s σ H vs us Q I rv h;obtain ⟨l,ts,kvs,rfl,hl,hc,nd,ln,ht,q⟩:=h;obtain ⟨u,rfl,ru⟩:=v1 rv;cases (show u=Value.ref l from ru);obtain ⟨its,rx,pl,hz⟩:=I.list hl;have il:=rx.length;simp only [Z2] at il hz;have one:∀ (i:Nat) (v:Value),its[i]? = some v→∃ (t:Addr) (k:Key) (x:V) (y u:Value),v=.ref t∧kvs[i]? = some (k,x)∧IsTup s.heap t #[y,u]∧keyIs k y=true∧RelV x u:=fun i v e=>by
  have hi:i < its.length:=(List.getElem?_eq_some_iff.mp e).1;obtain ⟨t,et⟩:∃ t,ts[i]? = some t:=⟨_,Z7 (by omega)⟩;obtain ⟨⟨k,x⟩,ek⟩:∃ p,kvs[i]? = some p:=⟨_,Z7 (by omega)⟩;obtain ⟨v',hv',r⟩:=rx.get (i:=i) (x:=.ref t) (by simp [et]);rw [e] at hv';cases hv';cases (show v=Value.ref t from r);obtain ⟨_,is,rr,it⟩:=I.hok t _ (ht i t k x et ek);obtain ⟨y,u,rfl,ry,ru⟩:=v2 rr;refine ⟨t,k,x,y,u,rfl,ek,it,?_,ru⟩;cases k with
  | inl n=>obtain ⟨tk,rfl⟩:=ry;exact zPf n tk
  | inr z=>obtain ⟨tk,rfl⟩:=ry;exact zPe z tk
 obtain ⟨ps,lp,hps⟩:∃ ps:List (Key×Value),ps.length=its.length∧∀ i,i < its.length→∃ (t:Addr) (k:Key) (x:V) (y u:Value),its[i]? = some (.ref t)∧kvs[i]? = some (k,x)∧IsTup s.heap t #[y,u]∧keyIs k y=true∧RelV x u∧ps[i]? = some (k,u):=by
  have:∀ i:Fin its.length,∃ p:Key×Value,∃ (t:Addr) (k:Key) (x:V) (y u:Value),its[i.1]? = some (.ref t)∧kvs[i.1]? = some (k,x)∧IsTup s.heap t #[y,u]∧keyIs k y=true∧RelV x u∧p=(k,u):=fun i=>by
   obtain ⟨v,hv⟩:∃ v,its[i.1]? = some v:=⟨_,Z7 i.2⟩;obtain ⟨t,k,x,y,u,rfl,h2,h3,h4,h5⟩:=one i.1 v hv;exact ⟨(k,u),t,k,x,y,u,hv,h2,h3,h4,h5,rfl⟩
  refine ⟨List.ofFn fun i=>(this i).choose,by simp,fun i hi=>?_⟩;obtain ⟨t,k,x,y,u,a1,a2,a3,a4,a5,a6⟩:=(this ⟨i,hi⟩).choose_spec;exact ⟨t,k,x,y,u,a1,a2,a3,a4,a5,by rw [List.getElem?_ofFn,dif_pos hi,a6]⟩
 have keys:ps.map (·.1)=kvs.map (·.1):=by
  refine List.ext_getElem? fun i=>?_;by_cases hi:i < its.length
  ·obtain ⟨t,k,x,y,u,a1,a2,a3,a4,a5,a6⟩:=hps i hi;simp [a2,a6]
  ·rw [List.getElem?_eq_none (by simp;omega),List.getElem?_eq_none (by simp;omega)]
 have kv:KV kvs ps:=by
  have:∀ (a:List (Key×V)) (b:List (Key×Value)),a.length=b.length→(∀ (i:Nat) (k:Key) (x:V) (k':Key) (u:Value),a[i]? = some (k,x)→b[i]? = some (k',u)→k=k'∧RelV x u)→KV a b:=by
   intro a
   induction a with
   | nil =>
    intro b hb _;cases b with
    | nil=>exact .nil
    | cons _ _=>cases hb
   | cons p t ih =>
    intro b hb hr;cases b with
    | nil=>cases hb
    | cons c d=>exact .cons (hr 0 p.1 p.2 c.1 c.2 rfl rfl) (ih d (by simpa using hb) fun i k x k' u h1 h2=>hr (i + 1) k x k' u (by simpa using h1) (by simpa using h2))
  refine this _ _ (by omega) fun i k x k' u h1 h2=>?_;obtain ⟨t,k2,x2,y,u2,a1,a2,a3,a4,a5,a6⟩:=hps i (by rw [← lp];exact (List.getElem?_eq_some_iff.mp h2).1);rw [h1] at a2;cases a2;rw [h2] at a6;cases a6;exact ⟨rfl,a5⟩
 have fr:H s.heap.objs.size=none:=I.hok.fresh (Z1 _);refine zTa (P:=X.prog) (w:=X.w) (ps:=ps) (I.ok.hd hc) pl (by omega) lp (by rw [keys];exact nd) (fun i v k u hv hk=>?_) fun h tk kk hm=>?_
 ·obtain ⟨t,k2,x2,y,u2,a1,a2,a3,a4,a5,a6⟩:=hps i (List.getElem?_eq_some_iff.mp hv).1;rw [hv] at a1;cases a1;rw [hk] at a6;cases a6;exact ⟨t,y,rfl,a3,a4⟩
 ·refine ⟨.ref s.heap.objs.size,_,I.laid (t':=tk) (a:=s.heap.objs.size) (o:=.dK kvs) kk (Z1 _) ⟨by omega,?_,ps,kv,hm⟩,rfl,q _ fr⟩;have:=I.big;exact beq_false_of_ne (Nat.ne_of_gt this)
end
end L2
namespace L2
open PySem PySem.Spec PyProof.Rows
section
variable {X:Cx}
end
end L2
namespace L2
open PySem PySem.Spec PyProof.Rows
def evens {α : Type}:List α→List α
 | []=>[]
 | [a]=>[a]
 | a :: _ :: r=>a :: evens r
def odds {α : Type}:List α→List α
 | []=>[]
 | [_]=>[]
 | _ :: b :: r=>b :: odds r
theorem zOr {α : Type}:∀ (n:Nat) (l:List α),l.length≤n→(List.range ((l.length + 1) / 2)).filterMap (fun k=>l[2 * k]?)=evens l
 | 0,[],_=>by simp [evens]
 | _ + 1,[],_=>by simp [evens]
 | n + 1,[a],_=>by simp [List.range_succ,evens]
 | n + 1,a :: b :: r,h=>by
  have e:((a :: b :: r).length + 1) / 2=(r.length + 1) / 2 + 1:=by simp;omega
  rw [e,List.range_succ_eq_map,Zn];show a :: _=a :: evens r;have f:((fun k=>(a :: b :: r)[2 * k]?) ∘ Nat.succ)=fun k=>r[2 * k]?:=by
   funext k;show (a :: b :: r)[2 * (k + 1)]? = r[2 * k]?;rw [show 2 * (k + 1)=2 * k + 1 + 1 by omega];rfl
  rw [Y7,← zOr n r (by simp at h;omega),f]
theorem zRn {α : Type}:∀ (n:Nat) (l:List α),l.length≤n→(List.range (l.length / 2)).filterMap (fun k=>l[2 * k + 1]?)=odds l
 | 0,[],_=>by simp [odds]
 | _ + 1,[],_=>by simp [odds]
 | n + 1,[a],_=>by simp [odds]
 | n + 1,a :: b :: r,h=>by
  have e:(a :: b :: r).length / 2=r.length / 2 + 1:=by simp;omega
  rw [e,List.range_succ_eq_map,Zn];show b :: _=b :: odds r;have f:((fun k=>(a :: b :: r)[2 * k + 1]?) ∘ Nat.succ)=fun k=>r[2 * k + 1]?:=by
   funext k;show (a :: b :: r)[2 * (k + 1) + 1]? = r[2 * k + 1]?;rw [show 2 * (k + 1) + 1=2 * k + 1 + 1 + 1 by omega];rfl
  rw [Y7,← zRn n r (by simp at h;omega),f]
theorem zSu (its:List Value):slicePick its.toArray none none (some 2)=(evens its).toArray:=by
 unfold slicePick sliceBounds sliceRange;simp only [Z4];rw [← zOr its.length its (Z1 _)]
 congr 1
 have hc:(if (2:Int) > 0 then if (0:Int) < (its.length:Int) then ((its.length:Int) - 0 + 2 - 1) / 2 else 0 else if (0:Int) > (its.length:Int) then (0 - (its.length:Int) - 2 - 1) / (-2) else 0).toNat=(its.length + 1) / 2:=by
  rw [if_pos (by decide)];split <;> omega
 show List.filterMap (fun (k:Nat)=>its.toArray[k]?) (List.map _ (List.range (if (2:Int) > 0 then if (0:Int) < (its.length:Int) then ((its.length:Int) - 0 + 2 - 1) / 2 else 0 else if (0:Int) > (its.length:Int) then (0 - (its.length:Int) - 2 - 1) / (-2) else 0).toNat))=_;rw [hc,Y7]
 congr 1
 funext k;show its.toArray[((0:Int) + 2 * (k:Int)).toNat]? = its[2 * k]?;rw [show ((0:Int) + 2 * (k:Int)).toNat=2 * k by omega];simp
theorem zTc (n:Nat) (h:1≤n):sliceBounds (some 1) none (some 2) n=((1:Int),(n:Int),(2:Int)):=by
 unfold sliceBounds;have:max (0:Int) (min 1 (n:Int))=1:=by omega
 simp [this]
theorem zTs (its:List Value) (h:1≤its.length):slicePick its.toArray (some 1) none (some 2)=(odds its).toArray:=by
 unfold slicePick;rw [Z4,zTc _ h,← zRn its.length its (Z1 _)]
 congr 1
 have hc:(if (2:Int) > 0 then if (1:Int) < (its.length:Int) then ((its.length:Int) - 1 + 2 - 1) / 2 else 0 else if (1:Int) > (its.length:Int) then (1 - (its.length:Int) - 2 - 1) / (-2) else 0).toNat=its.length / 2:=by
  rw [if_pos (by decide)];split <;> omega
 show List.filterMap (fun (k:Nat)=>its.toArray[k]?) (List.map (fun (k:Nat)=>((1:Int) + 2 * (k:Int)).toNat) (List.range (if (2:Int) > 0 then if (1:Int) < (its.length:Int) then ((its.length:Int) - 1 + 2 - 1) / 2 else 0 else if (1:Int) > (its.length:Int) then (1 - (its.length:Int) - 2 - 1) / (-2) else 0).toNat))=_;rw [hc,Y7]
 congr 1
 funext k;show its.toArray[((1:Int) + 2 * (k:Int)).toNat]? = its[2 * k + 1]?;rw [show ((1:Int) + 2 * (k:Int)).toNat=2 * k + 1 by omega];simp
end L2
namespace L2
open PySem PySem.Spec PyProof.Rows
section
variable {X:Cx}
theorem zNv:MtR X "str.startswith" (fun x xs H Q=>∃ z y,x=.str z∧xs=[.str y]∧Q (.bl (Txt.startswith z y)) H):=by
 intro pins s σ H x xs v us Q I rx rs h;obtain ⟨z,y,rfl,rfl,q⟩:=h;obtain ⟨t,rfl⟩:=rx;obtain ⟨u,rfl,ru⟩:=v1 rs;obtain ⟨t',rfl⟩:=ru;exact PySem.SC.startswith ⟨.bl _,H,I,rfl,q⟩
theorem zJs:∀ {l:List (Str×Tok)},Vals ((l.map (·.1)).map V.str) (strValues l)
 | []=>.nil
 | (k,t) :: r=>.cons ⟨t,rfl⟩ zJs
theorem zX0:MtR X "str.split" (fun x xs H Q=>∃ z y,x=.str z∧xs=[.str y]∧(y.length == 0)=false∧z.length≤100000∧∀ p,H p=none→Q (.ref p) (upd H p (.lst ((Txt.split z y).map V.str)))):=by
 intro pins s σ H x xs v us Q I rx rs h;obtain ⟨z,y,rfl,rfl,hy,hz,q⟩:=h;obtain ⟨t,rfl⟩:=rx;obtain ⟨u,rfl,ru⟩:=v1 rs;obtain ⟨t',rfl⟩:=ru;have sl:z.length + 2≤sizeLine:=by rw [sizeLine_eq];omega
 have hl:=split_le z y;have fr:H s.heap.objs.size=none:=I.hok.fresh (Z1 _);have fin:∀ (l:List (Str×Tok)) (k:Nat),l.map (·.1)=Txt.split z y→EP X pins σ Q (.ref s.heap.objs.size) { s with heap:=s.heap.push { cls:=.type "list",data:=.seq (strValues l).toArray },toks:=k }:=fun l k e=>by
  have vv:Vals ((Txt.split z y).map V.str) (strValues l):=by rw [← e];exact zJs
  exact ⟨.ref _,_,I.laid (t':=k) (a:=s.heap.objs.size) (o:=.lst ((Txt.split z y).map V.str)) (fun b o e=>Z0 _ e) (Z1 _) ⟨by rw [Z2];omega,_,_,vv,Z9 _ rfl⟩,rfl,q _ fr⟩
 have at_:=F.slot_str_split;cases h1:(decide (z.length < y.length) || decide (Builtin.Str.strKind z < Builtin.Str.strKind y)) with
 | true=>exact call_meets at_ (typeIs_str _ _ _) F.entry_str_split (F.args_str_split_2 _ _) (meets_str_split_cannot_occur z y t t' h1) (fin [(z,t)] s.toks (if_pos h1).symm)
 | false =>
  have n1:¬ (decide (z.length < y.length) || decide (Builtin.Str.strKind z < Builtin.Str.strKind y))=true:=by rw [h1];decide
  cases hf:(Builtin.Str.occurrences z y 0 z.length (z.length + 1)).isEmpty with
  | true=>exact call_meets at_ (typeIs_str _ _ _) F.entry_str_split (F.args_str_split_2 _ _) (meets_str_split_not_found z y t t' h1 hy hf) (fin [(z,t)] s.toks ((if_neg n1).trans (if_pos hf)).symm)
  | false =>
   have n2:¬ (Builtin.Str.occurrences z y 0 z.length (z.length + 1)).isEmpty=true:=by rw [hf];decide
   have e:Txt.split z y=Builtin.Str.partsBetween z (Builtin.Str.occurrences z y 0 z.length (z.length + 1)) y.length:=(if_neg n1).trans (if_neg n2);refine call_meets at_ (typeIs_str _ _ _) F.entry_str_split (F.args_str_split_2 _ _) (meets_str_split_sep z y t t' h1 hy hf (by omega) (by rw [← e];omega)) ?_;have:=fin (numbered s.toks (Builtin.Str.partsBetween z (Builtin.Str.occurrences z y 0 z.length (z.length + 1)) y.length)) (s.toks + (Builtin.Str.partsBetween z (Builtin.Str.occurrences z y 0 z.length (z.length + 1)) y.length).length) ((numbered_texts _ _).trans e.symm);rw [← strsFrom_eq] at this;exact this
theorem Vals.evens:∀ {xs:List V}{us:List Value},Vals xs us→Vals (evens xs) (evens us)
 | [],_,h=>by cases h;exact .nil
 | [_],_,h=>by
  cases h with
  | cons a t=>cases t;exact .cons a .nil
 | _ :: _ :: _,_,h=>by
  cases h with
  | cons a t =>
   cases t with
   | cons b t=>exact .cons a (Vals.evens t)
theorem Vals.odds:∀ {xs:List V}{us:List Value},Vals xs us→Vals (odds xs) (odds us)
 | [],_,h=>by cases h;exact .nil
 | [_],_,h=>by
  cases h with
  | cons a t=>cases t;exact .nil
 | _ :: _ :: _,_,h=>by
  cases h with
  | cons a t =>
   cases t with
   | cons b t=>exact .cons b (Vals.odds t)
theorem zS9 {α : Type}:∀ l:List α,(evens l).length≤l.length
 | []=>Z1 _
 | [_]=>Z1 _
 | _ :: _ :: r=>by
  have:=zS9 r;simp [evens];omega
theorem zUa {α : Type}:∀ l:List α,(odds l).length≤l.length
 | []=>Z1 _
 | [_]=>Y4 _
 | _ :: _ :: r=>by
  have:=zUa r;simp [odds];omega
def rEven (K:PySem.W.Frag) (te:TE):TE:=fun σ H Q=>te σ H fun x H1=>∃ a xs,x=.ref a∧SqL K H1 a xs∧∀ p,H1 p=none→Q (.ref p) (upd H1 p (.lst (evens xs)))
def rOdd (K:PySem.W.Frag) (te:TE):TE:=fun σ H Q=>te σ H fun x H1=>∃ a xs,x=.ref a∧SqL K H1 a xs∧1≤xs.length∧∀ p,H1 p=none→Q (.ref p) (upd H1 p (.lst (odds xs)))
theorem yA9 {e:Expr}{te:TE}{k:Nat}{p1 p3 pos:Pos} (he:PE X e te):PE X (.Subscript e (.Slice none none (some (.Constant (.int 2) k p1)) p3) pos) (rEven X.K te):=by
 intro pins s σ H Q I h;refine Subscript_ (thn (he pins s σ H _ I h) fun v s1 ⟨x,H1,I1,r1,q1⟩=>?_);obtain ⟨a,xs,rfl,hx,q⟩:=q1;cases r1;refine wpAny_Slice ?_;rw [evalPart_none];refine wpAny_pure (wpAny_pure ?_);rw [evalPart_some];refine thn (zRo (X:=X) (i:=2) pins s1 σ H1 (fun y H2=>y=.int 2∧H2=H1) I1 ⟨rfl,rfl⟩) fun u s2 ⟨y,H2,I2,r2,ey,eh⟩=>?_;subst ey eh;obtain ⟨t,rfl⟩:=r2;have I4:Inv X pins σ H2 { s2 with heap:=s2.heap.push { cls:=.type "slice",data:=.fields #[.none,.none,.int 2 t] } }:=I2.kept (t':=s2.toks) fun b ob q=>Z0 _ q;obtain ⟨its,r,ht,hz⟩:=I4.list hx;have hlen:=r.length;refine tail_any (ops:=[.ref a,.ref s2.heap.objs.size]) ht.isList.typeIs slot_list_getitem.lookup ?_ (by with_unfolding_all rfl);refine wpAny_getItem_list_slice ht.isList (Heap.IsSliceOf.new ..) .none .none (.int _ _) (by decide) ?_ (by rw [Z4];omega);rw [zSu];have le:=zS9 xs;exact ⟨.ref _,_,I4.laid (t':=s2.toks) (o:=.lst (evens xs)) (fun b ob q=>Z0 _ q) (Z1 _) ⟨by omega,_,0,r.evens,Z9 _ rfl⟩,rfl,q _ (I4.hok.fresh (Z1 _))⟩
theorem yDl {e:Expr}{te:TE}{k k':Nat}{p1 p2 p3 pos:Pos} (he:PE X e te):PE X (.Subscript e (.Slice (some (.Constant (.int 1) k' p2)) none (some (.Constant (.int 2) k p1)) p3) pos) (rOdd X.K te):=by
 intro pins s σ H Q I h;refine Subscript_ (thn (he pins s σ H _ I h) fun v s1 ⟨x,H1,I1,r1,q1⟩=>?_);obtain ⟨a,xs,rfl,hx,h1,q⟩:=q1;cases r1;refine wpAny_Slice ?_;rw [evalPart_some];refine thn (zRo (X:=X) (i:=1) pins s1 σ H1 (fun y H2=>y=.int 1∧H2=H1) I1 ⟨rfl,rfl⟩) fun u0 s0 ⟨y0,H0,I0,r0,ey0,eh0⟩=>?_;subst ey0 eh0;obtain ⟨t0,rfl⟩:=r0;rw [evalPart_none];refine wpAny_pure ?_;rw [evalPart_some];refine thn (zRo (X:=X) (i:=2) pins s0 σ H0 (fun y H2=>y=.int 2∧H2=H0) I0 ⟨rfl,rfl⟩) fun u s2 ⟨y,H2,I2,r2,ey,eh⟩=>?_;subst ey eh;obtain ⟨t,rfl⟩:=r2;have I4:Inv X pins σ H2 { s2 with heap:=s2.heap.push { cls:=.type "slice",data:=.fields #[.int 1 t0,.none,.int 2 t] } }:=I2.kept (t':=s2.toks) fun b ob q=>Z0 _ q;obtain ⟨its,r,ht,hz⟩:=I4.list hx;have hlen:=r.length;refine tail_any (ops:=[.ref a,.ref s2.heap.objs.size]) ht.isList.typeIs slot_list_getitem.lookup ?_ (by with_unfolding_all rfl);refine wpAny_getItem_list_slice ht.isList (Heap.IsSliceOf.new ..) (.int _ _) .none (.int _ _) (by decide) ?_ (by rw [Z4];omega);rw [zTs _ (by omega)];have le:=zUa xs;exact ⟨.ref _,_,I4.laid (t':=s2.toks) (o:=.lst (odds xs)) (fun b ob q=>Z0 _ q) (Z1 _) ⟨by omega,_,0,r.odds,Z9 _ rfl⟩,rfl,q _ (I4.hok.fresh (Z1 _))⟩
def TJ:=St→Hp→Str→(Str→Hp→Prop)→Prop
def PJ (X:Cx) (es:List Expr) (t:TJ):Prop:=∀ (pins:List (Addr×Obj)) (s:Shared) (σ : St) (H:Hp) (acc:Str) (Q:Str→Hp→Prop),Inv X pins σ H s→t σ H acc Q →
 Joins (model X.prog X.w) X.A X.xe (evalEach es X.env) acc (fun out s1=>∃ H1,Inv X pins σ H1 s1∧Q out H1) s
theorem yDa:PJ X [] (fun _ H acc Q=>Q acc H):=fun _ _ _ H _ _ I h=>⟨H,I,h⟩
def showV:V→Option Str
 | .str x=>some x
 | .int i=>if i.natAbs < 10 ^ 12 then some (Str.ofString (toString i)) else none
 | _=>none
theorem yD9 {e:Expr}{es:List Expr}{te:TE}{tj:TJ}{pos:Pos} (he:PE X e te) (hs:PJ X es tj) :
 PJ X (.FormattedValue e (-1) none pos :: es) (fun σ H acc Q=>te σ H fun v H1=>∃ x,showV v=some x∧x.length≤100000∧acc.length≤100000∧tj σ H1 (acc++x) Q):=by
 intro pins s σ H acc Q I h;have big:(200000:Nat)≤sizeLine:=by rw [sizeLine_eq];decide
 have la:∀ x y:Str,(x++y).length=x.length + y.length:=fun x y=>by show (x.cps++y.cps).size=_;simp [Str.length]
 show wpAny _ _ (eval (.FormattedValue e (-1) none pos) X.env) _ _ _;refine wpAny_FormattedValue_plain (thn (he pins s σ H _ I h) fun u s1 ⟨v,H1,I1,r1,x,ex,hx,hac,q⟩=>?_);have fin:∀ (t:Tok) (k:Nat),∃ y t',Value.str x t=.str y t'∧(acc++y).length≤sizeLine∧Joins (model X.prog X.w) X.A X.xe (evalEach es X.env) (acc++y) (fun out s1=>∃ H1,Inv X pins σ H1 s1∧Q out H1) { s1 with toks:=k }:=fun t k =>
  ⟨x,t,rfl,by rw [la];omega,hs pins _ σ H1 _ _ (I1.tok k) q⟩
 cases v with
 | str z =>
  cases ex;obtain ⟨t,rfl⟩:=r1;exact wpAny_formatField_str (fin t s1.toks) (fin _ _) (by omega)
 | int i =>
  obtain ⟨t,rfl⟩:=r1;replace ex:(if i.natAbs < 10 ^ 12 then some (Str.ofString (toString i)) else none)=some x:=ex;by_cases c:i.natAbs < 10 ^ 12
  ·rw [if_pos c] at ex;cases ex;refine wpAny_formatField_int ?_ (fin _ _);have:i.natAbs.log2 < 64:=by
    by_cases z:i.natAbs=0
    ·rw [z];decide
    ·exact (Nat.log2_lt z).mpr (Z5 c (by decide))
   omega
  ·rw [if_neg c] at ex;cases ex
 | _=>cases ex
theorem yDb {x:Str}{k:Nat}{es:List Expr}{tj:TJ}{pos:Pos} (hs:PJ X es tj) :
 PJ X (.Constant (.str x) k pos :: es) (fun σ H acc Q=>x.length≤100000∧acc.length≤100000∧tj σ H (acc++x) Q):=by
 intro pins s σ H acc Q I h;obtain ⟨hx,hac,q⟩:=h;have big:(200000:Nat)≤sizeLine:=by rw [sizeLine_eq];decide
 have la:∀ x y:Str,(x++y).length=x.length + y.length:=fun x y=>by show (x.cps++y.cps).size=_;simp [Str.length]
 refine thn (zYl (X:=X) (x:=x) pins s σ H (fun y H2=>y=.str x∧H2=H) I ⟨rfl,rfl⟩) fun u s1 ⟨v,H1,I1,r1,ev,eh⟩=>?_;subst ev eh;obtain ⟨t,rfl⟩:=r1;exact ⟨x,t,rfl,by rw [la];omega,hs pins _ σ _ _ _ I1 q⟩
theorem zU4 {v1 v2:Expr}{rest:List Expr}{tj:TJ}{pos:Pos} (h:PJ X (v1 :: v2 :: rest) tj):PE X (.JoinedStr (v1 :: v2 :: rest) pos) (fun σ H Q=>tj σ H Str.empty fun out H1=>out.length≤100000∧Q (.str out) H1):=by
 intro pins s σ H Q I hh;have big:(200000:Nat)≤sizeLine:=by rw [sizeLine_eq];decide
 have mono:∀ (l:List (Sem Value)) (acc:Str) (Q1 Q2:Str→Shared→Prop) (s:Shared),(∀ o s,Q1 o s→Q2 o s)→Joins (model X.prog X.w) X.A X.xe l acc Q1 s→Joins (model X.prog X.w) X.A X.xe l acc Q2 s:=by
  intro l
  induction l with
  | nil=>intro acc Q1 Q2 s h q;exact h _ _ q
  | cons a r ih=>intro acc Q1 Q2 s h q;exact thn q fun v s1 ⟨y,t,e,hl,j⟩=>⟨y,t,e,hl,ih _ _ _ _ h j⟩
 refine wpAny_JoinedStr (mono _ _ _ _ _ (fun out s1 ⟨H1,I1,ho,q⟩=>⟨by omega,.str out,H1,I1.tok _,⟨_,rfl⟩,q⟩) (h pins s σ H _ _ I hh))
theorem zOe:CallR X (.type "int") (fun vs H Q=>∃ n:Int,vs=[.str (Str.ofString (toString n))]∧0≤n∧n < 10 ^ 10∧Q (.int n) H):=by
 intro pins s σ H vs us Q I rv h;obtain ⟨n,rfl,h0,h1,q⟩:=h;obtain ⟨u,rfl,ru⟩:=L2.v1 rv;obtain ⟨t,rfl⟩:=ru;exact PySem.W.KIN.call_num h0 h1 ⟨.int n,H,I.tok _,⟨_,rfl⟩,q⟩
end
end L2
namespace L2
open PySem PySem.Spec PyProof.Rows
section
variable {P:Program}{w:World}{H:Hp}{h:Heap}{a:Addr}{kvs:List (OKey×V)}
end
section
variable {X:Cx}{o i e value:Expr}{pos pos' tpos:Pos}{td ty tv tk:TE}
end
end L2
namespace L2
open PySem PySem.Spec PyProof.Rows
end L2
namespace L2
open PySem PySem.Spec PyProof.Rows
def P2 (e:Addr) (h:Heap):Prop:=∃ o vs,h.get? e=some o∧o.data=.fields vs∧vs[2]? = some Value.none
def Kp (e:Addr) {α : Type} (t:Sem α):Prop:=∀ (M:Model) (Γ : PySem.Ctx) (Q : α→Pos→Shared→Prop) (E:Value→Pos→Shared→Prop) (p:Pos) (s:Shared),P2 e s.heap→Sem.wp M Γ t Q E p s →
 Sem.wp M Γ t (fun a p' s'=>Q a p' s'∧P2 e s'.heap) (fun v p' s'=>E v p' s'∧P2 e s'.heap) p s
section
variable {e:Addr}{α β : Type}
theorem Kp.pure (a : α):Kp e (Pure.pure a:Sem α):=fun M Γ Q E p s h w=>by
 rw [Sem.wp_pure'] at w ⊢;exact ⟨w,h⟩
theorem Kp.bind {m:Sem α}{f : α→Sem β} (hm:Kp e m) (hf:∀ a,Kp e (f a)):Kp e (m >>= f):=fun M Γ Q E p s h w=>by
 rw [Sem.wp_bind'] at w ⊢;exact Sem.wp_mono M Γ m (fun a p' s' z=>hf a M Γ Q E p' s' z.2 z.1) (fun _ _ _ z=>z) p s (hm M Γ _ E p s h w)
theorem Kp.un (x:String):Kp e (unsupported x:Sem α):=fun M Γ Q E p s h w=>by
 have z:False:=by simpa [unsupported] using w
 exact z.elim
theorem Kp.ld (a:Addr):Kp e (load a):=fun M Γ Q E p s h w=>by
 obtain ⟨o,h1,h2⟩:=(show ∃ o,s.heap.get? a=some o∧Q o p s from w);exact ⟨o,h1,h2,h⟩
theorem Kp.stk:Kp e stack:=fun M Γ Q E p s h w=>⟨w,h⟩
theorem Kp.alc (o:Obj):Kp e (alloc o):=fun M Γ Q E p s ⟨o',vs,h1,h2⟩ w=>⟨w,o',vs,Z0 _ h1,h2⟩
theorem Kp.upt (a:Addr) (f:Obj→Obj) (hf:∀ o vs,o.data=.fields vs→vs[2]? = some Value.none→∃ vs',(f o).data=.fields vs'∧vs'[2]? = some Value.none):Kp e (update a f):=fun M Γ Q E p s ⟨o,vs,h1,h2,h3⟩ ⟨w1,w2⟩=>by
 refine ⟨w1,w2,?_⟩;obtain ⟨vs',h4,h5⟩:=hf o vs h2 h3;by_cases z:a=e
 ·subst z;exact ⟨_,vs',Heap.get?_update_self f h1 (Obj.isFreed_of_fields h4),h4,h5⟩
 ·exact ⟨o,vs,(Heap.get?_update_other _ f z).trans h1,h2,h3⟩
theorem Kp.fld (v:Value) (i:Nat):Kp e (field v i):=by
 unfold field fieldsOf;cases v with
 | ref a =>
  refine .bind (.bind (.ld a) fun o=>?_) fun vs=>?_
  ·split
   ·exact .pure _
   ·exact .un _
  ·split
   ·exact .pure _
   ·exact .un _
 | _=>exact .bind (.un _) fun vs=>by split <;> first | exact .pure _ | exact .un _
theorem Kp.setF (v:Value) (i:Nat) (x:Value) (hi:i≠2):Kp e (setField v i x):=by
 unfold setField;cases v with
 | ref a =>
  unfold updateField;refine .bind (.ld a) fun o=>?_;split
  ·split
   ·refine .upt a _ fun o vs h1 h2=>⟨_,Obj.data_mapFields h1 _,?_⟩;rw [Array.getElem?_setIfInBounds_ne hi];exact h2
   ·exact .un _
  ·exact .un _
 | _=>exact .un _
theorem Kp.ite {c:Prop} [Decidable c] {a b:Sem α} (h1:Kp e a) (h2:Kp e b):Kp e (if c then a else b):=by
 split
 ·exact h1
 ·exact h2
theorem Kp.flt (v:Value) (f:Option Addr):Kp e (setFlight v f):=by
 unfold setFlight;exact .bind (.fld v 1) fun tb=>.ite (.setF _ _ _ (by decide)) (.pure _)
theorem Kp.kept (env:Env) (b:Bool):∀ l,Kp e (keptBack env b l)
 | []=>by
  unfold keptBack underTheClaimsCaller;exact .ite (.pure _) (.bind (.bind .stk fun _=>.pure _) fun b=>by cases b <;> exact .pure _)
 | _ :: _=>.pure _
theorem Kp.ready:∀ l,Kp e (readyFrames l)
 | []=>.pure _
 | env :: outer=>by
  unfold readyFrames;split
  ·refine .bind (.ld _) fun o=>.ite (.pure _) (.bind ?_ fun b=>.bind (.kept _ _ _) fun v=>.bind (.upt _ _ fun o vs h1 h2=>⟨vs,h1,h2⟩) fun _=>Kp.ready outer);unfold behindIsImport;exact .ite (.pure _) (.ite (.pure _) (.bind (.fld _ _) fun _=>.pure _))
  ·exact .un _
theorem Kp.frm (env:Env):Kp e (PySem.frameOf env):=by
 unfold PySem.frameOf frameEnvs;refine .bind (.bind .stk fun _=>.pure _) fun l=>.bind ?_ fun r=>?_
 ·generalize l.dropWhile _=k;cases k with
  | nil=>exact .pure _
  | cons a b=>exact .bind (.ready _) fun _=>.pure _
 ·split
  ·exact .pure _
  ·exact .un _
theorem Kp.place (f:Addr) (b:Bool):Kp e (entryPlaceOf f b):=by
 unfold entryPlaceOf;refine .bind .stk fun l=>?_;split
 ·exact .pure _
 ·exact .pure _
theorem Kp.note (v:Value) (env:Env):Kp e (noteFrame v env):=by
 unfold noteFrame;split
 ·refine .bind (.fld v 1) fun hd=>?_;have rest:Kp e (do setField v 1 (← EntryCells.newEntry hd (← PySem.frameOf env) .none (rawInt ‹Addr›) .none (← entryPlaceOf ‹Addr› (hd != .none)))):=by
   refine .bind (.frm env) fun _=>.bind (.place _ _) fun _=>.bind ?_ fun _=>.setF _ _ _ (by decide);unfold EntryCells.newEntry newFields newObj;have z:∀ d,Kp e (newObjAsIs (.type "traceback") d):=fun d=>.bind (.alc _) fun _=>.pure _;exact .ite (.bind (.un _) fun _=>z _) (z _)
  exact .ite (.bind (.fld hd 3) fun _=>.ite (.pure _) (.bind (.setF _ _ _ (by decide)) fun _=>rest)) rest
 ·exact .un _
theorem Kp.leave (v:Value) (env:Env):Kp e (leaving env v):=.bind (.note v env) fun _=>.flt v none
theorem zI3 {M:Model}{A:Around}{E:Value→Shared→Prop}{s:Shared}{t:Sem α}{Q : α→Shared→Prop} (k:Kp e t) (h:P2 e s.heap) (w:wpAny M A t (fun a s'=>P2 e s'.heap→Q a s') E s):wpAny M A t Q E s:=fun Γ p hΓ =>
 Sem.wp_mono M Γ t (fun _ _ _ z=>z.1 z.2) (fun _ _ _ z=>z.1) p s (k M Γ _ _ p s h (w Γ p hΓ))
end
end L2
namespace L2.W
open PySem PySem.Spec PyProof.Rows
@[irreducible] def PT (X:Cx) (e:Expr) (t:TT):Prop:=L2.PT X e t
theorem ePT : @L2.PT = @PT:=by unfold PT;rfl
@[irreducible] def PW (X:Cx) (e:Expr) (t:TT):Prop:=L2.PW X e t
theorem ePW : @L2.PW = @PW:=by unfold PW;rfl
def PW.pt:=by have h:=@L2.PW.pt;rw [ePT,ePW] at h;exact @h
end L2.W
namespace L2
open PySem PySem.Spec PyProof.Rows
def XO (C a:Addr):HO:=.ext fun h=>∃ o vs,h.get? a=some o∧o.cls=.ref C∧o.data=.fields vs∧vs[2]? = some Value.none
section
variable {P:Program}{w:World}{H:Hp}{h:Heap}{a C:Addr}{o:HO}
theorem yCc {ob:Obj}{vs:Array Value} (e:h.get? a=some ob) (c:ob.cls=.ref C) (d:ob.data=.fields vs) (n:vs[2]? = some Value.none):ObjOk P w H h a (XO C a) :=
 ⟨⟨ob,vs,e,c,d,n⟩,⟨ob,e⟩,fun _ _ ⟨o,vs,e,c,d⟩ k=>⟨o,vs,k _ e,c,d⟩⟩
theorem zZj (ok:HOk P w H h) (e:H a=some (XO C a)):∃ o vs,h.get? a=some o∧o.cls=.ref C∧o.data=.fields vs∧vs[2]? = some Value.none:=(show ObjOk P w H h a (XO C a) from ok a _ e).1
theorem zZi (ok:HOk P w H h) (e:H a=some (XO C a)):P2 a h:=let ⟨o,vs,h1,_,h2⟩:=zZj ok e;⟨o,vs,h1,h2⟩
theorem ObjOk.ex (x:ObjOk P w H h a o):∃ ob,h.get? a=some ob:=by
 cases o with
 | lst xs=>obtain ⟨_,_,_,_,e⟩:=x;exact ⟨_,e⟩
 | tup xs=>obtain ⟨_,_,_,ob,e,_⟩:=x;exact ⟨_,e⟩
 | dK kvs=>obtain ⟨_,_,_,_,o,_,_,e,_⟩:=x;exact ⟨_,e⟩
 | dT kvs=>obtain ⟨_,_,_,_,o,_,_,e,_⟩:=x;exact ⟨_,e⟩
 | set S n=>obtain ⟨o,_,_,_,e,_⟩:=x;exact ⟨_,e⟩
 | ins C dx fs=>obtain ⟨_,_,_,e,_⟩:=x;exact ⟨_,e⟩
 | own y=>exact x
 | xd fs=>obtain ⟨_,⟨_,_,_,e,_⟩,_⟩:=x;exact ⟨_,e⟩
 | rng lo hi=>obtain ⟨_,_,_,e⟩:=x;exact ⟨_,e⟩
 | frz ob u=>exact ⟨_,x.1⟩
 | tbl ps=>exact ⟨_,x⟩
 | met f y=>exact ⟨_,x⟩
 | ext φ=>exact x.2.1
theorem HOk.noth (ok:HOk P w H h) (e:h.get? a=none):H a=none:=by
 cases q:H a with
 | none=>rfl
 | some u =>
  obtain ⟨ob,eb⟩:=(ok a u q).ex;rw [e] at eb;cases eb
end
def Tr (G:Addr→Prop) (H:Hp) (h:Heap) (e:Addr):Prop:=∃ o vs a0 T oT ts,h.get? e=some o∧o.data=.fields vs∧vs[0]? = some a0∧vs[1]? = some (.ref T)∧G T∧H T=none∧h.get? T=some oT∧oT.data=.fields ts∧ts[3]? = some .none
def Fresh (h:Heap) (e:Addr):Prop:=∃ o vs a0,h.get? e=some o∧o.data=.fields vs∧vs[0]? = some a0∧vs[1]? = some .none
theorem Tr.imp {G G':Addr→Prop}{H:Hp}{h:Heap}{e:Addr} (x:Tr G H h e) (f:∀ T,G T→G' T):Tr G' H h e :=
 let ⟨o,vs,a0,T,oT,ts,h1,h2,h3,h4,g,r⟩:=x
 ⟨o,vs,a0,T,oT,ts,h1,h2,h3,h4,f _ g,r⟩
def CXM (P:Program) (w:World):CXT:=fun outer H s E u s'=>∃ e C H',u=.ref e∧s'.os=s.os∧AllBare s'.gens∧Un (frs outer) [] H H' s.heap s'.heap∧HOk P w H' s'.heap∧H' e=some (XO C e)∧Tr (fun T=>s.heap.get? T=none) H' s'.heap e∧E (.ref C) (some e) H'
theorem calmM {P:Program}{w:World}:Calm (CXM P w):=fun _ _ _ _ _ ⟨_,_,_,_,_,_,_,_,_,_,q⟩=>q
structure Mvd (l:List Env) (e T0:Addr) (cls a0 fl:Value) (h h':Heap):Prop where
 keep:∀ b o,h.get? b=some o→b≠e→b≠T0→b∉frs l→h'.get? b=some o
 slot:∀ b o,h.get? b=some o→b∈frs l→∃ sl,h'.get? b=some { o with slots:=sl }
 tr:∃ oe vs T oT ts,h'.get? e=some oe∧oe.cls=cls∧vs[0]? = some a0∧oe.data=.fields vs∧vs[1]? = some (.ref T)∧(T=T0∨h.get? T=none)∧T≠e∧h'.get? T=some oT∧oT.data=.fields ts∧ts[3]? = some fl
 p2:P2 e h'
abbrev bas (h:Heap) (l:List Env) (e T0:Addr):Heap:=PySem.W.hideAll h (e :: T0 :: frs l)
section
variable {base h h':Heap}{l:List Env}{e T0:Addr}{cls a0 fl:Value}
theorem moved (hl:h.FunFrames base l) (st:(bas h l e T0).StaysIn h') (ff:h'.FunFrames (bas h l e T0) l) (tr:h'.TracedAtW (bas h l e T0) e cls a0 fl) (up:h.UpToSlots h') (p2:P2 e h'):Mvd l e T0 cls a0 fl h h':=by
 refine ⟨fun b o q n1 n2 n3=>st b o (PySem.W.hideAll_get _ q ?_),fun b o q hb=>?_,?_,p2⟩
 ·intro z;rcases List.mem_cons.mp z with z | z
  ·exact n1 z
  ·rcases List.mem_cons.mp z with z | z
   ·exact n2 z
   ·exact n3 z
 ·obtain ⟨_,o',ho,hn⟩:=hl.mem hb;rw [q] at ho;cases ho;exact up b o q hn
 ·obtain ⟨oe,vs,T,oT,ts,he,⟨hc,h0⟩,hd,h1,hn,hne,hT,hdT,h3⟩:=tr;refine ⟨oe,vs,T,oT,ts,he,hc,h0,hd,h1,?_,hne,hT,hdT,h3⟩;cases q:h.get? T with
  | none=>exact .inr rfl
  | some o =>
   refine .inl (Classical.byContradiction fun nT=>?_);have:(bas h l e T0).get? T=some o:=PySem.W.hideAll_get _ q fun z=>by
    rcases List.mem_cons.mp z with z | z
    ·exact hne z
    ·rcases List.mem_cons.mp z with z | z
     ·exact nT z
     ·obtain ⟨_,o',ho,hnf⟩:=ff.mem z;rw [hT] at ho;cases ho;exact hnf _ hdT
   rw [hn] at this;cases this
theorem zZ4 (hl:h.FunFrames base l) {oe oT:Obj}{vs ts:Array Value} (he:h.get? e=some oe) (hd:oe.data=.fields vs) (h0:vs[0]? = some a0) (h1:vs[1]? = some (.ref T0)) (hne:T0≠e) (hT:h.get? T0=some oT) (hdT:oT.data=.fields ts) (h3:ts[3]? = some .none) :
 Heap.FlyingW (bas h l e T0) l e oe.cls a0 h :=
 ⟨fun b o q=>PySem.W.of_hideAll _ q,PySem.W.hideAll_none _ (.head _),PySem.W.funFrames_hide hl fun env he a ea=>.tail _ (.tail _ (List.mem_filterMap.mpr ⟨env,he,ea⟩)),oe,vs,T0,oT,ts,he,⟨rfl,h0⟩,hd,h1,PySem.W.hideAll_none _ (.tail _ (.head _)),hne,hT,hdT,h3⟩
end
section
variable {X:Cx}{pins:List (Addr×Obj)}{σ : St}{H:Hp}{s:Shared}{e C T0:Addr}{h':Heap}{cls a0 fl:Value}
theorem Mvd.ex (m:Mvd X.stack e T0 cls a0 fl s.heap h') (b:Addr) (o:Obj) (q:s.heap.get? b=some o) (h2:b≠T0):∃ o',h'.get? b=some o':=by
 obtain ⟨oe,_,_,_,_,he,_⟩:=m.tr;by_cases h1:b=e
 ·rw [h1];exact ⟨oe,he⟩
 ·by_cases h3:b∈frs X.stack
  ·obtain ⟨sl,z⟩:=m.slot b o q h3;exact ⟨_,z⟩
  ·exact ⟨o,m.keep b o q h1 h2 h3⟩
theorem Mvd.hok (m:Mvd X.stack e T0 (.ref C) a0 fl s.heap h') (I:Inv X pins σ H s) (he:H e=some (XO C e)) (hT:T0=e∨H T0=none):HOk X.prog X.w H h':=fun b u eb=>by
 by_cases h1:b=e
 ·subst h1;rw [he] at eb;cases eb;obtain ⟨oe,vs,_,_,_,h2,h3,_,h4,_⟩:=m.tr;obtain ⟨o',vs',h5,h6,h7⟩:=m.p2;rw [h2] at h5;cases h5;exact yCc h2 h3 h6 h7
 ·refine (I.hok b u eb).stay (fun c v hc q=>m.keep c v q ?_ ?_ ?_) (fun _ q=>q) fun _ _ q=>q
  ·rintro rfl;rcases hc with z | z
   ·exact h1 z.symm
   ·rw [he] at z;cases z
  ·rintro rfl;rcases hT with z | z
   ·subst z;rcases hc with z | z
    ·exact h1 z.symm
    ·rw [he] at z;cases z
   ·rcases hc with y | y
    ·rw [← y,z] at eb;cases eb
    ·rw [z] at y;cases y
  ·intro z;have:=I.stkFree c z;rcases hc with y | y
   ·rw [← y,this] at eb;cases eb
   ·rw [this] at y;cases y
theorem Inv.moved {t':Nat} (I:Inv X pins σ H s) (he:H e=some (XO C e)) (hT:H T0=none) (h0:X.s₀.heap.get? T0=none) (hp:∀ p∈X.pn++pins,p.1≠T0) {oT:Obj}{ts:Array Value} (eT:s.heap.get? T0=some oT) (dT:oT.data=.fields ts)
 (m:Mvd X.stack e T0 (.ref C) a0 fl s.heap h'):Inv X pins σ H { s with heap:=h',toks:=t' }:=by
 have nL:T0≠X.env.locals:=by
  rintro rfl;obtain ⟨_,⟨o,es,ep,ho,hd,_⟩,_⟩:=I.loc;rw [ho] at eT;cases eT;rw [hd] at dT;cases dT
 have nC:∀ x c,X.env.cells.lookup x=some c→c≠T0:=by
  rintro x c hc rfl;obtain ⟨v,o,ho,hd⟩:=I.cell x c hc;rw [ho] at eT;cases eT;rw [hd] at dT;cases dT
 have neS:∀ b,H b=none→b≠e:=fun b n z=>by rw [z,he] at n;cases n
 have sub:∀ b,b∈X.fs→b∈frs X.stack:=fun b hb=>by
  rcases I.ok.stk with z | ⟨z,hf⟩
  ·rw [z];exact hb
  ·rw [z];unfold frs;rw [Zn,hf];exact Zb _ hb
 refine I.step (g':=s.gens) (d':=s.drawn) (ch:=[T0]) (fun b hb=>?_) (fun b o n1 n2 n3 q n=>m.keep b o q (neS b n) (fun z=>n3 (by simp [z])) fun z=>(List.mem_cons.mp (I.stkSub b z)).elim n1 n2)
  (fun b o n1 n2 n3 q n=>m.slot b o q (sub b n2)) (fun b o _ _ n=>n) (fun b o n q=>m.ex b o q fun z=>n (by simp [z])) (fun _ _ q=>q) (fun _ _ _ q=>q) (fun b ps q=>⟨#[],by rw [q];simp⟩) (fun mm hm=>?_) (m.hok I he (.inr hT)) I.bare
 ·have:b=T0:=by simpa using hb
  subst this;exact ⟨.inr h0,nL,nC,hp⟩
 ·obtain ⟨o,es,ep,ho,hd,r⟩:=hm;by_cases z:X.env.locals∈frs X.stack
  ·obtain ⟨sl,q⟩:=m.slot _ _ ho z;exact ⟨_,es,ep,q,hd,r⟩
  ·exact ⟨o,es,ep,m.keep _ _ ho (neS _ I.free) (Ne.symm nL) z,hd,r⟩
theorem zXc {E:XK}{E':Value→Shared→Prop} (I:Inv X pins σ H s) (hx:X.ex=[]) (hs:X.stack=X.env :: X.outer) (hf:X.env.frame=some X.env.locals) (he:H e=some (XO C e)) (fl:Fresh s.heap e∨Tr (fun T=>X.s₀.heap.get? T=none) H s.heap e) (q:E (.ref C) (some e) H) :
 wpAny (model X.prog X.w) X.A (leaving X.env (.ref e)) (fun _ s''=>CXM X.prog X.w X.outer X.H₀ X.s₀ E (.ref e) s'') E' s:=by
 have hfr:X.A.frames=some (X.env :: X.outer):=by rw [← hs];exact I.ok.frames
 have hl:s.heap.FunFrames X.base (X.env :: X.outer):=by rw [← hs];exact I.stack
 obtain ⟨ox,vx,hox,hcx,hdx⟩:=zZj I.hok he;have fin:∀ (T0:Addr) (h':Heap) (a0:Value),(T0=e∨(H T0=none∧X.s₀.heap.get? T0=none))→Mvd X.stack e T0 (.ref C) a0 .none s.heap h'→CXM X.prog X.w X.outer X.H₀ X.s₀ E (.ref e) { s with heap:=h' }:=by
  intro T0 h' a0 hT m;have hT1:T0=e∨H T0=none:=hT.imp_right fun z=>z.1;have back:∀ b o,X.s₀.heap.get? b=some o→∃ o',s.heap.get? b=some o':=fun b o z=>I.base.there b o z (by rw [hx];simp);have nT:∀ b o,X.s₀.heap.get? b=some o→H b=none→b≠T0:=fun b o z n y=>by
   rcases hT with w | ⟨_,w⟩
   ·rw [y,w,he] at n;cases n
   ·rw [y,w] at z;cases z
  have nE:∀ b,H b=none→b≠e:=fun b n z=>by rw [z,he] at n;cases n
  have nL:∀ b o,X.s₀.heap.get? b=some o→b≠X.env.locals:=fun b o z=>Za (Z5 (Z8 z) I.ok.above);have inS:∀ b,b∈frs X.stack→b=X.env.locals∨b∈frs X.outer:=fun b z=>List.mem_cons.mp (I.stkSub b z);obtain ⟨oe,vs,T,oT,ts,h1,h2,h3,h4,h5,h6,h7,h8,h9,h10⟩:=m.tr;refine ⟨e,C,H,rfl,I.os,I.bare,⟨fun b o z n hb _=>?_,fun b o z n hb _=>?_,fun b o z n _=>I.base.free b o z n (by rw [hx];simp),fun b o z _=>?_,I.base.tups,I.base.frzs,I.base.tbls⟩,m.hok I he hT1,he,⟨oe,vs,a0,T,oT,ts,h1,h4,h3,h5,?_,?_,h8,h9,h10⟩,q⟩
  ·have n':=I.base.free b o z n (by rw [hx];simp);exact m.keep b o (I.base.keep b o z n hb (by rw [hx];simp)) (nE b n') (nT b o z n') fun y=>(inS b y).elim (nL b o z) hb
  ·obtain ⟨sl,z1⟩:=I.base.slot b o z n hb (by rw [hx];simp);obtain ⟨sl',z2⟩:=m.slot b _ z1 (by rw [hs];unfold frs;rw [Zn,hf];exact Zb _ hb);exact ⟨sl',z2⟩
  ·obtain ⟨o',z1⟩:=back b o z;by_cases y:b=T0
   ·rcases hT with w | ⟨_,w⟩
    ·rw [y,w];exact ⟨oe,h1⟩
    ·rw [y,w] at z;cases z
   ·exact m.ex b o' z1 y
  ·show X.s₀.heap.get? T=none;rcases h6 with z | z
   ·rcases hT with y | ⟨_,y⟩
    ·exact absurd (z.trans y) h7
    ·rw [z];exact y
   ·cases y:X.s₀.heap.get? T with
    | none=>rfl
    | some o =>
     obtain ⟨o',y1⟩:=back T o y;rw [z] at y1;cases y1
  ·rcases h6 with z | z
   ·rcases hT with y | ⟨y,_⟩
    ·exact absurd (z.trans y) h7
    ·rw [z];exact y
   ·exact I.hok.noth z
 rcases fl with ⟨oe,vs,a0,h1,h2,h3,h4⟩ | ⟨oe,vs,a0,T0,oT,ts,h1,h2,h3,h4,g,n,h5,h6,h7⟩
 ·rw [h1] at hox;cases hox;refine zI3 (.leave _ _) (zZi I.hok he) (wpAny_leaving_firstW (base:=bas s.heap (X.env :: X.outer) e e) (a0:=a0) hfr (PySem.W.funFrames_hide hl fun env he a ea=>.tail _ (.tail _ (List.mem_filterMap.mpr ⟨env,he,ea⟩))) hf h1 (fun b o z=>PySem.W.of_hideAll _ z) (PySem.W.hideAll_none _ (.head _)) h2 h4 h3 fun h' hL p2=>?_);obtain ⟨k1,k2,k3,k4⟩:=hL;rw [hcx] at k3;refine fin e h' a0 (.inl rfl) ?_;rw [hs];exact L2.moved hl k1 k2 k3 k4 p2
 ·rw [h1] at hox;cases hox;have hne:T0≠e:=fun z=>by rw [z,he] at n;cases n
  have F:=zZ4 hl h1 h2 h3 h4 hne h5 h6 h7;rw [hcx] at F;refine zI3 (.leave _ _) (zZi I.hok he) (wpAny_leaving_nextW hfr F.2.2.1 hf F.2.2.2 F.1 F.2.1 fun h' hL p2=>?_);obtain ⟨k1,k2,k3,k4⟩:=hL;have m:=L2.moved hl k1 k2 k3 k4 p2;exact fin T0 h' a0 (.inr ⟨n,g⟩) (by rw [hs];exact m)
end
end L2
namespace L2
open PySem PySem.Spec PyProof.Rows
theorem yBg {K:PySem.W.Frag}{h:Heap}{C:Addr}{bmB:List Value}{newId:String} (X:K.In h) (q:PySem.W.excIn K C bmB newId=true) :
 ∃ bm N nm q bs hdct sn sub ab col dd k0 k1 k2 k3 k5 mN,h.get? C=some (excClassObj nm q C N bs bm hdct sn sub ab col dd k0 k1 k2 k3 k5 newId)∧h.Ns N mN∧mN "__init__" = none∧OwnTail h bmB bm:=by
 unfold PySem.W.excIn at q;split at q
 ·rename_i dd cd sl ho
  split at q
  ·rename_i C' bm k0 k1 k2 k3 n k5 hm hs
   simp only [Zc,beq_iff_eq,Bool.not_eq_true'] at q;obtain ⟨⟨⟨⟨⟨rfl,rfl⟩,hdel⟩,ht⟩,hok⟩,hni⟩:=q;obtain ⟨nm,bs,mro,ns,qn,hd,sn,sub,ab,col,del⟩:=cd;dsimp only at hm hdel hok hni;subst hm hdel;have hsl:sl = #[k0,k1,k2,k3,some (.builtin n),k5]:=by
    obtain ⟨l⟩:=sl;simp only at hs;rw [hs]
   subst hsl;exact ⟨bm,ns,nm,qn,bs,hd,sn,sub,ab,col,dd,k0,k1,k2,k3,k5,_,X _ _ ho,.of_isNs (PySem.W.isNs_of_in X hok),PySem.W.nsMap_none_of_in X hok hni,PySem.W.tail_of_in X ht⟩
  ·cases q
 ·cases q
section
variable {X:Cx}{pins:List (Addr×Obj)}{σ : St}{H H':Hp}{s:Shared}{e C:Addr}{h h':Heap}{o:HO}
theorem Un.born {fs ex:List Addr} (k:∀ b u,h.get? b=some u→h'.get? b=some u) (hp:h.get? e=none) (hn:H e=none):Un fs ex H (upd H e o) h h' where
 keep:=fun b u q _ _ _=>k b u q
 slot:=fun b u q _ _ _=>⟨u.slots,k b u q⟩
 free:=fun b u q n _=>by rw [zAa (fun z=>by rw [z,hp] at q;cases q)];exact n
 there:=fun b u q _=>⟨u,k b u q⟩
 tups:=fun b xs q=>by rw [zAa (zA7 q hn)];exact q
 frzs:=fun b u xs q=>by rw [zAa (zA7 q hn)];exact q
 tbls:=fun b ps q=>⟨#[],by rw [zAa (zA7 q hn),q];simp⟩
theorem HOk.born {P:Program}{w:World} (x:HOk P w H h) (k:∀ b u,h.get? b=some u→h'.get? b=some u) (hp:h.get? e=none) (new:ObjOk P w (upd H e o) h' e o):HOk P w (upd H e o) h':=fun b u q=>by
 have hn:=x.noth hp;by_cases hb:b=e
 ·subst hb;rw [zAc] at q;cases q;exact new
 ·rw [zAa hb] at q;exact (x b u q).stay (fun c v _ q=>k c v q) (fun c q=>by rw [zAa (zA7 q hn)];exact q) fun c xs q=>by rw [zAa (zA7 q hn)];exact q
theorem Inv.born {t':Nat} (I:Inv X pins σ H s) (k:∀ b u,s.heap.get? b=some u→h'.get? b=some u) (hp:s.heap.get? e=none) (new:ObjOk X.prog X.w (upd H e o) h' e o):Inv X pins σ (upd H e o) { s with heap:=h',toks:=t' } :=
 I.un (Un.born k hp (I.hok.noth hp)) (I.hok.born k hp new)
theorem Inv.cx {s':Shared}{E:XK}{u:Value} (I:Inv X pins σ H s) (c:CXM X.prog X.w X.stack H s E u s') :
 ∃ e C H',u=.ref e∧Inv X pins σ H' s'∧H' e=some (XO C e)∧Tr (fun T=>s.heap.get? T=none) H' s'.heap e∧E (.ref C) (some e) H':=by
 obtain ⟨e,C,H',rfl,os,bare,un,hok,he,tr,q⟩:=c;exact ⟨e,C,H',rfl,I.call' (ch:=[]) os un hok bare (fun b z=>absurd z (by simp)),he,tr,q⟩
theorem Inv.back (I:Inv X pins σ H s) (hx:X.ex=[]) {T:Addr} (n:s.heap.get? T=none):X.s₀.heap.get? T=none:=by
 cases y:X.s₀.heap.get? T with
 | none=>rfl
 | some o =>
  obtain ⟨o',y1⟩:=I.base.there T o y (by rw [hx];simp);rw [n] at y1;cases y1
end
section
variable {P:Program}{w:World}{K:PySem.W.Frag}{mg:Str→Option Value}{base:Heap}{N:List Str}{qual:Str}{scope:Scope}{f:Addr}{cd:Value}{A:Around}{outer:List Env}{s:Shared}{H:Hp}{E:XK}
abbrev cxM (P:Program) (w:World) (K:PySem.W.Frag) (mg:Str→Option Value) (base:Heap) (N:List Str) (qual:Str) (scope:Scope) (f:Addr) (cd:Value) (A:Around) (outer:List Env) (s:Shared) (H:Hp) (E:XK):Cx:=cxOf (CXM P w) P w K mg base N qual scope f cd A outer s H E
theorem zYa {pins:List (Addr×Obj)}{σ : St}{H':Hp}{s':Shared}{e C:Addr} (I:Inv (cxM P w K mg base N qual scope f cd A outer s H E) pins σ H' s') (he:H' e=some (XO C e)) (fl:Fresh s'.heap e∨Tr (fun T=>s.heap.get? T=none) H' s'.heap e) (q:E (.ref C) (some e) H') :
 (cxM P w K mg base N qual scope f cd A outer s H E).xe (.ref e) s':=zXc I rfl rfl rfl he fl q
theorem yAe:Passes (CXM P w) (cxM P w K mg base N qual scope f cd A outer s H E) (fun _=>E):=fun pins σ H1 s1 u s2 I c=>by
 obtain ⟨e,C,H',rfl,I',he,tr,q⟩:=I.cx c;exact zYa I' he (.inr (tr.imp fun T n=>I.back rfl n)) q
end
section
variable {X:Cx}{x:Str}{np cpos pos:Pos}{a:Expr}{as:List Expr}{t:TA}{C:Addr}{W:St→Addr→Hp→Prop}
theorem zWd (hc:PySem.W.excIn X.K C [.type "ValueError",.type "Exception",.type "BaseException",.type "object"] "ValueError.__new__" = true) (hg:Gl X x) (hm:X.mg x=some (.ref C)) (hcm:X.calm=true) (ha:PA X (a :: as) t)
 (hx:∀ pins σ H s e,Inv X pins σ H s→H e=some (XO C e)→Fresh s.heap e→W σ e H→X.xe (.ref e) s) (hdb:(x == ("__debug__" : Str))=false:=by decide)
 (he:starEach (a :: as) X.env=(false,eval a X.env) :: starEach as X.env:=by rfl) (hpl:(backTo cpos (starEach as X.env)).any (·.1)=false:=by rfl) :
 PS X (.Raise (some (.Call (.Name x np) (a :: as) [] cpos)) none pos) (fun _ σ H=>t σ H fun vs H1=>vs.length≤sizeLine∧∀ e,H1 e=none→W σ e (upd H1 e (XO C e))):=by
 intro pins s σ H D I h;obtain ⟨bm,N,nm,q,bs,hdct,sn,sub,ab,col,dd,k0,k1,k2,k3,k5,mN,hC,hN,hni,T⟩:=yBg I.ok.mod.kin hc;have hA:=ha cpos pins s σ H _ I h;refine wpAny_Raise_call_subU (C:=C) (nm:=nm) (q:=q) (N:=N) (bs:=bs) (bm:=bm) (hdct:=hdct) (sn:=sn) (sub:=sub) (ab:=ab) (col:=col) (dd:=dd) (k0:=k0) (k1:=k1) (k2:=k2) (k3:=k3) (k5:=k5)
  PySem.F.excBase_ValueError PySem.F.excBase_ValueError.hasB PySem.F.excBase_ValueError (mN:=mN) (T.hasType PySem.F.excBase_ValueError.hasBase) (I.ok.hd hcm) (by rw [he];show (false || (backTo cpos (starEach as X.env)).any (·.1))=false;rw [hpl];rfl) hni (zLv I hg hm ⟨rfl,?_⟩ hdb)
 rw [he] at hA ⊢;refine Calls.evalArgs_plain (thn hA fun us s2 ⟨vs,H2,I2,r,hz,k⟩=>⟨rfl,by rw [← r.length];exact hz,I2.bk _ _ hC,hN.keeps I2.bk,T.keeps I2.bk,fun h' e hm=>?_⟩);obtain ⟨tt,h1,h2,h3⟩:=hm.there;exact hx pins σ _ { s2 with heap:=h' } e (I2.born (t':=s2.toks) (o:=XO C e) hm.keeps hm.new (yCc h1 rfl rfl rfl)) zAc ⟨_,_,_,h1,rfl,rfl,rfl⟩ (k e (I2.hok.noth hm.new))
end
end L2
namespace L2
open PySem PySem.Spec PyProof.Rows
abbrev TW:=St→Addr→Addr→Hp→Prop
def Cx.tri (X:Cx) (pins:List (Addr×Obj)) (W:TW):Cx:={ X with
 pn:=X.pn++pins
 xe:=fun u s'=>∃ e C σ' H',u=.ref e∧Inv X pins σ' H' s'∧H' e=some (XO C e)∧Tr (fun T=>X.s₀.heap.get? T=none∧∀ p∈X.pn++pins,p.1≠T) H' s'.heap e∧W σ' e C H' }
def Cx.hnd (X:Cx) (e:Addr):Cx:={ X with
 A:=X.A.mark (some (.ref e))
 calm:=false
 xe:=fun _ _=>False }
section
variable {X:Cx}{pins pins':List (Addr×Obj)}{σ : St}{H:Hp}{s:Shared}{W:TW}{e:Addr}
theorem Cx.Ok.tri (ok:X.Ok):(X.tri pins W).Ok:=⟨ok.mod,ok.kind,ok.glob,ok.blt,ok.above,ok.inj,ok.has,ok.cab,ok.hd,ok.frames,ok.stk,ok.exf,ok.bs,ok.bsz,ok.noex,ok.exfs,ok.funs,ok.frf⟩
theorem Cx.Ok.untri (ok:(X.tri pins W).Ok):X.Ok:=⟨ok.mod,ok.kind,ok.glob,ok.blt,ok.above,ok.inj,ok.has,ok.cab,ok.hd,ok.frames,ok.stk,ok.exf,ok.bs,ok.bsz,ok.noex,ok.exfs,ok.funs,ok.frf⟩
theorem Cx.Ok.hnd (ok:X.Ok):(X.hnd e).Ok:=⟨ok.mod,ok.kind,ok.glob,ok.blt,ok.above,ok.inj,ok.has,ok.cab,(fun z=>Bool.noConfusion (show false=true from z)),ok.frames,ok.stk,ok.exf,ok.bs,ok.bsz,ok.noex,ok.exfs,ok.funs,ok.frf⟩
theorem Inv.tri (I:Inv X pins σ H s):Inv (X.tri pins W) [] σ H s:=⟨I.ok.tri,I.os,I.bare,I.base,I.loc,I.cell,I.free,I.freeC,fun p hp=>I.pin p (by simpa [Cx.tri] using hp),I.hok,I.len⟩
theorem Inv.untri (I:Inv (X.tri pins W) pins' σ H s):Inv X pins σ H s:=⟨I.ok.untri,I.os,I.bare,I.base,I.loc,I.cell,I.free,I.freeC,fun p hp=>I.pin p (Zq _ hp),I.hok,I.len⟩
theorem Inv.hnd (I:Inv X pins σ H s):Inv (X.hnd e) pins σ H s:=⟨I.ok.hnd,I.os,I.bare,I.base,I.loc,I.cell,I.free,I.freeC,I.pin,I.hok,I.len⟩
theorem Inv.unhnd (ok:X.Ok) (I:Inv (X.hnd e) pins σ H s):Inv X pins σ H s:=⟨ok,I.os,I.bare,I.base,I.loc,I.cell,I.free,I.freeC,I.pin,I.hok,I.len⟩
theorem SP.untri {D:Ends}{f:Flow}{s':Shared} (h:SP (X.tri pins W) pins' D f s'):SP X pins D f s':=by
 cases f with
 | next=>obtain ⟨σ',H',I,q⟩:=h;exact ⟨σ',H',I.untri,q⟩
 | brk=>obtain ⟨σ',H',I,q⟩:=h;exact ⟨σ',H',I.untri,q⟩
 | cont=>obtain ⟨σ',H',I,q⟩:=h;exact ⟨σ',H',I.untri,q⟩
 | ret u=>obtain ⟨v,σ',H',I,r,q⟩:=h;exact ⟨v,σ',H',I.untri,r,q⟩
theorem zWp (hx:X.ex=[]):Passes (CXM X.prog X.w) (X.tri pins W) (fun σ cls eo H'=>∃ e C,cls=.ref C∧eo=some e∧W σ e C H'):=fun pins' σ H1 s1 u s2 I c=>by
 obtain ⟨e,C,H',rfl,I',he,tr,e',C',h1,h2,q⟩:=I.cx c;cases h1;cases h2
 exact ⟨e,C,σ,H',rfl,I'.untri,he,tr.imp fun T n=>⟨I.back hx n,fun p hp z=>by
  have:=(I.pin p (Zq _ hp)).1;rw [z,n] at this
  cases this⟩,q⟩
end
section
variable {X:Cx}{x n:Str}{np hpos pos:Pos}{body suite:List Stmt}{b₀ : Stmt}{i:Nat}{B:Addr}{tb:TW→TS}{th:Addr→TS}
end
end L2
namespace L2
open PySem PySem.Spec PyProof.Rows PySem.W
section
variable {prog:Program}{w:World}{A:Around}{E:Value→Shared→Prop}{h:Heap}{g:Array GenState}{d:Drawn}{t:Nat}{os:OsState}{a:Addr}{o:Obj}
 {nm q:Str}{C N:Addr}{bs bm:List Value}{hdct:Bool}{sn:List Str}{sub:List Value}{ab:Bool}{col:Option Bool}{dd:Option Addr}{k0 k1 k2 k3 k5:Option Value}{newId:String}
end
section
variable {prog:Program}{w:World}{A:Around}{E:Value→Shared→Prop}{s:Shared}{K:Frag}{x C D:Addr}{ox:Obj}
end
section
variable {X:Cx}
end
end L2
namespace L2
open PySem PySem.Spec PyProof.Rows
namespace W
end W
end L2
namespace L2
open PySem PySem.Spec PyProof.Rows
section
variable {X:Cx}{pins:List (Addr×Obj)}{σ : St}{H:Hp}{s:Shared}{N':List Str}{is:List Nat}{st:Stmt}{t:TS}
end
theorem FnOk.calm {P:Program}{w:World}{K:PySem.W.Frag}{mg:Str→Option Value}{base:Heap}{CX:CXT}{k:Nat}{f:Addr}{fd:FuncData}{ps:List Str}{sp:Sp} (hC:Calm CX) (F:FnOk P w K mg base CX k f fd ps sp):FnOk P w K mg base CX0 k f fd ps (fun vs H Q E=>sp vs H Q fun _ _ _=>False) :=
 ⟨fun vs H Q E h=>F.len vs H Q _ h,fun A outer s H args us vs Q E hr he hb hv h=>by
  have:=F.run A outer s H args us vs Q (fun _ _ _=>False) hr he hb hv h;refine codeAny_mono this fun r s' h'=>?_;cases r with
  | ok c =>
   cases c with
   | ret u=>exact h'
   | _=>exact h'
  | error e=>exact hC _ _ _ _ _ h'⟩
namespace W
end W
end L2
namespace L2
open PySem PySem.Spec PyProof.Rows
structure TabM (H:Hp) (P:Addr) (q:Str):Prop where
 ex:∃ ps:Array Value,H P=some (.tbl ps)∧TriplesOk ps.toList∧∀ (pos:Pos) (v:Value),codeAmong pos ps.toList=some v→∃ a,v=.ref a∧H a=some (CodeO a q)
theorem TabM.ne {H:Hp}{P:Addr}{q:Str} (T:TabM H P q) {a:Addr}{o:HO} (e:H a=some o) (h:∀ ps,o≠.tbl ps):a≠P:=by
 rintro rfl;obtain ⟨ps,z,_⟩:=T.ex;rw [e] at z;exact h _ (Zl z)
theorem TabM.same {H H':Hp}{P:Addr}{q:Str} (T:TabM H P q) (k:Same H H'):TabM H' P q:=by
 obtain ⟨ps,z,t,c⟩:=T.ex;exact ⟨ps,k _ _ z,t,fun pos v e=>let ⟨a,e1,e2⟩:=c pos v e;⟨a,e1,k _ _ e2⟩⟩
theorem TabM.upd {H:Hp}{P:Addr}{q:Str}{p:Addr}{u o:HO} (T:TabM H P q) (hp:H p=some u) (h1:∀ ps,u≠.tbl ps) (h2:∀ f,u≠.ext f):TabM (L2.upd H p o) P q:=by
 have n1:=T.ne hp h1;obtain ⟨ps,z,t,c⟩:=T.ex;refine ⟨ps,by rw [zAa (Ne.symm n1)];exact z,t,fun pos v e=>?_⟩;obtain ⟨a,e1,e2⟩:=c pos v e;refine ⟨a,e1,?_⟩;rw [zAa ?_]
 ·exact e2
 ·rintro rfl;rw [hp] at e2;exact h2 _ (Zl e2)
section
variable {f c':Addr}{q:Str}{params:Arguments}{body:Expr}{scope:Scope}{cl:List (Str×Addr)}{N:List Str}{ws:List V}{h h':Heap}{H:Hp}
end
section
variable {CX:CXT}{P:Program}{w:World}{K:PySem.W.Frag}{mg:Str→Option Value}{base:Heap}{k:Nat}{f c':Addr}{q:Str}{params:Arguments}{body:Expr}{scope:Scope}{cl:List (Str×Addr)}{N:List Str}{ws:List V}
end
section
variable {X:Cx}{CX:CXT}{k:Nat}{f c':Addr}{q x:Str}{params:Arguments}{body:Expr}{scope:Scope}{cl:List (Str×Addr)}{N:List Str}{ws:List V}{sp:Hp→VK→XK→Prop}{E:St→XK}{i:Nat}{p pos:Pos}
end
section
variable {X:Cx}{pins:List (Addr×Obj)}{σ : St}{H:Hp}{s:Shared}{A:Around}{E:Value→Shared→Prop}
end
section
variable {X:Cx}{CX:CXT}{k:Nat}{fw c P:Addr}{fd:FuncData}{q x y:Str}{params:Arguments}{body:Expr}{scope:Scope}{N:List Str}{ix:List Nat}{sp:Addr→Addr→List (Str×Addr)→List V→Sp}{E:St→XK}{p lpos pos:Pos}
end
namespace W
end W
end L2
namespace PySem.SeqAt
open AutoSeq1 (wpAny_loadPart')
open MeetsSeq
section
variable {A:Around}{s:Shared}
end
end PySem.SeqAt
namespace L2
open PySem PySem.Spec PyProof.Rows
section
variable {X:Cx}{pins:List (Addr×Obj)}{σ : St}{H:Hp}{s:Shared}
end
end L2
namespace L2
open PySem PySem.Spec PyProof.Rows
def OnlyTs (ts:List Addr) (H:Hp):Prop:=(∀ T∈ts,H T=some (.tbl #[]))∧∀ b,b∉ts→H b=none∨∃ o xs,H b=some (.frz o (.lst xs))
theorem zT5 {P:Program}{w:World}{K:PySem.W.Frag}{mg mb:Str→Option Value}{CX:CXT}{k:Nat}{fa a:Addr}{ts:List Addr}{fd:FuncData}{x:Str}{sp:Sp}{s₁ : Shared}{vs:List Value}{ns:List Int}
 (KX:K.In s₁.heap) (hns:s₁.heap.Ns mainGlobals mg) (hb:s₁.heap.Ns builtinsNs mb) (hbb:∀ x:Str,x≠"__name__"→mb x=bootBuiltins x) (hlim:s₁.heap.NoLimit) (hg:s₁.gens = #[]) (hBl:BltAt mg s₁.heap) (hT:∀ T∈ts,s₁.heap.get? T=some (PySem.W.tabObj #[])) (hKT:∀ T∈ts,K.lookup T=none) (hCd:∀ T∈ts,∃ c,PySem.W.codeHdIn K c T=true)
 (ha:s₁.heap.get? a=some { cls:=.type "list",data:=.seq vs.toArray }) (hi:IntsAre vs ns) (hl:ns.length≤sizeLine) (hr:Room k callerA)
 (F:∀ base:Heap,K.In base→base.Ns mainGlobals mg→BltAt mg base→FnOk P w K mg base CX k fa fd [x] sp) (hbind:∀ (s:Shared) (u:Value),BindsTo s fd ⟨[u],[]⟩ [(x,u)])
 (hsp:∀ H:Hp,OnlyTs ts H→SqL K H a (ns.map V.int)→sp [.ref a] H (fun v _=>v=.bl true) fun _ _ _=>False)
 (hCX:∀ H e s',CX [] H s₁ (fun _ _ _=>False) e s'→False) :
 codeAny (model P w) callerA (.call (.ref fa) ⟨[.ref a],[]⟩) (fun r s'=>r=.ok (.ret (.bool true))∧OldK s₁.heap s'.heap∧s'.os=s₁.os∧AllBare s'.gens) s₁:=by
 have rv:=zOi hi;have lenV:=hi.length;have aT:a∉ts:=fun h=>by
  have:=hT a h;rw [ha] at this;cases this
 have core:∀ H:Hp,OnlyTs ts H→SqL K H a (ns.map V.int)→HOk P w H s₁.heap→(∀ b,H b≠none→b=a∨b∈ts)→(H a≠none→K.lookup a=none) →
  codeAny (model P w) callerA (.call (.ref fa) ⟨[.ref a],[]⟩) (fun r s'=>r=.ok (.ret (.bool true))∧OldK s₁.heap s'.heap∧s'.os=s₁.os∧AllBare s'.gens) s₁:=by
  intro H hO hS hok hA hK;have base_of:∀ {b:Addr}{o:Obj},s₁.heap.get? b=some o→H b=none→(hidT s₁.heap H).get? b=some o:=fun e n=>zXj e n;have noA:∀ {b:Addr}{o:Obj}{es:Array DictEntry}{ep:Nat},s₁.heap.get? b=some o→o.data=.dict es ep→H b=none:=fun {b o es ep} e d=>by
   cases q:H b with
   | none=>rfl
   | some u =>
    rcases hA b (by rw [q];simp) with e' | e'
    ·subst e';rw [ha] at e;cases e;have d':Data.seq vs.toArray _=Data.dict es ep:=d;cases d'
    ·rw [hT b e'] at e;cases e;cases d
  have nsK:∀ {b:Addr}{m:Str→Option Value},s₁.heap.Ns b m→(hidT s₁.heap H).Ns b m:=fun {b m} ⟨o,es,ep,e,d,r⟩=>⟨o,es,ep,base_of e (noA e d),d,r⟩
  have hKb:K.In (hidT s₁.heap H):=fun b o e=>base_of (KX b o e) (by
   cases q:H b with
   | none=>rfl
   | some u =>
    rcases hA b (by rw [q];simp) with e' | e'
    ·subst e';rw [hK (by rw [q];simp)] at e;cases e
    ·rw [hKT b e'] at e;cases e)
  have hBl2:BltAt mg (hidT s₁.heap H):=by
   obtain ⟨bm,ob,e1,e2,e3,e4,e5,e6,e7⟩:=hBl;refine ⟨bm,ob,e1,e2,e3,base_of e4 ?_,e5,e6,e7⟩;cases q:H bm with
   | none=>rfl
   | some u =>
    rcases hA bm (by rw [q];simp) with e' | e'
    ·subst e';rw [ha] at e4;cases e4;exact absurd (show Value.type "list" = Value.type "module" from e5) (by decide)
    ·rw [hT bm e'] at e4;cases e4;exact absurd (show Value.none=Value.type "module" from e5) (by decide)
  have hM:Mod K mg (hidT s₁.heap H):=⟨hKb,nsK hns,⟨mb,nsK hb,hbb⟩,let ⟨mc,h1,h2⟩:=hlim;⟨mc,nsK h1,h2⟩⟩;have e0:Env0 P w K mg (hidT s₁.heap H) callerA [] s₁ H:=⟨rfl,hM,fun b o e=>yAu e,Nat.le_of_eq (zV4 _ _),trivial,fun b hb=>absurd (show b∈([]:List Addr) from hb) (by simp),hok,.of_eq hg⟩;refine codeAny_mono ((F _ hKb (nsK hns) hBl2).run callerA [] s₁ H ⟨[.ref a],[]⟩ [.ref a] [.ref a] _ _ hr e0 (hbind s₁ (.ref a)) (.cons rfl .nil) (hsp H hO hS)) fun r s' h=>?_;cases r with
  | error e=>exact (hCX H e s' h).elim
  | ok fl =>
   cases fl with
   | next=>exact False.elim h
   | brk=>exact False.elim h
   | cont=>exact False.elim h
   | ret u =>
    obtain ⟨v,H',os,bare,un,hok',r',q⟩:=h;have q':v=.bl true:=q;subst q';obtain rfl:u=Value.bool true:=r';have keep:∀ b o,b∉ts→s₁.heap.get? b=some o→s'.heap.get? b=some o:=fun b o nb e=>by
     cases q:H b with
     | none=>exact un.keep b o e q (by intro z;exact absurd (show b∈([]:List Addr) from z) (by simp)) (by simp)
     | some u =>
      rcases hO.2 b nb with z | ⟨ob,xs,z⟩
      ·rw [q] at z;cases z
      ·have z2:=un.frzs b ob _ z;obtain ⟨e1,_⟩:=hok b _ z;obtain ⟨e2,_⟩:=hok' b _ z2;rw [e] at e1;cases e1;exact e2
    have gT:∀ T∈ts,∃ more,s'.heap.get? T=some { cls:=.none,data:=.fields (#[]++more) }:=fun T hm=>by
     obtain ⟨more,eT⟩:=un.tbls T _ (hO.1 T hm);exact ⟨more,hok' T _ eT⟩
    refine ⟨rfl,⟨fun b o e=>?_,fun b o e=>?_⟩,os,bare⟩
    ·by_cases nb:b∈ts
     ·obtain ⟨more,g⟩:=gT b nb;rw [hT b nb] at e;cases e;obtain ⟨c,hc⟩:=hCd b nb;obtain ⟨oc,vsc,_,_,_,_,_,_,_,g1,g2,g3,g4,_⟩:=PySem.W.codeHd_of_K KX hc;exact .inr (.inl ⟨⟨c,oc,vsc,g1,g2,g3,g4⟩,rfl,#[],more,rfl,g⟩)
     ·exact .inl (keep b o nb e)
    ·by_cases nb:b∈ts
     ·obtain ⟨more,g⟩:=gT b nb;exact ⟨_,g⟩
     ·exact ⟨o,keep b o nb e⟩
 cases hk:K.lookup a with
 | some o =>
  have e:=KX a o hk;rw [ha] at e;cases e;refine core (fun b=>if b∈ts then some (.tbl #[]) else none) ⟨fun T hm=>if_pos hm,fun b nb=>.inl (if_neg nb)⟩ (.inr ⟨_,vs.toArray,_,hk,rfl,rfl,rfl,by rw [Z4,lenV];exact hl,by simpa using rv⟩) (fun b u z=>?_) (fun b z=>?_) fun z=>absurd (if_neg aT) z
  ·by_cases nb:b∈ts
   ·have z':=(if_pos nb).symm.trans z;cases z';exact hT b nb
   ·have z':=(if_neg nb).symm.trans z;cases z'
  ·by_cases nb:b∈ts
   ·exact .inr nb
   ·exact absurd (if_neg nb) z
 | none =>
  refine core (fun b=>if b∈ts then some (.tbl #[]) else if b=a then some (.frz { cls:=.type "list",data:=.seq vs.toArray } (.lst (ns.map V.int))) else none) ⟨fun T hm=>if_pos hm,fun b nb=>?_⟩ (.inl (.inr ⟨{ cls:=.type "list",data:=.seq vs.toArray },?_⟩)) (fun b u z=>?_) (fun b z=>?_) fun _=>hk
  ·by_cases hb:b=a
   ·exact .inr ⟨_,_,(if_neg nb).trans (if_pos hb)⟩
   ·exact .inl ((if_neg nb).trans (if_neg hb))
  ·exact (if_neg aT).trans (if_pos rfl)
  ·by_cases nb:b∈ts
   ·have z':=(if_pos nb).symm.trans z;cases z';exact hT b nb
   ·have z':=(if_neg nb).symm.trans z;by_cases hb:b=a
    ·have z2:=(if_pos hb).symm.trans z';cases z2;subst hb;exact ⟨ha,by rw [Z2];exact hl,vs,_,rv,ha⟩
    ·have z2:=(if_neg hb).symm.trans z';cases z2
  ·by_cases nb:b∈ts
   ·exact .inr nb
   ·by_cases hb:b=a
    ·exact .inl hb
    ·exact absurd ((if_neg nb).trans (if_neg hb)) z
end L2
namespace L2
open PySem PySem.Spec PyProof.Rows
theorem zHk (is:List Int):∀ n,n≤is.length→preSum (fun i=>is.getD i 0) n=(is.take n).sum
 | 0,_=>rfl
 | n + 1,h=>by
  show preSum (fun i=>is.getD i 0) n + is.getD n 0=_;have e:is[n]? = some is[n]:=Z7 (by omega);have e2:is.getD n 0=is[n]:=by rw [List.getD_eq_getElem?_getD,e];rfl
  rw [zHk is n (by omega),e2,List.take_add_one,e,Option.toList_some,List.sum_append,List.sum_cons,List.sum_nil,Int.add_zero]
section
variable {X:Cx}
theorem zUg {K:PySem.W.Frag} (hK:X.K=K):MtR X "list.index" (fun x xs H Q=>∃ (l:Addr) (ks:List Str) (n:Str) (j:Nat),x=.ref l∧xs=[.str n]∧SqL K H l (ks.map V.str)∧ks[j]? = some n∧(∀ m,m < j→ks[m]?≠some n)∧Q (.int (j:Nat)) H):=by
 subst hK;intro pins s σ H x xs v us Q I rx rv h;obtain ⟨l,ks,n,j,rfl,rfl,hl,hj,hno,q⟩:=h;cases (show v=Value.ref l from rx);obtain ⟨u,rfl,ru⟩:=v1 rv;obtain ⟨its,r,pl,hz⟩:=I.list hl;obtain ⟨⟨cls,dd,data,sl⟩,ho,hc,n',hd⟩:=pl.isList;simp only at hc hd;subst hc hd;have jl:j < ks.length:=(List.getElem?_eq_some_iff.mp hj).1;have ln:=r.length;rw [Z2] at ln hz;have fs:(ks.map V.str).all flatV=true:=by
  rw [Zy];intro x hx;obtain ⟨k,_,rfl⟩:=List.mem_map.mp hx;rfl
 have at_:∀ (i:Nat) (hi:i < its.toArray.size) (k:Str),ks[i]? = some k→eqU (.str n) its.toArray[i]=eqV (.str k) (.str n):=fun i hi k e=>by
  obtain ⟨w',hw,rw'⟩:=r.get (i:=i) (x:=.str k) (by rw [Zo,e];rfl);have:its.toArray[i]=w':=by
   have h1:its[i]? = some its.toArray[i]:=by simp
   rw [hw] at h1;exact (Zl h1).symm
  rw [this];exact zZ5 rw' rfl
 have szl:(sizeLine:Nat)=16777216:=sizeLine_eq;refine call_meets PySem.F.slot_list_index ⟨_,ho,rfl⟩ PySem.F.entry_list_index (PySem.F.args_list_index_2 _ _) (SeqAt.list_indexAt l its.toArray n' dd sl u (eqU (.str n)) j (by simp;omega) (by omega) ?_ ?_) ⟨ho,fun y hy=>zRv ru rfl r fs y (by simpa using hy),?_⟩
 ·rw [at_ j (by simp;omega) n hj];simp [eqV]
 ·intro m hm lt;obtain ⟨k,hk⟩:∃ k,ks[m]? = some k:=⟨_,Z7 (by omega)⟩;rw [at_ m hm k hk];have:k≠n:=fun e=>hno m lt (by rw [hk,e]);simp [eqV,this]
 ·exact ⟨.int j,H,I.tok _,⟨_,rfl⟩,q⟩
theorem zOc {K:PySem.W.Frag} (hK:X.K=K):CallR X (.builtin "sum") (fun vs H Q=>∃ (l:Addr) (is:List Int),vs=[.ref l]∧SqL K H l (is.map V.int)∧X.calm=true∧Q (.int is.sum) H):=by
 subst hK;intro pins s σ H vs us Q I rv h;obtain ⟨l,is,rfl,hl,hc,q⟩:=h;obtain ⟨u,rfl,ru⟩:=v1 rv;cases (show u=Value.ref l from ru);obtain ⟨its,r,pl,hz⟩:=I.list hl;have ln:=r.length;rw [Z2] at ln;refine call_sum_walkG (wpAny_pyIter_list pl.isList ?_);have hlI:l≠s.heap.objs.size:=by
  obtain ⟨o,e,_⟩:=pl.isList;exact Za (Z8 e)
 refine ⟨s.heap.objs.size,_,_,_,_,_,fun i=>is.getD i 0,rfl,Walks.list (A:=X.A.in1) (I.ok.hd hc) s.heap.objs.size l hlI its.toArray,⟨⟨_,Z9 _ rfl,rfl,rfl⟩,?_⟩,fun b hb=>?_,fun i v hp=>?_,fun h' tk t' hk=>?_⟩
 ·obtain ⟨o,e,r⟩:=pl.isList;exact ⟨o,Z0 _ e,r⟩
 ·show b < (s.heap.push _).objs.size;rw [Zz];rcases List.mem_cons.mp hb with e | hb
  ·rw [e];exact Zp _
  ·obtain ⟨o,e,_⟩:=pl.isList;rw [List.mem_singleton.mp hb];exact Y9 (Z8 e)
 ·have hv:its[i]? = some v:=by simpa using hp
  have hi:i < its.length:=(List.getElem?_eq_some_iff.mp hv).1;obtain ⟨z,ez⟩:∃ z,is[i]? = some z:=⟨_,Z7 (by omega)⟩;obtain ⟨w',hw,rw'⟩:=r.get (i:=i) (x:=.int z) (by rw [Zo,ez];rfl);rw [hv] at hw;cases hw;obtain ⟨t,e⟩:=(show ∃ t,v=Value.int z t from rw');exact ⟨t,by rw [e];simp [ez]⟩
 ·have kk:Kept s.heap h':=fun b o e=>hk b o (fun z=>absurd (Z8 e) (by rw [List.mem_singleton.mp z];exact Zv _)) (Z0 _ e);refine ⟨.int is.sum,H,I.kept (t':=tk) kk,⟨t',?_⟩,q⟩;have:its.toArray.size=is.length:=by simp;omega
  rw [this,zHk is is.length (Z1 _),List.take_length]
theorem zOb:CallR X (.builtin "sum") (fun vs H Q=>∃ (v d:Addr) (ks:List Key) (is:List Int),vs=[.ref v]∧H v=some (ViewO v d)∧Rd H d (.dK (ks.zip (is.map V.int)))∧ks.length=is.length∧X.calm=true∧Q (.int is.sum) H):=by
 intro pins s σ H vs us Q I rv h;obtain ⟨v,d,ks,is,rfl,hv,rd,hl,hc,q⟩:=h;obtain ⟨u,rfl,ru⟩:=v1 rv;cases (show u=Value.ref v from ru);obtain ⟨hz,lo,ws,kv,dd⟩:=zG5 I.hok rd;obtain ⟨o,es,ep,g,ex,hd,r⟩:=id dd;have da:s.heap.DictAt (mixKind X.prog X.w) d ws ep:=⟨o,es,g,ex,hd,r⟩;obtain ⟨vw,_,_⟩:=I.hok v _ hv;have K:=PySem.W.kdl_values (prog:=X.prog) (w:=X.w) (knd:=mixKind X.prog X.w) (r:=v) (d:=d) (kvs:=ws) (ep:=ep);have hok:(fun h:Heap=>h.IsValuesView v d∧h.DictAt (mixKind X.prog X.w) d ws ep) s.heap:=⟨vw,da⟩;have wl:ws.length=is.length:=by
  have:=kv.len;rw [List.length_zip,Z2] at this;omega
 refine call_sum_walkAnyS ?_;obtain ⟨oI,St,hit,W,st⟩:=K.iter X.A.in1 s (I.ok.hd hc) hok;refine hit _ _ ⟨s.heap.objs.size,_,_,_,ws.length,_,_,fun i=>is.getD i 0,rfl,W.toS,st,fun b hb=>?_,fun i x hx=>?_,fun s' t' hm=>?_⟩
 ·show b < (s.heap.push oI).objs.size;rw [Zz];rcases List.mem_cons.mp hb with e | hb
  ·rw [e];exact Zp _
  ·rw [List.mem_singleton.mp hb];exact Y9 (K.there _ hok).2
 ·obtain ⟨k,hk⟩:=hx;have hi:i < ws.length:=(List.getElem?_eq_some_iff.mp hk).1;obtain ⟨k',ek⟩:∃ k',ks[i]? = some k':=⟨_,Z7 (by omega)⟩;obtain ⟨z,ez⟩:∃ z,is[i]? = some z:=⟨_,Z7 (by omega)⟩;obtain ⟨w',hw,rw'⟩:=kv.get (i:=i) (k:=k') (x:=.int z) (by rw [List.getElem?_zip_eq_some];exact ⟨ek,by rw [Zo,ez];rfl⟩);rw [hk] at hw;cases hw;obtain ⟨t,e⟩:=(show ∃ t,x=Value.int z t from rw');exact ⟨t,by rw [e];simp [ez]⟩
 ·have kk:Kept s.heap s'.heap:=fun b o e=>hm.heap b o (fun hI=>absurd (Z8 e) (by rw [List.mem_singleton.mp hI];exact Zv _)) (Z0 _ e);rw [Moved.eq_with hm];refine ⟨.int is.sum,H,I.kept (t':=s'.toks) kk,⟨t',?_⟩,q⟩;rw [wl,zHk is is.length (Z1 _),List.take_length]
theorem zKr:CallR X (.builtin "sorted") (fun vs H Q=>∃ (d:Addr) (kvs:List (Key×V)) (ks:List Str),vs=[.ref d]∧Rd H d (.dK kvs)∧kvs.map (·.1)=ks.map Sum.inr∧ks.length < 64∧X.calm=true ∧
 ∀ p (ks':List Str),H p=none→ks'.Perm ks→ks'.Pairwise (fun a b=>¬ ltS b a)→Q (.ref p) (upd H p (.lst (ks'.map V.str)))):=by
 intro pins s σ H vs us Q I rv h;obtain ⟨d,kvs,ks,rfl,rd,ek,h64,hc,q⟩:=h;obtain ⟨u,rfl,ru⟩:=v1 rv;cases (show u=Value.ref d from ru);obtain ⟨hz,lo,ws,kv,dd⟩:=zG5 I.hok rd;obtain ⟨o,es,ep,g,ex,hd,r⟩:=id dd;have da:s.heap.DictAt (mixKind X.prog X.w) d ws ep:=⟨o,es,g,ex,hd,r⟩;have kl:kvs.length=ks.length:=by have:=congrArg List.length ek;rw [Z2,Z2] at this;exact this
 have wl:=kv.len;refine PySem.Calls.call_function_entry kind_sorted plain_sorted entry_sorted (args_sorted1 _) ?_;unfold Builtin.«sorted»;refine wpAny_bind (m:=checkCount "sorted" 1 1 _) (wpAny_pure ?_);refine wpAny_bind (PySem.W.kdu_collect (A:=X.A.in1) (PySem.W.kdl_dict (knd:=mixKind X.prog X.w) (kvs:=ws) (ep:=ep) lo) (I.ok.hd hc) da (by omega) fun h' tk acc hk hacc=>?_);have al:acc.toList.length=ks.length:=by rw [Zt,hacc.1];omega
 have all:∀ (j:Nat) (v:Value) (n:Str),acc.toList[j]? = some v→ks[j]? = some n→∃ t,v=Value.str n t:=fun j v n e en=>by
  obtain ⟨k,x,e2,hk'⟩:=hacc.2 j v (by rw [← Array.getElem?_toList];exact e);have hj:j < kvs.length:=by rw [kl,← al];exact (List.getElem?_eq_some_iff.mp e).1
  obtain ⟨⟨k',x'⟩,hk2⟩:∃ p,kvs[j]? = some p:=⟨_,Z7 hj⟩;obtain ⟨u',hu',_⟩:=kv.get hk2;rw [e2] at hu';cases hu';have e3:=congrArg (fun l=>l[j]?) ek;simp only [Zo,hk2,en,Option.map_some] at e3;cases Zl e3;exact (show RelV (kV (Sum.inr n)) v from zQp (k:=Sum.inr n) hk')
 have sa:Vals (ks.map V.str) acc.toList:=by
  clear hk hacc hz da dd kl kv rd q ek h64;generalize acc.toList=ys at al all
  induction ks generalizing ys with
  | nil =>
   cases ys with
   | nil=>exact .nil
   | cons a b=>cases al
  | cons p t ih =>
   cases ys with
   | nil=>cases al
   | cons a b=>exact .cons (all 0 a p rfl rfl) (ih b (by simpa using al) fun j v n e en=>all (j + 1) v n (by simpa using e) (by simpa using en))
 have hS:=zNg sa;refine wpAny_bind (wpAny_newList ?_ (by rw [al,sizeLine_eq];omega));have hoL:(h'.push (seqObj "list" acc.toList.toArray 0)).get? h'.objs.size=some (seqObj "list" acc.toList.toArray 0):=Z9 _ rfl;refine wpAny_bind (wpAny_holding (wpAny_call_entry slot_list_sort ⟨_,hoL,rfl⟩ entry_list_sort (list_sort_treeK strKind_oneLt (vs:=acc.toList) hoL hS.keysOf (fun v₁ v₂ rest e=>keyKind_strs (by rw [← e];exact hS)) (by omega) fun st' hp hs=>⟨_,rfl,?_⟩) (args_list_sort _)));obtain ⟨ss',a1,a2,a3⟩:=sorted_out_str hS hp hs;obtain ⟨e,he⟩:=sortedHeap_at (out:=(arrOf st').map (·.2)) hoL;have J:Inv X pins σ H { s with heap:=h',toks:=tk }:=I.kept (t':=tk) hk;have kk:∀ b o,h'.get? b=some o→(sortedHeap (h'.push (seqObj "list" acc.toList.toArray 0)) h'.objs.size acc.toList ((arrOf st').map (·.2))).get? b=some o:=fun b o hb=>by
  have lt:=Z8 hb;rw [sortedHeap_old (Za lt) (by rw [Zz];exact Y9 lt)];exact Z0 _ hb
 have fr:H h'.objs.size=none:=J.hok.fresh (Z1 _);refine wpAny_pure ⟨_,rfl,.ref h'.objs.size,_,J.laid (t':=tk) (a:=h'.objs.size) (o:=.lst (ss'.map V.str)) kk (Z1 _) ⟨by rw [Z2,a2.length_eq,sizeLine_eq];omega,((arrOf st').map (·.2)).toList,e,zL1 a1,by rw [Array.toArray_toList];exact he⟩,rfl,q _ ss' fr a2 (zOl ss' a3)⟩
end
end L2
namespace L2
open PySem PySem.Spec PyProof.Rows
section
variable {X:Cx}
end
namespace W
end W
end L2
namespace L2
open PySem PySem.Spec PyProof.Rows
section
variable {X:Cx}
end
namespace W
end W
end L2
namespace L2
open PySem PySem.Spec PyProof.Rows
theorem _root_.PyProof.Rows.IsTupIter.kp {h h':Heap}{it l:Addr}{k:Nat} (x:IsTupIter h it l k) (e:∀ o,h.get? it=some o→h'.get? it=some o):IsTupIter h' it l k:=by
 obtain ⟨o,q,r⟩:=x;exact ⟨o,e o q,r⟩
section
variable {P:Program}{w:World}{A:Around}{E:Value→Shared→Prop}{s:Shared}
end
section
variable {P:Program}{w:World}{A:Around}{E:Value→Shared→Prop}{s:Shared}
end
end L2
namespace L2.W
open PySem PySem.Spec PyProof.Rows
end L2.W
namespace L2
open PySem PySem.Spec PyProof.Rows
structure ClsFn (K:PySem.W.Frag) (C:Addr) (m:Str) (f:Addr):Prop where
 rd:PySem.W.readsIn K C (.type "type")=true
 at_:PySem.W.findCls K (.ref C) (.type "type") m=some (.val (.ref f))
 hd:PySem.W.handedIn (.ref f)=true
 sp:PySem.W.specialIn K (.ref C) "__getattribute__" = some (some (.builtin "type.__getattribute__"))
 kp:PySem.W.keepIn K (.ref f)=true
section
variable {X:Cx}{CX:CXT}{k:Nat}{f C:Addr}{fd:FuncData}{ps:List Str}{sp:Sp}{dvs:List V}{ds:List Value}{E:St→XK}{x m:Str}{p pos apos:Pos}{e:Expr}{es:List Expr}{t:TA}
theorem zWo {pl:Sem Bool} (hm:ClsFn X.K C m f) (F:FnOk X.prog X.w X.K X.mg X.base CX k f fd ps sp) (hr:Room k X.A) (hg:Gl X x) (hx':X.mg x=some (.ref C)) (hb:Binds X.K fd ps ds) (hd:Vals dvs ds) (hx:Passes CX X E) (ha:PA X (e :: es) t)
 (hdb:(x == ("__debug__" : Str))=false:=by decide) (hst:starEach (e :: es) X.env=(false,eval e X.env) :: starEach es X.env:=by rfl) (hpl:(backTo pos (starEach es X.env)).any (·.1)=false:=by rfl)
 (ht:eval (.Call (.Attribute (.Name x p) m apos) (e :: es) [] pos) X.env=(do
  let ov ← eval (.Name x p) X.env
  standAt apos.atName
  let (f,first) ← holding [ov] (getMethod ov m pl)
  callWith pos f first (backTo pos (starEach (e :: es) X.env)) (backToKw pos (keywordEach [] X.env))):=by rfl) :
 PE X (.Call (.Attribute (.Name x p) m apos) (e :: es) [] pos) (tCall sp dvs E t):=by
 intro pins s σ H Q I h;refine PySem.W.methodCall_KW (pl:=pl) (thn (zNj (v:=.ref C) hg hx' rfl hdb pins s σ H (fun v H1=>v=.ref C∧H1=H) I ⟨rfl,rfl⟩) fun u s1 ⟨y,H1,I1,ry,ey,eH⟩=>?_) ht;subst ey eH;obtain rfl:u=Value.ref C:=ry;refine PySem.W.method_cls I1.kIn hm.sp (PySem.W.cls_value I1.kIn hm.rd hm.at_ hm.hd ?_);have I2:=I1.tok (s1.toks + 1);refine PySem.W.callWith_K (first:=[]) (h₀:=X.base) I.ok.mod.kin hm.kp (thn (ha pos pins _ σ H1 _ I2 h) fun us s2 ⟨vs,H2,I3,r,q2⟩=>⟨I3.kIn,?_⟩) hst hpl;exact zRl F hr hb hd hx I3 r q2
theorem zX3:MtR X "str.count" (fun x xs H Q=>∃ z y,x=.str z∧xs=[.str y]∧Q (.int (Txt.count z y:Int)) H):=by
 intro pins s σ H x xs v us Q I rx rs h;obtain ⟨z,y,rfl,rfl,q⟩:=h;obtain ⟨t,rfl⟩:=rx;obtain ⟨u,rfl,ru⟩:=v1 rs;obtain ⟨t',rfl⟩:=ru;exact PySem.W.KXw.count rfl fun t1 k1=>⟨.int _,H,I.tok k1,⟨t1,rfl⟩,q⟩
end
end L2
namespace L2.W
open PySem PySem.Spec PyProof.Rows
end L2.W
namespace L2
open PySem PySem.Spec PyProof.Rows
end L2
namespace L2.W
open PySem PySem.Spec PyProof.Rows
end L2.W
namespace L2
open PySem PySem.Spec PyProof.Rows
section
variable {prog:Program}{w:World}{A:Around}{R:Result→Shared→Prop}{I:Addr}{fp wr:List Addr}{G:Array GenState→Array GenState→Prop}{n:Nat}{P:Nat→Value→Prop}{St:Nat→Shared→Prop}
end
section
variable {prog:Program}{w:World}{A:Around}{E:Value→Shared→Prop}{s:Shared}
end
section
variable {X:Cx}
end
end L2
namespace L2
open PySem PySem.Spec PyProof.Rows
section
variable {X:Cx}
end
end L2
namespace L2
open PySem PySem.Spec PyProof.Rows
section
variable {X:Cx}{e:Expr}{es:List Expr}{te:TE}{t:TA}
end
end L2
namespace L2.W
open PySem PySem.Spec PyProof.Rows
end L2.W
namespace L2
open PySem PySem.Spec PyProof.Rows
section
variable {X:Cx}{CX:CXT}{k:Nat}{fw c P:Addr}{fd:FuncData}{q x y:Str}{params:Arguments}{body:Expr}{scope:Scope}{N:List Str}{ix:List Nat}{sp:Addr→Addr→List (Str×Addr)→List V→Sp}{E:St→XK}{p lpos pos:Pos}
end
namespace W
end W
end L2
namespace L2
open PySem PySem.Spec PyProof.Rows
section
variable {X:Cx}{x n:Str}{np hpos pos:Pos}{body suite:List Stmt}{b₀ : Stmt}{i:Nat}{B:Addr}{tb:TW→TS}{th:Addr→TS}
theorem yA0 (hx:X.ex=[]) (hs:X.stack=X.env :: X.outer) (hf:X.env.frame=some X.env.locals) (hg:Gl X x) (hm:X.mg x=some (.ref B))
 (hb:∀ pins W,PSs (X.tri pins W) body (tb W)) (hh:∀ e,PSs (X.hnd e) (b₀ :: suite) (th e)) (hdb:(x == ("__debug__" : Str))=false:=by decide) :
 PS X (.Try body [.ExceptHandler (some (.Name x np)) none (b₀ :: suite) hpos] [] [] pos) (fun D σ H=>∃ W:TW,tb W D σ H∧∀ σ' e C H',H' e=some (XO C e)→W σ' e C H'→PySem.W.exmOne X.K (.ref C) (.ref B)=some true∧th e D σ' H'):=by
 intro pins s σ H D I ⟨W,hbW,hW⟩;refine wpAny_Try_except (wpAny_mono (hb pins W [] s σ H D I.tri hbW) (fun f s1 h1=>?_) (fun u s1 h1=>?_))
 ·have h1:=h1.untri;cases f with
  | next =>
   obtain ⟨σ',H',I',q⟩:=h1;exact zTx pins s1 σ' H' D I' q
  | brk=>exact h1
  | cont=>exact h1
  | ret u=>exact h1
 ·obtain ⟨e,C,σ',H',rfl,I',he,tr,w⟩:=h1;obtain ⟨oe,vs,a0,T0,oT,ts,h1,h2,h3,h4,⟨g1,g2⟩,nT,h5,h6,h7⟩:=tr;obtain ⟨hK,hT⟩:=hW σ' e C H' he w;have hfr:X.A.frames=some (X.env :: X.outer):=by rw [← hs];exact I.ok.frames
  have hl':s1.heap.FunFrames X.base (X.env :: X.outer):=by rw [← hs];exact I'.stack
  obtain ⟨ox,vx,hox,hcx,hdx⟩:=zZj I'.hok he;rw [h1] at hox;cases hox;have hne:T0≠e:=fun z=>by rw [z,he] at nT;cases nT
  have F:=zZ4 hl' h1 h2 h3 h4 hne h5 h6 h7;rw [hcx] at F;have mv:∀ {h':Heap}{t':Nat},Heap.FlyingW (bas s1.heap (X.env :: X.outer) e T0) (X.env :: X.outer) e (.ref C) a0 h'→s1.heap.UpToSlots h'→P2 e h'→Inv X pins σ' H' { s1 with heap:=h',toks:=t' }:=fun {h'}{t'} F up p2=>by
   have m:=L2.moved (fl:=.none) hl' F.1 F.2.2.1 F.2.2.2 up p2;rw [← hs] at m;exact I'.moved he nT g1 g2 h5 h6 m
  refine zI3 (.note _ _) (zZi I'.hok he) (wpAny_looks_onW hfr hf F fun h₄ H4 up4 p4=>?_);refine zI3 (.flt _ _) p4 (wpAny_landsW H4 fun h₅ F5 up5 p5=>?_);have I5:=mv (t':=s1.toks) F5 (up4.trans up5) p5;have I5h:=I5.hnd (e:=e);refine wpAny_handleBy_cons (codeAny_handlers_test (zLv I5h hg hm ?_ hdb)) (by intro q;cases q);obtain ⟨o5,ho5,hc5⟩:=F5.there;have LT:PySem.W.Looks (model X.prog X.w) h₅ (typeOf (.ref e)) (.ref C):=by
   rw [← hc5];exact (PySem.W.Looks.ld ho5).andThen .now
  refine PySem.W.exm_one I5.kIn LT hK _ _ _ _ (fun _ _ q=>q) ?_;refine codeAny_handlers_suite ?_;refine zI3 (.flt _ _) p5 (lands_againW F5 fun h₆ F6 up6 p6=>?_);have I6:=(mv (t':=s1.toks) F6 ((up4.trans up5).trans up6) p6).hnd (e:=e);refine wpAny_mono (hh e pins _ _ H' D I6 hT) (fun f s8 h8=>?_) (fun _ _ z=>False.elim z);cases f with
  | next=>obtain ⟨σ8,H8,J,q⟩:=h8;exact ⟨_,_,J.unhnd I.ok,q⟩
  | brk=>obtain ⟨σ8,H8,J,q⟩:=h8;exact ⟨_,_,J.unhnd I.ok,q⟩
  | cont=>obtain ⟨σ8,H8,J,q⟩:=h8;exact ⟨_,_,J.unhnd I.ok,q⟩
  | ret u=>obtain ⟨v,σ8,H8,J,r,q⟩:=h8;exact ⟨v,_,_,J.unhnd I.ok,r,q⟩
end
section
variable {X:Cx}
end
namespace W
end W
end L2
namespace L2
open PySem PySem.Spec PyProof.Rows
namespace W
end W
end L2
namespace L2
open PySem PySem.Spec PyProof.Rows
section
variable {P:Program}{w:World}{A:Around}{E:Value→Shared→Prop}{s:Shared}{r:Addr}{n:Nat}
end
section
variable {X:Cx}{pins:List (Addr×Obj)}{σ : St}{H:Hp}{s:Shared}{r f:Addr}{n:Nat}{Q:VK}
end
end L2
namespace L2
open PySem PySem.Spec PyProof.Rows
section
variable {X:Cx}{pins:List (Addr×Obj)}{σ : St}{H:Hp}{s:Shared}{A:Around}{E:Value→Shared→Prop}
end
section
variable {CX:CXT}{P:Program}{w:World}{K:PySem.W.Frag}{mg:Str→Option Value}{base:Heap}{k:Nat}{f c':Addr}{q x:Str}{params:Arguments}{body:Expr}{scope:Scope}{cl:List (Str×Addr)}{N:List Str}{ws:List V}
end
section
variable {X:Cx}{CX:CXT}{k:Nat}{c P:Addr}{q:Str}{params:Arguments}{body:Expr}{scope:Scope}{N:List Str}{ix:List Nat}{sp:Addr→Addr→List (Str×Addr)→List V→V→Hp→VK→XK→Prop}{e:Expr}{ta:TA}{p lpos kpos pos:Pos}
end
namespace W
end W
end L2
namespace L2
open PySem PySem.Spec PyProof.Rows PySem.W
section
variable {prog:Program}{w:World}{A:Around}{E:Value→Shared→Prop}{s:Shared}
end
section
variable {X:Cx}
end
end L2
namespace L2
open PySem PySem.Spec PyProof.Rows
section
variable {prog:Program}{w:World}{A:Around}{E:Value→Shared→Prop}{s:Shared}{it e:Addr}
end
section
variable {X:Cx}{elt tg a:Expr}{ifs:List Expr}{sc:Scope}{p rp pos:Pos}{cl:List (Str×Addr)}{T:List Str}{ta:TA}{g:TG}{tt:TT}{te:TE}{e:Addr}
end
namespace W
end W
end L2
namespace L2
open PySem PySem.Spec PyProof.Rows
section
variable {X:Cx}{y n:Str}{i:Nat}
end
end L2
namespace L2.W
open PySem PySem.Spec PyProof.Rows
end L2.W
namespace L2
open PySem PySem.Spec PyProof.Rows
structure Disp (P:Program) (w:World) (K:PySem.W.Frag) (mg:Str→Option Value) (base:Heap) (CX:CXT) (k:Nat) (m:Str) (ps:List Str) (sp:Sp) (C:Addr):Prop where
 ex:∃ f fd,Cls K C∧Meth K C m f∧FnOk P w K mg base CX k f fd ps sp∧Binds K fd ps []
def tMethD (D:Addr→Prop) (m:Str) (sp:Addr→Sp) (E:St→XK) (ta:TE) (t:TA):TE:=fun σ H Q=>ta σ H fun x H1=>∃ a C dx fs,x=.ref a∧H1 a=some (.ins C dx fs)∧D C∧fs.lookup m=none∧t σ H1 fun vs H2=>sp C (x :: vs) H2 Q (E σ)
section
variable {X:Cx}{CX:CXT}{k:Nat}{ps:List Str}{sp:Addr→Sp}{E:St→XK}{m:Str}{pos apos:Pos}{e o:Expr}{es:List Expr}{ta:TE}{t:TA}{D:Addr→Prop}
theorem zWi {pl:Sem Bool} (he:PE X o ta) (F:∀ C,D C→Disp X.prog X.w X.K X.mg X.base CX k m ps (sp C) C) (hr:Room k X.A) (hx:Passes CX X E) (ha:PA X (e :: es) t)
 (hst:starEach (e :: es) X.env=(false,eval e X.env) :: starEach es X.env:=by rfl) (hpl:(backTo pos (starEach es X.env)).any (·.1)=false:=by rfl)
 (ht:eval (.Call (.Attribute o m apos) (e :: es) [] pos) X.env=(do
  let ov ← eval o X.env
  standAt apos.atName
  let (f,first) ← holding [ov] (getMethod ov m pl)
  callWith pos f first (backTo pos (starEach (e :: es) X.env)) (backToKw pos (keywordEach [] X.env))):=by rfl):PE X (.Call (.Attribute o m apos) (e :: es) [] pos) (tMethD D m sp E ta t):=by
 intro pins s σ H Q I h;refine PySem.W.methodCall_KW (pl:=pl) (thn (he pins s σ H _ I h) fun u s1 ⟨x,H1,I1,rx,a,C,dx,fs,ex,ea,hD,l,q⟩=>?_) ht;obtain ⟨⟨f,fd,c,hm,G,hb⟩⟩:=F C hD;subst ex;obtain rfl:u=Value.ref a:=rx;refine zMz I1 ea c hm l ?_;refine PySem.W.callWith_K (first:=[.ref a]) (h₀:=X.base) I.ok.mod.kin hm.kp (thn (ha pos pins s1 σ H1 _ I1 q) fun us s2 ⟨vs,H2,I2,r,q2⟩=>⟨I2.kIn,?_⟩) hst hpl;exact zRl (us:=.ref a :: us) (vs:=.ref a :: vs) (dvs:=[]) G hr hb .nil hx I2 (.cons rfl r) (by rw [List.append_nil];exact q2)
end
namespace W
end W
end L2
namespace L2
open PySem PySem.Spec PyProof.Rows
section
variable {P:Program}{w:World}{A:Around}{E:Value→Shared→Prop}{s:Shared}
end
section
variable {P:Program}{w:World}{A:Around}{E:Value→Shared→Prop}{s:Shared}
end
end L2
namespace L2.W
open PySem PySem.Spec PyProof.Rows
end L2.W
namespace L2
open PySem PySem.Spec PyProof.Rows
end L2
namespace L2
open PySem PySem.Spec PyProof.Rows
end L2
namespace L2.W
open PySem PySem.Spec PyProof.Rows
section
variable {X:Cx}{st:Stmt}{rest:List Stmt}{s:TS}{F:TS→Prop}
end
end L2.W
namespace L2
open PySem PySem.Spec PyProof.Rows
end L2
namespace L2
open PySem PySem.Spec PyProof.Rows
def e2 (p:Addr) (b1 b2:Bool):Value→Bool
 | .ref a=>if a=p then b1 else b2
 | _=>b2
end L2
namespace L2
open PySem PySem.Spec PyProof.Rows
theorem zU2 {X:Cx}{CX:CXT}{k:Nat}{ps:List Str}{sp:Addr→Sp}{E:St→XK}{m:Str}{pos apos:Pos}{o:Expr}{ta:TE}{D:Addr→Prop}{pl:Sem Bool} (he:PE X o ta) (F:∀ C,D C→Disp X.prog X.w X.K X.mg X.base CX k m ps (sp C) C) (hr:Room k X.A) (hx:Passes CX X E)
 (ht:eval (.Call (.Attribute o m apos) [] [] pos) X.env=(do
  let ov ← eval o X.env
  standAt apos.atName
  let (f,first) ← holding [ov] (getMethod ov m pl)
  callWith pos f first (backTo pos (starEach [] X.env)) (backToKw pos (keywordEach [] X.env))):=by rfl):PE X (.Call (.Attribute o m apos) [] [] pos) (tMethD D m sp E ta tNil):=by
 intro pins s σ H Q I h;refine PySem.W.methodCall_KW (pl:=pl) (thn (he pins s σ H _ I h) fun u s1 ⟨x,H1,I1,rx,a,C,dx,fs,ex,ea,hD,l,q⟩=>?_) ht;obtain ⟨⟨f,fd,c,hm,G,hb⟩⟩:=F C hD;subst ex;obtain rfl:u=Value.ref a:=rx;refine zMz I1 ea c hm l ?_;exact PySem.W.callWith_K0 (first:=[.ref a]) I1.kIn hm.kp (zRl (us:=[.ref a]) (vs:=[.ref a]) (dvs:=[]) G hr hb .nil hx I1 (.cons rfl .nil) (by rw [List.append_nil];exact q))
theorem zMj {X:Cx}:CallR X (.type "dict") (fun xs H Q=>∃ a kvs,xs=[.ref a]∧Rd H a (.dK kvs)∧∀ p,H p=none→Q (.ref p) (upd H p (.dK kvs))):=by
 intro pins s σ H xs us Q I r h;obtain ⟨a,kvs,rfl,e,q⟩:=h;obtain ⟨u,rfl,ru⟩:=r.one;cases (show u=Value.ref a from ru);exact zXv I e fun p s' hp I'=>⟨.ref p,_,I',rfl,q p hp⟩
end L2
namespace L2.W
open PySem PySem.Spec PyProof.Rows
end L2.W
namespace L2
open PySem PySem.Spec PyProof.Rows
theorem un1 {q:Bool}{k:Nat}{A:Around} (r:RoomQ q k A):A.in1.units + 64 < cLine:=by
 have:=r.un;show A.units + 1 + 64 < cLine;omega
end L2
namespace L2.F
open PySem PySem.Spec PyProof.Rows L2
inductive D where
 | non | bl (b:Bool) | int (i:Int) | str (x:Str) | tup (xs:List D) | lst (xs:List D) | frl (xs:List D) | dct (es:List (Key×D)) | obj (c:Str) (fs:List (Str×D))
inductive U where
 | d (x:D) | loc (n:Nat)
inductive Cell where
 | lst (xs:List U) | dct (es:List (Key×U)) | ins (c:Str) (fs:List (Str×U)) | dead
abbrev Ev:=List (Option U)
abbrev Sto:=List Cell
inductive Out (α : Type) where
 | ok (a : α) (S:Sto) | ex (c:Str) (S:Sto) | st
def Out.bind {α β : Type} (o:Out α) (k : α→Sto→Out β):Out β:=match o with
 | .ok a S=>k a S
 | .ex c S=>.ex c S
 | .st=>.st
inductive Fl where
 | nx (e:Ev) (S:Sto) | rt (d:U) (S:Sto) | bk (e:Ev) (S:Sto) | ct (e:Ev) (S:Sto) | ex (c:Str) (e:Ev) (S:Sto) | st
abbrev FE:=Ev→Sto→Out U
abbrev FT:=Ev→Sto→Out Bool
abbrev FAr:=Ev→Sto→Out (List U)
abbrev FS:=Ev→Sto→Fl
abbrev Fn:=List U→Sto→Out U
def LM:Nat:=1000000
def TxtOk (x:Str):Prop:=x.length≤100000∧PyData.strOk x=true
structure Wo where
 G:Addr→Prop
 μ : List Addr
 H:Hp
structure Cl where
 at_:Str→Addr
 tabs:List (Addr×Pos×Str)
instance:CoeFun Cl fun _=>Str→Addr:=⟨Cl.at_⟩
def plB:HO→Bool
 | .tbl _=>false
 | .ext _=>false
 | _=>true
def notTb:HO→Bool
 | .tbl _=>false
 | _=>true
theorem zMt {o:HO} (h:plB o=true):notTb o=true:=by cases o <;> first | rfl | cases h
theorem zZp {o:HO} (h:notTb o=true):∀ ps,o≠.tbl ps:=fun ps e=>by subst e;cases h
theorem pl_ne {o:HO} (h:plB o=true):∀ f,o≠.ext f:=fun ps e=>by subst e;cases h
mutual
inductive Rp (cl:Cl) (W:Wo):V→D→Prop where
 | non:Rp cl W .non .non
 | bl (b:Bool):Rp cl W (.bl b) (.bl b)
 | int (i:Int):Rp cl W (.int i) (.int i)
 | str (x:Str) (h:TxtOk x):Rp cl W (.str x) (.str x)
 | tup {a:Addr}{vs:List V}{ds:List D}:W.G a→W.H a=some (.tup vs)→vs.length≤LM→RpAll cl W vs ds→Rp cl W (.ref a) (.tup ds)
 | lst {a:Addr}{vs:List V}{ds:List D}:W.G a→W.H a=some (.lst vs)→vs.length≤LM→RpAll cl W vs ds→Rp cl W (.ref a) (.lst ds)
 | frl {a:Addr}{o:Obj}{vs:List V}{ds:List D}:W.G a→W.H a=some (.frz o (.lst vs))→vs.length≤LM→RpAll cl W vs ds→Rp cl W (.ref a) (.frl ds)
 | dct {a:Addr}{vs:List (Key×V)}{ds:List (Key×D)}:W.G a→Rd W.H a (.dK vs)→vs.length≤LM→RpK cl W vs ds→Rp cl W (.ref a) (.dct ds)
 | obj {a dx:Addr}{c:Str}{fs:List (Str×V)}{gs:List (Str×D)}:W.G a→W.H a=some (.ins (cl c) dx fs)→RpF cl W fs gs→Rp cl W (.ref a) (.obj c gs)
inductive RpAll (cl:Cl) (W:Wo):List V→List D→Prop where
 | nil:RpAll cl W [] []
 | cons {v:V}{d:D}{vs:List V}{ds:List D}:Rp cl W v d→RpAll cl W vs ds→RpAll cl W (v :: vs) (d :: ds)
inductive RpK (cl:Cl) (W:Wo):List (Key×V)→List (Key×D)→Prop where
 | nil:RpK cl W [] []
 | cons {k:Key}{v:V}{d:D}{vs:List (Key×V)}{ds:List (Key×D)}:Rp cl W v d→RpK cl W vs ds→RpK cl W ((k,v) :: vs) ((k,d) :: ds)
inductive RpF (cl:Cl) (W:Wo):List (Str×V)→List (Str×D)→Prop where
 | nil:RpF cl W [] []
 | cons {k:Str}{v:V}{d:D}{vs:List (Str×V)}{ds:List (Str×D)}:Rp cl W v d→RpF cl W vs ds→RpF cl W ((k,v) :: vs) ((k,d) :: ds)
end
def ndB:HO→Bool
 | .dK _=>false
 | _=>true
structure Ext (W W':Wo):Prop where
 g:∀ a,W.G a→W'.G a
 k:∀ a u,W.G a→ndB u=true→W.H a=some u→W'.H a=some u
 kd:∀ a kvs,W.G a→Rd W.H a (.dK kvs)→Rd W'.H a (.dK kvs)
 m:∃ ν,W'.μ = W.μ++ν
 f:∀ a o,W.H a=some o→notTb o=true→¬ W.G a→a∉W.μ→W'.H a=some o
 n:∀ a,a∈W'.μ→a∉W.μ→W.H a=none
 ng:∀ a,W'.G a→W.G a∨W.H a=none∨a∈W.μ
 d:∀ a o,W.H a=some o→∃ o',W'.H a=some o'∧(plB o=true→plB o'=true)
theorem Ext.refl (W:Wo):Ext W W:=⟨fun _ h=>h,fun _ _ _ _ h=>h,fun _ _ _ h=>h,⟨[],(List.append_nil _).symm⟩,fun _ _ h _ _ _=>h,fun _ h n=>absurd h n,fun _ h=>.inl h,fun _ o h=>⟨o,h,id⟩⟩
theorem Ext.free {W W':Wo} (e:Ext W W') {a:Addr} (h:W'.H a=none):W.H a=none:=by
 cases q:W.H a with
 | none=>rfl
 | some o =>
  obtain ⟨o',z,_⟩:=e.d a o q;rw [h] at z;cases z
theorem Ext.trans {W W1 W2:Wo} (a:Ext W W1) (b:Ext W1 W2):Ext W W2:=by
 refine ⟨fun x h=>b.g x (a.g x h),fun x u g n h=>b.k x u (a.g x g) n (a.k x u g n h),fun x kvs g h=>b.kd x kvs (a.g x g) (a.kd x kvs g h),?_,fun x o h nt n1 n2=>?_,fun x h n=>?_,fun x h=>?_,fun x o h=>?_⟩
 ·obtain ⟨u,e⟩:=a.m;obtain ⟨v,e'⟩:=b.m;exact ⟨u++v,by rw [e',e,List.append_assoc]⟩
 ·refine b.f x o (a.f x o h nt n1 n2) nt (fun g=>?_) (fun hm=>?_)
  ·rcases a.ng x g with z | z | z
   ·exact n1 z
   ·rw [h] at z;cases z
   ·exact n2 z
  ·have:=a.n x hm n2;rw [h] at this;cases this
 ·by_cases hm:x∈W1.μ
  ·exact a.n x hm n
  ·exact a.free (b.n x h hm)
 ·rcases b.ng x h with z | z | z
  ·exact a.ng x z
  ·exact .inr (.inl (a.free z))
  ·by_cases hm:x∈W.μ
   ·exact .inr (.inr hm)
   ·exact .inr (.inl (a.n x z hm))
 ·obtain ⟨o',h',p⟩:=a.d x o h;obtain ⟨o2,h2,p2⟩:=b.d x o' h';exact ⟨o2,h2,fun z=>p2 (p z)⟩
mutual
theorem Rp.mono {cl:Cl}{W W':Wo} (e:Ext W W'):∀ {v:V}{d:D},Rp cl W v d→Rp cl W' v d
 | _,_,.non=>.non
 | _,_,.bl b=>.bl b
 | _,_,.int i=>.int i
 | _,_,.str x h=>.str x h
 | _,_,.tup g h l r=>.tup (e.g _ g) (e.k _ _ g rfl h) l (RpAll.mono e r)
 | _,_,.lst g h l r=>.lst (e.g _ g) (e.k _ _ g rfl h) l (RpAll.mono e r)
 | _,_,.frl g h l r=>.frl (e.g _ g) (e.k _ _ g rfl h) l (RpAll.mono e r)
 | _,_,.dct g h l r=>.dct (e.g _ g) (e.kd _ _ g h) l (RpK.mono e r)
 | _,_,.obj g h r=>.obj (e.g _ g) (e.k _ _ g rfl h) (RpF.mono e r)
theorem RpAll.mono {cl:Cl}{W W':Wo} (e:Ext W W'):∀ {vs:List V}{ds:List D},RpAll cl W vs ds→RpAll cl W' vs ds
 | _,_,.nil=>.nil
 | _,_,.cons r t=>.cons (Rp.mono e r) (RpAll.mono e t)
theorem RpK.mono {cl:Cl}{W W':Wo} (e:Ext W W'):∀ {vs:List (Key×V)}{ds:List (Key×D)},RpK cl W vs ds→RpK cl W' vs ds
 | _,_,.nil=>.nil
 | _,_,.cons r t=>.cons (Rp.mono e r) (RpK.mono e t)
theorem RpF.mono {cl:Cl}{W W':Wo} (e:Ext W W'):∀ {vs:List (Str×V)}{ds:List (Str×D)},RpF cl W vs ds→RpF cl W' vs ds
 | _,_,.nil=>.nil
 | _,_,.cons r t=>.cons (Rp.mono e r) (RpF.mono e t)
end
inductive RU (cl:Cl) (W:Wo):V→U→Prop where
 | d {v:V}{x:D}:Rp cl W v x→RU cl W v (.d x)
 | loc {n:Nat}{a:Addr}:W.μ[n]? = some a→RU cl W (.ref a) (.loc n)
inductive RUs (cl:Cl) (W:Wo):List V→List U→Prop where
 | nil:RUs cl W [] []
 | cons {v:V}{d:U}{vs:List V}{ds:List U}:RU cl W v d→RUs cl W vs ds→RUs cl W (v :: vs) (d :: ds)
inductive RUK (cl:Cl) (W:Wo) {κ : Type}:List (κ×V)→List (κ×U)→Prop where
 | nil:RUK cl W [] []
 | cons {k : κ}{v:V}{d:U}{vs:List (κ×V)}{ds:List (κ×U)}:RU cl W v d→RUK cl W vs ds→RUK cl W ((k,v) :: vs) ((k,d) :: ds)
theorem RU.mono {cl:Cl}{W W':Wo} (e:Ext W W') {v:V}{u:U} (r:RU cl W v u):RU cl W' v u:=by
 cases r with
 | d r=>exact .d (r.mono e)
 | loc h =>
  refine .loc ?_;obtain ⟨ν,z⟩:=e.m;rw [z,Ze (List.getElem?_eq_some_iff.mp h).1];exact h
theorem RUs.mono {cl:Cl}{W W':Wo} (e:Ext W W'):∀ {vs:List V}{ds:List U},RUs cl W vs ds→RUs cl W' vs ds
 | _,_,.nil=>.nil
 | _,_,.cons r t=>.cons (r.mono e) (RUs.mono e t)
theorem RUK.mono {cl:Cl}{κ : Type}{W W':Wo} (e:Ext W W'):∀ {vs:List (κ×V)}{ds:List (κ×U)},RUK cl W vs ds→RUK cl W' vs ds
 | _,_,.nil=>.nil
 | _,_,.cons r t=>.cons (r.mono e) (RUK.mono e t)
def CellOk (cl:Cl) (W:Wo) (a:Addr):Cell→Prop
 | .lst ds=>¬ W.G a∧∃ vs,W.H a=some (.lst vs)∧vs.length≤LM∧RUs cl W vs ds
 | .dct ds=>¬ W.G a∧∃ vs,W.H a=some (.dK vs)∧vs.length≤LM∧RUK cl W vs ds
 | .ins c gs=>¬ W.G a∧∃ dx fs,W.H a=some (.ins (cl c) dx fs)∧RUK cl W fs gs
 | .dead=>∃ o,W.H a=some o∧plB o=true
structure WR (cl:Cl) (W:Wo) (S:Sto):Prop where
 len:W.μ.length=S.length
 nd:W.μ.Nodup
 gd:∀ a,W.G a→∃ o,W.H a=some o∧plB o=true
 cell:∀ (n:Nat) (c:Cell) (a:Addr),S[n]? = some c→W.μ[n]? = some a→CellOk cl W a c
 tb:∀ t∈cl.tabs,TabOk W.H t.1 t.2.1 t.2.2
section
variable {cl:Cl}{W W':Wo}{S:Sto}{a:Addr}{o:HO}
theorem CellOk.ex {c:Cell} (h:CellOk cl W a c):∃ o,W.H a=some o∧plB o=true:=by
 cases c with
 | lst ds=>obtain ⟨_,vs,e,_⟩:=h;exact ⟨_,e,rfl⟩
 | dct ds=>obtain ⟨_,vs,e,_⟩:=h;exact ⟨_,e,rfl⟩
 | ins c gs=>obtain ⟨_,dx,fs,e,_⟩:=h;exact ⟨_,e,rfl⟩
 | dead=>exact h
theorem WR.mem (w:WR cl W S) (h:a∈W.μ):∃ (n:Nat) (c:Cell),S[n]? = some c∧W.μ[n]? = some a:=by
 obtain ⟨n,hn,e⟩:=List.getElem_of_mem h;have hs:n < S.length:=by rw [← w.len];exact hn
 exact ⟨n,S[n],Z7 hs,by rw [Z7 hn,e]⟩
theorem WR.ex (w:WR cl W S) (h:a∈W.μ):∃ o,W.H a=some o∧plB o=true:=by
 obtain ⟨n,c,e1,e2⟩:=w.mem h;exact (w.cell n c a e1 e2).ex
theorem CellOk.keep {c:Cell} (h:CellOk cl W a c) (e:Ext W W') (hg:W'.G a→W.G a) (hh:W'.H a=W.H a):CellOk cl W' a c:=by
 cases c with
 | lst ds=>obtain ⟨g,vs,h1,h2,h3⟩:=h;exact ⟨fun z=>g (hg z),vs,by rw [hh];exact h1,h2,h3.mono e⟩
 | dct ds=>obtain ⟨g,vs,h1,h2,h3⟩:=h;exact ⟨fun z=>g (hg z),vs,by rw [hh];exact h1,h2,h3.mono e⟩
 | ins c gs=>obtain ⟨g,dx,fs,h1,h2⟩:=h;exact ⟨fun z=>g (hg z),dx,fs,by rw [hh];exact h1,h2.mono e⟩
 | dead=>obtain ⟨o,h,p⟩:=h;exact ⟨o,by rw [hh];exact h,p⟩
def Wo.add (W:Wo) (a:Addr) (o:HO):Wo:=⟨fun b=>W.G b∨b=a,W.μ,upd W.H a o⟩
theorem Ext.add (h:W.H a=none):Ext W (W.add a o):=by
 have ne:∀ b u,W.H b=some u→(upd W.H a o) b=some u:=fun b u e=>by rw [zAa (zA7 e h)];exact e
 refine ⟨fun _ g=>.inl g,fun b u _ _ e=>ne b u e,fun b kvs _ r=>?_,⟨[],(List.append_nil _).symm⟩,fun b u e _ _ _=>ne b u e,fun b hb n=>absurd hb n,fun b g=>?_,fun b u e=>⟨u,ne b u e,id⟩⟩
 ·rcases r with r | ⟨x,r⟩
  ·exact .inl (ne _ _ r)
  ·exact .inr ⟨x,ne _ _ r⟩
 ·rcases g with g | rfl
  ·exact .inl g
  ·exact .inr (.inl h)
theorem WR.add (w:WR cl W S) (h:W.H a=none) (hp:plB o=true:=by rfl):WR cl (W.add a o) S:=by
 have e:Ext W (W.add a o):=Ext.add h;refine ⟨w.len,w.nd,fun b g=>?_,fun n c b e1 e2=>?_,fun t ht=>(w.tb t ht).stay fun b u z=>by show upd W.H a o b=some u;rw [zAa (zA7 z h)];exact z⟩
 ·rcases g with g | rfl
  ·obtain ⟨u,z,p⟩:=w.gd b g;obtain ⟨u',z',p'⟩:=e.d b u z;exact ⟨u',z',p' p⟩
  ·exact ⟨o,zAc,hp⟩
 ·have ok:=w.cell n c b e1 e2;obtain ⟨u,hu,_⟩:=ok.ex;have nb:b≠a:=zA7 hu h;exact ok.keep e (fun z=>z.resolve_right nb) (by show upd W.H a o b=W.H b;rw [zAa nb])
def Wo.new (W:Wo) (a:Addr) (o:HO):Wo:=⟨W.G,W.μ++[a],upd W.H a o⟩
theorem Ext.new (h:W.H a=none):Ext W (W.new a o):=by
 have ne:∀ b u,W.H b=some u→(upd W.H a o) b=some u:=fun b u e=>by rw [zAa (zA7 e h)];exact e
 refine ⟨fun _ g=>g,fun b u _ _ e=>ne b u e,fun b kvs _ r=>?_,⟨[a],rfl⟩,fun b u e _ _ _=>ne b u e,fun b hb n=>?_,fun b g=>.inl g,fun b u e=>⟨u,ne b u e,id⟩⟩
 ·rcases r with r | ⟨x,r⟩
  ·exact .inl (ne _ _ r)
  ·exact .inr ⟨x,ne _ _ r⟩
 ·rcases List.mem_append.mp hb with z | z
  ·exact absurd z n
  ·rw [List.mem_singleton.mp z];exact h
theorem WR.new {c:Cell} (w:WR cl W S) (h:W.H a=none) (ok:CellOk cl (W.new a o) a c):WR cl (W.new a o) (S++[c]):=by
 have e:Ext W (W.new a o):=Ext.new h;have na:a∉W.μ:=fun z=>by obtain ⟨u,q,_⟩:=w.ex z;rw [h] at q;cases q
 refine ⟨by show (W.μ++[a]).length=_;simp [w.len],?_,fun b g=>?_,fun n c' b e1 e2=>?_,fun t ht=>(w.tb t ht).stay fun b u z=>by show upd W.H a o b=some u;rw [zAa (zA7 z h)];exact z⟩
 ·show (W.μ++[a]).Nodup;rw [List.nodup_append];exact ⟨w.nd,by simp,fun x hx y hy=>by rw [List.mem_singleton.mp hy];exact fun z=>na (z ▸ hx)⟩
 ·obtain ⟨u,z,p⟩:=w.gd b g;obtain ⟨u',z',p'⟩:=e.d b u z;exact ⟨u',z',p' p⟩
 ·have e2:(W.μ++[a])[n]? = some b:=e2;by_cases hn:n < S.length
  ·rw [Ze hn] at e1;rw [Ze (by rw [w.len];exact hn)] at e2;have ok':=w.cell n c' b e1 e2;obtain ⟨u,hu,_⟩:=ok'.ex;have nb:b≠a:=zA7 hu h;exact ok'.keep e (fun z=>z) (by show upd W.H a o b=W.H b;rw [zAa nb])
  ·have hn':n=S.length:=by
    have:=(List.getElem?_eq_some_iff.mp e1).1;simp at this;omega
   subst hn';rw [Zg (Z1 _)] at e1;rw [Zg (by rw [w.len];exact Z1 _),w.len] at e2;simp at e1 e2;subst e1 e2;exact ok
def Wo.put (W:Wo) (a:Addr) (o:HO):Wo:=⟨W.G,W.μ,upd W.H a o⟩
theorem Ext.put (hm:a∈W.μ) (hg:¬ W.G a) (hx:∃ u,W.H a=some u∧plB u=true) (hp:plB o=true:=by rfl):Ext W (W.put a o):=by
 have ne:∀ b u,W.G b→W.H b=some u→(upd W.H a o) b=some u:=fun b u g e=>by rw [zAa (fun z=>by rw [z] at g;exact hg g)];exact e
 refine ⟨fun _ g=>g,fun b u g _ e=>ne b u g e,fun b kvs g r=>?_,⟨[],(List.append_nil _).symm⟩,fun b u e _ _ n=>?_,fun b hb n=>absurd hb n,fun b g=>.inl g,fun b u e=>?_⟩
 ·rcases r with r | ⟨x,r⟩
  ·exact .inl (ne _ _ g r)
  ·exact .inr ⟨x,ne _ _ g r⟩
 ·show upd W.H a o b=some u;rw [zAa (fun z=>by rw [z] at n;exact n hm)];exact e
 ·by_cases hb:b=a
  ·exact ⟨o,by rw [hb];exact zAc,fun _=>hp⟩
  ·exact ⟨u,by show upd W.H a o b=some u;rw [zAa hb];exact e,id⟩
theorem WR.put {n:Nat}{c:Cell} (w:WR cl W S) (hn:W.μ[n]? = some a) (hg:¬ W.G a) (ok:CellOk cl (W.put a o) a c) (hp:plB o=true:=by rfl):WR cl (W.put a o) (S.set n c):=by
 have hm:a∈W.μ:=Zh hn;have e:Ext W (W.put a o):=Ext.put hm hg (w.ex hm) hp
 refine ⟨by rw [List.length_set];exact w.len,w.nd,fun b g=>?_,fun j c' b e1 e2=>?_,fun t ht=>by
  obtain ⟨u,hu,pu⟩:=w.ex hm
  exact (w.tb t ht).but hu (zZp (zMt pu)) (pl_ne pu) fun b v z nb=>by show upd W.H a o b=some v;rw [zAa nb];exact z⟩
 ·obtain ⟨u,z,p⟩:=w.gd b g;obtain ⟨u',z',p'⟩:=e.d b u z;exact ⟨u',z',p' p⟩
 ·have e2:W.μ[j]? = some b:=e2;by_cases hj:j=n
  ·subst hj;rw [hn] at e2;cases e2;have hl:j < S.length:=by rw [← w.len];exact (List.getElem?_eq_some_iff.mp hn).1
   rw [List.getElem?_set_self hl] at e1;cases e1;exact ok
  ·rw [Y3 (Ne.symm hj)] at e1;have ok':=w.cell j c' b e1 e2;have nb:b≠a:=fun z=>by
    subst z;obtain ⟨h1,q1⟩:=List.getElem?_eq_some_iff.mp e2;obtain ⟨h2,q2⟩:=List.getElem?_eq_some_iff.mp hn;exact hj ((List.getElem_inj w.nd).mp (q1.trans q2.symm))
   exact ok'.keep e (fun z=>z) (by show upd W.H a o b=W.H b;rw [zAa nb])
theorem Ext.frz {x:Obj}{kvs:List (Key×V)} (hg:W.G a) (r:W.H a=some (.dK kvs)):Ext W (W.put a (.frz x (.dK kvs))):=by
 have nb:∀ b u,ndB u=true→W.H b=some u→b≠a:=fun b u n e z=>by
  subst z;rw [r] at e;cases e;cases n
 refine ⟨fun _ g=>g,fun b u g n e=>?_,fun b ks g q=>?_,⟨[],(List.append_nil _).symm⟩,fun b u e _ n _=>?_,fun b hb n=>absurd hb n,fun b g=>.inl g,fun b u e=>?_⟩
 ·show upd W.H a _ b=some u;rw [zAa (nb b u n e)];exact e
 ·by_cases hb:b=a
  ·subst hb;have:ks=kvs:=by rcases q with q | ⟨z,q⟩ <;> rw [r] at q <;> cases q <;> rfl
   subst this;exact .inr ⟨x,zAc⟩
  ·rcases q with q | ⟨z,q⟩
   ·exact .inl (by show upd W.H a _ b=_;rw [zAa hb];exact q)
   ·exact .inr ⟨z,by show upd W.H a _ b=_;rw [zAa hb];exact q⟩
 ·show upd W.H a _ b=some u;rw [zAa (fun z=>by rw [z] at n;exact n hg)];exact e
 ·by_cases hb:b=a
  ·exact ⟨_,by rw [hb];exact zAc,fun _=>rfl⟩
  ·exact ⟨u,by show upd W.H a _ b=some u;rw [zAa hb];exact e,id⟩
theorem WR.frz {x:Obj}{kvs:List (Key×V)} (w:WR cl W S) (hg:W.G a) (r:W.H a=some (.dK kvs)):WR cl (W.put a (.frz x (.dK kvs))) S:=by
 have e:Ext W (W.put a (.frz x (.dK kvs))):=Ext.frz hg r;refine ⟨w.len,w.nd,fun b g=>?_,fun n c b e1 e2=>?_,fun t ht=>(w.tb t ht).but r (fun _ z=>nomatch z) (fun _ z=>nomatch z) fun b v z nb=>by show upd W.H a _ b=some v;rw [zAa nb];exact z⟩
 ·obtain ⟨u,z,p⟩:=w.gd b g;obtain ⟨u',z',p'⟩:=e.d b u z;exact ⟨u',z',p' p⟩
 ·have ok:=w.cell n c b e1 e2;by_cases hb:b=a
  ·subst hb;cases c with
   | lst ds=>exact absurd hg ok.1
   | dct ds=>exact absurd hg ok.1
   | ins c gs=>exact absurd hg ok.1
   | dead=>exact ⟨_,zAc,rfl⟩
  ·exact ok.keep e (fun z=>z) (by show upd W.H a _ b=W.H b;rw [zAa hb])
theorem Ext.oth (h:W.H a=none):Ext W (W.put a o):=by
 have ne:∀ b u,W.H b=some u→(upd W.H a o) b=some u:=fun b u e=>by rw [zAa (zA7 e h)];exact e
 refine ⟨fun _ g=>g,fun b u _ _ e=>ne b u e,fun b kvs _ r=>?_,⟨[],(List.append_nil _).symm⟩,fun b u e _ _ _=>ne b u e,fun b hb n=>absurd hb n,fun b g=>.inl g,fun b u e=>⟨u,ne b u e,id⟩⟩;rcases r with r | ⟨x,r⟩
 ·exact .inl (ne _ _ r)
 ·exact .inr ⟨x,ne _ _ r⟩
theorem WR.oth (w:WR cl W S) (h:W.H a=none):WR cl (W.put a o) S:=by
 have e:Ext W (W.put a o):=Ext.oth h;refine ⟨w.len,w.nd,fun b g=>?_,fun n c b e1 e2=>?_,fun t ht=>(w.tb t ht).stay fun b u z=>by show upd W.H a o b=some u;rw [zAa (zA7 z h)];exact z⟩
 ·obtain ⟨u,z,p⟩:=w.gd b g;obtain ⟨u',z',p'⟩:=e.d b u z;exact ⟨u',z',p' p⟩
 ·have ok:=w.cell n c b e1 e2;obtain ⟨u,hu,_⟩:=ok.ex;exact ok.keep e (fun z=>z) (by show upd W.H a o b=W.H b;rw [zAa (zA7 hu h)])
end
end L2.F
namespace L2.F
open PySem PySem.Spec PyProof.Rows L2
abbrev TZ:=St→Addr→Addr→Hp→Prop
def PO (cl:Cl) {α β : Type} (R:Wo→β→α→Prop) (W:Wo) (Q : β→Hp→Prop) (Z:Addr→Addr→Hp→Prop):Out α→Prop
 | .ok d S=>∀ W' v,Ext W W'→WR cl W' S→R W' v d→Q v W'.H
 | .ex c S=>∀ W' x,Ext W W'→WR cl W' S→W'.H x=some (XO (cl c) x)→Z x (cl c) W'.H
 | .st=>False
def RB (_:Wo) (a b:Bool):Prop:=a=b
structure ER (cl:Cl) (W:Wo) (σ : St) (ev:Ev):Prop where
 len : σ.length=ev.length
 get:∀ (i:Nat) (d:U),ev[i]? = some (some d)→∃ v,σ[i]? = some (some v)∧RU cl W v d
theorem ER.mono {cl:Cl}{W W':Wo}{σ : St}{ev:Ev} (r:ER cl W σ ev) (e:Ext W W'):ER cl W' σ ev:=⟨r.len,fun i d h=>let ⟨v,h1,h2⟩:=r.get i d h;⟨v,h1,h2.mono e⟩⟩
section
variable {cl:Cl}{α β γ δ : Type}{R:Wo→β→α→Prop}{R2:Wo→δ→γ→Prop}{W W':Wo}{Q : β→Hp→Prop}{Q2 : δ→Hp→Prop}{Z:Addr→Addr→Hp→Prop}{S:Sto}
theorem PO.ext {o:Out α} (h:PO cl R W Q Z o) (e:Ext W W'):PO cl R W' Q Z o:=by
 cases o with
 | ok d S=>exact fun W2 v e2 w r=>h W2 v (e.trans e2) w r
 | ex c S=>exact fun W2 x e2 w r=>h W2 x (e.trans e2) w r
 | st=>exact h
theorem PO.bind {o:Out α}{k : α→Sto→Out γ} (h:PO cl R2 W Q2 Z (o.bind k)) (hq:∀ d S W' v,Ext W W'→WR cl W' S→R W' v d→PO cl R2 W' Q2 Z (k d S)→Q v W'.H):PO cl R W Q Z o:=by
 cases o with
 | ok d S=>exact fun W2 v e w r=>hq d S W2 v e w r (PO.ext h e)
 | ex c S=>exact h
 | st=>exact h
theorem PO.now {d : α}{v : β} (h:PO cl R W Q Z (.ok d S)) (w:WR cl W S) (r:R W v d):Q v W.H:=h W v (Ext.refl W) w r
end
def tF (cl:Cl) {α β : Type} (R:Wo→β→α→Prop) (Z:TZ) (f:Ev→Sto→Out α):St→Hp→(β→Hp→Prop)→Prop:=fun σ H Q=>∃ W S ev,W.H=H∧WR cl W S∧ER cl W σ ev∧PO cl R W Q (Z σ) (f ev S)
structure DE (cl:Cl) (X:Cx) (Z:TZ) (e:Expr) (f:FE):Prop where
 pe:L2.PE X e (tF cl (RU cl) Z f)
theorem DE.of {cl:Cl}{X:Cx}{Z:TZ}{e:Expr}{f:FE} (h:∃ t,L2.PE X e t∧∀ (W:Wo) (S:Sto) (σ : St) (ev:Ev) (Q:VK),WR cl W S→ER cl W σ ev→PO cl (RU cl) W Q (Z σ) (f ev S)→t σ W.H Q):DE cl X Z e f:=by
 obtain ⟨t,p,c⟩:=h;exact ⟨fun pins s σ H Q I ⟨W,S,ev,e,w,r,h⟩=>p pins s σ H Q I (by rw [← e];exact c W S σ ev Q w r h)⟩
theorem DE.ex {cl:Cl}{X:Cx}{Z:TZ}{e:Expr}{f:FE} (h:DE cl X Z e f):∃ t,L2.PE X e t∧∀ (W:Wo) (S:Sto) (σ : St) (ev:Ev) (Q:VK),WR cl W S→ER cl W σ ev→PO cl (RU cl) W Q (Z σ) (f ev S)→t σ W.H Q:=⟨_,h.pe,fun W S σ ev Q w r h=>⟨W,S,ev,rfl,w,r,h⟩⟩
structure DT (cl:Cl) (X:Cx) (Z:TZ) (e:Expr) (f:FT):Prop where
 pe:L2.PT X e (tF cl RB Z f)
theorem DT.of {cl:Cl}{X:Cx}{Z:TZ}{e:Expr}{f:FT} (h:∃ t,L2.PT X e t∧∀ (W:Wo) (S:Sto) (σ : St) (ev:Ev) (Q:Bool→Hp→Prop),WR cl W S→ER cl W σ ev→PO cl RB W Q (Z σ) (f ev S)→t σ W.H Q):DT cl X Z e f:=by
 obtain ⟨t,p,c⟩:=h;exact ⟨fun pins s σ H Q I ⟨W,S,ev,e,w,r,h⟩=>p pins s σ H Q I (by rw [← e];exact c W S σ ev Q w r h)⟩
theorem DT.ex {cl:Cl}{X:Cx}{Z:TZ}{e:Expr}{f:FT} (h:DT cl X Z e f):∃ t,L2.PT X e t∧∀ (W:Wo) (S:Sto) (σ : St) (ev:Ev) (Q:Bool→Hp→Prop),WR cl W S→ER cl W σ ev→PO cl RB W Q (Z σ) (f ev S)→t σ W.H Q:=⟨_,h.pe,fun W S σ ev Q w r h=>⟨W,S,ev,rfl,w,r,h⟩⟩
structure DW (cl:Cl) (X:Cx) (Z:TZ) (e:Expr) (f:FT):Prop where
 pe:L2.PW X e (tF cl RB Z f)
theorem DW.of {cl:Cl}{X:Cx}{Z:TZ}{e:Expr}{f:FT} (h:∃ t,L2.PW X e t∧∀ (W:Wo) (S:Sto) (σ : St) (ev:Ev) (Q:Bool→Hp→Prop),WR cl W S→ER cl W σ ev→PO cl RB W Q (Z σ) (f ev S)→t σ W.H Q):DW cl X Z e f:=by
 obtain ⟨t,p,c⟩:=h;exact ⟨fun wh pins s σ H Q I ⟨W,S,ev,e,w,r,h⟩=>p wh pins s σ H Q I (by rw [← e];exact c W S σ ev Q w r h)⟩
theorem DW.ex {cl:Cl}{X:Cx}{Z:TZ}{e:Expr}{f:FT} (h:DW cl X Z e f):∃ t,L2.PW X e t∧∀ (W:Wo) (S:Sto) (σ : St) (ev:Ev) (Q:Bool→Hp→Prop),WR cl W S→ER cl W σ ev→PO cl RB W Q (Z σ) (f ev S)→t σ W.H Q:=⟨_,h.pe,fun W S σ ev Q w r h=>⟨W,S,ev,rfl,w,r,h⟩⟩
structure DA (cl:Cl) (X:Cx) (Z:TZ) (e:List Expr) (f:FAr):Prop where
 pe:L2.PA X e (tF cl (RUs cl) Z f)
theorem DA.of {cl:Cl}{X:Cx}{Z:TZ}{e:List Expr}{f:FAr} (h:∃ t,L2.PA X e t∧∀ (W:Wo) (S:Sto) (σ : St) (ev:Ev) (Q:List V→Hp→Prop),WR cl W S→ER cl W σ ev→PO cl (RUs cl) W Q (Z σ) (f ev S)→t σ W.H Q):DA cl X Z e f:=by
 obtain ⟨t,p,c⟩:=h;exact ⟨fun pos pins s σ H Q I ⟨W,S,ev,e,w,r,h⟩=>p pos pins s σ H Q I (by rw [← e];exact c W S σ ev Q w r h)⟩
theorem DA.ex {cl:Cl}{X:Cx}{Z:TZ}{e:List Expr}{f:FAr} (h:DA cl X Z e f):∃ t,L2.PA X e t∧∀ (W:Wo) (S:Sto) (σ : St) (ev:Ev) (Q:List V→Hp→Prop),WR cl W S→ER cl W σ ev→PO cl (RUs cl) W Q (Z σ) (f ev S)→t σ W.H Q:=⟨_,h.pe,fun W S σ ev Q w r h=>⟨W,S,ev,rfl,w,r,h⟩⟩
def celL (S:Sto) (n:Nat):Option (List U):=match S[n]? with
 | some (.lst xs)=>some xs
 | _=>none
def celD (S:Sto) (n:Nat):Option (List (Key×U)):=match S[n]? with
 | some (.dct xs)=>some xs
 | _=>none
def celI (S:Sto) (n:Nat):Option (Str×List (Str×U)):=match S[n]? with
 | some (.ins c fs)=>some (c,fs)
 | _=>none
def upK {κ : Type} (es:List (κ×D)):List (κ×U):=es.map fun e=>(e.1,.d e.2)
def lstX (S:Sto):U→Option (List U)
 | .d (.lst xs)=>some (xs.map .d)
 | .loc n=>celL S n
 | _=>none
def lstOf (S:Sto):U→Option (List U)
 | .d (.frl xs)=>some (xs.map .d)
 | u=>lstX S u
def dctOf (S:Sto):U→Option (List (Key×U))
 | .d (.dct es)=>some (upK es)
 | .loc n=>celD S n
 | _=>none
def insOf (S:Sto):U→Option (Str×List (Str×U))
 | .d (.obj c fs)=>some (c,upK fs)
 | .loc n=>celI S n
 | _=>none
def pureL:List U→Option (List D)
 | []=>some []
 | .d x :: r=>(pureL r).map (x :: ·)
 | _=>none
theorem zD9:∀ xs:List D,pureL (xs.map .d)=some xs
 | []=>rfl
 | x :: r=>by rw [Zi,pureL,zD9 r];rfl
section
variable {cl:Cl}{W:Wo}{S:Sto}{v:V}{u:U}
theorem RpAll.up:∀ {vs:List V}{ds:List D},RpAll cl W vs ds→RUs cl W vs (ds.map .d)
 | _,_,.nil=>.nil
 | _,_,.cons r t=>.cons (.d r) (RpAll.up t)
theorem RpK.up:∀ {vs:List (Key×V)}{ds:List (Key×D)},RpK cl W vs ds→RUK cl W vs (upK ds)
 | _,_,.nil=>.nil
 | _,_,.cons r t=>.cons (.d r) (RpK.up t)
theorem RpF.up:∀ {vs:List (Str×V)}{ds:List (Str×D)},RpF cl W vs ds→RUK cl W vs (upK ds)
 | _,_,.nil=>.nil
 | _,_,.cons r t=>.cons (.d r) (RpF.up t)
theorem RUs.pure:∀ {vs:List V}{us:List U}{ds:List D},RUs cl W vs us→pureL us=some ds→RpAll cl W vs ds
 | _,_,ds,.nil,h=>by cases h;exact .nil
 | _,_,ds,.cons (d:=d) (ds:=us) r t,h=>by
  cases r with
  | @d _ x r =>
   obtain ⟨l,e,rfl⟩:=Option.map_eq_some_iff.mp (show (pureL us).map (x :: ·)=some ds from h);exact .cons r (RUs.pure t e)
  | loc _=>cases h
theorem zKl {n:Nat}{ds:List U} (w:WR cl W S) (r:RU cl W v (.loc n)) (h:celL S n=some ds):∃ p vs,v=.ref p∧W.μ[n]? = some p∧¬ W.G p∧W.H p=some (.lst vs)∧vs.length≤LM∧RUs cl W vs ds:=by
 cases r with
 | @loc _ p hn =>
  unfold celL at h;split at h
  ·next xs e =>
   cases h;obtain ⟨g,vs,e1,e2,e3⟩:=w.cell _ _ _ e hn;exact ⟨p,vs,rfl,hn,g,e1,e2,e3⟩
  ·cases h
theorem zO9 {n:Nat}{ds:List (Key×U)} (w:WR cl W S) (r:RU cl W v (.loc n)) (h:celD S n=some ds):∃ p vs,v=.ref p∧W.μ[n]? = some p∧¬ W.G p∧W.H p=some (.dK vs)∧vs.length≤LM∧RUK cl W vs ds:=by
 cases r with
 | @loc _ p hn =>
  unfold celD at h;split at h
  ·next xs e =>
   cases h;obtain ⟨g,vs,e1,e2,e3⟩:=w.cell _ _ _ e hn;exact ⟨p,vs,rfl,hn,g,e1,e2,e3⟩
  ·cases h
theorem zVv {n:Nat}{c:Str}{gs:List (Str×U)} (w:WR cl W S) (r:RU cl W v (.loc n)) (h:celI S n=some (c,gs)):∃ p dx fs,v=.ref p∧W.μ[n]? = some p∧¬ W.G p∧W.H p=some (.ins (cl c) dx fs)∧RUK cl W fs gs:=by
 cases r with
 | @loc _ p hn =>
  unfold celI at h;split at h
  ·next c' xs e =>
   cases h;obtain ⟨g,dx,fs,e1,e2⟩:=w.cell _ _ _ e hn;exact ⟨p,dx,fs,rfl,hn,g,e1,e2⟩
  ·cases h
theorem zLq {ds:List U} (w:WR cl W S) (r:RU cl W v u) (h:lstX S u=some ds):∃ a vs,v=.ref a∧W.H a=some (.lst vs)∧vs.length≤LM∧RUs cl W vs ds:=by
 cases u with
 | d x =>
  cases r with
  | d r =>
   cases r with
   | lst g e l r=>cases h;exact ⟨_,_,rfl,e,l,r.up⟩
   | _=>cases h
 | loc n=>obtain ⟨p,vs,h1,_,_,h2,h3,h4⟩:=zKl w r h;exact ⟨p,vs,h1,h2,h3,h4⟩
theorem zEk {K:PySem.W.Frag}{ds:List U} (w:WR cl W S) (r:RU cl W v u) (h:lstOf S u=some ds):∃ a vs,v=.ref a∧SqL K W.H a vs∧vs.length≤LM∧RUs cl W vs ds:=by
 have hx:lstX S u=some ds→∃ a vs,v=.ref a∧SqL K W.H a vs∧vs.length≤LM∧RUs cl W vs ds:=fun h=>let ⟨a,vs,h1,h2,h3⟩:=zLq w r h;⟨a,vs,h1,.of h2,h3⟩;cases u with
 | d x =>
  cases x with
  | frl xs =>
   cases h;cases r with
   | d r =>
    cases r with
    | frl g e l r=>exact ⟨_,_,rfl,.inl (.inr ⟨_,e⟩),l,r.up⟩
  | _=>exact hx h
 | loc n=>exact hx h
theorem zMn {K:PySem.W.Frag}{ds:List D} (r:RU cl W v (.d (.tup ds))):∃ a vs,v=.ref a∧SqT K W.H a vs∧vs.length≤LM∧RpAll cl W vs ds:=by
 cases r with
 | d r =>
  cases r with
  | tup g e l r=>exact ⟨_,_,rfl,.of e,l,r⟩
theorem zEp {es:List (Key×U)} (w:WR cl W S) (r:RU cl W v u) (h:dctOf S u=some es):∃ a vs,v=.ref a∧Rd W.H a (.dK vs)∧vs.length≤LM∧RUK cl W vs es:=by
 cases u with
 | d x =>
  cases r with
  | d r =>
   cases r with
   | dct g e l r=>cases h;exact ⟨_,_,rfl,e,l,r.up⟩
   | _=>cases h
 | loc n=>obtain ⟨p,vs,h1,_,_,h2,h3,h4⟩:=zO9 w r h;exact ⟨p,vs,h1,.inl h2,h3,h4⟩
theorem zPh {c:Str}{gs:List (Str×U)} (w:WR cl W S) (r:RU cl W v u) (h:insOf S u=some (c,gs)):∃ a dx fs,v=.ref a∧W.H a=some (.ins (cl c) dx fs)∧RUK cl W fs gs:=by
 cases u with
 | d x =>
  cases r with
  | d r =>
   cases r with
   | obj g e r=>cases h;exact ⟨_,_,_,rfl,e,r.up⟩
   | _=>cases h
 | loc n=>obtain ⟨p,dx,fs,h1,_,_,h2,h3⟩:=zVv w r h;exact ⟨p,dx,fs,h1,h2,h3⟩
theorem RpAll.length:∀ {vs:List V}{ds:List D},RpAll cl W vs ds→vs.length=ds.length
 | _,_,.nil=>rfl
 | _,_,.cons _ t=>by rw [Zd,Zd,RpAll.length t]
theorem RpAll.append:∀ {vs us:List V}{ds es:List D},RpAll cl W vs ds→RpAll cl W us es→RpAll cl W (vs++us) (ds++es)
 | _,_,_,_,.nil,h=>h
 | _,_,_,_,.cons r t,h=>.cons r (RpAll.append t h)
theorem RpAll.get:∀ {vs:List V}{ds:List D}{i:Nat}{d:D},RpAll cl W vs ds→ds[i]? = some d→∃ v,vs[i]? = some v∧Rp cl W v d
 | _,_,0,d,.cons r _,h=>by cases h;exact ⟨_,rfl,r⟩
 | _,_,i + 1,d,.cons _ t,h=>RpAll.get (i:=i) t h
theorem RpAll.take:∀ (n:Nat) {vs:List V}{ds:List D},RpAll cl W vs ds→RpAll cl W (vs.take n) (ds.take n)
 | 0,_,_,_=>.nil
 | _ + 1,_,_,.nil=>.nil
 | n + 1,_,_,.cons r t=>.cons r (RpAll.take n t)
theorem RpAll.drop:∀ (n:Nat) {vs:List V}{ds:List D},RpAll cl W vs ds→RpAll cl W (vs.drop n) (ds.drop n)
 | 0,_,_,h=>h
 | _ + 1,_,_,.nil=>.nil
 | n + 1,_,_,.cons _ t=>RpAll.drop n t
theorem RUs.length:∀ {vs:List V}{ds:List U},RUs cl W vs ds→vs.length=ds.length
 | _,_,.nil=>rfl
 | _,_,.cons _ t=>by rw [Zd,Zd,RUs.length t]
theorem RUs.get:∀ {vs:List V}{ds:List U}{i:Nat}{d:U},RUs cl W vs ds→ds[i]? = some d→∃ v,vs[i]? = some v∧RU cl W v d
 | _,_,0,d,.cons r _,h=>by cases h;exact ⟨_,rfl,r⟩
 | _,_,i + 1,d,.cons _ t,h=>RUs.get (i:=i) t h
theorem RUs.append:∀ {vs us:List V}{ds es:List U},RUs cl W vs ds→RUs cl W us es→RUs cl W (vs++us) (ds++es)
 | _,_,_,_,.nil,h=>h
 | _,_,_,_,.cons r t,h=>.cons r (RUs.append t h)
theorem RUs.take:∀ (n:Nat) {vs:List V}{ds:List U},RUs cl W vs ds→RUs cl W (vs.take n) (ds.take n)
 | 0,_,_,_=>.nil
 | _ + 1,_,_,.nil=>.nil
 | n + 1,_,_,.cons r t=>.cons r (RUs.take n t)
theorem RUs.drop:∀ (n:Nat) {vs:List V}{ds:List U},RUs cl W vs ds→RUs cl W (vs.drop n) (ds.drop n)
 | 0,_,_,h=>h
 | _ + 1,_,_,.nil=>.nil
 | n + 1,_,_,.cons _ t=>RUs.drop n t
theorem RUK.look {f:Str}{x:U}:∀ {fs:List (Str×V)}{gs:List (Str×U)},RUK cl W fs gs→gs.lookup f=some x→∃ v,fs.lookup f=some v∧RU cl W v x
 | _,_,.cons (k:=k) r t,h=>by
  rw [Zk] at h ⊢;cases e:(f == k) with
  | true=>rw [e] at h;cases h;exact ⟨_,rfl,r⟩
  | false=>rw [e] at h;exact RUK.look t h
theorem RUK.lookN {f:Str}:∀ {fs:List (Str×V)}{gs:List (Str×U)},RUK cl W fs gs→gs.lookup f=none→fs.lookup f=none
 | _,_,.nil,_=>rfl
 | _,_,.cons (k:=k) r t,h=>by
  rw [Zk] at h ⊢;cases e:(f == k) with
  | true=>rw [e] at h;cases h
  | false=>rw [e] at h;exact RUK.lookN t h
theorem RUK.length {κ : Type}:∀ {fs:List (κ×V)}{gs:List (κ×U)},RUK cl W fs gs→fs.length=gs.length
 | _,_,.nil=>rfl
 | _,_,.cons _ t=>by rw [Zd,Zd,RUK.length t]
theorem RUK.keys {κ : Type}:∀ {fs:List (κ×V)}{gs:List (κ×U)},RUK cl W fs gs→fs.map (·.1)=gs.map (·.1)
 | _,_,.nil=>rfl
 | _,_,.cons _ t=>by rw [Zi,Zi,RUK.keys t]
def putG (f:Str) (v:U):List (Str×U)→List (Str×U)
 | []=>[(f,v)]
 | (g,x) :: r=>if g=f then (g,v) :: r else (g,x) :: putG f v r
theorem RUK.putF {f:Str}{v:V}{x:U} (hx:RU cl W v x):∀ {fs:List (Str×V)}{gs:List (Str×U)},RUK cl W fs gs→RUK cl W (putF f v fs) (putG f x gs)
 | _,_,.nil=>.cons hx .nil
 | _,_,.cons (k:=k) r t=>by
  unfold L2.putF putG;by_cases e:k=f
  ·rw [if_pos e,if_pos e];exact .cons hx t
  ·rw [if_neg e,if_neg e];exact .cons r (RUK.putF hx t)
def valD (es:List (Key×U)) (k:Key):Option U:=(es.find? fun kv=>decide (kv.1=k)).map (·.2)
theorem RUK.val {k:Key}:∀ {vs:List (Key×V)}{es:List (Key×U)},RUK cl W vs es→match valD es k with | some x=>∃ v,valV vs k=some v∧RU cl W v x | none=>valV vs k=none
 | _,_,.nil=>rfl
 | _,_,.cons (k:=k') r t=>by
  unfold valD valV;by_cases e:k'=k
  ·rw [List.find?_cons_of_pos (by simp [e]),List.find?_cons_of_pos (by simp [e])];exact ⟨_,rfl,r⟩
  ·rw [List.find?_cons_of_neg (by simp [e]),List.find?_cons_of_neg (by simp [e])];exact RUK.val t
end
end L2.F
namespace L2.F
open PySem PySem.Spec PyProof.Rows L2
def txtB (x:Str):Bool:=decide (x.length≤100000) && PyData.strOk x
theorem zJt {x:Str} (h:txtB x=true):TxtOk x:=by
 unfold txtB at h;rw [Zc,decide_eq_true_eq] at h;exact h
def dC (d:D):FE:=fun _ S=>.ok (.d d) S
def dV (i:Nat):FE:=fun ev S=>match ev[i]? with
 | some (some d)=>.ok d S
 | _=>.st
def d1 (g:U→Sto→Out U) (fa:FE):FE:=fun ev S=>(fa ev S).bind g
def d2 (g:U→U→Sto→Out U) (fa fb:FE):FE:=fun ev S=>(fa ev S).bind fun x S=>(fb ev S).bind fun y S=>g x y S
structure OpD (cl:Cl) (X:Cx) (f:Value→Value→Sem Value) (g:U→U→Sto→Out U):Prop where
 ex:∃ r,OpR X f r∧∀ W S x y a b (Q:VK) Z,WR cl W S→RU cl W x a→RU cl W y b→PO cl (RU cl) W Q Z (g a b S)→r x y W.H Q
section
variable {cl:Cl}{X:Cx}{Z:TZ}{a b c:Expr}{fa fb fc:FE}{pos:Pos}
theorem OpR.or {f:Value→Value→Sem Value}{r r':L2.R2} (h:OpR X f r) (h':OpR X f r'):OpR X f (fun x y H Q=>r x y H Q∨r' x y H Q):=fun pins s σ H x y v u Q I rx ry q=>q.elim (h pins s σ H x y v u Q I rx ry) (h' pins s σ H x y v u Q I rx ry)
theorem zA4 {i j}:DE cl X Z (.Constant (.int i) j pos) (dC (.int i)):=.of ⟨_,L2.zRo,fun W S σ ev Q w r h=>h.now w (.d (.int i))⟩
theorem zCu {i j}:DE cl X Z (.Constant (.bool i) j pos) (dC (.bl i)):=.of ⟨_,L2.pe_bl,fun W S σ ev Q w r h=>h.now w (.d (.bl i))⟩
theorem zB0 {j}:DE cl X Z (.Constant .none j pos) (dC .non):=.of ⟨_,L2.yDn,fun W S σ ev Q w r h=>h.now w (.d .non)⟩
theorem zAb {x j} (hx:txtB x=true:=by decide +kernel):DE cl X Z (.Constant (.str x) j pos) (dC (.str x)):=.of ⟨_,L2.zYl,fun W S σ ev Q w r h=>h.now w (.d (.str x (zJt hx)))⟩
theorem de_v (i:Nat) {x:Str} (hN:X.N[i]? = some x:=by rfl) (hv:Vis X.env.scope x:=by first | exact Or.inl rfl | exact Or.inr (Or.inl rfl) | exact Or.inr (Or.inr rfl)) (hd:(x == ("__debug__" : Str))=false:=by decide)
 (hcd:(x == ("__classdict__" : Str))=false:=by decide):DE cl X Z (.Name x pos) (dV i):=.of ⟨_,L2.yDi hN hv hd hcd,fun W S σ ev Q w r h=>by
 unfold dV at h;split at h
 ·next d e =>
  obtain ⟨v,e1,e2⟩:=r.get i d e;exact ⟨v,e1,h.now w e2⟩
 ·exact h.elim⟩
theorem zT9 {x:Str}{i:Int} (hm:∃ t,X.mg x=some (.int i t)) (hg:Gl X x:=by rfl) (hd:(x == ("__debug__" : Str))=false:=by decide):DE cl X Z (.Name x pos) (dC (.int i)):=by
 obtain ⟨t,hm⟩:=hm;exact .of ⟨_,L2.zNj (v:=.int i) hg hm ⟨t,rfl⟩ hd,fun W S σ ev Q w r h=>h.now w (.d (.int i))⟩
theorem yFe {x y:Str} (hm:∃ t,X.mg x=some (.str y t)) (hx:txtB y=true:=by decide +kernel) (hg:Gl X x:=by rfl) (hd:(x == ("__debug__" : Str))=false:=by decide):DE cl X Z (.Name x pos) (dC (.str y)):=by
 obtain ⟨t,hm⟩:=hm;exact .of ⟨_,L2.zNj (v:=.str y) hg hm ⟨t,rfl⟩ hd,fun W S σ ev Q w r h=>h.now w (.d (.str y (zJt hx)))⟩
theorem zAm {op:Operator}{g:U→U→Sto→Out U} (o:OpD cl X (binaryOp op) g) (ha:DE cl X Z a fa) (hb:DE cl X Z b fb):DE cl X Z (.BinOp a op b pos) (d2 g fa fb):=by
 obtain ⟨r,ho,hg⟩:=o.ex;obtain ⟨ta,pa,ca⟩:=ha.ex;obtain ⟨tb,pb,cb⟩:=hb.ex;exact .of ⟨_,L2.pe_op ho pa pb,fun W S σ ev Q w r h=>ca W S σ ev _ w r (PO.bind h fun x S1 W1 v e1 w1 r1 h1=>cb W1 S1 σ ev _ w1 (r.mono e1) (PO.bind h1 fun y S2 W2 u e2 w2 r2 h2=>hg W2 S2 v u x y Q _ w2 (r1.mono e2) r2 h2))⟩
theorem zG2 {op:CmpOp}{g:U→U→Sto→Out U} (o:OpD cl X (compareOp op) g) (ha:DE cl X Z a fa) (hb:DE cl X Z b fb) (hm:behindInMarks op b=false:=by rfl):DE cl X Z (.Compare a [op] [b] pos) (d2 g fa fb):=by
 obtain ⟨r,ho,hg⟩:=o.ex;obtain ⟨ta,pa,ca⟩:=ha.ex;obtain ⟨tb,pb,cb⟩:=hb.ex;exact .of ⟨_,L2.yAb ho pa pb hm,fun W S σ ev Q w r h=>ca W S σ ev _ w r (PO.bind h fun x S1 W1 v e1 w1 r1 h1=>cb W1 S1 σ ev _ w1 (r.mono e1) (PO.bind h1 fun y S2 W2 u e2 w2 r2 h2=>hg W2 S2 v u x y Q _ w2 (r1.mono e2) r2 h2))⟩
def asB (d:U) (S:Sto):Out Bool:=match d with
 | .d (.bl b)=>.ok b S
 | _=>.st
def tB1 (fa:FE):FT:=fun ev S=>(fa ev S).bind asB
theorem zZh {W:Wo}{S:Sto}{v:V}{d:U}{Q:Bool→Hp→Prop}{Z:Addr→Addr→Hp→Prop} (w:WR cl W S) (r:RU cl W v d) (h:PO cl RB W Q Z (asB d S)):∃ k,v=.bl k∧Q k W.H:=by
 cases r with
 | d r =>
  cases r with
  | bl b=>exact ⟨b,rfl,h.now w rfl⟩
  | _=>exact h.elim
 | loc _=>exact h.elim
theorem zAd {op:CmpOp}{g:U→U→Sto→Out U} (o:OpD cl X (compareOp op) g) (ha:DE cl X Z a fa) (hb:DE cl X Z b fb) (hm:behindInMarks op b=false:=by rfl):DT cl X Z (.Compare a [op] [b] pos) (tB1 (d2 g fa fb)):=by
 obtain ⟨r,ho,hg⟩:=o.ex;obtain ⟨ta,pa,ca⟩:=ha.ex;obtain ⟨tb,pb,cb⟩:=hb.ex;refine .of ⟨_,L2.zZy ho pa pb hm,fun W S σ ev Q w r h=>?_⟩;have h:PO cl (RU cl) W (fun x H'=>∃ k,x=.bl k∧Q k H') (Z σ) (d2 g fa fb ev S):=PO.bind h fun d S1 W1 v e1 w1 r1 h1=>zZh w1 r1 h1;exact ca W S σ ev _ w r (PO.bind h fun x S1 W1 v e1 w1 r1 h1=>cb W1 S1 σ ev _ w1 (r.mono e1) (PO.bind h1 fun y S2 W2 u e2 w2 r2 h2=>hg W2 S2 v u x y _ _ w2 (r1.mono e2) r2 h2))
def d3 (g g':U→U→Sto→Out U) (fa fb fc:FE):FE:=fun ev S=>(fa ev S).bind fun x S=>(fb ev S).bind fun y S=>(g x y S).bind fun z S=>match z with
 | .d (.bl true)=>(fc ev S).bind fun u S=>g' y u S
 | .d (.bl false)=>.ok (.d (.bl false)) S
 | _=>.st
def truD (S:Sto):U→Option Bool
 | .d .non=>some false
 | .d (.bl b)=>some b
 | .d (.int i)=>some (i != 0)
 | .d (.str x)=>some ((x.length:Int) != 0)
 | .d (.tup xs)=>some (!xs.isEmpty)
 | .d (.dct _)=>none
 | d=>match lstOf S d with
  | some xs=>some (!xs.isEmpty)
  | none=>match dctOf S d with
   | some es=>some (!es.isEmpty)
   | none=>none
def truO (d:U) (S:Sto):Out Bool:=match truD S d with
 | some b=>.ok b S
 | none=>.st
def tTr (fa:FE):FT:=fun ev S=>(fa ev S).bind truO
theorem zO2 {W:Wo}{vs:List V}{ds:List U} (r:RUs cl W vs ds):(!vs.isEmpty) = !ds.isEmpty:=by cases r <;> rfl
theorem zVa {W:Wo}{vs:List V}{ds:List D} (r:RpAll cl W vs ds):(!vs.isEmpty) = !ds.isEmpty:=by cases r <;> rfl
theorem zVb {W:Wo}{vs:List (Key×V)}{ds:List (Key×U)} (r:RUK cl W vs ds):(!vs.isEmpty) = !ds.isEmpty:=by cases r <;> rfl
theorem yCk {K:PySem.W.Frag}{W:Wo}{S:Sto}{v:V}{d:U}{b:Bool} (w:WR cl W S) (r:RU cl W v d) (h:truD S d=some b):TruV K v W.H b:=by
 cases r with
 | d r =>
  cases r with
  | non=>cases h;rfl
  | bl b=>cases h;rfl
  | int i=>cases h;rfl
  | str x hx=>cases h;exact ⟨Z3 hx.1 (by decide),rfl⟩
  | tup g e l r=>cases h;exact .inr (.inl ⟨_,.of e,(zVa r).symm⟩)
  | @lst _ vs ds g e l r=>cases h;exact .inl ⟨_,.of e,(zO2 r.up).symm⟩
  | @frl _ _ vs ds g e l r=>cases h;exact .inl ⟨_,.inl (.inr ⟨_,e⟩),(zO2 r.up).symm⟩
  | dct g e l r=>cases h
  | obj g e r=>cases h
 | @loc n p hn =>
  have h:(match celL S n with | some xs=>some (!xs.isEmpty) | none=>match celD S n with | some es=>some (!es.isEmpty) | none=>none)=some b:=h;split at h
  ·next xs e =>
   cases h;obtain ⟨a,vs,e0,_,_,e1,e2,e3⟩:=zKl w (.loc hn) e;cases e0;exact .inl ⟨_,.of e1,(zO2 e3).symm⟩
  ·split at h
   ·next es e =>
    cases h;obtain ⟨a,vs,e0,_,_,e1,e2,e3⟩:=zO9 w (.loc hn) e;cases e0;exact .inr (.inr ⟨vs,e1,(zVb e3).symm⟩)
   ·cases h
theorem zAo (ha:DE cl X Z a fa) (he:∀ whole,isTrue a X.env whole=(do let v ← whole;standAt a.pos;holding [v] (truthy v)):=by exact fun _=>rfl):DT cl X Z a (tTr fa):=by
 obtain ⟨ta,pa,ca⟩:=ha.ex;refine .of ⟨_,L2.zW9 pa he,fun W S σ ev Q w r h=>ca W S σ ev _ w r (PO.bind h fun d S1 W1 v e1 w1 r1 h1=>?_)⟩;unfold truO at h1;split at h1
 ·next b e=>exact ⟨b,yCk w1 r1 e,h1.now w1 rfl⟩
 ·exact h1.elim
def tNot' (t:FT):FT:=fun ev S=>(t ev S).bind fun b S=>.ok (!b) S
theorem zAs {t:FT} (h:DT cl X Z a t):DT cl X Z (.UnaryOp .Not a pos) (tNot' t):=by
 obtain ⟨ta,pa,ca⟩:=h.ex;exact .of ⟨_,L2.yD3 pa,fun W S σ ev Q w r h=>ca W S σ ev _ w r (PO.bind h fun d S1 W1 v e1 w1 r1 h1=>by cases r1;exact h1.now w1 rfl)⟩
def tAnd' (t u:FT):FT:=fun ev S=>(t ev S).bind fun b S=>match b with
 | true=>u ev S
 | false=>.ok false S
def tOr' (t u:FT):FT:=fun ev S=>(t ev S).bind fun b S=>match b with
 | true=>.ok true S
 | false=>u ev S
theorem dw_1 {op}{t:FT} (h:DT cl X Z a t) (ho:op=.And∨op=.Or:=by first | exact .inl rfl | exact .inr rfl):DW cl X Z (.BoolOp op [a] pos) t:=by
 obtain ⟨ta,pa,ca⟩:=h.ex;rcases ho with rfl | rfl
 ·exact .of ⟨_,L2.zZx pa,ca⟩
 ·exact .of ⟨_,L2.yCx pa,ca⟩
theorem zJ3 {rest:List Expr}{t u:FT} (h:DT cl X Z a t) (h':DW cl X Z (.BoolOp .And (b :: rest) pos) u):DW cl X Z (.BoolOp .And (a :: b :: rest) pos) (tAnd' t u):=by
 obtain ⟨ta,pa,ca⟩:=h.ex;obtain ⟨tb,pb,cb⟩:=h'.ex;refine .of ⟨_,L2.yCy pa pb,fun W S σ ev Q w r h=>ca W S σ ev _ w r (PO.bind h fun d S1 W1 v e1 w1 r1 h1=>?_)⟩;cases r1;cases d with
 | true=>rw [if_pos rfl];exact cb W1 S1 σ ev _ w1 (r.mono e1) h1
 | false=>rw [if_neg Z6];exact h1.now w1 rfl
theorem zG4 {rest:List Expr}{t u:FT} (h:DT cl X Z a t) (h':DW cl X Z (.BoolOp .Or (b :: rest) pos) u):DW cl X Z (.BoolOp .Or (a :: b :: rest) pos) (tOr' t u):=by
 obtain ⟨ta,pa,ca⟩:=h.ex;obtain ⟨tb,pb,cb⟩:=h'.ex;refine .of ⟨_,L2.pw_or pa pb,fun W S σ ev Q w r h=>ca W S σ ev _ w r (PO.bind h fun d S1 W1 v e1 w1 r1 h1=>?_)⟩;cases r1;cases d with
 | true=>rw [if_pos rfl];exact h1.now w1 rfl
 | false=>rw [if_neg Z6];exact cb W1 S1 σ ev _ w1 (r.mono e1) h1
theorem dt_w {t:FT} (h:DW cl X Z a t):DT cl X Z a t:=by
 obtain ⟨ta,pa,ca⟩:=h.ex;exact .of ⟨_,L2.PW.pt pa,ca⟩
def dNot (fa:FE):FE:=fun ev S=>(fa ev S).bind fun d S=>(asB d S).bind fun b S=>.ok (.d (.bl (!b))) S
theorem yFw {W:Wo}{S:Sto}{v:V}{d:U}{k:Bool→Sto→Out U}{Q:VK}{Z:Addr→Addr→Hp→Prop} (r:RU cl W v d) (h:PO cl (RU cl) W Q Z ((asB d S).bind k)):∃ b,v=.bl b∧PO cl (RU cl) W Q Z (k b S):=by
 cases r with
 | d r =>
  cases r with
  | bl b=>exact ⟨b,rfl,h⟩
  | _=>exact h.elim
 | loc _=>exact h.elim
theorem zZb (h:DE cl X Z a fa):DE cl X Z (.UnaryOp .Not a pos) (dNot fa):=by
 obtain ⟨ta,pa,ca⟩:=h.ex;refine .of ⟨_,L2.yDm pa,fun W S σ ev Q w r h=>ca W S σ ev _ w r (PO.bind h fun d S1 W1 v e1 w1 r1 h1=>?_)⟩;obtain ⟨b,rfl,h2⟩:=yFw r1 h1;exact ⟨b,rfl,h2.now w1 (.d (.bl _))⟩
def dAnd (fa fb:FE):FE:=fun ev S=>(fa ev S).bind fun d S=>(asB d S).bind fun b S=>match b with
 | true=>fb ev S
 | false=>.ok (.d (.bl false)) S
def dOr (fa fb:FE):FE:=fun ev S=>(fa ev S).bind fun d S=>(asB d S).bind fun b S=>match b with
 | true=>.ok (.d (.bl true)) S
 | false=>fb ev S
theorem de_1 {op} (h:DE cl X Z a fa):DE cl X Z (.BoolOp op [a] pos) fa:=by
 obtain ⟨ta,pa,ca⟩:=h.ex;exact .of ⟨_,L2.yDk pa,ca⟩
theorem zF3 {rest:List Expr} (h:DE cl X Z a fa) (h':DE cl X Z (.BoolOp .And (b :: rest) pos) fb):DE cl X Z (.BoolOp .And (a :: b :: rest) pos) (dAnd fa fb):=by
 obtain ⟨ta,pa,ca⟩:=h.ex;obtain ⟨tb,pb,cb⟩:=h'.ex;refine .of ⟨_,L2.yDp pa pb,fun W S σ ev Q w r h=>ca W S σ ev _ w r (PO.bind h fun d S1 W1 v e1 w1 r1 h1=>?_)⟩;obtain ⟨k,rfl,h2⟩:=yFw r1 h1;refine ⟨k,rfl,?_⟩;cases k with
 | true=>rw [if_pos rfl];exact cb W1 S1 σ ev _ w1 (r.mono e1) h2
 | false=>rw [if_neg Z6];exact h2.now w1 (.d (.bl _))
def dIf (t:FT) (fa fb:FE):FE:=fun ev S=>(t ev S).bind fun b S=>match b with
 | true=>fa ev S
 | false=>fb ev S
theorem zO6 {t:FT} (h:DT cl X Z c t) (h1:DE cl X Z a fa) (h2:DE cl X Z b fb):DE cl X Z (.IfExp c a b pos) (dIf t fa fb):=by
 obtain ⟨tc,pc,cc⟩:=h.ex;obtain ⟨ta,pa,ca⟩:=h1.ex;obtain ⟨tb,pb,cb⟩:=h2.ex;refine .of ⟨_,L2.zWj pc pa pb,fun W S σ ev Q w r h=>cc W S σ ev _ w r (PO.bind h fun d S1 W1 v e1 w1 r1 h1=>?_)⟩;cases r1;cases d with
 | true=>rw [if_pos rfl];exact ca W1 S1 σ ev _ w1 (r.mono e1) h1
 | false=>rw [if_neg Z6];exact cb W1 S1 σ ev _ w1 (r.mono e1) h1
def aNil:FAr:=fun _ S=>.ok [] S
def aCons (f:FE) (g:FAr):FAr:=fun ev S=>(f ev S).bind fun x S=>(g ev S).bind fun xs S=>.ok (x :: xs) S
theorem zA2:DA cl X Z [] aNil:=.of ⟨_,L2.zMu,fun W S σ ev Q w r h=>h.now w .nil⟩
theorem zA0 {es:List Expr}{g:FAr} (h:DE cl X Z a fa) (h':DA cl X Z es g) (hs:starEach (a :: es) X.env=(false,eval a X.env) :: starEach es X.env:=by rfl):DA cl X Z (a :: es) (aCons fa g):=by
 obtain ⟨ta,pa,ca⟩:=h.ex;obtain ⟨tb,pb,cb⟩:=h'.ex;exact .of ⟨_,L2.zGd pa pb hs,fun W S σ ev Q w r h=>ca W S σ ev _ w r (PO.bind h fun d S1 W1 v e1 w1 r1 h1=>cb W1 S1 σ ev _ w1 (r.mono e1) (PO.bind h1 fun ds S2 W2 vs e2 w2 r2 h2=>h2.now w2 (.cons (r1.mono e2) r2)))⟩
def mkT (us:List U) (S:Sto):Out U:=match pureL us with
 | some ds=>if ds.length≤LM then .ok (.d (.tup ds)) S else .st
 | none=>.st
def mkL (us:List U) (S:Sto):Out U:=match pureL us with
 | some ds=>if ds.length≤LM then .ok (.d (.lst ds)) S else .st
 | none=>.st
theorem zNz {n:Nat} (h:n≤LM):n≤sizeLine:=Z3 h (by decide)
def dTup (g:FAr):FE:=fun ev S=>(g ev S).bind mkT
def dLst (g:FAr):FE:=fun ev S=>(g ev S).bind mkL
def dCel (g:FAr):FE:=fun ev S=>(g ev S).bind fun ds S=>if ds.length≤LM then .ok (.loc S.length) (S++[.lst ds]) else .st
theorem zYu {W:Wo}{S:Sto}{vs:List V}{ds:List U}{Q:VK}{Z:Addr→Addr→Hp→Prop} (w:WR cl W S) (r:RUs cl W vs ds) (h:PO cl (RU cl) W Q Z (mkT ds S)):vs.length≤LM∧∀ p,W.H p=none→Q (.ref p) (upd W.H p (.tup vs)):=by
 unfold mkT at h;split at h
 ·next xs ep =>
  have r:=r.pure ep;split at h
  ·next l =>
   rw [← r.length] at l;exact ⟨l,fun p hp=>h (W.add p (.tup vs)) (.ref p) (Ext.add hp) (w.add hp) (.d (.tup (.inr rfl) zAc l (r.mono (Ext.add hp))))⟩
  ·exact h.elim
 ·exact h.elim
theorem zKb {W:Wo}{S:Sto}{vs:List V}{ds:List U}{Q:VK}{Z:Addr→Addr→Hp→Prop} (w:WR cl W S) (r:RUs cl W vs ds) (h:PO cl (RU cl) W Q Z (mkL ds S)):vs.length≤LM∧∀ p,W.H p=none→Q (.ref p) (upd W.H p (.lst vs)):=by
 unfold mkL at h;split at h
 ·next xs ep =>
  have r:=r.pure ep;split at h
  ·next l =>
   rw [← r.length] at l;exact ⟨l,fun p hp=>h (W.add p (.lst vs)) (.ref p) (Ext.add hp) (w.add hp) (.d (.lst (.inr rfl) zAc l (r.mono (Ext.add hp))))⟩
  ·exact h.elim
 ·exact h.elim
theorem notG {W:Wo}{S:Sto}{p:Addr} (w:WR cl W S) (h:W.H p=none):¬ W.G p:=fun g=>by
 obtain ⟨o,e,_⟩:=w.gd p g;rw [h] at e;cases e
theorem zUc {W:Wo}{S:Sto}{vs:List V}{ds:List U}{Q:VK}{Z:Addr→Addr→Hp→Prop} (w:WR cl W S) (l:vs.length≤LM) (r:RUs cl W vs ds) (h:PO cl (RU cl) W Q Z (.ok (.loc S.length) (S++[.lst ds]))):∀ p,W.H p=none→Q (.ref p) (upd W.H p (.lst vs)):=fun p hp =>
 h (W.new p (.lst vs)) (.ref p) (Ext.new hp) (w.new hp ⟨(notG w hp:¬ W.G p),vs,zAc,l,r.mono (Ext.new hp)⟩) (.loc (by show (W.μ++[p])[S.length]? = some p;rw [← w.len,Zg (Z1 _)];simp))
theorem zE1 {es:List Expr}{g:FAr}{x1} (h:DA cl X Z es g):DE cl X Z (.Tuple es x1 pos) (dTup g):=by
 obtain ⟨ta,pa,ca⟩:=h.ex;exact .of ⟨_,L2.yDj pa,fun W S σ ev Q w r h=>ca W S σ ev _ w r (PO.bind h fun d S1 W1 v e1 w1 r1 h1=>let ⟨l,q⟩:=zYu w1 r1 h1;⟨zNz l,q⟩)⟩
theorem zDd {es:List Expr}{g:FAr} (h:DA cl X Z es g):DE cl X Z (.List es pos) (dLst g):=by
 obtain ⟨ta,pa,ca⟩:=h.ex;exact .of ⟨_,L2.zYm pa,fun W S σ ev Q w r h=>ca W S σ ev _ w r (PO.bind h fun d S1 W1 v e1 w1 r1 h1=>let ⟨l,q⟩:=zKb w1 r1 h1;⟨zNz l,q⟩)⟩
theorem zSg {es:List Expr}{g:FAr} (h:DA cl X Z es g):DE cl X Z (.List es pos) (dCel g):=by
 obtain ⟨ta,pa,ca⟩:=h.ex;refine .of ⟨_,L2.zYm pa,fun W S σ ev Q w r h=>ca W S σ ev _ w r (PO.bind h fun d S1 W1 v e1 w1 r1 h1=>?_)⟩;split at h1
 ·next l =>
  rw [← r1.length] at l;exact ⟨zNz l,zUc w1 l r1 h1⟩
 ·exact h1.elim
def dNew:FE:=fun _ S=>.ok (.loc S.length) (S++[.dct []])
def dDct:FE:=fun _ S=>.ok (.d (.dct [])) S
theorem zNb:DE cl X Z (.Dict [] [] pos) dNew:=.of ⟨_,L2.zRp,fun W S σ ev Q w r h p hp =>
 h (W.new p (.dK [])) (.ref p) (Ext.new hp) (w.new hp ⟨(notG w hp:¬ W.G p),[],zAc,Y4 _,.nil⟩) (.loc (by show (W.μ++[p])[S.length]? = some p;rw [← w.len,Zg (Z1 _)];simp))⟩
theorem zZc:DE cl X Z (.Dict [] [] pos) dDct:=.of ⟨_,L2.zRp,fun W S σ ev Q w r h p hp =>
 h (W.add p (.dK [])) (.ref p) (Ext.add hp) (w.add hp) (.d (.dct (.inr rfl) (.inl zAc) (Y4 _) .nil))⟩
end
end L2.F
namespace L2.F
open PySem PySem.Spec PyProof.Rows L2
def Out.or {α : Type} (o o':Out α):Out α:=match o with
 | .st=>o'
 | o=>o
theorem PO.or {cl:Cl}{α β : Type}{R:Wo→β→α→Prop}{W:Wo}{Q : β→Hp→Prop}{Z:Addr→Addr→Hp→Prop}{o o':Out α} (h:PO cl R W Q Z (o.or o')):PO cl R W Q Z o∨PO cl R W Q Z o':=by
 cases o with
 | ok d S=>exact .inl h
 | ex c S=>exact .inl h
 | st=>exact .inr h
theorem zFj (z:Str):PyData.strOk z=true ↔ ∀ c∈z.cps.toList,c < 0x110000:=by
 unfold PyData.strOk;rw [← Array.all_toList,Zy];exact ⟨fun h c hc=>of_decide_eq_true (h c hc),fun h c hc=>decide_eq_true (h c hc)⟩
theorem zQ0 {x y:Str}:(x++y).cps.toList=x.cps.toList++y.cps.toList:=by
 show (Str.append x y).cps.toList=_;unfold Str.append;simp
theorem yFx {x y:Str}:(x++y).length=x.length + y.length:=by
 have:∀ z:Str,z.length=z.cps.toList.length:=fun z=>by rw [Zt];rfl
 rw [this,this x,this y,zQ0,Zf]
theorem zZn {x y:Str} (hx:TxtOk x) (hy:TxtOk y) (h:x.length + y.length≤100000):TxtOk (x++y):=by
 refine ⟨by rw [yFx];exact h,?_⟩;have h1:=(zFj x).mp hx.2;have h2:=(zFj y).mp hy.2;rw [zFj];intro c hc;rw [zQ0] at hc;rcases List.mem_append.mp hc with hc | hc
 ·exact h1 c hc
 ·exact h2 c hc
section
variable {cl:Cl}{X:Cx}
theorem OpD.or {f:Value→Value→Sem Value}{g g':U→U→Sto→Out U} (h:OpD cl X f g) (h':OpD cl X f g'):OpD cl X f (fun a b S=>(g a b S).or (g' a b S)):=by
 obtain ⟨r,ho,hg⟩:=h.ex;obtain ⟨r',ho',hg'⟩:=h'.ex;exact ⟨_,OpR.or ho ho',fun W S x y a b Q Z w ra rb h=>h.or.elim (fun h=>.inl (hg W S x y a b Q Z w ra rb h)) fun h=>.inr (hg' W S x y a b Q Z w ra rb h)⟩
def opI (C:Int→Int→Bool) (g:Int→Int→D) (a b:U) (S:Sto):Out U:=match a,b with
 | .d (.int i),.d (.int j)=>if C i j=true then .ok (.d (g i j)) S else .st
 | _,_=>.st
theorem zIq {C:Int→Int→Bool}{g:Int→Int→D}{W:Wo}{S:Sto}{x y:V}{a b:U}{Q:VK}{Z:Addr→Addr→Hp→Prop} (w:WR cl W S) (ra:RU cl W x a) (rb:RU cl W y b) (h:PO cl (RU cl) W Q Z (opI C g a b S)):∃ i j,x=.int i∧y=.int j∧C i j=true∧∀ v,RU cl W v (.d (g i j))→Q v W.H:=by
 cases ra with
 | d ra =>
  cases ra with
  | int i =>
   cases rb with
   | d rb =>
    cases rb with
    | int j =>
     have h:PO cl (RU cl) W Q Z (if C i j=true then .ok (.d (g i j)) S else .st):=h;split at h
     ·next c=>exact ⟨i,j,rfl,rfl,c,fun v r=>h.now w r⟩
     ·exact h.elim
    | _=>exact h.elim
   | loc _=>exact h.elim
  | _=>exact h.elim
 | loc _=>exact h.elim
def T2 (_ _:Int):Bool:=true
def addI:=opI T2 fun i j=>.int (i + j)
def subI:=opI T2 fun i j=>.int (i - j)
def small64 (i:Int):Bool:=decide (-(2 ^ 64) < i) && decide (i < 2 ^ 64)
def mulI:=opI (fun i j=>small64 i || small64 j) fun i j=>.int (i * j)
def modI:=opI (fun _ j=>decide (0 < j)) fun i j=>.int (i % j)
def divI:=opI (fun _ j=>decide (0 < j) && decide (j < 2 ^ 64)) fun i j=>.int (i / j)
theorem zWv:OpD cl X (binaryOp .Add) addI:=⟨_,yE6,fun W S x y a b Q Z w ra rb h=>let ⟨i,j,e1,e2,_,q⟩:=zIq w ra rb h;⟨i,j,e1,e2,q _ (.d (.int _))⟩⟩
theorem yAf:OpD cl X (binaryOp .Sub) subI:=⟨_,yDs,fun W S x y a b Q Z w ra rb h=>let ⟨i,j,e1,e2,_,q⟩:=zIq w ra rb h;⟨i,j,e1,e2,q _ (.d (.int _))⟩⟩
theorem zWr:OpD cl X (binaryOp .Mult) mulI:=⟨_,yDy,fun W S x y a b Q Z w ra rb h=>by
 obtain ⟨i,j,e1,e2,c,q⟩:=zIq w ra rb h;refine ⟨i,j,e1,e2,?_,q _ (.d (.int _))⟩;simp only [small64,Bool.or_eq_true,Zc,decide_eq_true_eq] at c
 exact c⟩
theorem zDt:OpD cl X (binaryOp .Mod) modI:=⟨_,yDz,fun W S x y a b Q Z w ra rb h=>let ⟨i,j,e1,e2,c,q⟩:=zIq w ra rb h;⟨i,j,e1,e2,of_decide_eq_true c,q _ (.d (.int _))⟩⟩
theorem zLf:OpD cl X (binaryOp .FloorDiv) divI:=⟨_,zWw,fun W S x y a b Q Z w ra rb h=>by
 obtain ⟨i,j,e1,e2,c,q⟩:=zIq w ra rb h;simp only [Zc,decide_eq_true_eq] at c
 exact ⟨i,j,e1,e2,c,q _ (.d (.int _))⟩⟩
def ltI:=opI T2 fun i j=>.bl (decide (i < j))
def leI:=opI T2 fun i j=>.bl (decide (i≤j))
def gtI:=opI T2 fun i j=>.bl (decide (j < i))
def geI:=opI T2 fun i j=>.bl (decide (j≤i))
theorem zYo:OpD cl X (compareOp .Lt) ltI:=⟨_,op_lt,fun W S x y a b Q Z w ra rb h=>let ⟨i,j,e1,e2,_,q⟩:=zIq w ra rb h;⟨i,j,e1,e2,q _ (.d (.bl _))⟩⟩
theorem zIo:OpD cl X (compareOp .LtE) leI:=⟨_,op_le,fun W S x y a b Q Z w ra rb h=>let ⟨i,j,e1,e2,_,q⟩:=zIq w ra rb h;⟨i,j,e1,e2,q _ (.d (.bl _))⟩⟩
theorem zIp:OpD cl X (compareOp .Gt) gtI:=⟨_,op_gt,fun W S x y a b Q Z w ra rb h=>let ⟨i,j,e1,e2,_,q⟩:=zIq w ra rb h;⟨i,j,e1,e2,q _ (.d (.bl _))⟩⟩
theorem zYp:OpD cl X (compareOp .GtE) geI:=⟨_,op_ge,fun W S x y a b Q Z w ra rb h=>let ⟨i,j,e1,e2,_,q⟩:=zIq w ra rb h;⟨i,j,e1,e2,q _ (.d (.bl _))⟩⟩
def addS (a b:U) (S:Sto):Out U:=match a,b with
 | .d (.str x),.d (.str y)=>if x.length + y.length≤100000 then .ok (.d (.str (x++y))) S else .st
 | _,_=>.st
theorem zWt:OpD cl X (binaryOp .Add) addS:=⟨_,zSz,fun W S x y a b Q Z w ra rb h=>by
 unfold addS at h;split at h
 ·next i j =>
  cases ra with
  | d ra =>
   cases ra with
   | str _ hi =>
    cases rb with
    | d rb =>
     cases rb with
     | str _ hj =>
      split at h
      ·next c=>exact ⟨i,j,rfl,rfl,Z3 c (by decide),h.now w (.d (.str _ (zZn hi hj c)))⟩
      ·exact h.elim
 ·exact h.elim⟩
def addT (a b:U) (S:Sto):Out U:=match a,b with
 | .d (.tup x),.d (.tup y)=>if x.length + y.length≤LM then .ok (.d (.tup (x++y))) S else .st
 | _,_=>.st
theorem zWs:OpD cl X (binaryOp .Add) addT:=⟨_,yAt rfl,fun W S x y a b Q Z w ra rb h=>by
 unfold addT at h;split at h
 ·cases ra with
  | d ra =>
   cases ra with
   | @tup p vs _ g e l r =>
    cases rb with
    | d rb =>
     cases rb with
     | @tup p' vs' _ g' e' l' r' =>
      split at h
      ·next c =>
       rw [← r.length,← r'.length] at c;refine ⟨p,p',vs,vs',rfl,rfl,.of e,.of e',zNz c,fun z=>?_,fun _ z=>?_,fun _ _ q hq=>?_⟩
       ·subst z;cases r;exact h.now w (.d (.tup g' e' l' r'))
       ·subst z;cases r';rw [List.append_nil] at h;exact h.now w (.d (.tup g e l r))
       ·exact h (W.add q _) _ (Ext.add hq) (w.add hq) (.d (.tup (.inr rfl) zAc (by rw [Zf];exact c) ((r.mono (Ext.add hq)).append (r'.mono (Ext.add hq)))))
      ·exact h.elim
 ·exact h.elim⟩
def addL (a b:U) (S:Sto):Out U:=match lstX S a with
 | some x=>match lstX S b with
  | some y=>mkL (x++y) S
  | none=>.st
 | none=>.st
theorem zWu:OpD cl X (binaryOp .Add) addL:=⟨_,yE5,fun W S x y a b Q Z w ra rb h=>by
 unfold addL at h;split at h
 ·next xs e1 =>
  split at h
  ·next ys e2 =>
   obtain ⟨p,vs,rfl,h1,h2,h3⟩:=zLq w ra e1;obtain ⟨p',vs',rfl,h1',h2',h3'⟩:=zLq w rb e2;obtain ⟨l,q⟩:=zKb w (h3.append h3') h;exact ⟨p,p',vs,vs',rfl,rfl,h1,h1',zNz (by rw [← Zf];exact l),q⟩
  ·exact h.elim
 ·exact h.elim⟩
def addD:=fun a b S=>(addI a b S).or ((addS a b S).or ((addT a b S).or (addL a b S)))
theorem zB8:OpD cl X (binaryOp .Add) addD:=.or zWv (.or zWt (.or zWs zWu))
def mulL (a b:U) (S:Sto):Out U:=match lstX S a,b with
 | some x,.d (.int k)=>if -(2 ^ 63)≤k∧k < 2 ^ 63∧x.length * k.toNat≤LM then mkL (List.replicate k.toNat x).flatten S else .st
 | _,_=>.st
theorem RUs.rep {W:Wo}{vs:List V}{ds:List U} (r:RUs cl W vs ds):∀ k:Nat,RUs cl W (List.replicate k vs).flatten (List.replicate k ds).flatten
 | 0=>.nil
 | k + 1=>by
  rw [Zu,Zu,Y5,Y5];exact r.append (r.rep k)
theorem zWq:OpD cl X (binaryOp .Mult) mulL:=⟨_,yDt,fun W S x y a b Q Z w ra rb h=>by
 unfold mulL at h;split at h
 ·next xs k e1 =>
  cases rb with
  | d rb =>
   cases rb;split at h
   ·next c =>
    obtain ⟨p,vs,rfl,h1,h2,h3⟩:=zLq w ra e1;obtain ⟨l,q⟩:=zKb w (h3.rep k.toNat) h;exact ⟨p,k,vs,rfl,rfl,h1,c.1,c.2.1,by rw [h3.length];exact zNz c.2.2,q⟩
   ·exact h.elim
 ·exact h.elim⟩
def mulD:=fun a b S=>(mulI a b S).or (mulL a b S)
theorem zFk:OpD cl X (binaryOp .Mult) mulD:=.or zWr zWq
def scD:D→D→Option Bool
 | .non,.non=>some true | .non,.int _=>some false | .int _,.non=>some false | .non,.bl _=>some false | .bl _,.non=>some false | .non,.str _=>some false | .str _,.non=>some false
 | .int i,.int j=>some (decide (i=j)) | .bl a,.bl b=>some (decide (a=b)) | .str x,.str y=>some (decide (x=y))
 | .int _,.str _=>some false | .str _,.int _=>some false | .bl _,.str _=>some false | .str _,.bl _=>some false
 | _,_=>none
def scU:U→U→Option Bool
 | .d a,.d b=>scD a b
 | _,_=>none
theorem zYg {W:Wo}{x y:V}{a b:U}{k:Bool} (ra:RU cl W x a) (rb:RU cl W y b) (h:scU a b=some k):scal x y=true∧decide (x=y)=k:=by
 cases ra with
 | d ra =>
  cases rb with
  | d rb=>cases ra <;> cases rb <;> first | (cases h;done) | (cases h;exact ⟨rfl,by simp⟩)
  | loc _=>cases h
 | loc _=>cases h
def boO (o:Option Bool) (neg:Bool) (S:Sto):Out U:=match o with
 | some b=>.ok (.d (.bl (xor neg b))) S
 | none=>.st
theorem zZf {W:Wo}{S:Sto}{o:Option Bool}{neg:Bool}{Q:VK}{Z:Addr→Addr→Hp→Prop} (w:WR cl W S) (h:PO cl (RU cl) W Q Z (boO o neg S)):∃ b,o=some b∧Q (.bl (xor neg b)) W.H:=by
 unfold boO at h;split at h
 ·next b=>exact ⟨b,rfl,h.now w (.d (.bl _))⟩
 ·exact h.elim
def eqS (a b:U) (S:Sto):Out U:=boO (scU a b) false S
def neS (a b:U) (S:Sto):Out U:=boO (scU a b) true S
theorem yAp:OpD cl X (compareOp .Eq) eqS:=⟨_,op_eq,fun W S x y a b Q Z w ra rb h=>by
 obtain ⟨k,e,q⟩:=zZf w h;obtain ⟨h1,h2⟩:=zYg ra rb e;refine ⟨h1,?_⟩;rw [h2]
 simpa using q⟩
theorem yAj:OpD cl X (compareOp .NotEq) neS:=⟨_,op_ne,fun W S x y a b Q Z w ra rb h=>by
 obtain ⟨k,e,q⟩:=zZf w h;obtain ⟨h1,h2⟩:=zYg ra rb e;refine ⟨h1,?_⟩;rw [h2]
 simpa using q⟩
def isNb:U→Bool
 | .d .non=>true
 | _=>false
theorem yEz {W:Wo}{x:V}{a:U} (ra:RU cl W x a):decide (x=.non)=isNb a:=by
 cases ra with
 | d ra=>cases ra <;> simp [isNb]
 | loc _=>simp [isNb]
def isND (neg:Bool) (a b:U) (S:Sto):Out U:=match b with
 | .d .non=>.ok (.d (.bl (xor neg (isNb a)))) S
 | _=>.st
theorem zUy {neg:Bool}{W:Wo}{S:Sto}{x y:V}{a b:U}{Q:VK}{Z:Addr→Addr→Hp→Prop} (w:WR cl W S) (ra:RU cl W x a) (rb:RU cl W y b) (h:PO cl (RU cl) W Q Z (isND neg a b S)):y=.non∧Q (.bl (xor neg (decide (x=.non)))) W.H:=by
 unfold isND at h;split at h
 ·cases rb with
  | d rb=>cases rb;exact ⟨rfl,by rw [yEz ra];exact h.now w (.d (.bl _))⟩
 ·exact h.elim
theorem zGe:OpD cl X (compareOp .Is) (isND false):=⟨_,yE0,fun W S x y a b Q Z w ra rb h=>let ⟨e,q⟩:=zUy w ra rb h;⟨e,by simpa using q⟩⟩
theorem zDu:OpD cl X (compareOp .IsNot) (isND true):=⟨_,yAs,fun W S x y a b Q Z w ra rb h=>let ⟨e,q⟩:=zUy w ra rb h;⟨e,by simpa using q⟩⟩
end
end L2.F
namespace L2.F
open PySem PySem.Spec PyProof.Rows L2
mutual
def toP:D→Option PyData
 | .non=>some .none
 | .bl b=>some (.bool b)
 | .int i=>some (.int i)
 | .str x=>some (.str x)
 | .tup xs=>(toPs xs).map .tuple
 | .lst xs=>(toPs xs).map .list
 | .frl xs=>(toPs xs).map .list
 | .dct _=>none
 | .obj _ _=>none
def toPs:List D→Option (List PyData)
 | []=>some []
 | x :: xs=>match toP x with
  | some p=>(toPs xs).map (p :: ·)
  | none=>none
end
def toQ (S:Sto):U→Option PyData
 | .loc n=>match celL S n with
  | some xs=>match pureL xs with
   | some ds=>(toPs ds).map .list
   | none=>none
  | none=>none
 | .d x=>toP x
section
variable {cl:Cl}{X:Cx}{pins:List (Addr×Obj)}{σ : St}{s:Shared}{W:Wo}
mutual
theorem Rp.reads (I:Inv X pins σ W.H s):∀ {v:V}{d:D}{p:PyData}{u:Value},Rp cl W v d→toP d=some p→RelV v u→(∃ as,Reads s.heap u p as)∧p.canLay0=true
 | _,_,p,u,.non,h,r=>by cases h;cases (show u=Value.none from r);exact ⟨⟨_,.none⟩,rfl⟩
 | _,_,p,u,.bl b,h,r=>by cases h;cases (show u=Value.bool b from r);exact ⟨⟨_,.bool b⟩,rfl⟩
 | _,_,p,u,.int i,h,r=>by cases h;obtain ⟨t,rfl⟩:=(show ∃ t,u=Value.int i t from r);exact ⟨⟨_,.int i t⟩,rfl⟩
 | _,_,p,u,.str x hx,h,r=>by cases h;obtain ⟨t,rfl⟩:=(show ∃ t,u=Value.str x t from r);exact ⟨⟨_,.str x t⟩,hx.2⟩
 | _,_,p,u,.tup (a:=a) (ds:=ds) g e l q,h,r=>by
  cases (show u=Value.ref a from r);obtain ⟨ps,e1,rfl⟩:=Option.map_eq_some_iff.mp (show (toPs ds).map PyData.tuple=some p from h);obtain ⟨_,its,rv,⟨o,eo,c,n,d⟩⟩:=I.hok a _ e;obtain ⟨⟨as,ra⟩,lay⟩:=RpAll.reads I q e1 rv;exact ⟨⟨_,.tuple eo c d (by simpa using ra)⟩,lay⟩
 | _,_,p,u,.lst (a:=a) (ds:=ds) g e l q,h,r=>by
  cases (show u=Value.ref a from r);obtain ⟨ps,e1,rfl⟩:=Option.map_eq_some_iff.mp (show (toPs ds).map PyData.list=some p from h);obtain ⟨_,its,n,rv,eo⟩:=I.hok a _ e;obtain ⟨⟨as,ra⟩,lay⟩:=RpAll.reads I q e1 rv;exact ⟨⟨_,.list eo rfl rfl (by simpa using ra)⟩,lay⟩
 | _,_,p,u,.frl (a:=a) (ds:=ds) (vs:=vs) g e l q,h,r=>by
  cases (show u=Value.ref a from r);obtain ⟨ps,e1,rfl⟩:=Option.map_eq_some_iff.mp (show (toPs ds).map PyData.list=some p from h);obtain ⟨_,its,n,rv,eo⟩:=(show Rd W.H a (.lst vs) from .inr ⟨_,e⟩).ok I.hok;obtain ⟨⟨as,ra⟩,lay⟩:=RpAll.reads I q e1 rv;exact ⟨⟨_,.list eo rfl rfl (by simpa using ra)⟩,lay⟩
 | _,_,p,u,.dct _ _ _ _,h,r=>by cases h
 | _,_,p,u,.obj _ _ _,h,r=>by cases h
theorem RpAll.reads (I:Inv X pins σ W.H s):∀ {vs:List V}{ds:List D}{ps:List PyData}{us:List Value},RpAll cl W vs ds→toPs ds=some ps→Vals vs us→(∃ as,ReadsAll s.heap us ps as)∧PyData.canLayAll0 ps=true
 | _,_,ps,us,.nil,h,r=>by
  cases h;cases r;exact ⟨⟨_,.nil⟩,rfl⟩
 | _,_,ps,us,.cons (d:=d) (ds:=ds) q t,h,r=>by
  have h:(match toP d with | some p=>(toPs ds).map (p :: ·) | none=>none)=some ps:=h;split at h
  ·next p ep =>
   obtain ⟨qs,e1,rfl⟩:=Option.map_eq_some_iff.mp h;cases r with
   | cons r1 r2 =>
    obtain ⟨⟨as,ra⟩,l1⟩:=Rp.reads I q ep r1;obtain ⟨⟨bs,rb⟩,l2⟩:=RpAll.reads I t e1 r2;refine ⟨⟨_,.cons ra rb⟩,?_⟩;show (PyData.canLay0 _ && PyData.canLayAll0 _)=true;rw [l1,l2];rfl
  ·cases h
end
theorem readsQ {S:Sto} (I:Inv X pins σ W.H s) (w:WR cl W S) {v:V}{d:U}{p:PyData}{u:Value} (h:RU cl W v d) (e:toQ S d=some p) (r:RelV v u):(∃ as,Reads s.heap u p as)∧p.canLay0=true:=by
 cases d with
 | loc n =>
  have e:(match celL S n with | some xs=>(match pureL xs with | some ds=>(toPs ds).map PyData.list | none=>none) | none=>none)=some p:=e;split at e
  ·next xs ex =>
   split at e
   ·next ds ep =>
    obtain ⟨a,vs,rfl,_,_,h1,h2,h3⟩:=zKl w h ex;obtain ⟨ps,e1,rfl⟩:=Option.map_eq_some_iff.mp e;cases (show u=Value.ref a from r);obtain ⟨_,its,n,rv,eo⟩:=I.hok a _ h1;obtain ⟨⟨as,ra⟩,lay⟩:=RpAll.reads I (h3.pure ep) e1 rv;exact ⟨⟨_,.list eo rfl rfl (by simpa using ra)⟩,lay⟩
   ·cases e
  ·cases e
 | d x =>
  cases h with
  | d h=>exact Rp.reads I h e r
def eqP (neg:Bool) (a b:U) (S:Sto):Out U:=match toQ S a,toQ S b with
 | some p,some q=>if p.depth≤60∧q.depth≤60 then .ok (.d (.bl (xor neg (PyData.eqv p q)))) S else .st
 | _,_=>.st
theorem zZ6 {neg:Bool}{S:Sto}{x y:V}{a b:U}{Q:VK}{Z:Addr→Addr→Hp→Prop} (w:WR cl W S) (h:PO cl (RU cl) W Q Z (eqP neg a b S)):∃ p q,toQ S a=some p∧toQ S b=some q∧p.depth≤60∧q.depth≤60∧Q (.bl (xor neg (PyData.eqv p q))) W.H:=by
 unfold eqP at h;split at h
 ·next p q e1 e2 =>
  split at h
  ·next c=>exact ⟨p,q,e1,e2,c.1,c.2,h.now w (.d (.bl _))⟩
  ·exact h.elim
 ·exact h.elim
def rP (cl:Cl) (g:PyData→PyData→Bool):L2.R2:=fun x y H Q=>∃ W S a b p q,W.H=H∧WR cl W S∧RU cl W x a∧RU cl W y b∧toQ S a=some p∧toQ S b=some q∧p.depth≤60∧q.depth≤60∧Q (.bl (g p q)) H
theorem shp {p:PyData} (l:p.canLay0=true) (h:p.depth≤60):SeqAt.shaped p=true:=by
 unfold SeqAt.shaped;rw [l,decide_eq_true (Z3 h (by decide))];rfl
theorem yE3 (hu:X.A.units + 64 < cLine):OpR X (compareOp .Eq) (rP cl fun p q=>PyData.eqv p q):=by
 intro pins s σ H x y u v Q I rx ry h;obtain ⟨W,S,a,b,p,q,rfl,w,ra,rb,e1,e2,d1,d2,qq⟩:=h;obtain ⟨⟨as,h1⟩,l1⟩:=readsQ I w ra e1 rx;obtain ⟨⟨bs,h2⟩,l2⟩:=readsQ I w rb e2 ry;exact eq_dataH h1 h2 (shp l1 d1) (shp l2 d2) hu ⟨.bl _,_,I,rfl,qq⟩
theorem yDw (hu:X.A.units + 64 < cLine):OpR X (compareOp .NotEq) (rP cl fun p q=>!PyData.eqv p q):=by
 intro pins s σ H x y u v Q I rx ry h;obtain ⟨W,S,a,b,p,q,rfl,w,ra,rb,e1,e2,d1,d2,qq⟩:=h;obtain ⟨⟨as,h1⟩,l1⟩:=readsQ I w ra e1 rx;obtain ⟨⟨bs,h2⟩,l2⟩:=readsQ I w rb e2 ry;exact ne_dataH h1 h2 (shp l1 d1) (shp l2 d2) hu ⟨.bl _,_,I,rfl,qq⟩
theorem yAq (hu:X.A.units + 64 < cLine):OpD cl X (compareOp .Eq) (eqP false):=⟨_,yE3 hu,fun W S x y a b Q Z w ra rb h=>by
 obtain ⟨p,q,e1,e2,d1,d2,qq⟩:=zZ6 (x:=x) (y:=y) w h
 exact ⟨W,S,a,b,p,q,rfl,w,ra,rb,e1,e2,d1,d2,by simpa using qq⟩⟩
theorem yAk (hu:X.A.units + 64 < cLine):OpD cl X (compareOp .NotEq) (eqP true):=⟨_,yDw hu,fun W S x y a b Q Z w ra rb h=>by
 obtain ⟨p,q,e1,e2,d1,d2,qq⟩:=zZ6 (x:=x) (y:=y) w h
 exact ⟨W,S,a,b,p,q,rfl,w,ra,rb,e1,e2,d1,d2,by simpa using qq⟩⟩
def eqD:=fun a b S=>(eqS a b S).or (eqP false a b S)
def neD:=fun a b S=>(neS a b S).or (eqP true a b S)
theorem yDr (hu:X.A.units + 64 < cLine):OpD cl X (compareOp .Eq) eqD:=.or yAp (yAq hu)
theorem yDq (hu:X.A.units + 64 < cLine):OpD cl X (compareOp .NotEq) neD:=.or yAj (yAk hu)
def seqP:PyData→Option (List PyData)
 | .list xs=>some xs
 | .tuple xs=>some xs
 | _=>none
def inP (neg:Bool) (a b:U) (S:Sto):Out U:=match toQ S a,toQ S b with
 | some p,some q=>match seqP q with
  | some qs=>if p.depth≤60∧q.depth≤60 then .ok (.d (.bl (xor neg (qs.any fun y=>PyData.eqv y p)))) S else .st
  | none=>.st
 | _,_=>.st
theorem yE1 (hu:X.A.in1.units + 64 < cLine):OpR X (compareOp .In) (fun x y H Q=>∃ W S a b p q qs,W.H=H∧WR cl W S∧RU cl W x a∧RU cl W y b∧toQ S a=some p∧toQ S b=some q∧p.depth≤60∧seqP q=some qs∧Q (.bl (qs.any fun y=>PyData.eqv y p)) H):=by
 intro pins s σ H x y u v Q I rx ry h;obtain ⟨W,S,a,b,p,q,qs,rfl,w,ra,rb,e1,e2,d1,sq,qq⟩:=h;obtain ⟨⟨as,h1⟩,l1⟩:=readsQ I w ra e1 rx;obtain ⟨⟨bs,h2⟩,l2⟩:=readsQ I w rb e2 ry;have hu':X.A.units + 1 + 64 < cLine:=hu;cases q with
 | list xs =>
  cases sq;exact SeqAt.in_list_reads h2 h1 l2 l1 (by have:=Nat.min_le_right (PyData.depthAll qs) p.depth;omega) ⟨.bl _,_,I,rfl,qq⟩
 | tuple xs =>
  cases sq;exact SeqAt.in_tuple_reads h2 h1 l2 l1 (by have:=Nat.min_le_right (PyData.depthAll qs) p.depth;omega) ⟨.bl _,_,I,rfl,qq⟩
 | _=>cases sq
theorem yDu (hu:X.A.in1.units + 64 < cLine):OpR X (compareOp .NotIn) (fun x y H Q=>∃ W S a b p q qs,W.H=H∧WR cl W S∧RU cl W x a∧RU cl W y b∧toQ S a=some p∧toQ S b=some q∧p.depth≤60∧seqP q=some qs∧Q (.bl (!qs.any fun y=>PyData.eqv y p)) H):=by
 intro pins s σ H x y u v Q I rx ry h;obtain ⟨W,S,a,b,p,q,qs,rfl,w,ra,rb,e1,e2,d1,sq,qq⟩:=h;obtain ⟨⟨as,h1⟩,l1⟩:=readsQ I w ra e1 rx;obtain ⟨⟨bs,h2⟩,l2⟩:=readsQ I w rb e2 ry;have hu':X.A.units + 1 + 64 < cLine:=hu;cases q with
 | list xs =>
  cases sq;exact SeqAt.notIn_list_reads h2 h1 l2 l1 (by have:=Nat.min_le_right (PyData.depthAll qs) p.depth;omega) ⟨.bl _,_,I,rfl,qq⟩
 | tuple xs =>
  cases sq;exact SeqAt.notIn_tuple_reads h2 h1 l2 l1 (by have:=Nat.min_le_right (PyData.depthAll qs) p.depth;omega) ⟨.bl _,_,I,rfl,qq⟩
 | _=>cases sq
theorem zZ1 {neg:Bool}{S:Sto}{a b:U}{Q:VK}{Z:Addr→Addr→Hp→Prop} (w:WR cl W S) (h:PO cl (RU cl) W Q Z (inP neg a b S)):∃ p q qs,toQ S a=some p∧toQ S b=some q∧p.depth≤60∧seqP q=some qs∧Q (.bl (xor neg (qs.any fun y=>PyData.eqv y p))) W.H:=by
 unfold inP at h;split at h
 ·next p q e1 e2 =>
  split at h
  ·next qs e3 =>
   split at h
   ·next c=>exact ⟨p,q,qs,e1,e2,c.1,e3,h.now w (.d (.bl _))⟩
   ·exact h.elim
  ·exact h.elim
 ·exact h.elim
theorem yAn (hu:X.A.in1.units + 64 < cLine):OpD cl X (compareOp .In) (inP false):=⟨_,yE1 hu,fun W S x y a b Q Z w ra rb h=>by
 obtain ⟨p,q,qs,e1,e2,d1,e3,qq⟩:=zZ1 w h
 exact ⟨W,S,a,b,p,q,qs,rfl,w,ra,rb,e1,e2,d1,e3,by simpa using qq⟩⟩
theorem yAh (hu:X.A.in1.units + 64 < cLine):OpD cl X (compareOp .NotIn) (inP true):=⟨_,yDu hu,fun W S x y a b Q Z w ra rb h=>by
 obtain ⟨p,q,qs,e1,e2,d1,e3,qq⟩:=zZ1 w h
 exact ⟨W,S,a,b,p,q,qs,rfl,w,ra,rb,e1,e2,d1,e3,by simpa using qq⟩⟩
def inS (neg:Bool) (a b:U) (S:Sto):Out U:=match a,b with
 | .d (.str i),.d (.str j)=>.ok (.d (.bl (xor neg (!(Builtin.Str.occurrences j i 0 j.length 1).isEmpty)))) S
 | _,_=>.st
theorem zZ0 {neg:Bool}{S:Sto}{x y:V}{a b:U}{Q:VK}{Z:Addr→Addr→Hp→Prop} (w:WR cl W S) (ra:RU cl W x a) (rb:RU cl W y b) (h:PO cl (RU cl) W Q Z (inS neg a b S)):∃ i j,x=.str i∧y=.str j∧Q (.bl (xor neg (!(Builtin.Str.occurrences j i 0 j.length 1).isEmpty))) W.H:=by
 unfold inS at h;split at h
 ·cases ra with
  | d ra =>
   cases ra;cases rb with
   | d rb =>
    cases rb;exact ⟨_,_,rfl,rfl,h.now w (.d (.bl _))⟩
 ·exact h.elim
theorem yAm:OpD cl X (compareOp .In) (inS false):=⟨_,zU6,fun W S x y a b Q Z w ra rb h=>let ⟨i,j,e1,e2,q⟩:=zZ0 w ra rb h;⟨i,j,e1,e2,by simpa using q⟩⟩
theorem yAg:OpD cl X (compareOp .NotIn) (inS true):=⟨_,zOt,fun W S x y a b Q Z w ra rb h=>let ⟨i,j,e1,e2,q⟩:=zZ0 w ra rb h;⟨i,j,e1,e2,by simpa using q⟩⟩
def keyD:U→Option Key
 | .d (.int i)=>some (.inl i)
 | .d (.str x)=>some (.inr x)
 | _=>none
theorem zDw {v:V}{d:U}{k:Key} (r:RU cl W v d) (h:keyD d=some k):v=kV k:=by
 cases r with
 | d r=>cases r <;> first | (cases h;done) | (cases h;rfl)
 | loc _=>cases h
def inK (neg:Bool) (a b:U) (S:Sto):Out U:=match keyD a,dctOf S b with
 | some k,some es=>.ok (.d (.bl (xor neg (valD es k).isSome))) S
 | _,_=>.st
theorem zO3 {a:Addr}{vs:List (Key×V)}{es:List (Key×U)}{k:Key} (r:Rd W.H a (.dK vs)) (q:RUK cl W vs es):∃ o,DGet W.H a (kV k) o∧(match valD es k with | some x=>∃ v,o=some v∧RU cl W v x | none=>o=none):=⟨valV vs k,.inl ⟨vs,k,r,rfl,rfl⟩,q.val⟩
theorem yE2 (hu:X.A.units + 1 < cLine):OpR X (compareOp .In) (fun y x H Q=>∃ a o,x=.ref a∧DGet H a y o∧Q (.bl o.isSome) H):=by
 intro pins s σ H y x iv u Q I ry rx h;obtain ⟨a,o,rfl,g,q⟩:=h;obtain rfl:u=Value.ref a:=rx;exact d_in hu I g ry fun s3 I3=>⟨.bl o.isSome,H,I3,rfl,q⟩
theorem yDv (hu:X.A.units + 1 < cLine):OpR X (compareOp .NotIn) (fun y x H Q=>∃ a o,x=.ref a∧DGet H a y o∧Q (.bl (!o.isSome)) H):=by
 intro pins s σ H y x iv u Q I ry rx h;obtain ⟨a,o,rfl,g,q⟩:=h;obtain rfl:u=Value.ref a:=rx;exact yBq hu I g ry fun s3 I3=>⟨.bl (!o.isSome),H,I3,rfl,q⟩
theorem zZ2 {neg:Bool}{S:Sto}{x y:V}{a b:U}{Q:VK}{Z:Addr→Addr→Hp→Prop} (w:WR cl W S) (ra:RU cl W x a) (rb:RU cl W y b) (h:PO cl (RU cl) W Q Z (inK neg a b S)):∃ p o,y=.ref p∧DGet W.H p x o∧Q (.bl (xor neg o.isSome)) W.H:=by
 unfold inK at h;split at h
 ·next k es e1 e2 =>
  obtain ⟨p,vs,rfl,h1,h2,h3⟩:=zEp w rb e2;obtain ⟨o,g,m⟩:=zO3 (k:=k) h1 h3;refine ⟨p,o,rfl,by rw [zDw ra e1];exact g,?_⟩;have:o.isSome=(valD es k).isSome:=by
   split at m
   ·next x e=>obtain ⟨v,rfl,_⟩:=m;rw [e];rfl
   ·next e=>rw [m,e];rfl
  rw [this];exact h.now w (.d (.bl _))
 ·exact h.elim
theorem yAo (hu:X.A.units + 1 < cLine):OpD cl X (compareOp .In) (inK false):=⟨_,yE2 hu,fun W S x y a b Q Z w ra rb h=>let ⟨p,o,e,g,q⟩:=zZ2 w ra rb h;⟨p,o,e,g,by simpa using q⟩⟩
theorem yAi (hu:X.A.units + 1 < cLine):OpD cl X (compareOp .NotIn) (inK true):=⟨_,yDv hu,fun W S x y a b Q Z w ra rb h=>let ⟨p,o,e,g,q⟩:=zZ2 w ra rb h;⟨p,o,e,g,by simpa using q⟩⟩
def inD:=fun a b S=>(inS false a b S).or ((inK false a b S).or (inP false a b S))
def niD:=fun a b S=>(inS true a b S).or ((inK true a b S).or (inP true a b S))
theorem zK7 (hu:X.A.in1.units + 64 < cLine):OpD cl X (compareOp .In) inD:=.or yAm (.or (yAo (by have:X.A.units + 1 + 64 < cLine:=hu;omega)) (yAn hu))
theorem zLe (hu:X.A.in1.units + 64 < cLine):OpD cl X (compareOp .NotIn) niD:=.or yAg (.or (yAi (by have:X.A.units + 1 + 64 < cLine:=hu;omega)) (yAh hu))
end
end L2.F
namespace L2.F
open PySem PySem.Spec PyProof.Rows L2
abbrev CTb:=List (Str×List Str)
def hasF (ct:CTb) (c f:Str):Bool:=match ct.lookup c with
 | some fs=>fs.contains f
 | none=>false
structure TbOk (K:PySem.W.Frag) (cl:Cl) (ct:CTb):Prop where
 fl:∀ c f,hasF ct c f=true→Cls K (cl c)∧NoAttr K (cl c) f
def fldD (ct:CTb) (f:Str) (d:U) (S:Sto):Out U:=match insOf S d with
 | some (c,fs)=>if hasF ct c f=true then match fs.lookup f with
  | some x=>.ok x S
  | none=>.st
  else .st
 | none=>.st
section
variable {cl:Cl}{X:Cx}{Z:TZ}{a b c:Expr}{fa fb fc:FE}{pos:Pos}
theorem zAg {ct:CTb}{f:Str} (T:TbOk X.K cl ct) (ha:DE cl X Z a fa) (hb:attributeBase a f X.env (eval a X.env)=eval a X.env:=by rfl):DE cl X Z (.Attribute a f pos) (d1 (fldD ct f) fa):=by
 obtain ⟨ta,pa,ca⟩:=ha.ex;refine .of ⟨_,L2.yDo pa hb,fun W S σ ev Q w r h=>ca W S σ ev _ w r (PO.bind h fun d S1 W1 v e1 w1 r1 h1=>?_)⟩;unfold fldD at h1;split at h1
 ·next c fs e =>
  obtain ⟨p,dx,gs,rfl,h2,h3⟩:=zPh w1 r1 e;split at h1
  ·next hf =>
   split at h1
   ·next x ex =>
    obtain ⟨v,h4,h5⟩:=h3.look ex;obtain ⟨k1,k2⟩:=T.fl c f hf;exact ⟨p,_,dx,gs,v,rfl,h2,k1,k2,h4,h1.now w1 h5⟩
   ·exact h1.elim
  ·exact h1.elim
 ·exact h1.elim
theorem zNf:100000≤sizeLine:=by decide
theorem IxR.or {r r':L2.R2} (h:IxR X r) (h':IxR X r'):IxR X (fun x y H Q=>r x y H Q∨r' x y H Q):=fun value slice pins s σ H x y v u Q I rx ry q=>q.elim (h value slice pins s σ H x y v u Q I rx ry) (h' value slice pins s σ H x y v u Q I rx ry)
theorem yB9 (hu:X.A.units + 1 < cLine):IxR X (fun x y H Q=>∃ p v,x=.ref p∧DGet H p y (some v)∧Q v H):=by
 intro value slice pins s σ H x y v u Q I rx ry h hs;obtain ⟨p,z,rfl,g,q⟩:=h;obtain rfl:v=Value.ref p:=rx;exact tail_any (zQs I g) PySem.F.slot_dict_getitem.lookup (zVo hu I g ry fun w' s3 I3 rw'=>⟨z,H,I3,rw',q⟩) hs
def ixD (a b:U) (S:Sto):Out U:=match dctOf S a with
 | some es=>match keyD b with
  | some k=>match valD es k with
   | some x=>.ok x S
   | none=>.st
  | none=>.st
 | none=>match b with
  | .d (.int i)=>match a with
   | .d (.tup xs)=>match atI xs i with
    | some x=>.ok (.d x) S
    | none=>.st
   | .d (.str z)=>match atI z.cps.toList i with
    | some k=>.ok (.d (.str ⟨#[k]⟩)) S
    | none=>.st
   | a=>match lstOf S a with
    | some xs=>match atI xs i with
     | some x=>.ok x S
     | none=>.st
    | none=>.st
  | _=>.st
theorem yFv {W:Wo}{vs:List V}{ds:List D}{i:Int}{x:D} (r:RpAll cl W vs ds) (h:atI ds i=some x):∃ v,atI vs i=some v∧Rp cl W v x:=by
 unfold atI at h ⊢;rw [r.length];cases e:ixN ds.length i with
 | none=>rw [e] at h;cases h
 | some j=>rw [e] at h;exact r.get h
theorem at_of {W:Wo}{vs:List V}{ds:List U}{i:Int}{x:U} (r:RUs cl W vs ds) (h:atI ds i=some x):∃ v,atI vs i=some v∧RU cl W v x:=by
 unfold atI at h ⊢;rw [r.length];cases e:ixN ds.length i with
 | none=>rw [e] at h;cases h
 | some j=>rw [e] at h;exact r.get h
theorem zZm {z:Str}{i:Int}{k:Nat} (hz:TxtOk z) (h:atI z.cps.toList i=some k):TxtOk ⟨#[k]⟩:=by
 refine ⟨by show 1≤100000;decide,?_⟩;rw [zFj];intro c hc;have hc:c=k:=by simpa using hc
 rw [hc];unfold atI at h;cases e:ixN z.cps.toList.length i with
 | none=>rw [e] at h;cases h
 | some j=>rw [e] at h;exact (zFj z).mp hz.2 k (Zh h)
theorem zAq (hu:X.A.units + 1 < cLine) (ha:DE cl X Z a fa) (hb:DE cl X Z b fb) (hs:PlainIx b:=by exact fun _ _=>rfl):DE cl X Z (.Subscript a b pos) (d2 ixD fa fb):=by
 obtain ⟨ta,pa,ca⟩:=ha.ex;obtain ⟨tb,pb,cb⟩:=hb.ex;refine .of ⟨_,L2.pe_ix (IxR.or (yB9 hu) yEx) pa pb hs,fun W S σ ev Q w r h=>ca W S σ ev _ w r (PO.bind h fun x S1 W1 v e1 w1 r1 h1=>cb W1 S1 σ ev _ w1 (r.mono e1) (PO.bind h1 fun y S2 W2 u e2 w2 r2 h2=>?_))⟩;have r1:=r1.mono e2;unfold ixD at h2;split at h2
 ·next es ed =>
  split at h2
  ·next k ek =>
   split at h2
   ·next z ez =>
    obtain ⟨p,vs,rfl,g1,g2,g3⟩:=zEp w2 r1 ed;obtain ⟨o,g,m⟩:=zO3 (k:=k) g1 g3;rw [ez] at m;obtain ⟨q,rfl,rq⟩:=m;rw [← zDw r2 ek] at g;exact .inl ⟨p,q,rfl,g,h2.now w2 rq⟩
   ·exact h2.elim
  ·exact h2.elim
 ·split at h2
  ·next i =>
   cases r2 with
   | d r2 =>
   cases r2;have go:∀ ds,lstOf S2 x=some ds→PO cl (RU cl) W2 Q (Z σ) (match atI ds i with | some x=>.ok x S2 | none=>.st)→rIx X.K v (.int i) W2.H Q:=fun ds el h=>by
    obtain ⟨p,vs,rfl,g1,g2,g3⟩:=zEk (K:=X.K) w2 r1 el;split at h
    ·next z ez =>
     obtain ⟨q,h3,h4⟩:=at_of g3 ez;exact .inl ⟨p,vs,i,q,rfl,rfl,g1,h3,h.now w2 h4⟩
    ·exact h.elim
   refine .inr ?_;split at h2
   ·next xs =>
    obtain ⟨p,vs,rfl,g1,g2,g3⟩:=zMn (K:=X.K) r1;split at h2
    ·next z ez =>
     obtain ⟨q,h3,h4⟩:=yFv g3 ez;exact .inr (.inl ⟨p,vs,i,q,rfl,rfl,g1,h3,h2.now w2 (.d h4)⟩)
    ·exact h2.elim
   ·cases r1 with
    | d r1 =>
    cases r1 with
    | str _ hz =>
     split at h2
     ·next k ek=>exact .inr (.inr ⟨_,i,k,rfl,rfl,Z3 hz.1 zNf,ek,h2.now w2 (.d (.str _ (zZm hz ek)))⟩)
     ·exact h2.elim
   ·split at h2
    ·next ds el=>exact go ds el h2
    ·exact h2.elim
  ·exact h2.elim
abbrev FO:=Ev→Sto→Out (Option Int)
def RO (_:Wo) (a b:Option Int):Prop:=a=b
structure DO (cl:Cl) (X:Cx) (Z:TZ) (e:Option Expr) (f:FO):Prop where
 pe:L2.PO X e (tF cl RO Z f)
theorem DO.of {cl:Cl}{X:Cx}{Z:TZ}{e:Option Expr}{f:FO} (h:∃ t,L2.PO X e t∧∀ (W:Wo) (S:Sto) (σ : St) (ev:Ev) (Q:Option Int→Hp→Prop),WR cl W S→ER cl W σ ev→PO cl RO W Q (Z σ) (f ev S)→t σ W.H Q):DO cl X Z e f:=by
 obtain ⟨t,p,c⟩:=h;exact ⟨fun pins s σ H Q I ⟨W,S,ev,e,w,r,h⟩=>p pins s σ H Q I (by rw [← e];exact c W S σ ev Q w r h)⟩
theorem DO.ex {cl:Cl}{X:Cx}{Z:TZ}{e:Option Expr}{f:FO} (h:DO cl X Z e f):∃ t,L2.PO X e t∧∀ (W:Wo) (S:Sto) (σ : St) (ev:Ev) (Q:Option Int→Hp→Prop),WR cl W S→ER cl W σ ev→PO cl RO W Q (Z σ) (f ev S)→t σ W.H Q:=⟨_,h.pe,fun W S σ ev Q w r h=>⟨W,S,ev,rfl,w,r,h⟩⟩
def oNo:FO:=fun _ S=>.ok none S
def oSo (fa:FE):FO:=fun ev S=>(fa ev S).bind fun d S=>match d with
 | .d (.int i)=>.ok (some i) S
 | _=>.st
theorem zT8:DO cl X Z none oNo:=.of ⟨_,L2.yA4,fun W S σ ev Q w r h=>h.now w rfl⟩
theorem zPn (ha:DE cl X Z a fa):DO cl X Z (some a) (oSo fa):=by
 obtain ⟨ta,pa,ca⟩:=ha.ex;refine .of ⟨_,L2.yA3 pa,fun W S σ ev Q w r h=>ca W S σ ev _ w r (PO.bind h fun d S1 W1 v e1 w1 r1 h1=>?_)⟩;split at h1
 ·next i =>
  cases r1 with
  | d r1=>cases r1;exact ⟨i,rfl,h1.now w1 rfl⟩
 ·exact h1.elim
def cutD {α : Type} (xs:List α) (lo hi:Option Int):List α:=(xs.drop (HT.sIx xs.length 0 lo)).take (HT.sIx xs.length xs.length hi - HT.sIx xs.length 0 lo)
def whole (n:Nat) (lo hi:Option Int):Bool:=decide (HT.sIx n 0 lo=0) && decide (HT.sIx n n hi=n)
def slD (a:U) (lo hi:Option Int) (S:Sto):Out U:=match a with
 | .d (.tup xs)=>if whole xs.length lo hi=true then .st else .ok (.d (.tup (cutD xs lo hi))) S
 | .d (.str z)=>.ok (.d (.str (Txt.slice z lo hi))) S
 | a=>match lstOf S a with
  | some xs=>mkL (cutD xs lo hi) S
  | none=>.st
theorem yBs {W:Wo}{vs:List V}{ds:List D}{lo hi:Option Int} (r:RpAll cl W vs ds):RpAll cl W (cutV vs lo hi) (cutD ds lo hi):=by
 unfold cutV cutD;rw [r.length];exact (r.drop _).take _
theorem yFj {W:Wo}{vs:List V}{ds:List U}{lo hi:Option Int} (r:RUs cl W vs ds):RUs cl W (cutV vs lo hi) (cutD ds lo hi):=by
 unfold cutV cutD;rw [r.length];exact (r.drop _).take _
theorem zTr {z:Str}{lo hi:Option Int}:(Txt.slice z lo hi).length≤z.length∧∀ c∈(Txt.slice z lo hi).cps.toList,c∈z.cps.toList:=by
 unfold Txt.slice;split
 ·exact ⟨Z1 _,fun c h=>h⟩
 ·constructor
  ·show (((Builtin.Str.strSliceIndices lo hi 1 z.length).filterMap (z.cps[·]?)).toArray).size≤z.length;rw [Z4];exact Z3 (List.length_filterMap_le _ _) (sliceIndices_le lo hi z.length)
  ·intro c hc;have hc:c∈(Builtin.Str.strSliceIndices lo hi 1 z.length).filterMap (z.cps[·]?):=by simpa using hc
   obtain ⟨i,_,e⟩:=List.mem_filterMap.mp hc;exact Array.mem_toList_iff.mpr (Array.mem_of_getElem? e)
theorem zTh {z:Str}{lo hi:Option Int} (h:TxtOk z):TxtOk (Txt.slice z lo hi):=by
 obtain ⟨h1,h2⟩:=zTr (z:=z) (lo:=lo) (hi:=hi);exact ⟨Z3 h1 h.1,(zFj _).mpr fun c hc=>(zFj z).mp h.2 c (h2 c hc)⟩
def dSl (fa:FE) (fl fh:FO):FE:=fun ev S=>(fa ev S).bind fun x S=>(fl ev S).bind fun l S=>(fh ev S).bind fun u S=>slD x l u S
theorem zQt {lo hi:Option Expr}{fl fh:FO}{p2:Pos} (ha:DE cl X Z a fa) (hl:DO cl X Z lo fl) (hh:DO cl X Z hi fh):DE cl X Z (.Subscript a (.Slice lo hi none p2) pos) (dSl fa fl fh):=by
 obtain ⟨ta,pa,ca⟩:=ha.ex;obtain ⟨tl,pl,c2⟩:=hl.ex;obtain ⟨th,ph,c3⟩:=hh.ex;refine .of ⟨_,L2.zWh (SlR.or yCp (SlR.or zZu zYe)) pa pl ph,fun W S σ ev Q w r h=>ca W S σ ev _ w r (PO.bind h fun x S1 W1 v e1 w1 r1 h1=>c2 W1 S1 σ ev _ w1 (r.mono e1) (PO.bind h1 fun l S2 W2 l' e2 w2 r2 h2=>c3 W2 S2 σ ev _ w2 ((r.mono e1).mono e2) (PO.bind h2 fun u S3 W3 u' e3 w3 r3 h3=>?_)))⟩;have r2:l'=l:=r2;have r3:u'=u:=r3;subst r2 r3;have r1:=(r1.mono e2).mono e3;unfold slD at h3;split at h3
 ·next xs =>
  obtain ⟨p,vs,rfl,g1,g2,g3⟩:=zMn (K:=X.K) r1;split at h3
  ·exact h3.elim
  ·next hw =>
   refine .inl ⟨p,vs,rfl,g1,fun z=>hw ?_,fun q hq=>h3 (W3.add q _) _ (Ext.add hq) (w3.add hq) (.d (.tup (.inr rfl) zAc (Z3 (zHv _ _ _) g2) ((yBs g3).mono (Ext.add hq))))⟩;rw [g3.length] at z;unfold whole;rw [decide_eq_true z.1,decide_eq_true z.2];rfl
 ·cases r1 with
  | d r1 =>
  cases r1 with
  | str _ hz=>exact .inr (.inr ⟨_,rfl,Z3 hz.1 zNf,h3.now w3 (.d (.str _ (zTh hz)))⟩)
 ·split at h3
  ·next xs el =>
   obtain ⟨p,vs,rfl,g1,g2,g3⟩:=zEk (K:=X.K) w3 r1 el;exact .inr (.inl ⟨p,vs,rfl,g1,(zKb w3 (yFj g3) h3).2⟩)
  ·exact h3.elim
structure CallD (cl:Cl) (X:Cx) (f:Value) (g:List U→Sto→Out U):Prop where
 ex:∃ r,CallR X f r∧∀ W S xs ds (Q:VK) Z,WR cl W S→RUs cl W xs ds→PO cl (RU cl) W Q Z (g ds S)→r xs W.H Q
theorem CallR.or {f:Value}{r r':List V→Hp→VK→Prop} (h:CallR X f r) (h':CallR X f r'):CallR X f (fun xs H Q=>r xs H Q∨r' xs H Q):=fun pins s σ H xs us Q I rs q=>q.elim (h pins s σ H xs us Q I rs) (h' pins s σ H xs us Q I rs)
theorem CallD.or {f:Value}{g g':List U→Sto→Out U} (h:CallD cl X f g) (h':CallD cl X f g'):CallD cl X f (fun a S=>(g a S).or (g' a S)):=by
 obtain ⟨r,ho,hg⟩:=h.ex;obtain ⟨r',ho',hg'⟩:=h'.ex;exact ⟨_,CallR.or ho ho',fun W S xs ds Q Z w ra h=>h.or.elim (fun h=>.inl (hg W S xs ds Q Z w ra h)) fun h=>.inr (hg' W S xs ds Q Z w ra h)⟩
def dCal (g:List U→Sto→Out U) (fa:FAr):FE:=fun ev S=>(fa ev S).bind g
theorem zAe {x:Str}{id:String}{p:Pos}{e:Expr}{es:List Expr}{g:List U→Sto→Out U}{f:FAr} (o:CallD cl X (.builtin id) g) (hm:X.mg x=none) (hv:bootBuiltins x=some (.builtin id)) (h:DA cl X Z (e :: es) f) (hg:Gl X x:=by rfl) (hn:x≠"__name__":=by decide) (hdb:(x == ("__debug__" : Str))=false:=by decide)
 (he:starEach (e :: es) X.env=(false,eval e X.env) :: starEach es X.env:=by rfl) (hpl:(backTo pos (starEach es X.env)).any (·.1)=false:=by rfl):DE cl X Z (.Call (.Name x p) (e :: es) [] pos) (dCal g f):=by
 obtain ⟨r,ho,hg'⟩:=o.ex;obtain ⟨ta,pa,ca⟩:=h.ex;exact .of ⟨_,L2.zIn ho hg hm hv pa hn hdb he hpl,fun W S σ ev Q w r h=>ca W S σ ev _ w r (PO.bind h fun ds S1 W1 vs e1 w1 r1 h1=>hg' W1 S1 vs ds Q _ w1 r1 h1)⟩
theorem zBb {x:Str}{T:String}{p:Pos}{e:Expr}{es:List Expr}{g:List U→Sto→Out U}{f:FAr} (o:CallD cl X (.type T) g) (hm:X.mg x=none) (hv:bootBuiltins x=some (.type T)) (h:DA cl X Z (e :: es) f) (hg:Gl X x:=by rfl) (hn:x≠"__name__":=by decide) (hdb:(x == ("__debug__" : Str))=false:=by decide)
 (he:starEach (e :: es) X.env=(false,eval e X.env) :: starEach es X.env:=by rfl) (hpl:(backTo pos (starEach es X.env)).any (·.1)=false:=by rfl):DE cl X Z (.Call (.Name x p) (e :: es) [] pos) (dCal g f):=by
 obtain ⟨r,ho,hg'⟩:=o.ex;obtain ⟨ta,pa,ca⟩:=h.ex;exact .of ⟨_,L2.zOs ho hg hm hv pa hn hdb he hpl,fun W S σ ev Q w r h=>ca W S σ ev _ w r (PO.bind h fun ds S1 W1 vs e1 w1 r1 h1=>hg' W1 S1 vs ds Q _ w1 r1 h1)⟩
theorem RUs.one {W:Wo}{vs:List V}{d:U} (r:RUs cl W vs [d]):∃ v,vs=[v]∧RU cl W v d:=by
 cases r with
 | cons r t=>cases t;exact ⟨_,rfl,r⟩
def lenS:List U→Sto→Out U
 | [.d (.str x)],S=>.ok (.d (.int x.length)) S
 | _,_=>.st
def lenL:List U→Sto→Out U
 | [.d (.tup xs)],S=>.ok (.d (.int xs.length)) S
 | [d],S=>match lstOf S d with
  | some xs=>.ok (.d (.int xs.length)) S
  | none=>.st
 | _,_=>.st
def lenK:List U→Sto→Out U
 | [d],S=>match dctOf S d with
  | some xs=>.ok (.d (.int xs.length)) S
  | none=>.st
 | _,_=>.st
theorem yBv:CallD cl X (.builtin "len") lenS:=⟨_,zPt,fun W S xs ds Q Z w r h=>by
 unfold lenS at h;split at h
 ·next x =>
  obtain ⟨v,rfl,r1⟩:=r.one;cases r1 with
  | d r1 =>
  cases r1 with
  | str _ hx=>exact ⟨_,rfl,Z3 hx.1 zNf,h.now w (.d (.int _))⟩
 ·exact h.elim⟩
theorem yBw:CallD cl X (.builtin "len") lenL:=⟨_,zPu,fun W S xs ds Q Z w r h=>by
 unfold lenL at h;split at h
 ·next xs =>
  obtain ⟨v,rfl,r1⟩:=r.one;obtain ⟨p,vs,rfl,g1,g2,g3⟩:=zMn (K:=X.K) r1;exact ⟨p,vs,rfl,.inr g1,by rw [g3.length];exact h.now w (.d (.int _))⟩
 ·next d _ =>
  obtain ⟨v,rfl,r1⟩:=r.one;split at h
  ·next ys e =>
   obtain ⟨p,vs,rfl,g1,g2,g3⟩:=zEk (K:=X.K) w r1 e;exact ⟨p,vs,rfl,.inl g1,by rw [g3.length];exact h.now w (.d (.int _))⟩
  ·exact h.elim
 ·exact h.elim⟩
end
end L2.F
namespace L2.F
open PySem PySem.Spec PyProof.Rows L2
def blsD:List U→Option (List Bool)
 | []=>some []
 | .d (.bl b) :: r=>(blsD r).map (b :: ·)
 | _=>none
def intsD:List U→Option (List Int)
 | []=>some []
 | .d (.int b) :: r=>(intsD r).map (b :: ·)
 | _=>none
def strsD:List U→Option (List Str)
 | []=>some []
 | .d (.str b) :: r=>(strsD r).map (b :: ·)
 | _=>none
section
variable {cl:Cl}{W:Wo}
theorem zZg:∀ {vs:List V}{ds:List U}{bs:List Bool},RUs cl W vs ds→blsD ds=some bs→vs=bs.map V.bl
 | _,_,bs,.nil,h=>by cases h;rfl
 | _,_,bs,.cons (d:=d) (ds:=ds) r t,h=>by
  cases r with
  | d r =>
   cases r with
   | bl b =>
    obtain ⟨l,e,rfl⟩:=Option.map_eq_some_iff.mp (show (blsD ds).map (b :: ·)=some bs from h);rw [zZg t e];rfl
   | _=>cases h
  | loc _=>cases h
theorem zV2:∀ {vs:List V}{ds:List U}{bs:List Int},RUs cl W vs ds→intsD ds=some bs→vs=bs.map V.int
 | _,_,bs,.nil,h=>by cases h;rfl
 | _,_,bs,.cons (d:=d) (ds:=ds) r t,h=>by
  cases r with
  | d r =>
   cases r with
   | int b =>
    obtain ⟨l,e,rfl⟩:=Option.map_eq_some_iff.mp (show (intsD ds).map (b :: ·)=some bs from h);rw [zV2 t e];rfl
   | _=>cases h
  | loc _=>cases h
theorem zL3:∀ {vs:List V}{ds:List U}{bs:List Str},RUs cl W vs ds→strsD ds=some bs→vs=bs.map V.str∧∀ x∈bs,TxtOk x
 | _,_,bs,.nil,h=>by cases h;exact ⟨rfl,fun _ h=>by cases h⟩
 | _,_,bs,.cons (d:=d) (ds:=ds) r t,h=>by
  cases r with
  | d r =>
   cases r with
   | str b hb =>
    obtain ⟨l,e,rfl⟩:=Option.map_eq_some_iff.mp (show (strsD ds).map (b :: ·)=some bs from h);obtain ⟨h1,h2⟩:=zL3 t e;rw [h1];refine ⟨rfl,fun x hx=>?_⟩;rcases List.mem_cons.mp hx with rfl | hx
    ·exact hb
    ·exact h2 x hx
   | _=>cases h
  | loc _=>cases h
theorem zRs:∀ {bs:List Str},(∀ x∈bs,TxtOk x)→RpAll cl W (bs.map V.str) (bs.map D.str)
 | [],_=>.nil
 | b :: r,h=>.cons (.str b (h b (.head _))) (zRs fun x hx=>h x (.tail _ hx))
end
theorem zQk {a b:Str} (x:¬ ltS a b) (y:¬ ltS b a):a=b:=by
 have e:a.cps.toList=b.cps.toList:=List.le_antisymm y x;obtain ⟨⟨a⟩⟩:=a;obtain ⟨⟨b⟩⟩:=b;have e:a=b:=e;rw [e]
def insS (x:Str):List Str→List Str
 | []=>[x]
 | y :: r=>if ltS y x then y :: insS x r else x :: y :: r
def sortS:List Str→List Str
 | []=>[]
 | x :: r=>insS x (sortS r)
theorem zLz (x:Str):∀ l,(insS x l).Perm (x :: l)
 | []=>List.Perm.refl _
 | y :: r=>by
  unfold insS;split
  ·exact ((zLz x r).cons y).trans (List.Perm.swap x y r)
  ·exact List.Perm.refl _
theorem zAu:∀ l,(sortS l).Perm l
 | []=>List.Perm.refl _
 | x :: r=>(zLz x _).trans ((zAu r).cons x)
theorem zV3 (x:Str):∀ l:List Str,l.Pairwise (fun a b=>¬ ltS b a)→(insS x l).Pairwise (fun a b=>¬ ltS b a)
 | [],_=>by simp [insS]
 | y :: r,h=>by
  unfold insS;obtain ⟨h1,h2⟩:=List.pairwise_cons.mp h;split
  ·next c =>
   refine List.pairwise_cons.mpr ⟨fun z hz=>?_,zV3 x r h2⟩;rcases List.mem_cons.mp ((zLz x r).mem_iff.mp hz) with rfl | hz
   ·exact fun z=>List.lt_irrefl _ (zIy z c)
   ·exact h1 z hz
  ·next c =>
   refine List.pairwise_cons.mpr ⟨fun z hz=>?_,h⟩;rcases List.mem_cons.mp hz with rfl | hz
   ·exact c
   ·exact zPd c (h1 z hz)
theorem zKu:∀ l,(sortS l).Pairwise (fun a b=>¬ ltS b a)
 | []=>.nil
 | x :: r=>zV3 x _ (zKu r)
theorem zKw {a b:List Str} (p:a.Perm b) (h:a.Pairwise fun x y=>¬ ltS y x):a=sortS b:=List.Perm.eq_of_pairwise (fun x y _ _ h h'=>zQk h' h) h (zKu b) (p.trans (zAu b).symm)
section
variable {cl:Cl}{X:Cx}{Z:TZ}{a b c:Expr}{fa fb fc:FE}{pos:Pos}
theorem zTb:CallR X (.builtin "len") (fun vs H Q=>∃ d kvs,vs=[.ref d]∧Rd H d (.dK kvs)∧Q (.int (kvs.length:Nat)) H):=by
 intro pins s σ H vs us Q I rv h;obtain ⟨d,kvs,rfl,rd,q⟩:=h;obtain ⟨u,rfl,ru⟩:=v1 rv;cases (show u=Value.ref d from ru);exact d_len I rd fun t s' I'=>⟨.int _,H,I',⟨t,rfl⟩,q⟩
theorem yBx:CallD cl X (.builtin "len") lenK:=⟨_,zTb,fun W S xs ds Q Z w r h=>by
 unfold lenK at h;split at h
 ·obtain ⟨v,rfl,r1⟩:=r.one;split at h
  ·next ys e =>
   obtain ⟨p,vs,rfl,g1,g2,g3⟩:=zEp w r1 e;exact ⟨p,vs,rfl,g1,by rw [g3.length];exact h.now w (.d (.int _))⟩
  ·exact h.elim
 ·exact h.elim⟩
def lenD:=fun ds S=>(lenS ds S).or ((lenL ds S).or (lenK ds S))
theorem zCm:CallD cl X (.builtin "len") lenD:=.or yBv (.or yBw yBx)
def lst1 (k:List U→Sto→Out U):List U→Sto→Out U
 | [d],S=>match lstOf S d with
  | some xs=>k xs S
  | none=>.st
 | _,_=>.st
theorem zQl {K:PySem.W.Frag}{k:List U→Sto→Out U}{W:Wo}{S:Sto}{xs:List V}{ds:List U}{Q:VK}{Z:Addr→Addr→Hp→Prop} (w:WR cl W S) (r:RUs cl W xs ds) (h:PO cl (RU cl) W Q Z (lst1 k ds S)):∃ p vs es,xs=[.ref p]∧SqL K W.H p vs∧vs.length≤LM∧RUs cl W vs es∧PO cl (RU cl) W Q Z (k es S):=by
 unfold lst1 at h;split at h
 ·obtain ⟨v,rfl,r1⟩:=r.one;split at h
  ·next ys e =>
   obtain ⟨p,vs,rfl,g1,g2,g3⟩:=zEk (K:=K) w r1 e;exact ⟨p,vs,ys,rfl,g1,g2,g3,h⟩
  ·exact h.elim
 ·exact h.elim
def allB (xs:List U) (S:Sto):Out U:=match blsD xs with
 | some bs=>.ok (.d (.bl (bs.all id))) S
 | none=>.st
def sumI (xs:List U) (S:Sto):Out U:=match intsD xs with
 | some bs=>.ok (.d (.int bs.sum)) S
 | none=>.st
theorem zF4 (hc:X.calm=true):CallD cl X (.builtin "all") (lst1 allB):=⟨_,zY3 hc,fun W S xs ds Q Z w r h=>by
 obtain ⟨p,vs,es,rfl,g1,g2,g3,h⟩:=zQl (K:=X.K) w r h;unfold allB at h;split at h
 ·next bs e =>
  rw [zZg g3 e] at g1;exact ⟨p,bs,rfl,g1,h.now w (.d (.bl _))⟩
 ·exact h.elim⟩
theorem yFs (hc:X.calm=true):CallD cl X (.builtin "sum") (lst1 sumI):=⟨_,zOc rfl,fun W S xs ds Q Z w r h=>by
 obtain ⟨p,vs,es,rfl,g1,g2,g3,h⟩:=zQl (K:=X.K) w r h;unfold sumI at h;split at h
 ·next bs e =>
  rw [zV2 g3 e] at g1;exact ⟨p,bs,rfl,g1,hc,h.now w (.d (.int _))⟩
 ·exact h.elim⟩
def sortL (xs:List U) (S:Sto):Out U:=match strsD xs with
 | some ks=>if ks.length < 64 then .ok (.d (.lst ((sortS ks).map D.str))) S else .st
 | none=>.st
theorem zQg {W:Wo}{S:Sto}{ks:List Str}{Q:VK}{Z:Addr→Addr→Hp→Prop} (w:WR cl W S) (hk:∀ x∈ks,TxtOk x) (hl:ks.length≤LM) (h:PO cl (RU cl) W Q Z (.ok (.d (.lst (ks.map D.str))) S)):∀ p,W.H p=none→Q (.ref p) (upd W.H p (.lst (ks.map V.str))):=fun p hp =>
 h (W.add p _) _ (Ext.add hp) (w.add hp) (.d (.lst (.inr rfl) zAc (by rw [Z2];exact hl) (zRs hk)))
theorem zXx:CallD cl X (.builtin "sorted") (lst1 sortL):=⟨_,zKq rfl,fun W S xs ds Q Z w r h=>by
 obtain ⟨p,vs,es,rfl,g1,g2,g3,h⟩:=zQl (K:=X.K) w r h;unfold sortL at h;split at h
 ·next ks e =>
  obtain ⟨rfl,hk⟩:=zL3 g3 e;split at h
  ·next c =>
   refine ⟨p,ks,rfl,g1,c,fun q ks' hq pm pw=>?_⟩;rw [zKw pm pw];exact zQg w (fun x hx=>hk x ((zAu ks).mem_iff.mp hx)) (by rw [(zAu ks).length_eq];exact Z3 (Zs c) (by decide)) h q hq
  ·exact h.elim
 ·exact h.elim⟩
def kstrs:List (Key×U)→Option (List Str)
 | []=>some []
 | (.inr x,_) :: r=>(kstrs r).map (x :: ·)
 | _=>none
theorem zS1:∀ {es:List (Key×U)}{ks:List Str},kstrs es=some ks→es.map (·.1)=ks.map Sum.inr
 | [],ks,h=>by cases h;rfl
 | (.inr x,d) :: r,ks,h=>by
  obtain ⟨l,e,rfl⟩:=Option.map_eq_some_iff.mp (show (kstrs r).map (x :: ·)=some ks from h);rw [Zi,zS1 e];rfl
 | (.inl _,_) :: _,ks,h=>by cases h
def allTxt (ks:List Str):Bool:=ks.all txtB
def sortK:List U→Sto→Out U
 | [d],S=>match dctOf S d with
  | some es=>match kstrs es with
   | some ks=>if ks.length < 64∧allTxt ks=true then .ok (.d (.lst ((sortS ks).map D.str))) S else .st
   | none=>.st
  | none=>.st
 | _,_=>.st
theorem zXy (hc:X.calm=true):CallD cl X (.builtin "sorted") sortK:=⟨_,zKr,fun W S xs ds Q Z w r h=>by
 unfold sortK at h;split at h
 ·obtain ⟨v,rfl,r1⟩:=r.one;split at h
  ·next es e =>
   obtain ⟨p,vs,rfl,g1,g2,g3⟩:=zEp w r1 e;split at h
   ·next ks ek =>
    split at h
    ·next c =>
     have hk:∀ x∈ks,TxtOk x:=fun x hx=>zJt (List.all_eq_true.mp c.2 x hx);refine ⟨p,vs,ks,rfl,g1,by rw [g3.keys];exact zS1 ek,c.1,hc,fun q ks' hq pm pw=>?_⟩;rw [zKw pm pw];exact zQg w (fun x hx=>hk x ((zAu ks).mem_iff.mp hx)) (by rw [(zAu ks).length_eq];exact Z3 (Zs c.1) (by decide)) h q hq
    ·exact h.elim
   ·exact h.elim
  ·exact h.elim
 ·exact h.elim⟩
def sortD:=fun ds S=>(lst1 sortL ds S).or (sortK ds S)
theorem zGr (hc:X.calm=true):CallD cl X (.builtin "sorted") sortD:=.or zXx (zXy hc)
def seqD (S:Sto):U→Option (List U)
 | .d (.tup xs)=>some (xs.map .d)
 | d=>lstOf S d
theorem yCq {K:PySem.W.Frag}{W:Wo}{S:Sto}{v:V}{d:U}{ds:List U} (w:WR cl W S) (r:RU cl W v d) (h:seqD S d=some ds):∃ p vs,v=.ref p∧(SqL K W.H p vs∨SqT K W.H p vs)∧vs.length≤LM∧RUs cl W vs ds:=by
 have go:lstOf S d=some ds→∃ p vs,v=.ref p∧(SqL K W.H p vs∨SqT K W.H p vs)∧vs.length≤LM∧RUs cl W vs ds:=fun h=>let ⟨p,vs,e,g1,g2,g3⟩:=zEk (K:=K) w r h;⟨p,vs,e,.inl g1,g2,g3⟩;cases d with
 | d x =>
  cases x with
  | tup xs =>
   cases h;obtain ⟨p,vs,e,g1,g2,g3⟩:=zMn (K:=K) r;exact ⟨p,vs,e,.inr g1,g2,g3.up⟩
  | _=>exact go h
 | loc n=>exact go h
def listC:List U→Sto→Out U
 | [d],S=>match seqD S d with
  | some xs=>mkL xs S
  | none=>.st
 | _,_=>.st
theorem zY0:CallD cl X (.type "list") listC:=⟨_,zPs,fun W S xs ds Q Z w r h=>by
 unfold listC at h;split at h
 ·obtain ⟨v,rfl,r1⟩:=r.one;split at h
  ·next ys e =>
   obtain ⟨p,vs,rfl,g1,g2,g3⟩:=yCq (K:=X.K) w r1 e;exact ⟨p,vs,rfl,g1,(zKb w g3 h).2⟩
  ·exact h.elim
 ·exact h.elim⟩
def keyV:Key→D
 | .inl i=>.int i
 | .inr x=>.str x
def keyU (k:Key):U:=.d (keyV k)
def keyOk:Key→Bool
 | .inl _=>true
 | .inr x=>txtB x
theorem keyRp {W:Wo}:∀ {es:List (Key×U)}{vs:List (Key×V)},RUK cl W vs es→(es.all fun e=>keyOk e.1)=true→RpAll cl W (vs.map fun kv=>kV kv.1) (es.map fun kv=>keyV kv.1)
 | _,_,.nil,_=>.nil
 | _,_,.cons (k:=k) r t,h=>by
  rw [Ya,Zc] at h;refine .cons ?_ (keyRp t h.2);cases k with
  | inl i=>exact .int i
  | inr x=>exact .str x (zJt h.1)
def listK (mu:Bool):List U→Sto→Out U
 | [d],S=>match dctOf S d with
  | some es=>if (es.all fun e=>keyOk e.1)=true then (if mu=true then .ok (.loc S.length) (S++[.lst (es.map fun kv=>keyU kv.1)]) else .ok (.d (.lst (es.map fun kv=>keyV kv.1))) S) else .st
  | none=>.st
 | _,_=>.st
theorem zXz {mu:Bool} (hc:X.calm=true):CallD cl X (.type "list") (listK mu):=⟨_,zMi,fun W S xs ds Q Z w r h=>by
 unfold listK at h;split at h
 ·obtain ⟨v,rfl,r1⟩:=r.one;split at h
  ·next es e =>
   obtain ⟨p,vs,rfl,g1,g2,g3⟩:=zEp w r1 e;split at h
   ·next c =>
    have rr:=keyRp g3 c;refine ⟨p,vs,rfl,g1,hc,?_⟩;split at h
    ·have ru:=rr.up;rw [List.map_map] at ru;exact zUc w (by rw [Z2];exact g2) ru h
    ·exact fun q hq=>h (W.add q _) _ (Ext.add hq) (w.add hq) (.d (.lst (.inr rfl) zAc (by rw [Z2];exact g2) (rr.mono (Ext.add hq))))
   ·exact h.elim
  ·exact h.elim
 ·exact h.elim⟩
def listD:=fun ds S=>(listC ds S).or (listK false ds S)
theorem zM8 (hc:X.calm=true):CallD cl X (.type "list") listD:=.or zY0 (zXz hc)
def tupC:List U→Sto→Out U
 | [.d (.tup xs)],S=>.ok (.d (.tup xs)) S
 | [d],S=>match lstOf S d with
  | some xs=>mkT xs S
  | none=>.st
 | _,_=>.st
theorem yFr:CallD cl X (.type "tuple") tupC:=⟨_,zOa,fun W S xs ds Q Z w r h=>by
 unfold tupC at h;split at h
 ·obtain ⟨v,rfl,r1⟩:=r.one;obtain ⟨p,vs,rfl,g1,g2,g3⟩:=zMn (K:=X.K) r1;exact ⟨p,vs,rfl,.inr ⟨g1,h.now w r1⟩⟩
 ·obtain ⟨v,rfl,r1⟩:=r.one;split at h
  ·next ys e =>
   obtain ⟨p,vs,rfl,g1,g2,g3⟩:=zEk (K:=X.K) w r1 e;exact ⟨p,vs,rfl,.inl ⟨g1,(zYu w g3 h).2⟩⟩
  ·exact h.elim
 ·exact h.elim⟩
def pureK:List (Key×U)→Option (List (Key×D))
 | []=>some []
 | (k,.d x) :: r=>(pureK r).map ((k,x) :: ·)
 | _=>none
theorem zRm:∀ es:List (Key×D),pureK (upK es)=some es
 | []=>rfl
 | (k,x) :: r=>by
  show (pureK (upK r)).map ((k,x) :: ·)=_;rw [zRm r];rfl
theorem RUK.pure {W:Wo}:∀ {vs:List (Key×V)}{us:List (Key×U)}{ds:List (Key×D)},RUK cl W vs us→pureK us=some ds→RpK cl W vs ds
 | _,_,ds,.nil,h=>by cases h;exact .nil
 | _,_,ds,.cons (k:=k) (d:=d) (ds:=us) r t,h=>by
  cases r with
  | @d _ x r =>
   obtain ⟨l,e,rfl⟩:=Option.map_eq_some_iff.mp (show (pureK us).map ((k,x) :: ·)=some ds from h);exact .cons r (RUK.pure t e)
  | loc _=>cases h
def mkD (es:List (Key×U)) (S:Sto):Out U:=match pureK es with
 | some ds=>if ds.length≤LM then .ok (.d (.dct ds)) S else .st
 | none=>.st
theorem RpK.length {W:Wo}:∀ {fs:List (Key×V)}{gs:List (Key×D)},RpK cl W fs gs→fs.length=gs.length
 | _,_,.nil=>rfl
 | _,_,.cons _ t=>by rw [Zd,Zd,RpK.length t]
theorem yEj {W:Wo}{S:Sto}{vs:List (Key×V)}{ds:List (Key×U)}{Q:VK}{Z:Addr→Addr→Hp→Prop} (w:WR cl W S) (r:RUK cl W vs ds) (h:PO cl (RU cl) W Q Z (mkD ds S)):vs.length≤LM∧∀ p,W.H p=none→Q (.ref p) (upd W.H p (.dK vs)):=by
 unfold mkD at h;split at h
 ·next xs ep =>
  have r:=r.pure ep;split at h
  ·next l =>
   rw [← r.length] at l;exact ⟨l,fun p hp=>h (W.add p (.dK vs)) (.ref p) (Ext.add hp) (w.add hp) (.d (.dct (.inr rfl) (.inl zAc) l (r.mono (Ext.add hp))))⟩
  ·exact h.elim
 ·exact h.elim
def dictC (mu:Bool):List U→Sto→Out U
 | [d],S=>match dctOf S d with
  | some es=>if mu=true then .ok (.loc S.length) (S++[.dct es]) else mkD es S
  | none=>.st
 | _,_=>.st
theorem zUd {W:Wo}{S:Sto}{vs:List (Key×V)}{ds:List (Key×U)}{Q:VK}{Z:Addr→Addr→Hp→Prop} (w:WR cl W S) (l:vs.length≤LM) (r:RUK cl W vs ds) (h:PO cl (RU cl) W Q Z (.ok (.loc S.length) (S++[.dct ds]))):∀ p,W.H p=none→Q (.ref p) (upd W.H p (.dK vs)):=fun p hp =>
 h (W.new p (.dK vs)) (.ref p) (Ext.new hp) (w.new hp ⟨(notG w hp:¬ W.G p),vs,zAc,l,r.mono (Ext.new hp)⟩) (.loc (by show (W.μ++[p])[S.length]? = some p;rw [← w.len,Zg (Z1 _)];simp))
theorem zY2 {mu:Bool}:CallD cl X (.type "dict") (dictC mu):=⟨_,zMj,fun W S xs ds Q Z w r h=>by
 unfold dictC at h;split at h
 ·obtain ⟨v,rfl,r1⟩:=r.one;split at h
  ·next es e =>
   obtain ⟨p,vs,rfl,g1,g2,g3⟩:=zEp w r1 e;refine ⟨p,vs,rfl,g1,?_⟩;split at h
   ·exact zUd w g2 g3 h
   ·exact (yEj w g3 h).2
  ·exact h.elim
 ·exact h.elim⟩
end
end L2.F
namespace L2.F
open PySem PySem.Spec PyProof.Rows L2
structure MtD (cl:Cl) (X:Cx) (T id:String) (chk:U→Sto→Bool) (g:U→List U→Sto→Out U):Prop where
 ex:∃ r,MtR X id r∧(∀ W S x d,WR cl W S→RU cl W x d→chk d S=true→tyV X.K T x W.H)∧∀ W S x xs d ds (Q:VK) Z,WR cl W S→RU cl W x d→RUs cl W xs ds→PO cl (RU cl) W Q Z (g d ds S)→r x xs W.H Q
def isS (d:U) (_:Sto):Bool:=match d with
 | .d (.str _)=>true
 | _=>false
def isL (d:U) (S:Sto):Bool:=(lstOf S d).isSome
def dMt (chk:U→Sto→Bool) (g:U→List U→Sto→Out U) (fo:FE) (fa:FAr):FE:=fun ev S=>(fo ev S).bind fun d S=>if chk d S=true then (fa ev S).bind fun ds S=>g d ds S else .st
section
variable {cl:Cl}{X:Cx}{Z:TZ}{a b c o:Expr}{fa fb fc fo:FE}{pos:Pos}
theorem zS3 {W:Wo}{S:Sto}{x:V}{d:U} (w:WR cl W S) (r:RU cl W x d) (h:isS d S=true):tyV X.K "str" x W.H:=by
 cases r with
 | d r =>
  cases r with
  | str x hx=>rfl
  | _=>cases h
 | loc _=>cases h
theorem zUz {W:Wo}{S:Sto}{x:V}{d:U} (w:WR cl W S) (r:RU cl W x d) (h:isL d S=true):tyV X.K "list" x W.H:=by
 obtain ⟨xs,e⟩:=Option.isSome_iff_exists.mp h;obtain ⟨p,vs,rfl,g1,_⟩:=zEk (K:=X.K) w r e;exact .inl ⟨rfl,vs,g1⟩
theorem de_mt {T id:String}{name:Str}{e:Expr}{es:List Expr}{apos:Pos}{chk:U→Sto→Bool}{g:U→List U→Sto→Out U}{f:FAr} (pa:PlainAttrs T) (slot:Slot T name id) (hty:typeOf (.builtin id)=pure (.type "method_descriptor")) (m:MtD cl X T id chk g) (ho:DE cl X Z o fo) (ha:DA cl X Z (e :: es) f)
 (hbase:attributeBase o name X.env (eval o X.env)=eval o X.env:=by rfl)
 (hfew:((backTo pos (starEach (e :: es) X.env)).all (fun x=>!x.1) && (backToKw pos (keywordEach [] X.env)).all (fun x=>x.1.isSome)
  && decide ((e :: es).length + ([]:List Keyword).length + (if ([]:List Keyword).isEmpty then 0 else 1) < 30))=true:=by rfl)
 (hline:(apos.endLine == pos.line)=true:=by rfl) (hs:starEach (e :: es) X.env=(false,eval e X.env) :: starEach es X.env:=by rfl) (hplain:(backTo pos (starEach es X.env)).any (·.1)=false:=by rfl):DE cl X Z (.Call (.Attribute o name apos) (e :: es) [] pos) (dMt chk g fo f):=by
 obtain ⟨r,hm,h1,h2⟩:=m.ex;obtain ⟨to,po,co⟩:=ho.ex;obtain ⟨ta,pa',ca⟩:=ha.ex;refine .of ⟨_,L2.pe_bm pa slot hty hm po pa' hbase hfew hline hs hplain,fun W S σ ev Q w r h=>co W S σ ev _ w r (PO.bind h fun d S1 W1 v e1 w1 r1 h3=>?_)⟩;split at h3
 ·next c=>exact ⟨h1 W1 S1 v d w1 r1 c,ca W1 S1 σ ev _ w1 (r.mono e1) (PO.bind h3 fun ds S2 W2 vs e2 w2 r2 h4=>h2 W2 S2 v vs d ds Q _ w2 (r1.mono e2) r2 h4)⟩
 ·exact h3.elim
theorem zYj {W:Wo}{S:Sto}{n:Nat}{p:Addr}{vs:List V}{ds:List U}{d:U}{v:V}{Q:VK}{Z:Addr→Addr→Hp→Prop} (w:WR cl W S) (hn:W.μ[n]? = some p) (hg:¬ W.G p) (l:vs.length≤LM) (r:RUs cl W vs ds) (rd:RU cl W v d) (h:PO cl (RU cl) W Q Z (.ok d (S.set n (.lst ds)))):Q v (upd W.H p (.lst vs)):=by
 have e:Ext W (W.put p (.lst vs)):=Ext.put (Zh hn) hg (w.ex (Zh hn));exact h (W.put p (.lst vs)) v e (w.put hn hg ⟨hg,vs,zAc,l,r.mono e⟩) (rd.mono e)
def appD:U→List U→Sto→Out U
 | .loc n,[x],S=>match celL S n with
  | some xs=>if xs.length < LM then .ok (.d .non) (S.set n (.lst (xs++[x]))) else .st
  | none=>.st
 | _,_,_=>.st
theorem yEh:MtD cl X "list" "list.append" isL appD:=⟨_,zUm,fun W S x d w r h=>zUz w r h,fun W S x xs d ds Q Z w r rs h=>by
 unfold appD at h;split at h
 ·split at h
  ·next n x ys e =>
   obtain ⟨p,vs,rfl,hn,hg,h1,h2,h3⟩:=zKl w r e;obtain ⟨v,rfl,rv⟩:=rs.one;split at h
   ·next c =>
    rw [← h3.length] at c;exact ⟨p,vs,v,rfl,rfl,h1,Z5 c (by decide),zYj w hn hg (by rw [Zf];exact c) (h3.append (.cons rv .nil)) (.d .non) h⟩
   ·exact h.elim
  ·exact h.elim
 ·exact h.elim⟩
def extD:U→List U→Sto→Out U
 | .loc n,[x],S=>match celL S n,lstX S x with
  | some xs,some ys=>if xs.length + ys.length≤LM then .ok (.d .non) (S.set n (.lst (xs++ys))) else .st
  | _,_=>.st
 | _,_,_=>.st
theorem yEg:MtD cl X "list" "list.extend" isL extD:=⟨_,zUk,fun W S x d w r h=>zUz w r h,fun W S x xs d ds Q Z w r rs h=>by
 unfold extD at h;split at h
 ·split at h
  ·next n x xs ys e1 e2 =>
   obtain ⟨p,vs,rfl,hn,hg,h1,h2,h3⟩:=zKl w r e1;obtain ⟨v,rfl,rv⟩:=rs.one;obtain ⟨p',vs',rfl,k1,k2,k3⟩:=zLq w rv e2;split at h
   ·next c =>
    rw [← h3.length,← k3.length] at c;exact ⟨p,p',vs,vs',rfl,rfl,h1,k1,zNz c,zYj w hn hg (by rw [Zf];exact c) (h3.append k3) (.d .non) h⟩
   ·exact h.elim
  ·exact h.elim
 ·exact h.elim⟩
def joinD:U→List U→Sto→Out U
 | .d (.str z),[x],S=>match lstOf S x with
  | some xs=>match strsD xs with
   | some ks=>if PySem.JoinOk z ks=true∧txtB (Txt.join z ks)=true then .ok (.d (.str (Txt.join z ks))) S else .st
   | none=>.st
  | none=>.st
 | _,_,_=>.st
theorem zX1:MtD cl X "str" "str.join" isS joinD:=⟨_,yAy rfl,fun W S x d w r h=>zS3 w r h,fun W S x xs d ds Q Z w r rs h=>by
 unfold joinD at h;split at h
 ·split at h
  ·next z x ys e =>
   obtain ⟨v,rfl,rv⟩:=rs.one;obtain ⟨p,vs,rfl,g1,g2,g3⟩:=zEk (K:=X.K) w rv e;split at h
   ·next ks ek =>
    obtain ⟨rfl,hk⟩:=zL3 g3 ek;split at h
    ·next c =>
     cases r with
     | d r =>
     cases r with
     | str _ hz=>exact ⟨_,p,ks,rfl,rfl,g1,c.1,h.now w (.d (.str _ (zJt c.2)))⟩
    ·exact h.elim
   ·exact h.elim
  ·exact h.elim
 ·exact h.elim⟩
def splitD:U→List U→Sto→Out U
 | .d (.str z),[.d (.str y)],S=>if (y.length == 0)=false∧allTxt (Txt.split z y)=true∧(Txt.split z y).length≤LM then .ok (.d (.lst ((Txt.split z y).map D.str))) S else .st
 | _,_,_=>.st
theorem zUf:MtD cl X "str" "str.split" isS splitD:=⟨_,zX0,fun W S x d w r h=>zS3 w r h,fun W S x xs d ds Q Z w r rs h=>by
 unfold splitD at h;split at h
 ·obtain ⟨v,rfl,rv⟩:=rs.one;cases r with
  | d r =>
  cases r with
  | str z hz =>
   cases rv with
   | d rv =>
   cases rv with
   | str y hy =>
    split at h
    ·next c=>exact ⟨_,_,rfl,rfl,c.1,hz.1,zQg w (fun x hx=>zJt (List.all_eq_true.mp c.2.1 x hx)) c.2.2 h⟩
    ·exact h.elim
 ·exact h.elim⟩
def countD:U→List U→Sto→Out U
 | .d (.str z),[.d (.str y)],S=>.ok (.d (.int (Txt.count z y))) S
 | _,_,_=>.st
theorem zUl:MtD cl X "str" "str.count" isS countD:=⟨_,zX3,fun W S x d w r h=>zS3 w r h,fun W S x xs d ds Q Z w r rs h=>by
 unfold countD at h;split at h
 ·obtain ⟨v,rfl,rv⟩:=rs.one;cases r with
  | d r =>
  cases r with
  | str z hz =>
   cases rv with
   | d rv =>
   cases rv with
   | str y hy=>exact ⟨_,_,rfl,rfl,h.now w (.d (.int _))⟩
 ·exact h.elim⟩
def startD:U→List U→Sto→Out U
 | .d (.str z),[.d (.str y)],S=>.ok (.d (.bl (Txt.startswith z y))) S
 | _,_,_=>.st
theorem zUe:MtD cl X "str" "str.startswith" isS startD:=⟨_,zNv,fun W S x d w r h=>zS3 w r h,fun W S x xs d ds Q Z w r rs h=>by
 unfold startD at h;split at h
 ·obtain ⟨v,rfl,rv⟩:=rs.one;cases r with
  | d r =>
  cases r with
  | str z hz =>
   cases rv with
   | d rv =>
   cases rv with
   | str y hy=>exact ⟨_,_,rfl,rfl,h.now w (.d (.bl _))⟩
 ·exact h.elim⟩
def findS (n:Str):List Str→Option Nat
 | []=>none
 | k :: r=>if k=n then some 0 else (findS n r).map (· + 1)
theorem zS8 {n:Str}:∀ {ks:List Str}{j:Nat},findS n ks=some j→ks[j]? = some n∧∀ m,m < j→ks[m]?≠some n
 | k :: r,j,h=>by
  unfold findS at h;split at h
  ·next e=>cases h;exact ⟨by rw [e];rfl,fun m hm=>absurd hm (Nat.not_lt_zero _)⟩
  ·next e =>
   obtain ⟨i,h1,rfl⟩:=Option.map_eq_some_iff.mp h;obtain ⟨h2,h3⟩:=zS8 h1;refine ⟨h2,fun m hm=>?_⟩;cases m with
   | zero=>exact fun z=>e (Zl z)
   | succ m=>exact h3 m (by omega)
def indexD:U→List U→Sto→Out U
 | x,[.d (.str n)],S=>match lstOf S x with
  | some xs=>match strsD xs with
   | some ks=>match findS n ks with
    | some j=>.ok (.d (.int j)) S
    | none=>.st
   | none=>.st
  | none=>.st
 | _,_,_=>.st
theorem zUj:MtD cl X "list" "list.index" isL indexD:=⟨_,zUg rfl,fun W S x d w r h=>zUz w r h,fun W S x xs d ds Q Z w r rs h=>by
 unfold indexD at h;split at h
 ·split at h
  ·next ys e =>
   obtain ⟨v,rfl,rv⟩:=rs.one;obtain ⟨p,vs,rfl,g1,g2,g3⟩:=zEk (K:=X.K) w r e;split at h
   ·next ks ek =>
    obtain ⟨rfl,hk⟩:=zL3 g3 ek;split at h
    ·next j ej =>
     cases rv with
     | d rv =>
     cases rv with
     | str n hn =>
      obtain ⟨k1,k2⟩:=zS8 ej;exact ⟨p,ks,_,j,rfl,rfl,g1,k1,k2,h.now w (.d (.int _))⟩
    ·exact h.elim
   ·exact h.elim
  ·exact h.elim
 ·exact h.elim⟩
end
end L2.F
namespace L2.F
open PySem PySem.Spec PyProof.Rows L2
section
variable {cl:Cl}{X:Cx}{Z:TZ}{a b c o:Expr}{fa fb fc fo:FE}{pos:Pos}
def dGet1 (fo fa:FE):FE:=fun ev S=>(fo ev S).bind fun d S=>if (dctOf S d).isSome=true then (fa ev S).bind fun k S=>match dctOf S d,keyD k with
 | some es,some k=>.ok ((valD es k).getD (.d .non)) S
 | _,_=>.st
 else .st
theorem zV0 {W:Wo}{S:Sto}{v:V}{d:U} (w:WR cl W S) (r:RU cl W v d) (h:(dctOf S d).isSome=true):∃ p,v=.ref p∧IsD W.H p:=by
 obtain ⟨es,e⟩:=Option.isSome_iff_exists.mp h;obtain ⟨p,vs,rfl,g1,_⟩:=zEp w r e;exact ⟨p,rfl,.inl ⟨vs,g1⟩⟩
theorem zQw {apos:Pos} (hu:X.A.units + 1 < cLine) (ho:DE cl X Z o fo) (ha:DE cl X Z a fa) (m:M1 X o "get" apos a pos:=by exact ⟨rfl,rfl,rfl,rfl⟩):DE cl X Z (.Call (.Attribute o "get" apos) [a] [] pos) (dGet1 fo fa):=by
 obtain ⟨to,po,co⟩:=ho.ex;obtain ⟨ta,pa,ca⟩:=ha.ex;refine .of ⟨_,L2.zWm hu po pa m,fun W S σ ev Q w r h=>co W S σ ev _ w r (PO.bind h fun d S1 W1 v e1 w1 r1 h1=>?_)⟩;split at h1
 ·next c =>
  obtain ⟨p,rfl,hd⟩:=zV0 w1 r1 c;refine ⟨p,rfl,hd,ca W1 S1 σ ev _ w1 (r.mono e1) (PO.bind h1 fun k S2 W2 u e2 w2 r2 h2=>?_)⟩;have r1:=r1.mono e2;split at h2
  ·next es k' ed ek =>
   obtain ⟨p',vs,e0,g1,g2,g3⟩:=zEp w2 r1 ed;cases e0;obtain ⟨o,g,m⟩:=zO3 (k:=k') g1 g3;rw [← zDw r2 ek] at g;refine ⟨o,g,?_⟩;split at m
   ·next x ex =>
    obtain ⟨q,rfl,rq⟩:=m;rw [ex] at h2;exact h2.now w2 rq
   ·next ex =>
    rw [m];rw [ex] at h2;exact h2.now w2 (.d .non)
  ·exact h2.elim
 ·exact h1.elim
def dGet2 (fo fa fb:FE):FE:=fun ev S=>(fo ev S).bind fun d S=>if (dctOf S d).isSome=true then (fa ev S).bind fun k S=>(fb ev S).bind fun x S=>match dctOf S d,keyD k with
 | some es,some k=>.ok ((valD es k).getD x) S
 | _,_=>.st
 else .st
theorem zQv {apos:Pos} (hu:X.A.units + 1 < cLine) (ho:DE cl X Z o fo) (ha:DE cl X Z a fa) (hb:DE cl X Z b fb) (m:M2 X o "get" apos a b pos:=by exact ⟨rfl,rfl,rfl,rfl⟩):DE cl X Z (.Call (.Attribute o "get" apos) [a,b] [] pos) (dGet2 fo fa fb):=by
 obtain ⟨to,po,co⟩:=ho.ex;obtain ⟨ta,pa,ca⟩:=ha.ex;obtain ⟨tb,pb,cb⟩:=hb.ex;refine .of ⟨_,L2.zWl hu po pa pb m,fun W S σ ev Q w r h=>co W S σ ev _ w r (PO.bind h fun d S1 W1 v e1 w1 r1 h1=>?_)⟩;split at h1
 ·next c =>
  obtain ⟨p,rfl,hd⟩:=zV0 w1 r1 c;refine ⟨p,rfl,hd,ca W1 S1 σ ev _ w1 (r.mono e1) (PO.bind h1 fun k S2 W2 u e2 w2 r2 h2=>cb W2 S2 σ ev _ w2 ((r.mono e1).mono e2) (PO.bind h2 fun x S3 W3 u3 e3 w3 r3 h3=>?_))⟩;have r1:=(r1.mono e2).mono e3;split at h3
  ·next es k' ed ek =>
   obtain ⟨p',vs,e0,g1,g2,g3⟩:=zEp w3 r1 ed;cases e0;obtain ⟨o,g,m⟩:=zO3 (k:=k') g1 g3;rw [← zDw (r2.mono e3) ek] at g;refine ⟨o,g,?_⟩;split at m
   ·next x' ex =>
    obtain ⟨q,rfl,rq⟩:=m;rw [ex] at h3;exact h3.now w3 rq
   ·next ex =>
    rw [m];rw [ex] at h3;exact h3.now w3 r3
  ·exact h3.elim
 ·exact h1.elim
def dropD (es:List (Key×U)) (k:Key):List (Key×U):=es.filter fun kv=>decide (kv.1≠k)
def putD (es:List (Key×U)) (k:Key) (v:U):List (Key×U):=if (es.any fun kv=>decide (kv.1=k))=true then es.map (fun kv=>if kv.1=k then (kv.1,v) else kv) else es++[(k,v)]
theorem RUK.drop {W:Wo}{k:Key}:∀ {vs:List (Key×V)}{es:List (Key×U)},RUK cl W vs es→RUK cl W (dropK vs k) (dropD es k)
 | _,_,.nil=>.nil
 | _,_,.cons (k:=k') r t=>by
  have ih:=RUK.drop (k:=k) t;unfold dropK dropD at ih ⊢;by_cases e:k'=k
  ·rw [List.filter_cons_of_neg (by simp [e]),List.filter_cons_of_neg (by simp [e])];exact ih
  ·rw [List.filter_cons_of_pos (by simp [e]),List.filter_cons_of_pos (by simp [e])];exact .cons r ih
theorem RUK.any {W:Wo}{k:Key}:∀ {vs:List (Key×V)}{es:List (Key×U)},RUK cl W vs es→(vs.any fun kv=>decide (kv.1=k))=es.any fun kv=>decide (kv.1=k)
 | _,_,.nil=>rfl
 | _,_,.cons r t=>by rw [Yb,Yb,RUK.any t]
theorem RUK.mapP {W:Wo}{k:Key}{v:V}{d:U} (rv:RU cl W v d):∀ {vs:List (Key×V)}{es:List (Key×U)},RUK cl W vs es→RUK cl W (vs.map fun kv=>if kv.1=k then (kv.1,v) else kv) (es.map fun kv=>if kv.1=k then (kv.1,d) else kv)
 | _,_,.nil=>.nil
 | _,_,.cons (k:=k') r t=>by
  rw [Zi,Zi];by_cases e:k'=k
  ·rw [if_pos e,if_pos e];exact .cons rv (RUK.mapP rv t)
  ·rw [if_neg e,if_neg e];exact .cons r (RUK.mapP rv t)
theorem RUK.snoc {W:Wo}{k:Key}{v:V}{d:U} (rv:RU cl W v d):∀ {vs:List (Key×V)}{es:List (Key×U)},RUK cl W vs es→RUK cl W (vs++[(k,v)]) (es++[(k,d)])
 | _,_,.nil=>.cons rv .nil
 | _,_,.cons r t=>.cons r (RUK.snoc rv t)
theorem RUK.put {W:Wo}{k:Key}{v:V}{d:U}{vs:List (Key×V)}{es:List (Key×U)} (rv:RU cl W v d) (r:RUK cl W vs es):RUK cl W (putK vs k v) (putD es k d):=by
 unfold putK putD;rw [r.any];split
 ·exact RUK.mapP rv r
 ·exact RUK.snoc rv r
theorem zTw {W:Wo}{S:Sto}{n:Nat}{p:Addr}{vs:List (Key×V)}{ds:List (Key×U)} (w:WR cl W S) (hn:W.μ[n]? = some p) (hg:¬ W.G p) (l:vs.length≤LM) (r:RUK cl W vs ds):Ext W (W.put p (.dK vs))∧WR cl (W.put p (.dK vs)) (S.set n (.dct ds)):=by
 have e:Ext W (W.put p (.dK vs)):=Ext.put (Zh hn) hg (w.ex (Zh hn));exact ⟨e,w.put hn hg ⟨hg,vs,zAc,l,r.mono e⟩⟩
def dPop1 (fo fa:FE):FE:=fun ev S=>(fo ev S).bind fun d S=>match d with
 | .loc n=>if (celD S n).isSome=true then (fa ev S).bind fun k S=>match celD S n,keyD k with
  | some es,some k=>match valD es k with
   | some x=>.ok x (S.set n (.dct (dropD es k)))
   | none=>.st
  | _,_=>.st
  else .st
 | _=>.st
theorem yBp {apos:Pos} (ho:DE cl X Z o fo) (ha:DE cl X Z a fa) (m:M1 X o "pop" apos a pos:=by exact ⟨rfl,rfl,rfl,rfl⟩):DE cl X Z (.Call (.Attribute o "pop" apos) [a] [] pos) (dPop1 fo fa):=by
 obtain ⟨to,po,co⟩:=ho.ex;obtain ⟨ta,pa,ca⟩:=ha.ex;refine .of ⟨_,L2.zWk po pa m,fun W S σ ev Q w r h=>co W S σ ev _ w r (PO.bind h fun d S1 W1 v e1 w1 r1 h1=>?_)⟩;split at h1
 ·next n =>
  split at h1
  ·next c =>
   obtain ⟨p,rfl,hd⟩:=zV0 w1 r1 (show (dctOf S1 (.loc n)).isSome=true from c);refine ⟨p,rfl,hd,ca W1 S1 σ ev _ w1 (r.mono e1) (PO.bind h1 fun k S2 W2 u e2 w2 r2 h2=>?_)⟩;have r1:=r1.mono e2;split at h2
   ·next es k' ed ek =>
    split at h2
    ·next x ex =>
     obtain ⟨p',vs,e0,hn,hg,g1,g2,g3⟩:=zO9 w2 r1 ed;cases e0;have m:=g3.val (k:=k');rw [ex] at m;obtain ⟨q,hq,rq⟩:=m;obtain ⟨e3,w3⟩:=zTw w2 hn hg (Z3 (Y0 _ _) g2:(dropK vs k').length≤LM) (g3.drop (k:=k'));exact ⟨vs,k',q,g1,zDw r2 ek,hq,h2 _ q e3 w3 (rq.mono e3)⟩
    ·exact h2.elim
   ·exact h2.elim
  ·exact h1.elim
 ·exact h1.elim
theorem zR3 {W:Wo}:∀ {vs:List (Key×V)}{es:List (Key×U)}{is:List Int},RUK cl W vs es→intsD (es.map (·.2))=some is→vs=(es.map (·.1)).zip (is.map V.int)∧es.length=is.length
 | _,_,is,.nil,h=>by cases h;exact ⟨rfl,rfl⟩
 | _,_,is,.cons (k:=k) (d:=d) (ds:=es) r t,h=>by
  cases r with
  | d r =>
   cases r with
   | int i =>
    obtain ⟨l,e,rfl⟩:=Option.map_eq_some_iff.mp (show (intsD (es.map (·.2))).map (i :: ·)=some is from h);obtain ⟨h1,h2⟩:=zR3 t e;exact ⟨by rw [h1];rfl,by rw [Zd,Zd,h2]⟩
   | _=>cases h
  | loc _=>cases h
def dSumV (fo:FE):FE:=fun ev S=>(fo ev S).bind fun d S=>match dctOf S d with
 | some es=>match intsD (es.map (·.2)) with
  | some is=>.ok (.d (.int is.sum)) S
  | none=>.st
 | none=>.st
theorem yBo {sp vp ap:Pos} (hm:X.mg "sum" = none) (hc:X.calm=true) (ho:DE cl X Z o fo) (hg:Gl X "sum":=by rfl) (hbase:attributeBase o "values" X.env (eval o X.env)=eval o X.env:=by rfl) (hline:(ap.endLine == vp.line)=true:=by rfl) (he:starEach [.Call (.Attribute o "values" ap) [] [] vp] X.env=(false,eval (.Call (.Attribute o "values" ap) [] [] vp) X.env) :: starEach [] X.env:=by rfl) (hpl:(backTo pos (starEach [] X.env)).any (·.1)=false:=by rfl):DE cl X Z (.Call (.Name "sum" sp) [.Call (.Attribute o "values" ap) [] [] vp] [] pos) (dSumV fo):=by
 obtain ⟨to,po,co⟩:=ho.ex;refine .of ⟨_,L2.zIn zOb hg hm PyProof.Rows.boot_sum (L2.zGd (L2.zU0 po hbase hline) L2.zMu he) (by decide) (by decide) he hpl,fun W S σ ev Q w r h=>co W S σ ev _ w r (PO.bind h fun d S1 W1 v e1 w1 r1 h1=>?_)⟩;split at h1
 ·next es ed =>
  split at h1
  ·next is ei =>
   obtain ⟨p,vs,rfl,g1,g2,g3⟩:=zEp w1 r1 ed;obtain ⟨rfl,hl⟩:=zR3 g3 ei;refine ⟨p,_,rfl,g1,fun x hx=>?_⟩;have e2:Ext W1 (W1.put x (ViewO x p)):=Ext.oth hx;have g1':Rd (upd W1.H x (ViewO x p)) p (.dK ((es.map (·.1)).zip (is.map V.int))):=by
    rcases g1 with g | ⟨y,g⟩
    ·exact .inl (by rw [zAa (zA7 g hx)];exact g)
    ·exact .inr ⟨y,by rw [zAa (zA7 g hx)];exact g⟩
   exact ⟨x,p,es.map (·.1),is,rfl,zAc,g1',by rw [Z2];exact hl,hc,h1 _ _ e2 (w1.oth hx) (.d (.int _))⟩
  ·exact h1.elim
 ·exact h1.elim
def dLenSet (fo:FE):FE:=fun ev S=>(fo ev S).bind fun d S=>match lstOf S d with
 | some xs=>match strsD xs with
  | some ks=>if ks.length≤4000 then .ok (.d (.int (dl ks).length)) S else .st
  | none=>.st
 | none=>.st
theorem zVl {lp sp cp:Pos} (hm:X.mg "len" = none) (hms:X.mg "set" = none) (hc:X.calm=true) (ho:DE cl X Z o fo) (hg:Gl X "len":=by rfl) (hgs:Gl X "set":=by rfl) (he:starEach [o] X.env=(false,eval o X.env) :: starEach [] X.env:=by rfl) (he2:starEach [.Call (.Name "set" sp) [o] [] cp] X.env=(false,eval (.Call (.Name "set" sp) [o] [] cp) X.env) :: starEach [] X.env:=by rfl) (hpl:∀ q:Pos,(backTo q (starEach [] X.env)).any (·.1)=false:=by exact fun _=>rfl):DE cl X Z (.Call (.Name "len" lp) [.Call (.Name "set" sp) [o] [] cp] [] pos) (dLenSet fo):=by
 obtain ⟨to,po,co⟩:=ho.ex;refine .of ⟨_,L2.zIn zJm hg hm PySem.boot_len (L2.zGd (L2.zOs (zOd hc) hgs hms PyProof.Rows.boot_set (L2.zGd po L2.zMu he) (by decide) (by decide) he (hpl _)) L2.zMu he2) (by decide) (by decide) he2 (hpl _),fun W S σ ev Q w r h=>co W S σ ev _ w r (PO.bind h fun d S1 W1 v e1 w1 r1 h1=>?_)⟩;split at h1
 ·next xs ex =>
  split at h1
  ·next ks ek =>
   split at h1
   ·next c =>
    obtain ⟨p,vs,rfl,g1,g2,g3⟩:=zEk (K:=X.K) w1 r1 ex;obtain ⟨rfl,hk⟩:=zL3 g3 ek;exact ⟨p,ks,rfl,g1,c,fun x hx=>⟨x,ks,rfl,zAc,c,h1 _ _ (Ext.oth hx) (w1.oth hx) (.d (.int _))⟩⟩
   ·exact h1.elim
  ·exact h1.elim
 ·exact h1.elim
structure KIs (K:PySem.W.Frag) (C:Addr):Prop where
 cl:Cls K C
 ha:PySem.W.findIn K (.ref C) "__class__" = some (some (.builtin "object.__class__"))
 hn:PySem.W.specialIn K (.builtin "object.__class__") "__get__" = some (some (.builtin "getset_descriptor.__get__"))
 htk:PySem.W.takesIn K (.builtin "object.__class__")=some true
 hm:PySem.W.mroIn K C (.type "object")=some true
structure KtOk (K:PySem.W.Frag) (cl:Cl) (is cs:List Str) (kt:List (Str×Str)):Prop where
 ki:∀ c,is.contains c=true→KIs K (cl c)
 kk:∀ c c',is.contains c=true→cs.contains c'=true→PySem.W.kitOne K (.ref (cl c)) (.ref (cl c'))=some (kt.contains (c,c'))
 kb:∀ t c',t∈(["NoneType", "bool", "int", "str", "list", "tuple", "dict"]:List String)→cs.contains c'=true→PySem.W.kitOne K (.type t) (.ref (cl c'))=some false
 kc:∀ c t,is.contains c=true→t∈(["bool", "int", "str", "list", "tuple", "dict"]:List String)→PySem.W.kitOne K (.ref (cl c)) (.type t)=some false
def tyB (S:Sto):U→Option String
 | .d .non=>some "NoneType"
 | .d (.bl _)=>some "bool"
 | .d (.int _)=>some "int"
 | .d (.str _)=>some "str"
 | .d (.tup _)=>some "tuple"
 | .d (.dct _)=>none
 | .d (.obj _ _)=>none
 | .loc n=>match S[n]? with
  | some (.lst _)=>some "list"
  | some (.dct _)=>some "dict"
  | _=>none
 | _=>some "list"
theorem zYd {K:PySem.W.Frag}{W:Wo}{S:Sto}{v:V}{d:U}{t:String} (w:WR cl W S) (r:RU cl W v d) (h:tyB S d=some t):TyOf K W.H v (.type t)∧t∈(["NoneType", "bool", "int", "str", "list", "tuple", "dict"]:List String):=by
 cases r with
 | d r =>
  cases r with
  | non=>cases h;exact ⟨.non,by simp⟩
  | bl b=>cases h;exact ⟨.bl b,by simp⟩
  | int b=>cases h;exact ⟨.int b,by simp⟩
  | str b hb=>cases h;exact ⟨.str b,by simp⟩
  | tup g e l r=>cases h;exact ⟨.tup e,by simp⟩
  | lst g e l r=>cases h;exact ⟨.lst e,by simp⟩
  | frl g e l r=>cases h;exact ⟨.frz e,by simp⟩
  | dct g e l r=>cases h
  | obj g e r=>cases h
 | @loc n p hn =>
  have h:(match S[n]? with | some (.lst _)=>some "list" | some (.dct _)=>some "dict" | _=>none)=some t:=h;split at h
  ·next e=>cases h;obtain ⟨_,vs,e1,_⟩:=w.cell _ _ _ e hn;exact ⟨.lst e1,by simp⟩
  ·next e=>cases h;obtain ⟨_,vs,e1,_⟩:=w.cell _ _ _ e hn;exact ⟨.dK e1,by simp⟩
  ·cases h
def kitT (t T:String):Bool:=t == T || (t == "bool" && T == "int")
theorem yB7 {K:PySem.W.Frag}{t T:String} (h:t∈(["NoneType", "bool", "int", "str", "list", "tuple", "dict"]:List String)) (h':T∈(["bool", "int", "str", "list", "tuple", "dict"]:List String)):PySem.W.kitOne K (.type t) (.type T)=some (kitT t T):=by
 simp only [Zw,Zr,or_false] at h h';rcases h with rfl | rfl | rfl | rfl | rfl | rfl | rfl <;> rcases h' with rfl | rfl | rfl | rfl | rfl | rfl <;> rfl
def isiT (is:List Str) (T:String) (d:U) (S:Sto):Out U:=match tyB S d with
 | some t=>.ok (.d (.bl (kitT t T))) S
 | none=>match insOf S d with
  | some (c,_)=>if is.contains c=true then .ok (.d (.bl false)) S else .st
  | none=>.st
def isiC (is:List Str) (kt:List (Str×Str)) (c':Str) (d:U) (S:Sto):Out U:=match tyB S d with
 | some t=>.ok (.d (.bl false)) S
 | none=>match insOf S d with
  | some (c,_)=>if is.contains c=true then .ok (.d (.bl (kt.contains (c,c')))) S else .st
  | none=>.st
theorem zYz {K:PySem.W.Frag}{is cs:List Str}{kt:List (Str×Str)}{W:Wo}{S:Sto}{v:V}{d:U}{c:Str}{gs:List (Str×U)} (T:KtOk K cl is cs kt) (w:WR cl W S) (r:RU cl W v d) (h:insOf S d=some (c,gs)) (hc:is.contains c=true):TyOf K W.H v (.ref (cl c)):=by
 obtain ⟨p,dx,fs,rfl,e,_⟩:=zPh w r h;have k:=T.ki c hc;exact .ins e k.cl k.ha k.hn k.htk k.hm
theorem zBu {is cs:List Str}{kt:List (Str×Str)}{T:String}{x:Str}{p p2:Pos} (Kt:KtOk X.K cl is cs kt) (hm:X.mg "isinstance" = none) (hmT:X.mg x=none) (hT:T∈(["bool", "int", "str", "list", "tuple", "dict"]:List String)) (hv:bootBuiltins x=some (.type T)) (ha:DE cl X Z a fa) (hg:Gl X "isinstance":=by rfl) (hgT:Gl X x:=by rfl) (hn:x≠"__name__":=by decide) (hdb:(x == ("__debug__" : Str))=false:=by decide)
 (he:starEach [a,.Name x p2] X.env=(false,eval a X.env) :: starEach [.Name x p2] X.env:=by rfl) (he2:starEach [.Name x p2] X.env=(false,eval (.Name x p2) X.env) :: starEach [] X.env:=by rfl) (hpl:(backTo pos (starEach [.Name x p2] X.env)).any (·.1)=false:=by rfl):DE cl X Z (.Call (.Name "isinstance" p) [a,.Name x p2] [] pos) (d1 (isiT is T) fa):=by
 obtain ⟨ta,pa,ca⟩:=ha.ex;refine .of ⟨_,L2.zIn zM9 hg hm PyProof.Rows.boot_isinstance (L2.zGd pa (L2.zGd (L2.yAd (v:=.ty T) hgT hmT hv rfl hn hdb) L2.zMu he2) he) (by decide) (by decide) he hpl,fun W S σ ev Q w r h=>ca W S σ ev _ w r (PO.bind h fun d S1 W1 v e1 w1 r1 h1=>?_)⟩;unfold isiT at h1;split at h1
 ·next t et =>
  obtain ⟨k1,k2⟩:=zYd (K:=X.K) w1 r1 et;exact ⟨v,.ty T,_,.type T,_,rfl,k1,rfl,yB7 k2 hT,h1.now w1 (.d (.bl _))⟩
 ·split at h1
  ·next c gs ei =>
   split at h1
   ·next hc=>exact ⟨v,.ty T,_,.type T,_,rfl,zYz Kt w1 r1 ei hc,rfl,Kt.kc c T hc hT,h1.now w1 (.d (.bl _))⟩
   ·exact h1.elim
  ·exact h1.elim
theorem zO5 {is cs:List Str}{kt:List (Str×Str)}{x c':Str}{p p2:Pos} (Kt:KtOk X.K cl is cs kt) (hm:X.mg "isinstance" = none) (hmT:X.mg x=some (.ref (cl c'))) (hT:cs.contains c'=true) (ha:DE cl X Z a fa) (hg:Gl X "isinstance":=by rfl) (hgT:Gl X x:=by rfl) (hdb:(x == ("__debug__" : Str))=false:=by decide)
 (he:starEach [a,.Name x p2] X.env=(false,eval a X.env) :: starEach [.Name x p2] X.env:=by rfl) (he2:starEach [.Name x p2] X.env=(false,eval (.Name x p2) X.env) :: starEach [] X.env:=by rfl) (hpl:(backTo pos (starEach [.Name x p2] X.env)).any (·.1)=false:=by rfl):DE cl X Z (.Call (.Name "isinstance" p) [a,.Name x p2] [] pos) (d1 (isiC is kt c') fa):=by
 obtain ⟨ta,pa,ca⟩:=ha.ex;refine .of ⟨_,L2.zIn zM9 hg hm PyProof.Rows.boot_isinstance (L2.zGd pa (L2.zGd (L2.zNj (v:=.ref (cl c')) hgT hmT rfl hdb) L2.zMu he2) he) (by decide) (by decide) he hpl,fun W S σ ev Q w r h=>ca W S σ ev _ w r (PO.bind h fun d S1 W1 v e1 w1 r1 h1=>?_)⟩;unfold isiC at h1;split at h1
 ·next t et =>
  obtain ⟨k1,k2⟩:=zYd (K:=X.K) w1 r1 et;exact ⟨v,.ref (cl c'),_,.ref (cl c'),_,rfl,k1,rfl,Kt.kb t c' k2 hT,h1.now w1 (.d (.bl _))⟩
 ·split at h1
  ·next c gs ei =>
   split at h1
   ·next hc=>exact ⟨v,.ref (cl c'),_,.ref (cl c'),_,rfl,zYz Kt w1 r1 ei hc,rfl,Kt.kk c c' hc hT,h1.now w1 (.d (.bl _))⟩
   ·exact h1.elim
  ·exact h1.elim
end
end L2.F
namespace L2.F
open PySem PySem.Spec PyProof.Rows L2
abbrev GT:=U→Ev→Option Ev
abbrev GTs:=List U→Ev→Option Ev
def tG (cl:Cl) {α β : Type} (R:Wo→β→α→Prop) (g : α→Ev→Option Ev) : β→St→Hp→(St→Hp→Prop)→Prop:=fun v σ H Q=>∃ W d ev ev',W.H=H∧ER cl W σ ev∧R W v d∧g d ev=some ev'∧∀ σ',ER cl W σ' ev'→Q σ' H
structure DG (cl:Cl) (X:Cx) (e:Expr) (g:GT):Prop where
 pe:L2.PG X e (tG cl (RU cl) g)
structure DGs (cl:Cl) (X:Cx) (e:List Expr) (g:GTs):Prop where
 pe:L2.PGs X e (tG cl (RUs cl) g)
section
variable {cl:Cl}{X:Cx}{W:Wo}{σ : St}{ev:Ev}
theorem ER.set {v:V}{d:U} (r:ER cl W σ ev) (rv:RU cl W v d) (i:Nat):ER cl W (σ.set i (some v)) (ev.set i (some d)):=by
 refine ⟨by rw [List.length_set,List.length_set];exact r.len,fun j d' h=>?_⟩;by_cases e:i=j
 ·subst e;have hl:i < ev.length:=by have:=(List.getElem?_eq_some_iff.mp h).1;rw [List.length_set] at this;exact this
  rw [List.getElem?_set_self hl] at h;cases h;exact ⟨v,by rw [List.getElem?_set_self (by rw [r.len];exact hl)],rv⟩
 ·rw [Y3 e] at h;obtain ⟨u,h1,h2⟩:=r.get j d' h;exact ⟨u,by rw [Y3 e];exact h1,h2⟩
theorem ER.ext {k:Nat} (r:ER cl W σ ev):ER cl W (σ++List.replicate k none) (ev++List.replicate k none):=by
 refine ⟨by simp [r.len],fun j d h=>?_⟩;by_cases hj:j < ev.length
 ·rw [Ze hj] at h;obtain ⟨u,h1,h2⟩:=r.get j d h;exact ⟨u,by rw [Ze (by rw [r.len];exact hj)];exact h1,h2⟩
 ·rw [Zg (by omega),List.getElem?_replicate] at h;split at h <;> cases h
def gN (i:Nat):GT:=fun d ev=>some (ev.set i (some d))
theorem zAi (i:Nat) {x:Str}{pos:Pos} (hN:X.N.Nodup) (hi:X.N[i]? = some x:=by rfl) (hx:Loc X.env.scope x:=by first | exact Or.inl rfl | exact Or.inr rfl) (hf:X.fn x=true∨X.env.scope.names.lookup x=some .local:=by first | exact .inl rfl | exact .inr rfl | assumption):DG cl X (.Name x pos) (gN i):=⟨fun pins s σ H v u Q I rv ⟨W,d,ev,ev',e,er,r,h,q⟩=>L2.yA8 hN hi hx hf pins s σ H v u Q I rv (by cases h;exact q _ (er.set r i))⟩
def gs0:GTs:=fun ds ev=>match ds with
 | []=>some ev
 | _=>none
def gsC (g:GT) (gs:GTs):GTs:=fun ds ev=>match ds with
 | d :: r=>match g d ev with
  | some ev'=>gs r ev'
  | none=>none
 | []=>none
theorem yBn:DGs cl X [] gs0:=⟨fun pins s σ H vs us Q I rv ⟨W,ds,ev,ev',e,er,r,h,q⟩=>L2.yA7 pins s σ H vs us Q I rv (by
 cases r with
 | nil=>cases h;exact ⟨rfl,q _ er⟩
 | cons _ _=>cases h)⟩
theorem zSf {e:Expr}{es:List Expr}{g:GT}{gs:GTs} (h1:DG cl X e g) (h2:DGs cl X es gs) (hs:(assignEach (e :: es) X.env).map (·.2)=assign e X.env :: (assignEach es X.env).map (·.2):=by rfl):DGs cl X (e :: es) (gsC g gs):=⟨fun pins s σ H vs us Q I rv ⟨W,ds,ev,ev',e,er,r,h,q⟩=>L2.zWg h1.pe h2.pe hs pins s σ H vs us Q I rv (by
 cases r with
 | nil=>cases h
 | @cons v d vs ds r1 r2 =>
  have h:(match g d ev with | some ev'=>gs ds ev' | none=>none)=some ev':=h;split at h
  ·next e1 he=>exact ⟨v,vs,rfl,W,d,ev,e1,e,er,r1,he,fun σ' er'=>⟨W,ds,e1,ev',e,er',r2,h,q⟩⟩
  ·cases h)⟩
def gTu (gs:GTs):GT:=fun d ev=>match d with
 | .d (.tup ds)=>gs (ds.map .d) ev
 | _=>none
theorem yFa {es:List Expr}{k:Nat}{gs:GTs}{pos:Pos}{n:Nat} (hc:X.calm=true) (h:DGs cl X es gs) (hg:∀ ds ev ev',gs ds ev=some ev'→ds.length=n) (hn:(assignEach es X.env).length=n:=by rfl) (hst:(assignEach es X.env).findIdx? (·.1)=none:=by rfl):DG cl X (.Tuple es k pos) (gTu gs):=⟨fun pins s σ H v u Q I rv ⟨W,d,ev,ev',e,er,r,h',q⟩=>L2.yDe hc h.pe hn hst pins s σ H v u Q I rv (by
 unfold gTu at h';split at h'
 ·next ds =>
  obtain ⟨p,vs,rfl,g1,g2,g3⟩:=zMn (K:=X.K) r;exact ⟨p,vs,rfl,by rw [← e];exact g1,by rw [g3.up.length];exact hg _ _ _ h',W,_,ev,ev',e,er,g3.up,h',q⟩
 ·cases h')⟩
theorem yBc:∀ ds (ev ev':Ev),gs0 ds ev=some ev'→ds.length=0:=fun ds ev ev' h=>by
 cases ds with
 | nil=>rfl
 | cons _ _=>cases h
theorem zV6 {g:GT}{gs:GTs}{n:Nat} (hg:∀ ds ev ev',gs ds ev=some ev'→ds.length=n):∀ ds (ev ev':Ev),gsC g gs ds ev=some ev'→ds.length=n + 1:=fun ds ev ev' h=>by
 cases ds with
 | nil=>cases h
 | cons d r =>
  have h:(match g d ev with | some ev'=>gs r ev' | none=>none)=some ev':=h;split at h
  ·rw [Zd,hg _ _ _ h]
  ·cases h
end
inductive Itd where
 | items (ds:List U) | cel (n:Nat)
def itm:Itd→Sto→Nat→Option (Option U)
 | .items ds,_,k=>some ds[k]?
 | .cel n,S,k=>match celL S n with
  | some xs=>some xs[k]?
  | none=>none
def itLen:Itd→Sto→Nat
 | .items ds,_=>ds.length
 | .cel n,S=>match celL S n with
  | some xs=>xs.length
  | none=>0
def RI (cl:Cl) (W:Wo) (J:It) (i:Itd):Prop:=∀ W' S',Ext W W'→WR cl W' S'→∀ k,match itm i S' k with
 | some (some d)=>J.go k W'.H∧∀ x H',J.yld k W'.H x H'→∃ W'',Ext W' W''∧WR cl W'' S'∧W''.H=H'∧RU cl W'' x d
 | some none=>J.stop k W'.H
 | none=>True
abbrev FI:=Ev→Sto→Out Itd
structure DI (cl:Cl) (X:Cx) (Z:TZ) (tg e:Expr) (f:FI):Prop where
 pe:L2.PI X tg e (tF cl (RI cl) Z f)
theorem DI.of {cl:Cl}{X:Cx}{Z:TZ}{tg e:Expr}{f:FI} (h:∃ t,L2.PI X tg e t∧∀ (W:Wo) (S:Sto) (σ : St) (ev:Ev) (Q:It→Hp→Prop),WR cl W S→ER cl W σ ev→PO cl (RI cl) W Q (Z σ) (f ev S)→t σ W.H Q):DI cl X Z tg e f:=by
 obtain ⟨t,p,c⟩:=h;exact ⟨fun pins s σ H Q I ⟨W,S,ev,e,w,r,h⟩=>p pins s σ H Q I (by rw [← e];exact c W S σ ev Q w r h)⟩
theorem DI.ex {cl:Cl}{X:Cx}{Z:TZ}{tg e:Expr}{f:FI} (h:DI cl X Z tg e f):∃ t,L2.PI X tg e t∧∀ (W:Wo) (S:Sto) (σ : St) (ev:Ev) (Q:It→Hp→Prop),WR cl W S→ER cl W σ ev→PO cl (RI cl) W Q (Z σ) (f ev S)→t σ W.H Q:=⟨_,h.pe,fun W S σ ev Q w r h=>⟨W,S,ev,rfl,w,r,h⟩⟩
section
variable {cl:Cl}{X:Cx}{Z:TZ}{a b tg:Expr}{fa fb:FE}{pos:Pos}
theorem PI.or {e:Expr}{t u:TI} (h:L2.PI X tg e t) (h':L2.PI X tg e u):L2.PI X tg e (fun σ H R=>t σ H R∨u σ H R):=fun pins s σ H R I q=>q.elim (h pins s σ H R I) (h' pins s σ H R I)
def itO (d:U) (S:Sto):Out Itd:=match d with
 | .d (.tup xs)=>.ok (.items (xs.map .d)) S
 | .d (.lst xs)=>.ok (.items (xs.map .d)) S
 | .d (.frl xs)=>.ok (.items (xs.map .d)) S
 | .d (.dct es)=>if ((upK es).all fun e=>keyOk e.1)=true then .ok (.items ((upK es).map fun kv=>keyU kv.1)) S else .st
 | .loc n=>match celL S n with
  | some _=>.ok (.cel n) S
  | none=>.st
 | _=>.st
def iAny (fa:FE):FI:=fun ev S=>(fa ev S).bind itO
theorem zYh {K:PySem.W.Frag}{W:Wo}{p:Addr}{vs:List V}{ds:List U} (hg:∀ W',Ext W W'→SqL K W'.H p vs) (r:RUs cl W vs ds):RI cl W (Itl K p) (.items ds):=fun W' S' e w k=>by
 show match (some ds[k]? : Option (Option U)) with | some (some d)=>_ | some none=>_ | none=>True
 cases hk:ds[k]? with
 | some d =>
  obtain ⟨v,hv,rv⟩:=r.get hk;refine ⟨⟨vs,v,hg W' e,hv⟩,fun x H' y=>?_⟩;obtain ⟨rfl,y⟩:=y;have:=y vs (hg W' e);rw [hv] at this;cases this;exact ⟨W',Ext.refl _,w,rfl,rv.mono e⟩
 | none=>exact ⟨vs,hg W' e,by rw [r.length];exact List.getElem?_eq_none_iff.mp hk⟩
theorem yCs {K:PySem.W.Frag}{W:Wo}{p:Addr}{vs:List V}{ds:List U} (hg:∀ W',Ext W W'→SqT K W'.H p vs) (r:RUs cl W vs ds):RI cl W (Itt K p) (.items ds):=fun W' S' e w k=>by
 show match (some ds[k]? : Option (Option U)) with | some (some d)=>_ | some none=>_ | none=>True
 cases hk:ds[k]? with
 | some d =>
  obtain ⟨v,hv,rv⟩:=r.get hk;refine ⟨⟨vs,v,hg W' e,hv⟩,fun x H' y=>?_⟩;obtain ⟨rfl,y⟩:=y;have:=y vs (hg W' e);rw [hv] at this;cases this;exact ⟨W',Ext.refl _,w,rfl,rv.mono e⟩
 | none=>exact ⟨vs,hg W' e,by rw [r.length];exact List.getElem?_eq_none_iff.mp hk⟩
theorem yCt {K:PySem.W.Frag}{W:Wo}{p:Addr}{n:Nat} (hn:W.μ[n]? = some p):RI cl W (Itl K p) (.cel n):=fun W' S' e w k=>by
 have hn':W'.μ[n]? = some p:=by
  obtain ⟨ν,z⟩:=e.m;rw [z,Ze (List.getElem?_eq_some_iff.mp hn).1];exact hn
 show match (match celL S' n with | some xs=>some xs[k]? | none=>none:Option (Option U)) with | some (some d)=>_ | some none=>_ | none=>True
 cases hc:celL S' n with
 | none=>trivial
 | some xs =>
  obtain ⟨p',vs,e0,_,_,h1,h2,h3⟩:=zKl w (.loc hn':RU cl W' (.ref p) (.loc n)) hc;cases e0;show match (some xs[k]? : Option (Option U)) with | some (some d)=>_ | some none=>_ | none=>True
  cases hk:xs[k]? with
  | some d =>
   obtain ⟨v,hv,rv⟩:=h3.get hk;refine ⟨⟨vs,v,.of h1,hv⟩,fun x H' y=>?_⟩;obtain ⟨rfl,y⟩:=y;have:=y vs (.of h1);rw [hv] at this;cases this;exact ⟨W',Ext.refl _,w,rfl,rv⟩
  | none=>exact ⟨vs,.of h1,by rw [h3.length];exact List.getElem?_eq_none_iff.mp hk⟩
theorem zYi {W:Wo}{p:Addr}{o:Obj}{vs:List (Key×V)}{es:List (Key×U)} (hG:W.G p) (hf:W.H p=some (.frz o (.dK vs))) (r:RUK cl W vs es) (hk:(es.all fun e=>keyOk e.1)=true):RI cl W (Itk p vs o) (.items (es.map fun kv=>keyU kv.1)):=fun W' S' e w k=>by
 have hf':=e.k p _ hG rfl hf;have rr:=(keyRp r hk).up;rw [List.map_map] at rr;have rr:RUs cl W (vs.map fun kv=>kV kv.1) (es.map fun kv=>keyU kv.1):=rr;show match (some (es.map fun kv=>keyU kv.1)[k]? : Option (Option U)) with | some (some d)=>_ | some none=>_ | none=>True
 cases hk:(es.map fun kv=>keyU kv.1)[k]? with
 | some d =>
  obtain ⟨v,hv,rv⟩:=rr.get hk;rw [Zo] at hv;obtain ⟨kv,h1,h2⟩:=Option.map_eq_some_iff.mp hv;refine ⟨⟨hf',(List.getElem?_eq_some_iff.mp h1).1⟩,fun x H' y=>?_⟩;obtain ⟨rfl,q,z,hz,rfl⟩:=y;rw [h1] at hz;cases hz;rw [← h2] at rv;exact ⟨W',Ext.refl _,w,rfl,rv.mono e⟩
 | none =>
  refine ⟨hf',?_⟩;have:=List.getElem?_eq_none_iff.mp hk;rw [Z2] at this;rw [r.length];exact this
theorem PO.bindE {α β γ δ : Type}{R:Wo→β→α→Prop}{R2:Wo→δ→γ→Prop}{W:Wo}{Q : β→Hp→Prop}{Q2 : δ→Hp→Prop}{Z:Addr→Addr→Hp→Prop}{o:Out α}{k : α→Sto→Out γ} (h:PO cl R2 W Q2 Z (o.bind k)) (hq:∀ d S W' v,o=.ok d S→Ext W W'→WR cl W' S→R W' v d→PO cl R2 W' Q2 Z (k d S)→Q v W'.H):PO cl R W Q Z o:=by
 cases o with
 | ok d S=>exact fun W2 v e w r=>hq d S W2 v rfl e w r (PO.ext h e)
 | ex c S=>exact h
 | st=>exact h
def iKeysA (tl:TE):TI:=fun σ H R=>tl σ H fun x H1=>∃ d kvs,x=.ref d∧((H1 d=some (.dK kvs)∧∀ o,R (Itk d kvs o) (upd H1 d (.frz o (.dK kvs))))∨∃ o,H1 d=some (.frz o (.dK kvs))∧R (Itk d kvs o) H1)
theorem zWf {l:Expr}{tl:TE} (hl:L2.PE X l tl):L2.PI X tg l (iKeysA tl):=by
 intro pins s σ H R I h;refine thn (hl pins s σ H _ I h) fun v s1 ⟨x,H1,I1,r1,q1⟩=>?_;obtain ⟨d,kvs,rfl,q⟩:=q1;obtain rfl:v=Value.ref d:=r1;have fin:∀ (o:Obj) (es:Array DictEntry) (ep:Nat) (H2:Hp),o.data=.dict es ep→Inv X pins σ H2 s1→H2 d=some (.frz o (.dK kvs))→R (Itk d kvs o) H2→wpAny (model X.prog X.w) X.A (pyIter (.ref d)) (PIE X pins σ tg R) X.xe s1:=fun o es ep H2 hd J hf q=>by
  obtain ⟨vs,kv,da,lo⟩:=J.dictAt hf hd;refine wpAny_pyIter_dict lo da ?_;have J2:=J.kept (t':=s1.toks) (h':=s1.heap.push { cls:=.type "dict_keyiterator",data:=.fields #[.ref d,.int 0 0,.int vs.length 0,.int ep 0] }) fun b u e=>Z0 _ e;refine ⟨s1.heap.objs.size,[s1.heap.objs.size],_,_,_,rfl,J2,zTj hd,⟨_,Z9 _ rfl,rfl,by rw [kv.len];rfl⟩,fun c hc=>?_,q⟩;have:c=s1.heap.objs.size:=by simpa using hc
  subst this;exact J.fpOk (Z1 _) (J.hok.fresh (Z1 _))
 rcases q with ⟨hk,q⟩ | ⟨o0,hf,q⟩
 ·obtain ⟨o,es,ep,hd,g,J⟩:=I1.freeze (.inl hk);exact fin o es ep _ hd J zAc (q o)
 ·obtain ⟨o,es,ep,hd,g,J⟩:=I1.freeze (.inr ⟨o0,hf⟩);obtain ⟨g0,_⟩:=I1.hok d _ hf;rw [g0] at g;cases g;exact fin _ es ep _ hd I1 hf q
theorem zAt (ha:DE cl X Z a fa):DI cl X Z tg a (iAny fa):=by
 obtain ⟨ta,pa,ca⟩:=ha.ex;refine .of ⟨_,PI.or (L2.yA5 pa) (PI.or (L2.yDc pa) (zWf pa)),fun W S σ ev Q w r h=>?_⟩;have key:∀ (t:V→Hp→Prop),(∀ d S1 W1 v,fa ev S=.ok d S1→Ext W W1→WR cl W1 S1→RU cl W1 v d→PO cl (RI cl) W1 Q (Z σ) (itO d S1)→t v W1.H)→ta σ W.H t:=fun t ht=>ca W S σ ev _ w r (PO.bindE h fun d S1 W1 v ee e1 w1 r1 h1=>ht d S1 W1 v ee e1 w1 r1 h1);cases hf:fa ev S with
 | ok d S1 =>
  cases d with
  | d x =>
   cases x with
   | tup xs =>
    refine .inr (.inl (key _ fun d S1 W1 v ee e1 w1 r1 h1=>?_));rw [hf] at ee;cases ee;cases r1 with
    | d r1 =>
    cases r1 with
    | @tup p vs _ g e l rr=>exact ⟨p,rfl,⟨vs,.of e⟩,h1.now w1 (yCs (fun W' e'=>.of (e'.k _ _ g rfl e)) rr.up)⟩
   | lst xs =>
    refine .inl (key _ fun d S1 W1 v ee e1 w1 r1 h1=>?_);rw [hf] at ee;cases ee;cases r1 with
    | d r1 =>
    cases r1 with
    | @lst p vs _ g e l rr=>exact ⟨p,rfl,⟨vs,.of e⟩,h1.now w1 (zYh (fun W' e'=>.of (e'.k _ _ g rfl e)) rr.up)⟩
   | frl xs =>
    refine .inl (key _ fun d S1 W1 v ee e1 w1 r1 h1=>?_);rw [hf] at ee;cases ee;cases r1 with
    | d r1 =>
    cases r1 with
    | @frl p o vs _ g e l rr=>exact ⟨p,rfl,⟨vs,.inl (.inr ⟨o,e⟩)⟩,h1.now w1 (zYh (fun W' e'=>.inl (.inr ⟨o,e'.k _ _ g rfl e⟩)) rr.up)⟩
   | dct es =>
    refine .inr (.inr (key _ fun d S1 W1 v ee e1 w1 r1 h1=>?_));rw [hf] at ee;cases ee;have h1:PO cl (RI cl) W1 Q (Z σ) (if ((upK es).all fun e=>keyOk e.1)=true then .ok (.items ((upK es).map fun kv=>keyU kv.1)) S1 else .st):=h1;split at h1
    ·next hk =>
     cases r1 with
     | d r1 =>
     cases r1 with
     | @dct p vs _ g e l rr =>
      refine ⟨p,vs,rfl,?_⟩;rcases e with e | ⟨o,e⟩
      ·exact .inl ⟨e,fun o=>h1 (W1.put p (.frz o (.dK vs))) _ (Ext.frz g e) (w1.frz g e) (zYi g zAc (rr.mono (Ext.frz g e)).up hk)⟩
      ·exact .inr ⟨o,e,h1.now w1 (zYi g e rr.up hk)⟩
    ·exact h1.elim
   | _=>rw [iAny,hf] at h;exact h.elim
  | loc n =>
   refine .inl (key _ fun d S1 W1 v ee e1 w1 r1 h1=>?_);rw [hf] at ee;cases ee;have h1:PO cl (RI cl) W1 Q (Z σ) (match celL S1 n with | some _=>.ok (.cel n) S1 | none=>.st):=h1;split at h1
   ·next xs ex =>
    obtain ⟨p,vs,rfl,hn,hg,e1,e2,e3⟩:=zKl w1 r1 ex;exact ⟨p,rfl,⟨vs,.of e1⟩,h1.now w1 (yCt hn)⟩
   ·exact h1.elim
 | ex c S1=>exact .inl (key _ fun d S1 W1 v ee=>by rw [hf] at ee;cases ee)
 | st=>rw [iAny,hf] at h;exact h.elim
end
end L2.F
namespace L2.F
open PySem PySem.Spec PyProof.Rows L2
def noX {α : Type}:Out α→Out α
 | .ex _ _=>.st
 | o=>o
def ZN:TZ:=fun _ _ _ _=>False
def compR (it:Itd) (g:GT) (t:FT) (f:FE) (ev:Ev):Nat→Nat→List U→Sto→Out (List U)
 | 0,k,acc,S=>match itm it S k with
  | some none=>.ok acc S
  | _=>.st
 | r + 1,k,acc,S=>match itm it S k with
  | some none=>.ok acc S
  | some (some d)=>match g d ev with
   | some ev'=>(t ev' S).bind fun b S=>match b with
    | true=>(f ev' S).bind fun y S=>compR it g t f ev r (k + 1) (acc++[y]) S
    | false=>compR it g t f ev r (k + 1) acc S
   | none=>.st
  | none=>.st
def dComp (T:Nat) (fi:FI) (g:GT) (t:FT) (f:FE):FE:=fun ev S=>(fi ev S).bind fun it S=>if itLen it S≤LM then (noX (compR it g t f (ev++List.replicate T none) (itLen it S) 0 [] S)).bind mkL else .st
structure DFs (cl:Cl) (X:Cx) (Z:TZ) (e:List Expr) (f:FT):Prop where
 pe:L2.PFs X e (tF cl RB Z f)
def tYe:FT:=fun _ S=>.ok true S
section
variable {cl:Cl}{X:Cx}{Z:TZ}{a b tg iter elt:Expr}{ifs:List Expr}{fa fb:FE}{pos:Pos}{sc:Scope}{cs:List (Str×Addr)}{T:List Str}{fi:FI}{g:GT}{t:FT}{f:FE}
theorem zBt:DFs cl X Z [] tYe:=⟨fun pins s σ H Q I ⟨W,S,ev,e,w,r,h⟩=>L2.yDh pins s σ H Q I (by rw [← e];exact h.now w rfl)⟩
theorem zNa {c:Expr} (h:DT cl X Z c t):DFs cl X Z [c] t:=⟨L2.yDg h.pe⟩
theorem PO.bindN {α β γ δ ε : Type}{R:Wo→β→α→Prop}{R2:Wo→δ→γ→Prop}{W:Wo}{Q : β→Hp→Prop}{Q2 : δ→Hp→Prop}{Z Z':Addr→Addr→Hp→Prop}{o:Out α}{k : α→Sto→Out ε}{m : ε→Sto→Out γ} (h:PO cl R2 W Q2 Z ((noX (o.bind k)).bind m)) (hq:∀ d S W' v,Ext W W'→WR cl W' S→R W' v d→PO cl R2 W' Q2 Z ((noX (k d S)).bind m)→Q v W'.H):PO cl R W Q Z' o:=by
 cases o with
 | ok d S=>exact fun W2 v e w r=>hq d S W2 v e w r (PO.ext h e)
 | ex c S=>exact (show False from h).elim
 | st=>exact (show False from h).elim
theorem zPq {J:It}{it:Itd}{W1:Wo}{S1:Sto}{σ : St}{ev:Ev}{Q:VK} (ri:RI cl W1 J it) (er:ER cl W1 σ ev) (w1:WR cl W1 S1) {n:Nat} (hl:n≤LM)
 (h:PO cl (RU cl) W1 Q (Z σ) ((noX (compR it g t f (ev++List.replicate T.length none) n 0 [] S1)).bind mkL)):CompGoal J T.length σ W1.H (tG cl (RU cl) g) (tF cl RB ZN t) (tF cl (RU cl) ZN f) Q:=by
 refine ⟨fun i m ys H=>∃ W2 S2 acc,W2.H=H∧Ext W1 W2∧WR cl W2 S2∧RUs cl W2 ys acc∧ys.length≤i∧i + m≤LM∧PO cl (RU cl) W2 Q (Z σ) ((noX (compR it g t f (ev++List.replicate T.length none) m i acc S2)).bind mkL),⟨n,W1,S1,[],rfl,Ext.refl _,w1,.nil,Z1 _,by omega,h⟩,?_⟩;rintro i m ys H ⟨W2,S2,acc,rfl,e2,w2,ra,l1,l2,h⟩;have q:=ri W2 S2 e2 w2 i;have small:ys.length≤sizeLine:=zNz (by omega);have stop:itm it S2 i=some none→PO cl (RU cl) W2 Q (Z σ) (mkL acc S2)→(J.stop i W2.H∧ys.length≤sizeLine∧∀ p,W2.H p=none→Q (.ref p) (upd W2.H p (.lst ys))):=fun hi h=>by
  rw [hi] at q;exact ⟨q,small,(zKb w2 ra h).2⟩
 cases m with
 | zero =>
  unfold compR at h;cases hi:itm it S2 i with
  | none=>rw [hi] at h;exact (show False from h).elim
  | some o =>
   cases o with
   | none=>rw [hi] at h;exact .inl (stop hi h)
   | some d=>rw [hi] at h;exact (show False from h).elim
 | succ m =>
  unfold compR at h;cases hi:itm it S2 i with
  | none=>rw [hi] at h;exact (show False from h).elim
  | some o =>
   cases o with
   | none=>rw [hi] at h;exact .inl (stop hi h)
   | some d =>
    rw [hi] at h q;refine .inr ⟨q.1,small,fun x H' y=>?_⟩;obtain ⟨W3,e3,w3,rfl,rx⟩:=q.2 x H' y;have h:=PO.ext h e3;cases hg:g d (ev++List.replicate T.length none) with
    | none=>simp only [hg] at h;exact (show False from h).elim
    | some ev' =>
     simp only [hg] at h;refine ⟨W3,d,_,ev',rfl,((er.mono e2).mono e3).ext,rx,hg,fun σ' er'=>⟨W3,S2,ev',rfl,w3,er',PO.bindN h fun b S4 W4 b' e4 w4 rb h4=>?_⟩⟩;have rb:b'=b:=rb;subst rb;have ext4:=(e2.trans e3).trans e4;cases b' with
     | true =>
      rw [if_pos rfl];refine ⟨W4,S4,ev',rfl,w4,er'.mono e4,PO.bindN h4 fun y S5 W5 v e5 w5 ry h5=>?_⟩;exact ⟨m,Zp _,W5,S5,acc++[y],rfl,ext4.trans e5,w5,(((ra.mono e3).mono e4).mono e5).append (.cons ry .nil),by rw [Zf];show ys.length + 1≤i + 1;omega,by omega,h5⟩
     | false =>
      rw [if_neg Z6];exact ⟨m,Zp _,W4,S4,acc,rfl,ext4,w4,(ra.mono e3).mono e4,by omega,by omega,h4⟩
theorem zAw (hc:X.calm=true) (S:ScOk X sc cs T) (hi:DI cl X Z tg iter fi) (hg:∀ C s H fp,DG cl (cxComp X sc cs T C s H fp) tg g) (hf:∀ C s H fp,DFs cl (cxComp X sc cs T C s H fp) ZN ifs t) (he:∀ C s H fp,DE cl (cxComp X sc cs T C s H fp) ZN elt f) (hs:∀ x,foldedSetIterable iter X.env x=pure x:=by intro _;rfl):DE cl X Z (.ListComp elt [⟨tg,iter,ifs,0⟩] sc pos) (dComp T.length fi g t f):=by
 obtain ⟨ti,pi,ci⟩:=hi.ex;refine .of ⟨_,L2.yAa hc S pi (fun C s H fp=>(hg C s H fp).pe) (fun C s H fp=>(hf C s H fp).pe) (fun C s H fp=>(he C s H fp).pe) hs,fun W S σ ev Q w r h=>ci W S σ ev _ w r (PO.bind h fun it S1 W1 J e1 w1 ri h1=>?_)⟩;split at h1
 ·next hl=>exact zPq ri (r.mono e1) w1 hl h1
 ·exact h1.elim
end
end L2.F
namespace L2.F
open PySem PySem.Spec PyProof.Rows L2
def PF (cl:Cl) (W:Wo) (D:Ends) (Z:TZ):Fl→Prop
 | .nx e S=>∀ W' σ',Ext W W'→WR cl W' S→ER cl W' σ' e→D.nx σ' W'.H
 | .rt d S=>∀ W' v,Ext W W'→WR cl W' S→RU cl W' v d→D.rt v W'.H
 | .bk e S=>∀ W' σ',Ext W W'→WR cl W' S→ER cl W' σ' e→D.bk σ' W'.H
 | .ct e S=>∀ W' σ',Ext W W'→WR cl W' S→ER cl W' σ' e→D.ct σ' W'.H
 | .ex c e S=>∀ W' σ' x,Ext W W'→WR cl W' S→ER cl W' σ' e→W'.H x=some (XO (cl c) x)→Z σ' x (cl c) W'.H
 | .st=>False
theorem PF.ext {cl:Cl}{W W':Wo}{D:Ends}{Z:TZ}{f:Fl} (h:PF cl W D Z f) (e:Ext W W'):PF cl W' D Z f:=by
 cases f with
 | nx e' S=>exact fun W2 σ e2 w r=>h W2 σ (e.trans e2) w r
 | rt d S=>exact fun W2 v e2 w r=>h W2 v (e.trans e2) w r
 | bk e' S=>exact fun W2 σ e2 w r=>h W2 σ (e.trans e2) w r
 | ct e' S=>exact fun W2 σ e2 w r=>h W2 σ (e.trans e2) w r
 | ex c e' S=>exact fun W2 σ x e2 w r hx=>h W2 σ x (e.trans e2) w r hx
 | st=>exact h
def thenF {α : Type} (o:Out α) (ev:Ev) (k : α→Sto→Fl):Fl:=match o with
 | .ok d S=>k d S
 | .ex c S=>.ex c ev S
 | .st=>.st
theorem PF.bind {cl:Cl}{α β : Type}{R:Wo→β→α→Prop}{W:Wo}{D:Ends}{Z:TZ}{o:Out α}{ev:Ev}{σ : St}{k : α→Sto→Fl}{Q : β→Hp→Prop} (h:PF cl W D Z (thenF o ev k)) (er:ER cl W σ ev) (hq:∀ d S W' v,Ext W W'→WR cl W' S→R W' v d→PF cl W' D Z (k d S)→Q v W'.H):PO cl R W Q (Z σ) o:=by
 cases o with
 | ok d S=>exact fun W2 v e w r=>hq d S W2 v e w r (PF.ext h e)
 | ex c S=>exact fun W2 x e w hx=>h W2 σ x e w (er.mono e) hx
 | st=>exact h
theorem PF.nx' {cl:Cl}{W:Wo}{D:Ends}{Z:TZ}{e:Ev}{S:Sto}{σ : St} (h:PF cl W D Z (.nx e S)) (w:WR cl W S) (r:ER cl W σ e):D.nx σ W.H:=h W σ (Ext.refl W) w r
def tS (cl:Cl) (Z:TZ) (f:FS):TS:=fun D σ H=>∃ W S ev,W.H=H∧WR cl W S∧ER cl W σ ev∧PF cl W D Z (f ev S)
structure DS (cl:Cl) (X:Cx) (Z:TZ) (s:Stmt) (f:FS):Prop where
 pe:L2.PS X s (tS cl Z f)
structure DSs (cl:Cl) (X:Cx) (Z:TZ) (s:List Stmt) (f:FS):Prop where
 pe:L2.PSs X s (tS cl Z f)
theorem DS.of {cl:Cl}{X:Cx}{Z:TZ}{s:Stmt}{f:FS} (h:∃ t,L2.PS X s t∧∀ (W:Wo) (S:Sto) (σ : St) (ev:Ev) (D:Ends),WR cl W S→ER cl W σ ev→PF cl W D Z (f ev S)→t D σ W.H):DS cl X Z s f:=by
 obtain ⟨t,p,c⟩:=h;exact ⟨fun pins s σ H D I ⟨W,S,ev,e,w,r,h⟩=>p pins s σ H D I (by rw [← e];exact c W S σ ev D w r h)⟩
theorem DSs.of {cl:Cl}{X:Cx}{Z:TZ}{s:List Stmt}{f:FS} (h:∃ t,L2.PSs X s t∧∀ (W:Wo) (S:Sto) (σ : St) (ev:Ev) (D:Ends),WR cl W S→ER cl W σ ev→PF cl W D Z (f ev S)→t D σ W.H):DSs cl X Z s f:=by
 obtain ⟨t,p,c⟩:=h;exact ⟨fun pins s σ H D I ⟨W,S,ev,e,w,r,h⟩=>p pins s σ H D I (by rw [← e];exact c W S σ ev D w r h)⟩
def sNx:FS:=fun ev S=>.nx ev S
def sSeq (f g:FS):FS:=fun ev S=>match f ev S with
 | .nx e S=>g e S
 | o=>o
def sSet (i:Nat) (fa:FE):FS:=fun ev S=>thenF (fa ev S) ev fun d S=>.nx (ev.set i (some d)) S
def sAsg (g:GT) (fa:FE):FS:=fun ev S=>thenF (fa ev S) ev fun d S=>match g d ev with
 | some e=>.nx e S
 | none=>.st
def sExp (fa:FE):FS:=fun ev S=>thenF (fa ev S) ev fun _ S=>.nx ev S
def sRet (fa:FE):FS:=fun ev S=>thenF (fa ev S) ev fun d S=>.rt d S
def sRtN:FS:=fun _ S=>.rt (.d .non) S
def sIf (t:FT) (f g:FS):FS:=fun ev S=>thenF (t ev S) ev fun b S=>match b with
 | true=>f ev S
 | false=>g ev S
section
variable {cl:Cl}{X:Cx}{Z:TZ}{a b c:Expr}{fa fb fc:FE}{pos:Pos}{s:Stmt}{ss:List Stmt}{f g:FS}
theorem zA5:DSs cl X Z [] sNx:=.of ⟨_,L2.zTx,fun W S σ ev D w r h=>h.nx' w r⟩
theorem zA1 (h1:DS cl X Z s f) (h2:DSs cl X Z ss g):DSs cl X Z (s :: ss) (sSeq f g):=by
 refine .of ⟨_,L2.zWb h1.pe h2.pe,fun W S σ ev D w r h=>⟨W,S,ev,rfl,w,r,?_⟩⟩;unfold sSeq at h;cases hf:f ev S with
 | nx e S1=>rw [hf] at h;exact fun W2 σ2 e2 w2 r2=>⟨W2,S1,e,rfl,w2,r2,PF.ext h e2⟩
 | rt d S1=>rw [hf] at h;exact h
 | bk e S1=>rw [hf] at h;exact h
 | ct e S1=>rw [hf] at h;exact h
 | ex c e S1=>rw [hf] at h;exact h
 | st=>rw [hf] at h;exact h
theorem zA3 (h1:DS cl X Z s f):DSs cl X Z [s] f:=⟨L2.zZz h1.pe⟩
theorem zAf (i:Nat) {x:Str}{p':Pos} (hN:X.N.Nodup) (ha:DE cl X Z a fa) (hi:X.N[i]? = some x:=by rfl) (hx:Loc X.env.scope x:=by first | exact Or.inl rfl | exact Or.inr rfl) (hs:swapsWith a (some (.Name x p')) pos.line X.env=pure false:=by rfl) (hf:X.fn x=true∨X.env.scope.names.lookup x=some .local:=by first | exact .inl rfl | exact .inr rfl | assumption):DS cl X Z (.Assign [.Name x p'] a pos) (sSet i fa):=by
 obtain ⟨ta,pa,ca⟩:=ha.ex;exact .of ⟨_,L2.yD4 (i:=i) hN hi hx pa hs hf,fun W S σ ev D w r h=>ca W S σ ev _ w r (PF.bind h r fun d S1 W1 v e1 w1 r1 h1=>h1.nx' w1 ((r.mono e1).set r1 i))⟩
theorem zBs (ha:DE cl X Z a fa) (hs:swapsWith a none pos.line X.env=pure false:=by rfl):DS cl X Z (.Expr a pos) (sExp fa):=by
 obtain ⟨ta,pa,ca⟩:=ha.ex;exact .of ⟨_,L2.yA1 pa hs,fun W S σ ev D w r h=>ca W S σ ev _ w r (PF.bind h r fun d S1 W1 v e1 w1 r1 h1=>h1.nx' w1 (r.mono e1))⟩
theorem zA6 (ha:DE cl X Z a fa):DS cl X Z (.Return (some a) pos) (sRet fa):=by
 obtain ⟨ta,pa,ca⟩:=ha.ex;exact .of ⟨_,L2.yD5 pa,fun W S σ ev D w r h=>ca W S σ ev _ w r (PF.bind h r fun d S1 W1 v e1 w1 r1 h1=>h1 W1 v (Ext.refl _) w1 r1)⟩
theorem zAk {ts us:List Stmt}{t:FT} (hc:DT cl X Z c t) (h1:DSs cl X Z ts f) (h2:DSs cl X Z us g):DS cl X Z (.If c ts us pos) (sIf t f g):=by
 obtain ⟨tc,pc,cc⟩:=hc.ex;refine .of ⟨_,L2.ps_if pc h1.pe h2.pe,fun W S σ ev D w r h=>cc W S σ ev _ w r (PF.bind h r fun d S1 W1 v e1 w1 r1 h1=>?_)⟩;have r1:v=d:=r1;subst r1;cases v with
 | true=>rw [if_pos rfl];exact ⟨W1,S1,ev,rfl,w1,r.mono e1,h1⟩
 | false=>rw [if_neg Z6];exact ⟨W1,S1,ev,rfl,w1,r.mono e1,h1⟩
def sFldS (ct:CTb) (fl:Str) (fo fv:FE):FS:=fun ev S=>thenF (fv ev S) ev fun v S=>thenF (fo ev S) ev fun o S=>match o with
 | .loc n=>match celI S n with
  | some (c,gs)=>if hasF ct c fl=true∧gs.length < 1000 then .nx ev (S.set n (.ins c (putG fl v gs))) else .st
  | none=>.st
 | _=>.st
theorem zB7 {ct:CTb}{fl:Str}{o v:Expr}{fo fv:FE}{p':Pos} (T:TbOk X.K cl ct) (ho:DE cl X Z o fo) (hv:DE cl X Z v fv) (hs:swapsWith v (some (.Attribute o fl p')) pos.line X.env=pure false:=by rfl):DS cl X Z (.Assign [.Attribute o fl p'] v pos) (sFldS ct fl fo fv):=by
 obtain ⟨to,po,co⟩:=ho.ex;obtain ⟨tv,pv,cv⟩:=hv.ex;refine .of ⟨_,L2.yD7 po pv hs,fun W S σ ev D w r h=>cv W S σ ev _ w r (PF.bind h r fun d S1 W1 v e1 w1 r1 h1=>co W1 S1 σ ev _ w1 (r.mono e1) (PF.bind h1 (r.mono e1) fun d2 S2 W2 v2 e2 w2 r2 h2=>?_))⟩;split at h2
 ·next n =>
  split at h2
  ·next c gs ec =>
   split at h2
   ·next hc =>
    obtain ⟨p,dx,fs,rfl,hn,hg,g1,g2⟩:=zVv w2 r2 ec;obtain ⟨k1,k2⟩:=T.fl c fl hc.1;have e3:Ext W2 (W2.put p (.ins (cl c) dx (putF fl v fs))):=Ext.put (Zh hn) hg ⟨_,g1,rfl⟩;exact ⟨p,_,dx,fs,rfl,g1,k1,k2,by rw [g2.length];exact hc.2,h2 (W2.put p (.ins (cl c) dx (putF fl v fs))) σ e3 (w2.put hn hg ⟨hg,dx,_,zAc,(RUK.putF (r1.mono e2) g2).mono e3⟩) (((r.mono e1).mono e2).mono e3)⟩
   ·exact h2.elim
  ·exact h2.elim
 ·exact h2.elim
def sPut (fo fk fv:FE):FS:=fun ev S=>thenF (fv ev S) ev fun v S=>thenF (fo ev S) ev fun o S=>thenF (fk ev S) ev fun k S=>match o with
 | .loc n=>match celD S n,keyD k with
  | some es,some k=>if es.length < LM then .nx ev (S.set n (.dct (putD es k v))) else .st
  | _,_=>.st
 | _=>.st
theorem zPb {κ : Type} [DecidableEq κ] (vs:List (κ×V)) (k : κ) (v:V):(putK vs k v).length≤vs.length + 1:=by
 unfold putK;split
 ·rw [Z2];omega
 ·rw [Zf];exact Z1 _
theorem zN8 {o k v:Expr}{fo fk fv:FE}{p':Pos} (hu:X.A.units + 1 < cLine) (ho:DE cl X Z o fo) (hk:DE cl X Z k fk) (hv:DE cl X Z v fv) (hs:swapsWith v (some (.Subscript o k p')) pos.line X.env=pure false:=by rfl):DS cl X Z (.Assign [.Subscript o k p'] v pos) (sPut fo fk fv):=by
 obtain ⟨to,po,co⟩:=ho.ex;obtain ⟨tk,pk,ck⟩:=hk.ex;obtain ⟨tv,pv,cv⟩:=hv.ex;refine .of ⟨_,L2.yA2 hu po pk pv hs,fun W S σ ev D w r h=>cv W S σ ev _ w r (PF.bind h r fun d S1 W1 v e1 w1 r1 h1=>co W1 S1 σ ev _ w1 (r.mono e1) (PF.bind h1 (r.mono e1) fun d2 S2 W2 v2 e2 w2 r2 h2=>ck W2 S2 σ ev _ w2 ((r.mono e1).mono e2) (PF.bind h2 ((r.mono e1).mono e2) fun d3 S3 W3 v3 e3 w3 r3 h3=>?_)))⟩;split at h3
 ·next n =>
  split at h3
  ·next es k ed ek =>
   split at h3
   ·next hl =>
    obtain ⟨p,vs,rfl,hn,hg,g1,g2,g3⟩:=zO9 w3 (r2.mono e3) ed;rw [← g3.length] at hl;obtain ⟨e4,w4⟩:=zTw w3 hn hg (Z3 (zPb vs k v) hl) (RUK.put (k:=k) ((r1.mono e2).mono e3) g3);refine ⟨p,_,rfl,by rw [zDw r3 ek];exact DPut.k g1 (Z5 hl (by decide)),h3 _ σ e4 w4 ((((r.mono e1).mono e2).mono e3).mono e4)⟩
   ·exact h3.elim
  ·exact h3.elim
 ·exact h3.elim
def forR (it:Itd) (g:GT) (b:FS):Nat→Nat→Ev→Sto→Fl
 | 0,k,ev,S=>match itm it S k with
  | some none=>.nx ev S
  | _=>.st
 | r + 1,k,ev,S=>match itm it S k with
  | some none=>.nx ev S
  | some (some d)=>match g d ev with
   | some ev'=>match b ev' S with
    | .nx e S=>forR it g b r (k + 1) e S
    | .ct e S=>forR it g b r (k + 1) e S
    | .bk e S=>.nx e S
    | .rt d S=>.rt d S
    | .ex c e S=>.ex c e S
    | .st=>.st
   | none=>.st
  | none=>.st
def sFor (fi:FI) (g:GT) (b:FS):FS:=fun ev S=>thenF (fi ev S) ev fun it S=>forR it g b (itLen it S) 0 ev S
theorem zEo {tg iter:Expr}{fi:FI}{g:GT}{b:FS}{body:List Stmt} (hp:PassesOwn (model X.prog X.w) X.A X.env X.xe) (hc:X.calm=true) (hi:DI cl X Z tg iter fi) (hg:DG cl X tg g) (hb:DSs cl X Z body b) (hs:∀ x,foldedSetIterable iter X.env x=pure x:=by intro _;rfl):DS cl X Z (.For tg iter body [] pos) (sFor fi g b):=by
 obtain ⟨ti,pi,ci⟩:=hi.ex;refine .of ⟨_,L2.yD6 hp hc pi hg.pe hb.pe hs,fun W S σ ev D w r h=>ci W S σ ev _ w r (PF.bind h r fun it S1 W1 J e1 w1 ri h1=>?_)⟩;refine ⟨fun i m σ H=>∃ W2 S2 ev2,W2.H=H∧Ext W1 W2∧WR cl W2 S2∧ER cl W2 σ ev2∧PF cl W2 D Z (forR it g b m i ev2 S2),⟨_,W1,S1,ev,rfl,Ext.refl _,w1,r.mono e1,h1⟩,?_⟩;rintro i m σ H ⟨W2,S2,ev2,rfl,e2,w2,er2,h⟩;have q:=ri W2 S2 e2 w2 i;have stop:itm it S2 i=some none→PF cl W2 D Z (.nx ev2 S2)→(J.stop i W2.H∧D.nx σ W2.H):=fun hi h=>by
  rw [hi] at q;exact ⟨q,h.nx' w2 er2⟩
 cases m with
 | zero =>
  unfold forR at h;cases hi:itm it S2 i with
  | none=>rw [hi] at h;exact (show False from h).elim
  | some o =>
   cases o with
   | none=>rw [hi] at h;exact .inl (stop hi h)
   | some d=>rw [hi] at h;exact (show False from h).elim
 | succ m =>
  unfold forR at h;cases hi:itm it S2 i with
  | none=>rw [hi] at h;exact (show False from h).elim
  | some o =>
   cases o with
   | none=>rw [hi] at h;exact .inl (stop hi h)
   | some d =>
    rw [hi] at h q;refine .inr ⟨q.1,fun σ' H'=>∃ W3 S3 ev3,W3.H=H'∧Ext W1 W3∧WR cl W3 S3∧ER cl W3 σ' ev3∧PF cl W3 D Z (forR it g b m (i + 1) ev3 S3),fun σ' H' z=>⟨m,Zp _,z⟩,fun x H' y=>?_⟩;obtain ⟨W3,e3,w3,rfl,rx⟩:=q.2 x H' y;have h:=PF.ext h e3;cases hg:g d ev2 with
    | none=>simp only [hg] at h;exact (show False from h).elim
    | some ev' =>
     simp only [hg] at h;refine ⟨W3,d,ev2,ev',rfl,er2.mono e3,rx,hg,fun σ' er'=>⟨W3,S2,ev',rfl,w3,er',?_⟩⟩;cases hb:b ev' S2 with
     | nx e S4=>rw [hb] at h;exact fun W4 σ4 e4 w4 r4=>⟨W4,S4,e,rfl,(e2.trans e3).trans e4,w4,r4,PF.ext h e4⟩
     | ct e S4=>rw [hb] at h;exact fun W4 σ4 e4 w4 r4=>⟨W4,S4,e,rfl,(e2.trans e3).trans e4,w4,r4,PF.ext h e4⟩
     | bk e S4=>rw [hb] at h;exact h
     | rt d S4=>rw [hb] at h;exact h
     | ex c e S4=>rw [hb] at h;exact h
     | st=>rw [hb] at h;exact h
def whileR (t:FT) (b:FS):Nat→Ev→Sto→Fl
 | 0,_,_=>.st
 | r + 1,ev,S=>thenF (t ev S) ev fun k S=>match k with
  | true=>match b ev S with
   | .nx e S=>whileR t b r e S
   | .ct e S=>whileR t b r e S
   | .bk e S=>.nx e S
   | .rt d S=>.rt d S
   | .ex c e S=>.ex c e S
   | .st=>.st
  | false=>.nx ev S
def sWhile (n:Nat) (t:FT) (b:FS):FS:=whileR t b n
theorem zXo {c:Expr}{t:FT}{b:FS}{body:List Stmt}{n:Nat} (hp:PassesOwn (model X.prog X.w) X.A X.env X.xe) (hc:DT cl X Z c t) (hb:DSs cl X Z body b):DS cl X Z (.While c body [] pos) (sWhile n t b):=by
 obtain ⟨tc,pc,cc⟩:=hc.ex;refine .of ⟨_,L2.zWc hp pc hb.pe,fun W S σ ev D w r h=>?_⟩;refine ⟨fun m σ H=>∃ W2 S2 ev2,W2.H=H∧WR cl W2 S2∧ER cl W2 σ ev2∧PF cl W2 D Z (whileR t b m ev2 S2),⟨n,W,S,ev,rfl,w,r,h⟩,?_⟩;rintro m σ H ⟨W2,S2,ev2,rfl,w2,er2,h⟩;cases m with
 | zero=>exact (show False from h).elim
 | succ m =>
  unfold whileR at h;refine cc W2 S2 σ ev2 _ w2 er2 (PF.bind h er2 fun k S3 W3 k' e3 w3 rk h3=>?_);have rk:k'=k:=rk;subst rk;cases k' with
  | false=>rw [if_neg Z6];exact h3.nx' w3 (er2.mono e3)
  | true =>
   rw [if_pos rfl];refine ⟨fun σ' H'=>∃ W4 S4 ev4,W4.H=H'∧WR cl W4 S4∧ER cl W4 σ' ev4∧PF cl W4 D Z (whileR t b m ev4 S4),fun σ' H' z=>⟨m,Zp _,z⟩,W3,S3,ev2,rfl,w3,er2.mono e3,?_⟩;cases hb:b ev2 S3 with
   | nx e S4=>simp only [hb] at h3;exact fun W4 σ4 e4 w4 r4=>⟨W4,S4,e,rfl,w4,r4,PF.ext h3 e4⟩
   | ct e S4=>simp only [hb] at h3;exact fun W4 σ4 e4 w4 r4=>⟨W4,S4,e,rfl,w4,r4,PF.ext h3 e4⟩
   | bk e S4=>simp only [hb] at h3;exact h3
   | rt d S4=>simp only [hb] at h3;exact h3
   | ex c e S4=>simp only [hb] at h3;exact h3
   | st=>simp only [hb] at h3;exact h3
end
end L2.F
namespace L2.F
open PySem PySem.Spec PyProof.Rows L2
def spF (cl:Cl) (F:Fn):Sp:=fun vs H Q E=>∃ W S ds,W.H=H∧WR cl W S∧RUs cl W vs ds∧PO cl (RU cl) W Q (fun x C H'=>E (.ref C) (some x) H') (F ds S)
def endF:Fl→Out U
 | .nx _ S=>.ok (.d .non) S
 | .rt d S=>.ok d S
 | .ex c _ S=>.ex c S
 | _=>.st
def fnD (n m:Nat) (b:FS):Fn:=fun ds S=>if ds.length=m then endF (b (ds.map some++List.replicate (n - m) none) S) else .st
def ZE (E:XK):TZ:=fun _ x C H'=>E (.ref C) (some x) H'
structure FunG (K:PySem.W.Frag) (x qual:Str) (st:Stmt) (f:Addr) (fd:FuncData):Prop where
 ex:∃ (oc:Value) (od:Option Addr) (dV kV doc pm:Value) (an:Option Addr) (cdv ct:Value) (osl:Array (Option Value)),
  fd=PySem.W.fnOf x qual (defArgs st) (defBody st) (defScope st) dV kV doc pm an cdv ct∧K.lookup f=some ⟨oc,od,.func fd,osl⟩∧PySem.W.codeIn K cdv qual=true
 kp:PySem.W.keepIn K (.ref f)=true
structure DefG (K:PySem.W.Frag) (mg:Str→Option Value) (x:Str) (st:Stmt) (ps:List Str) (f:Addr) (fd:FuncData):Prop where
 fn:FunG K x x st f fd
 at_:mg x=some (.ref f)
 bind:Binds K fd ps []
theorem zSa {cl:Cl}{W:Wo}{N:List Str}:∀ {vs:List V}{ds:List U},RUs cl W vs ds→ER cl W (start N vs) (ds.map some++List.replicate (N.length - ds.length) none):=fun {vs ds} r=>by
 refine ⟨by unfold start;simp [r.length],fun i d h=>?_⟩;unfold start;by_cases hi:i < ds.length
 ·rw [Ze (by rw [Z2];exact hi),Zo] at h;obtain ⟨d',h1,h2⟩:=Option.map_eq_some_iff.mp h;cases h2;obtain ⟨v,hv,rv⟩:=r.get h1;exact ⟨v,by rw [Ze (by rw [Z2,r.length];exact hi),Zo,hv];rfl,rv⟩
 ·rw [Zg (by rw [Z2];omega),List.getElem?_replicate] at h;split at h <;> cases h
section
variable {P:Program}{w:World}{K:PySem.W.Frag}{mg:Str→Option Value}{base:Heap}{cl:Cl}
abbrev cxD (P:Program) (w:World) (K:PySem.W.Frag) (mg:Str→Option Value) (base:Heap) (N:List Str) (qual:Str) (st:Stmt) (f:Addr) (cdv:Value) (A:Around) (outer:List Env) (s:Shared) (H:Hp) (E:XK):Cx:=cxOf (CXM P w) P w K mg base N qual (defScope st) f cdv A outer s H E
theorem okF {x qual:Str}{st:Stmt}{f:Addr}{fd:FuncData}{N ps:List Str}{k:Nat}{b:FS} (F:FunG K x qual st f fd) (Sc:FnScope N ps (defScope st))
 (hb:∀ (cdv:Value) (A:Around) (outer:List Env) (s:Shared) (H:Hp) (E:XK),Room k (A.deeper (envOfC qual (defScope st) s.heap.objs.size f cdv))→DSs cl (cxD P w K mg base N qual st f cdv A outer s H E) (ZE E) (defBody st) b):FnOk P w K mg base (CXM P w) (k + 1) f fd ps (spF cl (fnD N.length ps.length b)):=by
 obtain ⟨oc,od,dV,kV,doc,pm,an,cdv,ct,osl,rfl,lk,hcd⟩:=F.ex;refine yF6 lk hcd Sc (fun vs H Q E ⟨W,S,ds,e,w,rs,h⟩=>?_) fun A outer s H vs Q E hr ⟨W,S,ds,e,w,rs,h⟩=>?_
 ·unfold fnD at h;split at h
  ·next hl=>rw [rs.length];exact hl
  ·exact h.elim
 ·subst e;refine ⟨_,(hb cdv A outer s W.H E hr).pe,W,S,_,rfl,w,zSa rs,?_⟩;unfold fnD at h;split at h
  ·next hl =>
   rw [← hl] at h;cases hf:b (ds.map some++List.replicate (N.length - ds.length) none) S with
   | nx e S1=>rw [hf] at h;exact fun W2 σ2 e2 w2 r2=>h W2 .non e2 w2 (.d .non)
   | rt d S1=>rw [hf] at h;exact fun W2 v e2 w2 r2=>h W2 v e2 w2 r2
   | bk e S1=>rw [hf] at h;exact h.elim
   | ct e S1=>rw [hf] at h;exact h.elim
   | ex c e S1=>rw [hf] at h;exact fun W2 σ2 x e2 w2 r2 hx=>h W2 x e2 w2 hx
   | st=>rw [hf] at h;exact h.elim
  ·exact h.elim
end
def PasZ (CX:CXT) (X:Cx) (Z:TZ):Prop:=Passes CX X (fun σ cls eo H'=>∃ x C,cls=.ref C∧eo=some x∧Z σ x C H')
theorem zVp {P:Program}{w:World}{o:List Env}{H:Hp}{s:Shared}{E E':XK}{u:Value}{s':Shared} (h:CXM P w o H s E u s') (f:∀ C x H',E C x H'→E' C x H'):CXM P w o H s E' u s':=by
 obtain ⟨e,C,H',a,b,c,d,e1,e2,e3,e4⟩:=h;exact ⟨e,C,H',a,b,c,d,e1,e2,e3,f _ _ _ e4⟩
theorem zJb {P:Program}{w:World}{X:Cx}:PasZ (CXM P w) X ZN:=fun pins σ H s e s' I c=>(calmM _ _ _ _ _ (zVp c fun C x H' ⟨_,_,_,_,z⟩=>z)).elim
theorem zA9 {P:Program}{w:World}{K:PySem.W.Frag}{mg:Str→Option Value}{base:Heap}{N:List Str}{qual:Str}{st:Stmt}{f:Addr}{cdv:Value}{A:Around}{outer:List Env}{s:Shared}{H:Hp}{E:XK}:PasZ (CXM P w) (cxD P w K mg base N qual st f cdv A outer s H E) (ZE E):=fun pins σ H1 s1 e s' I c=>yAe pins σ H1 s1 e s' I (zVp c fun C x H' ⟨y,D,h1,h2,z⟩=>by rw [h1,h2];exact z)
def RaiZ (X:Cx) (Z:TZ):Prop:=∀ pins σ H s e C,Inv X pins σ H s→H e=some (XO C e)→Fresh s.heap e→Z σ e C H→X.xe (.ref e) s
theorem zCo {P:Program}{w:World}{K:PySem.W.Frag}{mg:Str→Option Value}{base:Heap}{N:List Str}{qual:Str}{st:Stmt}{f:Addr}{cdv:Value}{A:Around}{outer:List Env}{s:Shared}{H:Hp}{E:XK}:RaiZ (cxD P w K mg base N qual st f cdv A outer s H E) (ZE E):=fun pins σ H1 s1 e C I he fr z=>zYa I he (.inl fr) z
structure ExOk (K:PySem.W.Frag) (mg:Str→Option Value) (cl:Cl) (xs:List Str):Prop where
 ex:∀ c,xs.contains c=true→PySem.W.excIn K (cl c) [.type "ValueError",.type "Exception",.type "BaseException",.type "object"] "ValueError.__new__" = true∧mg c=some (.ref (cl c))
def sRaise (c:Str) (fa:FAr):FS:=fun ev S=>thenF (fa ev S) ev fun ds S=>if ds.length≤LM then .ex c ev S else .st
section
variable {cl:Cl}{X:Cx}{Z:TZ}{a b c:Expr}{fa fb fc:FE}{pos:Pos}{CX:CXT}
theorem zAl {xs:List Str}{x:Str}{np cp:Pos}{as:List Expr}{f:FAr} (T:ExOk X.K X.mg cl xs) (hx:xs.contains x=true) (hz:RaiZ X Z) (hcm:X.calm=true) (ha:DA cl X Z (a :: as) f) (hg:Gl X x:=by rfl) (hdb:(x == ("__debug__" : Str))=false:=by decide)
 (he:starEach (a :: as) X.env=(false,eval a X.env) :: starEach as X.env:=by rfl) (hpl:(backTo cp (starEach as X.env)).any (·.1)=false:=by rfl):DS cl X Z (.Raise (some (.Call (.Name x np) (a :: as) [] cp)) none pos) (sRaise x f):=by
 obtain ⟨ta,pa,ca⟩:=ha.ex;obtain ⟨h1,h2⟩:=T.ex x hx;refine .of ⟨_,L2.zWd (C:=cl x) (W:=fun σ e H=>Z σ e (cl x) H) h1 hg h2 hcm pa (fun pins σ H s e I he fr z=>hz pins σ H s e (cl x) I he fr z) hdb he hpl,fun W S σ ev D w r h=>ca W S σ ev _ w r (PF.bind h r fun ds S1 W1 vs e1 w1 r1 h1=>?_)⟩;split at h1
 ·next hl=>exact ⟨by rw [r1.length];exact zNz hl,fun e hn=>h1 (W1.put e (XO (cl x) e)) σ e (Ext.oth hn) (w1.oth hn) ((r.mono e1).mono (Ext.oth hn)) zAc⟩
 ·exact h1.elim
theorem sp_of {F:Fn}{W:Wo}{S:Sto}{σ : St}{vs:List V}{ds:List U}{Q:VK} (w:WR cl W S) (r:RUs cl W vs ds) (h:PO cl (RU cl) W Q (Z σ) (F ds S)):spF cl F vs W.H Q (fun cls eo H'=>∃ x C,cls=.ref C∧eo=some x∧Z σ x C H'):=by
 refine ⟨W,S,ds,rfl,w,r,?_⟩;cases hf:F ds S with
 | ok d S1=>rw [hf] at h;exact h
 | ex c S1=>rw [hf] at h;exact fun W2 x e2 w2 hx=>⟨x,cl c,rfl,rfl,h W2 x e2 w2 hx⟩
 | st=>rw [hf] at h;exact h
end
end L2.F
namespace L2.F
open PySem PySem.Spec PyProof.Rows L2
def snapL (f:U→Option D):List U→Option (List D)
 | []=>some []
 | u :: r=>match f u,snapL f r with
  | some x,some xs=>some (x :: xs)
  | _,_=>none
def snapK {κ : Type} (f:U→Option D):List (κ×U)→Option (List (κ×D))
 | []=>some []
 | (k,u) :: r=>match f u,snapK f r with
  | some x,some xs=>some ((k,x) :: xs)
  | _,_=>none
def snapN:Nat→Sto→U→Option D
 | 0,_,u=>match u with
  | .d x=>some x
  | .loc _=>none
 | n + 1,S,u=>match u with
  | .d x=>some x
  | .loc k=>match S[k]? with
   | some (.lst us)=>(snapL (snapN n S) us).map .lst
   | some (.dct es)=>(snapK (snapN n S) es).map .dct
   | some (.ins c fs)=>(snapK (snapN n S) fs).map (.obj c)
   | _=>none
mutual
theorem Rp.to {cl:Cl}{W W':Wo} (hg:∀ a,W.G a→W'.G a) (hh:W'.H=W.H):∀ {v:V}{d:D},Rp cl W v d→Rp cl W' v d
 | _,_,.non=>.non
 | _,_,.bl b=>.bl b
 | _,_,.int i=>.int i
 | _,_,.str x h=>.str x h
 | _,_,.tup g h l r=>.tup (hg _ g) (by rw [hh];exact h) l (RpAll.to hg hh r)
 | _,_,.lst g h l r=>.lst (hg _ g) (by rw [hh];exact h) l (RpAll.to hg hh r)
 | _,_,.frl g h l r=>.frl (hg _ g) (by rw [hh];exact h) l (RpAll.to hg hh r)
 | _,_,.dct g h l r=>.dct (hg _ g) (by rw [hh];exact h) l (RpK.to hg hh r)
 | _,_,.obj g h r=>.obj (hg _ g) (by rw [hh];exact h) (RpF.to hg hh r)
theorem RpAll.to {cl:Cl}{W W':Wo} (hg:∀ a,W.G a→W'.G a) (hh:W'.H=W.H):∀ {vs:List V}{ds:List D},RpAll cl W vs ds→RpAll cl W' vs ds
 | _,_,.nil=>.nil
 | _,_,.cons r t=>.cons (Rp.to hg hh r) (RpAll.to hg hh t)
theorem RpK.to {cl:Cl}{W W':Wo} (hg:∀ a,W.G a→W'.G a) (hh:W'.H=W.H):∀ {vs:List (Key×V)}{ds:List (Key×D)},RpK cl W vs ds→RpK cl W' vs ds
 | _,_,.nil=>.nil
 | _,_,.cons r t=>.cons (Rp.to hg hh r) (RpK.to hg hh t)
theorem RpF.to {cl:Cl}{W W':Wo} (hg:∀ a,W.G a→W'.G a) (hh:W'.H=W.H):∀ {vs:List (Str×V)}{ds:List (Str×D)},RpF cl W vs ds→RpF cl W' vs ds
 | _,_,.nil=>.nil
 | _,_,.cons r t=>.cons (Rp.to hg hh r) (RpF.to hg hh t)
end
def Wo.all (W:Wo) (μ : List Addr):Wo:=⟨fun a=>W.G a∨a∈W.μ,μ,W.H⟩
section
variable {cl:Cl}{W W1:Wo}{S S':Sto}{μ : List Addr}
theorem zRe {f:U→Option D}:∀ {us:List U}{vs:List V}{ds:List D},(∀ u v x,RU cl W v u→f u=some x→Rp cl (W.all μ) v x)→RUs cl W vs us→snapL f us=some ds→RpAll cl (W.all μ) vs ds
 | _,_,ds,_,.nil,h=>by cases h;exact .nil
 | _,_,ds,hf,.cons (d:=u) (ds:=us) r t,h=>by
  have h:(match f u,snapL f us with | some x,some xs=>some (x :: xs) | _,_=>none)=some ds:=h;split at h
  ·next x xs e1 e2=>cases h;exact .cons (hf _ _ _ r e1) (zRe hf t e2)
  ·cases h
theorem zRg {f:U→Option D}:∀ {us:List (Key×U)}{vs:List (Key×V)}{ds:List (Key×D)},(∀ u v x,RU cl W v u→f u=some x→Rp cl (W.all μ) v x)→RUK cl W vs us→snapK f us=some ds→RpK cl (W.all μ) vs ds
 | _,_,ds,_,.nil,h=>by cases h;exact .nil
 | _,_,ds,hf,.cons (k:=k) (d:=u) (ds:=us) r t,h=>by
  rw [snapK] at h;split at h
  ·next x xs e1 e2=>cases h;exact .cons (hf _ _ _ r e1) (zRg hf t e2)
  ·cases h
theorem zRi {f:U→Option D}:∀ {us:List (Str×U)}{vs:List (Str×V)}{ds:List (Str×D)},(∀ u v x,RU cl W v u→f u=some x→Rp cl (W.all μ) v x)→RUK cl W vs us→snapK f us=some ds→RpF cl (W.all μ) vs ds
 | _,_,ds,_,.nil,h=>by cases h;exact .nil
 | _,_,ds,hf,.cons (k:=k) (d:=u) (ds:=us) r t,h=>by
  rw [snapK] at h;split at h
  ·next x xs e1 e2=>cases h;exact .cons (hf _ _ _ r e1) (zRi hf t e2)
  ·cases h
theorem zQ9 (w:WR cl W S):∀ (n:Nat) {u:U}{v:V}{x:D},RU cl W v u→snapN n S u=some x→Rp cl (W.all μ) v x
 | n,.d y,v,x,r,h=>by
  have h:some y=some x:=by cases n <;> exact h
  cases h;cases r with
  | d r=>exact Rp.to (W':=W.all μ) (fun a g=>Or.inl g) rfl r
 | 0,.loc k,v,x,r,h=>by cases h
 | n + 1,.loc k,v,x,r,h=>by
  have h:(match S[k]? with | some (.lst us)=>(snapL (snapN n S) us).map D.lst | some (.dct es)=>(snapK (snapN n S) es).map D.dct | some (.ins c fs)=>(snapK (snapN n S) fs).map (D.obj c) | _=>none)=some x:=h;have ih:∀ u v x,RU cl W v u→snapN n S u=some x→Rp cl (W.all μ) v x:=fun u v x r h=>zQ9 w n r h;cases r with
  | @loc _ p hn =>
   have hp:(W.all μ).G p:=.inr (Zh hn);split at h
   ·next us e =>
    obtain ⟨_,vs,e1,e2,e3⟩:=w.cell _ _ _ e hn;obtain ⟨ds,h1,rfl⟩:=Option.map_eq_some_iff.mp h;exact .lst hp e1 e2 (zRe ih e3 h1)
   ·next es e =>
    obtain ⟨_,vs,e1,e2,e3⟩:=w.cell _ _ _ e hn;obtain ⟨ds,h1,rfl⟩:=Option.map_eq_some_iff.mp h;exact .dct hp (.inl e1) e2 (zRg ih e3 h1)
   ·next c fs e =>
    obtain ⟨_,dx,gs,e1,e3⟩:=w.cell _ _ _ e hn;obtain ⟨ds,h1,rfl⟩:=Option.map_eq_some_iff.mp h;exact .obj hp e1 (zRi ih e3 h1)
   ·cases h
def Wo.bare (W:Wo):Wo:=⟨W.G,[],W.H⟩
theorem WR.bare (w:WR cl W S):WR cl W.bare []:=⟨rfl,List.nodup_nil,w.gd,fun n c a h=>by simp at h,w.tb⟩
theorem back (w:WR cl W S) (e:Ext W.bare W1) (w1:WR cl W1 S'):Ext W (W1.all W.μ)∧WR cl (W1.all W.μ) S:=by
 have ng:∀ a o,W.H a=some o→(W1.all W.μ).G a→W.G a:=fun a o h g=>by
  rcases g with g | g
  ·rcases e.ng a g with z | z | z
   ·exact z
   ·rw [show W.H a=none from z] at h;cases h
   ·exact absurd z (by simp [Wo.bare])
  ·have:=e.n a g (by simp [Wo.bare]);rw [show W.H a=none from this] at h;cases h
 have E:Ext W (W1.all W.μ):=by
  refine ⟨fun a g=>.inl (e.g a g),fun a u g n h=>e.k a u g n h,fun a kvs g h=>e.kd a kvs g h,⟨[],(List.append_nil _).symm⟩,fun a o h nt n1 n2=>e.f a o h nt n1 (by simp [Wo.bare]),fun a h n=>absurd h n,fun a g=>?_,fun a o h=>e.d a o h⟩;cases h:W.H a with
  | none=>exact .inr (.inl rfl)
  | some o=>exact .inl (ng a o h g)
 refine ⟨E,w.len,w.nd,fun a g=>?_,fun n c a e1 e2=>?_,w1.tb⟩
 ·rcases g with g | g
  ·exact w1.gd a g
  ·exact w1.ex g
 ·have ok:=w.cell n c a e1 e2;have go:¬ W.G a→CellOk cl (W1.all W.μ) a c:=fun hg=>by
   obtain ⟨o,ho,po⟩:=ok.ex;exact ok.keep E (ng a o ho) (by rw [ho];exact e.f a o ho (zMt po) hg (by simp [Wo.bare]))
  cases c with
  | lst ds=>exact go ok.1
  | dct ds=>exact go ok.1
  | ins c gs=>exact go ok.1
  | dead =>
   obtain ⟨o,ho,po⟩:=ok;obtain ⟨o',h',p'⟩:=E.d a o ho;exact ⟨o',h',p' po⟩
end
def snapD:Sto→U→Option D:=snapN 4
def pureRun (o:Out U) (S:Sto):Out U:=match o with
 | .ok u S'=>match snapD S' u with
  | some d=>.ok (.d d) S
  | none=>.st
 | .ex c _=>.ex c S
 | .st=>.st
abbrev Run:=Fn→List U→Sto→Out U
def rS:Run:=fun F ds S=>F ds S
def rA:Run:=fun F ds S=>match pureL ds with
 | some xs=>pureRun (F (xs.map .d) []) S
 | none=>F ds S
structure RunOk (cl:Cl) (R:Run):Prop where
 ok:∀ (F:Fn) W S vs ds (Q:VK) (Z:Addr→Addr→Hp→Prop),WR cl W S→RUs cl W vs ds→PO cl (RU cl) W Q Z (R F ds S)→spF cl F vs W.H Q (fun cls eo H'=>∃ x C,cls=.ref C∧eo=some x∧Z x C H')
section
variable {cl:Cl}{X:Cx}{Z:TZ}{a b c:Expr}{fa fb fc:FE}{pos:Pos}{CX:CXT}
theorem yE8:RunOk cl rS:=⟨fun F W S vs ds Q Z w r h=>sp_of (Z:=fun _=>Z) (σ:=[]) w r h⟩
theorem ok_rA:RunOk cl rA:=⟨fun F W S vs ds Q Z w r h=>by
 unfold rA at h;split at h
 ·next xs ep =>
  have r0:RUs cl W.bare vs (xs.map .d):=(RpAll.to (W:=W) (W':=W.bare) (fun _ g=>g) rfl (r.pure ep)).up;refine ⟨W.bare,[],xs.map .d,rfl,w.bare,r0,?_⟩;unfold pureRun at h;cases hf:F (xs.map .d) [] with
  | ok u S1 =>
   rw [hf] at h;intro W1 v e1 w1 r1;obtain ⟨E,w'⟩:=back w e1 w1;simp only at h;split at h
   ·next d ed=>exact h (W1.all W.μ) v E w' (.d (zQ9 w1 4 r1 ed))
   ·exact h.elim
  | ex c S1 =>
   rw [hf] at h;intro W1 x e1 w1 hx;obtain ⟨E,w'⟩:=back w e1 w1;exact ⟨x,cl c,rfl,rfl,h (W1.all W.μ) x E w' hx⟩
  | st=>rw [hf] at h;exact h
 ·exact yE8.ok F W S vs ds Q Z w r h⟩
def dCl (R:Run) (F:Fn) (fa:FAr):FE:=fun ev S=>(fa ev S).bind fun ds S=>R F ds S
theorem zAj {R:Run}{F:Fn}{k:Nat}{x:Str}{st:Stmt}{f:Addr}{fd:FuncData}{ps:List Str}{e:Expr}{es:List Expr}{fa:FAr}{p:Pos} (G:FnOk X.prog X.w X.K X.mg X.base CX k f fd ps (spF cl F)) (Ro:RunOk cl R) (hr:Room k X.A) (Df:DefG X.K X.mg x st ps f fd) (hx:PasZ CX X Z) (ha:DA cl X Z (e :: es) fa) (hg:Gl X x:=by rfl) (hdb:(x == ("__debug__" : Str))=false:=by decide) (he:starEach (e :: es) X.env=(false,eval e X.env) :: starEach es X.env:=by rfl) (hpl:(backTo pos (starEach es X.env)).any (·.1)=false:=by rfl):DE cl X Z (.Call (.Name x p) (e :: es) [] pos) (dCl R F fa):=by
 obtain ⟨ta,pa,ca⟩:=ha.ex;refine .of ⟨_,L2.yAc (dvs:=[]) G hr hg Df.at_ Df.fn.kp Df.bind .nil hx pa hdb he hpl,fun W S σ ev Q w r h=>ca W S σ ev _ w r (PO.bind h fun ds S1 W1 vs e1 w1 r1 h1=>?_)⟩;rw [List.append_nil];exact Ro.ok F W1 S1 vs ds Q _ w1 r1 h1
structure MtOk (P:Program) (w:World) (K:PySem.W.Frag) (mg:Str→Option Value) (base:Heap) (CX:CXT) (cl:Cl) (k:Nat) (m:Str) (ps:List Str) (T:List (Str×Fn)):Prop where
 at_:∀ c F,T.lookup c=some F→Disp P w K mg base CX k m ps (spF cl F) (cl c)
 inj:∀ c c' F F',T.lookup c=some F→T.lookup c'=some F'→cl c=cl c'→c=c'
def dMe (m:Str) (T:List (Str×Fn)) (R:Run) (fo:FE) (fa:FAr):FE:=fun ev S=>(fo ev S).bind fun o S=>match insOf S o with
 | some (c,gs)=>match T.lookup c with
  | some F=>if (gs.lookup m).isNone=true then (fa ev S).bind fun ds S=>R F (o :: ds) S else .st
  | none=>.st
 | none=>.st
def spT (cl:Cl) (T:List (Str×Fn)) (C:Addr):Sp:=fun vs H Q E=>∃ c F,T.lookup c=some F∧C=cl c∧spF cl F vs H Q E
theorem zVf {P:Program}{w:World}{K:PySem.W.Frag}{mg:Str→Option Value}{base:Heap}{k:Nat}{m:Str}{ps:List Str}{T:List (Str×Fn)} (M:MtOk P w K mg base CX cl k m ps T):∀ C,(∃ c F,T.lookup c=some F∧C=cl c)→Disp P w K mg base CX k m ps (spT cl T C) C:=fun C ⟨c,F,h,e⟩=>by
 obtain ⟨f,fd,h1,h2,h3,h4⟩:=(M.at_ c F h).ex;subst e;refine ⟨f,fd,h1,h2,h3.imp fun vs H Q E ⟨c',F',h',e',sp⟩=>?_,h4⟩;have:=M.inj c c' F F' h h' e';subst this;rw [h] at h';cases h';exact sp
theorem zC1 {R:Run}{k:Nat}{m:Str}{ps:List Str}{T:List (Str×Fn)}{o e:Expr}{es:List Expr}{fo:FE}{fa:FAr}{apos:Pos}{pl:Sem Bool} (M:MtOk X.prog X.w X.K X.mg X.base CX cl k m ps T) (Ro:RunOk cl R) (hr:Room k X.A) (hx:PasZ CX X Z) (ho:DE cl X Z o fo) (ha:DA cl X Z (e :: es) fa)
 (hst:starEach (e :: es) X.env=(false,eval e X.env) :: starEach es X.env:=by rfl) (hpl:(backTo pos (starEach es X.env)).any (·.1)=false:=by rfl)
 (ht:eval (.Call (.Attribute o m apos) (e :: es) [] pos) X.env=(do
  let ov ← eval o X.env
  standAt apos.atName
  let (f,first) ← holding [ov] (getMethod ov m pl)
  callWith pos f first (backTo pos (starEach (e :: es) X.env)) (backToKw pos (keywordEach [] X.env))):=by rfl):DE cl X Z (.Call (.Attribute o m apos) (e :: es) [] pos) (dMe m T R fo fa):=by
 obtain ⟨to,po,co⟩:=ho.ex;obtain ⟨ta,pa,ca⟩:=ha.ex;refine .of ⟨_,L2.zWi po (zVf M) hr hx pa hst hpl ht,fun W S σ ev Q w r h=>co W S σ ev _ w r (PO.bind h fun d S1 W1 v e1 w1 r1 h1=>?_)⟩;split at h1
 ·next c gs ei =>
  split at h1
  ·next F eF =>
   split at h1
   ·next hn =>
    obtain ⟨p,dx,fs,rfl,g1,g2⟩:=zPh w1 r1 ei;refine ⟨p,cl c,dx,fs,rfl,g1,⟨c,F,eF,rfl⟩,g2.lookN (Option.isNone_iff_eq_none.mp hn),ca W1 S1 σ ev _ w1 (r.mono e1) (PO.bind h1 fun ds S2 W2 vs e2 w2 r2 h2=>⟨c,F,eF,rfl,Ro.ok F W2 S2 _ _ Q _ w2 (.cons (r1.mono e2) r2) h2⟩)⟩
   ·exact h1.elim
  ·exact h1.elim
 ·exact h1.elim
theorem zE2 {R:Run}{k:Nat}{m:Str}{ps:List Str}{T:List (Str×Fn)}{o:Expr}{fo:FE}{apos:Pos}{pl:Sem Bool} (M:MtOk X.prog X.w X.K X.mg X.base CX cl k m ps T) (Ro:RunOk cl R) (hr:Room k X.A) (hx:PasZ CX X Z) (ho:DE cl X Z o fo)
 (ht:eval (.Call (.Attribute o m apos) [] [] pos) X.env=(do
  let ov ← eval o X.env
  standAt apos.atName
  let (f,first) ← holding [ov] (getMethod ov m pl)
  callWith pos f first (backTo pos (starEach [] X.env)) (backToKw pos (keywordEach [] X.env))):=by rfl):DE cl X Z (.Call (.Attribute o m apos) [] [] pos) (dMe m T R fo aNil):=by
 obtain ⟨to,po,co⟩:=ho.ex;refine .of ⟨_,L2.zU2 po (zVf M) hr hx ht,fun W S σ ev Q w r h=>co W S σ ev _ w r (PO.bind h fun d S1 W1 v e1 w1 r1 h1=>?_)⟩;split at h1
 ·next c gs ei =>
  split at h1
  ·next F eF =>
   split at h1
   ·next hn =>
    obtain ⟨p,dx,fs,rfl,g1,g2⟩:=zPh w1 r1 ei;exact ⟨p,cl c,dx,fs,rfl,g1,⟨c,F,eF,rfl⟩,g2.lookN (Option.isNone_iff_eq_none.mp hn),c,F,eF,rfl,Ro.ok F W1 S1 _ _ Q _ w1 (.cons r1 .nil) h1⟩
   ·exact h1.elim
  ·exact h1.elim
 ·exact h1.elim
end
end L2.F
namespace L2.F
open PySem PySem.Spec PyProof.Rows L2
def makeRun (o:Out U) (S:Sto):Out U:=match o with
 | .ok (.d .non) S'=>match snapD S' (.loc 0) with
  | some d=>.ok (.d d) S
  | none=>.st
 | .ok _ _=>.st
 | .ex c _=>.ex c S
 | .st=>.st
def dMkS (c:Str) (F:Fn) (dd:List D) (fa:FAr):FE:=fun ev S=>(fa ev S).bind fun ds S=>match F (.loc S.length :: (ds++dd.map .d)) (S++[.ins c []]) with
 | .ok (.d .non) S'=>.ok (.loc S.length) S'
 | .ok _ _=>.st
 | .ex c S'=>.ex c S'
 | .st=>.st
section
variable {cl:Cl}{X:Cx}{Z:TZ}{a b c:Expr}{fa fb fc:FE}{pos:Pos}{CX:CXT}
theorem born {W:Wo}{S:Sto}{x dx C:Addr} (w:WR cl W S) (hx:W.H x=none) (hdx:W.H dx=none) (ne:dx≠x):Ext W ((W.put dx (.own x)).new x (.ins C dx []))∧∀ c,cl c=C→WR cl ((W.put dx (.own x)).new x (.ins C dx [])) (S++[.ins c []]):=by
 have hx':(W.put dx (.own x)).H x=none:=by show upd W.H dx (.own x) x=none;rw [zAa (Ne.symm ne)];exact hx
 have w':WR cl (W.put dx (.own x)) S:=w.oth hdx;refine ⟨(Ext.oth hdx).trans (Ext.new hx'),fun c hc=>w'.new hx' ⟨(notG w hx:¬ W.G x),dx,[],?_,.nil⟩⟩;rw [hc];exact zAc
theorem mk_of {F:Fn}{c:Str}{W:Wo}{S:Sto}{vs:List V}{xs:List D}{Q:VK}{Z:Addr→Addr→Hp→Prop} (w:WR cl W S) (r:RpAll cl W vs xs) (h:PO cl (RU cl) W Q Z (makeRun (F (.loc 0 :: xs.map .d) [.ins c []]) S)):∀ x dx,W.H x=none→W.H dx=none→dx≠x→spF cl F (.ref x :: vs) (upd (upd W.H dx (.own x)) x (.ins (cl c) dx [])) (fun v H2=>v=.non∧Q (.ref x) H2) (fun cls eo H'=>∃ x C,cls=.ref C∧eo=some x∧Z x C H'):=fun x dx hx hdx ne=>by
 obtain ⟨e0,w0⟩:=born (C:=cl c) w.bare hx hdx ne;have w0:=w0 c rfl;have r0:RUs cl W.bare vs (xs.map .d):=(RpAll.to (W:=W) (W':=W.bare) (fun _ g=>g) rfl r).up;refine ⟨_,_,.loc 0 :: xs.map .d,rfl,w0,.cons (.loc rfl) (r0.mono e0),?_⟩;show PO cl (RU cl) _ _ _ (F (.loc 0 :: xs.map .d) [.ins c []]);unfold makeRun at h;cases hf:F (.loc 0 :: xs.map .d) [.ins c []] with
 | ok u S1 =>
  rw [hf] at h;intro W1 v e1 w1 r1;obtain ⟨E,w'⟩:=back w (e0.trans e1) w1;cases u with
  | d y =>
   cases y with
   | non =>
    cases r1 with
    | d r1 =>
    cases r1;simp only at h;split at h
    ·next d ed=>exact ⟨rfl,h (W1.all W.μ) (.ref x) E w' (.d (zQ9 w1 4 (RU.mono e1 (.loc rfl)) ed))⟩
    ·exact h.elim
   | _=>exact h.elim
  | loc n=>exact h.elim
 | ex c S1 =>
  rw [hf] at h;intro W1 y e1 w1 hy;obtain ⟨E,w'⟩:=back w (e0.trans e1) w1;exact ⟨y,_,rfl,rfl,h (W1.all W.μ) y E w' hy⟩
 | st=>rw [hf] at h;exact h.elim
theorem yEi {F:Fn}{c:Str}{W:Wo}{S:Sto}{vs:List V}{ds:List U}{Q:VK}{Z:Addr→Addr→Hp→Prop} (w:WR cl W S) (r:RUs cl W vs ds) (h:PO cl (RU cl) W Q Z (match F (.loc S.length :: ds) (S++[.ins c []]) with | .ok (.d .non) S'=>.ok (.loc S.length) S' | .ok _ _=>.st | .ex c S'=>.ex c S' | .st=>.st)):∀ x dx,W.H x=none→W.H dx=none→dx≠x→spF cl F (.ref x :: vs) (upd (upd W.H dx (.own x)) x (.ins (cl c) dx [])) (fun v H2=>v=.non∧Q (.ref x) H2) (fun cls eo H'=>∃ x C,cls=.ref C∧eo=some x∧Z x C H'):=fun x dx hx hdx ne=>by
 obtain ⟨e0,w0⟩:=born (C:=cl c) w hx hdx ne;have w0:=w0 c rfl;have hn:((W.put dx (.own x)).new x (.ins (cl c) dx [])).μ[S.length]? = some x:=by show (W.μ++[x])[S.length]? = some x;rw [← w.len,Zg (Z1 _)];simp
 refine ⟨_,_,.loc S.length :: ds,rfl,w0,.cons (.loc hn) (r.mono e0),?_⟩;cases hf:F (.loc S.length :: ds) (S++[.ins c []]) with
 | ok u S1 =>
  rw [hf] at h;intro W1 v e1 w1 r1;cases u with
  | d y =>
   cases y with
   | non =>
    cases r1 with
    | d r1 =>
    cases r1;exact ⟨rfl,h W1 (.ref x) (e0.trans e1) w1 (RU.mono e1 (.loc hn))⟩
   | _=>exact h.elim
  | loc n=>exact h.elim
 | ex c S1 =>
  rw [hf] at h;exact fun W1 y e1 w1 hy=>⟨y,_,rfl,rfl,h W1 y (e0.trans e1) w1 hy⟩
 | st=>rw [hf] at h;exact h.elim
theorem yFc {F:Fn}{k:Nat}{c x:Str}{f:Addr}{fd:FuncData}{ps:List Str}{e:Expr}{es:List Expr}{fa:FAr}{p:Pos}{dsv:List Value}{dvs:List V}{dd:List D} (M:Mk X.K (cl c) f) (G:FnOk X.prog X.w X.K X.mg X.base CX k f fd ps (spF cl F)) (hr:Room (k + 1) X.A) (hm:X.mg x=some (.ref (cl c))) (hb:Binds X.K fd ps dsv) (hd:Vals dvs dsv) (hdd:∀ W,RpAll cl W dvs dd) (hx:PasZ CX X Z) (ha:DA cl X Z (e :: es) fa) (hg:Gl X x:=by rfl) (hdb:(x == ("__debug__" : Str))=false:=by decide) (he:starEach (e :: es) X.env=(false,eval e X.env) :: starEach es X.env:=by rfl) (hpl:(backTo pos (starEach es X.env)).any (·.1)=false:=by rfl):DE cl X Z (.Call (.Name x p) (e :: es) [] pos) (dMkS c F dd fa):=by
 obtain ⟨ta,pa,ca⟩:=ha.ex;exact .of ⟨_,L2.zU3 M G hr hg hm hb hd hx pa hdb he hpl,fun W S σ ev Q w r h=>ca W S σ ev _ w r (PO.bind h fun ds S1 W1 vs e1 w1 r1 h1=>yEi w1 (r1.append (hdd W1).up) h1)⟩
theorem yFf {R:Run}{F:Fn}{k:Nat}{C:Addr}{x m:Str}{f:Addr}{fd:FuncData}{ps:List Str}{e:Expr}{es:List Expr}{fa:FAr}{p apos:Pos}{pl:Sem Bool} (M:ClsFn X.K C m f) (G:FnOk X.prog X.w X.K X.mg X.base CX k f fd ps (spF cl F)) (Ro:RunOk cl R) (hr:Room k X.A) (hm:X.mg x=some (.ref C)) (hb:Binds X.K fd ps []) (hx:PasZ CX X Z) (ha:DA cl X Z (e :: es) fa) (hg:Gl X x:=by rfl) (hdb:(x == ("__debug__" : Str))=false:=by decide) (he:starEach (e :: es) X.env=(false,eval e X.env) :: starEach es X.env:=by rfl) (hpl:(backTo pos (starEach es X.env)).any (·.1)=false:=by rfl)
 (ht:eval (.Call (.Attribute (.Name x p) m apos) (e :: es) [] pos) X.env=(do
  let ov ← eval (.Name x p) X.env
  standAt apos.atName
  let (f,first) ← holding [ov] (getMethod ov m pl)
  callWith pos f first (backTo pos (starEach (e :: es) X.env)) (backToKw pos (keywordEach [] X.env))):=by rfl):DE cl X Z (.Call (.Attribute (.Name x p) m apos) (e :: es) [] pos) (dCl R F fa):=by
 obtain ⟨ta,pa,ca⟩:=ha.ex;refine .of ⟨_,L2.zWo (dvs:=[]) M G hr hg hm hb .nil hx pa hdb he hpl ht,fun W S σ ev Q w r h=>ca W S σ ev _ w r (PO.bind h fun ds S1 W1 vs e1 w1 r1 h1=>?_)⟩;rw [List.append_nil];exact Ro.ok F W1 S1 vs ds Q _ w1 r1 h1
theorem pas_T {P:Program}{w:World}{pins:List (Addr×Obj)}{W:TW} (hx:X.ex=[]) (hP:X.prog=P) (hw:X.w=w):PasZ (CXM P w) (X.tri pins W) (fun σ e C H=>W σ e C H):=by
 subst hP hw;exact zWp hx
structure HdOk (K:PySem.W.Frag) (cl:Cl) (hs:List (Str×Str)):Prop where
 ok:∀ c h,hs.contains (c,h)=true→PySem.W.exmOne K (.ref (cl c)) (.ref (cl h))=some true
def noXF:Fl→Fl
 | .ex _ _ _=>.st
 | o=>o
def sTryN (hs:List (Str×Str)) (h:Str) (b:FS) (g:FS):FS:=fun ev S=>match b ev S with
 | .ex c e S=>if hs.contains (c,h)=true then noXF (g e S) else .st
 | o=>o
theorem yBi {hs:List (Str×Str)}{x:Str}{np hpos:Pos}{body suite:List Stmt}{b₀ : Stmt}{b g:FS} (T:HdOk X.K cl hs) (hx:X.ex=[]) (hst:X.stack=X.env :: X.outer) (hf:X.env.frame=some X.env.locals) (hm:X.mg x=some (.ref (cl x)))
 (hb:∀ pins W,DSs cl (X.tri pins W) (fun σ e C H=>W σ e C H) body b) (hh:∀ e,DSs cl (X.hnd e) ZN (b₀ :: suite) g) (hg:Gl X x:=by rfl) (hdb:(x == ("__debug__" : Str))=false:=by decide):DS cl X Z (.Try body [.ExceptHandler (some (.Name x np)) none (b₀ :: suite) hpos] [] [] pos) (sTryN hs x b g):=by
 refine .of ⟨_,L2.yA0 (B:=cl x) (tb:=fun W=>tS cl (fun σ e C H=>W σ e C H) b) (th:=fun _=>tS cl ZN g) hx hst hf hg hm (fun pins W=>(hb pins W).pe) (fun e=>(hh e).pe) hdb,fun W S σ ev D w r h=>?_⟩;unfold sTryN at h;cases hbv:b ev S with
 | ex c e S1 =>
  rw [hbv] at h;simp only at h;split at h
  ·next hc =>
   refine ⟨fun σ' x' C' H'=>C'=cl c∧∃ W2,W2.H=H'∧Ext W W2∧WR cl W2 S1∧ER cl W2 σ' e,⟨W,S,ev,rfl,w,r,?_⟩,fun σ' x' C' H' hx' ⟨e1,W2,e2,e3,e4,e5⟩=>?_⟩
   ·rw [hbv];exact fun W2 σ2 x2 e2 w2 r2 hx2=>⟨rfl,W2,rfl,e2,w2,r2⟩
   ·subst e1 e2;refine ⟨T.ok c x hc,W2,S1,e,rfl,e4,e5,?_⟩;have h:=PF.ext h e3;cases hgv:g e S1 with
    | ex c2 e2 S2=>rw [hgv] at h;exact h.elim
    | nx e2 S2=>rw [hgv] at h;exact h
    | rt d S2=>rw [hgv] at h;exact h
    | bk e2 S2=>rw [hgv] at h;exact h
    | ct e2 S2=>rw [hgv] at h;exact h
    | st=>rw [hgv] at h;exact h
  ·exact h.elim
 | nx e S1=>exact ⟨fun _ _ _ _=>False,⟨W,S,ev,rfl,w,r,by rw [hbv] at h ⊢;exact h⟩,fun _ _ _ _ _ z=>z.elim⟩
 | rt d S1=>exact ⟨fun _ _ _ _=>False,⟨W,S,ev,rfl,w,r,by rw [hbv] at h ⊢;exact h⟩,fun _ _ _ _ _ z=>z.elim⟩
 | bk e S1=>exact ⟨fun _ _ _ _=>False,⟨W,S,ev,rfl,w,r,by rw [hbv] at h ⊢;exact h⟩,fun _ _ _ _ _ z=>z.elim⟩
 | ct e S1=>exact ⟨fun _ _ _ _=>False,⟨W,S,ev,rfl,w,r,by rw [hbv] at h ⊢;exact h⟩,fun _ _ _ _ _ z=>z.elim⟩
 | st=>rw [hbv] at h;exact h.elim
end
end L2.F
namespace L2.F
open PySem PySem.Spec PyProof.Rows L2
section
variable {cl:Cl}{X:Cx}{Z:TZ}{a b c tg:Expr}{fa fb fc:FE}{pos:Pos}{CX:CXT}
def negD (d:U) (S:Sto):Out U:=match d with
 | .d (.int i)=>.ok (.d (.int (-i))) S
 | _=>.st
theorem zPp (ha:DE cl X Z a fa):DE cl X Z (.UnaryOp .USub a pos) (d1 negD fa):=by
 obtain ⟨ta,pa,ca⟩:=ha.ex;refine .of ⟨_,L2.pe_un yCf pa,fun W S σ ev Q w r h=>ca W S σ ev _ w r (PO.bind h fun d S1 W1 v e1 w1 r1 h1=>?_)⟩;unfold negD at h1;split at h1
 ·next i =>
  cases r1 with
  | d r1=>cases r1;exact ⟨i,rfl,h1.now w1 (.d (.int _))⟩
 ·exact h1.elim
def tCh (g g':U→U→Sto→Out U) (fa fb fc:FE):FT:=fun ev S=>(fa ev S).bind fun x S=>(fb ev S).bind fun y S=>(g x y S).bind fun z S=>(asB z S).bind fun k S=>match k with
 | true=>(fc ev S).bind fun u S=>(g' y u S).bind asB
 | false=>.ok false S
theorem yBh {op op':CmpOp}{g g':U→U→Sto→Out U} (o:OpD cl X (compareOp op) g) (o':OpD cl X (compareOp op') g') (ha:DE cl X Z a fa) (hb:DE cl X Z b fb) (hc:DE cl X Z c fc) (hm:lastMarks [op,op'] [b,c]=false:=by with_unfolding_all rfl):DT cl X Z (.Compare a [op,op'] [b,c] pos) (tCh g g' fa fb fc):=by
 obtain ⟨r1,ho,hg⟩:=o.ex;obtain ⟨r2,ho',hg'⟩:=o'.ex;obtain ⟨ta,pa,ca⟩:=ha.ex;obtain ⟨tb,pb,cb⟩:=hb.ex;obtain ⟨tc,pc,cc⟩:=hc.ex;refine .of ⟨_,L2.zWa ho ho' pa pb pc hm,fun W S σ ev Q w r h=>ca W S σ ev _ w r (PO.bind h fun x S1 W1 v e1 w1 r1 h1=>cb W1 S1 σ ev _ w1 (r.mono e1) (PO.bind h1 fun y S2 W2 u e2 w2 r2 h2=>?_))⟩;refine hg W2 S2 v u x y _ (Z σ) w2 (r1.mono e2) r2 (PO.bind h2 fun z S3 W3 vz e3 w3 r3 h3=>?_);cases r3 with
 | d r3 =>
  cases r3 with
  | bl k =>
   refine ⟨k,rfl,?_⟩;cases k with
   | true =>
    rw [if_pos rfl];refine cc W3 S3 σ ev _ w3 (((r.mono e1).mono e2).mono e3) (PO.bind h3 fun q S4 W4 vq e4 w4 r4 h4=>?_);exact hg' W4 S4 u vq y q _ (Z σ) w4 ((r2.mono e3).mono e4) r4 (PO.bind h4 fun z2 S5 W5 v5 e5 w5 r5 h5=>zZh w5 r5 h5)
   | false =>
    rw [if_neg Z6];exact ⟨false,rfl,h3.now w3 rfl⟩
  | _=>exact h3.elim
 | loc _=>exact h3.elim
def dCh (g g':U→U→Sto→Out U) (fa fb fc:FE):FE:=fun ev S=>(fa ev S).bind fun x S=>(fb ev S).bind fun y S=>(g x y S).bind fun z S=>(asB z S).bind fun k S=>match k with
 | true=>(fc ev S).bind fun u S=>g' y u S
 | false=>.ok (.d (.bl false)) S
theorem de_ch {op op':CmpOp}{g g':U→U→Sto→Out U} (o:OpD cl X (compareOp op) g) (o':OpD cl X (compareOp op') g') (ha:DE cl X Z a fa) (hb:DE cl X Z b fb) (hc:DE cl X Z c fc) (hm:lastMarks [op,op'] [b,c]=false:=by with_unfolding_all rfl):DE cl X Z (.Compare a [op,op'] [b,c] pos) (dCh g g' fa fb fc):=by
 obtain ⟨r1,ho,hg⟩:=o.ex;obtain ⟨r2,ho',hg'⟩:=o'.ex;obtain ⟨ta,pa,ca⟩:=ha.ex;obtain ⟨tb,pb,cb⟩:=hb.ex;obtain ⟨tc,pc,cc⟩:=hc.ex;refine .of ⟨_,L2.zWn ho ho' pa pb pc hm,fun W S σ ev Q w r h=>ca W S σ ev _ w r (PO.bind h fun x S1 W1 v e1 w1 r1 h1=>cb W1 S1 σ ev _ w1 (r.mono e1) (PO.bind h1 fun y S2 W2 u e2 w2 r2 h2=>?_))⟩;refine hg W2 S2 v u x y _ (Z σ) w2 (r1.mono e2) r2 (PO.bind h2 fun z S3 W3 vz e3 w3 r3 h3=>?_);cases r3 with
 | d r3 =>
  cases r3 with
  | bl k =>
   refine ⟨k,rfl,?_⟩;cases k with
   | true =>
    rw [if_pos rfl];exact cc W3 S3 σ ev _ w3 (((r.mono e1).mono e2).mono e3) (PO.bind h3 fun q S4 W4 vq e4 w4 r4 h4=>hg' W4 S4 u vq y q _ (Z σ) w4 ((r2.mono e3).mono e4) r4 h4)
   | false =>
    rw [if_neg Z6];exact h3.now w3 (.d (.bl _))
  | _=>exact h3.elim
 | loc _=>exact h3.elim
def iStr' (fa:FE):FI:=fun ev S=>(fa ev S).bind fun d S=>match d with
 | .d (.str x)=>.ok (.items (x.cps.toList.map fun c=>.d (.str ⟨#[c]⟩))) S
 | _=>.st
theorem txt_c {x:Str}{c:Nat} (h:TxtOk x) (hc:c∈x.cps.toList):TxtOk ⟨#[c]⟩:=⟨by show 1≤100000;decide,(zFj _).mpr fun d hd=>by
 have hd:d=c:=by simpa using hd
 rw [hd]
 exact (zFj x).mp h.2 c hc⟩
theorem zZ9 {y:Str}{py:Pos} (ha:DE cl X Z a fa):DI cl X Z (.Name y py) a (iStr' fa):=by
 obtain ⟨ta,pa,ca⟩:=ha.ex;refine .of ⟨_,L2.yDd pa,fun W S σ ev Q w r h=>ca W S σ ev _ w r (PO.bind h fun d S1 W1 v e1 w1 r1 h1=>?_)⟩;split at h1
 ·next x =>
  cases r1 with
  | d r1 =>
  cases r1 with
  | str _ hx =>
   refine ⟨x,rfl,h1.now w1 fun W' S' e' w' k=>?_⟩;have hlen:x.cps.toList.length=x.length:=by rw [Zt];rfl
   show match (some (x.cps.toList.map fun c=>U.d (.str ⟨#[c]⟩))[k]? : Option (Option U)) with | some (some d)=>_ | some none=>_ | none=>True
   cases hk:(x.cps.toList.map fun c=>U.d (.str ⟨#[c]⟩))[k]? with
   | some d =>
    rw [Zo] at hk;obtain ⟨c,h1,h2⟩:=Option.map_eq_some_iff.mp hk;refine ⟨by show k < x.length;rw [← hlen];exact (List.getElem?_eq_some_iff.mp h1).1,fun v H' y=>?_⟩;obtain ⟨rfl,c',hc',rfl⟩:=y;have:x.cps.toList[k]? = some c':=by rw [Array.getElem?_toList];exact hc'
    rw [h1] at this;cases this;rw [← h2];exact ⟨W',Ext.refl _,w',rfl,.d (.str _ (txt_c hx (Zh h1)))⟩
   | none =>
    have:=List.getElem?_eq_none_iff.mp hk;rw [Z2,hlen] at this;exact this
 ·exact h1.elim
def iRng (fa:FAr):FI:=fun ev S=>(fa ev S).bind fun ds S=>match ds with
 | [.d (.int j)]=>if -(2 ^ 62)≤j∧j≤LM then .ok (.items ((List.range j.toNat).map fun i:Nat=>.d (.int i))) S else .st
 | _=>.st
theorem zXu {p:Pos}{fr:FAr} (hm:X.mg "range" = none) (ha:DA cl X Z [a] fr) (hg:Gl X "range":=by rfl) (hs:starEach [a] X.env=[(false,eval a X.env)]:=by rfl):DI cl X Z tg (.Call (.Name "range" p) [a] [] pos) (iRng fr):=by
 obtain ⟨ta,pa,ca⟩:=ha.ex;refine .of ⟨_,L2.zTz hg hm pa hs,fun W S σ ev Q w r h=>ca W S σ ev _ w r (PO.bind h fun ds S1 W1 vs e1 w1 r1 h1=>?_)⟩;split at h1
 ·next j =>
  obtain ⟨v,rfl,rv⟩:=r1.one;split at h1
  ·next hl =>
   cases rv with
   | d rv =>
   cases rv;have hl':j≤1000000:=hl.2
   ·refine ⟨j,rfl,hl.1,by omega,h1.now w1 fun W' S' e' w' k=>?_⟩;show match (some ((List.range j.toNat).map fun i:Nat=>U.d (.int i))[k]? : Option (Option U)) with | some (some d)=>_ | some none=>_ | none=>True
    cases hk:((List.range j.toNat).map fun i:Nat=>U.d (.int i))[k]? with
    | some d =>
     rw [Zo] at hk;obtain ⟨c,h1,h2⟩:=Option.map_eq_some_iff.mp hk;obtain ⟨h3,h4⟩:=List.getElem?_eq_some_iff.mp h1;rw [List.getElem_range] at h4;rw [Ye] at h3;subst h4;refine ⟨h3,fun v H' y=>?_⟩;obtain ⟨rfl,rfl⟩:=y;rw [← h2];exact ⟨W',Ext.refl _,w',rfl,by rw [Int.zero_add];exact .d (.int _)⟩
    | none =>
     have:=List.getElem?_eq_none_iff.mp hk;rw [Z2,Ye] at this;exact this
  ·exact h1.elim
 ·exact h1.elim
end
end L2.F
namespace L2.F
open PySem PySem.Spec PyProof.Rows L2
section
variable {cl:Cl}{X:Cx}{Z:TZ}{a b c tg iter elt:Expr}{ifs:List Expr}{fa fb fc:FE}{pos:Pos}{CX:CXT}{sc:Scope}{cs:List (Str×Addr)}{T:List Str}{fi:FI}{g:GT}{t:FT}{f:FE}
theorem RUs.evens {W:Wo}:∀ {vs:List V}{us:List U},RUs cl W vs us→RUs cl W (evens vs) (evens us)
 | [],_,h=>by cases h;exact .nil
 | [_],_,h=>by
  cases h with
  | cons a t=>cases t;exact .cons a .nil
 | _ :: _ :: _,_,h=>by
  cases h with
  | cons a t =>
   cases t with
   | cons b t=>exact .cons a (RUs.evens t)
theorem RUs.odds {W:Wo}:∀ {vs:List V}{us:List U},RUs cl W vs us→RUs cl W (odds vs) (odds us)
 | [],_,h=>by cases h;exact .nil
 | [_],_,h=>by
  cases h with
  | cons a t=>cases t;exact .nil
 | _ :: _ :: _,_,h=>by
  cases h with
  | cons a t =>
   cases t with
   | cons b t=>exact .cons b (RUs.odds t)
def evD (d:U) (S:Sto):Out U:=match lstOf S d with
 | some xs=>mkL (evens xs) S
 | none=>.st
def odD (d:U) (S:Sto):Out U:=match lstOf S d with
 | some xs=>if 1≤xs.length then mkL (odds xs) S else .st
 | none=>.st
theorem zVm {k:Nat}{p1 p3:Pos} (ha:DE cl X Z a fa):DE cl X Z (.Subscript a (.Slice none none (some (.Constant (.int 2) k p1)) p3) pos) (d1 evD fa):=by
 obtain ⟨ta,pa,ca⟩:=ha.ex;refine .of ⟨_,L2.yA9 pa,fun W S σ ev Q w r h=>ca W S σ ev _ w r (PO.bind h fun d S1 W1 v e1 w1 r1 h1=>?_)⟩;unfold evD at h1;split at h1
 ·next xs ex =>
  obtain ⟨p,vs,rfl,g1,g2,g3⟩:=zEk (K:=X.K) w1 r1 ex;exact ⟨p,vs,rfl,g1,(zKb w1 g3.evens h1).2⟩
 ·exact h1.elim
theorem yFb {k k':Nat}{p1 p2 p3:Pos} (ha:DE cl X Z a fa):DE cl X Z (.Subscript a (.Slice (some (.Constant (.int 1) k' p2)) none (some (.Constant (.int 2) k p1)) p3) pos) (d1 odD fa):=by
 obtain ⟨ta,pa,ca⟩:=ha.ex;refine .of ⟨_,L2.yDl pa,fun W S σ ev Q w r h=>ca W S σ ev _ w r (PO.bind h fun d S1 W1 v e1 w1 r1 h1=>?_)⟩;unfold odD at h1;split at h1
 ·next xs ex =>
  obtain ⟨p,vs,rfl,g1,g2,g3⟩:=zEk (K:=X.K) w1 r1 ex;split at h1
  ·next hl=>exact ⟨p,vs,rfl,g1,by rw [g3.length];exact hl,(zKb w1 g3.odds h1).2⟩
  ·exact h1.elim
 ·exact h1.elim
abbrev FJ:=Ev→Sto→Str→Out Str
def RSt (_:Wo) (a b:Str):Prop:=a=b
structure DJ (cl:Cl) (X:Cx) (Z:TZ) (es:List Expr) (f:FJ):Prop where
 pe:L2.PJ X es (fun σ H acc Q=>∃ W S ev,W.H=H∧WR cl W S∧ER cl W σ ev∧PO cl RSt W Q (Z σ) (f ev S acc))
def shD:U→Option Str
 | .d (.str x)=>some x
 | .d (.int i)=>if i.natAbs < 10 ^ 12 then some (Str.ofString (toString i)) else none
 | _=>none
theorem sh_of {W:Wo}{v:V}{u:U}{x:Str} (r:RU cl W v u) (h:shD u=some x):showV v=some x:=by
 cases r with
 | d r=>cases r <;> first | exact h | (cases h;done)
 | loc _=>cases h
def jNil:FJ:=fun _ S acc=>.ok acc S
def jVal (fa:FE) (fj:FJ):FJ:=fun ev S acc=>(fa ev S).bind fun d S=>match shD d with
 | some x=>if x.length≤100000∧acc.length≤100000 then fj ev S (acc++x) else .st
 | none=>.st
def jCon (x:Str) (fj:FJ):FJ:=fun ev S acc=>if x.length≤100000∧acc.length≤100000 then fj ev S (acc++x) else .st
theorem zVe:DJ cl X Z [] jNil:=⟨fun pins s σ H acc Q I ⟨W,S,ev,e,w,r,h⟩=>L2.yDa pins s σ H acc Q I (by rw [← e];exact h.now w rfl)⟩
theorem zN9 {es:List Expr}{fj:FJ} (ha:DE cl X Z a fa) (hj:DJ cl X Z es fj):DJ cl X Z (.FormattedValue a (-1) none pos :: es) (jVal fa fj):=by
 obtain ⟨ta,pa,ca⟩:=ha.ex;refine ⟨fun pins s σ H acc Q I ⟨W,S,ev,e,w,r,h⟩=>L2.yD9 pa hj.pe pins s σ H acc Q I ?_⟩;subst e;refine ca W S σ ev _ w r (PO.bind h fun d S1 W1 v e1 w1 r1 h1=>?_);split at h1
 ·next x ex =>
  split at h1
  ·next c=>exact ⟨x,sh_of r1 ex,c.1,c.2,W1,S1,ev,rfl,w1,r.mono e1,h1⟩
  ·exact h1.elim
 ·exact h1.elim
theorem zSe {x:Str}{k:Nat}{es:List Expr}{fj:FJ} (hj:DJ cl X Z es fj):DJ cl X Z (.Constant (.str x) k pos :: es) (jCon x fj):=by
 refine ⟨fun pins s σ H acc Q I ⟨W,S,ev,e,w,r,h⟩=>L2.yDb hj.pe pins s σ H acc Q I ?_⟩;subst e;unfold jCon at h;split at h
 ·next c=>exact ⟨c.1,c.2,W,S,ev,rfl,w,r,h⟩
 ·exact h.elim
def dJoin (fj:FJ):FE:=fun ev S=>(fj ev S Str.empty).bind fun out S=>if txtB out=true then .ok (.d (.str out)) S else .st
theorem zQu {v1 v2:Expr}{rest:List Expr}{fj:FJ} (hj:DJ cl X Z (v1 :: v2 :: rest) fj):DE cl X Z (.JoinedStr (v1 :: v2 :: rest) pos) (dJoin fj):=by
 refine .of ⟨_,L2.zU4 hj.pe,fun W S σ ev Q w r h=>⟨W,S,ev,rfl,w,r,PO.bind h fun out S1 W1 v e1 w1 r1 h1=>?_⟩⟩;have r1:v=out:=r1;subst r1;split at h1
 ·next c=>exact ⟨(zJt c).1,h1.now w1 (.d (.str _ (zJt c)))⟩
 ·exact h1.elim
def numOf (x:Str):Option Int:=match PySem.intText? x with
 | some n=>if 0≤n∧n < 10 ^ 10∧x=Str.ofString (toString n) then some n else none
 | none=>none
def intC:List U→Sto→Out U
 | [.d (.str x)],S=>match numOf x with
  | some n=>.ok (.d (.int n)) S
  | none=>.st
 | _,_=>.st
theorem yBy:CallD cl X (.type "int") intC:=⟨_,zOe,fun W S xs ds Q Z w r h=>by
 unfold intC at h;split at h
 ·next x =>
  split at h
  ·next n en =>
   obtain ⟨v,rfl,r1⟩:=r.one;cases r1 with
   | d r1 =>
   cases r1;unfold numOf at en;split at en
   ·next m _ =>
    split at en
    ·next c =>
     cases en;exact ⟨n,by rw [← c.2.2],c.1,c.2.1,h.now w (.d (.int _))⟩
    ·cases en
   ·cases en
  ·exact h.elim
 ·exact h.elim⟩
def pairsD:List D→Option (List (Key×D))
 | []=>some []
 | .tup [k,v] :: r=>match keyD (.d k),pairsD r with
  | some k,some l=>some ((k,v) :: l)
  | _,_=>none
 | _=>none
theorem zRr {W:Wo}:∀ {vs:List V}{ds:List D}{es:List (Key×D)},RpAll cl W vs ds→pairsD ds=some es→∃ (ts:List Addr) (kvs:List (Key×V)),vs=ts.map V.ref∧RpK cl W kvs es∧kvs.length=ts.length∧∀ (i:Nat) (t:Addr) (k:Key) (v:V),ts[i]? = some t→kvs[i]? = some (k,v)→W.H t=some (.tup [kV k,v])
 | _,_,es,.nil,h=>by cases h;exact ⟨[],[],rfl,.nil,rfl,fun i t k v h=>by cases h⟩
 | _,_,es,.cons (d:=d) (ds:=ds) r t,h=>by
  unfold pairsD at h;split at h
  ·next e=>cases e
  ·next k v r' e =>
   cases e;split at h
   ·next k' l ek el =>
    cases h;obtain ⟨ts,kvs,h1,h2,h3,h4⟩:=zRr t el;cases r with
    | @tup p ws _ g eh hl rr =>
     cases rr with
     | @cons v1 _ _ _ r1 rr =>
      cases rr with
      | @cons v2 _ _ _ r2 rr =>
       cases rr;have:v1=kV k':=zDw (.d r1) ek;subst this;refine ⟨p :: ts,(k',v2) :: kvs,by rw [h1];rfl,.cons r2 h2,by rw [Zd,Zd,h3],fun i t k v e1 e2=>?_⟩;cases i with
       | zero=>cases e1;cases e2;exact eh
       | succ i=>exact h4 i t k v e1 e2
   ·cases h
  ·cases h
def nodupK (es:List (Key×D)):Bool:=decide (es.map (·.1)).Nodup
theorem RpK.keys' {W:Wo}:∀ {fs:List (Key×V)}{gs:List (Key×D)},RpK cl W fs gs→fs.map (·.1)=gs.map (·.1)
 | _,_,.nil=>rfl
 | _,_,.cons _ t=>by rw [Zi,Zi,RpK.keys' t]
def dictP (mu:Bool):List U→Sto→Out U
 | [d],S=>match lstOf S d with
  | some us=>match pureL us with
   | some ds=>match pairsD ds with
    | some es=>if nodupK es=true∧es.length≤LM then (if mu=true then .ok (.loc S.length) (S++[.dct (upK es)]) else .ok (.d (.dct es)) S) else .st
    | none=>.st
   | none=>.st
  | none=>.st
 | _,_=>.st
theorem zY1 {mu:Bool} (hc:X.calm=true):CallD cl X (.type "dict") (dictP mu):=⟨_,zMa rfl,fun W S xs ds Q Z w r h=>by
 unfold dictP at h;split at h
 ·obtain ⟨v,rfl,r1⟩:=r.one;split at h
  ·next us e =>
   obtain ⟨p,vs,rfl,g1,g2,g3⟩:=zEk (K:=X.K) w r1 e;split at h
   ·next ds ep =>
    split at h
    ·next es ee =>
     split at h
     ·next c =>
      obtain ⟨ts,kvs,h1,h2,h3,h4⟩:=zRr (g3.pure ep) ee;have hl:kvs.length≤LM:=by rw [h2.length];exact c.2
      refine ⟨p,ts,kvs,rfl,by rw [← h1];exact g1,hc,by rw [h2.keys'];exact of_decide_eq_true c.1,h3,h4,?_⟩;split at h
      ·exact zUd w hl h2.up h
      ·exact fun q hq=>h (W.add q _) _ (Ext.add hq) (w.add hq) (.d (.dct (.inr rfl) (.inl zAc) hl (h2.mono (Ext.add hq))))
     ·exact h.elim
    ·exact h.elim
   ·exact h.elim
  ·exact h.elim
 ·exact h.elim⟩
def dictD (mu:Bool):=fun ds S=>(dictC mu ds S).or (dictP mu ds S)
theorem zFq {mu:Bool} (hc:X.calm=true):CallD cl X (.type "dict") (dictD mu):=.or zY2 (zY1 hc)
theorem zQr (i:Nat) {y:Str}{py sp:Pos} (hN:X.N.Nodup) (hc:X.calm=true) (S:ScOk X sc cs T) (hi:DI cl X Z tg iter fi) (hg:∀ C s H fp,DG cl (cxComp X sc cs T C s H fp) tg g) (hf:∀ C s H fp,DFs cl (cxComp X sc cs T C s H fp) ZN ifs t) (he:∀ C s H fp,DE cl (cxComp X sc cs T C s H fp) ZN elt f) (hix:X.N[i]? = some y:=by rfl) (hx:X.env.scope.names.lookup y=some .local:=by rfl)
 (hsw:swapsWith (.ListComp elt [⟨tg,iter,ifs,0⟩] sc pos) (some (.Name y py)) sp.line X.env=pure true:=by rfl) (hs:∀ x,foldedSetIterable iter X.env x=pure x:=by intro _;rfl):DS cl X Z (.Assign [.Name y py] (.ListComp elt [⟨tg,iter,ifs,0⟩] sc pos) sp) (sSet i (dComp T.length fi g t f)):=by
 obtain ⟨ti,pi,ci⟩:=hi.ex;refine .of ⟨_,L2.zSw (i:=i) hc S pi (fun C s H fp=>(hg C s H fp).pe) (fun C s H fp=>(hf C s H fp).pe) (fun C s H fp=>(he C s H fp).pe) hN hix hx hsw hs,fun W S σ ev D w r h=>?_⟩;have h:PO cl (RU cl) W (fun v H=>gName i v σ H D.nx) (Z σ) (dComp T.length fi g t f ev S):=PF.bind h r fun d S1 W1 v e1 w1 r1 h1=>h1.nx' w1 ((r.mono e1).set r1 i);refine ci W S σ ev _ w r (PO.bind h fun it S1 W1 J e1 w1 ri h1=>?_);split at h1
 ·next hl=>exact zPq ri (r.mono e1) w1 hl h1
 ·exact h1.elim
def enumL (xs:List D):List U:=xs.zipIdx.map fun p=>.d (.tup [.int p.2,p.1])
def iEn (fa:FAr):FI:=fun ev S=>(fa ev S).bind fun ds S=>match ds with
 | [.d (.lst xs)]=>.ok (.items (enumL xs)) S
 | _=>.st
theorem yBm {es:List Expr}{x1:_}{tp p:Pos}{fr:FAr} (hm:X.mg "enumerate" = none) (ha:DA cl X Z [a] fr) (hg:Gl X "enumerate":=by rfl) (hs:starEach [a] X.env=[(false,eval a X.env)]:=by rfl):DI cl X Z (.Tuple es x1 tp) (.Call (.Name "enumerate" p) [a] [] pos) (iEn fr):=by
 obtain ⟨ta,pa,ca⟩:=ha.ex;refine .of ⟨_,L2.yA6 hg hm pa hs,fun W S σ ev Q w r h=>ca W S σ ev _ w r (PO.bind h fun ds S1 W1 vs e1 w1 r1 h1=>?_)⟩;split at h1
 ·next xs =>
  obtain ⟨v,rfl,rv⟩:=r1.one;cases rv with
  | d rv =>
  cases rv with
  | @lst p vs _ g e l rr =>
   refine ⟨p,rfl,⟨vs,.of e⟩,h1.now w1 fun W' S' e' w' k=>?_⟩;have hl:W'.H p=some (.lst vs):=e'.k _ _ g rfl e;show match (some (enumL xs)[k]? : Option (Option U)) with | some (some d)=>_ | some none=>_ | none=>True
   cases hk:(enumL xs)[k]? with
   | some d =>
    unfold enumL at hk;rw [Zo,List.getElem?_zipIdx] at hk;obtain ⟨q,h1,h2⟩:=Option.map_eq_some_iff.mp hk;obtain ⟨x,h3,h4⟩:=Option.map_eq_some_iff.mp h1;obtain ⟨y,hy,ry⟩:=rr.get h3;refine ⟨⟨vs,y,.of hl,hy⟩,fun v H' yl=>?_⟩;obtain ⟨t,z,rfl,ht,rfl,hz⟩:=yl;have:=hz vs (.of hl);rw [hy] at this;cases this;subst h2 h4;refine ⟨W'.add t _,Ext.add ht,w'.add ht,rfl,.d (.tup (.inr rfl) zAc (by show 2≤LM;decide) (.cons ?_ (.cons ((ry.mono e').mono (Ext.add ht)) .nil)))⟩;show Rp cl _ (.int (k:Nat)) (.int ((0 + k:Nat):Int));rw [Nat.zero_add];exact .int _
   | none =>
    have:=List.getElem?_eq_none_iff.mp hk;unfold enumL at this;rw [Z2,List.length_zipIdx] at this;exact ⟨vs,.of hl,by rw [rr.length];exact this⟩
 ·exact h1.elim
end
end L2.F
namespace L2.F
open PySem PySem.Spec PyProof.Rows L2
def keyOf (ct:CTb) (f:Str) (S:Sto):List U→Option (List (Str×U))
 | []=>some []
 | u :: us=>match insOf S u with
  | some (c,fs)=>if hasF ct c f=true then match fs.lookup f with
   | some (.d (.str k))=>(keyOf ct f S us).map ((k,u) :: ·)
   | _=>none
   else none
  | none=>none
def leastU:List (Str×U)→Option (Str×U)
 | []=>none
 | p :: r=>match leastU r with
  | none=>some p
  | some q=>if ltS q.1 p.1 then some q else some p
theorem zPc:∀ {l:List (Str×U)}{m:Str×U},leastU l=some m→m∈l∧∀ p∈l,¬ ltS p.1 m.1
 | [],m,h=>by cases h
 | p :: r,m,h=>by
  unfold leastU at h;split at h
  ·next e =>
   cases h;have:r=[]:=by
    cases r with
    | nil=>rfl
    | cons a b =>
     unfold leastU at e;split at e
     ·cases e
     ·split at e <;> cases e
   subst this;exact ⟨Zj,fun q hq=>by rw [List.mem_singleton.mp hq];exact List.lt_irrefl _⟩
  ·next q e =>
   obtain ⟨h1,h2⟩:=zPc e;split at h
   ·next c =>
    cases h;refine ⟨Zb _ h1,fun x hx=>?_⟩;rcases List.mem_cons.mp hx with rfl | hx
    ·exact fun z=>List.lt_irrefl _ (zIy z c)
    ·exact h2 x hx
   ·next c =>
    cases h;refine ⟨Zj,fun x hx=>?_⟩;rcases List.mem_cons.mp hx with rfl | hx
    ·exact List.lt_irrefl _
    ·intro z;by_cases y:ltS p.1 q.1
     ·exact h2 x hx (zIy z y)
     ·have:p.1=q.1:=zQk y c;exact h2 x hx (this ▸ z)
theorem zP2:∀ {l:List (Str×U)}{k:Str}{u v:U},(l.map (·.1)).Nodup→(k,u)∈l→(k,v)∈l→u=v
 | (a,b) :: r,k,u,v,n,h,h'=>by
  rw [Zi,List.nodup_cons] at n;rcases List.mem_cons.mp h with h | h
  ·rcases List.mem_cons.mp h' with h' | h'
   ·cases h;cases h';rfl
   ·cases h;exact absurd (List.mem_map.mpr ⟨_,h',rfl⟩) n.1
  ·rcases List.mem_cons.mp h' with h' | h'
   ·cases h';exact absurd (List.mem_map.mpr ⟨_,h,rfl⟩) n.1
   ·exact zP2 n.2 h h'
def minD (ct:CTb) (f:Str) (d:U) (S:Sto):Out U:=match lstOf S d with
 | some us=>match keyOf ct f S us with
  | some ps=>if (ps.map (·.1)).Nodup then match leastU ps with
   | some p=>.ok p.2 S
   | none=>.st
   else .st
  | none=>.st
 | none=>.st
def dMin (ct:CTb) (f:Str) (fa:FAr):FE:=fun ev S=>(fa ev S).bind fun ds S=>match ds with
 | [d]=>minD ct f d S
 | _=>.st
section
variable {cl:Cl}{X:Cx}{Z:TZ}{W:Wo}{S:Sto}
theorem zS2 {ct:CTb}{f:Str} (T:TbOk X.K cl ct) (w:WR cl W S):∀ {us:List U}{vs:List V}{ps:List (Str×U)},RUs cl W vs us→keyOf ct f S us=some ps→ps.length=vs.length∧(∀ (i:Nat) (v:V) (k:Str),vs[i]? = some v→(ps.map (·.1))[i]? = some k→∃ a C dx fs,v=.ref a∧W.H a=some (.ins C dx fs)∧Cls X.K C∧NoAttr X.K C f∧fs.lookup f=some (.str k))∧∀ (i:Nat) (v:V) (k:Str),vs[i]? = some v→(ps.map (·.1))[i]? = some k→∃ u,(k,u)∈ps∧RU cl W v u
 | _,_,ps,.nil,h=>by cases h;exact ⟨rfl,fun i v k h=>by simp at h,fun i v k h=>by simp at h⟩
 | _,_,ps,.cons (v:=v0) (d:=u) (ds:=us) r t,h=>by
  unfold keyOf at h;split at h
  ·next c fs e =>
   split at h
   ·next hf =>
    split at h
    ·next k0 ek =>
     obtain ⟨qs,e1,rfl⟩:=Option.map_eq_some_iff.mp h;obtain ⟨i1,i2,i3⟩:=zS2 T w t e1;obtain ⟨p,dx,gs,rfl,h2,h3⟩:=zPh w r e;obtain ⟨x,h4,h5⟩:=h3.look ek;obtain ⟨k1,k2⟩:=T.fl c f hf;refine ⟨by simp [i1],fun i v k hv hk=>?_,fun i v k hv hk=>?_⟩
     ·cases i with
      | zero =>
       simp at hv hk;subst hv hk;cases h5 with
       | d h5=>cases h5 with
        | str=>exact ⟨p,_,dx,gs,rfl,h2,k1,k2,h4⟩
      | succ i=>exact i2 i v k (by simpa using hv) (by simpa using hk)
     ·cases i with
      | zero =>
       simp at hv hk;subst hv hk;exact ⟨u,Zj,r⟩
      | succ i =>
       obtain ⟨u',m,ru⟩:=i3 i v k (by simpa using hv) (by simpa using hk);exact ⟨u',Zb _ m,ru⟩
    ·cases h
   ·cases h
  ·cases h
theorem zW1 {P:Addr}{pos:Pos}{q:Str}{H2:Hp} (w:WR cl W S) (ht:∀ t∈cl.tabs,t.1=P→t=(P,pos,q)) (T1:TabOk W.H P pos q) (T2:TabOk H2 P pos q) (g:GrownBut P W.H H2):Ext W ⟨W.G,W.μ,H2⟩∧WR cl ⟨W.G,W.μ,H2⟩ S:=by
 have ne:∀ b u,W.H b=some u→notTb u=true→H2 b=some u:=fun b u e n=>g b u e (T1.ne e (zZp n));have E:Ext W ⟨W.G,W.μ,H2⟩:=by
  refine ⟨fun _ h=>h,fun b u hb n e=>?_,fun b kvs hb r=>?_,⟨[],(List.append_nil _).symm⟩,fun b u e n _ _=>ne b u e n,fun b hb n=>absurd hb n,fun b g=>.inl g,fun b u e=>?_⟩
  ·obtain ⟨u',e',p⟩:=w.gd b hb;rw [e] at e';cases e';exact ne b u e (zMt p)
  ·rcases r with r | ⟨x,r⟩
   ·exact .inl (ne _ _ r rfl)
   ·exact .inr ⟨x,ne _ _ r rfl⟩
  ·by_cases hb:b=P
   ·subst hb;have:plB u=true→False:=fun z=>T1.ne e (zZp (zMt z)) rfl;rcases T2 with z | ⟨c,z,_⟩
    ·exact ⟨_,z,fun y=>(this y).elim⟩
    ·exact ⟨_,z,fun y=>(this y).elim⟩
   ·exact ⟨u,g b u e hb,id⟩
 refine ⟨E,w.len,w.nd,fun b hb=>?_,fun n c b e1 e2=>?_,fun t h=>?_⟩
 ·obtain ⟨u,e,p⟩:=w.gd b hb;exact ⟨u,ne b u e (zMt p),p⟩
 ·have ok:=w.cell n c b e1 e2;obtain ⟨u,hu,p⟩:=ok.ex;exact ok.keep E (fun z=>z) (by rw [hu];exact ne b u hu (zMt p))
 ·by_cases hp:t.1=P
  ·have:=ht t h hp;subst this;exact T2
  ·rcases w.tb t h with z | ⟨c,z,y⟩
   ·exact .inl (g _ _ z hp)
   ·exact .inr ⟨c,g _ _ z hp,ne _ _ y rfl⟩
theorem yFd {ct:CTb}{a:Expr}{fa:FAr}{x fld q:Str}{params:Arguments}{p p1 p2 lpos kpos pos:Pos}{scope:Scope}{c P:Addr} (Tc:TbOk X.K cl ct) (hP:(P,lpos,q)∈cl.tabs) (ht:∀ t∈cl.tabs,t.1=P→t=(P,lpos,q)) (T:LamTxt X.K X.mg X.base c P) (hcode:X.env.code=.ref c) (hr:Room 2 X.A) (hcm:X.calm=true) (hg:Gl X "min") (hm:X.mg "min" = none) (ha:DA cl X Z [a] fa)
 (Sc:LamSc scope x) (hq:X.env.qual++"<lambda>" = q:=by rfl) (hcl:closureFor scope X.env=pure []:=by rfl) (hdef:defaultsOf params X.env=([],[]):=by rfl)
 (hb:∀ (pm cd ctv v:Value),bindArgs (PySem.W.kla_fn "<lambda>" q params (.Attribute (.Name x p1) fld p2) scope [] pm cd ctv) ⟨[v],[]⟩=pure [(x,v)]:=by intros;rfl) (hx:(x == ("__debug__" : Str))=false:=by decide)
 (hat:∀ env:Env,attributeBase (.Name x p1) fld env (eval (.Name x p1) env)=eval (.Name x p1) env:=by intros;rfl)
 (he:backTo pos (starEach [a] X.env)=(false,eval a X.env) :: backTo pos (starEach [] X.env):=by rfl) (hpl:(backTo pos (starEach [a] X.env)).any (·.1)=false:=by rfl) :
 DE cl X Z (.Call (.Name "min" p) [a] [⟨some "key",.Lambda params (.Attribute (.Name x p1) fld p2) scope lpos,kpos⟩] pos) (dMin ct fld fa):=by
 obtain ⟨ta,pa,ca⟩:=ha.ex;refine .of ⟨_,L2.zU1 T hcode hr hcm hg hm pa Sc hq hcl hdef hb hx hat he hpl,fun W S σ ev Q w r h=>ca W S σ ev _ w r (PO.bind h fun ds S1 W1 vs e1 w1 r1 h1=>?_)⟩;split at h1
 ·next d =>
  unfold minD at h1;split at h1
  ·next us el =>
   split at h1
   ·next ps ek =>
    split at h1
    ·next nd =>
     split at h1
     ·next m em =>
      cases r1 with
      | @cons v _ _ _ rv rn=>cases rn with
       | nil =>
        obtain ⟨l,xs,rfl,g1,g2,g3⟩:=zEk w1 rv el;obtain ⟨k1,k2,k3⟩:=zS2 Tc w1 g3 ek;obtain ⟨m1,m2⟩:=zPc em;have pl:0 < ps.length:=List.length_pos_of_mem m1;refine ⟨l,xs,ps.map (·.1),rfl,g1,by omega,w1.tb _ hP,by simp [k1],k2,fun i v k H2 hv hk hb2 t2 gb=>?_⟩;obtain ⟨u,mu,ru⟩:=k3 i v k hv hk;have ek:m.1=k:=zQk (hb2 m.1 (List.mem_map.mpr ⟨_,m1,rfl⟩)) (m2 (k,u) mu);obtain ⟨E2,w2⟩:=zW1 w1 ht (w1.tb _ hP) t2 gb;have:m.2=u:=zP2 nd (by rw [← ek];exact m1) mu;rw [this] at h1;exact h1 ⟨W1.G,W1.μ,H2⟩ v E2 w2 (ru.mono E2)
     ·exact h1.elim
    ·exact h1.elim
   ·exact h1.elim
  ·exact h1.elim
 ·exact h1.elim
end
end L2.F
namespace L2.F
open PySem PySem.Spec PyProof.Rows L2
def clU (n:Nat):U→Bool
 | .d _=>true
 | .loc k=>decide (k < n)
def clC (n:Nat):Cell→Bool
 | .lst us=>us.all (clU n)
 | .dct es=>es.all fun e=>clU n e.2
 | .ins _ fs=>fs.all fun e=>clU n e.2
 | .dead=>true
def clS (n:Nat) (S:Sto):Bool:=S.all (clC n)
def snapB (n0:Nat):Nat→Sto→U→Option D
 | 0,_,u=>match u with
  | .d x=>some x
  | .loc _=>none
 | n + 1,S,u=>match u with
  | .d x=>some x
  | .loc k=>if k < n0 then none else match S[k]? with
   | some (.lst us)=>(snapL (snapB n0 n S) us).map .lst
   | some (.dct es)=>(snapK (snapB n0 n S) es).map .dct
   | some (.ins c fs)=>(snapK (snapB n0 n S) fs).map (.obj c)
   | _=>none
def Wo.cut (W:Wo) (n:Nat):Wo:=⟨fun a=>W.G a∨a∈W.μ.drop n,W.μ.take n,W.H⟩
section
variable {cl:Cl}{W W1 W2:Wo}{S S':Sto}{n0:Nat}
theorem zRd {f:U→Option D}:∀ {us:List U}{vs:List V}{ds:List D},(∀ u v x,RU cl W v u→f u=some x→Rp cl W2 v x)→RUs cl W vs us→snapL f us=some ds→RpAll cl W2 vs ds
 | _,_,ds,_,.nil,h=>by cases h;exact .nil
 | _,_,ds,hf,.cons (d:=u) (ds:=us) r t,h=>by
  have h:(match f u,snapL f us with | some x,some xs=>some (x :: xs) | _,_=>none)=some ds:=h;split at h
  ·next x xs e1 e2=>cases h;exact .cons (hf _ _ _ r e1) (zRd hf t e2)
  ·cases h
theorem zRf {f:U→Option D}:∀ {us:List (Key×U)}{vs:List (Key×V)}{ds:List (Key×D)},(∀ u v x,RU cl W v u→f u=some x→Rp cl W2 v x)→RUK cl W vs us→snapK f us=some ds→RpK cl W2 vs ds
 | _,_,ds,_,.nil,h=>by cases h;exact .nil
 | _,_,ds,hf,.cons (k:=k) (d:=u) (ds:=us) r t,h=>by
  rw [snapK] at h;split at h
  ·next x xs e1 e2=>cases h;exact .cons (hf _ _ _ r e1) (zRf hf t e2)
  ·cases h
theorem zRh {f:U→Option D}:∀ {us:List (Str×U)}{vs:List (Str×V)}{ds:List (Str×D)},(∀ u v x,RU cl W v u→f u=some x→Rp cl W2 v x)→RUK cl W vs us→snapK f us=some ds→RpF cl W2 vs ds
 | _,_,ds,_,.nil,h=>by cases h;exact .nil
 | _,_,ds,hf,.cons (k:=k) (d:=u) (ds:=us) r t,h=>by
  rw [snapK] at h;split at h
  ·next x xs e1 e2=>cases h;exact .cons (hf _ _ _ r e1) (zRh hf t e2)
  ·cases h
theorem zX7 {μ : List Addr}{k:Nat}{p:Addr} (h : μ[k]? = some p) (hk:¬ k < n0):p∈μ.drop n0:=by
 refine Zh (i:=k - n0) ?_;rw [List.getElem?_drop,show n0 + (k - n0)=k by omega];exact h
theorem zNh (w:WR cl W S):∀ (n:Nat) {u:U}{v:V}{x:D},RU cl W v u→snapB n0 n S u=some x→Rp cl (W.cut n0) v x
 | n,.d y,v,x,r,h=>by
  have h:some y=some x:=by cases n <;> exact h
  cases h;cases r with
  | d r=>exact Rp.to (W':=W.cut n0) (fun a g=>Or.inl g) rfl r
 | 0,.loc k,v,x,r,h=>by cases h
 | n + 1,.loc k,v,x,r,h=>by
  have h:(if k < n0 then none else match S[k]? with | some (.lst us)=>(snapL (snapB n0 n S) us).map D.lst | some (.dct es)=>(snapK (snapB n0 n S) es).map D.dct | some (.ins c fs)=>(snapK (snapB n0 n S) fs).map (D.obj c) | _=>none)=some x:=h;have ih:∀ u v x,RU cl W v u→snapB n0 n S u=some x→Rp cl (W.cut n0) v x:=fun u v x r h=>zNh w n r h;split at h
  ·cases h
  ·next hk =>
   cases r with
   | @loc _ p hn =>
    have hp:(W.cut n0).G p:=.inr (zX7 hn hk);split at h
    ·next us e =>
     obtain ⟨_,vs,e1,e2,e3⟩:=w.cell _ _ _ e hn;obtain ⟨ds,h1,rfl⟩:=Option.map_eq_some_iff.mp h;exact .lst hp e1 e2 (zRd ih e3 h1)
    ·next es e =>
     obtain ⟨_,vs,e1,e2,e3⟩:=w.cell _ _ _ e hn;obtain ⟨ds,h1,rfl⟩:=Option.map_eq_some_iff.mp h;exact .dct hp (.inl e1) e2 (zRf ih e3 h1)
    ·next c fs e =>
     obtain ⟨_,dx,gs,e1,e3⟩:=w.cell _ _ _ e hn;obtain ⟨ds,h1,rfl⟩:=Option.map_eq_some_iff.mp h;exact .obj hp e1 (zRh ih e3 h1)
    ·cases h
theorem RU.cut {v:V}{u:U} (r:RU cl W v u) (h:clU n0 u=true):RU cl (W.cut n0) v u:=by
 cases r with
 | d r=>exact .d (Rp.to (W':=W.cut n0) (fun a g=>Or.inl g) rfl r)
 | @loc k p hn =>
  have h:decide (k < n0)=true:=h;refine .loc ?_;show (W.μ.take n0)[k]? = _;rw [Y6 (of_decide_eq_true h)];exact hn
theorem RUs.cut:∀ {vs:List V}{us:List U},RUs cl W vs us→us.all (clU n0)=true→RUs cl (W.cut n0) vs us
 | _,_,.nil,_=>.nil
 | _,_,.cons r t,h=>by
  rw [Ya,Zc] at h;exact .cons (r.cut h.1) (RUs.cut t h.2)
theorem RUK.cut {κ : Type}:∀ {vs:List (κ×V)}{us:List (κ×U)},RUK cl W vs us→us.all (fun e=>clU n0 e.2)=true→RUK cl (W.cut n0) vs us
 | _,_,.nil,_=>.nil
 | _,_,.cons r t,h=>by
  rw [Ya,Zc] at h;exact .cons (r.cut h.1) (RUK.cut t h.2)
theorem zSh (w:WR cl W S) (e:Ext W W1) (w1:WR cl W1 S') (h:clS S.length (S'.take S.length)=true):Ext W (W1.cut S.length)∧WR cl (W1.cut S.length) (S'.take S.length):=by
 obtain ⟨ν,em⟩:=e.m;have tk:W1.μ.take S.length=W.μ:=by rw [em,← w.len,List.take_left'];rfl
 have dr:W1.μ.drop S.length = ν:=by rw [em,← w.len,List.drop_left'];rfl
 have nd:=w1.nd;rw [em,List.nodup_append] at nd;have hν : ∀ a,a∈W1.μ.drop S.length→W.H a=none:=fun a ha=>by
  rw [dr] at ha;exact e.n a (by rw [em];exact Zm _ ha) (fun z=>nd.2.2 a z a ha rfl)
 refine ⟨⟨fun a g=>.inl (e.g a g),e.k,e.kd,⟨[],by rw [List.append_nil];exact tk⟩,e.f,fun a ha n=>?_,fun a g=>?_,e.d⟩,?_,?_,fun a g=>?_,fun n c a e1 e2=>?_,w1.tb⟩
 ·exact absurd (show a∈W.μ by rw [← tk];exact ha) n
 ·rcases g with g | g
  ·exact e.ng a g
  ·exact .inr (.inl (hν a g))
 ·show (W1.μ.take _).length=(S'.take _).length;rw [Zx,Zx,w1.len]
 ·show (W1.μ.take _).Nodup;rw [tk];exact w.nd
 ·rcases g with g | g
  ·exact w1.gd a g
  ·exact w1.ex (List.mem_of_mem_drop g)
 ·have e2:(W1.μ.take S.length)[n]? = some a:=e2;have hn:n < S.length:=by
   have:=(List.getElem?_eq_some_iff.mp e1).1;rw [Zx] at this;omega
  have hc:clC S.length c=true:=List.all_eq_true.mp h c (Zh e1);rw [Y6 hn] at e1 e2;have ok:=w1.cell n c a e1 e2;have ng:¬ W1.G a→¬ (W1.cut S.length).G a:=fun g z=>by
   rcases z with z | z
   ·exact g z
   ·have:=hν a z;rw [em,Ze (by rw [w.len];exact hn)] at e2;obtain ⟨o,ho,_⟩:=w.ex (Zh e2);rw [ho] at this;cases this
  cases c with
  | lst ds=>obtain ⟨g,vs,h1,h2,h3⟩:=ok;exact ⟨ng g,vs,h1,h2,h3.cut hc⟩
  | dct ds=>obtain ⟨g,vs,h1,h2,h3⟩:=ok;exact ⟨ng g,vs,h1,h2,h3.cut hc⟩
  | ins c gs=>obtain ⟨g,dx,fs,h1,h2⟩:=ok;exact ⟨ng g,dx,fs,h1,h2.cut hc⟩
  | dead=>exact ok
end
def cutRun (n:Nat) (o:Out U):Out U:=match o with
 | .ok u S'=>if clS n (S'.take n)=true then match snapB n 4 S' u with
  | some d=>.ok (.d d) (S'.take n)
  | none=>.st
  else .st
 | .ex c S'=>if clS n (S'.take n)=true then .ex c (S'.take n) else .st
 | .st=>.st
def rC:Run:=fun F ds S=>match pureL ds with
 | some xs=>pureRun (F (xs.map .d) []) S
 | none=>cutRun S.length (F ds S)
def cutMk (n:Nat) (o:Out U):Out U:=match o with
 | .ok (.d .non) S'=>if clS n (S'.take n)=true then match snapB n 4 S' (.loc n) with
  | some d=>.ok (.d d) (S'.take n)
  | none=>.st
  else .st
 | .ok _ _=>.st
 | .ex c S'=>if clS n (S'.take n)=true then .ex c (S'.take n) else .st
 | .st=>.st
def dMkC (c:Str) (F:Fn) (dd:List D) (fa:FAr):FE:=fun ev S=>(fa ev S).bind fun ds S=>match pureL ds with
 | some xs=>makeRun (F (.loc 0 :: (xs++dd).map .d) [.ins c []]) S
 | none=>cutMk S.length (F (.loc S.length :: (ds++dd.map .d)) (S++[.ins c []]))
section
variable {cl:Cl}{X:Cx}{Z:TZ}{a b c:Expr}{fa fb fc:FE}{pos:Pos}{CX:CXT}
theorem zA8:RunOk cl rC:=⟨fun F W S vs ds Q Z w r h=>by
 unfold rC at h;split at h
 ·next xs ep =>
  refine ok_rA.ok F W S vs ds Q Z w r ?_;unfold rA;rw [ep];exact h
 ·refine ⟨W,S,ds,rfl,w,r,?_⟩;unfold cutRun at h;cases hf:F ds S with
  | ok u S1 =>
   rw [hf] at h;intro W1 v e1 w1 r1;simp only at h;split at h
   ·next hc =>
    obtain ⟨E,w'⟩:=zSh w e1 w1 hc;split at h
    ·next d ed=>exact h (W1.cut S.length) v E w' (.d (zNh w1 4 r1 ed))
    ·exact h.elim
   ·exact h.elim
  | ex c S1 =>
   rw [hf] at h;intro W1 x e1 w1 hx;simp only at h;split at h
   ·next hc =>
    obtain ⟨E,w'⟩:=zSh w e1 w1 hc;exact ⟨x,cl c,rfl,rfl,h (W1.cut S.length) x E w' hx⟩
   ·exact h.elim
  | st=>rw [hf] at h;exact h⟩
theorem yEk {F:Fn}{c:Str}{W:Wo}{S:Sto}{vs:List V}{ds:List U}{Q:VK}{Z:Addr→Addr→Hp→Prop} (w:WR cl W S) (r:RUs cl W vs ds) (h:PO cl (RU cl) W Q Z (cutMk S.length (F (.loc S.length :: ds) (S++[.ins c []])))):∀ x dx,W.H x=none→W.H dx=none→dx≠x→spF cl F (.ref x :: vs) (upd (upd W.H dx (.own x)) x (.ins (cl c) dx [])) (fun v H2=>v=.non∧Q (.ref x) H2) (fun cls eo H'=>∃ x C,cls=.ref C∧eo=some x∧Z x C H'):=fun x dx hx hdx ne=>by
 obtain ⟨e0,w0⟩:=born (C:=cl c) w hx hdx ne;have w0:=w0 c rfl;have hn:((W.put dx (.own x)).new x (.ins (cl c) dx [])).μ[S.length]? = some x:=by show (W.μ++[x])[S.length]? = some x;rw [← w.len,Zg (Z1 _)];simp
 refine ⟨_,_,.loc S.length :: ds,rfl,w0,.cons (.loc hn) (r.mono e0),?_⟩;unfold cutMk at h;cases hf:F (.loc S.length :: ds) (S++[.ins c []]) with
 | ok u S1 =>
  rw [hf] at h;intro W1 v e1 w1 r1;cases u with
  | d y =>
   cases y with
   | non =>
    cases r1 with
    | d r1 =>
    cases r1;simp only at h;split at h
    ·next hc =>
     obtain ⟨E,w'⟩:=zSh w (e0.trans e1) w1 hc;split at h
     ·next d ed=>exact ⟨rfl,h (W1.cut S.length) (.ref x) E w' (.d (zNh w1 4 (RU.mono e1 (.loc hn)) ed))⟩
     ·exact h.elim
    ·exact h.elim
   | _=>exact h.elim
  | loc n=>exact h.elim
 | ex c S1 =>
  rw [hf] at h;intro W1 y e1 w1 hy;simp only at h;split at h
  ·next hc =>
   obtain ⟨E,w'⟩:=zSh w (e0.trans e1) w1 hc;exact ⟨y,_,rfl,rfl,h (W1.cut S.length) y E w' hy⟩
  ·exact h.elim
 | st=>rw [hf] at h;exact h.elim
theorem zGq {F:Fn}{k:Nat}{c x:Str}{f:Addr}{fd:FuncData}{ps:List Str}{e:Expr}{es:List Expr}{fa:FAr}{p:Pos}{dsv:List Value}{dvs:List V}{dd:List D} (M:Mk X.K (cl c) f) (G:FnOk X.prog X.w X.K X.mg X.base CX k f fd ps (spF cl F)) (hr:Room (k + 1) X.A) (hm:X.mg x=some (.ref (cl c))) (hb:Binds X.K fd ps dsv) (hd:Vals dvs dsv) (hdd:∀ W,RpAll cl W dvs dd) (hx:PasZ CX X Z) (ha:DA cl X Z (e :: es) fa) (hg:Gl X x:=by rfl) (hdb:(x == ("__debug__" : Str))=false:=by decide) (he:starEach (e :: es) X.env=(false,eval e X.env) :: starEach es X.env:=by rfl) (hpl:(backTo pos (starEach es X.env)).any (·.1)=false:=by rfl):DE cl X Z (.Call (.Name x p) (e :: es) [] pos) (dMkC c F dd fa):=by
 obtain ⟨ta,pa,ca⟩:=ha.ex;refine .of ⟨_,L2.zU3 M G hr hg hm hb hd hx pa hdb he hpl,fun W S σ ev Q w r h=>ca W S σ ev _ w r (PO.bind h fun ds S1 W1 vs e1 w1 r1 h1=>?_)⟩;split at h1
 ·next xs ep=>exact mk_of w1 ((r1.pure ep).append (hdd W1)) h1
 ·exact yEk w1 (r1.append (hdd W1).up) h1
end
end L2.F
namespace L2.F
open PySem PySem.Spec PyProof.Rows L2
def sPutL (fo fk fv:FE):FS:=fun ev S=>thenF (fv ev S) ev fun v S=>thenF (fo ev S) ev fun o S=>thenF (fk ev S) ev fun k S=>match o,k with
 | .loc n,.d (.int i)=>match celL S n with
  | some xs=>match ixN xs.length i with
   | some j=>.nx ev (S.set n (.lst (xs.set j v)))
   | none=>.st
  | none=>.st
 | _,_=>.st
section
variable {cl:Cl}{X:Cx}{Z:TZ}{pos:Pos}
theorem RUs.set {W:Wo}{v:V}{d:U} (rd:RU cl W v d):∀ {vs:List V}{ds:List U} (i:Nat),RUs cl W vs ds→RUs cl W (vs.set i v) (ds.set i d)
 | _,_,_,.nil=>.nil
 | _,_,0,.cons r t=>.cons rd t
 | _,_,i + 1,.cons r t=>.cons r (RUs.set rd i t)
theorem zVc {o k v:Expr}{fo fk fv:FE}{p':Pos} (ho:DE cl X Z o fo) (hk:DE cl X Z k fk) (hv:DE cl X Z v fv) (hs:swapsWithSole [.Subscript o k p'] v pos.line X.env=pure false:=by rfl) (hw:swappedStores [.Subscript o k p'] v X.env=pure none:=by rfl) (h1:(assignEach [.Subscript o k p'] X.env).map (·.2)=[assign (.Subscript o k p') X.env]:=by rfl)
 (ha:∀ v,assign (.Subscript o k p') X.env v=(do
  let ov ← holding [v] (eval o X.env)
  let iv ← holding [v,ov] (eval k X.env)
  standAt p'
  holding [v,ov,iv] (setItem ov iv v)
  release [v,ov,iv] []):=by intro _;rfl):DS cl X Z (.Assign [.Subscript o k p'] v pos) (sPutL fo fk fv):=by
 obtain ⟨to,po,co⟩:=ho.ex;obtain ⟨tk,pk,ck⟩:=hk.ex;obtain ⟨tv,pv,cv⟩:=hv.ex;refine .of ⟨_,L2.yD8 pv (L2.yDf po pk zW6 ha) hs hw h1,fun W S σ ev D w r h=>cv W S σ ev _ w r (PF.bind h r fun d S1 W1 v e1 w1 r1 h1=>co W1 S1 σ ev _ w1 (r.mono e1) (PF.bind h1 (r.mono e1) fun d2 S2 W2 v2 e2 w2 r2 h2=>ck W2 S2 σ ev _ w2 ((r.mono e1).mono e2) (PF.bind h2 ((r.mono e1).mono e2) fun d3 S3 W3 v3 e3 w3 r3 h3=>?_)))⟩;split at h3
 ·next n i =>
  split at h3
  ·next xs el =>
   split at h3
   ·next j hj =>
    obtain ⟨p,vs,rfl,hn,hg,g1,g2,g3⟩:=zKl w3 (r2.mono e3) el;rw [← g3.length] at hj;cases r3 with
    | d r3=>cases r3 with
     | int =>
      have g4:RUs cl W3 (vs.set j v) (xs.set j d):=RUs.set ((r1.mono e2).mono e3) j g3;have e4:Ext W3 (W3.put p (.lst (vs.set j v))):=Ext.put (Zh hn) hg (w3.ex (Zh hn));exact ⟨p,vs,i,j,rfl,rfl,g1,hj,h3 (W3.put p (.lst (vs.set j v))) σ e4 (w3.put hn hg ⟨hg,_,zAc,by rw [List.length_set];exact g2,g4.mono e4⟩) ((((r.mono e1).mono e2).mono e3).mono e4)⟩
   ·exact h3.elim
  ·exact h3.elim
 ·exact h3.elim
end
def dNo:FE:=fun _ _=>.st
theorem de_no {cl:Cl}{X:Cx}{Z:TZ}{e:Expr}:DE cl X Z e dNo:=⟨fun pins s σ H Q I ⟨W,S,ev,e,w,r,h⟩=>h.elim⟩
theorem vals1:Vals [V.non] [Value.none]:=.cons rfl .nil
inductive Tab (P:Program) (w:World) (K:PySem.W.Frag) (mg:Str→Option Value) (base:Heap) (CX:CXT) (cl:Cl) (k:Nat) (m:Str) (ps:List Str):List (Str×Fn)→Prop where
 | nil:Tab P w K mg base CX cl k m ps []
 | cons {c:Str}{F:Fn}{T:List (Str×Fn)}:(∃ f fd,Cls K (cl c)∧Meth K (cl c) m f∧FnOk P w K mg base CX k f fd ps (spF cl F)∧Binds K fd ps [])→Tab P w K mg base CX cl k m ps T→Tab P w K mg base CX cl k m ps ((c,F) :: T)
theorem Tab.at_ {P:Program}{w:World}{K:PySem.W.Frag}{mg:Str→Option Value}{base:Heap}{CX:CXT}{cl:Cl}{k:Nat}{m:Str}{ps:List Str}{c:Str}{F:Fn}:∀ {T:List (Str×Fn)},Tab P w K mg base CX cl k m ps T→T.lookup c=some F→Disp P w K mg base CX k m ps (spF cl F) (cl c)
 | _,.nil,h=>by cases h
 | _,.cons (c:=c') (F:=F') a t,h=>by
  rw [Zk] at h;split at h
  ·next e =>
   cases h;rw [eq_of_beq e];exact ⟨a⟩
  ·exact Tab.at_ t h
theorem zNy {c:Str}{F:Fn}:∀ {T:List (Str×Fn)},T.lookup c=some F→c∈T.map (·.1)
 | (a,b) :: r,h=>by
  rw [Zk] at h;split at h
  ·next e=>rw [eq_of_beq e];exact Zj
  ·exact Zb _ (zNy h)
theorem mtOk {P:Program}{w:World}{K:PySem.W.Frag}{mg:Str→Option Value}{base:Heap}{CX:CXT}{cl:Cl}{k:Nat}{m:Str}{ps L:List Str}{T:List (Str×Fn)} (inj:∀ c c',L.contains c=true→L.contains c'=true→cl c=cl c'→c=c') (t:Tab P w K mg base CX cl k m ps T) (h:(T.map (·.1)).all (fun c=>L.contains c)=true):MtOk P w K mg base CX cl k m ps T :=
 ⟨fun c F e=>t.at_ e,fun c c' F F' e e'=>inj c c' (List.all_eq_true.mp h c (zNy e)) (List.all_eq_true.mp h c' (zNy e'))⟩
structure FunC (K:PySem.W.Frag) (x qual:Str) (st:Stmt) (c:Addr) (f:Addr) (fd:FuncData):Prop where
 ex:∃ (oc:Value) (od:Option Addr) (dV kV doc pm:Value) (an:Option Addr) (ct:Value) (osl:Array (Option Value)),
  fd=PySem.W.fnOf x qual (defArgs st) (defBody st) (defScope st) dV kV doc pm an (.ref c) ct∧K.lookup f=some ⟨oc,od,.func fd,osl⟩∧PySem.W.codeIn K (.ref c) qual=true
theorem okFC {P:Program}{w:World}{K:PySem.W.Frag}{mg:Str→Option Value}{base:Heap}{cl:Cl}{x qual:Str}{st:Stmt}{c f:Addr}{fd:FuncData}{N ps:List Str}{k:Nat}{b:FS} (F:FunC K x qual st c f fd) (Sc:FnScope N ps (defScope st))
 (hb:∀ (A:Around) (outer:List Env) (s:Shared) (H:Hp) (E:XK),Room k (A.deeper (envOfC qual (defScope st) s.heap.objs.size f (.ref c)))→DSs cl (cxD P w K mg base N qual st f (.ref c) A outer s H E) (ZE E) (defBody st) b):FnOk P w K mg base (CXM P w) (k + 1) f fd ps (spF cl (fnD N.length ps.length b)):=by
 obtain ⟨oc,od,dV,kV,doc,pm,an,ct,osl,rfl,lk,hcd⟩:=F.ex;refine yF6 lk hcd Sc (fun vs H Q E ⟨W,S,ds,e,w,rs,h⟩=>?_) fun A outer s H vs Q E hr ⟨W,S,ds,e,w,rs,h⟩=>?_
 ·unfold fnD at h;split at h
  ·next hl=>rw [rs.length];exact hl
  ·exact h.elim
 ·subst e;refine ⟨_,(hb A outer s W.H E hr).pe,W,S,_,rfl,w,zSa rs,?_⟩;unfold fnD at h;split at h
  ·next hl =>
   rw [← hl] at h;cases hf:b (ds.map some++List.replicate (N.length - ds.length) none) S with
   | nx e S1=>rw [hf] at h;exact fun W2 σ2 e2 w2 r2=>h W2 .non e2 w2 (.d .non)
   | rt d S1=>rw [hf] at h;exact fun W2 v e2 w2 r2=>h W2 v e2 w2 r2
   | bk e S1=>rw [hf] at h;exact h.elim
   | ct e S1=>rw [hf] at h;exact h.elim
   | ex c e S1=>rw [hf] at h;exact fun W2 σ2 x e2 w2 r2 hx=>h W2 x e2 w2 hx
   | st=>rw [hf] at h;exact h.elim
  ·exact h.elim
end L2.F
namespace L2.F
open PySem PySem.Spec PyProof.Rows L2
def eqE (S:Sto) (eb:List (Key×U)):List (Key×U)→Option Bool
 | []=>some true
 | (k,u) :: r=>match valD eb k with
  | none=>some false
  | some y=>match toQ S u,toQ S y with
   | some p,some q=>if p.depth≤60∧q.depth≤60 then (eqE S eb r).map fun b=>PyData.eqv p q && b else none
   | _,_=>none
def eqK (neg:Bool) (a b:U) (S:Sto):Out U:=match dctOf S a,dctOf S b with
 | some ea,some eb=>if ea.length=eb.length then match eqE S eb ea with
  | some r=>.ok (.d (.bl (xor neg r))) S
  | none=>.st
  else .ok (.d (.bl (xor neg false))) S
 | _,_=>.st
section
variable {cl:Cl}{X:Cx}{pins:List (Addr×Obj)}{σ : St}{s:Shared}{W:Wo}
theorem zYw {S:Sto}{A:Around} (hu:A.in1.units + 64 < cLine) (I:Inv X pins σ W.H s) (w:WR cl W S) {eb:List (Key×U)}{kb:List (Key×V)}{vb:List (Key×Value)} (rb:RUK cl W kb eb) (vbk:KV kb vb):∀ {ea:List (Key×U)}{ka:List (Key×V)}{va:List (Key×Value)}{r:Bool},RUK cl W ka ea→KV ka va→eqE S eb ea=some r→PySem.W.KeqHits A.in1 s vb va r:=by
 intro ea ka va r ra
 induction ra generalizing va r with
 | nil =>
  intro v h;cases v;cases h;exact .nil
 | @cons k v d vs ds rd t ih =>
  intro kv h;unfold KV at kv;cases kv with
  | @cons p q _ qs hq hk =>
   obtain ⟨q1,q2⟩:=q;have e:k=q1:=hq.1;subst e;unfold eqE at h;have val:=rb.val (k:=k);split at h
   ·next en =>
    cases h;rw [en] at val;have:=vbk.val k;rw [show valV kb k=none from val] at this;exact .miss (RelO.none_of this)
   ·next y ey =>
    rw [ey] at val;obtain ⟨v',e1,ry⟩:=val;split at h
    ·next p q ep eq =>
     split at h
     ·next c =>
      obtain ⟨b,hb,rfl⟩:=Option.map_eq_some_iff.mp h;obtain ⟨w',hw,rw'⟩:=RelO.some_of (v:=v') (o:=valueAt vb k) (by rw [← e1];exact vbk.val k);obtain ⟨⟨as,r1⟩,l1⟩:=readsQ I w rd ep hq.2;obtain ⟨⟨bs,r2⟩,l2⟩:=readsQ I w ry eq rw';exact .hit hw (PySem.W.keq_at r1 r2 (shp l1 c.1) (shp l2 c.2) hu) (ih hk hb)
     ·cases h
    ·cases h
def rK (cl:Cl) (neg:Bool):L2.R2:=fun x y H Q=>∃ W S a b ea eb,W.H=H∧WR cl W S∧RU cl W x a∧RU cl W y b∧dctOf S a=some ea∧dctOf S b=some eb∧((ea.length=eb.length∧∃ r,eqE S eb ea=some r∧Q (.bl (xor neg r)) H)∨(ea.length≠eb.length∧Q (.bl (xor neg false)) H))
theorem RUK.len {κ : Type}{vs:List (κ×V)}{es:List (κ×U)} (h:RUK cl W vs es):vs.length=es.length:=h.length
theorem yE4 (hu:X.A.in1.units + 64 < cLine):OpR X (compareOp .Eq) (rK cl false):=by
 intro pins s σ H x y u v Q I rx ry h;obtain ⟨W,S,a,b,ea,eb,rfl,w,ra,rb,e1,e2,h⟩:=h;obtain ⟨pa,ka,rfl,ga,_,qa⟩:=zEp w ra e1;obtain ⟨pb,kb,rfl,gb,_,qb⟩:=zEp w rb e2;cases (show u=Value.ref pa from rx);cases (show v=Value.ref pb from ry);obtain ⟨_,sa,va,va',da⟩:=zG5 I.hok ga;obtain ⟨_,sb,vb,vb',db⟩:=zG5 I.hok gb;have hu0:X.A.units < cLine:=by have:X.A.units + 1 + 64 < cLine:=hu;omega
 rcases h with ⟨hl,r,er,q⟩ | ⟨hl,q⟩
 ·refine PySem.W.keq_eq (r:=r) sa sb da db hu0 (fun _=>zYw hu I w qb vb' qa va' er) ⟨.bl r,_,I,?_,by simpa using q⟩;show _=_;rw [← va'.len,← vb'.len,qa.len,qb.len,hl];simp
 ·refine PySem.W.keq_eq (r:=true) sa sb da db hu0 (fun e=>absurd (by rw [← qa.len,← qb.len,va'.len,vb'.len];exact e) hl) ⟨.bl false,_,I,?_,by simpa using q⟩;show _=_;rw [← va'.len,← vb'.len,qa.len,qb.len];simp [hl]
theorem yDx (hu:X.A.in1.units + 64 < cLine):OpR X (compareOp .NotEq) (rK cl true):=by
 intro pins s σ H x y u v Q I rx ry h;obtain ⟨W,S,a,b,ea,eb,rfl,w,ra,rb,e1,e2,h⟩:=h;obtain ⟨pa,ka,rfl,ga,_,qa⟩:=zEp w ra e1;obtain ⟨pb,kb,rfl,gb,_,qb⟩:=zEp w rb e2;cases (show u=Value.ref pa from rx);cases (show v=Value.ref pb from ry);obtain ⟨_,sa,va,va',da⟩:=zG5 I.hok ga;obtain ⟨_,sb,vb,vb',db⟩:=zG5 I.hok gb;have hu0:X.A.units < cLine:=by have:X.A.units + 1 + 64 < cLine:=hu;omega
 rcases h with ⟨hl,r,er,q⟩ | ⟨hl,q⟩
 ·refine PySem.W.keq_ne (r:=r) sa sb da db hu0 (fun _=>zYw hu I w qb vb' qa va' er) ⟨.bl (!r),_,I,?_,by simpa using q⟩;show _=_;rw [← va'.len,← vb'.len,qa.len,qb.len,hl];simp
 ·refine PySem.W.keq_ne (r:=true) sa sb da db hu0 (fun e=>absurd (by rw [← qa.len,← qb.len,va'.len,vb'.len];exact e) hl) ⟨.bl true,_,I,?_,by simpa using q⟩;show _=_;rw [← va'.len,← vb'.len,qa.len,qb.len];simp [hl]
theorem zZ7 {neg:Bool}{S:Sto}{x y:V}{a b:U}{Q:VK}{Z:Addr→Addr→Hp→Prop} (w:WR cl W S) (ra:RU cl W x a) (rb:RU cl W y b) (h:PO cl (RU cl) W Q Z (eqK neg a b S)):rK cl neg x y W.H Q:=by
 unfold eqK at h;split at h
 ·next ea eb e1 e2 =>
  refine ⟨W,S,a,b,ea,eb,rfl,w,ra,rb,e1,e2,?_⟩;split at h
  ·next hl =>
   split at h
   ·next r er=>exact .inl ⟨hl,r,er,h.now w (.d (.bl _))⟩
   ·exact h.elim
  ·next hl=>exact .inr ⟨hl,h.now w (.d (.bl _))⟩
 ·exact h.elim
theorem yAr (hu:X.A.in1.units + 64 < cLine):OpD cl X (compareOp .Eq) (eqK false):=⟨_,yE4 hu,fun W S x y a b Q Z w ra rb h=>zZ7 w ra rb h⟩
theorem yAl (hu:X.A.in1.units + 64 < cLine):OpD cl X (compareOp .NotEq) (eqK true):=⟨_,yDx hu,fun W S x y a b Q Z w ra rb h=>zZ7 w ra rb h⟩
def eqA:=fun a b S=>(eqD a b S).or (eqK false a b S)
def neA:=fun a b S=>(neD a b S).or (eqK true a b S)
theorem zCi (hu:X.A.in1.units + 64 < cLine):OpD cl X (compareOp .Eq) eqA:=.or (yDr (by have:X.A.units + 1 + 64 < cLine:=hu;omega)) (yAr hu)
theorem zBr (hu:X.A.in1.units + 64 < cLine):OpD cl X (compareOp .NotEq) neA:=.or (yDq (by have:X.A.units + 1 + 64 < cLine:=hu;omega)) (yAl hu)
end
end L2.F
namespace L2.F
open PySem PySem.Spec PyProof.Rows L2
def noL (K:PySem.W.Frag):Bool:=K.all fun e=>match e.2.cls with
 | .type n=>n != "list"
 | _=>true
theorem yEb {K:PySem.W.Frag} (h:noL K=true) {a:Addr}{o:Obj} (e:K.lookup a=some o):o.cls≠.type "list":=fun z=>by
 have m:∀ {K:List (Addr×Obj)},K.lookup a=some o→∃ b,(b,o)∈K:=by
  intro K
  induction K with
  | nil=>intro e;cases e
  | cons x r ih =>
   intro e;obtain ⟨b,u⟩:=x;rw [Zk] at e;split at e
   ·cases e;exact ⟨b,Zj⟩
   ·obtain ⟨b',h'⟩:=ih e;exact ⟨b',Zb _ h'⟩
 obtain ⟨b,hb⟩:=m e;have:=List.all_eq_true.mp h _ hb;rw [z] at this;exact absurd this (by decide)
theorem zS5 {cl:Cl}{W:Wo}:∀ ns:List Int,RpAll cl W (ns.map V.int) (ns.map D.int)
 | []=>.nil
 | n :: r=>.cons (.int n) (zS5 r)
def spLaw (K:PySem.W.Frag) (ts:List Addr):Sp:=fun vs H Q _=>∃ (a:Addr) (ns:List Int),vs=[.ref a]∧SqL K H a (ns.map V.int)∧ns.length≤63∧OnlyTs ts H∧∀ H',Q (.bl true) H'
theorem enterF {K:PySem.W.Frag}{cl:Cl}{F:Fn}{ts:List Addr} (hn:noL K=true) (ht:∀ t∈cl.tabs,t.1∈ts) (hF:∀ ns:List Int,ns.length≤63→∃ S',F [.d (.frl (ns.map .int))] []=.ok (.d (.bl true)) S'):∀ vs H Q E,spLaw K ts vs H Q E→spF cl F vs H Q fun _ _ _=>False:=fun vs H Q E ⟨a,ns,e,hs,hl,hO,q⟩=>by
 subst e;have aT:∀ {o xs},H a=some (.frz o (.lst xs))→a∉ts:=fun {o xs} e h=>by rw [hO.1 a h] at e;cases e
 obtain ⟨o,ha⟩:∃ o,H a=some (.frz o (.lst (ns.map V.int))):=by
  rcases hs with (z | ⟨o,z⟩) | ⟨o,its,n,hk,hc,_⟩
  ·by_cases h:a∈ts
   ·rw [hO.1 a h] at z;cases z
   ·rcases hO.2 a h with y | ⟨o,xs,y⟩ <;> rw [z] at y <;> cases y
  ·exact ⟨o,z⟩
  ·exact absurd hc (yEb hn hk)
 obtain ⟨S',hF⟩:=hF ns hl;refine ⟨⟨fun b=>b=a,[],H⟩,[],[.d (.frl (ns.map .int))],rfl,⟨rfl,List.nodup_nil,fun b g=>⟨.frz o (.lst (ns.map V.int)),(by have g:b=a:=g;subst g;exact ha),rfl⟩,fun n c b h=>by simp at h,fun t h=>.inl (hO.1 _ (ht t h))⟩,.cons (.d (.frl rfl ha (by rw [Z2];exact Z3 hl (by decide)) (zS5 ns))) .nil,?_⟩;rw [hF];intro W' v e w r;cases r with
 | d r=>cases r;exact q _
structure LawOk (l:PySem.W.OpenLaw) (w:World) (K:PySem.W.Frag) (mg:Str→Option Value) (ts:List Addr) (k:Nat) (fa:Addr):Prop where
 ex:∃ fd:FuncData,(∀ (s:Shared) (v:Value),BindsTo s fd ⟨[v],[]⟩ [("_law_script",v)])∧(∀ T∈ts,K.lookup T=none∧∃ c,PySem.W.codeHdIn K c T=true)∧∀ base:Heap,K.In base→base.Ns mainGlobals mg→BltAt mg base→FnOk l.prog w K mg base CX0 k fa fd ["_law_script"] (spLaw K ts)
theorem walk {l:PySem.W.OpenLaw}{q:Program}{loose:List Str}{XP:(Str→Option Value)→Heap→Prop}{YP:World→Heap→Prop}{d:DefRec}{K:Params→PySem.W.Frag}{ts:List Addr}{k:Nat} (hn:l.most=some 63) (hdf:d.params.defaults=[])
 (hY:∀ (w:World) (h:Heap),YP w h→(K w.params).In h∧∀ T∈ts,h.get? T=some (PySem.W.tabObj #[])) (hr:Room k callerA)
 (F:∀ (w:World) (mg:Str→Option Value) (fa:Addr) (h:Heap),(K w.params).In h→h.Ns mainGlobals mg→mg d.name=some (.ref fa)→LawOk l w (K w.params) mg ts k fa) :
 PySem.W.WalkO q loose XP YP l.row.toRowW d [] (fun f vs=>PySem.call f vs):=by
 refine Att.attach_call hn hdf fun w s₀ s₁ mg mb fa o pm cd doc a vs ns G Y ho hd hcd hmg hobj hints hlen hg=>?_;obtain ⟨KX,hT⟩:=hY w _ Y;obtain ⟨fd,hb,hall,hF⟩:=(F w mg fa _ KX G.T.g hmg).ex;exact zT5 KX G.T.g G.T.b G.T.builtins G.T.nolimit hg (yFu G.T) hT (fun T h=>(hall T h).1) (fun T h=>(hall T h).2) hobj hints (Z3 hlen (by decide)) hr hF hb (fun H hO hS=>⟨a,ns,rfl,hS,hlen,hO,fun _=>rfl⟩) fun _ _ _ z=>z
def ckF (K:PySem.W.Frag) (C:Addr) (nos:List Str):Bool:=PySem.W.plainGet K C Str.empty && (PySem.W.hasDictIn K C && (PySem.W.plainOver K C && (decide (PySem.W.findIn K (.ref C) "__setattr__" = some (some (.builtin "object.__setattr__"))) && (decide (PySem.W.findIn K (.ref C) "__class__" = some (some (.builtin "object.__class__"))) && (decide (PySem.W.mroIn K C (.type "object")=some true) && (PySem.W.makesIn K C && (PySem.W.keepIn K (.ref C) && nos.all fun n=>decide (PySem.W.findIn K (.ref C) n=some none))))))))
structure CkF (K:PySem.W.Frag) (C:Addr) (nos:List Str):Prop where
 cl:Cls K C
 ha:PySem.W.findIn K (.ref C) "__class__" = some (some (.builtin "object.__class__"))
 hm:PySem.W.mroIn K C (.type "object")=some true
 ms:PySem.W.makesIn K C=true
 kp:PySem.W.keepIn K (.ref C)=true
 no:∀ n∈nos,NoAttr K C n
theorem zZe {K:PySem.W.Frag}{C:Addr}{nos:List Str} (z:ckF K C nos=true):CkF K C nos:=by
 unfold ckF at z;simp only [Zc,decide_eq_true_eq,Zy] at z;obtain ⟨h1,h2,h3,h4,h5,h6,h9,h10,h11⟩:=z;exact ⟨⟨h1,h2,h3,h4⟩,h5,h6,h9,h10,h11⟩
def allF (K:PySem.W.Frag) (cl:Cl) (ct:CTb):Bool:=ct.all fun e=>ckF K (cl e.1) e.2
theorem zGg {β : Type}{c:Str}{b : β}:∀ {T:List (Str×β)},T.lookup c=some b→(c,b)∈T
 | (x,y) :: r,h=>by
  rw [Zk] at h;split at h
  ·next e=>cases h;rw [eq_of_beq e];exact Zj
  ·exact Zb _ (zGg h)
theorem zB2 {K:PySem.W.Frag}{cl:Cl}{ct:CTb} (h:allF K cl ct=true) {c:Str}{fs:List Str} (e:ct.lookup c=some fs):CkF K (cl c) fs:=zZe (List.all_eq_true.mp h _ (zGg e))
theorem tb_of {K:PySem.W.Frag}{cl:Cl}{ct:CTb} (h:allF K cl ct=true):TbOk K cl ct:=⟨fun c f hf=>by
 unfold hasF at hf;split at hf
 ·next fs e =>
  have k:=zB2 h e;exact ⟨k.cl,k.no f (by simpa using hf)⟩
 ·cases hf⟩
def tyL:List String:=["NoneType", "bool", "int", "str", "list", "tuple", "dict"]
def ktB (K:PySem.W.Frag) (cl:Cl) (is cs:List Str) (kt:List (Str×Str)):Bool :=
 is.all (fun c=>cs.all fun c'=>decide (PySem.W.kitOne K (.ref (cl c)) (.ref (cl c'))=some (kt.contains (c,c')))) &&
 (tyL.all (fun t=>cs.all fun c'=>decide (PySem.W.kitOne K (.type t) (.ref (cl c'))=some false)) &&
 is.all (fun c=>tyL.tail.all fun t=>decide (PySem.W.kitOne K (.ref (cl c)) (.type t)=some false)))
theorem kt_of {K:PySem.W.Frag}{cl:Cl}{ct:CTb}{is cs:List Str}{kt:List (Str×Str)} (h:allF K cl ct=true) (hi:is=ct.map (·.1)) (hn:PySem.W.specialIn K (.builtin "object.__class__") "__get__" = some (some (.builtin "getset_descriptor.__get__"))) (htk:PySem.W.takesIn K (.builtin "object.__class__")=some true) (hk:ktB K cl is cs kt=true):KtOk K cl is cs kt:=by
 unfold ktB at hk;simp only [Zc,decide_eq_true_eq,Zy] at hk;obtain ⟨h1,h2,h3⟩:=hk;refine ⟨fun c hc=>?_,fun c c' hc hc'=>h1 c (by simpa using hc) c' (by simpa using hc'),fun t c' ht hc'=>h2 t ht c' (by simpa using hc'),fun c t hc ht=>h3 c (by simpa using hc) t ht⟩;have hc:c∈is:=by simpa using hc
 rw [hi] at hc;obtain ⟨e,he,rfl⟩:=List.mem_map.mp hc;have k:=zZe (List.all_eq_true.mp h e he);exact ⟨k.cl,k.ha,hn,htk,k.hm⟩
def exB (K:PySem.W.Frag) (cl:Cl) (xs:List Str):Bool:=xs.all fun c=>PySem.W.excIn K (cl c) [.type "ValueError",.type "Exception",.type "BaseException",.type "object"] "ValueError.__new__" && decide (PySem.W.nsIn K mainGlobals c=some (some (.ref (cl c))))
theorem ex_of {K:PySem.W.Frag}{cl:Cl}{h:Heap}{mg:Str→Option Value}{xs:List Str} (X:K.In h) (G:h.Ns mainGlobals mg) (e:exB K cl xs=true):ExOk K mg cl xs:=⟨fun c hc=>by
 have:=List.all_eq_true.mp e c (by simpa using hc);rw [Zc,decide_eq_true_eq] at this
 exact ⟨this.1,PySem.W.mg_of X G this.2⟩⟩
def hdB (K:PySem.W.Frag) (cl:Cl) (hs:List (Str×Str)):Bool:=hs.all fun e=>decide (PySem.W.exmOne K (.ref (cl e.1)) (.ref (cl e.2))=some true)
theorem hd_of {K:PySem.W.Frag}{cl:Cl}{hs:List (Str×Str)} (e:hdB K cl hs=true):HdOk K cl hs:=⟨fun c h hc=>by
 have:=List.all_eq_true.mp e (c,h) (by simpa using hc)
 exact of_decide_eq_true this⟩
def injB (cl:Cl) (L:List Str):Bool:=L.all fun c=>L.all fun c'=>decide (cl c=cl c'→c=c')
theorem yF1 {cl:Cl}{L:List Str} (h:injB cl L=true):∀ c c',L.contains c=true→L.contains c'=true→cl c=cl c'→c=c':=fun c c' hc hc'=>of_decide_eq_true (List.all_eq_true.mp (List.all_eq_true.mp h c (by simpa using hc)) c' (by simpa using hc'))
def blB (K:PySem.W.Frag) (xs:List Str):Bool:=xs.all fun x=>decide (PySem.W.nsIn K mainGlobals x=some none)
theorem zHx {K:PySem.W.Frag}{h:Heap}{mg:Str→Option Value}{xs:List Str} (X:K.In h) (G:h.Ns mainGlobals mg) (e:blB K xs=true) {x:Str} (hx:x∈xs):mg x=none:=PySem.W.mg_none_of X G (of_decide_eq_true (List.all_eq_true.mp e x hx))
theorem funG {K:PySem.W.Frag}{x q:Str}{st:Stmt}{f:Addr}{fd:FuncData} (F:Fun K x q st f fd):FunG K x q st f fd:=by
 obtain ⟨oc,od,kV,doc,pm,an,cdv,ct,osl,h⟩:=F.ex;exact ⟨⟨oc,od,.none,kV,doc,pm,an,cdv,ct,osl,h⟩,F.kp⟩
structure DL (K:PySem.W.Frag) (x:Str) (st:Stmt) (f:Addr) (fd:FuncData):Prop where
 a:PySem.W.nsIn K mainGlobals x=some (some (.ref f))
 F:Fun K x x st f fd
structure ML (K:PySem.W.Frag) (C:Addr) (x q:Str) (st:Stmt) (f:Addr) (fd:FuncData):Prop where
 a:PySem.W.findIn K (.ref C) x=some (some (.ref f))
 i:PySem.W.isFn K (.ref f)=true
 F:Fun K x q st f fd
theorem mkG {K:PySem.W.Frag}{h:Heap}{mg:Str→Option Value}{x:Str}{st:Stmt}{f:Addr}{fd:FuncData}{ps:List Str} (X:K.In h) (G:h.Ns mainGlobals mg) (D:DL K x st f fd) (hb:∀ (kV doc pm:Value) (an:Option Addr) (cdv ct:Value) (us:List Value),us.length=ps.length→bindArgs (PySem.W.fnOf x x (defArgs st) (defBody st) (defScope st) .none kV doc pm an cdv ct) ⟨us,[]⟩=pure (ps.zip us)):DefG K mg x st ps f fd:=⟨funG D.F,PySem.W.mg_of X G D.a,D.F.binds hb⟩
theorem zBf {K:PySem.W.Frag}{x:Str}{st:Stmt}{f:Addr}{oc:Value}{od an:Option Addr}{osl:Array (Option Value)}{kV doc pm cdv ct:Value} (a:PySem.W.nsIn K mainGlobals x=some (some (.ref f))) (l:K.lookup f=some ⟨oc,od,.func (PySem.W.fnOf x x (defArgs st) (defBody st) (defScope st) .none kV doc pm an cdv ct),osl⟩)
 (c:PySem.W.codeIn K cdv x=true) (k:PySem.W.keepIn K (.ref f)=true):DL K x st f (PySem.W.fnOf x x (defArgs st) (defBody st) (defScope st) .none kV doc pm an cdv ct):=⟨a,zZ3 l c k⟩
theorem zCp {K:PySem.W.Frag}{C:Addr}{x q:Str}{st:Stmt}{f:Addr}{oc:Value}{od an:Option Addr}{osl:Array (Option Value)}{kV doc pm cdv ct:Value} (a:PySem.W.findIn K (.ref C) x=some (some (.ref f))) (i:PySem.W.isFn K (.ref f)=true) (l:K.lookup f=some ⟨oc,od,.func (PySem.W.fnOf x q (defArgs st) (defBody st) (defScope st) .none kV doc pm an cdv ct),osl⟩)
 (c:PySem.W.codeIn K cdv q=true) (k:PySem.W.keepIn K (.ref f)=true):ML K C x q st f (PySem.W.fnOf x q (defArgs st) (defBody st) (defScope st) .none kV doc pm an cdv ct):=⟨a,i,zZ3 l c k⟩
structure MD (K:PySem.W.Frag) (C:Addr) (x q:Str) (st:Stmt) (ps:List Str) (f:Addr) (fd:FuncData):Prop where
 a:PySem.W.findIn K (.ref C) x=some (some (.ref f))
 i:PySem.W.isFn K (.ref f)=true
 F:FunG K x q st f fd
 b:Binds K fd ps []
 d:Binds K fd ps [.none]
theorem yEl {K:PySem.W.Frag}{C TD:Addr}{x q:Str}{st:Stmt}{ps:List Str}{f:Addr}{oc ocT:Value}{od an odT:Option Addr}{osl slT:Array (Option Value)}{nT:Nat}{kV doc pm cdv ct:Value}
 (hb:∀ (kV doc pm:Value) (an:Option Addr) (cdv ct:Value) (s:Shared) (us:List Value),K.In s.heap→K.lookup TD=some ⟨ocT,odT,.seq #[.none] nT,slT⟩→us.length=ps.length→BindsTo s (PySem.W.fnOf x q (defArgs st) (defBody st) (defScope st) (.ref TD) kV doc pm an cdv ct) ⟨us,[]⟩ (ps.zip us))
 (hd:∀ (kV doc pm:Value) (an:Option Addr) (cdv ct:Value) (s:Shared) (us:List Value),K.In s.heap→K.lookup TD=some ⟨ocT,odT,.seq #[.none] nT,slT⟩→us.length + 1=ps.length→BindsTo s (PySem.W.fnOf x q (defArgs st) (defBody st) (defScope st) (.ref TD) kV doc pm an cdv ct) ⟨us,[]⟩ (ps.zip (us++[.none])))
 (a:PySem.W.findIn K (.ref C) x=some (some (.ref f))) (i:PySem.W.isFn K (.ref f)=true) (l:K.lookup f=some ⟨oc,od,.func (PySem.W.fnOf x q (defArgs st) (defBody st) (defScope st) (.ref TD) kV doc pm an cdv ct),osl⟩)
 (c:PySem.W.codeIn K cdv q=true) (k:PySem.W.keepIn K (.ref f)=true) (t:K.lookup TD=some ⟨ocT,odT,.seq #[.none] nT,slT⟩):MD K C x q st ps f (PySem.W.fnOf x q (defArgs st) (defBody st) (defScope st) (.ref TD) kV doc pm an cdv ct) :=
 ⟨a,i,⟨⟨oc,od,.ref TD,kV,doc,pm,an,cdv,ct,osl,rfl,l,c⟩,k⟩,fun s us hK hl=>by
  rw [List.append_nil] at hl ⊢
  exact hb _ _ _ _ _ _ s us hK t hl,fun s us hK hl=>hd _ _ _ _ _ _ s us hK t (by simpa using hl)⟩
end L2.F
namespace L2.F
open PySem PySem.Spec PyProof.Rows L2
structure MB (cl:Cl) (X:Cx) (T id:String) (name:Str) (chk:U→Sto→Bool) (g:U→List U→Sto→Out U):Prop where
 pa:PlainAttrs T
 sl:Slot T name id
 ty:typeOf (.builtin id)=pure (.type "method_descriptor")
 m:MtD cl X T id chk g
section
variable {cl:Cl}{X:Cx}{Z:TZ}{a b c o:Expr}{fa fb fc fo:FE}{pos:Pos}
theorem de_m {T id:String}{name:Str}{e:Expr}{es:List Expr}{apos:Pos}{chk:U→Sto→Bool}{g:U→List U→Sto→Out U}{f:FAr} (B:MB cl X T id name chk g) (ho:DE cl X Z o fo) (ha:DA cl X Z (e :: es) f)
 (hbase:attributeBase o name X.env (eval o X.env)=eval o X.env:=by rfl)
 (hfew:((backTo pos (starEach (e :: es) X.env)).all (fun x=>!x.1) && (backToKw pos (keywordEach [] X.env)).all (fun x=>x.1.isSome)
  && decide ((e :: es).length + ([]:List Keyword).length + (if ([]:List Keyword).isEmpty then 0 else 1) < 30))=true:=by rfl)
 (hline:(apos.endLine == pos.line)=true:=by rfl) (hs:starEach (e :: es) X.env=(false,eval e X.env) :: starEach es X.env:=by rfl) (hplain:(backTo pos (starEach es X.env)).any (·.1)=false:=by rfl):DE cl X Z (.Call (.Attribute o name apos) (e :: es) [] pos) (dMt chk g fo f):=de_mt B.pa B.sl B.ty B.m ho ha hbase hfew hline hs hplain
theorem zY4:MB cl X "list" "list.append" "append" isL appD:=⟨PySem.F.plainAttrs_list,PySem.F.slot_list_append,PySem.F.type_list_append,yEh⟩
theorem zSo:MB cl X "list" "list.extend" "extend" isL extD:=⟨PySem.F.plainAttrs_list,PySem.F.slot_list_extend,PySem.F.type_list_extend,yEg⟩
theorem yBz:MB cl X "list" "list.index" "index" isL indexD:=⟨PySem.F.plainAttrs_list,PySem.F.slot_list_index,PySem.F.type_list_index,zUj⟩
theorem zSn:MB cl X "str" "str.join" "join" isS joinD:=⟨PySem.F.plainAttrs_str,PySem.F.slot_str_join,PySem.F.type_str_join,zX1⟩
theorem zOg:MB cl X "str" "str.split" "split" isS splitD:=⟨PySem.F.plainAttrs_str,PySem.F.slot_str_split,PySem.F.type_str_split,zUf⟩
theorem zVx:MB cl X "str" "str.count" "count" isS countD:=⟨PySem.F.plainAttrs_str,PySem.F.slot_str_count,PySem.F.type_str_count,zUl⟩
theorem zGs:MB cl X "str" "str.startswith" "startswith" isS startD:=⟨PySem.F.plainAttrs_str,PySem.F.slot_str_startswith,PySem.F.type_str_startswith,zUe⟩
end
theorem rm {j n:Nat}{A:Around} (h:Room n A) (hj:j≤n:=by decide):Room j A:=h.mono hj
def scB (N P:List Str) (sc:Scope):Bool:=decide N.Nodup && (decide (N.take P.length=P) && ((P.all fun x=>match sc.names.lookup x with | some .local=>true | some .cell=>true | _=>false) && sc.names.all fun y=>match y.2 with | .free=>false | _=>true))
theorem fsc {N P:List Str}{sc:Scope} (k:sc.kind=.function:=by rfl) (c:sc.isCoroutine=false:=by rfl) (g:sc.isGenerator=false:=by rfl) (h:scB N P sc=true:=by decide +kernel):FnScope N P sc:=by
 unfold scB at h;rw [Zc,Zc,Zc,decide_eq_true_eq,decide_eq_true_eq,Zy,Zy] at h;refine ⟨k,c,g,h.1,h.2.1,fun x hx=>?_,fun y hy e=>?_⟩
 ·have z:=h.2.2.1 x hx;split at z
  ·next q=>exact .inl q
  ·next q=>exact .inr q
  ·cases z
 ·have z:=h.2.2.2 y hy;rw [e] at z;cases z
theorem zKc {α β : Type} [BEq α] [LawfulBEq α] {n : α}{a : β}:∀ {l:List (α×β)},(n,a)∈l→(l.lookup n).isSome=true
 | (k,b) :: l,h=>by
  rw [Zk];cases e:(n == k) with
  | true=>rfl
  | false =>
   rcases List.mem_cons.mp h with z | z
   ·cases z;simp at e
   ·exact zKc z
theorem fmc {α β : Type}{f g : α→Option β}:∀ {l:List α},(∀ x∈l,f x=g x)→l.filterMap f=l.filterMap g
 | [],_=>rfl
 | a :: l,h=>by
  rw [Zn,Zn,h a Zj,fmc fun x hx=>h x (Zb _ hx)]
theorem yF7:∀ (ps:List Str) (us:List Value),ps.Nodup→us.length=ps.length→ps.filterMap (fun n=>((ps.zip us).lookup n).map (n,·))=ps.zip us:=by
 intro ps
 induction ps with
 | nil=>intro us _ _;rfl
 | cons p r ih =>
  intro us nd hl;cases us with
  | nil=>cases hl
  | cons u us =>
   have nd':=List.nodup_cons.mp nd;rw [Zn];have e0:((p :: r).zip (u :: us)).lookup p=some u:=by
    rw [List.zip_cons_cons,Zk];simp
   rw [e0];dsimp only [Option.map];rw [List.zip_cons_cons]
   congr 1
   refine Eq.trans (fmc fun n hn=>?_) (ih us nd'.2 (by simpa using hl));rw [Zk];have:(n == p)=false:=by simpa using (fun z=>nd'.1 (by rw [← z];exact hn):n≠p)
   rw [this];cases (List.lookup n (r.zip us)) <;> rfl
theorem zXa {ps:List Str}{us:List Value} (hl:us.length=ps.length):∀ n∈ps,((ps.zip us).lookup n).isSome=true:=by
 intro n hn;obtain ⟨i,hi⟩:=List.mem_iff_getElem?.mp hn;have:i < us.length:=by rw [hl];exact (List.getElem?_eq_some_iff.mp hi).1
 exact zKc (a:=us[i]) (List.mem_iff_getElem?.mpr ⟨i,by rw [List.getElem?_zip_eq_some];exact ⟨hi,Z7 this⟩⟩)
theorem zX5 {ps:List Str}{us:List Value} (hl:us.length=ps.length):(ps.filter fun n=>((ps.zip us).lookup n).isNone)=[]:=by
 rw [List.filter_eq_nil_iff];intro n hn;have:=zXa hl n hn;cases e:(ps.zip us).lookup n with
 | none=>rw [e] at this;cases this
 | some v=>simp
def plainPs (p:Arguments):Bool:=p.posonlyargs.isEmpty && p.vararg.isNone && p.kwonlyargs.isEmpty && p.kwarg.isNone
theorem zTd {fd:FuncData}{ps:List Str} (hp:plainPs fd.params=true) (h2:fd.params.args.map (·.arg)=ps) (h6:fd.defaults=.none) (nd:ps.Nodup) (us:List Value) (hl:us.length=ps.length):bindArgs fd ⟨us,[]⟩=pure (ps.zip us):=by
 unfold plainPs at hp;simp only [Zc,List.isEmpty_iff,Option.isNone_iff_eq_none] at hp;obtain ⟨⟨⟨h1,h3⟩,h4⟩,h5⟩:=hp;have miss:=zX5 hl;unfold bindArgs;simp only [h1,h2,h3,h4,h5,h6,List.map_nil,List.nil_append,List.append_nil];have e1:seqItems? Value.none=pure none:=rfl;have e2:∀ {α β : Type} (a : α) (f : α→Sem β),((pure a:Sem α) >>= f)=f a:=fun _ _=>rfl;have hg:decide (us.length > ps.length)=false:=by rw [hl];simp
 simp only [e1,e2,List.forIn_nil,hg,Bool.false_and,Option.getD_none,List.length_nil,Nat.zero_sub,List.drop_nil,Nat.sub_zero,List.take_length,miss,List.isEmpty_nil,Bool.not_true,List.drop_length,List.zip_nil_right,Bool.false_eq_true,if_false,List.toList_toArray,List.length_nil];exact congrArg pure (yF7 ps us nd hl)
theorem bindP {x q:Str}{st:Stmt}{ps:List Str} (hp:plainPs (defArgs st)=true) (h2:(defArgs st).args.map (·.arg)=ps) (nd:ps.Nodup) (kV doc pm:Value) (an:Option Addr) (cdv ct:Value) (us:List Value) (hl:us.length=ps.length):bindArgs (PySem.W.fnOf x q (defArgs st) (defBody st) (defScope st) .none kV doc pm an cdv ct) ⟨us,[]⟩=pure (ps.zip us):=zTd hp h2 rfl nd us hl
theorem mkP {K:PySem.W.Frag}{h:Heap}{mg:Str→Option Value}{x:Str}{st:Stmt}{f:Addr}{fd:FuncData}{ps:List Str} (X:K.In h) (G:h.Ns mainGlobals mg) (D:DL K x st f fd) (hp:plainPs (defArgs st)=true:=by rfl) (h2:(defArgs st).args.map (·.arg)=ps:=by rfl) (nd:ps.Nodup:=by decide +kernel):DefG K mg x st ps f fd:=mkG X G D (bindP hp h2 nd)
theorem mbP {K:PySem.W.Frag}{C:Addr}{x q:Str}{st:Stmt}{f:Addr}{fd:FuncData}{ps:List Str} (D:ML K C x q st f fd) (hp:plainPs (defArgs st)=true:=by rfl) (h2:(defArgs st).args.map (·.arg)=ps:=by rfl) (nd:ps.Nodup:=by decide +kernel):Binds K fd ps []:=D.F.binds (bindP hp h2 nd)
end L2.F
namespace L2.F
open PySem L2
inductive Fx1 {α : Type} (a : α):Type where
 | mk
inductive Fx2 {α β : Type} (a : α) (b : β):Type where
 | mk
def bnd {α β : Type} (o:Out α) (k : α→Sto→Out β) (_:Fx1 k):Out β:=o.bind k
def thn {α : Type} (o:Out α) (ev:Ev) (k : α→Sto→Fl) (_:Fx2 ev k):Fl:=thenF o ev k
section
variable {α β : Type}{o o':Out α}{k : α→Sto→Out β}{kf : α→Sto→Fl}{a : α}{S S':Sto}{c:Str}{ev e:Ev}{d x y u:U}{fa fb fc fo:FE}{ga:FAr}{t t':FT}{f g:FS}{i n m:Nat}
@[simp ↓] theorem bind_to:o.bind k=bnd o k .mk:=rfl
@[simp ↓] theorem thenF_to:thenF o ev kf=thn o ev kf .mk:=rfl
theorem zOf:(Out.ok a S).bind k=k a S:=rfl
@[simp] theorem bnd_ok {t:Fx1 k}:bnd (.ok a S) k t=k a S:=rfl
@[simp] theorem bnd_ex {t:Fx1 k}:bnd (.ex c S:Out α) k t=.ex c S:=rfl
@[simp] theorem bnd_st {t:Fx1 k}:bnd (.st:Out α) k t=.st:=rfl
theorem thenF_ok:thenF (.ok a S) ev kf=kf a S:=rfl
@[simp] theorem thn_ok {t:Fx2 ev kf}:thn (.ok a S) ev kf t=kf a S:=rfl
@[simp] theorem thn_ex {t:Fx2 ev kf}:thn (.ex c S:Out α) ev kf t=.ex c ev S:=rfl
@[simp] theorem thn_st {t:Fx2 ev kf}:thn (.st:Out α) ev kf t=.st:=rfl
def seqF (o:Fl) (g:FS) (_:Fx1 g):Fl:=match o with
 | .nx e S=>g e S
 | o=>o
@[simp] theorem sSeq_ev:sSeq f g ev S=seqF (f ev S) g .mk:=rfl
@[simp] theorem seqF_nx {t:Fx1 g}:seqF (.nx e S) g t=g e S:=rfl
@[simp] theorem seqF_rt {t:Fx1 g}:seqF (.rt d S) g t=.rt d S:=rfl
@[simp] theorem seqF_ex {t:Fx1 g}:seqF (.ex c e S) g t=.ex c e S:=rfl
@[simp] theorem seqF_bk {t:Fx1 g}:seqF (.bk e S) g t=.bk e S:=rfl
@[simp] theorem seqF_ct {t:Fx1 g}:seqF (.ct e S) g t=.ct e S:=rfl
@[simp] theorem seqF_st {t:Fx1 g}:seqF .st g t=.st:=rfl
@[simp] theorem endF_nx:endF (.nx e S)=.ok (.d .non) S:=rfl
@[simp] theorem endF_rt:endF (.rt d S)=.ok d S:=rfl
@[simp] theorem endF_ex:endF (.ex c e S)=.ex c S:=rfl
@[simp] theorem dC_ev {z:D}:dC z ev S=.ok (.d z) S:=rfl
@[simp] theorem d1_ev {h:U→Sto→Out U}:d1 h fa ev S=(fa ev S).bind h:=rfl
@[simp] theorem d2_ev {h:U→U→Sto→Out U}:d2 h fa fb ev S=(fa ev S).bind fun x S=>(fb ev S).bind fun y S=>h x y S:=rfl
@[simp] theorem tB1_ev:tB1 fa ev S=(fa ev S).bind asB:=rfl
@[simp] theorem tTr_ev:tTr fa ev S=(fa ev S).bind truO:=rfl
@[simp] theorem asB_ev {b:Bool}:asB (.d (.bl b)) S=.ok b S:=rfl
@[simp] theorem tNot_ev:tNot' t ev S=(t ev S).bind fun b S=>.ok (!b) S:=rfl
def pick {α : Type} (b:Bool) (p q : α) (_:Fx2 p q) : α:=match b with
 | true=>p
 | false=>q
@[simp] theorem pick_t {α : Type}{p q : α}{t:Fx2 p q}:pick true p q t=p:=rfl
@[simp] theorem pick_f {α : Type}{p q : α}{t:Fx2 p q}:pick false p q t=q:=rfl
@[simp] theorem tAnd_ev:tAnd' t t' ev S=(t ev S).bind fun b S=>pick b (t' ev S) (.ok false S) .mk:=by
 rfl
@[simp] theorem tOr_ev:tOr' t t' ev S=(t ev S).bind fun b S=>pick b (.ok true S) (t' ev S) .mk:=by
 rfl
@[simp] theorem dNot_ev:dNot fa ev S=(fa ev S).bind fun d S=>(asB d S).bind fun b S=>.ok (.d (.bl (!b))) S:=rfl
@[simp] theorem dAnd_ev:dAnd fa fb ev S=(fa ev S).bind fun d S=>(asB d S).bind fun b S=>pick b (fb ev S) (.ok (.d (.bl false)) S) .mk:=by
 rfl
@[simp] theorem dOr_ev:dOr fa fb ev S=(fa ev S).bind fun d S=>(asB d S).bind fun b S=>pick b (.ok (.d (.bl true)) S) (fb ev S) .mk:=by
 rfl
@[simp] theorem dIf_ev:dIf t fa fb ev S=(t ev S).bind fun b S=>pick b (fa ev S) (fb ev S) .mk:=by
 rfl
@[simp] theorem yC2:aNil ev S=.ok [] S:=rfl
@[simp] theorem zY6:aCons fa ga ev S=(fa ev S).bind fun x S=>(ga ev S).bind fun xs S=>.ok (x :: xs) S:=rfl
@[simp] theorem dTup_ev:dTup ga ev S=(ga ev S).bind mkT:=rfl
@[simp] theorem dLst_ev:dLst ga ev S=(ga ev S).bind mkL:=rfl
@[simp] theorem yBr {h:List U→Sto→Out U}:dCal h ga ev S=(ga ev S).bind h:=rfl
@[simp] theorem dCl_ev {R:Run}{F:Fn}:dCl R F ga ev S=(ga ev S).bind fun ds S=>R F ds S:=rfl
@[simp] theorem dNew_ev:dNew ev S=.ok (.loc S.length) (S++[.dct []]):=rfl
@[simp] theorem dDct_ev:dDct ev S=.ok (.d (.dct [])) S:=rfl
@[simp] theorem sNx_ev:sNx ev S=.nx ev S:=rfl
@[simp] theorem sSet_ev:sSet i fa ev S=thenF (fa ev S) ev fun d S=>.nx (ev.set i (some d)) S:=rfl
@[simp] theorem sExp_ev:sExp fa ev S=thenF (fa ev S) ev fun _ S=>.nx ev S:=rfl
@[simp] theorem sRet_ev:sRet fa ev S=thenF (fa ev S) ev fun d S=>.rt d S:=rfl
@[simp] theorem sRtN_ev:sRtN ev S=.rt (.d .non) S:=rfl
@[simp] theorem sIf_ev:sIf t f g ev S=thenF (t ev S) ev fun b S=>pick b (f ev S) (g ev S) .mk:=by
 rfl
@[simp] theorem fnD_ev {ds:List U}:fnD n m f ds S=if ds.length=m then endF (f (ds.map some++List.replicate (n - m) none) S) else .st:=rfl
@[simp] theorem dV_ev (h:ev[i]? = some (some d)):dV i ev S=.ok d S:=by unfold dV;rw [h]
@[simp] theorem yD0:pureL []=some []:=rfl
@[simp] theorem yC6 {z:D}{us:List U}:pureL (.d z :: us)=(pureL us).map (z :: ·):=rfl
@[simp] theorem yD1 {us:List U}:pureL (.loc n :: us)=none:=rfl
@[simp] theorem pureL_up {zs:List D}:pureL (zs.map .d)=some zs:=zD9 zs
@[simp] theorem yD2 {es:List (Key×D)}:pureK (upK es)=some es:=zRm es
@[simp] theorem zKp {γ : Type}{p q:Str}{b : γ}{r:List (Str×γ)}:List.lookup p ((q,b) :: r)=if p=q then some b else List.lookup p r:=by
 rw [Zk];by_cases h:p=q
 ·subst h;simp
 ·rw [if_neg h];have:(p == q)=false:=by simpa using h
  rw [this]
theorem yCe {κ : Type} (n:Nat) (es:List (κ×D)):((upK es).all fun e=>clU n e.2)=true:=by
 unfold upK;rw [List.all_map];exact List.all_eq_true.mpr fun x _=>rfl
@[simp] theorem clC_up {n:Nat}{es:List (Key×D)}:clC n (.dct (upK es))=true:=yCe n es
theorem zW5 {κ : Type}{f:U→Option D} (hf:∀ x,f (.d x)=some x):∀ es:List (κ×D),snapK f (upK es)=some es
 | []=>rfl
 | (k,x) :: r=>by
  have:upK ((k,x) :: r)=(k,.d x) :: upK r:=rfl;rw [this,snapK,hf,zW5 hf r]
@[simp] theorem snapB_d {n0 n:Nat}{x:D}:snapB n0 n S (.d x)=some x:=by cases n <;> rfl
@[simp] theorem yEo {κ : Type}{es:List (κ×D)}:(upK es).length=es.length:=by unfold upK;rw [Z2]
@[simp] theorem upK_nil {κ : Type}:upK ([]:List (κ×D))=[]:=rfl
@[simp] theorem upK_cons {κ : Type}{k : κ}{x:D}{r:List (κ×D)}:upK ((k,x) :: r)=(k,.d x) :: upK r:=rfl
@[simp] theorem clS_nil:clS n []=true:=rfl
@[simp] theorem clS_cons {z:Cell}:clS n (z :: S)=(clC n z && clS n S):=rfl
@[simp] theorem clU_d {x:D}:clU n (.d x)=true:=rfl
@[simp] theorem clU_l {k:Nat}:clU n (.loc k)=decide (k < n):=rfl
@[simp] theorem clI_nil:clC n (.ins c [])=true:=rfl
@[simp] theorem clI_cons {k:Str}{fs:List (Str×U)}:clC n (.ins c ((k,u) :: fs))=(clU n u && clC n (.ins c fs)):=rfl
@[simp] theorem clL_nil:clC n (.lst [])=true:=rfl
@[simp] theorem clL_cons {us:List U}:clC n (.lst (u :: us))=(clU n u && clC n (.lst us)):=rfl
@[simp] theorem yCo {f:U→Option D}:snapL f []=some []:=rfl
@[simp] theorem yC5 {f:U→Option D}{us:List U}:snapL f (u :: us)=match f u,snapL f us with | some x,some xs=>some (x :: xs) | _,_=>none:=rfl
@[simp] theorem snapKn {κ : Type}{f:U→Option D}:snapK f ([]:List (κ×U))=some []:=rfl
@[simp] theorem snapKc {κ : Type}{f:U→Option D}{k : κ}{us:List (κ×U)}:snapK f ((k,u) :: us)=match f u,snapK f us with | some x,some xs=>some ((k,x) :: xs) | _,_=>none:=rfl
@[simp] theorem yFk {z:D} (h:clS n (S'.take n)=true) (h2:snapB n 4 S' u=some z):cutRun n (.ok u S')=.ok (.d z) (S'.take n):=by
 show (if clS n (S'.take n)=true then match snapB n 4 S' u with | some d=>Out.ok (U.d d) (S'.take n) | none=>.st else .st)=_;rw [if_pos h,h2]
@[simp] theorem yFl (h:clS n (S'.take n)=true):cutRun n (.ex c S')=.ex c (S'.take n):=by
 show (if clS n (S'.take n)=true then Out.ex c (S'.take n) else .st)=_;rw [if_pos h]
@[simp] theorem cutMk_ok {z:D} (h:clS n (S'.take n)=true) (h2:snapB n 4 S' (.loc n)=some z):cutMk n (.ok (.d .non) S')=.ok (.d z) (S'.take n):=by
 show (if clS n (S'.take n)=true then match snapB n 4 S' (.loc n) with | some d=>Out.ok (U.d d) (S'.take n) | none=>.st else .st)=_;rw [if_pos h,h2]
theorem zTv {F:Fn}{ds:List U} (h:pureL ds=none):rC F ds S=cutRun S.length (F ds S):=by unfold rC;rw [h]
@[simp] theorem rC_1 {F:Fn}{us:List U}:rC F (.loc n :: us) S=cutRun S.length (F (.loc n :: us) S):=zTv rfl
@[simp] theorem rC_2 {F:Fn}{x:D}{us:List U}:rC F (.d x :: .loc n :: us) S=cutRun S.length (F (.d x :: .loc n :: us) S):=zTv rfl
@[simp] theorem rC_3 {F:Fn}{x y:D}{us:List U}:rC F (.d x :: .d y :: .loc n :: us) S=cutRun S.length (F (.d x :: .d y :: .loc n :: us) S):=zTv rfl
theorem zAp {F:Fn}{xs:List D}{z:D} (h:F (xs.map .d) []=.ok (.d z) S'):rC F (xs.map .d) S=.ok (.d z) S:=by
 unfold rC;rw [zD9];show pureRun (F (xs.map .d) []) S=_;rw [h];rfl
theorem zO8 (d:U) (es:List (Key×D)) (h:dctOf S d=some (upK es)) (hl:es.length≤LM):dictD false [d] S=.ok (.d (.dct es)) S:=by
 have e:dictC false [d] S=.ok (.d (.dct es)) S:=by
  show (match dctOf S d with | some es=>if false=true then Out.ok (U.loc S.length) (S++[Cell.dct es]) else mkD es S | none=>.st)=_;rw [h];simp [mkD,hl]
 unfold dictD;rw [e];rfl
def forI (g:GT) (b:FS):List U→Ev→Sto→Fl
 | [],ev,S=>.nx ev S
 | d :: r,ev,S=>match g d ev with
  | some ev'=>match b ev' S with
   | .nx e S=>forI g b r e S
   | .ct e S=>forI g b r e S
   | .bk e S=>.nx e S
   | .rt d S=>.rt d S
   | .ex c e S=>.ex c e S
   | .st=>.st
  | none=>.st
theorem zJl {g:GT}{b:FS} (ds:List U):∀ (r k:Nat) (ev:Ev) (S:Sto),r + k=ds.length→forR (.items ds) g b r k ev S=forI g b (ds.drop k) ev S
 | 0,k,ev,S,h=>by
  have:ds[k]? = none:=by rw [List.getElem?_eq_none_iff];omega
  rw [forR,List.drop_eq_nil_of_le (by omega)];simp [itm,this,forI]
 | r + 1,k,ev,S,h=>by
  have hk:k < ds.length:=by omega
  rw [forR,List.drop_eq_getElem_cons hk,forI];simp only [itm,Z7 hk];cases g ds[k] ev with
  | none=>rfl
  | some ev' =>
   simp only;cases hb:b ev' S with
   | nx e S=>simp only;exact zJl ds r (k + 1) e S (by omega)
   | ct e S=>simp only;exact zJl ds r (k + 1) e S (by omega)
   | _=>rfl
theorem zXm {g:GT}{b:FS}{ds:List U}:forR (.items ds) g b ds.length 0 ev S=forI g b ds ev S:=zJl ds ds.length 0 ev S rfl
@[simp] theorem sFor_ev {fi:FI}{g:GT}{b:FS}:sFor fi g b ev S=thenF (fi ev S) ev fun it S=>forR it g b (itLen it S) 0 ev S:=rfl
@[simp] theorem forR_go {g:GT}{b:FS}{ds:List U}:forR (.items ds) g b (itLen (.items ds) S') 0 ev S=forI g b ds ev S:=zXm
def compI (g:GT) (t:FT) (f:FE) (ev:Ev):List U→List U→Sto→Out (List U)
 | [],acc,S=>.ok acc S
 | d :: r,acc,S=>match g d ev with
  | some ev'=>(t ev' S).bind fun b S=>match b with
   | true=>(f ev' S).bind fun y S=>compI g t f ev r (acc++[y]) S
   | false=>compI g t f ev r acc S
  | none=>.st
theorem zHw {g:GT}{t:FT}{f:FE}{ev:Ev} (ds:List U):∀ (r k:Nat) (acc:List U) (S:Sto),r + k=ds.length→compR (.items ds) g t f ev r k acc S=compI g t f ev (ds.drop k) acc S
 | 0,k,acc,S,h=>by
  have:ds[k]? = none:=by rw [List.getElem?_eq_none_iff];omega
  rw [compR,List.drop_eq_nil_of_le (by omega)];simp [itm,this,compI]
 | r + 1,k,acc,S,h=>by
  have hk:k < ds.length:=by omega
  rw [compR,List.drop_eq_getElem_cons hk,compI];simp only [itm,Z7 hk];cases g ds[k] ev with
  | none=>rfl
  | some ev' =>
   simp only
   congr
   funext b S;cases b with
   | true=>simp only;congr;funext y S;exact zHw ds r (k + 1) _ S (by omega)
   | false=>exact zHw ds r (k + 1) _ S (by omega)
theorem zPr {g:GT}{t:FT}{f:FE}{ev:Ev}{S:Sto} (p:U→Bool) (q:U→U):∀ (ds acc:List U),(∀ d∈ds,∃ ev',g d ev=some ev'∧t ev' S=.ok (p d) S∧(p d=true→f ev' S=.ok (q d) S))→compI g t f ev ds acc S=.ok (acc++(ds.filter p).map q) S
 | [],acc,_=>by simp [compI]
 | d :: r,acc,h=>by
  obtain ⟨ev',h1,h2,h3⟩:=h d Zj;rw [compI,h1];simp only [h2,zOf];have ih:=fun acc=>zPr p q r acc fun x hx=>h x (Zb _ hx);cases hp:p d with
  | true=>simp only [h3 hp,zOf];rw [ih];simp [hp]
  | false=>simp only;rw [ih];simp [hp]
theorem zM4 {T:Nat}{fi:FI}{g:GT}{t:FT}{f:FE}{ev:Ev}{S:Sto}{ds:List U} (p:U→Bool) (q:U→U) (hi:fi ev S=.ok (.items ds) S) (hl:ds.length≤LM) (h:∀ d∈ds,∃ ev',g d (ev++List.replicate T none)=some ev'∧t ev' S=.ok (p d) S∧(p d=true→f ev' S=.ok (q d) S)):dComp T fi g t f ev S=mkL ((ds.filter p).map q) S:=by
 unfold dComp;rw [hi];simp only [zOf];rw [if_pos (show itLen (.items ds) S≤LM from hl),show itLen (.items ds) S=ds.length from rfl,zHw ds ds.length 0 [] S rfl,List.drop_zero,zPr p q ds [] h];rfl
end
end L2.F
namespace L2.F
open PySem L2
section
variable {S:Sto}{i j:Int}{a b:Str}{n:Nat}
@[simp] theorem add_ii:addD (.d (.int i)) (.d (.int j)) S=.ok (.d (.int (i + j))) S:=rfl
@[simp] theorem sub_ii:subI (.d (.int i)) (.d (.int j)) S=.ok (.d (.int (i - j))) S:=rfl
theorem zP6 (h:0 < j):modI (.d (.int i)) (.d (.int j)) S=.ok (.d (.int (i % j))) S:=by
 show (if decide (0 < j)=true then Out.ok (U.d (D.int (i % j))) S else .st)=_;rw [if_pos (decide_eq_true h)]
theorem zPo (h:0 < j) (h':j < 2 ^ 64):divI (.d (.int i)) (.d (.int j)) S=.ok (.d (.int (i / j))) S:=by
 show (if (decide (0 < j) && decide (j < 2 ^ 64))=true then Out.ok (U.d (D.int (i / j))) S else .st)=_;rw [if_pos (by rw [decide_eq_true h,decide_eq_true h'];rfl)]
theorem zYr (h:small64 j=true):mulD (.d (.int i)) (.d (.int j)) S=.ok (.d (.int (i * j))) S:=by
 have:mulI (.d (.int i)) (.d (.int j)) S=.ok (.d (.int (i * j))) S:=by
  show (if (small64 i || small64 j)=true then Out.ok (U.d (D.int (i * j))) S else .st)=_;rw [if_pos (by simp [h])]
 unfold mulD;rw [this];rfl
@[simp] theorem lt_ii:ltI (.d (.int i)) (.d (.int j)) S=.ok (.d (.bl (decide (i < j)))) S:=rfl
@[simp] theorem le_ii:leI (.d (.int i)) (.d (.int j)) S=.ok (.d (.bl (decide (i≤j)))) S:=rfl
@[simp] theorem gt_ii:gtI (.d (.int i)) (.d (.int j)) S=.ok (.d (.bl (decide (j < i)))) S:=rfl
@[simp] theorem ge_ii:geI (.d (.int i)) (.d (.int j)) S=.ok (.d (.bl (decide (j≤i)))) S:=rfl
@[simp] theorem eq_ii:eqA (.d (.int i)) (.d (.int j)) S=.ok (.d (.bl (decide (i=j)))) S:=by simp [eqA,eqD,eqS,scU,scD,boO,Out.or]
@[simp] theorem eq_ss:eqA (.d (.str a)) (.d (.str b)) S=.ok (.d (.bl (decide (a=b)))) S:=by simp [eqA,eqD,eqS,scU,scD,boO,Out.or]
@[simp] theorem eq_nn:eqA (.d .non) (.d .non) S=.ok (.d (.bl true)) S:=rfl
@[simp] theorem eq_in:eqA (.d (.int i)) (.d .non) S=.ok (.d (.bl false)) S:=rfl
@[simp] theorem eq_ni:eqA (.d .non) (.d (.int i)) S=.ok (.d (.bl false)) S:=rfl
@[simp] theorem eq_sn:eqA (.d (.str a)) (.d .non) S=.ok (.d (.bl false)) S:=rfl
@[simp] theorem eq_ns:eqA (.d .non) (.d (.str a)) S=.ok (.d (.bl false)) S:=rfl
@[simp] theorem ne_ii:neA (.d (.int i)) (.d (.int j)) S=.ok (.d (.bl (!decide (i=j)))) S:=by simp [neA,neD,neS,scU,scD,boO,Out.or]
@[simp] theorem ne_ss:neA (.d (.str a)) (.d (.str b)) S=.ok (.d (.bl (!decide (a=b)))) S:=by simp [neA,neD,neS,scU,scD,boO,Out.or]
@[simp] theorem ne_nn:neA (.d .non) (.d .non) S=.ok (.d (.bl false)) S:=rfl
@[simp] theorem ne_in:neA (.d (.int i)) (.d .non) S=.ok (.d (.bl true)) S:=rfl
@[simp] theorem ne_ni:neA (.d .non) (.d (.int i)) S=.ok (.d (.bl true)) S:=rfl
@[simp] theorem ne_sn:neA (.d (.str a)) (.d .non) S=.ok (.d (.bl true)) S:=rfl
@[simp] theorem ne_ns:neA (.d .non) (.d (.str a)) S=.ok (.d (.bl true)) S:=rfl
@[simp] theorem isN_ev {neg:Bool}{u:U}:isND neg u (.d .non) S=.ok (.d (.bl (xor neg (isNb u)))) S:=rfl
@[simp] theorem isNb_n:isNb (.d .non)=true:=rfl
@[simp] theorem isNb_s:isNb (.d (.str a))=false:=rfl
@[simp] theorem isNb_i:isNb (.d (.int i))=false:=rfl
@[simp] theorem isNb_t {xs:List D}:isNb (.d (.tup xs))=false:=rfl
@[simp] theorem tru_b {b:Bool}:truO (.d (.bl b)) S=.ok b S:=rfl
@[simp] theorem tru_n:truO (.d .non) S=.ok false S:=rfl
@[simp] theorem ix_t0 {x:D}{xs:List D}:ixD (.d (.tup (x :: xs))) (.d (.int 0)) S=.ok (.d x) S:=by
 simp [ixD,dctOf,atI,ixN]
@[simp] theorem ix_t1 {x y:D}{xs:List D}:ixD (.d (.tup (x :: y :: xs))) (.d (.int 1)) S=.ok (.d y) S:=by
 have e:ixN (xs.length + 1 + 1) 1=some 1:=by
  unfold ixN;rw [if_pos (by decide),if_pos (by omega)];rfl
 simp [ixD,dctOf,atI,e]
end
end L2.F
namespace My
set_option autoImplicit false
open PySem PySem.Spec PyProof.Rows L2 L2.F
def top (i:Nat):Stmt:=PySem.Challenge.pw_cometorest_k27_taken_with_what_they_own.main.body.getD i (.Pass ⟨0,0,0,0⟩)
def ct:CTb:=[("Kind",["name", "fields", "owner"]),("Kinds",["by_name"]),("Deed",["hand", "number", "wishing", "name"]),("Make",["hand", "number", "wishing", "name", "owner_mark", "state"]),("Take",["hand", "number", "wishing", "name", "mark", "owner_mark"]),("Wishes",["kinds", "rows", "by_name"]),("Look",["kinds", "limits", "things", "wishes", "wishing", "last_done"]),("World",["kinds", "limits", "things", "marks", "wishes", "wishing", "last_done"])]
def clsL:List Str:=["Kind", "Kinds", "Deed", "Make", "Take", "Wishes", "Look", "World"]
def csL:List Str:=["Deed", "Kind", "Kinds", "Make"]
def ktL:List (Str×Str):=[("Kind", "Kind"),("Kinds", "Kinds"),("Deed", "Deed"),("Make", "Make"),("Make", "Deed"),("Take", "Deed")]
def exL:List Str:=["NoDeed", "NoKind", "NoLimit", "NoName", "NoPlace", "NoState", "NoWish", "TooMany"]
def hdL:List (Str×Str):=[("NoName", "NoName")]
structure Sg where
 P:Program
 w:World
 K:PySem.W.Frag
 mg:Str→Option Value
 base:Heap
 cl:Cl
 fa:Nat→Addr
 fd:Nat→FuncData
 cL:Addr
 tP:Addr
def lpos:Pos:=⟨93,31,93,53⟩
def lq:Str:=(("placed_by_owners" : Str)++".<locals>.")++"<lambda>"
abbrev zAh:Stmt:=top 29
abbrev zIj:Stmt:=top 15
abbrev zBk:Stmt:=top 18
abbrev zF8:Stmt:=top 28
abbrev zEi:Stmt:=inClass (top 30) 0
abbrev zDk:Stmt:=inClass (top 30) 1
abbrev zC7:Stmt:=top 54
abbrev zH7:Stmt:=inClass (top 30) 2
abbrev zH1:Stmt:=top 16
abbrev zBg:Stmt:=top 35
abbrev zH3:Stmt:=top 36
abbrev zH0:Stmt:=top 37
abbrev zIi:Stmt:=top 38
abbrev zC8:Stmt:=top 55
abbrev zGz:Stmt:=top 26
abbrev zF7:Stmt:=top 27
abbrev zE9:Stmt:=top 48
abbrev zD1:Stmt:=top 49
abbrev zKy:Stmt:=top 50
abbrev zH4:Stmt:=top 51
abbrev zCg:Stmt:=top 52
abbrev zCz:Stmt:=top 53
abbrev zDj:Stmt:=inClass (top 56) 0
abbrev zCf:Stmt:=top 17
abbrev zEb:Stmt:=top 60
abbrev zAv:Stmt:=inClass (top 63) 0
abbrev zDi:Stmt:=top 67
abbrev zB6:Stmt:=top 19
abbrev zEc:Stmt:=top 20
abbrev zD0:Stmt:=top 21
abbrev zB1:Stmt:=inClass (top 22) 0
abbrev zD2:Stmt:=top 65
abbrev zEd:Stmt:=top 66
abbrev zFa:Stmt:=top 68
abbrev zD3:Stmt:=inClass (top 56) 2
abbrev zEh:Stmt:=inClass (top 58) 4
abbrev zFh:Stmt:=inClass (top 58) 0
abbrev zEe:Stmt:=inClass (top 63) 1
abbrev zD5:Stmt:=inClass (top 58) 8
abbrev zEf:Stmt:=inClass (top 63) 6
abbrev zF9:Stmt:=top 23
abbrev zKx:Stmt:=top 24
abbrev zH2:Stmt:=top 25
abbrev zEg:Stmt:=inClass (top 58) 1
abbrev zFc:Stmt:=inClass (top 63) 2
abbrev zH5:Stmt:=top 71
abbrev zDh:Stmt:=top 70
abbrev zFg:Stmt:=inClass (top 58) 7
abbrev zBz:Stmt:=inClass (top 43) 3
abbrev zBy:Stmt:=inClass (top 44) 3
abbrev zD4:Stmt:=inClass (top 58) 3
abbrev zCa:Stmt:=inClass (top 43) 2
abbrev zC9:Stmt:=inClass (top 44) 2
abbrev zIk:Stmt:=top 61
abbrev zFf:Stmt:=inClass (top 58) 6
abbrev zGy:Stmt:=top 62
abbrev zBm:Stmt:=inClass (top 43) 4
abbrev zBl:Stmt:=inClass (top 44) 4
abbrev zBw:Stmt:=inClass (top 63) 7
abbrev zBx:Stmt:=inClass (top 63) 5
abbrev zCh:Stmt:=inClass (top 58) 2
abbrev zH6:Stmt:=inClass (top 63) 4
abbrev zFi:Stmt:=inClass (top 42) 0
abbrev zEa:Stmt:=top 40
abbrev zBj:Stmt:=top 41
abbrev zFd:Stmt:=inClass (top 44) 0
abbrev zFb:Stmt:=top 69
abbrev zFe:Stmt:=inClass (top 43) 0
abbrev zBv:Stmt:=top 72
abbrev zJ9:Stmt:=top 73
structure Fx (σ : Sg):Prop where
 tb:TbOk σ.K σ.cl ct
 kt:KtOk σ.K σ.cl clsL csL ktL
 ex:ExOk σ.K σ.mg σ.cl exL
 hd:HdOk σ.K σ.cl hdL
 inj:∀ c c',clsL.contains c=true→clsL.contains c'=true→σ.cl c = σ.cl c'→c=c'
 b_all : σ.mg "all" = none
 b_bool : σ.mg "bool" = none
 b_dict : σ.mg "dict" = none
 b_enumerate : σ.mg "enumerate" = none
 b_int : σ.mg "int" = none
 b_isinstance : σ.mg "isinstance" = none
 b_len : σ.mg "len" = none
 b_list : σ.mg "list" = none
 b_min : σ.mg "min" = none
 b_range : σ.mg "range" = none
 b_set : σ.mg "set" = none
 b_sorted : σ.mg "sorted" = none
 b_str : σ.mg "str" = none
 b_sum : σ.mg "sum" = none
 b_tuple : σ.mg "tuple" = none
 c_FIGURES:∃ t,σ.mg "FIGURES" = some (.str "0123456789" t)
 c_LETTERS:∃ t,σ.mg "LETTERS" = some (.str "abcdefghijklmnopqrstuvwxyz" t)
 c_MOST_FIGURES:∃ t,σ.mg "MOST_FIGURES" = some (.int 6 t)
 c_MOST_LETTERS:∃ t,σ.mg "MOST_LETTERS" = some (.int 8 t)
 c_MOST_MANY:∃ t,σ.mg "MOST_MANY" = some (.int 60 t)
 c_MOST_NUMBER:∃ t,σ.mg "MOST_NUMBER" = some (.int 999999 t)
 c_MOST_STATES:∃ t,σ.mg "MOST_STATES" = some (.int 8 t)
 c_MOST_WISHED:∃ t,σ.mg "MOST_WISHED" = some (.int 60 t)
 c_Kind:Cls σ.K (σ.cl "Kind")
 c_Kinds:Cls σ.K (σ.cl "Kinds")
 c_Deed:Cls σ.K (σ.cl "Deed")
 c_Make:Cls σ.K (σ.cl "Make")
 c_Take:Cls σ.K (σ.cl "Take")
 c_Wishes:Cls σ.K (σ.cl "Wishes")
 c_Look:Cls σ.K (σ.cl "Look")
 c_World:Cls σ.K (σ.cl "World")
 g_Deed : σ.mg "Deed" = some (.ref (σ.cl "Deed"))
 g_Kind : σ.mg "Kind" = some (.ref (σ.cl "Kind"))
 g_Kinds : σ.mg "Kinds" = some (.ref (σ.cl "Kinds"))
 g_Look : σ.mg "Look" = some (.ref (σ.cl "Look"))
 g_Make : σ.mg "Make" = some (.ref (σ.cl "Make"))
 g_Take : σ.mg "Take" = some (.ref (σ.cl "Take"))
 g_Wishes : σ.mg "Wishes" = some (.ref (σ.cl "Wishes"))
 g_World : σ.mg "World" = some (.ref (σ.cl "World"))
 g_NoName : σ.mg "NoName" = some (.ref (σ.cl "NoName"))
 d0:DefG σ.K σ.mg "placed_by_owners" zAh ["kinds"] (σ.fa 0) (σ.fd 0)
 n0:FunC σ.K "placed_by_owners" "placed_by_owners" zAh σ.cL (σ.fa 0) (σ.fd 0)
 d1:DefG σ.K σ.mg "is_name" zIj ["thing"] (σ.fa 1) (σ.fd 1)
 d2:DefG σ.K σ.mg "are_unlike_names" zBk ["things"] (σ.fa 2) (σ.fd 2)
 d3:DefG σ.K σ.mg "are_kinds" zF8 ["things"] (σ.fa 3) (σ.fd 3)
 n4:FunG σ.K "__init__" "Kinds.__init__" zEi (σ.fa 4) (σ.fd 4)
 k4:Binds σ.K (σ.fd 4) ["self", "kinds"] []
 n5:FunG σ.K "order" "Kinds.order" zDk (σ.fa 5) (σ.fd 5)
 k5:Binds σ.K (σ.fd 5) ["self"] []
 d6:DefG σ.K σ.mg "wished_of_each" zC7 ["kind", "rows"] (σ.fa 6) (σ.fd 6)
 n7:FunG σ.K "of" "Kinds.of" zH7 (σ.fa 7) (σ.fd 7)
 k7:Binds σ.K (σ.fd 7) ["self", "name"] []
 d8:DefG σ.K σ.mg "is_whole" zH1 ["thing"] (σ.fa 8) (σ.fd 8)
 d9:DefG σ.K σ.mg "is_written_number" zBg ["text", "most_figures"] (σ.fa 9) (σ.fd 9)
 d10:DefG σ.K σ.mg "has_form" zH3 ["thing"] (σ.fa 10) (σ.fd 10)
 d11:DefG σ.K σ.mg "parts_of" zH0 ["kinds", "name"] (σ.fa 11) (σ.fd 11)
 d12:DefG σ.K σ.mg "name_of" zIi ["kinds", "kind", "owner", "number"] (σ.fa 12) (σ.fd 12)
 d13:DefG σ.K σ.mg "wished_by_name" zC8 ["kinds", "rows"] (σ.fa 13) (σ.fd 13)
 d14:DefG σ.K σ.mg "place_of" zGz ["kind", "field"] (σ.fa 14) (σ.fd 14)
 d15:DefG σ.K σ.mg "has_value" zF7 ["kind", "field", "value"] (σ.fa 15) (σ.fd 15)
 d16:DefG σ.K σ.mg "is_pair_of" zE9 ["kind", "thing"] (σ.fa 16) (σ.fd 16)
 d17:DefG σ.K σ.mg "are_pairs_of" zD1 ["kind", "things"] (σ.fa 17) (σ.fd 17)
 d18:DefG σ.K σ.mg "is_row" zKy ["kinds", "thing"] (σ.fa 18) (σ.fd 18)
 d19:DefG σ.K σ.mg "are_rows" zH4 ["kinds", "things"] (σ.fa 19) (σ.fd 19)
 d20:DefG σ.K σ.mg "count_of_each" zCg ["kind", "rows"] (σ.fa 20) (σ.fd 20)
 d21:DefG σ.K σ.mg "count_wished" zCz ["kinds", "rows"] (σ.fa 21) (σ.fd 21)
 n22:FunG σ.K "__init__" "Wishes.__init__" zDj (σ.fa 22) (σ.fd 22)
 k22:Binds σ.K (σ.fd 22) ["self", "kinds", "rows"] []
 d23:DefG σ.K σ.mg "is_whole_from" zCf ["least", "thing"] (σ.fa 23) (σ.fd 23)
 d24:DefG σ.K σ.mg "are_limits" zEb ["kinds", "thing"] (σ.fa 24) (σ.fd 24)
 n25:FunG σ.K "__init__" "World.__init__" zAv (σ.fa 25) (σ.fd 25)
 k25:Binds σ.K (σ.fd 25) ["self", "kinds", "limits"] []
 d26:DefG σ.K σ.mg "_law_source" zDi ["_law_cell"] (σ.fa 26) (σ.fd 26)
 d27:DefG σ.K σ.mg "is_pair_with_values" zB6 ["thing"] (σ.fa 27) (σ.fd 27)
 d28:DefG σ.K σ.mg "are_fields" zEc ["things"] (σ.fa 28) (σ.fd 28)
 d29:DefG σ.K σ.mg "count_states" zD0 ["fields"] (σ.fa 29) (σ.fd 29)
 n30:FunG σ.K "__init__" "Kind.__init__" zB1 (σ.fa 30) (σ.fd 30)
 k30:Binds σ.K (σ.fd 30) ["self", "name", "fields", "owner"] []
 d31:DefG σ.K σ.mg "_law_cell_at" zD2 ["_law_script", "_law_k"] (σ.fa 31) (σ.fd 31)
 d32:DefG σ.K σ.mg "_law_mixed" zEd ["_law_cell", "_law_k"] (σ.fa 32) (σ.fd 32)
 d33:DefG σ.K σ.mg "_law_next" zFa ["_law_source_here", "_law_many"] (σ.fa 33) (σ.fd 33)
 n34:FunG σ.K "names" "Wishes.names" zD3 (σ.fa 34) (σ.fd 34)
 k34:Binds σ.K (σ.fd 34) ["self"] []
 n35:FunG σ.K "names" "Look.names" zEh (σ.fa 35) (σ.fd 35)
 k35:Binds σ.K (σ.fd 35) ["self"] []
 n36:FunG σ.K "__init__" "Look.__init__" zFh (σ.fa 36) (σ.fd 36)
 k36:Binds σ.K (σ.fd 36) ["self", "kinds", "limits", "things", "wishes", "wishing", "last_done"] []
 n37:FunG σ.K "look" "World.look" zEe (σ.fa 37) (σ.fd 37)
 k37:Binds σ.K (σ.fd 37) ["self"] []
 n38:FunG σ.K "is_full" "Look.is_full" zD5 (σ.fa 38) (σ.fd 38)
 k38:Binds σ.K (σ.fd 38) ["self", "kind"] []
 n39:FunG σ.K "keep" "World.keep" zEf (σ.fa 39) (σ.fd 39)
 k39:Binds σ.K (σ.fd 39) ["self", "name", "state"] []
 d40:DefG σ.K σ.mg "all_picks" zF9 ["lists"] (σ.fa 40) (σ.fd 40)
 d41:DefG σ.K σ.mg "states" zKx ["kind"] (σ.fa 41) (σ.fd 41)
 d42:DefG σ.K σ.mg "is_state" zH2 ["kind", "thing"] (σ.fa 42) (σ.fd 42)
 n43:FunG σ.K "thing" "Look.thing" zEg (σ.fa 43) (σ.fd 43)
 k43:Binds σ.K (σ.fd 43) ["self", "name"] []
 n44:FunG σ.K "put" "World.put" zFc (σ.fa 44) (σ.fd 44)
 k44:Binds σ.K (σ.fd 44) ["self", "name", "state"] []
 d45:DefG σ.K σ.mg "_law_put" zH5 ["_law_source_here", "_law_world"] (σ.fa 45) (σ.fd 45)
 d46:DefG σ.K σ.mg "_law_things" zDh ["_law_world"] (σ.fa 46) (σ.fd 46)
 n47:FunG σ.K "last" "Look.last" zFg (σ.fa 47) (σ.fd 47)
 k47:Binds σ.K (σ.fd 47) ["self", "hand"] []
 n48:FunG σ.K "suits_kind" "Make.suits_kind" zBz (σ.fa 48) (σ.fd 48)
 k48:Binds σ.K (σ.fd 48) ["self", "kind"] []
 n49:FunG σ.K "suits_kind" "Take.suits_kind" zBy (σ.fa 49) (σ.fd 49)
 k49:Binds σ.K (σ.fd 49) ["self", "kind"] []
 n50:FunG σ.K "mark_of" "Look.mark_of" zD4 (σ.fa 50) (σ.fd 50)
 k50:Binds σ.K (σ.fd 50) ["self", "name"] []
 n51:FunG σ.K "seen_mark" "Make.seen_mark" zCa (σ.fa 51) (σ.fd 51)
 k51:Binds σ.K (σ.fd 51) ["self"] []
 n52:FunG σ.K "seen_mark" "Take.seen_mark" zC9 (σ.fa 52) (σ.fd 52)
 k52:Binds σ.K (σ.fd 52) ["self"] []
 d53:DefG σ.K σ.mg "is_late" zIk ["kinds", "seen", "deed"] (σ.fa 53) (σ.fd 53)
 n54:FunG σ.K "turn" "Look.turn" zFf (σ.fa 54) (σ.fd 54)
 k54:Binds σ.K (σ.fd 54) ["self"] []
 d55:DefG σ.K σ.mg "word_for" zGy ["kinds", "seen", "deed"] (σ.fa 55) (σ.fd 55)
 n56:FunG σ.K "state_after" "Make.state_after" zBm (σ.fa 56) (σ.fd 56)
 k56:Binds σ.K (σ.fd 56) ["self", "kind", "state"] []
 n57:FunG σ.K "state_after" "Take.state_after" zBl (σ.fa 57) (σ.fd 57)
 k57:Binds σ.K (σ.fd 57) ["self", "kind", "state"] []
 n58:FunG σ.K "take_away" "World.take_away" zBw (σ.fa 58) (σ.fd 58)
 k58:Binds σ.K (σ.fd 58) ["self", "name"] []
 n59:FunG σ.K "carry_out" "World.carry_out" zBx (σ.fa 59) (σ.fd 59)
 k59:Binds σ.K (σ.fd 59) ["self", "deed", "state"] []
 n60:FunG σ.K "state_of" "Look.state_of" zCh (σ.fa 60) (σ.fd 60)
 k60:Binds σ.K (σ.fd 60) ["self", "name"] []
 n61:FunG σ.K "do" "World.do" zH6 (σ.fa 61) (σ.fd 61)
 k61:Binds σ.K (σ.fd 61) ["self", "deed"] []
 n62:FunG σ.K "__init__" "Deed.__init__" zFi (σ.fa 62) (σ.fd 62)
 k62:Binds σ.K (σ.fd 62) ["self", "hand", "number", "wishing", "name"] []
 d63:DefG σ.K σ.mg "check_mark" zEa ["mark"] (σ.fa 63) (σ.fd 63)
 d64:DefG σ.K σ.mg "check_owner_mark" zBj ["name", "owner_mark"] (σ.fa 64) (σ.fd 64)
 n65:FunG σ.K "__init__" "Take.__init__" zFd (σ.fa 65) (σ.fd 65)
 k65:Binds σ.K (σ.fd 65) ["self", "hand", "number", "wishing", "name", "mark", "owner_mark"] []
 d66:DefG σ.K σ.mg "_law_deed" zFb ["_law_hand", "_law_number", "_law_name", "_law_things_here"] (σ.fa 66) (σ.fd 66)
 n67:FunG σ.K "__init__" "Make.__init__" zFe (σ.fa 67) (σ.fd 67)
 k67:Binds σ.K (σ.fd 67) ["self", "hand", "number", "wishing", "name", "owner_mark", "state"] []
 d68:DefG σ.K σ.mg "_law_gone_right" zBv ["_law_world", "_law_gone", "_law_number"] (σ.fa 68) (σ.fd 68)
 d69:DefG σ.K σ.mg "law" zJ9 ["_law_script"] (σ.fa 69) (σ.fd 69)
 m_Kind:Mk σ.K (σ.cl "Kind") (σ.fa 30)
 kd30:Binds σ.K (σ.fd 30) ["self", "name", "fields", "owner"] [.none]
 m_Kinds:Mk σ.K (σ.cl "Kinds") (σ.fa 4)
 m_Look:Mk σ.K (σ.cl "Look") (σ.fa 36)
 m_Make:Mk σ.K (σ.cl "Make") (σ.fa 67)
 m_Take:Mk σ.K (σ.cl "Take") (σ.fa 65)
 m_Wishes:Mk σ.K (σ.cl "Wishes") (σ.fa 22)
 m_World:Mk σ.K (σ.cl "World") (σ.fa 25)
 kd25:Binds σ.K (σ.fd 25) ["self", "kinds", "limits"] [.none]
 q_World_carry_out:Meth σ.K (σ.cl "World") "carry_out" (σ.fa 59)
 q_World_do:Meth σ.K (σ.cl "World") "do" (σ.fa 61)
 q_Look_is_full:Meth σ.K (σ.cl "Look") "is_full" (σ.fa 38)
 q_World_keep:Meth σ.K (σ.cl "World") "keep" (σ.fa 39)
 q_Look_last:Meth σ.K (σ.cl "Look") "last" (σ.fa 47)
 q_World_look:Meth σ.K (σ.cl "World") "look" (σ.fa 37)
 q_Look_mark_of:Meth σ.K (σ.cl "Look") "mark_of" (σ.fa 50)
 q_Wishes_names:Meth σ.K (σ.cl "Wishes") "names" (σ.fa 34)
 q_Look_names:Meth σ.K (σ.cl "Look") "names" (σ.fa 35)
 q_Kinds_of:Meth σ.K (σ.cl "Kinds") "of" (σ.fa 7)
 q_Kinds_order:Meth σ.K (σ.cl "Kinds") "order" (σ.fa 5)
 q_World_put:Meth σ.K (σ.cl "World") "put" (σ.fa 44)
 q_Make_seen_mark:Meth σ.K (σ.cl "Make") "seen_mark" (σ.fa 51)
 q_Take_seen_mark:Meth σ.K (σ.cl "Take") "seen_mark" (σ.fa 52)
 q_Make_state_after:Meth σ.K (σ.cl "Make") "state_after" (σ.fa 56)
 q_Take_state_after:Meth σ.K (σ.cl "Take") "state_after" (σ.fa 57)
 q_Look_state_of:Meth σ.K (σ.cl "Look") "state_of" (σ.fa 60)
 q_Make_suits_kind:Meth σ.K (σ.cl "Make") "suits_kind" (σ.fa 48)
 q_Take_suits_kind:Meth σ.K (σ.cl "Take") "suits_kind" (σ.fa 49)
 q_World_take_away:Meth σ.K (σ.cl "World") "take_away" (σ.fa 58)
 q_Look_thing:Meth σ.K (σ.cl "Look") "thing" (σ.fa 43)
 q_Look_turn:Meth σ.K (σ.cl "Look") "turn" (σ.fa 54)
 f62:ClsFn σ.K (σ.cl "Deed") "__init__" (σ.fa 62)
 tp:(σ.tP,lpos,lq)∈σ.cl.tabs
 tu:∀ t∈σ.cl.tabs,t.1 = σ.tP→t=(σ.tP,lpos,lq)
 lam:LamTxt σ.K σ.mg σ.base σ.cL σ.tP
structure Dn (N:List Str) (qual:Str) (st:Stmt) (k i:Nat) where
 F:FS
 ok:∀ {σ : Sg},Fx σ→∀ (cdv:Value) (A:Around) (outer:List Env) (s:Shared) (H:Hp) (E:XK),Room k (A.deeper (envOfC qual (defScope st) s.heap.objs.size (σ.fa i) cdv))→DSs σ.cl (cxD σ.P σ.w σ.K σ.mg σ.base N qual st (σ.fa i) cdv A outer s H E) (ZE E) (defBody st) F
structure DnC (N:List Str) (qual:Str) (st:Stmt) (k i:Nat) where
 F:FS
 ok:∀ {σ : Sg},Fx σ→∀ (A:Around) (outer:List Env) (s:Shared) (H:Hp) (E:XK),Room k (A.deeper (envOfC qual (defScope st) s.heap.objs.size (σ.fa i) (.ref σ.cL)))→DSs σ.cl (cxD σ.P σ.w σ.K σ.mg σ.base N qual st (σ.fa i) (.ref σ.cL) A outer s H E) (ZE E) (defBody st) F
abbrev Ok (σ : Sg) (k i:Nat) (ps:List Str) (F:Fn):Prop:=FnOk σ.P σ.w σ.K σ.mg σ.base (CXM σ.P σ.w) k (σ.fa i) (σ.fd i) ps (spF σ.cl F)
section
variable {σ : Sg}
theorem zDo:FnScope ["kinds", "placed", "ready", "first"] ["kinds"] (defScope zAh):=fsc
def zEl:DnC ["kinds", "placed", "ready", "first"] "placed_by_owners" zAh 2 0:=⟨_,fun h A outer s H E hr=>by
 have nd:=zDo.nd;have hu:=zAn hr
 exact (zA1 (zAf 1 nd zNb)
  (zA1 (zQr 2 nd (T:=["kind"]) rfl ScOk.auto (zAt (de_v 0)) (fun _ _ _ _=>(zAi 4 (by decide +kernel:(["kinds", "placed", "ready", "first", "kind"]:List Str).Nodup))) (fun _ _ _ _=>(zNa (zAd zGe (zAg h.tb (de_v 4)) zB0))) (fun _ _ _ _=>(de_v 4)))
  (zA1 (zXo (n:=64) PassesOwn.leaving (zAo (de_v 2)) (zA1 (zAf 3 nd (yFd h.tb h.tp h.tu h.lam rfl (rm hr) rfl rfl h.b_min (zA0 (de_v 2) zA2) ⟨rfl,rfl,rfl,by decide +kernel,rfl⟩))
  (zA1 (zN8 hu (de_v 1) (zAg h.tb (de_v 3)) (de_v 3))
  (zA3 (zQr 2 nd (T:=["kind"]) rfl ScOk.auto (zAt (de_v 0)) (fun _ _ _ _=>(zAi 4 (by decide +kernel:(["kinds", "placed", "ready", "first", "kind"]:List Str).Nodup))) (fun _ _ _ _=>(zNa (dt_w (zJ3 (zAd (zLe (un1 hr)) (zAg h.tb (de_v 4)) (de_v 1)) (dw_1 (dt_w (zG4 (zAd zGe (zAg h.tb (de_v 4)) zB0) (dw_1 (zAd (zK7 (un1 hr)) (zAg h.tb (de_v 4)) (de_v 1)))))))))) (fun _ _ _ _=>(de_v 4)))))))
  (zA3 (zA6 (de_v 1))))))⟩
def zJ5:Fn:=fnD 4 1 zEl.F
theorem zHl (h:Fx σ):Ok σ 3 0 ["kinds"] zJ5:=okFC h.n0 zDo (zEl.ok h)
theorem zMq:FnScope ["thing"] ["thing"] (defScope zIj):=fsc
def zPj:Dn ["thing"] "is_name" zIj 1 1:=⟨_,fun h cdv A outer s H E hr=>by
 have nd:=zMq.nd;have hu:=zAn hr
 exact (zA1 (zAk (zAs (zAo (zBu (T:="str") h.kt h.b_isinstance h.b_str (by decide) PyProof.Rows.boot_str (de_v 0)))) (zA3 (zA6 zCu)) zA5)
  (zA3 (zA6 (zF3 (de_ch zIo zIo zA4 (zAe zCm h.b_len PySem.boot_len (zA0 (de_v 0) zA2)) (zT9 h.c_MOST_LETTERS)) (de_1 (zAe (zF4 rfl) h.b_all PyProof.Rows.boot_all (zA0 (zAw (T:=["sign"]) rfl ScOk.auto (zZ9 (de_v 0)) (fun _ _ _ _=>(zAi 1 (by decide +kernel:(["thing", "sign"]:List Str).Nodup))) (fun _ _ _ _=>zBt) (fun _ _ _ _=>(zG2 (zK7 (un1 hr)) (de_v 1) (yFe h.c_LETTERS)))) zA2)))))))⟩
def zJ6:Fn:=fnD 1 1 zPj.F
theorem zB5 (h:Fx σ):Ok σ 2 1 ["thing"] zJ6:=okF h.d1.fn zMq (zPj.ok h)
theorem zDq:FnScope ["things"] ["things"] (defScope zBk):=fsc
def zEm:Dn ["things"] "are_unlike_names" zBk 2 2:=⟨_,fun h cdv A outer s H E hr=>by
 have nd:=zDq.nd;have hu:=zAn hr
 exact (zA3 (zA6 (zF3 (zAe (zF4 rfl) h.b_all PyProof.Rows.boot_all (zA0 (zAw (T:=["thing"]) rfl ScOk.auto (zAt (de_v 0)) (fun _ _ _ _=>(zAi 1 (by decide +kernel:(["things", "thing"]:List Str).Nodup))) (fun _ _ _ _=>zBt) (fun _ _ _ _=>(zAj (zB5 h) zA8 (rm hr) h.d1 zJb (zA0 (de_v 1) zA2)))) zA2)) (de_1 (zG2 (zCi (un1 hr)) (zVl h.b_len h.b_set rfl (de_v 0)) (zAe zCm h.b_len PySem.boot_len (zA0 (de_v 0) zA2)))))))⟩
def zJ7:Fn:=fnD 1 1 zEm.F
theorem zBh (h:Fx σ):Ok σ 3 2 ["things"] zJ7:=okF h.d2.fn zDq (zEm.ok h)
theorem zJv:FnScope ["things"] ["things"] (defScope zF8):=fsc
def zM1:Dn ["things"] "are_kinds" zF8 3 3:=⟨_,fun h cdv A outer s H E hr=>by
 have nd:=zJv.nd;have hu:=zAn hr
 exact (zA1 (zAk (dt_w (zG4 (zAs (zAo (zBu (T:="list") h.kt h.b_isinstance h.b_list (by decide) PyProof.Rows.boot_list (de_v 0)))) (dw_1 (zAd (zCi (un1 hr)) (zAe zCm h.b_len PySem.boot_len (zA0 (de_v 0) zA2)) zA4)))) (zA3 (zA6 zCu)) zA5)
  (zA1 (zAk (zAs (zAo (zAe (zF4 rfl) h.b_all PyProof.Rows.boot_all (zA0 (zAw (T:=["thing"]) rfl ScOk.auto (zAt (de_v 0)) (fun _ _ _ _=>(zAi 1 (by decide +kernel:(["things", "thing"]:List Str).Nodup))) (fun _ _ _ _=>zBt) (fun _ _ _ _=>(zO5 h.kt h.b_isinstance h.g_Kind (by decide +kernel) (de_v 1)))) zA2)))) (zA3 (zA6 zCu)) zA5)
  (zA3 (zA6 (zAj (zBh h) zA8 (rm hr) h.d2 zA9 (zA0 (zAw (T:=["kind"]) rfl ScOk.auto (zAt (de_v 0)) (fun _ _ _ _=>(zAi 1 (by decide +kernel:(["things", "kind"]:List Str).Nodup))) (fun _ _ _ _=>zBt) (fun _ _ _ _=>(zAg h.tb (de_v 1)))) zA2))))))⟩
def zR1:Fn:=fnD 1 1 zM1.F
theorem zOv (h:Fx σ):Ok σ 4 3 ["things"] zR1:=okF h.d3.fn zJv (zM1.ok h)
theorem zIh:FnScope ["self", "kinds", "placed"] ["self", "kinds"] (defScope zEi):=fsc
def zKk:Dn ["self", "kinds", "placed"] "Kinds.__init__" zEi 4 4:=⟨_,fun h cdv A outer s H E hr=>by
 have nd:=zIh.nd;have hu:=zAn hr
 exact (zA1 (zAk (zAs (zAo (zAj (zOv h) zA8 (rm hr) h.d3 zA9 (zA0 (de_v 1) zA2)))) (zA3 (zAl h.ex (by decide +kernel) zCo rfl (zA0 zAb zA2))) zA5)
  (zA1 (zAf 2 nd (zAj (zHl h) zA8 (rm hr) h.d0 zA9 (zA0 (de_v 1) zA2)))
  (zA1 (zAk (zAd zYo (zAe zCm h.b_len PySem.boot_len (zA0 (de_v 2) zA2)) (zAe zCm h.b_len PySem.boot_len (zA0 (de_v 1) zA2))) (zA3 (zAl h.ex (by decide +kernel) zCo rfl (zA0 zAb zA2))) zA5)
  (zA3 (zB7 h.tb (de_v 0) (de_v 2))))))⟩
def zGx:Fn:=fnD 3 2 zKk.F
theorem zNt (h:Fx σ):Ok σ 5 4 ["self", "kinds"] zGx:=okF h.n4 zIh (zKk.ok h)
theorem zHe:FnScope ["self"] ["self"] (defScope zDk):=fsc
def zJ2:Dn ["self"] "Kinds.order" zDk 1 5:=⟨_,fun h cdv A outer s H E hr=>by
 have nd:=zHe.nd;have hu:=zAn hr
 exact (zA3 (zA6 (zBb (zM8 rfl) h.b_list PyProof.Rows.boot_list (zA0 (zAg h.tb (de_v 0)) zA2))))⟩
def zJ8:Fn:=fnD 1 1 zJ2.F
theorem zMf (h:Fx σ):Ok σ 2 5 ["self"] zJ8:=okF h.n5 zHe (zJ2.ok h)
def yC4:List (Str×Fn):=[("Kinds",zJ8)]
theorem zKz (h:Fx σ):MtOk σ.P σ.w σ.K σ.mg σ.base (CXM σ.P σ.w) σ.cl 2 "order" ["self"] yC4:=mtOk h.inj (.cons ⟨_,_,h.c_Kinds,h.q_Kinds_order,(zMf h).mono (by decide),h.k5⟩ (.nil)) (by decide +kernel)
theorem zEx:FnScope ["kind", "rows", "found", "row", "values", "wished"] ["kind", "rows"] (defScope zC7):=fsc
def zG0:Dn ["kind", "rows", "found", "row", "values", "wished"] "wished_of_each" zC7 1 6:=⟨_,fun h cdv A outer s H E hr=>by
 have nd:=zEx.nd;have hu:=zAn hr
 exact (zA1 (zAf 2 nd (zSg zA2))
  (zA1 (zEo PassesOwn.leaving rfl (zAt (de_v 1)) (zAi 3 nd) (zA3 (zAk (zAd (zCi (un1 hr)) (zAq hu (de_v 3) zA4) (zAg h.tb (de_v 0))) (zA1 (zAf 4 nd (zBb (zFq (mu:=false) rfl) h.b_dict PyProof.Rows.boot_dict (zA0 (zAq hu (de_v 3) zA4) zA2)))
  (zA1 (zAf 5 nd (zBb yFr h.b_tuple PyProof.Rows.boot_tuple (zA0 (zAw (T:=["field"]) rfl ScOk.auto (zAt (zAg h.tb (de_v 0))) (fun _ _ _ _=>(zAi 6 (by decide +kernel:(["kind", "rows", "found", "row", "values", "wished", "field"]:List Str).Nodup))) (fun _ _ _ _=>zBt) (fun _ _ _ _=>(zQw hu (de_v 4) (zAq hu (de_v 6) zA4)))) zA2)))
  (zA3 (zBs (de_m zSo (de_v 2) (zA0 (zAm zFk (zDd (zA0 (de_v 5) zA2)) (zAq hu (de_v 3) zA4)) zA2)))))) zA5)))
  (zA3 (zA6 (de_v 2)))))⟩
def zKs:Fn:=fnD 6 2 zG0.F
theorem zJc (h:Fx σ):Ok σ 2 6 ["kind", "rows"] zKs:=okF h.d6.fn zEx (zG0.ok h)
theorem zLd:FnScope ["self", "name"] ["self", "name"] (defScope zH7):=fsc
def zN6:Dn ["self", "name"] "Kinds.of" zH7 2 7:=⟨_,fun h cdv A outer s H E hr=>by
 have nd:=zLd.nd;have hu:=zAn hr
 exact (zA1 (zAk (dt_w (zG4 (zAs (zAo (zAj (zB5 h) zA8 (rm hr) h.d1 zA9 (zA0 (de_v 1) zA2)))) (dw_1 (zAd (zLe (un1 hr)) (de_v 1) (zAg h.tb (de_v 0)))))) (zA3 (zAl h.ex (by decide +kernel) zCo rfl (zA0 zAb zA2))) zA5)
  (zA3 (zA6 (zAq hu (zAg h.tb (de_v 0)) (de_v 1)))))⟩
def zH9:Fn:=fnD 2 2 zN6.F
theorem zQf (h:Fx σ):Ok σ 3 7 ["self", "name"] zH9:=okF h.n7 zLd (zN6.ok h)
def T_of:List (Str×Fn):=[("Kinds",zH9)]
theorem zMh (h:Fx σ):MtOk σ.P σ.w σ.K σ.mg σ.base (CXM σ.P σ.w) σ.cl 3 "of" ["self", "name"] T_of:=mtOk h.inj (.cons ⟨_,_,h.c_Kinds,h.q_Kinds_of,(zQf h).mono (by decide),h.k7⟩ (.nil)) (by decide +kernel)
theorem zL7:FnScope ["thing"] ["thing"] (defScope zH1):=fsc
def zJk:Dn ["thing"] "is_whole" zH1 1 8:=⟨_,fun h cdv A outer s H E hr=>by
 have nd:=zL7.nd;have hu:=zAn hr
 exact (zA3 (zA6 (zF3 (zBu (T:="int") h.kt h.b_isinstance h.b_int (by decide) PyProof.Rows.boot_int (de_v 0)) (de_1 (zZb (zBu (T:="bool") h.kt h.b_isinstance h.b_bool (by decide) PyProof.Rows.boot_bool (de_v 0)))))))⟩
def zJp:Fn:=fnD 1 1 zJk.F
theorem zHm (h:Fx σ):Ok σ 2 8 ["thing"] zJp:=okF h.d8.fn zL7 (zJk.ok h)
theorem zDg:FnScope ["text", "most_figures"] ["text", "most_figures"] (defScope zBg):=fsc
def zDx:Dn ["text", "most_figures"] "is_written_number" zBg 1 9:=⟨_,fun h cdv A outer s H E hr=>by
 have nd:=zDg.nd;have hu:=zAn hr
 exact (zA1 (zAk (zAs (yBh zIo zIo zA4 (zAe zCm h.b_len PySem.boot_len (zA0 (de_v 0) zA2)) (de_v 1))) (zA3 (zA6 zCu)) zA5)
  (zA1 (zAk (dt_w (zJ3 (zAd zIp (zAe zCm h.b_len PySem.boot_len (zA0 (de_v 0) zA2)) zA4) (dw_1 (zAo (de_m zGs (de_v 0) (zA0 zAb zA2)))))) (zA3 (zA6 zCu)) zA5)
  (zA3 (zA6 (zAe (zF4 rfl) h.b_all PyProof.Rows.boot_all (zA0 (zAw (T:=["sign"]) rfl ScOk.auto (zZ9 (de_v 0)) (fun _ _ _ _=>(zAi 2 (by decide +kernel:(["text", "most_figures", "sign"]:List Str).Nodup))) (fun _ _ _ _=>zBt) (fun _ _ _ _=>(zG2 (zK7 (un1 hr)) (de_v 2) (yFe h.c_FIGURES)))) zA2))))))⟩
def zI0:Fn:=fnD 2 2 zDx.F
theorem zHa (h:Fx σ):Ok σ 2 9 ["text", "most_figures"] zI0:=okF h.d9.fn zDg (zDx.ok h)
theorem zL9:FnScope ["thing", "words"] ["thing"] (defScope zH3):=fsc
def zN3:Dn ["thing", "words"] "has_form" zH3 2 10:=⟨_,fun h cdv A outer s H E hr=>by
 have nd:=zL9.nd;have hu:=zAn hr
 exact (zA1 (zAk (zAs (zAo (zBu (T:="str") h.kt h.b_isinstance h.b_str (by decide) PyProof.Rows.boot_str (de_v 0)))) (zA3 (zA6 zCu)) zA5)
  (zA1 (zAf 1 nd (de_m zOg (de_v 0) (zA0 zAb zA2)))
  (zA1 (zAk (zAd (zBr (un1 hr)) (zAm zDt (zAe zCm h.b_len PySem.boot_len (zA0 (de_v 1) zA2)) zA4) zA4) (zA3 (zA6 zCu)) zA5)
  (zA1 (zAk (zAs (zAo (zAe (zF4 rfl) h.b_all PyProof.Rows.boot_all (zA0 (zAw (T:=["word"]) rfl ScOk.auto (zAt (zVm (de_v 1))) (fun _ _ _ _=>(zAi 2 (by decide +kernel:(["thing", "words", "word"]:List Str).Nodup))) (fun _ _ _ _=>zBt) (fun _ _ _ _=>(zAj (zB5 h) zA8 (rm hr) h.d1 zJb (zA0 (de_v 2) zA2)))) zA2)))) (zA3 (zA6 zCu)) zA5)
  (zA3 (zA6 (zAe (zF4 rfl) h.b_all PyProof.Rows.boot_all (zA0 (zAw (T:=["word"]) rfl ScOk.auto (zAt (yFb (de_v 1))) (fun _ _ _ _=>(zAi 2 (by decide +kernel:(["thing", "words", "word"]:List Str).Nodup))) (fun _ _ _ _=>zBt) (fun _ _ _ _=>(zAj (zHa h) zA8 (rm hr) h.d9 zJb (zA0 (de_v 2) (zA0 (zT9 h.c_MOST_FIGURES) zA2))))) zA2))))))))⟩
def zJr:Fn:=fnD 2 1 zN3.F
theorem zLh (h:Fx σ):Ok σ 3 10 ["thing"] zJr:=okF h.d10.fn zL9 (zN3.ok h)
theorem zL6:FnScope ["kinds", "name", "words", "above", "word", "owner"] ["kinds", "name"] (defScope zH0):=fsc
def zN1:Dn ["kinds", "name", "words", "above", "word", "owner"] "parts_of" zH0 3 11:=⟨_,fun h cdv A outer s H E hr=>by
 have nd:=zL6.nd;have hu:=zAn hr
 exact (zA1 (zAk (zAs (zAo (zAj (zLh h) zA8 (rm hr) h.d10 zA9 (zA0 (de_v 1) zA2)))) (zA3 (zAl h.ex (by decide +kernel) zCo rfl (zA0 zAb zA2))) zA5)
  (zA1 (zAf 2 nd (de_m zOg (de_v 1) (zA0 zAb zA2)))
  (zA1 (zAf 3 nd zB0)
  (zA1 (zEo PassesOwn.leaving rfl (zAt (zVm (de_v 2))) (zAi 4 nd) (zA1 (zAk (zAd (zBr (un1 hr)) (zAg h.tb (zC1 (zMh h) zA8 (rm hr) zA9 (de_v 0) (zA0 (de_v 4) zA2))) (de_v 3)) (zA3 (zAl h.ex (by decide +kernel) zCo rfl (zA0 zAb zA2))) zA5)
  (zA3 (zAf 3 nd (de_v 4)))))
  (zA1 (zAf 5 nd (zO6 (zAd zIp (zAe zCm h.b_len PySem.boot_len (zA0 (de_v 2) zA2)) zA4) (de_m zSn zAb (zA0 (zQt (de_v 2) zT8 (zPn (zPp zA4))) zA2)) zB0))
  (zA3 (zA6 (zE1 (zA0 (de_v 3) (zA0 (de_v 5) (zA0 (zBb yBy h.b_int PyProof.Rows.boot_int (zA0 (zAq hu (de_v 2) (zPp zA4)) zA2)) zA2)))))))))))⟩
def zJo:Fn:=fnD 6 2 zN1.F
theorem zCr (h:Fx σ):Ok σ 4 11 ["kinds", "name"] zJo:=okF h.d11.fn zL6 (zN1.ok h)
theorem zMp:FnScope ["kinds", "kind", "owner", "number", "above"] ["kinds", "kind", "owner", "number"] (defScope zIi):=fsc
def zPi:Dn ["kinds", "kind", "owner", "number", "above"] "name_of" zIi 4 12:=⟨_,fun h cdv A outer s H E hr=>by
 have nd:=zMp.nd;have hu:=zAn hr
 exact (zA1 (zAf 4 nd (zAg h.tb (zC1 (zMh h) zA8 (rm hr) zA9 (de_v 0) (zA0 (de_v 1) zA2))))
  (zA1 (zAk (dt_w (zG4 (zAs (zAo (zAj (zHm h) zA8 (rm hr) h.d8 zA9 (zA0 (de_v 3) zA2)))) (dw_1 (zAs (yBh zIo zIo zA4 (de_v 3) (zT9 h.c_MOST_NUMBER)))))) (zA3 (zAl h.ex (by decide +kernel) zCo rfl (zA0 zAb zA2))) zA5)
  (zA1 (zAk (zAd zGe (de_v 4) zB0) (zA1 (zAk (zAd zDu (de_v 2) zB0) (zA3 (zAl h.ex (by decide +kernel) zCo rfl (zA0 zAb zA2))) zA5)
  (zA3 (zA6 (zQu (zN9 (de_v 1) (zSe (zN9 (de_v 3) zVe))))))) zA5)
  (zA1 (zAk (zAd (zBr (un1 hr)) (zAq hu (zAj (zCr h) zA8 (rm hr) h.d11 zA9 (zA0 (de_v 0) (zA0 (de_v 2) zA2))) zA4) (de_v 4)) (zA3 (zAl h.ex (by decide +kernel) zCo rfl (zA0 zAb zA2))) zA5)
  (zA3 (zA6 (zQu (zN9 (de_v 2) (zSe (zN9 (de_v 1) (zSe (zN9 (de_v 3) zVe))))))))))))⟩
def zW0:Fn:=fnD 5 4 zPi.F
theorem zT0 (h:Fx σ):Ok σ 5 12 ["kinds", "kind", "owner", "number"] zW0:=okF h.d12.fn zMp (zPi.ok h)
theorem zEy:FnScope ["kinds", "rows", "names", "found", "kind", "owner_kind", "owners", "of_each", "owner", "number", "wished", "name"] ["kinds", "rows"] (defScope zC8):=fsc
def zG1:Dn ["kinds", "rows", "names", "found", "kind", "owner_kind", "owners", "of_each", "owner", "number", "wished", "name"] "wished_by_name" zC8 5 13:=⟨_,fun h cdv A outer s H E hr=>by
 have nd:=zEy.nd;have hu:=zAn hr
 exact (zA1 (zAf 2 nd zNb)
  (zA1 (zAf 3 nd zNb)
  (zA1 (zEo PassesOwn.leaving rfl (zAt (zE2 (zKz h) zA8 (rm hr) zA9 (de_v 0))) (zAi 4 nd) (zA1 (zAf 5 nd (zAg h.tb (zC1 (zMh h) zA8 (rm hr) zA9 (de_v 0) (zA0 (de_v 4) zA2))))
  (zA1 (zAf 6 nd (zO6 (zAd zGe (de_v 5) zB0) (zDd (zA0 zB0 zA2)) (zAq hu (de_v 2) (de_v 5))))
  (zA1 (zAf 7 nd (zAj (zJc h) zA8 (rm hr) h.d6 zA9 (zA0 (zC1 (zMh h) zA8 (rm hr) zA9 (de_v 0) (zA0 (de_v 4) zA2)) (zA0 (de_v 1) zA2))))
  (zA1 (zN8 hu (de_v 2) (de_v 4) (zSg zA2))
  (zA3 (zEo PassesOwn.leaving rfl (zAt (de_v 6)) (zAi 8 nd) (zA3 (zEo PassesOwn.leaving rfl (yBm h.b_enumerate (zA0 (de_v 7) zA2)) (yFa rfl (zSf (zAi 9 nd) (zSf (zAi 10 nd) yBn)) (zV6 (zV6 yBc))) (zA1 (zAf 11 nd (zAj (zT0 h) zA8 (rm hr) h.d12 zA9 (zA0 (de_v 0) (zA0 (de_v 4) (zA0 (de_v 8) (zA0 (de_v 9) zA2))))))
  (zA1 (zBs (de_m zY4 (zAq hu (de_v 2) (de_v 4)) (zA0 (de_v 11) zA2)))
  (zA3 (zN8 hu (de_v 3) (de_v 11) (de_v 10))))))))))))))
  (zA3 (zA6 (de_v 3))))))⟩
def zKt:Fn:=fnD 12 2 zG1.F
theorem zJd (h:Fx σ):Ok σ 6 13 ["kinds", "rows"] zKt:=okF h.d13.fn zEy (zG1.ok h)
theorem zL5:FnScope ["kind", "field", "fields"] ["kind", "field"] (defScope zGz):=fsc
def zN0:Dn ["kind", "field", "fields"] "place_of" zGz 1 14:=⟨_,fun h cdv A outer s H E hr=>by
 have nd:=zL5.nd;have hu:=zAn hr
 exact (zA1 (zQr 2 nd (T:=["pair"]) rfl ScOk.auto (zAt (zAg h.tb (de_v 0))) (fun _ _ _ _=>(zAi 3 (by decide +kernel:(["kind", "field", "fields", "pair"]:List Str).Nodup))) (fun _ _ _ _=>zBt) (fun _ _ _ _=>(zAq hu (de_v 3) zA4)))
  (zA3 (zA6 (zO6 (zAd (zK7 (un1 hr)) (de_v 1) (de_v 2)) (de_m yBz (de_v 2) (zA0 (de_v 1) zA2)) zB0))))⟩
def zTf:Fn:=fnD 3 2 zN0.F
theorem zQb (h:Fx σ):Ok σ 2 14 ["kind", "field"] zTf:=okF h.d14.fn zL5 (zN0.ok h)
theorem zJu:FnScope ["kind", "field", "value", "place"] ["kind", "field", "value"] (defScope zF7):=fsc
def zM0:Dn ["kind", "field", "value", "place"] "has_value" zF7 2 15:=⟨_,fun h cdv A outer s H E hr=>by
 have nd:=zJu.nd;have hu:=zAn hr
 exact (zA1 (zAf 3 nd (zAj (zQb h) zA8 (rm hr) h.d14 zA9 (zA0 (de_v 0) (zA0 (de_v 1) zA2))))
  (zA3 (zA6 (zF3 (zG2 zDu (de_v 3) zB0) (de_1 (zG2 (zK7 (un1 hr)) (de_v 2) (zAq hu (zAq hu (zAg h.tb (de_v 0)) (de_v 3)) zA4)))))))⟩
def zR0:Fn:=fnD 4 3 zM0.F
theorem zOu (h:Fx σ):Ok σ 3 15 ["kind", "field", "value"] zR0:=okF h.d15.fn zJu (zM0.ok h)
theorem zI7:FnScope ["kind", "thing"] ["kind", "thing"] (defScope zE9):=fsc
def zKg:Dn ["kind", "thing"] "is_pair_of" zE9 3 16:=⟨_,fun h cdv A outer s H E hr=>by
 have nd:=zI7.nd;have hu:=zAn hr
 exact (zA1 (zAk (dt_w (zG4 (zAs (zAo (zBu (T:="tuple") h.kt h.b_isinstance h.b_tuple (by decide) PyProof.Rows.boot_tuple (de_v 1)))) (dw_1 (zAd (zBr (un1 hr)) (zAe zCm h.b_len PySem.boot_len (zA0 (de_v 1) zA2)) zA4)))) (zA3 (zA6 zCu)) zA5)
  (zA3 (zA6 (zF3 (zAj (zB5 h) zA8 (rm hr) h.d1 zA9 (zA0 (zAq hu (de_v 1) zA4) zA2)) (zF3 (zAj (zB5 h) zA8 (rm hr) h.d1 zA9 (zA0 (zAq hu (de_v 1) zA4) zA2)) (de_1 (zAj (zOu h) zA8 (rm hr) h.d15 zA9 (zA0 (de_v 0) (zA0 (zAq hu (de_v 1) zA4) (zA0 (zAq hu (de_v 1) zA4) zA2))))))))))⟩
def zQ5:Fn:=fnD 2 2 zKg.F
theorem zNk (h:Fx σ):Ok σ 4 16 ["kind", "thing"] zQ5:=okF h.d16.fn zI7 (zKg.ok h)
theorem zG8:FnScope ["kind", "things"] ["kind", "things"] (defScope zD1):=fsc
def zHh:Dn ["kind", "things"] "are_pairs_of" zD1 4 17:=⟨_,fun h cdv A outer s H E hr=>by
 have nd:=zG8.nd;have hu:=zAn hr
 exact (zA1 (zAk (dt_w (zG4 (zAs (zAo (zBu (T:="list") h.kt h.b_isinstance h.b_list (by decide) PyProof.Rows.boot_list (de_v 1)))) (dw_1 (zAs (zAo (zAe (zF4 rfl) h.b_all PyProof.Rows.boot_all (zA0 (zAw (T:=["thing"]) rfl ScOk.auto (zAt (de_v 1)) (fun _ _ _ _=>(zAi 2 (by decide +kernel:(["kind", "things", "thing"]:List Str).Nodup))) (fun _ _ _ _=>zBt) (fun _ _ _ _=>(zAj (zNk h) zA8 (rm hr) h.d16 zJb (zA0 (de_v 0) (zA0 (de_v 2) zA2))))) zA2))))))) (zA3 (zA6 zCu)) zA5)
  (zA3 (zA6 (zAj (zBh h) zA8 (rm hr) h.d2 zA9 (zA0 (zAw (T:=["thing"]) rfl ScOk.auto (zAt (de_v 1)) (fun _ _ _ _=>(zAi 2 (by decide +kernel:(["kind", "things", "thing"]:List Str).Nodup))) (fun _ _ _ _=>zBt) (fun _ _ _ _=>(zAq hu (de_v 2) zA4))) zA2)))))⟩
def zMm:Fn:=fnD 2 2 zHh.F
theorem zLk (h:Fx σ):Ok σ 5 17 ["kind", "things"] zMm:=okF h.d17.fn zG8 (zHh.ok h)
theorem zOp:FnScope ["kinds", "thing"] ["kinds", "thing"] (defScope zKy):=fsc
def zS7:Dn ["kinds", "thing"] "is_row" zKy 5 18:=⟨_,fun h cdv A outer s H E hr=>by
 have nd:=zOp.nd;have hu:=zAn hr
 exact (zA1 (zAk (dt_w (zG4 (zAs (zAo (zBu (T:="tuple") h.kt h.b_isinstance h.b_tuple (by decide) PyProof.Rows.boot_tuple (de_v 1)))) (dw_1 (zAd (zBr (un1 hr)) (zAe zCm h.b_len PySem.boot_len (zA0 (de_v 1) zA2)) zA4)))) (zA3 (zA6 zCu)) zA5)
  (zA1 (zAk (dt_w (zG4 (zAs (zAo (zAj (zB5 h) zA8 (rm hr) h.d1 zA9 (zA0 (zAq hu (de_v 1) zA4) zA2)))) (dw_1 (zAd (zLe (un1 hr)) (zAq hu (de_v 1) zA4) (zE2 (zKz h) zA8 (rm hr) zA9 (de_v 0)))))) (zA3 (zA6 zCu)) zA5)
  (zA1 (zAk (dt_w (zG4 (zAs (zAo (zAj (zHm h) zA8 (rm hr) h.d8 zA9 (zA0 (zAq hu (de_v 1) zA4) zA2)))) (dw_1 (zAs (yBh zIo zIo zA4 (zAq hu (de_v 1) zA4) (zT9 h.c_MOST_MANY)))))) (zA3 (zA6 zCu)) zA5)
  (zA3 (zA6 (zAj (zLk h) zA8 (rm hr) h.d17 zA9 (zA0 (zC1 (zMh h) zA8 (rm hr) zA9 (de_v 0) (zA0 (zAq hu (de_v 1) zA4) zA2)) (zA0 (zAq hu (de_v 1) zA4) zA2))))))))⟩
def zY9:Fn:=fnD 2 2 zS7.F
theorem zU8 (h:Fx σ):Ok σ 6 18 ["kinds", "thing"] zY9:=okF h.d18.fn zOp (zS7.ok h)
theorem zLa:FnScope ["kinds", "things"] ["kinds", "things"] (defScope zH4):=fsc
def zN4:Dn ["kinds", "things"] "are_rows" zH4 6 19:=⟨_,fun h cdv A outer s H E hr=>by
 have nd:=zLa.nd;have hu:=zAn hr
 exact (zA3 (zA6 (zF3 (zBu (T:="list") h.kt h.b_isinstance h.b_list (by decide) PyProof.Rows.boot_list (de_v 1)) (de_1 (zAe (zF4 rfl) h.b_all PyProof.Rows.boot_all (zA0 (zAw (T:=["thing"]) rfl ScOk.auto (zAt (de_v 1)) (fun _ _ _ _=>(zAi 2 (by decide +kernel:(["kinds", "things", "thing"]:List Str).Nodup))) (fun _ _ _ _=>zBt) (fun _ _ _ _=>(zAj (zU8 h) zA8 (rm hr) h.d18 zJb (zA0 (de_v 0) (zA0 (de_v 2) zA2))))) zA2))))))⟩
def zTg:Fn:=fnD 2 2 zN4.F
theorem zQc (h:Fx σ):Ok σ 7 19 ["kinds", "things"] zTg:=okF h.d19.fn zLa (zN4.ok h)
theorem zFx:FnScope ["kind", "rows"] ["kind", "rows"] (defScope zCg):=fsc
def zGi:Dn ["kind", "rows"] "count_of_each" zCg 1 20:=⟨_,fun h cdv A outer s H E hr=>by
 have nd:=zFx.nd;have hu:=zAn hr
 exact (zA3 (zA6 (zAe (yFs rfl) h.b_sum PyProof.Rows.boot_sum (zA0 (zAw (T:=["row"]) rfl ScOk.auto (zAt (de_v 1)) (fun _ _ _ _=>(zAi 2 (by decide +kernel:(["kind", "rows", "row"]:List Str).Nodup))) (fun _ _ _ _=>(zNa (zAd (zCi (un1 hr)) (zAq hu (de_v 2) zA4) (de_v 0)))) (fun _ _ _ _=>(zAq hu (de_v 2) zA4))) zA2))))⟩
def zMc:Fn:=fnD 2 2 zGi.F
theorem zKn (h:Fx σ):Ok σ 2 20 ["kind", "rows"] zMc:=okF h.d20.fn zFx (zGi.ok h)
theorem zG6:FnScope ["kinds", "rows", "many", "kind", "owner", "owners"] ["kinds", "rows"] (defScope zCz):=fsc
def zHf:Dn ["kinds", "rows", "many", "kind", "owner", "owners"] "count_wished" zCz 3 21:=⟨_,fun h cdv A outer s H E hr=>by
 have nd:=zG6.nd;have hu:=zAn hr
 exact (zA1 (zAf 2 nd zNb)
  (zA1 (zEo PassesOwn.leaving rfl (zAt (zE2 (zKz h) zA8 (rm hr) zA9 (de_v 0))) (zAi 3 nd) (zA1 (zAf 4 nd (zAg h.tb (zC1 (zMh h) zA8 (rm hr) zA9 (de_v 0) (zA0 (de_v 3) zA2))))
  (zA1 (zAf 5 nd (zO6 (zAd zGe (de_v 4) zB0) zA4 (zAq hu (de_v 2) (de_v 4))))
  (zA3 (zN8 hu (de_v 2) (de_v 3) (zAm zFk (de_v 5) (zAj (zKn h) zA8 (rm hr) h.d20 zA9 (zA0 (de_v 3) (zA0 (de_v 1) zA2)))))))))
  (zA3 (zA6 (yBo h.b_sum rfl (de_v 2))))))⟩
def zMk:Fn:=fnD 6 2 zHf.F
theorem zLi (h:Fx σ):Ok σ 4 21 ["kinds", "rows"] zMk:=okF h.d21.fn zG6 (zHf.ok h)
theorem zHd:FnScope ["self", "kinds", "rows"] ["self", "kinds", "rows"] (defScope zDj):=fsc
def zJ1:Dn ["self", "kinds", "rows"] "Wishes.__init__" zDj 7 22:=⟨_,fun h cdv A outer s H E hr=>by
 have nd:=zHd.nd;have hu:=zAn hr
 exact (zA1 (zAk (zAs (zAo (zO5 h.kt h.b_isinstance h.g_Kinds (by decide +kernel) (de_v 1)))) (zA3 (zAl h.ex (by decide +kernel) zCo rfl (zA0 zAb zA2))) zA5)
  (zA1 (zAk (zAs (zAo (zAj (zQc h) zA8 (rm hr) h.d19 zA9 (zA0 (de_v 1) (zA0 (de_v 2) zA2))))) (zA3 (zAl h.ex (by decide +kernel) zCo rfl (zA0 zAb zA2))) zA5)
  (zA1 (zAk (zAd zIp (zAj (zLi h) zA8 (rm hr) h.d21 zA9 (zA0 (de_v 1) (zA0 (de_v 2) zA2))) (zT9 h.c_MOST_WISHED)) (zA3 (zAl h.ex (by decide +kernel) zCo rfl (zA0 zAb zA2))) zA5)
  (zA1 (zB7 h.tb (de_v 0) (de_v 1))
  (zA1 (zB7 h.tb (de_v 0) (zAw (T:=["row"]) rfl ScOk.auto (zAt (de_v 2)) (fun _ _ _ _=>(zAi 3 (by decide +kernel:(["self", "kinds", "rows", "row"]:List Str).Nodup))) (fun _ _ _ _=>zBt) (fun _ _ _ _=>(zE1 (zA0 (zAq hu (de_v 3) zA4) (zA0 (zAq hu (de_v 3) zA4) (zA0 (zBb (zM8 rfl) h.b_list PyProof.Rows.boot_list (zA0 (zAq hu (de_v 3) zA4) zA2)) zA2)))))))
  (zA3 (zB7 h.tb (de_v 0) (zAj (zJd h) zA8 (rm hr) h.d13 zA9 (zA0 (de_v 1) (zA0 (de_v 2) zA2))))))))))⟩
def zOh:Fn:=fnD 3 3 zJ1.F
theorem zMe (h:Fx σ):Ok σ 8 22 ["self", "kinds", "rows"] zOh:=okF h.n22 zHd (zJ1.ok h)
theorem zFw:FnScope ["least", "thing"] ["least", "thing"] (defScope zCf):=fsc
def zDy:Dn ["least", "thing"] "is_whole_from" zCf 2 23:=⟨_,fun h cdv A outer s H E hr=>by
 have nd:=zFw.nd;have hu:=zAn hr
 exact (zA3 (zA6 (zF3 (zAj (zHm h) zA8 (rm hr) h.d8 zA9 (zA0 (de_v 1) zA2)) (de_1 (zG2 zYp (de_v 1) (de_v 0))))))⟩
def zE3:Fn:=fnD 2 2 zDy.F
theorem zCb (h:Fx σ):Ok σ 3 23 ["least", "thing"] zE3:=okF h.d23.fn zFw (zDy.ok h)
theorem zI9:FnScope ["kinds", "thing"] ["kinds", "thing"] (defScope zEb):=fsc
def zKh:Dn ["kinds", "thing"] "are_limits" zEb 3 24:=⟨_,fun h cdv A outer s H E hr=>by
 have nd:=zI9.nd;have hu:=zAn hr
 exact (zA1 (zAk (zAs (zAo (zBu (T:="dict") h.kt h.b_isinstance h.b_dict (by decide) PyProof.Rows.boot_dict (de_v 1)))) (zA3 (zA6 zCu)) zA5)
  (zA1 (zAk (zAs (zAo (zAe (zF4 rfl) h.b_all PyProof.Rows.boot_all (zA0 (zAw (T:=["kind"]) rfl ScOk.auto (zAt (de_v 1)) (fun _ _ _ _=>(zAi 2 (by decide +kernel:(["kinds", "thing", "kind"]:List Str).Nodup))) (fun _ _ _ _=>zBt) (fun _ _ _ _=>(zF3 (zAj (zB5 h) zA8 (rm hr) h.d1 zJb (zA0 (de_v 2) zA2)) (de_1 (zG2 (zK7 (un1 hr)) (de_v 2) (zE2 (zKz h) zA8 (rm hr) zJb (de_v 0))))))) zA2)))) (zA3 (zA6 zCu)) zA5)
  (zA3 (zA6 (zAe (zF4 rfl) h.b_all PyProof.Rows.boot_all (zA0 (zAw (T:=["many"]) rfl ScOk.auto (zAt de_no) (fun _ _ _ _=>(zAi 2 (by decide +kernel:(["kinds", "thing", "many"]:List Str).Nodup))) (fun _ _ _ _=>zBt) (fun _ _ _ _=>(zAj (zCb h) zA8 (rm hr) h.d23 zJb (zA0 zA4 (zA0 (de_v 2) zA2))))) zA2))))))⟩
def zQ6:Fn:=fnD 2 2 zKh.F
theorem zNl (h:Fx σ):Ok σ 4 24 ["kinds", "thing"] zQ6:=okF h.d24.fn zI9 (zKh.ok h)
theorem zIe:FnScope ["self", "kinds", "limits"] ["self", "kinds", "limits"] (defScope zAv):=fsc
def zKj:Dn ["self", "kinds", "limits"] "World.__init__" zAv 9 25:=⟨_,fun h cdv A outer s H E hr=>by
 have nd:=zIe.nd;have hu:=zAn hr
 exact (zA1 (zAk (dt_w (zJ3 (zAd zDu (de_v 2) zB0) (dw_1 (zAs (zAo (zAj (zNl h) zA8 (rm hr) h.d24 zA9 (zA0 (de_v 1) (zA0 (de_v 2) zA2)))))))) (zA3 (zAl h.ex (by decide +kernel) zCo rfl (zA0 zAb zA2))) zA5)
  (zA1 (zB7 h.tb (de_v 0) (de_v 1))
  (zA1 (zB7 h.tb (de_v 0) (zO6 (zAd zGe (de_v 2) zB0) zZc (zBb (zFq (mu:=false) rfl) h.b_dict PyProof.Rows.boot_dict (zA0 (de_v 2) zA2))))
  (zA1 (zB7 h.tb (de_v 0) zNb)
  (zA1 (zB7 h.tb (de_v 0) zA4)
  (zA1 (zB7 h.tb (de_v 0) (zGq h.m_Wishes (zMe h) (rm hr) h.g_Wishes h.k22 .nil (fun _=>.nil) zA9 (zA0 (de_v 1) (zA0 (zDd zA2) zA2))))
  (zA1 (zB7 h.tb (de_v 0) zA4)
  (zA3 (zB7 h.tb (de_v 0) zNb)))))))))⟩
def zGw:Fn:=fnD 3 3 zKj.F
theorem zNq (h:Fx σ):Ok σ 10 25 ["self", "kinds", "limits"] zGw:=okF h.n25 zIe (zKj.ok h)
theorem zHc:FnScope ["_law_cell"] ["_law_cell"] (defScope zDi):=fsc
def zFl:Dn ["_law_cell"] "_law_source" zDi 1 26:=⟨_,fun h cdv A outer s H E hr=>by
 have nd:=zHc.nd;have hu:=zAn hr
 exact (zA3 (zA6 (zSg (zA0 (zAm zFk (zAm zLf (de_v 0) zA4) (zAm yAf zA4 (zAm zDt (de_v 0) zA4))) (zA0 (de_v 0) (zA0 zA4 zA2))))))⟩
def zDl:Fn:=fnD 1 1 zFl.F
theorem zMd (h:Fx σ):Ok σ 2 26 ["_law_cell"] zDl:=okF h.d26.fn zHc (zFl.ok h)
theorem zCq:FnScope ["thing", "values"] ["thing"] (defScope zB6):=fsc
def zDc:Dn ["thing", "values"] "is_pair_with_values" zB6 3 27:=⟨_,fun h cdv A outer s H E hr=>by
 have nd:=zCq.nd;have hu:=zAn hr
 exact (zA1 (zAk (dt_w (zG4 (zAs (zAo (zBu (T:="tuple") h.kt h.b_isinstance h.b_tuple (by decide) PyProof.Rows.boot_tuple (de_v 0)))) (dw_1 (zAd (zBr (un1 hr)) (zAe zCm h.b_len PySem.boot_len (zA0 (de_v 0) zA2)) zA4)))) (zA3 (zA6 zCu)) zA5)
  (zA1 (zAf 1 nd (zAq hu (de_v 0) zA4))
  (zA3 (zA6 (zF3 (zBu (T:="list") h.kt h.b_isinstance h.b_list (by decide) PyProof.Rows.boot_list (de_v 1)) (zF3 (zG2 zIp (zAe zCm h.b_len PySem.boot_len (zA0 (de_v 1) zA2)) zA4) (de_1 (zAj (zBh h) zA8 (rm hr) h.d2 zA9 (zA0 (de_v 1) zA2)))))))))⟩
def zGt:Fn:=fnD 2 1 zDc.F
theorem zG3 (h:Fx σ):Ok σ 4 27 ["thing"] zGt:=okF h.d27.fn zCq (zDc.ok h)
theorem zIa:FnScope ["things"] ["things"] (defScope zEc):=fsc
def zKi:Dn ["things"] "are_fields" zEc 4 28:=⟨_,fun h cdv A outer s H E hr=>by
 have nd:=zIa.nd;have hu:=zAn hr
 exact (zA1 (zAk (dt_w (zG4 (zAs (zAo (zBu (T:="list") h.kt h.b_isinstance h.b_list (by decide) PyProof.Rows.boot_list (de_v 0)))) (dw_1 (zAs (zAo (zAe (zF4 rfl) h.b_all PyProof.Rows.boot_all (zA0 (zAw (T:=["thing"]) rfl ScOk.auto (zAt (de_v 0)) (fun _ _ _ _=>(zAi 1 (by decide +kernel:(["things", "thing"]:List Str).Nodup))) (fun _ _ _ _=>zBt) (fun _ _ _ _=>(zAj (zG3 h) zA8 (rm hr) h.d27 zJb (zA0 (de_v 1) zA2)))) zA2))))))) (zA3 (zA6 zCu)) zA5)
  (zA3 (zA6 (zAj (zBh h) zA8 (rm hr) h.d2 zA9 (zA0 (zAw (T:=["thing"]) rfl ScOk.auto (zAt (de_v 0)) (fun _ _ _ _=>(zAi 1 (by decide +kernel:(["things", "thing"]:List Str).Nodup))) (fun _ _ _ _=>zBt) (fun _ _ _ _=>(zAq hu (de_v 1) zA4))) zA2)))))⟩
def zQ7:Fn:=fnD 1 1 zKi.F
theorem zNm (h:Fx σ):Ok σ 5 28 ["things"] zQ7:=okF h.d28.fn zIa (zKi.ok h)
theorem zG7:FnScope ["fields", "many", "field"] ["fields"] (defScope zD0):=fsc
def zHg:Dn ["fields", "many", "field"] "count_states" zD0 1 29:=⟨_,fun h cdv A outer s H E hr=>by
 have nd:=zG7.nd;have hu:=zAn hr
 exact (zA1 (zAf 1 nd zA4)
  (zA1 (zEo PassesOwn.leaving rfl (zAt (de_v 0)) (zAi 2 nd) (zA3 (zAf 1 nd (zAm zFk (de_v 1) (zAe zCm h.b_len PySem.boot_len (zA0 (zAq hu (de_v 2) zA4) zA2))))))
  (zA3 (zA6 (de_v 1)))))⟩
def zMl:Fn:=fnD 3 1 zHg.F
theorem zLj (h:Fx σ):Ok σ 2 29 ["fields"] zMl:=okF h.d29.fn zG7 (zHg.ok h)
theorem zK5:FnScope ["self", "name", "fields", "owner"] ["self", "name", "fields", "owner"] (defScope zB1):=fsc
def zM3:Dn ["self", "name", "fields", "owner"] "Kind.__init__" zB1 5 30:=⟨_,fun h cdv A outer s H E hr=>by
 have nd:=zK5.nd;have hu:=zAn hr
 exact (zA1 (zAk (zAs (zAo (zAj (zB5 h) zA8 (rm hr) h.d1 zA9 (zA0 (de_v 1) zA2)))) (zA3 (zAl h.ex (by decide +kernel) zCo rfl (zA0 zAb zA2))) zA5)
  (zA1 (zAk (zAs (zAo (zAj (zNm h) zA8 (rm hr) h.d28 zA9 (zA0 (de_v 2) zA2)))) (zA3 (zAl h.ex (by decide +kernel) zCo rfl (zA0 zAb zA2))) zA5)
  (zA1 (zAk (dt_w (zJ3 (zAd zDu (de_v 3) zB0) (dw_1 (dt_w (zG4 (zAs (zAo (zAj (zB5 h) zA8 (rm hr) h.d1 zA9 (zA0 (de_v 3) zA2)))) (dw_1 (zAd (zCi (un1 hr)) (de_v 3) (de_v 1)))))))) (zA3 (zAl h.ex (by decide +kernel) zCo rfl (zA0 zAb zA2))) zA5)
  (zA1 (zAk (zAd zIp (zAj (zLj h) zA8 (rm hr) h.d29 zA9 (zA0 (de_v 2) zA2)) (zT9 h.c_MOST_STATES)) (zA3 (zAl h.ex (by decide +kernel) zCo rfl (zA0 zAb zA2))) zA5)
  (zA1 (zB7 h.tb (de_v 0) (de_v 1))
  (zA1 (zB7 h.tb (de_v 0) (zAw (T:=["field"]) rfl ScOk.auto (zAt (de_v 2)) (fun _ _ _ _=>(zAi 4 (by decide +kernel:(["self", "name", "fields", "owner", "field"]:List Str).Nodup))) (fun _ _ _ _=>zBt) (fun _ _ _ _=>(zE1 (zA0 (zAq hu (de_v 4) zA4) (zA0 (zBb (zM8 rfl) h.b_list PyProof.Rows.boot_list (zA0 (zAq hu (de_v 4) zA4) zA2)) zA2))))))
  (zA3 (zB7 h.tb (de_v 0) (de_v 3)))))))))⟩
def zB4:Fn:=fnD 4 4 zM3.F
theorem zDb (h:Fx σ):Ok σ 6 30 ["self", "name", "fields", "owner"] zB4:=okF h.n30 zK5 (zM3.ok h)
theorem zG9:FnScope ["_law_script", "_law_k"] ["_law_script", "_law_k"] (defScope zD2):=fsc
def zD6:Dn ["_law_script", "_law_k"] "_law_cell_at" zD2 1 31:=⟨_,fun h cdv A outer s H E hr=>by
 have nd:=zG9.nd;have hu:=zAn hr
 exact (zA1 (zAk (zAd zYo (de_v 1) (zAe zCm h.b_len PySem.boot_len (zA0 (de_v 0) zA2))) (zA3 (zA6 (zAq hu (de_v 0) (de_v 1)))) zA5)
  (zA3 (zA6 zA4)))⟩
def zC6:Fn:=fnD 2 2 zD6.F
theorem zLl (h:Fx σ):Ok σ 2 31 ["_law_script", "_law_k"] zC6:=okF h.d31.fn zG9 (zD6.ok h)
theorem zIb:FnScope ["_law_cell", "_law_k", "_law_number"] ["_law_cell", "_law_k"] (defScope zEd):=fsc
def zGk:Dn ["_law_cell", "_law_k", "_law_number"] "_law_mixed" zEd 1 32:=⟨_,fun h cdv A outer s H E hr=>by
 have nd:=zIb.nd;have hu:=zAn hr
 exact (zA1 (zAf 2 nd (zAm zDt (zAm zFk (zAm zB8 (zAm zB8 (zAm zDt (de_v 0) zA4) (zAm zFk zA4 (de_v 1))) zA4) zA4) zA4))
  (zA1 (zAf 2 nd (zAm zDt (zAm zFk (de_v 2) (zAm zB8 (zAm zLf (de_v 2) zA4) zA4)) zA4))
  (zA1 (zAf 2 nd (zAm zDt (zAm zFk (de_v 2) (zAm zB8 (zAm zB8 (zAm zLf (de_v 2) zA4) zA4) (de_v 1))) zA4))
  (zA3 (zA6 (zAm zDt (zAm zFk (de_v 2) (zAm zB8 (zAm zLf (de_v 2) zA4) zA4)) zA4))))))⟩
def zGv:Fn:=fnD 3 2 zGk.F
theorem zNn (h:Fx σ):Ok σ 2 32 ["_law_cell", "_law_k"] zGv:=okF h.d32.fn zIb (zGk.ok h)
theorem zJx:FnScope ["_law_source_here", "_law_many", "_law_found"] ["_law_source_here", "_law_many"] (defScope zFa):=fsc
def zFm:Dn ["_law_source_here", "_law_many", "_law_found"] "_law_next" zFa 2 33:=⟨_,fun h cdv A outer s H E hr=>by
 have nd:=zJx.nd;have hu:=zAn hr
 exact (zA1 (zAk (zAd zIp (zAq hu (de_v 0) zA4) zA4) (zA1 (zAf 2 nd (zAm zDt (zAq hu (de_v 0) zA4) (de_v 1)))
  (zA1 (zVc (de_v 0) zA4 (zAm zLf (zAq hu (de_v 0) zA4) (de_v 1)))
  (zA3 (zA6 (de_v 2))))) zA5)
  (zA1 (zVc (de_v 0) zA4 (zAm zB8 (zAq hu (de_v 0) zA4) zA4))
  (zA3 (zA6 (zAm zDt (zAj (zNn h) zA8 (rm hr) h.d32 zA9 (zA0 (zAq hu (de_v 0) zA4) (zA0 (zAq hu (de_v 0) zA4) zA2))) (de_v 1))))))⟩
def zB3:Fn:=fnD 3 2 zFm.F
theorem zDa (h:Fx σ):Ok σ 3 33 ["_law_source_here", "_law_many"] zB3:=okF h.d33.fn zJx (zFm.ok h)
theorem zGa:FnScope ["self"] ["self"] (defScope zD3):=fsc
def zHi:Dn ["self"] "Wishes.names" zD3 1 34:=⟨_,fun h cdv A outer s H E hr=>by
 have nd:=zGa.nd;have hu:=zAn hr
 exact (zA3 (zA6 (zAe (zGr rfl) h.b_sorted PyProof.Rows.boot_sorted (zA0 (zAg h.tb (de_v 0)) zA2))))⟩
def zHj:Fn:=fnD 1 1 zHi.F
theorem zLm (h:Fx σ):Ok σ 2 34 ["self"] zHj:=okF h.n34 zGa (zHi.ok h)
theorem zIg:FnScope ["self"] ["self"] (defScope zEh):=fsc
def zGn:Dn ["self"] "Look.names" zEh 1 35:=⟨_,fun h cdv A outer s H E hr=>by
 have nd:=zIg.nd;have hu:=zAn hr
 exact (zA3 (zA6 (zAe (zGr rfl) h.b_sorted PyProof.Rows.boot_sorted (zA0 (zAg h.tb (de_v 0)) zA2))))⟩
def zEv:Fn:=fnD 1 1 zGn.F
theorem zNs (h:Fx σ):Ok σ 2 35 ["self"] zEv:=okF h.n35 zIg (zGn.ok h)
def zHy:List (Str×Fn):=[("Wishes",zHj),("Look",zEv)]
theorem zNw (h:Fx σ):MtOk σ.P σ.w σ.K σ.mg σ.base (CXM σ.P σ.w) σ.cl 2 "names" ["self"] zHy:=mtOk h.inj (.cons ⟨_,_,h.c_Wishes,h.q_Wishes_names,(zLm h).mono (by decide),h.k34⟩ (.cons ⟨_,_,h.c_Look,h.q_Look_names,(zNs h).mono (by decide),h.k35⟩ (.nil))) (by decide +kernel)
theorem zK4:FnScope ["self", "kinds", "limits", "things", "wishes", "wishing", "last_done"] ["self", "kinds", "limits", "things", "wishes", "wishing", "last_done"] (defScope zFh):=fsc
def zHt:Dn ["self", "kinds", "limits", "things", "wishes", "wishing", "last_done"] "Look.__init__" zFh 1 36:=⟨_,fun h cdv A outer s H E hr=>by
 have nd:=zK4.nd;have hu:=zAn hr
 exact (zA1 (zB7 h.tb (de_v 0) (de_v 1))
  (zA1 (zB7 h.tb (de_v 0) (zBb (zFq (mu:=false) rfl) h.b_dict PyProof.Rows.boot_dict (zA0 (de_v 2) zA2)))
  (zA1 (zB7 h.tb (de_v 0) (zBb (zFq (mu:=false) rfl) h.b_dict PyProof.Rows.boot_dict (zA0 (de_v 3) zA2)))
  (zA1 (zB7 h.tb (de_v 0) (de_v 4))
  (zA1 (zB7 h.tb (de_v 0) (de_v 5))
  (zA3 (zB7 h.tb (de_v 0) (zBb (zFq (mu:=false) rfl) h.b_dict PyProof.Rows.boot_dict (zA0 (de_v 6) zA2)))))))))⟩
def zI1:Fn:=fnD 7 7 zHt.F
theorem zP1 (h:Fx σ):Ok σ 2 36 ["self", "kinds", "limits", "things", "wishes", "wishing", "last_done"] zI1:=okF h.n36 zK4 (zHt.ok h)
theorem zIc:FnScope ["self"] ["self"] (defScope zEe):=fsc
def zGl:Dn ["self"] "World.look" zEe 3 37:=⟨_,fun h cdv A outer s H E hr=>by
 have nd:=zIc.nd;have hu:=zAn hr
 exact (zA3 (zA6 (zGq h.m_Look (zP1 h) (rm hr) h.g_Look h.k36 .nil (fun _=>.nil) zA9 (zA0 (zAg h.tb (de_v 0)) (zA0 (zAg h.tb (de_v 0)) (zA0 (zAg h.tb (de_v 0)) (zA0 (zAg h.tb (de_v 0)) (zA0 (zAg h.tb (de_v 0)) (zA0 (zAg h.tb (de_v 0)) zA2)))))))))⟩
def zEt:Fn:=fnD 1 1 zGl.F
theorem zNo (h:Fx σ):Ok σ 4 37 ["self"] zEt:=okF h.n37 zIc (zGl.ok h)
def zEs:List (Str×Fn):=[("World",zEt)]
theorem zJh (h:Fx σ):MtOk σ.P σ.w σ.K σ.mg σ.base (CXM σ.P σ.w) σ.cl 4 "look" ["self"] zEs:=mtOk h.inj (.cons ⟨_,_,h.c_World,h.q_World_look,(zNo h).mono (by decide),h.k37⟩ (.nil)) (by decide +kernel)
theorem zGc:FnScope ["self", "kind", "limit"] ["self", "kind"] (defScope zD5):=fsc
def zEw:Dn ["self", "kind", "limit"] "Look.is_full" zD5 4 38:=⟨_,fun h cdv A outer s H E hr=>by
 have nd:=zGc.nd;have hu:=zAn hr
 exact (zA1 (zAf 2 nd (zQw hu (zAg h.tb (de_v 0)) (zAg h.tb (zC1 (zMh h) zA8 (rm hr) zA9 (zAg h.tb (de_v 0)) (zA0 (de_v 1) zA2)))))
  (zA1 (zAk (zAd zGe (de_v 2) zB0) (zA3 (zA6 zCu)) zA5)
  (zA3 (zA6 (zG2 zYp (zAe zCm h.b_len PySem.boot_len (zA0 (zAw (T:=["name"]) rfl ScOk.auto (zAt (zAg h.tb (de_v 0))) (fun _ _ _ _=>(zAi 3 (by decide +kernel:(["self", "kind", "limit", "name"]:List Str).Nodup))) (fun _ _ _ _=>(zNa (zAd (zCi (un1 hr)) (zAq hu (zAj (zCr h) zA8 (rm hr) h.d11 zJb (zA0 (zAg h.tb (de_v 0)) (zA0 (de_v 3) zA2))) zA4) (de_v 1)))) (fun _ _ _ _=>(de_v 3))) zA2)) (de_v 2))))))⟩
def zD8:Fn:=fnD 3 2 zEw.F
theorem zLo (h:Fx σ):Ok σ 5 38 ["self", "kind"] zD8:=okF h.n38 zGc (zEw.ok h)
def zJ4:List (Str×Fn):=[("Look",zD8)]
theorem zMw (h:Fx σ):MtOk σ.P σ.w σ.K σ.mg σ.base (CXM σ.P σ.w) σ.cl 5 "is_full" ["self", "kind"] zJ4:=mtOk h.inj (.cons ⟨_,_,h.c_Look,h.q_Look_is_full,(zLo h).mono (by decide),h.k38⟩ (.nil)) (by decide +kernel)
theorem zId:FnScope ["self", "name", "state"] ["self", "name", "state"] (defScope zEf):=fsc
def zGm:Dn ["self", "name", "state"] "World.keep" zEf 1 39:=⟨_,fun h cdv A outer s H E hr=>by
 have nd:=zId.nd;have hu:=zAn hr
 exact (zA1 (zB7 h.tb (de_v 0) (zAm zB8 (zAg h.tb (de_v 0)) zA4))
  (zA3 (zN8 hu (zAg h.tb (de_v 0)) (de_v 1) (zE1 (zA0 (de_v 2) (zA0 (zAg h.tb (de_v 0)) zA2))))))⟩
def zEu:Fn:=fnD 3 3 zGm.F
theorem zNp (h:Fx σ):Ok σ 2 39 ["self", "name", "state"] zEu:=okF h.n39 zId (zGm.ok h)
def zSp:List (Str×Fn):=[("World",zEu)]
theorem zUi (h:Fx σ):MtOk σ.P σ.w σ.K σ.mg σ.base (CXM σ.P σ.w) σ.cl 2 "keep" ["self", "name", "state"] zSp:=mtOk h.inj (.cons ⟨_,_,h.c_World,h.q_World_keep,(zNp h).mono (by decide),h.k39⟩ (.nil)) (by decide +kernel)
theorem zJw:FnScope ["lists", "found", "things", "longer", "ahead"] ["lists"] (defScope zF9):=fsc
def zM2:Dn ["lists", "found", "things", "longer", "ahead"] "all_picks" zF9 1 40:=⟨_,fun h cdv A outer s H E hr=>by
 have nd:=zJw.nd;have hu:=zAn hr
 exact (zA1 (zAf 1 nd (zDd (zA0 (zE1 zA2) zA2)))
  (zA1 (zEo PassesOwn.leaving rfl (zAt (de_v 0)) (zAi 2 nd) (zA1 (zAf 3 nd (zSg zA2))
  (zA1 (zEo PassesOwn.leaving rfl (zAt (de_v 1)) (zAi 4 nd) (zA3 (zBs (de_m zSo (de_v 3) (zA0 (zAw (T:=["thing"]) rfl ScOk.auto (zAt (de_v 2)) (fun _ _ _ _=>(zAi 5 (by decide +kernel:(["lists", "found", "things", "longer", "ahead", "thing"]:List Str).Nodup))) (fun _ _ _ _=>zBt) (fun _ _ _ _=>(zAm zB8 (de_v 4) (zE1 (zA0 (de_v 5) zA2))))) zA2)))))
  (zA3 (zAf 1 nd (de_v 3))))))
  (zA3 (zA6 (de_v 1)))))⟩
def zR2:Fn:=fnD 5 1 zM2.F
theorem zOw (h:Fx σ):Ok σ 2 40 ["lists"] zR2:=okF h.d40.fn zJw (zM2.ok h)
theorem zOo:FnScope ["kind"] ["kind"] (defScope zKx):=fsc
def zS6:Dn ["kind"] "states" zKx 2 41:=⟨_,fun h cdv A outer s H E hr=>by
 have nd:=zOo.nd;have hu:=zAn hr
 exact (zA3 (zA6 (zAj (zOw h) zA8 (rm hr) h.d40 zA9 (zA0 (zAw (T:=["field"]) rfl ScOk.auto (zAt (zAg h.tb (de_v 0))) (fun _ _ _ _=>(zAi 1 (by decide +kernel:(["kind", "field"]:List Str).Nodup))) (fun _ _ _ _=>zBt) (fun _ _ _ _=>(zAq hu (de_v 1) zA4))) zA2))))⟩
def zY7:Fn:=fnD 1 1 zS6.F
theorem zU7 (h:Fx σ):Ok σ 3 41 ["kind"] zY7:=okF h.d41.fn zOo (zS6.ok h)
theorem zL8:FnScope ["kind", "thing"] ["kind", "thing"] (defScope zH2):=fsc
def zN2:Dn ["kind", "thing"] "is_state" zH2 3 42:=⟨_,fun h cdv A outer s H E hr=>by
 have nd:=zL8.nd;have hu:=zAn hr
 exact (zA3 (zA6 (zF3 (zBu (T:="tuple") h.kt h.b_isinstance h.b_tuple (by decide) PyProof.Rows.boot_tuple (de_v 1)) (zF3 (zAe (zF4 rfl) h.b_all PyProof.Rows.boot_all (zA0 (zAw (T:=["value"]) rfl ScOk.auto (zAt (de_v 1)) (fun _ _ _ _=>(zAi 2 (by decide +kernel:(["kind", "thing", "value"]:List Str).Nodup))) (fun _ _ _ _=>zBt) (fun _ _ _ _=>(zAj (zB5 h) zA8 (rm hr) h.d1 zJb (zA0 (de_v 2) zA2)))) zA2)) (de_1 (zG2 (zK7 (un1 hr)) (de_v 1) (zAj (zU7 h) zA8 (rm hr) h.d41 zA9 (zA0 (de_v 0) zA2))))))))⟩
def zJq:Fn:=fnD 2 2 zN2.F
theorem zLg (h:Fx σ):Ok σ 4 42 ["kind", "thing"] zJq:=okF h.d42.fn zL8 (zN2.ok h)
theorem zIf:FnScope ["self", "name"] ["self", "name"] (defScope zEg):=fsc
def zEn:Dn ["self", "name"] "Look.thing" zEg 1 43:=⟨_,fun h cdv A outer s H E hr=>by
 have nd:=zIf.nd;have hu:=zAn hr
 exact (zA3 (zA6 (zO6 (zAo (zBu (T:="str") h.kt h.b_isinstance h.b_str (by decide) PyProof.Rows.boot_str (de_v 1))) (zQw hu (zAg h.tb (de_v 0)) (de_v 1)) zB0)))⟩
def zCe:Fn:=fnD 2 2 zEn.F
theorem zNr (h:Fx σ):Ok σ 2 43 ["self", "name"] zCe:=okF h.n43 zIf (zEn.ok h)
def zFr:List (Str×Fn):=[("Look",zCe)]
theorem zIx (h:Fx σ):MtOk σ.P σ.w σ.K σ.mg σ.base (CXM σ.P σ.w) σ.cl 2 "thing" ["self", "name"] zFr:=mtOk h.inj (.cons ⟨_,_,h.c_Look,h.q_Look_thing,(zNr h).mono (by decide),h.k43⟩ (.nil)) (by decide +kernel)
theorem zJz:FnScope ["self", "name", "state", "parts", "seen"] ["self", "name", "state"] (defScope zFc):=fsc
def zFo:Dn ["self", "name", "state", "parts", "seen"] "World.put" zFc 5 44:=⟨_,fun h cdv A outer s H E hr=>by
 have nd:=zJz.nd;have hu:=zAn hr
 exact (zA1 (zAf 3 nd (zAj (zCr h) zA8 (rm hr) h.d11 zA9 (zA0 (zAg h.tb (de_v 0)) (zA0 (de_v 1) zA2))))
  (zA1 (zAk (zAs (zAo (zAj (zLg h) zA8 (rm hr) h.d42 zA9 (zA0 (zC1 (zMh h) zA8 (rm hr) zA9 (zAg h.tb (de_v 0)) (zA0 (zAq hu (de_v 3) zA4) zA2)) (zA0 (de_v 2) zA2))))) (zA3 (zAl h.ex (by decide +kernel) zCo rfl (zA0 zAb zA2))) zA5)
  (zA1 (zAf 4 nd (zE2 (zJh h) zA8 (rm hr) zA9 (de_v 0)))
  (zA1 (zAk (zAd zDu (zC1 (zIx h) zA8 (rm hr) zA9 (de_v 4) (zA0 (de_v 1) zA2)) zB0) (zA3 (zAl h.ex (by decide +kernel) zCo rfl (zA0 zAb zA2))) zA5)
  (zA1 (zAk (dt_w (zJ3 (zAd zDu (zAq hu (de_v 3) zA4) zB0) (dw_1 (zAd zGe (zC1 (zIx h) zA8 (rm hr) zA9 (de_v 4) (zA0 (zAq hu (de_v 3) zA4) zA2)) zB0)))) (zA3 (zAl h.ex (by decide +kernel) zCo rfl (zA0 zAb zA2))) zA5)
  (zA1 (zAk (zAo (zC1 (zMw h) zA8 (rm hr) zA9 (de_v 4) (zA0 (zAq hu (de_v 3) zA4) zA2))) (zA3 (zAl h.ex (by decide +kernel) zCo rfl (zA0 zAb zA2))) zA5)
  (zA3 (zBs (zC1 (zUi h) zA8 (rm hr) zA9 (de_v 0) (zA0 (de_v 1) (zA0 (de_v 2) zA2)))))))))))⟩
def zCx:Fn:=fnD 5 3 zFo.F
theorem zOx (h:Fx σ):Ok σ 6 44 ["self", "name", "state"] zCx:=okF h.n44 zJz (zFo.ok h)
def yC3:List (Str×Fn):=[("World",zCx)]
theorem zYs (h:Fx σ):MtOk σ.P σ.w σ.K σ.mg σ.base (CXM σ.P σ.w) σ.cl 6 "put" ["self", "name", "state"] yC3:=mtOk h.inj (.cons ⟨_,_,h.c_World,h.q_World_put,(zOx h).mono (by decide),h.k44⟩ (.nil)) (by decide +kernel)
theorem zLb:FnScope ["_law_source_here", "_law_world", "_law_boxes", "_law_name", "_law_word"] ["_law_source_here", "_law_world"] (defScope zH5):=fsc
def zN5:Dn ["_law_source_here", "_law_world", "_law_boxes", "_law_name", "_law_word"] "_law_put" zH5 6 45:=⟨_,fun h cdv A outer s H E hr=>by
 have nd:=zLb.nd;have hu:=zAn hr
 exact (zA1 (zAf 2 nd (zDd (zA0 zAb (zA0 zAb (zA0 zAb (zA0 zAb (zA0 zAb (zA0 zAb zA2))))))))
  (zA1 (zAf 3 nd (zAq hu (de_v 2) (zAj (zDa h) zA8 (rm hr) h.d33 zA9 (zA0 (de_v 0) (zA0 zA4 zA2)))))
  (zA1 (zEo PassesOwn.leaving rfl (zAt (zQt (zDd (zA0 (zAq hu (zDd (zA0 zAb (zA0 zAb zA2))) (zAj (zDa h) zA8 (rm hr) h.d33 zA9 (zA0 (de_v 0) (zA0 zA4 zA2)))) (zA0 zAb zA2))) zT8 (zPn (zAj (zDa h) zA8 (rm hr) h.d33 zA9 (zA0 (de_v 0) (zA0 zA4 zA2)))))) (zAi 4 nd) (zA3 (zAk (dt_w (zJ3 (zAd (zCi (un1 hr)) (zQt (de_v 3) zT8 (zPn zA4)) zAb) (dw_1 (dt_w (zG4 (zAd (zBr (un1 hr)) (de_v 4) zAb) (dw_1 (zAd (zK7 (un1 hr)) zAb (de_v 3)))))))) (zA1 (zAk (zAd (zLe (un1 hr)) (de_v 3) (zE2 (zNw h) zA8 (rm hr) zA9 (zE2 (zJh h) zA8 (rm hr) zA9 (de_v 1)))) (zA3 (zBs (zC1 (zYs h) zA8 (rm hr) zA9 (de_v 1) (zA0 (de_v 3) (zA0 (zE1 zA2) zA2))))) zA5)
  (zA3 (zAf 3 nd (zAm zB8 (zAm zB8 (zAm zB8 (zAm zB8 (de_v 3) zAb) (de_v 4)) zAb) (zAq hu (zDd (zA0 zAb (zA0 zAb (zA0 zAb zA2)))) (zAj (zDa h) zA8 (rm hr) h.d33 zA9 (zA0 (de_v 0) (zA0 zA4 zA2)))))))) zA5)))
  (zA3 (zAk (zAd (zLe (un1 hr)) (de_v 3) (zE2 (zNw h) zA8 (rm hr) zA9 (zE2 (zJh h) zA8 (rm hr) zA9 (de_v 1)))) (zA3 (zBs (zC1 (zYs h) zA8 (rm hr) zA9 (de_v 1) (zA0 (de_v 3) (zA0 (zE1 zA2) zA2))))) zA5)))))⟩
def zDn:Fn:=fnD 5 2 zN5.F
theorem zQd (h:Fx σ):Ok σ 7 45 ["_law_source_here", "_law_world"] zDn:=okF h.d45.fn zLb (zN5.ok h)
theorem zHb:FnScope ["_law_world", "_law_look"] ["_law_world"] (defScope zDh):=fsc
def zJ0:Dn ["_law_world", "_law_look"] "_law_things" zDh 4 46:=⟨_,fun h cdv A outer s H E hr=>by
 have nd:=zHb.nd;have hu:=zAn hr
 exact (zA1 (zAf 1 nd (zE2 (zJh h) zA8 (rm hr) zA9 (de_v 0)))
  (zA3 (zA6 (zBb (zFq (mu:=false) rfl) h.b_dict PyProof.Rows.boot_dict (zA0 (zAw (T:=["_law_name"]) rfl ScOk.auto (zAt (zE2 (zNw h) zA8 (rm hr) zA9 (de_v 1))) (fun _ _ _ _=>(zAi 2 (by decide +kernel:(["_law_world", "_law_look", "_law_name"]:List Str).Nodup))) (fun _ _ _ _=>zBt) (fun _ _ _ _=>(zE1 (zA0 (de_v 2) (zA0 (zC1 (zIx h) zA8 (rm hr) zJb (de_v 1) (zA0 (de_v 2) zA2)) zA2))))) zA2)))))⟩
def zAz:Fn:=fnD 2 1 zJ0.F
theorem zC4 (h:Fx σ):Ok σ 5 46 ["_law_world"] zAz:=okF h.d46.fn zHb (zJ0.ok h)
theorem zK3:FnScope ["self", "hand"] ["self", "hand"] (defScope zFg):=fsc
def zHs:Dn ["self", "hand"] "Look.last" zFg 1 47:=⟨_,fun h cdv A outer s H E hr=>by
 have nd:=zK3.nd;have hu:=zAn hr
 exact (zA3 (zA6 (zO6 (zAo (zBu (T:="str") h.kt h.b_isinstance h.b_str (by decide) PyProof.Rows.boot_str (de_v 1))) (zQv hu (zAg h.tb (de_v 0)) (de_v 1) zA4) zA4)))⟩
def zFv:Fn:=fnD 2 2 zHs.F
theorem zP0 (h:Fx σ):Ok σ 2 47 ["self", "hand"] zFv:=okF h.n47 zK3 (zHs.ok h)
def zQ3:List (Str×Fn):=[("Look",zFv)]
theorem zUh (h:Fx σ):MtOk σ.P σ.w σ.K σ.mg σ.base (CXM σ.P σ.w) σ.cl 2 "last" ["self", "hand"] zQ3:=mtOk h.inj (.cons ⟨_,_,h.c_Look,h.q_Look_last,(zP0 h).mono (by decide),h.k47⟩ (.nil)) (by decide +kernel)
theorem zE8:FnScope ["self", "kind"] ["self", "kind"] (defScope zBz):=fsc
def zCt:Dn ["self", "kind"] "Make.suits_kind" zBz 4 48:=⟨_,fun h cdv A outer s H E hr=>by
 have nd:=zE8.nd;have hu:=zAn hr
 exact (zA3 (zA6 (zAj (zLg h) zA8 (rm hr) h.d42 zA9 (zA0 (de_v 1) (zA0 (zAg h.tb (de_v 0)) zA2)))))⟩
def zC3:Fn:=fnD 2 2 zCt.F
theorem zIw (h:Fx σ):Ok σ 5 48 ["self", "kind"] zC3:=okF h.n48 zE8 (zCt.ok h)
theorem zE7:FnScope ["self", "kind"] ["self", "kind"] (defScope zBy):=fsc
def zCs:Dn ["self", "kind"] "Take.suits_kind" zBy 1 49:=⟨_,fun h cdv A outer s H E hr=>by
 have nd:=zE7.nd;have hu:=zAn hr
 exact (zA3 (zA6 zCu))⟩
def zC2:Fn:=fnD 2 2 zCs.F
theorem zIv (h:Fx σ):Ok σ 2 49 ["self", "kind"] zC2:=okF h.n49 zE7 (zCs.ok h)
def zEr:List (Str×Fn):=[("Make",zC3),("Take",zC2)]
theorem zNu (h:Fx σ):MtOk σ.P σ.w σ.K σ.mg σ.base (CXM σ.P σ.w) σ.cl 5 "suits_kind" ["self", "kind"] zEr:=mtOk h.inj (.cons ⟨_,_,h.c_Make,h.q_Make_suits_kind,(zIw h).mono (by decide),h.k48⟩ (.cons ⟨_,_,h.c_Take,h.q_Take_suits_kind,(zIv h).mono (by decide),h.k49⟩ (.nil))) (by decide +kernel)
theorem zGb:FnScope ["self", "name", "there"] ["self", "name"] (defScope zD4):=fsc
def zD7:Dn ["self", "name", "there"] "Look.mark_of" zD4 2 50:=⟨_,fun h cdv A outer s H E hr=>by
 have nd:=zGb.nd;have hu:=zAn hr
 exact (zA1 (zAf 2 nd (zC1 (zIx h) zA8 (rm hr) zA9 (de_v 0) (zA0 (de_v 1) zA2)))
  (zA3 (zA6 (zO6 (zAd zGe (de_v 2) zB0) zB0 (zAq hu (de_v 2) zA4)))))⟩
def zBa:Fn:=fnD 3 2 zD7.F
theorem zLn (h:Fx σ):Ok σ 3 50 ["self", "name"] zBa:=okF h.n50 zGb (zD7.ok h)
def zF5:List (Str×Fn):=[("Look",zBa)]
theorem zMv (h:Fx σ):MtOk σ.P σ.w σ.K σ.mg σ.base (CXM σ.P σ.w) σ.cl 3 "mark_of" ["self", "name"] zF5:=mtOk h.inj (.cons ⟨_,_,h.c_Look,h.q_Look_mark_of,(zLn h).mono (by decide),h.k50⟩ (.nil)) (by decide +kernel)
theorem zF0:FnScope ["self"] ["self"] (defScope zCa):=fsc
def zDf:Dn ["self"] "Make.seen_mark" zCa 1 51:=⟨_,fun h cdv A outer s H E hr=>by
 have nd:=zF0.nd;have hu:=zAn hr
 exact (zA3 (zA6 zB0))⟩
def zCd:Fn:=fnD 1 1 zDf.F
theorem zJf (h:Fx σ):Ok σ 2 51 ["self"] zCd:=okF h.n51 zF0 (zDf.ok h)
theorem zEz:FnScope ["self"] ["self"] (defScope zC9):=fsc
def zDe:Dn ["self"] "Take.seen_mark" zC9 1 52:=⟨_,fun h cdv A outer s H E hr=>by
 have nd:=zEz.nd;have hu:=zAn hr
 exact (zA3 (zA6 (zAg h.tb (de_v 0))))⟩
def zCc:Fn:=fnD 1 1 zDe.F
theorem zJe (h:Fx σ):Ok σ 2 52 ["self"] zCc:=okF h.n52 zEz (zDe.ok h)
def zCv:List (Str×Fn):=[("Make",zCd),("Take",zCc)]
theorem zP4 (h:Fx σ):MtOk σ.P σ.w σ.K σ.mg σ.base (CXM σ.P σ.w) σ.cl 2 "seen_mark" ["self"] zCv:=mtOk h.inj (.cons ⟨_,_,h.c_Make,h.q_Make_seen_mark,(zJf h).mono (by decide),h.k51⟩ (.cons ⟨_,_,h.c_Take,h.q_Take_seen_mark,(zJe h).mono (by decide),h.k52⟩ (.nil))) (by decide +kernel)
theorem zMr:FnScope ["kinds", "seen", "deed", "parts"] ["kinds", "seen", "deed"] (defScope zIk):=fsc
def zDz:Dn ["kinds", "seen", "deed", "parts"] "is_late" zIk 5 53:=⟨_,fun h cdv A outer s H E hr=>by
 have nd:=zMr.nd;have hu:=zAn hr
 exact (zA1 (yBi h.hd rfl rfl rfl h.g_NoName (fun _ _=>(zA3 (zAf 3 nd (zAj (zCr h) zA8 (rm hr) h.d11 (pas_T rfl rfl rfl) (zA0 (de_v 0) (zA0 (zAg h.tb (de_v 2)) zA2)))))) (fun _=>(zA3 (zA6 zCu))))
  (zA1 (zAk (dt_w (zG4 (zAd (zBr (un1 hr)) (zC1 (zMv h) zA8 (rm hr) zA9 (de_v 1) (zA0 (zAg h.tb (de_v 2)) zA2)) (zE2 (zP4 h) zA8 (rm hr) zA9 (de_v 2))) (dw_1 (zAd (zBr (un1 hr)) (zC1 (zMv h) zA8 (rm hr) zA9 (de_v 1) (zA0 (zAq hu (de_v 3) zA4) zA2)) (zAg h.tb (de_v 2)))))) (zA3 (zA6 zCu)) zA5)
  (zA3 (zA6 (zZb (zC1 (zNu h) zA8 (rm hr) zA9 (de_v 2) (zA0 (zC1 (zMh h) zA8 (rm hr) zA9 (de_v 0) (zA0 (zAq hu (de_v 3) zA4) zA2)) zA2)))))))⟩
def zBi:Fn:=fnD 4 3 zDz.F
theorem zT1 (h:Fx σ):Ok σ 6 53 ["kinds", "seen", "deed"] zBi:=okF h.d53.fn zMr (zDz.ok h)
theorem zK2:FnScope ["self"] ["self"] (defScope zFf):=fsc
def zHr:Dn ["self"] "Look.turn" zFf 1 54:=⟨_,fun h cdv A outer s H E hr=>by
 have nd:=zK2.nd;have hu:=zAn hr
 exact (zA3 (zA6 (zAg h.tb (de_v 0))))⟩
def zFu:Fn:=fnD 1 1 zHr.F
theorem zOz (h:Fx σ):Ok σ 2 54 ["self"] zFu:=okF h.n54 zK2 (zHr.ok h)
def zVz:List (Str×Fn):=[("Look",zFu)]
theorem yAx (h:Fx σ):MtOk σ.P σ.w σ.K σ.mg σ.base (CXM σ.P σ.w) σ.cl 2 "turn" ["self"] zVz:=mtOk h.inj (.cons ⟨_,_,h.c_Look,h.q_Look_turn,(zOz h).mono (by decide),h.k54⟩ (.nil)) (by decide +kernel)
theorem zL4:FnScope ["kinds", "seen", "deed"] ["kinds", "seen", "deed"] (defScope zGy):=fsc
def zH8:Dn ["kinds", "seen", "deed"] "word_for" zGy 6 55:=⟨_,fun h cdv A outer s H E hr=>by
 have nd:=zL4.nd;have hu:=zAn hr
 exact (zA1 (zAk (zAd zIo (zAg h.tb (de_v 2)) (zC1 (zUh h) zA8 (rm hr) zA9 (de_v 1) (zA0 (zAg h.tb (de_v 2)) zA2))) (zA3 (zA6 zAb)) zA5)
  (zA1 (zAk (zAd (zBr (un1 hr)) (zAg h.tb (de_v 2)) (zE2 (yAx h) zA8 (rm hr) zA9 (de_v 1))) (zA3 (zA6 zAb)) zA5)
  (zA1 (zAk (zAo (zAj (zT1 h) zA8 (rm hr) h.d53 zA9 (zA0 (de_v 0) (zA0 (de_v 1) (zA0 (de_v 2) zA2))))) (zA3 (zA6 zAb)) zA5)
  (zA1 (zAk (dt_w (zJ3 (zAo (zO5 h.kt h.b_isinstance h.g_Make (by decide +kernel) (de_v 2))) (dw_1 (zAo (zC1 (zMw h) zA8 (rm hr) zA9 (de_v 1) (zA0 (zAq hu (zAj (zCr h) zA8 (rm hr) h.d11 zA9 (zA0 (de_v 0) (zA0 (zAg h.tb (de_v 2)) zA2))) zA4) zA2)))))) (zA3 (zA6 zAb)) zA5)
  (zA3 (zA6 zAb))))))⟩
def zF6:Fn:=fnD 3 3 zH8.F
theorem zQa (h:Fx σ):Ok σ 7 55 ["kinds", "seen", "deed"] zF6:=okF h.d55.fn zL4 (zH8.ok h)
theorem zDs:FnScope ["self", "kind", "state"] ["self", "kind", "state"] (defScope zBm):=fsc
def zCl:Dn ["self", "kind", "state"] "Make.state_after" zBm 1 56:=⟨_,fun h cdv A outer s H E hr=>by
 have nd:=zDs.nd;have hu:=zAn hr
 exact (zA3 (zA6 (zAg h.tb (de_v 0))))⟩
def zBq:Fn:=fnD 3 3 zCl.F
theorem zHo (h:Fx σ):Ok σ 2 56 ["self", "kind", "state"] zBq:=okF h.n56 zDs (zCl.ok h)
theorem zDr:FnScope ["self", "kind", "state"] ["self", "kind", "state"] (defScope zBl):=fsc
def zCk:Dn ["self", "kind", "state"] "Take.state_after" zBl 1 57:=⟨_,fun h cdv A outer s H E hr=>by
 have nd:=zDr.nd;have hu:=zAn hr
 exact (zA3 (zA6 zB0))⟩
def zBp:Fn:=fnD 3 3 zCk.F
theorem zHn (h:Fx σ):Ok σ 2 57 ["self", "kind", "state"] zBp:=okF h.n57 zDr (zCk.ok h)
def zFs:List (Str×Fn):=[("Make",zBq),("Take",zBp)]
theorem zMg (h:Fx σ):MtOk σ.P σ.w σ.K σ.mg σ.base (CXM σ.P σ.w) σ.cl 2 "state_after" ["self", "kind", "state"] zFs:=mtOk h.inj (.cons ⟨_,_,h.c_Make,h.q_Make_state_after,(zHo h).mono (by decide),h.k56⟩ (.cons ⟨_,_,h.c_Take,h.q_Take_state_after,(zHn h).mono (by decide),h.k57⟩ (.nil))) (by decide +kernel)
theorem zE5:FnScope ["self", "name", "other"] ["self", "name"] (defScope zBw):=fsc
def zF2:Dn ["self", "name", "other"] "World.take_away" zBw 1 58:=⟨_,fun h cdv A outer s H E hr=>by
 have nd:=zE5.nd;have hu:=zAn hr
 exact (zA3 (zEo PassesOwn.leaving rfl (zAt (zBb (zM8 rfl) h.b_list PyProof.Rows.boot_list (zA0 (zAg h.tb (de_v 0)) zA2))) (zAi 2 nd) (zA3 (zAk (dt_w (zG4 (zAd (zCi (un1 hr)) (de_v 2) (de_v 1)) (dw_1 (zAo (de_m zGs (de_v 2) (zA0 (zQu (zN9 (de_v 1) (zSe zVe))) zA2)))))) (zA3 (zBs (yBp (zAg h.tb (de_v 0)) (de_v 2)))) zA5))))⟩
def zBe:Fn:=fnD 3 2 zF2.F
theorem zIt (h:Fx σ):Ok σ 2 58 ["self", "name"] zBe:=okF h.n58 zE5 (zF2.ok h)
def zMb:List (Str×Fn):=[("World",zBe)]
theorem zP3 (h:Fx σ):MtOk σ.P σ.w σ.K σ.mg σ.base (CXM σ.P σ.w) σ.cl 2 "take_away" ["self", "name"] zMb:=mtOk h.inj (.cons ⟨_,_,h.c_World,h.q_World_take_away,(zIt h).mono (by decide),h.k58⟩ (.nil)) (by decide +kernel)
theorem zE6:FnScope ["self", "deed", "state", "kind", "after"] ["self", "deed", "state"] (defScope zBx):=fsc
def zC0:Dn ["self", "deed", "state", "kind", "after"] "World.carry_out" zBx 4 59:=⟨_,fun h cdv A outer s H E hr=>by
 have nd:=zE6.nd;have hu:=zAn hr
 exact (zA1 (zAf 3 nd (zC1 (zMh h) zA8 (rm hr) zA9 (zAg h.tb (de_v 0)) (zA0 (zAq hu (zAj (zCr h) zA8 (rm hr) h.d11 zA9 (zA0 (zAg h.tb (de_v 0)) (zA0 (zAg h.tb (de_v 1)) zA2))) zA4) zA2)))
  (zA1 (zAf 4 nd (zC1 (zMg h) zA8 (rm hr) zA9 (de_v 1) (zA0 (de_v 3) (zA0 (de_v 2) zA2))))
  (zA1 (zAk (zAd zGe (de_v 4) zB0) (zA3 (zBs (zC1 (zP3 h) zA8 (rm hr) zA9 (de_v 0) (zA0 (zAg h.tb (de_v 1)) zA2)))) (zA3 (zBs (zC1 (zUi h) zA8 (rm hr) zA9 (de_v 0) (zA0 (zAg h.tb (de_v 1)) (zA0 (de_v 4) zA2))))))
  (zA3 (zN8 hu (zAg h.tb (de_v 0)) (zAg h.tb (de_v 1)) (zAg h.tb (de_v 1)))))))⟩
def zAr:Fn:=fnD 5 3 zC0.F
theorem zIu (h:Fx σ):Ok σ 5 59 ["self", "deed", "state"] zAr:=okF h.n59 zE6 (zC0.ok h)
def zHz:List (Str×Fn):=[("World",zAr)]
theorem zP5 (h:Fx σ):MtOk σ.P σ.w σ.K σ.mg σ.base (CXM σ.P σ.w) σ.cl 5 "carry_out" ["self", "deed", "state"] zHz:=mtOk h.inj (.cons ⟨_,_,h.c_World,h.q_World_carry_out,(zIu h).mono (by decide),h.k59⟩ (.nil)) (by decide +kernel)
theorem zFy:FnScope ["self", "name", "there"] ["self", "name"] (defScope zCh):=fsc
def zE0:Dn ["self", "name", "there"] "Look.state_of" zCh 2 60:=⟨_,fun h cdv A outer s H E hr=>by
 have nd:=zFy.nd;have hu:=zAn hr
 exact (zA1 (zAf 2 nd (zC1 (zIx h) zA8 (rm hr) zA9 (de_v 0) (zA0 (de_v 1) zA2)))
  (zA3 (zA6 (zO6 (zAd zGe (de_v 2) zB0) zB0 (zAq hu (de_v 2) zA4)))))⟩
def zCn:Fn:=fnD 3 2 zE0.F
theorem zKo (h:Fx σ):Ok σ 3 60 ["self", "name"] zCn:=okF h.n60 zFy (zE0.ok h)
def zJn:List (Str×Fn):=[("Look",zCn)]
theorem zQh (h:Fx σ):MtOk σ.P σ.w σ.K σ.mg σ.base (CXM σ.P σ.w) σ.cl 3 "state_of" ["self", "name"] zJn:=mtOk h.inj (.cons ⟨_,_,h.c_Look,h.q_Look_state_of,(zKo h).mono (by decide),h.k60⟩ (.nil)) (by decide +kernel)
theorem zLc:FnScope ["self", "deed", "seen", "word"] ["self", "deed"] (defScope zH6):=fsc
def zDm:Dn ["self", "deed", "seen", "word"] "World.do" zH6 7 61:=⟨_,fun h cdv A outer s H E hr=>by
 have nd:=zLc.nd;have hu:=zAn hr
 exact (zA1 (zAk (zAs (zAo (zO5 h.kt h.b_isinstance h.g_Deed (by decide +kernel) (de_v 1)))) (zA3 (zAl h.ex (by decide +kernel) zCo rfl (zA0 zAb zA2))) zA5)
  (zA1 (zAf 2 nd (zE2 (zJh h) zA8 (rm hr) zA9 (de_v 0)))
  (zA1 (zAf 3 nd (zAj (zQa h) zA8 (rm hr) h.d55 zA9 (zA0 (zAg h.tb (de_v 0)) (zA0 (de_v 2) (zA0 (de_v 1) zA2)))))
  (zA1 (zAk (zAd (zCi (un1 hr)) (de_v 3) zAb) (zA3 (zBs (zC1 (zP5 h) zA8 (rm hr) zA9 (de_v 0) (zA0 (de_v 1) (zA0 (zC1 (zQh h) zA8 (rm hr) zA9 (de_v 2) (zA0 (zAg h.tb (de_v 1)) zA2)) zA2))))) zA5)
  (zA3 (zA6 (de_v 3)))))))⟩
def zAx:Fn:=fnD 4 2 zDm.F
theorem zQe (h:Fx σ):Ok σ 8 61 ["self", "deed"] zAx:=okF h.n61 zLc (zDm.ok h)
def T_do:List (Str×Fn):=[("World",zAx)]
theorem zX2 (h:Fx σ):MtOk σ.P σ.w σ.K σ.mg σ.base (CXM σ.P σ.w) σ.cl 8 "do" ["self", "deed"] T_do:=mtOk h.inj (.cons ⟨_,_,h.c_World,h.q_World_do,(zQe h).mono (by decide),h.k61⟩ (.nil)) (by decide +kernel)
theorem zK6:FnScope ["self", "hand", "number", "wishing", "name"] ["self", "hand", "number", "wishing", "name"] (defScope zFi):=fsc
def zHu:Dn ["self", "hand", "number", "wishing", "name"] "Deed.__init__" zFi 3 62:=⟨_,fun h cdv A outer s H E hr=>by
 have nd:=zK6.nd;have hu:=zAn hr
 exact (zA1 (zAk (zAs (zAo (zAj (zB5 h) zA8 (rm hr) h.d1 zA9 (zA0 (de_v 1) zA2)))) (zA3 (zAl h.ex (by decide +kernel) zCo rfl (zA0 zAb zA2))) zA5)
  (zA1 (zAk (zAs (zAo (zAj (zCb h) zA8 (rm hr) h.d23 zA9 (zA0 zA4 (zA0 (de_v 2) zA2))))) (zA3 (zAl h.ex (by decide +kernel) zCo rfl (zA0 zAb zA2))) zA5)
  (zA1 (zAk (zAs (zAo (zAj (zCb h) zA8 (rm hr) h.d23 zA9 (zA0 zA4 (zA0 (de_v 3) zA2))))) (zA3 (zAl h.ex (by decide +kernel) zCo rfl (zA0 zAb zA2))) zA5)
  (zA1 (zAk (zAs (zAo (zAj (zLh h) zA8 (rm hr) h.d10 zA9 (zA0 (de_v 4) zA2)))) (zA3 (zAl h.ex (by decide +kernel) zCo rfl (zA0 zAb zA2))) zA5)
  (zA1 (zB7 h.tb (de_v 0) (de_v 1))
  (zA1 (zB7 h.tb (de_v 0) (de_v 2))
  (zA1 (zB7 h.tb (de_v 0) (de_v 3))
  (zA3 (zB7 h.tb (de_v 0) (de_v 4))))))))))⟩
def zI2:Fn:=fnD 5 5 zHu.F
theorem zKa (h:Fx σ):Ok σ 4 62 ["self", "hand", "number", "wishing", "name"] zI2:=okF h.n62 zK6 (zHu.ok h)
theorem zI8:FnScope ["mark"] ["mark"] (defScope zEa):=fsc
def zGj:Dn ["mark"] "check_mark" zEa 3 63:=⟨_,fun h cdv A outer s H E hr=>by
 have nd:=zI8.nd;have hu:=zAn hr
 exact (zA3 (zAk (zAs (zAo (zAj (zCb h) zA8 (rm hr) h.d23 zA9 (zA0 zA4 (zA0 (de_v 0) zA2))))) (zA3 (zAl h.ex (by decide +kernel) zCo rfl (zA0 zAb zA2))) zA5))⟩
def zGu:Fn:=fnD 1 1 zGj.F
theorem zIr (h:Fx σ):Ok σ 4 63 ["mark"] zGu:=okF h.d63.fn zI8 (zGj.ok h)
theorem zDp:FnScope ["name", "owner_mark"] ["name", "owner_mark"] (defScope zBj):=fsc
def zBn:Dn ["name", "owner_mark"] "check_owner_mark" zBj 4 64:=⟨_,fun h cdv A outer s H E hr=>by
 have nd:=zDp.nd;have hu:=zAn hr
 exact (zA3 (zAk (zAd zIp (de_m zVx (de_v 0) (zA0 zAb zA2)) zA4) (zA3 (zBs (zAj (zIr h) zA8 (rm hr) h.d63 zA9 (zA0 (de_v 1) zA2)))) (zA3 (zAk (zAd zDu (de_v 1) zB0) (zA3 (zAl h.ex (by decide +kernel) zCo rfl (zA0 zAb zA2))) zA5))))⟩
def zBo:Fn:=fnD 2 2 zBn.F
theorem zDv (h:Fx σ):Ok σ 5 64 ["name", "owner_mark"] zBo:=okF h.d64.fn zDp (zBn.ok h)
theorem zK0:FnScope ["self", "hand", "number", "wishing", "name", "mark", "owner_mark"] ["self", "hand", "number", "wishing", "name", "mark", "owner_mark"] (defScope zFd):=fsc
def zHp:Dn ["self", "hand", "number", "wishing", "name", "mark", "owner_mark"] "Take.__init__" zFd 5 65:=⟨_,fun h cdv A outer s H E hr=>by
 have nd:=zK0.nd;have hu:=zAn hr
 exact (zA1 (zBs (yFf h.f62 (zKa h) zA8 (rm hr) h.g_Deed h.k62 zA9 (zA0 (de_v 0) (zA0 (de_v 1) (zA0 (de_v 2) (zA0 (de_v 3) (zA0 (de_v 4) zA2)))))))
  (zA1 (zBs (zAj (zIr h) zA8 (rm hr) h.d63 zA9 (zA0 (de_v 5) zA2)))
  (zA1 (zBs (zAj (zDv h) zA8 (rm hr) h.d64 zA9 (zA0 (de_v 4) (zA0 (de_v 6) zA2))))
  (zA1 (zB7 h.tb (de_v 0) (de_v 5))
  (zA3 (zB7 h.tb (de_v 0) (de_v 6)))))))⟩
def zFt:Fn:=fnD 7 7 zHp.F
theorem zOy (h:Fx σ):Ok σ 6 65 ["self", "hand", "number", "wishing", "name", "mark", "owner_mark"] zFt:=okF h.n65 zK0 (zHp.ok h)
theorem zJy:FnScope ["_law_hand", "_law_number", "_law_name", "_law_things_here", "_law_words", "_law_owner_mark"] ["_law_hand", "_law_number", "_law_name", "_law_things_here"] (defScope zFb):=fsc
def zFn:Dn ["_law_hand", "_law_number", "_law_name", "_law_things_here", "_law_words", "_law_owner_mark"] "_law_deed" zFb 7 66:=⟨_,fun h cdv A outer s H E hr=>by
 have nd:=zJy.nd;have hu:=zAn hr
 exact (zA1 (zAf 4 nd (de_m zOg (de_v 2) (zA0 zAb zA2)))
  (zA1 (zAf 5 nd zB0)
  (zA1 (zAk (zAd zIp (zAe zCm h.b_len PySem.boot_len (zA0 (de_v 4) zA2)) zA4) (zA3 (zAf 5 nd (zAq hu (zQv hu (de_v 3) (de_m zSn zAb (zA0 (zQt (de_v 4) zT8 (zPn (zPp zA4))) zA2)) (zE1 (zA0 zB0 (zA0 zA4 zA2)))) zA4))) zA5)
  (zA3 (zA6 (zGq h.m_Take (zOy h) (rm hr) h.g_Take h.k65 .nil (fun _=>.nil) zA9 (zA0 (de_v 0) (zA0 (de_v 1) (zA0 zA4 (zA0 (de_v 2) (zA0 (zAq hu (zQv hu (de_v 3) (de_v 2) (zE1 (zA0 zB0 (zA0 zA4 zA2)))) zA4) (zA0 (de_v 5) zA2))))))))))))⟩
def zCw:Fn:=fnD 6 4 zFn.F
theorem zK8 (h:Fx σ):Ok σ 8 66 ["_law_hand", "_law_number", "_law_name", "_law_things_here"] zCw:=okF h.d66.fn zJy (zFn.ok h)
theorem zK1:FnScope ["self", "hand", "number", "wishing", "name", "owner_mark", "state"] ["self", "hand", "number", "wishing", "name", "owner_mark", "state"] (defScope zFe):=fsc
def zHq:Dn ["self", "hand", "number", "wishing", "name", "owner_mark", "state"] "Make.__init__" zFe 5 67:=⟨_,fun h cdv A outer s H E hr=>by
 have nd:=zK1.nd;have hu:=zAn hr
 exact (zA1 (zBs (yFf h.f62 (zKa h) zA8 (rm hr) h.g_Deed h.k62 zA9 (zA0 (de_v 0) (zA0 (de_v 1) (zA0 (de_v 2) (zA0 (de_v 3) (zA0 (de_v 4) zA2)))))))
  (zA1 (zBs (zAj (zDv h) zA8 (rm hr) h.d64 zA9 (zA0 (de_v 4) (zA0 (de_v 5) zA2))))
  (zA1 (zAk (dt_w (zG4 (zAs (zAo (zBu (T:="tuple") h.kt h.b_isinstance h.b_tuple (by decide) PyProof.Rows.boot_tuple (de_v 6)))) (dw_1 (zAs (zAo (zAe (zF4 rfl) h.b_all PyProof.Rows.boot_all (zA0 (zAw (T:=["value"]) rfl ScOk.auto (zAt (de_v 6)) (fun _ _ _ _=>(zAi 7 (by decide +kernel:(["self", "hand", "number", "wishing", "name", "owner_mark", "state", "value"]:List Str).Nodup))) (fun _ _ _ _=>zBt) (fun _ _ _ _=>(zAj (zB5 h) zA8 (rm hr) h.d1 zJb (zA0 (de_v 7) zA2)))) zA2))))))) (zA3 (zAl h.ex (by decide +kernel) zCo rfl (zA0 zAb zA2))) zA5)
  (zA1 (zB7 h.tb (de_v 0) (de_v 5))
  (zA3 (zB7 h.tb (de_v 0) (de_v 6)))))))⟩
def zCy:Fn:=fnD 7 7 zHq.F
theorem zK9 (h:Fx σ):Ok σ 6 67 ["self", "hand", "number", "wishing", "name", "owner_mark", "state"] zCy:=okF h.n67 zK1 (zHq.ok h)
theorem zE4:FnScope ["_law_world", "_law_gone", "_law_number", "_law_things_here", "_law_name", "_law_words"] ["_law_world", "_law_gone", "_law_number"] (defScope zBv):=fsc
def zF1:Dn ["_law_world", "_law_gone", "_law_number", "_law_things_here", "_law_name", "_law_words"] "_law_gone_right" zBv 8 68:=⟨_,fun h cdv A outer s H E hr=>by
 have nd:=zE4.nd;have hu:=zAn hr
 exact (zA1 (zAf 3 nd (zAj (zC4 h) zA8 (rm hr) h.d46 zA9 (zA0 (de_v 0) zA2)))
  (zA1 (zEo PassesOwn.leaving rfl (zAt (de_v 1)) (zAi 4 nd) (zA1 (zAk (zAd (zBr (un1 hr)) (zC1 (zX2 h) zA8 (rm hr) zA9 (de_v 0) (zA0 (zAj (zK8 h) zA8 (rm hr) h.d66 zA9 (zA0 zAb (zA0 (de_v 2) (zA0 (de_v 4) (zA0 (zBb (zFq (mu:=false) rfl) h.b_dict PyProof.Rows.boot_dict (zA0 (de_v 1) zA2)) zA2))))) zA2)) zAb) (zA3 (zA6 zCu)) zA5)
  (zA1 (zAf 5 nd (de_m zOg (de_v 4) (zA0 zAb zA2)))
  (zA3 (zAk (dt_w (zJ3 (zAd zIp (zAe zCm h.b_len PySem.boot_len (zA0 (de_v 5) zA2)) zA4) (dw_1 (zAd (zLe (un1 hr)) (de_m zSn zAb (zA0 (zQt (de_v 5) zT8 (zPn (zPp zA4))) zA2)) (de_v 3))))) (zA3 (zAk (zAd (zBr (un1 hr)) (zC1 (zX2 h) zA8 (rm hr) zA9 (de_v 0) (zA0 (zGq h.m_Make (zK9 h) (rm hr) h.g_Make h.k67 .nil (fun _=>.nil) zA9 (zA0 zAb (zA0 (de_v 2) (zA0 zA4 (zA0 (de_v 4) (zA0 (zAq hu (zAq hu (de_v 1) (de_m zSn zAb (zA0 (zQt (de_v 5) zT8 (zPn (zPp zA4))) zA2))) zA4) (zA0 (zE1 zA2) zA2))))))) zA2)) zAb) (zA3 (zA6 zCu)) zA5)) zA5)))))
  (zA3 (zA6 (zG2 (zCi (un1 hr)) (zAj (zC4 h) zA8 (rm hr) h.d46 zA9 (zA0 (de_v 0) zA2)) (de_v 3))))))⟩
def zBd:Fn:=fnD 6 3 zF1.F
theorem zIs (h:Fx σ):Ok σ 9 68 ["_law_world", "_law_gone", "_law_number"] zBd:=okF h.d68.fn zE4 (zF1.ok h)
theorem zYf:FnScope ["_law_script", "_law_some", "_law_kinds", "_law_world", "_law_source_here", "_law_k", "_law_number", "_law_cell", "_law_things_here", "_law_name", "_law_gone", "_law_rest"] ["_law_script"] (defScope zJ9):=fsc
def yF5:Dn ["_law_script", "_law_some", "_law_kinds", "_law_world", "_law_source_here", "_law_k", "_law_number", "_law_cell", "_law_things_here", "_law_name", "_law_gone", "_law_rest"] "law" zJ9 11 69:=⟨_,fun h cdv A outer s H E hr=>by
 have nd:=zYf.nd;have hu:=zAn hr
 exact (zA1 (zAf 1 nd (zDd (zA0 (zGq h.m_Kind (zDb h) (rm hr) h.g_Kind h.k30 .nil (fun _=>.nil) zA9 (zA0 zAb (zA0 (zDd zA2) (zA0 zAb zA2)))) (zA0 (zGq h.m_Kind (zDb h) (rm hr) h.g_Kind h.k30 .nil (fun _=>.nil) zA9 (zA0 zAb (zA0 (zDd zA2) (zA0 zB0 zA2)))) (zA0 (zGq h.m_Kind (zDb h) (rm hr) h.g_Kind h.k30 .nil (fun _=>.nil) zA9 (zA0 zAb (zA0 (zDd zA2) (zA0 zAb zA2)))) (zA0 (zGq h.m_Kind (zDb h) (rm hr) h.g_Kind h.k30 .nil (fun _=>.nil) zA9 (zA0 zAb (zA0 (zDd zA2) (zA0 zAb zA2)))) zA2))))))
  (zA1 (zAf 2 nd (zGq h.m_Kinds (zNt h) (rm hr) h.g_Kinds h.k4 .nil (fun _=>.nil) zA9 (zA0 (zAm zB8 (de_v 1) (zDd (zA0 (zGq h.m_Kind (zDb h) (rm hr) h.g_Kind h.kd30 vals1 (fun _=>.cons .non .nil) zA9 (zA0 zAb (zA0 (zDd zA2) zA2))) zA2))) zA2)))
  (zA1 (zAf 3 nd (yFc h.m_World (zNq h) (rm hr) h.g_World h.kd25 vals1 (fun _=>.cons .non .nil) zA9 (zA0 (de_v 2) zA2)))
  (zA1 (zAf 4 nd (zAj (zMd h) yE8 (rm hr) h.d26 zA9 (zA0 (zAj (zLl h) zA8 (rm hr) h.d31 zA9 (zA0 (de_v 0) (zA0 zA4 zA2))) zA2)))
  (zA1 (zEo PassesOwn.leaving rfl (zXu h.b_range (zA0 (zAm zB8 zA4 (zAj (zDa h) zA8 (rm hr) h.d33 zA9 (zA0 (de_v 4) (zA0 zA4 zA2)))) zA2)) (zAi 5 nd) (zA3 (zBs (zAj (zQd h) zA8 (rm hr) h.d45 zA9 (zA0 (de_v 4) (zA0 (de_v 3) zA2))))))
  (zA1 (zAf 6 nd zA4)
  (zA1 (zEo PassesOwn.leaving rfl (zAt (zAm zB8 (zQt (de_v 0) (zPn zA4) (zPn zA4)) (zDd (zA0 zA4 zA2)))) (zAi 7 nd) (zA1 (zAf 8 nd (zAj (zC4 h) zA8 (rm hr) h.d46 zA9 (zA0 (de_v 3) zA2)))
  (zA3 (zAk (zAd (zBr (un1 hr)) (de_v 8) zZc) (zA1 (zAf 9 nd (zAq hu (zAe (zGr rfl) h.b_sorted PyProof.Rows.boot_sorted (zA0 (de_v 8) zA2)) (zAm zDt (de_v 7) (zAe zCm h.b_len PySem.boot_len (zA0 (de_v 8) zA2)))))
  (zA1 (zAf 6 nd (zAm zB8 (de_v 6) zA4))
  (zA1 (zAk (zAd (zBr (un1 hr)) (zC1 (zX2 h) zA8 (rm hr) zA9 (de_v 3) (zA0 (zAj (zK8 h) zA8 (rm hr) h.d66 zA9 (zA0 zAb (zA0 (de_v 6) (zA0 (de_v 9) (zA0 (de_v 8) zA2))))) zA2)) zAb) (zA3 (zA6 zCu)) zA5)
  (zA1 (zAf 10 nd (zBb (zFq (mu:=false) rfl) h.b_dict PyProof.Rows.boot_dict (zA0 (zAw (T:=["_law_one"]) rfl ScOk.auto (zAt (de_v 8)) (fun _ _ _ _=>(zAi 12 (by decide +kernel:(["_law_script", "_law_some", "_law_kinds", "_law_world", "_law_source_here", "_law_k", "_law_number", "_law_cell", "_law_things_here", "_law_name", "_law_gone", "_law_rest", "_law_one"]:List Str).Nodup))) (fun _ _ _ _=>(zNa (dt_w (zG4 (zAd (zCi (un1 hr)) (de_v 12) (de_v 9)) (dw_1 (zAo (de_m zGs (de_v 12) (zA0 (zAm zB8 (de_v 9) zAb) zA2)))))))) (fun _ _ _ _=>(zE1 (zA0 (de_v 12) (zA0 (zAq hu (de_v 8) (de_v 12)) zA2))))) zA2)))
  (zA1 (zAf 11 nd (zBb (zFq (mu:=false) rfl) h.b_dict PyProof.Rows.boot_dict (zA0 (zAw (T:=["_law_one"]) rfl ScOk.auto (zAt (de_v 8)) (fun _ _ _ _=>(zAi 12 (by decide +kernel:(["_law_script", "_law_some", "_law_kinds", "_law_world", "_law_source_here", "_law_k", "_law_number", "_law_cell", "_law_things_here", "_law_name", "_law_gone", "_law_rest", "_law_one"]:List Str).Nodup))) (fun _ _ _ _=>(zNa (zAd (zLe (un1 hr)) (de_v 12) (de_v 10)))) (fun _ _ _ _=>(zE1 (zA0 (de_v 12) (zA0 (zAq hu (de_v 8) (de_v 12)) zA2))))) zA2)))
  (zA1 (zAk (dt_w (zG4 (zAd (zBr (un1 hr)) (zAj (zC4 h) zA8 (rm hr) h.d46 zA9 (zA0 (de_v 3) zA2)) (de_v 11)) (dw_1 (zAs (zAo (zAj (zIs h) zA8 (rm hr) h.d68 zA9 (zA0 (de_v 3) (zA0 (de_v 10) (zA0 (zAm zB8 (de_v 6) zA4) zA2))))))))) (zA3 (zA6 zCu)) zA5)
  (zA3 (zAk (dt_w (zJ3 (zAd (zCi (un1 hr)) (zAm zDt (de_v 7) zA4) zA4) (dw_1 (zAd (zCi (un1 hr)) (de_m zVx (de_v 9) (zA0 zAb zA2)) zA4)))) (zA1 (zAf 6 nd (zAm zB8 (de_v 6) zA4))
  (zA1 (zAk (zAd (zBr (un1 hr)) (zC1 (zX2 h) zA8 (rm hr) zA9 (de_v 3) (zA0 (zGq h.m_Make (zK9 h) (rm hr) h.g_Make h.k67 .nil (fun _=>.nil) zA9 (zA0 zAb (zA0 (de_v 6) (zA0 zA4 (zA0 (de_v 9) (zA0 zB0 (zA0 (zE1 zA2) zA2))))))) zA2)) zAb) (zA3 (zA6 zCu)) zA5)
  (zA3 (zAk (zAd (zBr (un1 hr)) (zAe (zGr rfl) h.b_sorted PyProof.Rows.boot_sorted (zA0 (zAj (zC4 h) zA8 (rm hr) h.d46 zA9 (zA0 (de_v 3) zA2)) zA2)) (zAe (zGr rfl) h.b_sorted PyProof.Rows.boot_sorted (zA0 (zAm zB8 (zBb (zM8 rfl) h.b_list PyProof.Rows.boot_list (zA0 (de_v 11) zA2)) (zDd (zA0 (de_v 9) zA2))) zA2))) (zA3 (zA6 zCu)) zA5)))) zA5)))))))) zA5))))
  (zA3 (zA6 (zG2 (zCi (un1 hr)) (zC1 (zUh h) zA8 (rm hr) zA9 (zE2 (zJh h) zA8 (rm hr) zA9 (de_v 3)) (zA0 zAb zA2)) (de_v 6)))))))))))⟩
def zY8:Fn:=fnD 12 1 yF5.F
theorem yE9 (h:Fx σ):Ok σ 12 69 ["_law_script"] zY8:=okF h.d69.fn zYf (yF5.ok h)
end
end My
namespace My
open PySem L2 L2.F
def ob (n:Str) (o:D):D:=.obj "Kind" [("name",.str n),("fields",.lst []),("owner",o)]
def oNm (o:Option Str):D:=match o with
 | some x=>.str x
 | none=>.non
def KDS:List (Str×Option Str):=[("box",none),("lid",some "box"),("part",some "box"),("pin",some "lid"),("tray",none)]
def KS:D:=.obj "Kinds" [("by_name",.dct (KDS.map fun k=>(.inr k.1,ob k.1 (oNm k.2))))]
def WI:D:=.obj "Wishes" [("kinds",KS),("rows",.lst []),("by_name",.dct [])]
structure Nr where
 nm:Str
 kd:Str
 ow:Option Str
 no:Int
def TAB:List Nr:=[⟨"box.1", "box",none,1⟩,⟨"box.10", "box",none,10⟩,⟨"box.100", "box",none,100⟩,⟨"box.0", "box",none,0⟩,⟨"tray.1", "tray",none,1⟩,⟨"tray.10", "tray",none,10⟩,⟨"box.1.lid.1", "lid",some "box.1",1⟩,⟨"box.1.lid.1.pin.1", "pin",some "box.1.lid.1",1⟩,⟨"box.1.lid.1.pin.10", "pin",some "box.1.lid.1",10⟩,⟨"box.1.lid.1.pin.0", "pin",some "box.1.lid.1",0⟩,⟨"box.1.lid.10", "lid",some "box.1",10⟩,⟨"box.1.lid.10.pin.1", "pin",some "box.1.lid.10",1⟩,⟨"box.1.lid.10.pin.10", "pin",some "box.1.lid.10",10⟩,⟨"box.1.lid.10.pin.0", "pin",some "box.1.lid.10",0⟩,⟨"box.1.lid.0", "lid",some "box.1",0⟩,⟨"box.1.lid.0.pin.1", "pin",some "box.1.lid.0",1⟩,⟨"box.1.lid.0.pin.10", "pin",some "box.1.lid.0",10⟩,⟨"box.1.lid.0.pin.0", "pin",some "box.1.lid.0",0⟩,⟨"box.1.part.1", "part",some "box.1",1⟩,⟨"box.1.part.10", "part",some "box.1",10⟩,⟨"box.1.part.0", "part",some "box.1",0⟩,⟨"box.10.lid.1", "lid",some "box.10",1⟩,⟨"box.10.lid.1.pin.1", "pin",some "box.10.lid.1",1⟩,⟨"box.10.lid.1.pin.10", "pin",some "box.10.lid.1",10⟩,⟨"box.10.lid.1.pin.0", "pin",some "box.10.lid.1",0⟩,⟨"box.10.lid.10", "lid",some "box.10",10⟩,⟨"box.10.lid.10.pin.1", "pin",some "box.10.lid.10",1⟩,⟨"box.10.lid.10.pin.10", "pin",some "box.10.lid.10",10⟩,⟨"box.10.lid.10.pin.0", "pin",some "box.10.lid.10",0⟩,⟨"box.10.lid.0", "lid",some "box.10",0⟩,⟨"box.10.lid.0.pin.1", "pin",some "box.10.lid.0",1⟩,⟨"box.10.lid.0.pin.10", "pin",some "box.10.lid.0",10⟩,⟨"box.10.lid.0.pin.0", "pin",some "box.10.lid.0",0⟩,⟨"box.10.part.1", "part",some "box.10",1⟩,⟨"box.10.part.10", "part",some "box.10",10⟩,⟨"box.10.part.0", "part",some "box.10",0⟩,⟨"box.100.lid.1", "lid",some "box.100",1⟩,⟨"box.100.lid.1.pin.1", "pin",some "box.100.lid.1",1⟩,⟨"box.100.lid.1.pin.10", "pin",some "box.100.lid.1",10⟩,⟨"box.100.lid.1.pin.0", "pin",some "box.100.lid.1",0⟩,⟨"box.100.lid.10", "lid",some "box.100",10⟩,⟨"box.100.lid.10.pin.1", "pin",some "box.100.lid.10",1⟩,⟨"box.100.lid.10.pin.10", "pin",some "box.100.lid.10",10⟩,⟨"box.100.lid.10.pin.0", "pin",some "box.100.lid.10",0⟩,⟨"box.100.lid.0", "lid",some "box.100",0⟩,⟨"box.100.lid.0.pin.1", "pin",some "box.100.lid.0",1⟩,⟨"box.100.lid.0.pin.10", "pin",some "box.100.lid.0",10⟩,⟨"box.100.lid.0.pin.0", "pin",some "box.100.lid.0",0⟩,⟨"box.100.part.1", "part",some "box.100",1⟩,⟨"box.100.part.10", "part",some "box.100",10⟩,⟨"box.100.part.0", "part",some "box.100",0⟩,⟨"box.0.lid.1", "lid",some "box.0",1⟩,⟨"box.0.lid.1.pin.1", "pin",some "box.0.lid.1",1⟩,⟨"box.0.lid.1.pin.10", "pin",some "box.0.lid.1",10⟩,⟨"box.0.lid.1.pin.0", "pin",some "box.0.lid.1",0⟩,⟨"box.0.lid.10", "lid",some "box.0",10⟩,⟨"box.0.lid.10.pin.1", "pin",some "box.0.lid.10",1⟩,⟨"box.0.lid.10.pin.10", "pin",some "box.0.lid.10",10⟩,⟨"box.0.lid.10.pin.0", "pin",some "box.0.lid.10",0⟩,⟨"box.0.lid.0", "lid",some "box.0",0⟩,⟨"box.0.lid.0.pin.1", "pin",some "box.0.lid.0",1⟩,⟨"box.0.lid.0.pin.10", "pin",some "box.0.lid.0",10⟩,⟨"box.0.lid.0.pin.0", "pin",some "box.0.lid.0",0⟩,⟨"box.0.part.1", "part",some "box.0",1⟩,⟨"box.0.part.10", "part",some "box.0",10⟩,⟨"box.0.part.0", "part",some "box.0",0⟩]
def isTup (o:Out U) (k:Str) (w:Option Str) (i:Int):Bool:=match o with
 | .ok (.d (.tup [.str k',.str w',.int i'])) _=>decide (k'=k∧some w'=w∧i'=i)
 | .ok (.d (.tup [.str k',.non,.int i'])) _=>decide (k'=k∧none=w∧i'=i)
 | _=>false
theorem zXh {o:Out U}{k:Str}{w:Option Str}{i:Int} (h:isTup o k w i=true):∃ S',o=.ok (.d (.tup [.str k,oNm w,.int i])) S':=by
 unfold isTup at h;split at h
 ·next k' w' i' S' =>
  obtain ⟨rfl,rfl,rfl⟩:=of_decide_eq_true h;exact ⟨S',rfl⟩
 ·next k' i' S' =>
  obtain ⟨rfl,rfl,rfl⟩:=of_decide_eq_true h;exact ⟨S',rfl⟩
 ·cases h
theorem zU5:(TAB.all fun r=>isTup (zJo [.d KS,.d (.str r.nm)] []) r.kd r.ow r.no)=true:=by decide +kernel
theorem zEj {r:Nr} (h:r∈TAB) (S:Sto):rC zJo [.d KS,.d (.str r.nm)] S=.ok (.d (.tup [.str r.kd,oNm r.ow,.int r.no])) S:=by
 obtain ⟨S',e⟩:=zXh (List.all_eq_true.mp zU5 r h);exact zAp (xs:=[KS,.str r.nm]) e
def isOb (o:Out U) (k:Str) (w:Option Str):Bool:=match o with
 | .ok (.d (.obj c [(n1,.str k'),(n2,.lst []),(n3,.str w')])) _=>decide (c = "Kind"∧n1 = "name"∧n2 = "fields"∧n3 = "owner"∧k'=k∧some w'=w)
 | .ok (.d (.obj c [(n1,.str k'),(n2,.lst []),(n3,.non)])) _=>decide (c = "Kind"∧n1 = "name"∧n2 = "fields"∧n3 = "owner"∧k'=k∧none=w)
 | _=>false
theorem yBa {o:Out U}{k:Str}{w:Option Str} (h:isOb o k w=true):∃ S',o=.ok (.d (ob k (oNm w))) S':=by
 unfold isOb at h;split at h
 ·next S' =>
  obtain ⟨rfl,rfl,rfl,rfl,rfl,rfl⟩:=of_decide_eq_true h;exact ⟨S',rfl⟩
 ·next S' =>
  obtain ⟨rfl,rfl,rfl,rfl,rfl,rfl⟩:=of_decide_eq_true h;exact ⟨S',rfl⟩
 ·cases h
theorem yEa:(KDS.all fun k=>isOb (zH9 [.d KS,.d (.str k.1)] []) k.1 k.2)=true:=by decide +kernel
theorem of_eq {k:Str×Option Str} (h:k∈KDS) (S:Sto):rC zH9 [.d KS,.d (.str k.1)] S=.ok (.d (ob k.1 (oNm k.2))) S:=by
 obtain ⟨S',e⟩:=yBa (List.all_eq_true.mp yEa k h);exact zAp (xs:=[KS,.str k.1]) e
def isBl (o:Out U) (b:Bool):Bool:=match o with
 | .ok (.d (.bl b')) _=>b' == b
 | _=>false
theorem zQq {o:Out U}{b:Bool} (h:isBl o b=true):∃ S',o=.ok (.d (.bl b)) S':=by
 unfold isBl at h;split at h
 ·next b' S'=>rw [eq_of_beq h];exact ⟨S',rfl⟩
 ·cases h
theorem yCn:(KDS.all fun k=>isBl (zJq [.d (ob k.1 (oNm k.2)),.d (.tup [])] []) true)=true:=by decide +kernel
theorem yCm {k:Str×Option Str} (h:k∈KDS) (S:Sto):rC zJq [.d (ob k.1 (oNm k.2)),.d (.tup [])] S=.ok (.d (.bl true)) S:=by
 obtain ⟨S',e⟩:=zQq (List.all_eq_true.mp yCn k h);exact zAp (xs:=[ob k.1 (oNm k.2),.tup []]) e
theorem yF3:(TAB.all fun r=>isBl (zJr [.d (.str r.nm)] []) true)=true:=by decide +kernel
theorem yEu:(TAB.all fun r=>decide ((KDS.lookup r.kd).isSome=true))=true:=by decide +kernel
end My
namespace My
open PySem L2 L2.F
abbrev Ts:=List (Str×Int)
def ent (p:Str×Int):Key×D:=(.inr p.1,.tup [.tup [],.int p.2])
def th (T:Ts):List (Key×D):=T.map ent
def wI (m:Int):List (Str×U):=[("kinds",.d KS),("limits",.d (.dct [])),("things",.loc 1),("marks",.d (.int m)),("wishes",.d WI),("wishing",.d (.int 0)),("last_done",.loc 2)]
def sg (m:Int) (T:Ts) (ld:List (Key×D)) (s:Cell):Sto:=[.ins "World" (wI m),.dct (upK (th T)),.dct (upK ld),s]
def LK (T:Ts) (ld:List (Key×D)):D:=.obj "Look" [("kinds",KS),("limits",.dct []),("things",.dct (th T)),("wishes",WI),("wishing",.int 0),("last_done",.dct ld)]
def fKS:List (Str×D):=[("by_name",.dct (KDS.map fun k=>(.inr k.1,ob k.1 (oNm k.2))))]
def fOb (n:Str) (o:D):List (Str×D):=[("name",.str n),("fields",.lst []),("owner",o)]
def fLK (T:Ts) (ld:List (Key×D)):List (Str×D):=[("kinds",KS),("limits",.dct []),("things",.dct (th T)),("wishes",WI),("wishing",.int 0),("last_done",.dct ld)]
theorem zKf (S:Sto):insOf S (.d KS)=some (("Kinds" : Str),upK fKS):=rfl
theorem yF0 (S:Sto) (n:Str) (o:D):insOf S (.d (ob n o))=some (("Kind" : Str),upK (fOb n o)):=rfl
theorem zC5 (S:Sto) (T:Ts) (ld:List (Key×D)):insOf S (.d (LK T ld))=some (("Look" : Str),upK (fLK T ld)):=rfl
theorem zR7 (T:Ts):(th T).length=T.length:=by unfold th;rw [Z2]
theorem zUp {m:Int}{T:Ts}{ld:List (Key×D)}{s:Cell} (h1:T.length≤LM) (h2:ld.length≤LM):zI1 [.loc 4,.d KS,.d (.dct []),.loc 1,.d WI,.d (.int 0),.loc 2] [.ins "World" (wI m),.dct (upK (th T)),.dct (upK ld),s,.ins "Look" []]=.ok (.d .non) [.ins "World" (wI m),.dct (upK (th T)),.dct (upK ld),s,.ins "Look" [("kinds",.d KS),("limits",.d (.dct [])),("things",.d (.dct (th T))),("wishes",.d WI),("wishing",.d (.int 0)),("last_done",.d (.dct ld))]]:=by
 have c3:∀ S:Sto,S[1]? = some (.dct (upK (th T)))→dictD false [.loc 1] S=.ok (.d (.dct (th T))) S:=fun S h=>zO8 _ (th T) (by simp [dctOf,celD,h]) (by rw [zR7];exact h1);have c6:∀ S:Sto,S[2]? = some (.dct (upK ld))→dictD false [.loc 2] S=.ok (.d (.dct ld)) S:=fun S h=>zO8 _ ld (by simp [dctOf,celD,h]) h2;have c2:∀ S:Sto,dictD false [.d (.dct [])] S=.ok (.d (.dct [])) S:=fun S=>zO8 _ [] rfl (by decide);simp (decide:=true) [zI1,zHt,sFldS,c3,c6,c2,celI,putG]
theorem zGh {m:Int}{T:Ts}{ld:List (Key×D)}{s:Cell} (h1:T.length≤LM) (h2:ld.length≤LM) (hS:clC 4 s=true):rC zEt [.loc 0] (sg m T ld s)=.ok (.d (LK T ld)) (sg m T ld s):=by
 have h:=zUp (m:=m) (s:=s) h1 h2;unfold wI at h;simp (decide:=true) [sg,wI,zEt,zGl,fldD,insOf,celI,dMkC,h,snapB,LK,hS]
def thD (T:Ts) (nm:Str):D:=match T.lookup nm with
 | some k=>.tup [.tup [],.int k]
 | none=>.non
theorem zI4 (nm:Str):∀ T:Ts,valD (upK (th T)) (.inr nm)=(T.lookup nm).map fun k=>.d (.tup [.tup [],.int k])
 | []=>rfl
 | (a,k) :: r=>by
  have ih:=zI4 nm r;unfold valD at ih ⊢;show (List.find? _ ((Sum.inr a,_) :: upK (th r))).map _=_;rw [Y1];by_cases h:a=nm
  ·subst h;simp [ent]
  ·have h2:¬ nm=a:=fun z=>h z.symm;simp [h,h2,ih]
theorem zI6 {T:Ts}{ld:List (Key×D)}{nm:Str} (S:Sto):rC zCe [.d (LK T ld),.d (.str nm)] S=.ok (.d (thD T nm)) S:=by
 refine zAp (xs:=[LK T ld,.str nm]) (S':=[]) ?_;have v:=zI4 nm T;cases e:T.lookup nm <;> simp (decide:=true) [zCe,zEn,isiT,tyB,kitT,truO,truD,dGet1,dctOf,keyD,fldD,insOf,LK,thD,e,v]
theorem zTm {T:Ts}{ld:List (Key×D)} (S:Sto):rC zCe [.d (LK T ld),.d .non] S=.ok (.d .non) S:=by
 refine zAp (xs:=[LK T ld,.non]) (S':=[]) ?_;simp (decide:=true) [zCe,zEn,isiT,tyB,kitT,truO,truD,dGet1,dctOf,keyD,fldD,insOf,LK,thD]
def mkD' (T:Ts) (nm:Str):D:=match T.lookup nm with
 | some k=>.int k
 | none=>.non
def mkO (T:Ts) (o:Option Str):D:=match o with
 | some x=>mkD' T x
 | none=>.non
theorem zJj {T:Ts}{ld:List (Key×D)}{nm:Str} (S:Sto):rC zBa [.d (LK T ld),.d (.str nm)] S=.ok (.d (mkD' T nm)) S:=by
 refine zAp (xs:=[LK T ld,.str nm]) (S':=[]) ?_;have t:=zI6 (T:=T) (ld:=ld) (nm:=nm) [];unfold LK at t ⊢;cases e:T.lookup nm <;> simp (decide:=true) [zBa,zD7,dMe,zFr,insOf,t,thD,mkD',e,isND,isNb,ixD,dctOf,atI,ixN]
theorem zRw {T:Ts}{ld:List (Key×D)} (S:Sto):rC zBa [.d (LK T ld),.d .non] S=.ok (.d .non) S:=by
 refine zAp (xs:=[LK T ld,.non]) (S':=[]) ?_;have t:=zTm (T:=T) (ld:=ld) [];unfold LK at t ⊢;simp (decide:=true) [zBa,zD7,dMe,zFr,insOf,t,isND,isNb,ixD]
theorem zX8 {T:Ts}{ld:List (Key×D)}{o:Option Str} (S:Sto):rC zBa [.d (LK T ld),.d (oNm o)] S=.ok (.d (mkO T o)) S:=by
 cases o with
 | none=>exact zRw S
 | some x=>exact zJj S
theorem zRb {T:Ts}{ld:List (Key×D)}{nm:Str} (S:Sto):rC zCn [.d (LK T ld),.d (.str nm)] S=.ok (.d (match T.lookup nm with | some _=>.tup [] | none=>.non)) S:=by
 refine zAp (xs:=[LK T ld,.str nm]) (S':=[]) ?_;have t:=zI6 (T:=T) (ld:=ld) (nm:=nm) [];unfold LK at t ⊢;cases e:T.lookup nm <;> simp (decide:=true) [zCn,zE0,dMe,zFr,insOf,t,thD,e,isND,isNb,ixD,dctOf,atI,ixN]
theorem zTk {T:Ts}{ld:List (Key×D)} (S:Sto):rC zFu [.d (LK T ld)] S=.ok (.d (.int 0)) S:=by
 refine zAp (xs:=[LK T ld]) (S':=[]) ?_;simp (decide:=true) [zFu,zHr,fldD,insOf,LK]
theorem zV9 {T:Ts}{ld:List (Key×D)}{k:Str×Option Str} (h:k∈KDS) (S:Sto):rC zD8 [.d (LK T ld),.d (.str k.1)] S=.ok (.d (.bl false)) S:=by
 refine zAp (xs:=[LK T ld,.str k.1]) (S':=[]) ?_;have o:=of_eq h [];simp (decide:=true) [zD8,zEw,fldD,zC5,zKf,yF0,dGet1,dctOf,keyD,dMe,T_of,o,valD,fKS,fOb,fLK]
def ldD (ld:List (Key×D)):D:=match ((upK ld).find? fun kv=>decide (kv.1=(.inr "ann" : Key))) with
 | some (_,.d x)=>x
 | _=>.int 0
theorem zUu {m:Int}{T:Ts}{ld:List (Key×D)}{s:Cell}{nm:Str} (h1:T.length < LM) (hn:T.lookup nm=none) (hS:clC 4 s=true):rC zEu [.loc 0,.d (.str nm),.d (.tup [])] (sg m T ld s)=.ok (.d .non) (sg (m + 1) (T++[(nm,m + 1)]) ld s):=by
 have pt:putD (upK (th T)) (.inr nm) (.d (.tup [.tup [],.int (m + 1)]))=upK (th (T++[(nm,m + 1)])):=by
  have v:=zI4 nm T;rw [hn] at v;have na:((upK (th T)).any fun kv=>decide (kv.1=(.inr nm:Key)))=false:=by
   unfold valD at v;have v2:(upK (th T)).find? (fun kv=>decide (kv.1=(.inr nm:Key)))=none:=by simpa using v
   rw [List.find?_eq_none] at v2;rw [List.any_eq_false];exact v2
  unfold putD;rw [na];simp [th,upK,ent]
 simp (decide:=true) [sg,wI,zEu,zGm,sFldS,sPut,fldD,insOf,celI,celD,putG,mkT,keyD,h1,pt,hS,zR7]
theorem yCz {m:Int}{T:Ts}{ld:List (Key×D)}{s:Cell}{r:Nr}{k:Option Str} (hr:r∈TAB) (hk:(r.kd,k)∈KDS) (h1:T.length < LM) (h2:ld.length≤LM) (hn:T.lookup r.nm=none) (ho:∀ o,r.ow=some o→(T.lookup o).isSome=true) (hS:clC 4 s=true):rC zCx [.loc 0,.d (.str r.nm),.d (.tup [])] (sg m T ld s)=.ok (.d .non) (sg (m + 1) (T++[(r.nm,m + 1)]) ld s):=by
 have p:=zEj hr (sg m T ld s);have o:=of_eq hk (sg m T ld s);have t:=yCm hk (sg m T ld s);have l:=zGh (m:=m) (s:=s) (Zs h1) h2 hS;have n:=zI6 (T:=T) (ld:=ld) (nm:=r.nm) (sg m T ld s);have f:=zV9 (T:=T) (ld:=ld) hk (sg m T ld s);have kp:=zUu (m:=m) (ld:=ld) h1 hn hS;have i0:∀ m T,insOf (sg m T ld s) (.loc 0)=some (("World" : Str),wI m):=fun _ _=>rfl;have tn:thD T r.nm=.non:=by unfold thD;rw [hn]
 have len:∀ m T,(sg m T ld s).length=4:=fun _ _=>rfl;have on:oNm none=.non:=rfl;have os:∀ w,oNm (some w)=.str w:=fun _=>rfl;have q:zCx [.loc 0,.d (.str r.nm),.d (.tup [])] (sg m T ld s)=.ok (.d .non) (sg (m + 1) (T++[(r.nm,m + 1)]) ld s):=by
  cases hw:r.ow with
  | none =>
   rw [hw] at p;simp (decide:=true) [zCx,zFo,fldD,i0,wI,p,o,t,l,n,f,kp,tn,dMe,T_of,zEs,zFr,zJ4,zSp,zKf,zC5,fKS,fLK,on,-rC_1]
  | some w =>
   rw [hw,os] at p;have n2:=zI6 (T:=T) (ld:=ld) (nm:=w) (sg m T ld s);obtain ⟨j,hj⟩:=Option.isSome_iff_exists.mp (ho w hw);have t2:thD T w=.tup [.tup [],.int j]:=by unfold thD;rw [hj]
   simp (decide:=true) [zCx,zFo,fldD,i0,wI,p,o,t,l,n,n2,t2,f,kp,tn,dMe,T_of,zEs,zFr,zJ4,zSp,zKf,zC5,fKS,fLK,-rC_1]
 rw [rC_1,q,len];simp (decide:=true) [sg,wI,hS]
end My
namespace My
open PySem L2 L2.F
def words (x:Str):List Str:=Txt.split x "."
def oW (x:Str):List Str:=(words x).take ((words x).length - 2)
def strL:List D→Option (List Str)
 | []=>some []
 | .str a :: r=>(strL r).map (a :: ·)
 | _=>none
theorem zTp:∀ {xs:List D}{ks:List Str},strL xs=some ks→xs=ks.map D.str
 | [],ks,h=>by cases h;rfl
 | .str a :: r,ks,h=>by
  obtain ⟨l,e,rfl⟩:=Option.map_eq_some_iff.mp (show (strL r).map (a :: ·)=some ks from h);rw [zTp e];rfl
def isLs (o:Out U) (ks:List Str):Bool:=match o with
 | .ok (.d (.lst xs)) []=>decide (strL xs=some ks)
 | _=>false
theorem yBb {o:Out U}{ks:List Str} (h:isLs o ks=true):o=.ok (.d (.lst (ks.map D.str))) []:=by
 unfold isLs at h;split at h
 ·rw [zTp (of_decide_eq_true h)]
 ·cases h
def txB (r:Nr):Bool:=allTxt (words r.nm) && (decide ((words r.nm).length≤LM) && (decide ((words r.nm).length > 2) == r.ow.isSome && (decide (Txt.count r.nm "." > 1) == r.ow.isSome && (match r.ow with
 | none=>true
 | some w=>isLs (slD (.d (.lst ((words r.nm).map D.str))) none (some (-2)) []) (oW r.nm) && (PySem.JoinOk "." (oW r.nm) && (txtB w && decide (Txt.join "." (oW r.nm)=w)))))))
theorem yCi:TAB.all txB=true:=by decide +kernel
structure TxF (r:Nr):Prop where
 tx:allTxt (words r.nm)=true
 le:(words r.nm).length≤LM
 gt:decide ((words r.nm).length > 2)=r.ow.isSome
 ct:decide (Txt.count r.nm "." > 1)=r.ow.isSome
 sl:∀ w,r.ow=some w→slD (.d (.lst ((words r.nm).map D.str))) none (some (-2)) []=.ok (.d (.lst ((oW r.nm).map D.str))) []
 jn:∀ w,r.ow=some w→PySem.JoinOk "." (oW r.nm)=true∧txtB w=true∧Txt.join "." (oW r.nm)=w
theorem zSq {r:Nr} (h:r∈TAB):TxF r:=by
 have z:=List.all_eq_true.mp yCi r h;unfold txB at z;simp only [Zc] at z;obtain ⟨z1,z2,z3,z4,z5⟩:=z;refine ⟨z1,of_decide_eq_true z2,eq_of_beq z3,eq_of_beq z4,fun w e=>?_,fun w e=>?_⟩
 ·rw [e] at z5;simp only [Zc] at z5;exact yBb z5.1
 ·rw [e] at z5;simp only [Zc] at z5;exact ⟨z5.2.1,z5.2.2.1,of_decide_eq_true z5.2.2.2⟩
theorem sl_S {xs:List D}{lo hi:Option Int}{d:D} (h:slD (.d (.lst xs)) lo hi []=.ok (.d d) []) (S:Sto):slD (.d (.lst xs)) lo hi S=.ok (.d d) S:=by
 have e:∀ S,slD (.d (.lst xs)) lo hi S=mkL (cutD (xs.map .d) lo hi) S:=fun _=>rfl;rw [e] at h ⊢;unfold mkL at h ⊢;cases hp:pureL (cutD (xs.map .d) lo hi) with
 | none=>rw [hp] at h;cases h
 | some ds =>
  rw [hp] at h;simp only at h ⊢;split at h
  ·next c=>cases h;rw [if_pos c]
  ·cases h
theorem zRc {r:Nr} (hr:r∈TAB) (S:Sto):splitD (.d (.str r.nm)) [.d (.str ".")] S=.ok (.d (.lst ((words r.nm).map D.str))) S:=by
 have t:=zSq hr;show (if ((("." : Str).length == 0)=false∧allTxt (Txt.split r.nm ".")=true∧(Txt.split r.nm ".").length≤LM) then Out.ok (U.d (.lst ((Txt.split r.nm ".").map D.str))) S else .st)=_;rw [if_pos ⟨by decide,t.tx,t.le⟩];rfl
theorem zUt {r:Nr} (S:Sto):lenD [.d (.lst ((words r.nm).map D.str))] S=.ok (.d (.int (words r.nm).length)) S:=by
 simp [lenD,lenS,lenL,lstOf,lstX,Out.or]
theorem zR9 (ks:List Str):strsD ((ks.map D.str).map .d)=some ks:=by
 induction ks with
 | nil=>rfl
 | cons a r ih=>show (strsD ((r.map D.str).map .d)).map (a :: ·)=_;rw [ih];rfl
theorem zUv {r:Nr} (hr:r∈TAB) (S:Sto) {w:Str} (hw:r.ow=some w):joinD (.d (.str ".")) [.d (.lst ((oW r.nm).map D.str))] S=.ok (.d (.str w)) S:=by
 obtain ⟨j1,j2,j3⟩:=(zSq hr).jn w hw;have e:lstOf S (.d (.lst ((oW r.nm).map D.str)))=some (((oW r.nm).map D.str).map .d):=rfl;unfold joinD;simp only [e,zR9];rw [j3,if_pos ⟨j1,j2⟩]
def TK (n:Int) (nm:Str) (mk om:D):D:=.obj "Take" [("hand",.str "ann"),("number",.int n),("wishing",.int 0),("name",.str nm),("mark",mk),("owner_mark",om)]
def MK (n:Int) (nm:Str) (om:D):D:=.obj "Make" [("hand",.str "ann"),("number",.int n),("wishing",.int 0),("name",.str nm),("owner_mark",om),("state",.tup [])]
theorem yFy (S:Sto):rC zJ6 [.d (.str "ann")] S=.ok (.d (.bl true)) S:=by
 obtain ⟨S',e⟩:=zQq (show isBl (zJ6 [.d (.str "ann")] []) true=true by decide +kernel);exact zAp (xs:=[.str "ann"]) e
theorem yBf {r:Nr} (hr:r∈TAB) (S:Sto):rC zJr [.d (.str r.nm)] S=.ok (.d (.bl true)) S:=by
 obtain ⟨S',e⟩:=zQq (List.all_eq_true.mp yF3 r hr);exact zAp (xs:=[.str r.nm]) e
theorem zNc (l i:Int) (S:Sto):rC zE3 [.d (.int l),.d (.int i)] S=.ok (.d (.bl (decide (l≤i)))) S:=by
 have w:rC zJp [.d (.int i)] []=.ok (.d (.bl true)) []:=by
  refine zAp (xs:=[.int i]) (S':=[]) ?_;simp (decide:=true) [zJp,zJk,isiT,tyB,kitT]
 refine zAp (xs:=[.int l,.int i]) (S':=[]) ?_;simp (decide:=true) [zE3,zDy,w]
theorem yFn {i:Int} (h:1≤i) (S:Sto):rC zGu [.d (.int i)] S=.ok (.d .non) S:=by
 have w:=zNc 1 i [];refine zAp (xs:=[.int i]) (S':=[]) ?_;simp (decide:=true) [zGu,zGj,w,h]
def omOk (r:Nr) (om:D):Prop:=match r.ow with
 | none=>om=.non
 | some _=>∃ i:Int,1≤i∧om=.int i
theorem yFm {r:Nr} (hr:r∈TAB) {om:D} (ho:omOk r om) (S:Sto):rC zBo [.d (.str r.nm),.d om] S=.ok (.d .non) S:=by
 have ct:=(zSq hr).ct;refine zAp (xs:=[.str r.nm,om]) (S':=[]) ?_;unfold omOk at ho;cases hw:r.ow with
 | none =>
  rw [hw] at ho ct;subst ho;have c2:¬ (1 < Txt.count r.nm "."):=of_decide_eq_false ct;simp (decide:=true) [zBo,zBn,dMt,isS,countD,c2]
 | some w =>
  rw [hw] at ho ct;obtain ⟨i,hi,rfl⟩:=ho;have c2:1 < Txt.count r.nm ".":=of_decide_eq_true ct;have cm:=yFn hi [];simp (decide:=true) [zBo,zBn,dMt,isS,countD,c2,cm]
end My
namespace My
open PySem L2 L2.F
theorem zVh {r:Nr} (hr:r∈TAB) {n:Int} (hn:1≤n) {c:Str} (hc:c = "Take"∨c = "Make"):rC zI2 [.loc 0,.d (.str "ann"),.d (.int n),.d (.int 0),.d (.str r.nm)] [.ins c []]=.ok (.d .non) [.ins c [("hand",.d (.str "ann")),("number",.d (.int n)),("wishing",.d (.int 0)),("name",.d (.str r.nm))]]:=by
 have a:=yFy [.ins c []];have w1:=zNc 1 n [.ins c []];have w2:=zNc 0 0 [.ins c []];have f:=yBf hr [.ins c []];rcases hc with rfl | rfl <;> simp (decide:=true) [zI2,zHu,sFldS,celI,putG,a,w1,w2,f,hn]
theorem zZr {r:Nr} (hr:r∈TAB) {n mk:Int} (hn:1≤n) (hm:1≤mk) {om:D} (ho:omOk r om) (S:Sto):makeRun (zFt [.loc 0,.d (.str "ann"),.d (.int n),.d (.int 0),.d (.str r.nm),.d (.int mk),.d om] [.ins "Take" []]) S=.ok (.d (TK n r.nm (.int mk) om)) S:=by
 have d:=zVh hr hn (c:="Take") (.inl rfl);have cm:=fun S=>yFn hm S;have co:=fun S=>yFm hr ho S;have q:zFt [.loc 0,.d (.str "ann"),.d (.int n),.d (.int 0),.d (.str r.nm),.d (.int mk),.d om] [.ins "Take" []]=.ok (.d .non) [.ins "Take" [("hand",.d (.str "ann")),("number",.d (.int n)),("wishing",.d (.int 0)),("name",.d (.str r.nm)),("mark",.d (.int mk)),("owner_mark",.d om)]]:=by
  simp (decide:=true) [zFt,zHp,sFldS,celI,putG,d,cm,co,-rC_1]
 rw [q];rfl
theorem zUo {r:Nr} (hr:r∈TAB) {n:Int} (hn:1≤n) {om:D} (ho:omOk r om) (S:Sto):makeRun (zCy [.loc 0,.d (.str "ann"),.d (.int n),.d (.int 0),.d (.str r.nm),.d om,.d (.tup [])] [.ins "Make" []]) S=.ok (.d (MK n r.nm om)) S:=by
 have d:=zVh hr hn (c:="Make") (.inr rfl);have co:=fun S=>yFm hr ho S;have al:∀ ev S,(ev[6]? = some (some (.d (.tup []))))→dComp 1 (iAny (dV 6)) (gN 7) tYe (dCl rC zJ6 (aCons (dV 7) aNil)) ev S=.ok (.d (.lst [])) S:=fun ev S h=>by
  rw [zM4 (ds:=[]) (fun _=>true) id (by simp [iAny,h,itO]) (by decide) (fun d hd=>absurd hd (by simp))];rfl
 have q:zCy [.loc 0,.d (.str "ann"),.d (.int n),.d (.int 0),.d (.str r.nm),.d om,.d (.tup [])] [.ins "Make" []]=.ok (.d .non) [.ins "Make" [("hand",.d (.str "ann")),("number",.d (.int n)),("wishing",.d (.int 0)),("name",.d (.str r.nm)),("owner_mark",.d om),("state",.d (.tup []))]]:=by
  simp (decide:=true) [zCy,zHq,sFldS,celI,putG,d,co,al,isiT,tyB,kitT,lst1,lstOf,lstX,allB,blsD,-rC_1]
 rw [q];rfl
def omD (T:Ts) (r:Nr):D:=match r.ow with
 | none=>.non
 | some w=>.int ((T.lookup w).getD 1)
def mkI (T:Ts) (nm:Str):Int:=(T.lookup nm).getD 1
theorem yEn {T:Ts}{nm:Str}{k:Int}:T.lookup nm=some k→(nm,k)∈T:=zGg
theorem zYt {T:Ts} (h:∀ p∈T,1≤p.2) (nm:Str):1≤(T.lookup nm).getD 1:=by
 cases e:T.lookup nm with
 | none=>simp
 | some k=>exact h _ (zGg e)
theorem yE7 {T:Ts} (h:∀ p∈T,1≤p.2) (r:Nr):omOk r (omD T r):=by
 unfold omOk omD;cases r.ow with
 | none=>rfl
 | some w=>exact ⟨_,zYt h w,rfl⟩
theorem zRz {r:Nr} (hr:r∈TAB) {n:Int} (hn:1≤n) {T:Ts} (hT:∀ p∈T,1≤p.2) (S:Sto):rC zCw [.d (.str "ann"),.d (.int n),.d (.str r.nm),.d (.dct (th T))] S=.ok (.d (TK n r.nm (.int (mkI T r.nm)) (omD T r))) S:=by
 refine zAp (xs:=[.str "ann",.int n,.str r.nm,.dct (th T)]) (S':=[]) ?_;have t:=zSq hr;have sp:=zRc hr [];have ln:=zUt (r:=r) [];have tk:=zZr hr hn (zYt hT r.nm) (yE7 hT r) [];have v:=zI4 r.nm T;have gt:=t.gt;have g1:∀ nm,(valD (upK (th T)) (.inr nm)).getD (.d (.tup [.non,.int 1]))=.d (.tup [(match T.lookup nm with | some _=>.tup [] | none=>.non),.int ((T.lookup nm).getD 1)]):=fun nm=>by
  rw [zI4 nm T];cases T.lookup nm <;> rfl
 unfold omD at tk ⊢;unfold mkI;cases hw:r.ow with
 | none =>
  rw [hw] at gt tk;have c2:¬ 2 < (words r.nm).length:=of_decide_eq_false gt;have c3:¬ (2:Int) < ((words r.nm).length:Int):=by omega
  simp (decide:=true) [zCw,zFn,dMt,isS,sp,ln,c3,dGet2,dctOf,keyD,g1,mkT,dMkC,tk]
 | some w =>
  rw [hw] at gt tk;have c2:2 < (words r.nm).length:=of_decide_eq_true gt;have c3:(2:Int) < ((words r.nm).length:Int):=by omega
  have sl:=t.sl w hw;have jn:=zUv hr [] hw;simp (decide:=true) [zCw,zFn,dMt,isS,sp,ln,c3,dGet2,dctOf,keyD,g1,mkT,dMkC,tk,dSl,oNo,oSo,negD,sl,jn]
end My
namespace My
open PySem L2 L2.F
def ldO (k:Option Int):List (Key×D):=match k with
 | none=>[]
 | some i=>[(.inr "ann",.int i)]
theorem zQo {T:Ts}{k:Option Int} (S:Sto):rC zFv [.d (LK T (ldO k)),.d (.str "ann")] S=.ok (.d (.int (k.getD 0))) S:=by
 refine zAp (xs:=[LK T (ldO k),.str "ann"]) (S':=[]) ?_;cases k <;> simp (decide:=true) [zFv,zHs,isiT,tyB,kitT,dGet2,dctOf,keyD,fldD,zC5,fLK,ldO,valD]
def fTK (n:Int) (nm:Str) (mk om:D):List (Str×D):=[("hand",.str "ann"),("number",.int n),("wishing",.int 0),("name",.str nm),("mark",mk),("owner_mark",om)]
def fMK (n:Int) (nm:Str) (om:D):List (Str×D):=[("hand",.str "ann"),("number",.int n),("wishing",.int 0),("name",.str nm),("owner_mark",om),("state",.tup [])]
theorem zKd (S:Sto) (n:Int) (nm:Str) (mk om:D):insOf S (.d (TK n nm mk om))=some (("Take" : Str),upK (fTK n nm mk om)):=rfl
theorem zKe (S:Sto) (n:Int) (nm:Str) (om:D):insOf S (.d (MK n nm om))=some (("Make" : Str),upK (fMK n nm om)):=rfl
theorem zZk (S:Sto) (n:Int) (nm:Str) (mk om:D):tyB S (.d (TK n nm mk om))=none:=rfl
theorem zZl (S:Sto) (n:Int) (nm:Str) (om:D):tyB S (.d (MK n nm om))=none:=rfl
theorem zRj {n:Int}{nm:Str}{mk om:D} (S:Sto):rC zCc [.d (TK n nm mk om)] S=.ok (.d mk) S:=by
 refine zAp (xs:=[TK n nm mk om]) (S':=[]) ?_;simp (decide:=true) [zCc,zDe,fldD,zKd,fTK]
theorem zRk {n:Int}{nm:Str}{om:D} (S:Sto):rC zCd [.d (MK n nm om)] S=.ok (.d .non) S:=by
 refine zAp (xs:=[MK n nm om]) (S':=[]) ?_;simp (decide:=true) [zCd,zDf]
theorem zW2 {n:Int}{nm:Str}{mk om x:D} (S:Sto):rC zC2 [.d (TK n nm mk om),.d x] S=.ok (.d (.bl true)) S:=by
 refine zAp (xs:=[TK n nm mk om,x]) (S':=[]) ?_;simp (decide:=true) [zC2,zCs]
theorem zW3 {n:Int}{nm:Str}{om:D}{k:Str×Option Str} (h:k∈KDS) (S:Sto):rC zC3 [.d (MK n nm om),.d (ob k.1 (oNm k.2))] S=.ok (.d (.bl true)) S:=by
 have t:=yCm h [];refine zAp (xs:=[MK n nm om,ob k.1 (oNm k.2)]) (S':=[]) ?_;simp (decide:=true) [zC3,zCt,fldD,zKe,fMK,t]
theorem yC0 {n:Int}{nm:Str}{mk om x y:D} (S:Sto):rC zBp [.d (TK n nm mk om),.d x,.d y] S=.ok (.d .non) S:=by
 refine zAp (xs:=[TK n nm mk om,x,y]) (S':=[]) ?_;simp (decide:=true) [zBp,zCk]
theorem yC1 {n:Int}{nm:Str}{om x y:D} (S:Sto):rC zBq [.d (MK n nm om),.d x,.d y] S=.ok (.d (.tup [])) S:=by
 refine zAp (xs:=[MK n nm om,x,y]) (S':=[]) ?_;simp (decide:=true) [zBq,zCl,fldD,zKe,fMK]
structure Rk (r:Nr) (k:Option Str):Prop where
 tt:r∈TAB
 kk:(r.kd,k)∈KDS
theorem zZw {r:Nr} (h:r∈TAB):∃ k,Rk r k:=by
 have z:=of_decide_eq_true (List.all_eq_true.mp yEu r h);obtain ⟨k,e⟩:=Option.isSome_iff_exists.mp z;exact ⟨k,h,zGg e⟩
theorem zZq {r:Nr}{k:Option Str} (R:Rk r k) {T:Ts}{ld:List (Key×D)}{n mk:Int}{om:D} (h:T.lookup r.nm=some mk) (ho:mkO T r.ow=om) (hom:omOk r om) (S:Sto):rC zBi [.d KS,.d (LK T ld),.d (TK n r.nm (.int mk) om)] S=.ok (.d (.bl false)) S:=by
 refine zAp (xs:=[KS,LK T ld,TK n r.nm (.int mk) om]) (S':=[]) ?_;have p:=zEj R.tt [];have o:=of_eq R.kk [];have m1:=zJj (T:=T) (ld:=ld) (nm:=r.nm) [];have m2:=zX8 (T:=T) (ld:=ld) (o:=r.ow) [];have sm:=zRj (n:=n) (nm:=r.nm) (mk:=.int mk) (om:=om) [];have su:=zW2 (n:=n) (nm:=r.nm) (mk:=.int mk) (om:=om) (x:=ob r.kd (oNm k)) [];have e1:mkD' T r.nm=.int mk:=by unfold mkD';rw [h]
 unfold omOk at hom;cases hw:r.ow with
 | none =>
  rw [hw] at hom m2;subst hom;simp (decide:=true) [zBi,zDz,sTryN,fldD,zKd,fTK,p,o,m1,m2,e1,ho,hw,mkO,sm,su,dMe,zF5,zCv,zEr,T_of,zC5,fLK,zKf,fKS]
 | some w =>
  rw [hw] at hom;obtain ⟨i,hi,rfl⟩:=hom;simp (decide:=true) [zBi,zDz,sTryN,fldD,zKd,fTK,p,o,m1,m2,e1,ho,sm,su,dMe,zF5,zCv,zEr,T_of,zC5,fLK,zKf,fKS]
theorem yCl {r:Nr}{k:Option Str} (R:Rk r k) {T:Ts}{ld:List (Key×D)}{n mk:Int}{om:D} (h:T.lookup r.nm=none) (S:Sto):rC zBi [.d KS,.d (LK T ld),.d (TK n r.nm (.int mk) om)] S=.ok (.d (.bl true)) S:=by
 refine zAp (xs:=[KS,LK T ld,TK n r.nm (.int mk) om]) (S':=[]) ?_;have p:=zEj R.tt [];have m1:=zJj (T:=T) (ld:=ld) (nm:=r.nm) [];have sm:=zRj (n:=n) (nm:=r.nm) (mk:=.int mk) (om:=om) [];have e1:mkD' T r.nm=.non:=by unfold mkD';rw [h]
 simp (decide:=true) [zBi,zDz,sTryN,fldD,zKd,fTK,p,m1,e1,sm,dMe,zF5,zCv,zC5,fLK]
theorem yB0 {r:Nr}{k:Option Str} (R:Rk r k) {T:Ts}{ld:List (Key×D)}{n:Int} (h:T.lookup r.nm=none) (hw:r.ow=none) (S:Sto):rC zBi [.d KS,.d (LK T ld),.d (MK n r.nm .non)] S=.ok (.d (.bl false)) S:=by
 refine zAp (xs:=[KS,LK T ld,MK n r.nm .non]) (S':=[]) ?_;have p:=zEj R.tt [];have o:=of_eq R.kk [];have m1:=zJj (T:=T) (ld:=ld) (nm:=r.nm) [];have m2:=zRw (T:=T) (ld:=ld) [];have sm:=zRk (n:=n) (nm:=r.nm) (om:=.non) [];have su:=zW3 (n:=n) (nm:=r.nm) (om:=.non) R.kk [];have e1:mkD' T r.nm=.non:=by unfold mkD';rw [h]
 have on:oNm none=.non:=rfl;rw [hw,on] at p;simp (decide:=true) [zBi,zDz,sTryN,fldD,zKe,fMK,p,o,m1,m2,e1,sm,su,dMe,zF5,zCv,zEr,T_of,zC5,fLK,zKf,fKS]
theorem yEm {r:Nr}{k:Option Str} (R:Rk r k) {T:Ts}{ld:List (Key×D)}{n i:Int}{w:Str} (h:T.lookup r.nm=none) (hw:r.ow=some w) (hn:T.lookup w=none) (S:Sto):rC zBi [.d KS,.d (LK T ld),.d (MK n r.nm (.int i))] S=.ok (.d (.bl true)) S:=by
 refine zAp (xs:=[KS,LK T ld,MK n r.nm (.int i)]) (S':=[]) ?_;have p:=zEj R.tt [];have m1:=zJj (T:=T) (ld:=ld) (nm:=r.nm) [];have m2:=zJj (T:=T) (ld:=ld) (nm:=w) [];have sm:=zRk (n:=n) (nm:=r.nm) (om:=.int i) [];have e1:mkD' T r.nm=.non:=by unfold mkD';rw [h]
 have e2:mkD' T w=.non:=by unfold mkD';rw [hn]
 have os:oNm (some w)=.str w:=rfl;rw [hw,os] at p;simp (decide:=true) [zBi,zDz,sTryN,fldD,zKe,fMK,p,m1,m2,e1,e2,sm,dMe,zF5,zCv,zC5,fLK]
theorem zYb {r:Nr}{k:Option Str} (R:Rk r k) {T:Ts}{j:Option Int}{n mk:Int}{om:D} (hn:j.getD 0 < n) {b:Bool} (hl:rC zBi [.d KS,.d (LK T (ldO j)),.d (TK n r.nm (.int mk) om)] []=.ok (.d (.bl b)) []) (S:Sto):rC zF6 [.d KS,.d (LK T (ldO j)),.d (TK n r.nm (.int mk) om)] S=.ok (.d (.str (if b=true then "late" else "done"))) S:=by
 refine zAp (xs:=[KS,LK T (ldO j),TK n r.nm (.int mk) om]) (S':=[]) ?_;have l:=zQo (T:=T) (k:=j) [];have t:=zTk (T:=T) (ld:=ldO j) [];have c:¬ n≤j.getD 0:=by omega
 cases b <;> simp (decide:=true) [zF6,zH8,fldD,zKd,fTK,l,t,c,hl,dMe,zQ3,zVz,zC5,fLK,isiC,zZk]
theorem zYc {r:Nr}{k:Option Str} (R:Rk r k) {T:Ts}{j:Option Int}{n:Int}{om:D} (hn:j.getD 0 < n) {b:Bool} (hl:rC zBi [.d KS,.d (LK T (ldO j)),.d (MK n r.nm om)] []=.ok (.d (.bl b)) []) (S:Sto):rC zF6 [.d KS,.d (LK T (ldO j)),.d (MK n r.nm om)] S=.ok (.d (.str (if b=true then "late" else "done"))) S:=by
 refine zAp (xs:=[KS,LK T (ldO j),MK n r.nm om]) (S':=[]) ?_;have l:=zQo (T:=T) (k:=j) [];have t:=zTk (T:=T) (ld:=ldO j) [];have f:=zV9 (T:=T) (ld:=ldO j) R.kk [];have p:=zEj R.tt [];have c:¬ n≤j.getD 0:=by omega
 cases b <;> simp (decide:=true) [zF6,zH8,fldD,zKe,fMK,l,t,c,hl,f,p,dMe,zQ3,zVz,zJ4,zC5,fLK,isiC,zZl]
end My
namespace My
open PySem L2 L2.F
def und (nm x:Str):Bool:=decide (x=nm) || Txt.startswith x (nm++".")
def pxB (r:Nr):Bool:=txtB r.nm && (txtB (r.nm++".") && (decide ((Str.empty++r.nm)++"." = r.nm++".") && (decide (r.nm.length≤100000) && decide ((Str.empty++r.nm).length≤100000))))
theorem yCw:TAB.all pxB=true:=by decide +kernel
structure PxF (r:Nr):Prop where
 t:txtB r.nm=true
 p:txtB (r.nm++".")=true
 e:(Str.empty++r.nm)++"." = r.nm++"."
 l:r.nm.length≤100000
 m:(Str.empty++r.nm).length≤100000
theorem yCv {r:Nr} (h:r∈TAB):PxF r:=by
 have z:=List.all_eq_true.mp yCw r h;unfold pxB at z;simp only [Zc,decide_eq_true_eq] at z;obtain ⟨a,b,c,d,e⟩:=z;exact ⟨a,b,c,d,e⟩
theorem yBj (x:Str) (T:Ts):dropD (upK (th T)) (.inr x)=upK (th (T.filter fun p=>decide (p.1≠x))):=by
 unfold dropD
 induction T with
 | nil=>rfl
 | cons p r ih =>
  obtain ⟨a,k⟩:=p;have e:upK (th ((a,k) :: r))=(.inr a,.d (.tup [.tup [],.int k])) :: upK (th r):=rfl;rw [e];by_cases h:a=x
  ·rw [List.filter_cons_of_neg (by simp [h]),List.filter_cons_of_neg (by simp [h])];exact ih
  ·rw [List.filter_cons_of_pos (by simp [h]),List.filter_cons_of_pos (by simp [h]),ih];rfl
def bTa:FS:=sIf (tOr' (tB1 (d2 eqA (dV 2) (dV 1))) (tTr (dMt isS startD (dV 2) (aCons (dJoin (jVal (dV 1) (jCon "." jNil))) aNil)))) (sExp (dPop1 (d1 (fldD ct "things") (dV 0)) (dV 2))) sNx
theorem zZs {r:Nr} (hr:r∈TAB) {m:Int}{T:Ts}{ld:List (Key×D)}{s:Cell}{x:Str} (hx:(T.lookup x).isSome=true):bTa [some (.loc 0),some (.d (.str r.nm)),some (.d (.str x))] (sg m T ld s)=.nx [some (.loc 0),some (.d (.str r.nm)),some (.d (.str x))] (sg m (if und r.nm x=true then T.filter (fun p=>decide (p.1≠x)) else T) ld s):=by
 have P:=yCv hr;have v:=zI4 x T;obtain ⟨j,hj⟩:=Option.isSome_iff_exists.mp hx;rw [hj] at v;have v:valD (upK (th T)) (.inr x)=some (.d (.tup [.tup [],.int j])):=v;have jn:∀ S,dJoin (jVal (dV 1) (jCon "." jNil)) [some (.loc 0),some (.d (.str r.nm)),some (.d (.str x))] S=.ok (.d (.str (r.nm++"."))) S:=fun S=>by
  have l1:("." : Str).length≤100000:=by decide
  have l0:Str.empty.length≤100000:=by decide
  have pp:txtB (r.nm++Str.ofString ".")=true:=P.p;have pe:(Str.empty++r.nm)++Str.ofString "." = r.nm++Str.ofString ".":=P.e;simp [dJoin,jVal,jCon,jNil,shD,P.l,P.m,l0,l1,pe,pp]
 have i0:∀ m T,insOf (sg m T ld s) (.loc 0)=some (("World" : Str),wI m):=fun _ _=>rfl;have c1:celD (sg m T ld s) 1=some (upK (th T)):=rfl;have st:∀ z,List.set (sg m T ld s) 1 (.dct (upK (th z)))=sg m z ld s:=fun _=>rfl;have d:=yBj x T;unfold und;by_cases e1:x=r.nm
 ·subst e1;simp (decide:=true) [bTa,dPop1,fldD,i0,wI,c1,keyD,v,d,st]
 ·cases e2:Txt.startswith x (r.nm++".") with
  | true=>simp (decide:=true) [bTa,e1,e2,dMt,isS,jn,startD,dPop1,fldD,i0,wI,c1,keyD,v,d,st]
  | false=>simp (decide:=true) [bTa,e1,e2,dMt,isS,jn,startD]
theorem zQn {T:Ts}{x y:Str} (h:y≠x):(T.filter fun p=>decide (p.1≠x)).lookup y=T.lookup y:=by
 induction T with
 | nil=>rfl
 | cons p r ih =>
  obtain ⟨a,k⟩:=p;by_cases e:a=x
  ·rw [List.filter_cons_of_neg (by simp [e]),ih,zKp,if_neg (by rw [e];exact h)]
  ·rw [List.filter_cons_of_pos (by simp [e]),zKp,zKp,ih]
theorem zTo {r:Nr} (hr:r∈TAB) {m:Int}{ld:List (Key×D)}{s:Cell}:∀ (L:List Str) (T:Ts) (y:Option U),L.Nodup→(∀ x∈L,(T.lookup x).isSome=true)→∃ y',forI (gN 2) bTa (L.map fun x=>.d (.str x)) [some (.loc 0),some (.d (.str r.nm)),y] (sg m T ld s)=.nx [some (.loc 0),some (.d (.str r.nm)),y'] (sg m (T.filter fun p=>!(L.contains p.1 && und r.nm p.1)) ld s)
 | [],T,y,_,_=>⟨y,by
  have:(T.filter fun p=>!(([]:List Str).contains p.1 && und r.nm p.1))=T:=by
   rw [List.filter_eq_self];intro p _;simp
  rw [this];rfl⟩
 | x :: L,T,y,nd,h=>by
  obtain ⟨n1,n2⟩:=List.nodup_cons.mp nd;have st:=zZs hr (m:=m) (ld:=ld) (s:=s) (h x Zj);obtain ⟨y',e⟩:=zTo hr (m:=m) (ld:=ld) (s:=s) L (if und r.nm x=true then T.filter (fun p=>decide (p.1≠x)) else T) (some (.d (.str x))) n2 fun z hz=>by
   have ne:z≠x:=fun q=>n1 (q ▸ hz);split
   ·rw [zQn ne];exact h z (Zb _ hz)
   ·exact h z (Zb _ hz)
  refine ⟨y',?_⟩;have f:((if und r.nm x=true then T.filter (fun p=>decide (p.1≠x)) else T).filter fun p=>!(L.contains p.1 && und r.nm p.1))=T.filter fun p=>!((x :: L).contains p.1 && und r.nm p.1):=by
   split
   ·next u =>
    rw [List.filter_filter];refine List.filter_congr fun p _=>?_;by_cases q:p.1=x
    ·simp [q,u]
    ·have q':¬ x=p.1:=fun z=>q z.symm;simp [q,q']
   ·next u =>
    refine List.filter_congr fun p _=>?_;have u:und r.nm x=false:=by simpa using u
    by_cases q:p.1=x
    ·simp [q,u]
    ·have q':¬ x=p.1:=fun z=>q z.symm;simp [q,q']
  rw [← f,← e];rw [Zi,forI];simp only [gN,List.set];rw [st]
end My
namespace My
open PySem L2 L2.F
def nms (T:Ts):List Str:=T.map (·.1)
theorem yB3 {m:Int}{T:Ts}{ld:List (Key×D)}{s:Cell} (ht:∀ x∈nms T,txtB x=true):listD [.loc 1] (sg m T ld s)=.ok (.d (.lst ((nms T).map D.str))) (sg m T ld s):=by
 have c:listC [.loc 1] (sg m T ld s)=.st:=rfl;have a:((upK (th T)).all fun e=>keyOk e.1)=true:=by
  unfold upK th;rw [List.map_map,List.all_map];exact List.all_eq_true.mpr fun p hp=>ht p.1 (List.mem_map.mpr ⟨p,hp,rfl⟩)
 have k:listK false [.loc 1] (sg m T ld s)=.ok (.d (.lst ((nms T).map D.str))) (sg m T ld s):=by
  show (if ((upK (th T)).all fun e=>keyOk e.1)=true then (if false=true then Out.ok (U.loc (sg m T ld s).length) (sg m T ld s++[.lst ((upK (th T)).map fun kv=>keyU kv.1)]) else .ok (.d (.lst ((upK (th T)).map fun kv=>keyV kv.1))) (sg m T ld s)) else .st)=_;rw [if_pos a,if_neg (by decide)];have:((upK (th T)).map fun kv=>keyV kv.1)=(nms T).map D.str:=by
   unfold upK th nms;rw [List.map_map,List.map_map,List.map_map];rfl
  rw [this]
 unfold listD;rw [c,k];rfl
theorem zCj {T:Ts}{x:Str} (h:x∈nms T):(T.lookup x).isSome=true:=by
 induction T with
 | nil=>cases h
 | cons p r ih =>
  obtain ⟨a,k⟩:=p;rw [zKp];by_cases e:x=a
  ·rw [if_pos e];rfl
  ·rw [if_neg e];exact ih ((List.mem_cons.mp h).resolve_left e)
def goT (nm:Str) (T:Ts):Ts:=T.filter fun p=>!und nm p.1
theorem ta_eq {r:Nr} (hr:r∈TAB) {m:Int}{T:Ts}{ld:List (Key×D)}{s:Cell} (nd:(nms T).Nodup) (ht:∀ x∈nms T,txtB x=true) (hS:clC 4 s=true):rC zBe [.loc 0,.d (.str r.nm)] (sg m T ld s)=.ok (.d .non) (sg m (goT r.nm T) ld s):=by
 have i0:insOf (sg m T ld s) (.loc 0)=some (("World" : Str),wI m):=rfl;have l:=yB3 (m:=m) (ld:=ld) (s:=s) ht;obtain ⟨y',e⟩:=zTo hr (m:=m) (ld:=ld) (s:=s) (nms T) T none nd fun x hx=>zCj hx;have f:(T.filter fun p=>!((nms T).contains p.1 && und r.nm p.1))=goT r.nm T:=by
  refine List.filter_congr fun p hp=>?_;have:(nms T).contains p.1=true:=List.contains_iff_mem.mpr (List.mem_map.mpr ⟨p,hp,rfl⟩);rw [this];rfl
 rw [f] at e;have mm:((nms T).map D.str).map U.d=(nms T).map fun x=>U.d (.str x):=by rw [List.map_map];rfl
 have q:zBe [.loc 0,.d (.str r.nm)] (sg m T ld s)=.ok (.d .non) (sg m (goT r.nm T) ld s):=by
  have u:zBe=fnD 3 2 (sFor (iAny (dCal listD (aCons (d1 (fldD ct "things") (dV 0)) aNil))) (gN 2) bTa):=rfl;rw [u];simp (decide:=true) [iAny,fldD,i0,wI,l,itO,mm,e]
 rw [rC_1,q,show (sg m T ld s).length=4 from rfl];simp (decide:=true) [sg,wI,hS]
theorem zYk (j:Option Int) (n:Int):putD (upK (ldO j)) (.inr "ann") (.d (.int n))=upK (ldO (some n)):=by cases j <;> rfl
theorem zFz (j:Option Int):(ldO j).length≤1:=by cases j <;> simp [ldO]
theorem carryT {r:Nr}{k:Option Str} (R:Rk r k) {m n:Int}{T:Ts}{j:Option Int}{s:Cell}{mk om st:D} (nd:(nms T).Nodup) (ht:∀ x∈nms T,txtB x=true) (hS:clC 4 s=true):rC zAr [.loc 0,.d (TK n r.nm mk om),.d st] (sg m T (ldO j) s)=.ok (.d .non) (sg m (goT r.nm T) (ldO (some n)) s):=by
 have i0:∀ m T ld,insOf (sg m T ld s) (.loc 0)=some (("World" : Str),wI m):=fun _ _ _=>rfl;have p:=zEj R.tt (sg m T (ldO j) s);have o:=of_eq R.kk (sg m T (ldO j) s);have a:=yC0 (n:=n) (nm:=r.nm) (mk:=mk) (om:=om) (x:=ob r.kd (oNm k)) (y:=st) (sg m T (ldO j) s);have t:=ta_eq R.tt (m:=m) (ld:=ldO j) nd ht hS;have c2:∀ T,celD (sg m T (ldO j) s) 2=some (upK (ldO j)):=fun _=>rfl;have stt:∀ T z,List.set (sg m T (ldO j) s) 2 (.dct (upK z))=sg m T z s:=fun _ _=>rfl;have pl:=zYk j n;have ll:(ldO j).length < LM:=Yd (zFz j) (by decide);have q:zAr [.loc 0,.d (TK n r.nm mk om),.d st] (sg m T (ldO j) s)=.ok (.d .non) (sg m (goT r.nm T) (ldO (some n)) s):=by
  simp (decide:=true) [zAr,zC0,fldD,i0,wI,zKd,fTK,p,o,a,t,dMe,T_of,zFs,zMb,zKf,fKS,sPut,c2,keyD,pl,stt,ll,-rC_1]
 rw [rC_1,q,show (sg m T (ldO j) s).length=4 from rfl];simp (decide:=true) [sg,wI,hS]
theorem carryM {r:Nr}{k:Option Str} (R:Rk r k) {m n:Int}{T:Ts}{j:Option Int}{s:Cell}{om st:D} (h1:T.length < LM) (hn:T.lookup r.nm=none) (hS:clC 4 s=true):rC zAr [.loc 0,.d (MK n r.nm om),.d st] (sg m T (ldO j) s)=.ok (.d .non) (sg (m + 1) (T++[(r.nm,m + 1)]) (ldO (some n)) s):=by
 have i0:∀ m T ld,insOf (sg m T ld s) (.loc 0)=some (("World" : Str),wI m):=fun _ _ _=>rfl;have p:=zEj R.tt (sg m T (ldO j) s);have o:=of_eq R.kk (sg m T (ldO j) s);have a:=yC1 (n:=n) (nm:=r.nm) (om:=om) (x:=ob r.kd (oNm k)) (y:=st) (sg m T (ldO j) s);have t:=zUu (m:=m) (ld:=ldO j) h1 hn hS;have c2:∀ m T,celD (sg m T (ldO j) s) 2=some (upK (ldO j)):=fun _ _=>rfl;have stt:∀ m T z,List.set (sg m T (ldO j) s) 2 (.dct (upK z))=sg m T z s:=fun _ _ _=>rfl;have pl:=zYk j n;have ll:(ldO j).length < LM:=Yd (zFz j) (by decide);have q:zAr [.loc 0,.d (MK n r.nm om),.d st] (sg m T (ldO j) s)=.ok (.d .non) (sg (m + 1) (T++[(r.nm,m + 1)]) (ldO (some n)) s):=by
  simp (decide:=true) [zAr,zC0,fldD,i0,wI,zKe,fMK,p,o,a,t,dMe,T_of,zFs,zSp,zKf,fKS,sPut,c2,keyD,pl,stt,ll,-rC_1]
 rw [rC_1,q,show (sg m T (ldO j) s).length=4 from rfl];simp (decide:=true) [sg,wI,hS]
theorem zXq {r:Nr}{k:Option Str} (R:Rk r k) {m n mk:Int}{T:Ts}{j:Option Int}{s:Cell}{om:D} (nd:(nms T).Nodup) (ht:∀ x∈nms T,txtB x=true) (hl:T.length≤LM) (hS:clC 4 s=true) (hn:j.getD 0 < n) (h:T.lookup r.nm=some mk) (ho:mkO T r.ow=om) (hom:omOk r om):rC zAx [.loc 0,.d (TK n r.nm (.int mk) om)] (sg m T (ldO j) s)=.ok (.d (.str "done")) (sg m (goT r.nm T) (ldO (some n)) s):=by
 have i0:∀ m T ld,insOf (sg m T ld s) (.loc 0)=some (("World" : Str),wI m):=fun _ _ _=>rfl;have l:=zGh (m:=m) (T:=T) (ld:=ldO j) (s:=s) hl (Z3 (zFz j) (by decide)) hS;have w:=zYb R hn (zZq R (n:=n) (ld:=ldO j) h ho hom []) (sg m T (ldO j) s);have so:=zRb (T:=T) (ld:=ldO j) (nm:=r.nm) (sg m T (ldO j) s);rw [h] at so;have c:=carryT R (m:=m) (n:=n) (T:=T) (j:=j) (s:=s) (mk:=.int mk) (om:=om) (st:=.tup []) nd ht hS;have q:zAx [.loc 0,.d (TK n r.nm (.int mk) om)] (sg m T (ldO j) s)=.ok (.d (.str "done")) (sg m (goT r.nm T) (ldO (some n)) s):=by
  simp (decide:=true) [zAx,zDm,fldD,i0,wI,zKd,fTK,zZk,isiC,l,w,so,c,dMe,zEs,zHz,zJn,zC5,fLK,-rC_1]
 rw [rC_1,q,show (sg m T (ldO j) s).length=4 from rfl];simp (decide:=true) [sg,wI,hS]
theorem zXp {r:Nr}{k:Option Str} (R:Rk r k) {m n mk:Int}{T:Ts}{j:Option Int}{s:Cell}{om:D} (hl:T.length≤LM) (hS:clC 4 s=true) (hn:j.getD 0 < n) (h:T.lookup r.nm=none):rC zAx [.loc 0,.d (TK n r.nm (.int mk) om)] (sg m T (ldO j) s)=.ok (.d (.str "late")) (sg m T (ldO j) s):=by
 have i0:∀ m T ld,insOf (sg m T ld s) (.loc 0)=some (("World" : Str),wI m):=fun _ _ _=>rfl;have l:=zGh (m:=m) (T:=T) (ld:=ldO j) (s:=s) hl (Z3 (zFz j) (by decide)) hS;have w:=zYb R hn (yCl R (n:=n) (mk:=mk) (om:=om) (ld:=ldO j) h []) (sg m T (ldO j) s);have q:zAx [.loc 0,.d (TK n r.nm (.int mk) om)] (sg m T (ldO j) s)=.ok (.d (.str "late")) (sg m T (ldO j) s):=by
  simp (decide:=true) [zAx,zDm,fldD,i0,wI,zKd,fTK,zZk,isiC,l,w,dMe,zEs,zC5,fLK,-rC_1]
 rw [rC_1,q,show (sg m T (ldO j) s).length=4 from rfl];simp (decide:=true) [sg,wI,hS]
theorem zXs {r:Nr}{k:Option Str} (R:Rk r k) {m n:Int}{T:Ts}{j:Option Int}{s:Cell} (hl:T.length < LM) (hS:clC 4 s=true) (hn:j.getD 0 < n) (h:T.lookup r.nm=none) (hw:r.ow=none):rC zAx [.loc 0,.d (MK n r.nm .non)] (sg m T (ldO j) s)=.ok (.d (.str "done")) (sg (m + 1) (T++[(r.nm,m + 1)]) (ldO (some n)) s):=by
 have i0:∀ m T ld,insOf (sg m T ld s) (.loc 0)=some (("World" : Str),wI m):=fun _ _ _=>rfl;have l:=zGh (m:=m) (T:=T) (ld:=ldO j) (s:=s) (Zs hl) (Z3 (zFz j) (by decide)) hS;have w:=zYc R hn (yB0 R (n:=n) (ld:=ldO j) h hw []) (sg m T (ldO j) s);have so:=zRb (T:=T) (ld:=ldO j) (nm:=r.nm) (sg m T (ldO j) s);rw [h] at so;have c:=carryM R (m:=m) (n:=n) (T:=T) (j:=j) (s:=s) (om:=.non) (st:=.non) hl h hS;have q:zAx [.loc 0,.d (MK n r.nm .non)] (sg m T (ldO j) s)=.ok (.d (.str "done")) (sg (m + 1) (T++[(r.nm,m + 1)]) (ldO (some n)) s):=by
  simp (decide:=true) [zAx,zDm,fldD,i0,wI,zKe,fMK,zZl,isiC,l,w,so,c,dMe,zEs,zHz,zJn,zC5,fLK,-rC_1]
 rw [rC_1,q,show (sg m T (ldO j) s).length=4 from rfl];simp (decide:=true) [sg,wI,hS]
theorem zXr {r:Nr}{k:Option Str} (R:Rk r k) {m n i:Int}{T:Ts}{j:Option Int}{s:Cell}{w:Str} (hl:T.length≤LM) (hS:clC 4 s=true) (hn:j.getD 0 < n) (h:T.lookup r.nm=none) (hw:r.ow=some w) (hwn:T.lookup w=none):rC zAx [.loc 0,.d (MK n r.nm (.int i))] (sg m T (ldO j) s)=.ok (.d (.str "late")) (sg m T (ldO j) s):=by
 have i0:∀ m T ld,insOf (sg m T ld s) (.loc 0)=some (("World" : Str),wI m):=fun _ _ _=>rfl;have l:=zGh (m:=m) (T:=T) (ld:=ldO j) (s:=s) hl (Z3 (zFz j) (by decide)) hS;have w:=zYc R hn (yEm R (n:=n) (i:=i) (ld:=ldO j) h hw hwn []) (sg m T (ldO j) s);have q:zAx [.loc 0,.d (MK n r.nm (.int i))] (sg m T (ldO j) s)=.ok (.d (.str "late")) (sg m T (ldO j) s):=by
  simp (decide:=true) [zAx,zDm,fldD,i0,wI,zKe,fMK,zZl,isiC,l,w,dMe,zEs,zC5,fLK,-rC_1]
 rw [rC_1,q,show (sg m T (ldO j) s).length=4 from rfl];simp (decide:=true) [sg,wI,hS]
end My
namespace My
open PySem L2 L2.F
theorem yEf {S:Sto}{i j:Int} (h:small64 i=true):mulD (.d (.int i)) (.d (.int j)) S=.ok (.d (.int (i * j))) S:=by
 have:mulI (.d (.int i)) (.d (.int j)) S=.ok (.d (.int (i * j))) S:=by
  show (if (small64 i || small64 j)=true then Out.ok (U.d (D.int (i * j))) S else .st)=_;rw [if_pos (by simp [h])]
 unfold mulD;rw [this];rfl
theorem zTq (x:Int):small64 (x % 2147483629)=true:=by
 have h1:=Int.emod_nonneg x (show (2147483629:Int)≠0 by decide);have h2:=Y8 x (show (0:Int) < 2147483629 by decide);unfold small64;rw [Zc];exact ⟨decide_eq_true (by omega),decide_eq_true (by omega)⟩
def m1' (a k:Int):Int:=(a % 2147483629 + 69621 * k + 1) * 48271 % 2147483629
def m2' (n:Int):Int:=n * (n / 1009 + 69621) % 2147483629
def m3' (n k:Int):Int:=n * (n / 907 + 16807 + k) % 2147483629
def m4 (n:Int):Int:=n * (n / 1201 + 30011) % 2147483629
theorem zX4 (a k:Int):∃ v,∀ S,rC zGv [.d (.int a),.d (.int k)] S=.ok (.d (.int v)) S:=by
 have M:∀ (x:Int) (S:Sto),modI (.d (.int x)) (.d (.int 2147483629)) S=.ok (.d (.int (x % 2147483629))) S:=fun x S=>zP6 (by decide);have m1:∀ (S:Sto) (x:Int),mulD (.d (.int 69621)) (.d (.int x)) S=.ok (.d (.int (69621 * x))) S:=fun S x=>yEf (by decide);have m2:∀ (S:Sto) (x:Int),mulD (.d (.int x)) (.d (.int 48271)) S=.ok (.d (.int (x * 48271))) S:=fun S x=>zYr (by decide);have m3:∀ (S:Sto) (x y:Int),mulD (.d (.int (x % 2147483629))) (.d (.int y)) S=.ok (.d (.int (x % 2147483629 * y))) S:=fun S x y=>yEf (zTq x);have d1:∀ (S:Sto) (x:Int),divI (.d (.int x)) (.d (.int 1009)) S=.ok (.d (.int (x / 1009))) S:=fun S x=>zPo (by decide) (by decide);have d2:∀ (S:Sto) (x:Int),divI (.d (.int x)) (.d (.int 907)) S=.ok (.d (.int (x / 907))) S:=fun S x=>zPo (by decide) (by decide);have d3:∀ (S:Sto) (x:Int),divI (.d (.int x)) (.d (.int 1201)) S=.ok (.d (.int (x / 1201))) S:=fun S x=>zPo (by decide) (by decide);refine ⟨m4 (m3' (m2' (m1' a k)) k),fun S=>zAp (xs:=[.int a,.int k]) (S':=[]) ?_⟩;simp (decide:=true) [zGv,zGk,M,m1,m2,m3,d1,d2,d3,m1',m2',m3',m4]
abbrev src (a b c:Int):Cell:=.lst [.d (.int a),.d (.int b),.d (.int c)]
theorem src_cl (a b c:Int):clC 4 (src a b c)=true:=rfl
theorem zLp {m:Int}{T:Ts}{ld:List (Key×D)} (a b c:Int) {q:Int} (h0:0 < q) (h1:q < 2 ^ 64):∃ v a' c',0≤v∧v < q∧rC zB3 [.loc 3,.d (.int q)] (sg m T ld (src a b c))=.ok (.d (.int v)) (sg m T ld (src a' b c')):=by
 have M:∀ (x:Int) (S:Sto),modI (.d (.int x)) (.d (.int q)) S=.ok (.d (.int (x % q))) S:=fun x S=>zP6 h0;have Dv:∀ (x:Int) (S:Sto),divI (.d (.int x)) (.d (.int q)) S=.ok (.d (.int (x / q))) S:=fun x S=>zPo h0 h1;have ix0:∀ a b c,ixD (.loc 3) (.d (.int 0)) (sg m T ld (src a b c))=.ok (.d (.int a)) (sg m T ld (src a b c)):=fun _ _ _=>rfl;have ix1:∀ a b c,ixD (.loc 3) (.d (.int 1)) (sg m T ld (src a b c))=.ok (.d (.int b)) (sg m T ld (src a b c)):=fun _ _ _=>rfl;have ix2:∀ a b c,ixD (.loc 3) (.d (.int 2)) (sg m T ld (src a b c))=.ok (.d (.int c)) (sg m T ld (src a b c)):=fun _ _ _=>rfl;have cl:∀ a b c,celL (sg m T ld (src a b c)) 3=some [.d (.int a),.d (.int b),.d (.int c)]:=fun _ _ _=>rfl;have st:∀ a b c x y z,List.set (sg m T ld (src a b c)) 3 (.lst [.d (.int x),.d (.int y),.d (.int z)])=sg m T ld (src x y z):=fun _ _ _ _ _ _=>rfl;have i0:ixN 3 0=some 0:=by decide
 have i2:ixN 3 2=some 2:=by decide
 by_cases h:0 < a
 ·refine ⟨a % q,a / q,c,Int.emod_nonneg _ (by omega),Y8 _ h0,?_⟩;have e:zB3 [.loc 3,.d (.int q)] (sg m T ld (src a b c))=.ok (.d (.int (a % q))) (sg m T ld (src (a / q) b c)):=by
   simp (decide:=true) [zB3,zFm,ix0,h,M,Dv,sPutL,cl,i0,st]
  rw [rC_1,e,show (sg m T ld (src a b c)).length=4 from rfl];simp (decide:=true) [sg,wI]
 ·obtain ⟨v,hv⟩:=zX4 b (c + 1);refine ⟨v % q,a,c + 1,Int.emod_nonneg _ (by omega),Y8 _ h0,?_⟩;have e:zB3 [.loc 3,.d (.int q)] (sg m T ld (src a b c))=.ok (.d (.int (v % q))) (sg m T ld (src a b (c + 1))):=by
   simp (decide:=true) [zB3,zFm,ix0,ix1,ix2,h,M,sPutL,cl,i2,st,hv]
  rw [rC_1,e,show (sg m T ld (src a b c)).length=4 from rfl];simp (decide:=true) [sg,wI]
theorem zS0:∀ T:Ts,kstrs (upK (th T))=some (nms T)
 | []=>rfl
 | (a,k) :: r=>by
  show (kstrs (upK (th r))).map (a :: ·)=_;rw [zS0 r];rfl
theorem zQ8 {S:Sto}{T:Ts} (ht:∀ x∈nms T,txtB x=true) (hl:T.length < 64):sortD [.d (.dct (th T))] S=.ok (.d (.lst ((sortS (nms T)).map D.str))) S:=by
 have a:allTxt (nms T)=true:=List.all_eq_true.mpr ht;have l:(nms T).length < 64:=by unfold nms;rw [Z2];exact hl
 have k:sortK [.d (.dct (th T))] S=.ok (.d (.lst ((sortS (nms T)).map D.str))) S:=by
  show (match kstrs (upK (th T)) with | some ks=>if ks.length < 64∧allTxt ks=true then Out.ok (U.d (.lst ((sortS ks).map D.str))) S else .st | none=>.st)=_;rw [zS0];exact if_pos ⟨l,a⟩
 unfold sortD;rw [k];rfl
theorem zRu {T:Ts}{ld:List (Key×D)} (ht:∀ x∈nms T,txtB x=true) (hl:T.length < 64) (S:Sto):rC zEv [.d (LK T ld)] S=.ok (.d (.lst ((sortS (nms T)).map D.str))) S:=by
 refine zAp (xs:=[LK T ld]) (S':=[]) ?_;have s:=zQ8 (S:=[]) ht hl;simp (decide:=true) [zEv,zGn,fldD,zC5,fLK,s]
def sT (T:Ts):Ts:=(sortS (nms T)).map fun x=>(x,(T.lookup x).getD 0)
theorem zGf (T:Ts):nms (sT T)=sortS (nms T):=by unfold nms sT;rw [List.map_map];exact List.map_id' _
theorem zRq (f:Str→D):∀ ks:List Str,pairsD (ks.map fun x=>.tup [.str x,f x])=some (ks.map fun x=>(.inr x,f x))
 | []=>rfl
 | a :: r=>by
  show (match keyD (.d (.str a)),pairsD (r.map fun x=>.tup [.str x,f x]) with | some k,some l=>some ((k,f a) :: l) | _,_=>none)=_;rw [zRq f r];rfl
theorem zWx (f:Str→D) (ks:List Str) (h:ks.Nodup):nodupK (ks.map fun x=>((.inr x:Key),f x))=true:=by
 unfold nodupK;rw [List.map_map];refine decide_eq_true ?_;show (ks.map fun x=>(Sum.inr x:Key)).Nodup;exact List.pairwise_map.mpr (List.Pairwise.imp (fun {a b} h z=>h (Sum.inr.inj z)) h)
theorem zVg {S:Sto} (f:Str→D) (ks:List Str) (h:ks.Nodup) (hl:ks.length≤LM):dictD false [.d (.lst (ks.map fun x=>.tup [.str x,f x]))] S=.ok (.d (.dct (ks.map fun x=>(.inr x,f x)))) S:=by
 have p:dictP false [.d (.lst (ks.map fun x=>.tup [.str x,f x]))] S=.ok (.d (.dct (ks.map fun x=>(.inr x,f x)))) S:=by
  show (match pureL ((ks.map fun x=>D.tup [.str x,f x]).map U.d) with | some ds=>(match pairsD ds with | some es=>if nodupK es=true∧es.length≤LM then (if false=true then Out.ok (U.loc S.length) (S++[Cell.dct (upK es)]) else .ok (.d (.dct es)) S) else .st | none=>.st) | none=>.st)=_;rw [zD9];simp only;rw [zRq f ks];simp only;rw [if_pos ⟨zWx f ks h,by rw [Z2];exact hl⟩,if_neg (by decide)]
 have c:dictC false [.d (.lst (ks.map fun x=>.tup [.str x,f x]))] S=.st:=rfl;unfold dictD;rw [c,p];rfl
theorem zKv {ks:List Str} (h:ks.Nodup):(sortS ks).Nodup:=(zAu ks).nodup_iff.mpr h
theorem zBc {ks:List Str}{x:Str}:x∈sortS ks ↔ x∈ks:=(zAu ks).mem_iff
theorem th_sT {T:Ts}:th (sT T)=(sortS (nms T)).map fun x=>(.inr x,thD T x):=by
 unfold th sT;rw [List.map_map];refine List.map_congr_left fun x hx=>?_;obtain ⟨k,hk⟩:=Option.isSome_iff_exists.mp (zCj (zBc.mp hx));show ent (x,(T.lookup x).getD 0)=(.inr x,thD T x);unfold thD;rw [hk];rfl
theorem zI5 {m:Int}{T:Ts}{ld:List (Key×D)}{s:Cell} (nd:(nms T).Nodup) (ht:∀ x∈nms T,txtB x=true) (hl:T.length < 64) (h2:ld.length≤LM) (hS:clC 4 s=true):rC zAz [.loc 0] (sg m T ld s)=.ok (.d (.dct (th (sT T)))) (sg m T ld s):=by
 have i0:insOf (sg m T ld s) (.loc 0)=some (("World" : Str),wI m):=rfl;have hl2:T.length≤LM:=Z3 (Zs hl) (by decide);have l:=zGh (m:=m) (T:=T) (ld:=ld) (s:=s) hl2 h2 hS;have n:=zRu (T:=T) (ld:=ld) ht hl (sg m T ld s);have t:=fun x=>zI6 (T:=T) (ld:=ld) (nm:=x) (sg m T ld s);have len:(sortS (nms T)).length≤LM:=by
  rw [(zAu _).length_eq];unfold nms;rw [Z2];exact hl2
 have cm:∀ ev,ev=[some (.loc 0),some (.d (LK T ld))]→dComp 1 (iAny (dMe "names" zHy rC (dV 1) aNil)) (gN 2) tYe (dTup (aCons (dV 2) (aCons (dMe "thing" zFr rC (dV 1) (aCons (dV 2) aNil)) aNil))) ev (sg m T ld s)=.ok (.d (.lst ((sortS (nms T)).map fun x=>.tup [.str x,thD T x]))) (sg m T ld s):=by
  intro ev e;subst e;rw [zM4 (ds:=((sortS (nms T)).map D.str).map .d) (fun _=>true) (fun d=>match d with | .d (.str x)=>.d (.tup [.str x,thD T x]) | u=>u) ?_ (by rw [Z2,Z2];exact len) ?_]
  ·have e:((((sortS (nms T)).map D.str).map U.d).filter fun _=>true).map (fun d=>match d with | .d (.str x)=>U.d (.tup [.str x,thD T x]) | u=>u)=((sortS (nms T)).map fun x=>D.tup [.str x,thD T x]).map U.d:=by
    rw [List.filter_eq_self.mpr (fun _ _=>rfl),List.map_map,List.map_map,List.map_map];rfl
   rw [e];unfold mkL;rw [zD9];simp only;rw [if_pos (by rw [Z2];exact len)]
  ·simp (decide:=true) [iAny,dMe,zHy,zC5,fLK,n,itO]
  ·intro d hd;obtain ⟨y,hy,rfl⟩:=List.mem_map.mp hd;obtain ⟨x,hx,rfl⟩:=List.mem_map.mp hy;refine ⟨_,rfl,rfl,fun _=>?_⟩;simp (decide:=true) [gN,dMe,zFr,zC5,fLK,t,mkT]
 have q:zAz [.loc 0] (sg m T ld s)=.ok (.d (.dct (th (sT T)))) (sg m T ld s):=by
  have u:zAz=fnD 2 1 (sSeq (sSet 1 (dMe "look" zEs rC (dV 0) aNil)) (sRet (dCal (dictD false) (aCons (dComp 1 (iAny (dMe "names" zHy rC (dV 1) aNil)) (gN 2) tYe (dTup (aCons (dV 2) (aCons (dMe "thing" zFr rC (dV 1) (aCons (dV 2) aNil)) aNil)))) aNil)))):=rfl;have c:=cm _ rfl;have d:=zVg (S:=sg m T ld s) (thD T) (sortS (nms T)) (zKv nd) len;rw [u];simp (decide:=true) [dMe,zEs,i0,wI,l,c,d,th_sT,-rC_1]
 rw [rC_1,q,show (sg m T ld s).length=4 from rfl];simp (decide:=true) [sg,wI,hS]
end My
namespace My
open PySem L2 L2.F
theorem zL2:∀ ks:List Str,toPs (ks.map D.str)=some (ks.map PyData.str)
 | []=>rfl
 | a :: r=>by
  show (match toP (.str a) with | some p=>(toPs (r.map D.str)).map (p :: ·) | none=>none)=_;rw [zL2 r];rfl
theorem zO4 (ks:List Str):(PyData.list (ks.map PyData.str)).depth≤60:=by
 have:∀ ks:List Str,PyData.depthAll (ks.map PyData.str)≤1:=by
  intro ks
  induction ks with
  | nil=>simp [PyData.depthAll]
  | cons a r ih=>simp [PyData.depthAll,PyData.depth];try omega
 have:=this ks;simp [PyData.depth]
 try omega
theorem zY5 (x:Str) (ks:List Str):((ks.map PyData.str).any fun y=>PyData.eqv y (.str x))=decide (x∈ks):=by
 induction ks with
 | nil=>rfl
 | cons a r ih =>
  rw [Zi,Yb,ih];have:PyData.eqv (.str a) (.str x)=decide (a=x):=by
   have:PyData.eqv (.str a) (.str x)=(a == x):=by simp [PyData.eqv]
   rw [this];exact Bool.eq_iff_iff.mpr (by simp)
  rw [this];by_cases h:a=x
  ·subst h;simp
  ·have h':¬ x=a:=fun z=>h z.symm;simp [h,h']
theorem ni_ks {S:Sto} (x:Str) (ks:List Str):niD (.d (.str x)) (.d (.lst (ks.map D.str))) S=.ok (.d (.bl (!decide (x∈ks)))) S:=by
 have p:inP true (.d (.str x)) (.d (.lst (ks.map D.str))) S=.ok (.d (.bl (!decide (x∈ks)))) S:=by
  have e1:toQ S (.d (.str x))=some (.str x):=rfl;have e2:toQ S (.d (.lst (ks.map D.str)))=some (.list (ks.map PyData.str)):=by
   show (toPs (ks.map D.str)).map PyData.list=_;rw [zL2];rfl
  unfold inP;rw [e1,e2];simp only [seqP];rw [if_pos ⟨by simp [PyData.depth],zO4 ks⟩,zY5];simp
 unfold niD;rw [p];rfl
structure Gd (T:Ts):Prop where
 nd:(nms T).Nodup
 tb:∀ x∈nms T,∃ r∈TAB,r.nm=x
 ow:∀ r∈TAB,r.nm∈nms T→∀ w,r.ow=some w→w∈nms T
 mp:∀ p∈T,1≤p.2
theorem Gd.tx {T:Ts} (g:Gd T):∀ x∈nms T,txtB x=true:=fun x hx=>by
 obtain ⟨r,hr,rfl⟩:=g.tb x hx;exact (yCv hr).t
theorem zIz {T:Ts}{x:Str} (h:x∉nms T):T.lookup x=none:=by
 cases e:T.lookup x with
 | none=>rfl
 | some k=>exact absurd (List.mem_map.mpr ⟨_,zGg e,rfl⟩) h
theorem zJg (T:Ts) (x:Str) (k:Int):nms (T++[(x,k)])=nms T++[x]:=by unfold nms;rw [List.map_append];rfl
def nmB (r r':Nr):Bool:=decide (r.nm=r'.nm) == decide (r.ow=r'.ow∧r.nm=r'.nm)
theorem yEc:(TAB.all fun r=>TAB.all fun r'=>nmB r r')=true:=by decide +kernel
theorem nm_ow {r r':Nr} (h:r∈TAB) (h':r'∈TAB) (e:r.nm=r'.nm):r.ow=r'.ow:=by
 have z:=List.all_eq_true.mp (List.all_eq_true.mp yEc r h) r' h';unfold nmB at z;rw [decide_eq_true e] at z;exact (of_decide_eq_true (eq_of_beq z).symm).1
theorem Gd.add {T:Ts} (g:Gd T) {r:Nr} (hr:r∈TAB) (hn:r.nm∉nms T) (ho:∀ w,r.ow=some w→w∈nms T) {m:Int} (hm:0≤m):Gd (T++[(r.nm,m + 1)]):=by
 refine ⟨?_,fun x hx=>?_,fun q hq hx w hw=>?_,fun p hp=>?_⟩
 ·rw [zJg,List.nodup_append];exact ⟨g.nd,by simp,fun a ha b hb e=>hn (by rw [← List.mem_singleton.mp hb,← e];exact ha)⟩
 ·rw [zJg] at hx;rcases List.mem_append.mp hx with h | h
  ·exact g.tb x h
  ·exact ⟨r,hr,(List.mem_singleton.mp h).symm⟩
 ·rw [zJg] at hx ⊢;rcases List.mem_append.mp hx with h | h
  ·exact Zq _ (g.ow q hq h w hw)
  ·have e:=List.mem_singleton.mp h;exact Zq _ (ho w ((nm_ow hq hr e).symm.trans hw))
 ·rcases List.mem_append.mp hp with h | h
  ·exact g.mp p h
  ·rw [List.mem_singleton.mp h];show 1≤m + 1;omega
def pIf:FS:=sIf (tB1 (d2 niD (dV 3) (dMe "names" zHy rC (dMe "look" zEs rC (dV 1) aNil) aNil))) (sExp (dMe "put" yC3 rC (dV 1) (aCons (dV 3) (aCons (dTup aNil) aNil)))) sNx
structure Up (T T':Ts) (m':Int) (k:Nat):Prop where
 g:Gd T'
 sub:∀ x∈nms T,x∈nms T'
 len:T'.length≤T.length + k
 m0:0≤m'
theorem Up.refl {T:Ts} (g:Gd T) {m:Int} (hm:0≤m):Up T T m 0:=⟨g,fun _ h=>h,Z1 _,hm⟩
theorem Up.trans {T T1 T2:Ts}{m1 m2:Int}{j k:Nat} (a:Up T T1 m1 j) (b:Up T1 T2 m2 k):Up T T2 m2 (j + k):=⟨b.g,fun x h=>b.sub x (a.sub x h),by have:=a.len;have:=b.len;omega,b.m0⟩
theorem Up.le {T T':Ts}{m:Int}{j k:Nat} (a:Up T T' m j) (h:j≤k):Up T T' m k:=⟨a.g,a.sub,by have:=a.len;omega,a.m0⟩
theorem zYn {r:Nr} (hr:r∈TAB) {m:Int}{T:Ts}{s:Cell}{ev:Ev}{j:Option Int} (g:Gd T) (hm:0≤m) (hl:T.length < 63) (ho:∀ w,r.ow=some w→w∈nms T) (hS:clC 4 s=true) (h1:ev[1]? = some (some (.loc 0))) (h3:ev[3]? = some (some (.d (.str r.nm)))):∃ m' T',pIf ev (sg m T (ldO j) s)=.nx ev (sg m' T' (ldO j) s)∧Up T T' m' 1∧r.nm∈nms T':=by
 obtain ⟨k,R⟩:=zZw hr;have i0:insOf (sg m T (ldO j) s) (.loc 0)=some (("World" : Str),wI m):=rfl;have hl2:T.length≤LM:=Z3 (Zs hl) (by decide);have l2:(ldO j).length≤LM:=Z3 (zFz j) (by decide);have l:=zGh (m:=m) (T:=T) (ld:=ldO j) (s:=s) hl2 l2 hS;have n:=zRu (T:=T) (ld:=ldO j) g.tx (Nat.lt_trans hl (by decide)) (sg m T (ldO j) s);have ni:=ni_ks (S:=sg m T (ldO j) s) r.nm (sortS (nms T));by_cases h:r.nm∈nms T
 ·refine ⟨m,T,?_,(Up.refl g hm).le (by decide),h⟩;have h':r.nm∈sortS (nms T):=zBc.mpr h;simp (decide:=true) [pIf,h1,h3,dMe,zHy,zEs,i0,wI,l,n,ni,h',zC5,fLK,-rC_1]
 ·have hn:=zIz h;have h':¬ r.nm∈sortS (nms T):=fun z=>h (zBc.mp z);have p:=yCz R.tt R.kk (m:=m) (T:=T) (ld:=ldO j) (s:=s) (Z5 hl (by decide)) l2 hn (fun o e=>zCj (ho o e)) hS;refine ⟨m + 1,T++[(r.nm,m + 1)],?_,⟨g.add hr h ho hm,fun x hx=>by rw [zJg];exact Zq _ hx,by simp,by omega⟩,by rw [zJg];simp⟩;simp (decide:=true) [pIf,h1,h3,dMe,zHy,zEs,yC3,i0,wI,l,n,ni,h',p,zC5,fLK,mkT,-rC_1]
end My
namespace My
open PySem L2 L2.F
def cB (r:Nr) (w:Str):Bool:=decide (Txt.slice r.nm none (some 3) = "box") && (!decide (w = "pin") || !(Builtin.Str.occurrences r.nm ".lid." 0 r.nm.length 1).isEmpty)
def nuL:List Str:=["1", "10", "0"]
def ex1 (r:Nr) (w n:Str):Str:=(((r.nm++".")++w)++".")++n
def exB (r:Nr) (w:Str):Bool:=!cB r w || (decide (r.nm.length + ("." : Str).length≤100000) && (decide ((r.nm++".").length + w.length≤100000) && (decide (((r.nm++".")++w).length + ("." : Str).length≤100000) && nuL.all fun n=>decide ((((r.nm++".")++w)++".").length + n.length≤100000) && TAB.any fun r'=>decide (r'.nm=ex1 r w n∧r'.ow=some r.nm∧r'.kd=w))))
theorem yF8:(TAB.all fun r=>(r.ow.isSome || (exB r "lid" && exB r "part")) && (decide (r.kd = "pin") || exB r "pin"))=true:=by decide +kernel
def pBody:FS:=sIf (tAnd' (tB1 (d2 eqA (dSl (dV 3) oNo (oSo (dC (.int 3)))) (dC (.str "box")))) (tOr' (tB1 (d2 neA (dV 4) (dC (.str "pin")))) (tB1 (d2 inD (dC (.str ".lid.")) (dV 3))))) (sSeq pIf (sSet 3 (d2 addD (d2 addD (d2 addD (d2 addD (dV 3) (dC (.str "."))) (dV 4)) (dC (.str "."))) (d2 ixD (dLst (aCons (dC (.str "1")) (aCons (dC (.str "10")) (aCons (dC (.str "0")) aNil)))) (dCl rC zB3 (aCons (dV 0) (aCons (dC (.int 3)) aNil))))))) sNx
abbrev evP (bx:U) (nm w:Str):Ev:=[some (.loc 3),some (.loc 0),some bx,some (.d (.str nm)),some (.d (.str w))]
theorem yF2 {S:Sto}{a b:Str}:inD (.d (.str a)) (.d (.str b)) S=.ok (.d (.bl (!(Builtin.Str.occurrences b a 0 b.length 1).isEmpty))) S:=by
 simp [inD,inS,Out.or]
theorem zQ2 {S:Sto}{a b:Str} (h:a.length + b.length≤100000):addD (.d (.str a)) (.d (.str b)) S=.ok (.d (.str (a++b))) S:=by
 have e:addS (.d (.str a)) (.d (.str b)) S=.ok (.d (.str (a++b))) S:=if_pos h;have e0:addI (.d (.str a)) (.d (.str b)) S=.st:=rfl;unfold addD;rw [e0,e];rfl
theorem zYe {S:Sto}{z:Str}{lo hi:Option Int}:slD (.d (.str z)) lo hi S=.ok (.d (.str (Txt.slice z lo hi))) S:=rfl
theorem ix_3 {S:Sto}{v:Int} (h0:0≤v) (h1:v < 3):∃ n∈nuL,ixD (.d (.lst [.str "1",.str "10",.str "0"])) (.d (.int v)) S=.ok (.d (.str n)) S:=by
 have:v=0∨v=1∨v=2:=by omega
 rcases this with rfl | rfl | rfl
 ·exact ⟨"1",by simp [nuL],rfl⟩
 ·exact ⟨"10",by simp [nuL],rfl⟩
 ·exact ⟨"0",by simp [nuL],rfl⟩
def Rdy (r:Nr) (T:Ts):Prop:=∀ w,r.ow=some w→w∈nms T
theorem zQx {r:Nr}{w:Str} (hr:r∈TAB) (hx:exB r w=true) {m:Int}{T:Ts}{j:Option Int}{a b c:Int}{bx:U} (g:Gd T) (hm:0≤m) (hl:T.length < 63) (ho:Rdy r T):∃ m' T' a' c' r',pBody (evP bx r.nm w) (sg m T (ldO j) (src a b c))=.nx (evP bx r'.nm w) (sg m' T' (ldO j) (src a' b c'))∧Up T T' m' 1∧r'∈TAB∧Rdy r' T'∧(r'=r∨r'.kd=w):=by
 have S1:∀ S,slD (.d (.str r.nm)) none (some 3) S=.ok (.d (.str (Txt.slice r.nm none (some 3)))) S:=fun _=>rfl;cases hc:cB r w with
 | false =>
  refine ⟨m,T,a,c,r,?_,(Up.refl g hm).le (by decide),hr,ho,.inl rfl⟩;unfold cB at hc;by_cases h1:Txt.slice r.nm none (some 3) = "box"
  ·rw [decide_eq_true h1,Bool.true_and,Bool.or_eq_false_iff] at hc;have h2:w = "pin":=by simpa using hc.1
   have h3:(Builtin.Str.occurrences r.nm ".lid." 0 r.nm.length 1).isEmpty=true:=by simpa using hc.2
   subst h2;simp (decide:=true) [pBody,dSl,oNo,oSo,S1,h1,yF2,h3]
  ·simp (decide:=true) [pBody,dSl,oNo,oSo,S1,h1]
 | true =>
  unfold exB at hx;rw [hc,Bool.not_true,Bool.false_or] at hx;simp only [Zc,decide_eq_true_eq,Zy,List.any_eq_true] at hx;obtain ⟨l1,l2,l3,hx⟩:=hx;obtain ⟨m',T',e1,up,inn⟩:=zYn hr (m:=m) (T:=T) (s:=src a b c) (ev:=evP bx r.nm w) (j:=j) g hm hl ho rfl rfl rfl;obtain ⟨v,a',c',v0,v1,e2⟩:=zLp (m:=m') (T:=T') (ld:=ldO j) a b c (q:=3) (by decide) (by decide);obtain ⟨n,hn,e3⟩:=ix_3 (S:=sg m' T' (ldO j) (src a' b c')) v0 v1;obtain ⟨l4,r',hr',q1,q2,q3⟩:=hx n hn;refine ⟨m',T',a',c',r',?_,up,hr',fun z hz=>?_,.inr q3⟩
  ·unfold cB at hc;rw [Zc] at hc;have h1:Txt.slice r.nm none (some 3) = "box":=of_decide_eq_true hc.1;have s1:=fun S=>zQ2 (S:=S) l1;have s2:=fun S=>zQ2 (S:=S) l2;have s3:=fun S=>zQ2 (S:=S) l3;have s4:=fun S=>zQ2 (S:=S) l4;have h2:(!decide (w = "pin") || !(Builtin.Str.occurrences r.nm ".lid." 0 r.nm.length 1).isEmpty)=true:=hc.2;rw [q1];unfold ex1;by_cases h3:w = "pin"
   ·have h4:(Builtin.Str.occurrences r.nm ".lid." 0 r.nm.length 1).isEmpty=false:=by simpa [h3] using h2
    subst h3;simp (decide:=true) [pBody,dSl,oNo,oSo,S1,h1,yF2,h4,e1,e2,e3,s1,s2,s3,s4,mkL,-rC_1]
   ·simp (decide:=true) [pBody,dSl,oNo,oSo,S1,h1,h3,e1,e2,e3,s1,s2,s3,s4,mkL,-rC_1]
  ·rw [q2] at hz;cases hz;exact inn
def bxL:List Str:=["box.1", "box.10", "box.100", "box.0", "tray.1", "tray.10"]
theorem yFt:(bxL.all fun x=>TAB.any fun r=>decide (r.nm=x∧r.ow=none∧r.kd≠"pin"))=true:=by decide +kernel
theorem ix_6 {S:Sto}{v:Int} (h0:0≤v) (h1:v < 6):∃ x∈bxL,ixD (.d (.lst (bxL.map D.str))) (.d (.int v)) S=.ok (.d (.str x)) S:=by
 have:v=0∨v=1∨v=2∨v=3∨v=4∨v=5:=by omega
 rcases this with rfl | rfl | rfl | rfl | rfl | rfl
 ·exact ⟨"box.1",by simp [bxL],rfl⟩
 ·exact ⟨"box.10",by simp [bxL],rfl⟩
 ·exact ⟨"box.100",by simp [bxL],rfl⟩
 ·exact ⟨"box.0",by simp [bxL],rfl⟩
 ·exact ⟨"tray.1",by simp [bxL],rfl⟩
 ·exact ⟨"tray.10",by simp [bxL],rfl⟩
theorem ix_2 {S:Sto}{v:Int} (h0:0≤v) (h1:v < 2):∃ x:Str,(x = "lid"∨x = "part")∧ixD (.d (.lst [.str "lid",.str "part"])) (.d (.int v)) S=.ok (.d (.str x)) S:=by
 have:v=0∨v=1:=by omega
 rcases this with rfl | rfl
 ·exact ⟨"lid",.inl rfl,rfl⟩
 ·exact ⟨"part",.inr rfl,rfl⟩
theorem sl_2 {S:Sto}{w:Str}{v:Int} (h0:0≤v) (h1:v < 3):∃ L,(L=[]∨L=[w]∨L=[w, "pin"])∧slD (.d (.lst [.str w,.str "pin"])) none (some v) S=.ok (.d (.lst (L.map D.str))) S:=by
 have:v=0∨v=1∨v=2:=by omega
 rcases this with rfl | rfl | rfl
 ·exact ⟨[],.inl rfl,rfl⟩
 ·exact ⟨[w],.inr (.inl rfl),rfl⟩
 ·exact ⟨[w, "pin"],.inr (.inr rfl),rfl⟩
theorem zN7 {g:GT}{b:FS}{d:U}{ds:List U}{ev ev' e':Ev}{S S':Sto} (hg:g d ev=some ev') (hb:b ev' S=.nx e' S'):forI g b (d :: ds) ev S=forI g b ds e' S':=by
 rw [forI,hg];simp only [hb]
theorem yB2 {r:Nr}{w:Str} (hw:w = "lid"∨w = "part") (hr:r∈TAB) (hn:r.ow=none) (hk:r.kd≠"pin") {L:List Str} (hL:L=[]∨L=[w]∨L=[w, "pin"]) {m:Int}{T:Ts}{j:Option Int}{a b c:Int}{bx:U} (g:Gd T) (hm:0≤m) (hl:T.length < 62):∃ m' T' a' c' r' y,forI (gN 4) pBody ((L.map D.str).map .d) [some (.loc 3),some (.loc 0),some bx,some (.d (.str r.nm)),none] (sg m T (ldO j) (src a b c))=.nx [some (.loc 3),some (.loc 0),some bx,some (.d (.str r'.nm)),y] (sg m' T' (ldO j) (src a' b c'))∧Up T T' m' 2∧r'∈TAB∧Rdy r' T':=by
 have ex:=List.all_eq_true.mp yF8;have rd:Rdy r T:=fun w' h=>by rw [hn] at h;cases h
 have x1:exB r w=true:=by
  have z:=ex r hr;rw [hn] at z;simp only [Option.isSome_none,Bool.false_or,Zc] at z;rcases hw with rfl | rfl
  ·exact z.1.1
  ·exact z.1.2
 rcases hL with rfl | rfl | rfl
 ·exact ⟨m,T,a,c,r,none,rfl,(Up.refl g hm).le (by decide),hr,rd⟩
 ·obtain ⟨m1,T1,a1,c1,r1,e1,u1,hr1,rd1,_⟩:=zQx hr x1 (m:=m) (T:=T) (j:=j) (a:=a) (b:=b) (c:=c) (bx:=bx) g hm (by omega) rd;refine ⟨m1,T1,a1,c1,r1,some (.d (.str w)),?_,u1.le (by decide),hr1,rd1⟩;show forI (gN 4) pBody [.d (.str w)] _ _=_;rw [zN7 rfl e1];rfl
 ·obtain ⟨m1,T1,a1,c1,r1,e1,u1,hr1,rd1,k1⟩:=zQx hr x1 (m:=m) (T:=T) (j:=j) (a:=a) (b:=b) (c:=c) (bx:=bx) g hm (by omega) rd;have x2:exB r1 "pin" = true:=by
   have z:=ex r1 hr1;have np:r1.kd≠"pin":=by
    rcases k1 with rfl | k1
    ·exact hk
    ·rw [k1];rcases hw with rfl | rfl <;> decide
   rw [Zc,decide_eq_false np,Bool.false_or] at z;exact z.2
  obtain ⟨m2,T2,a2,c2,r2,e2,u2,hr2,rd2,_⟩:=zQx hr1 x2 (m:=m1) (T:=T1) (j:=j) (a:=a1) (b:=b) (c:=c1) (bx:=bx) u1.g u1.m0 (by have:=u1.len;omega) rd1;refine ⟨m2,T2,a2,c2,r2,some (.d (.str "pin")),?_,u1.trans u2,hr2,rd2⟩;show forI (gN 4) pBody [.d (.str w),.d (.str "pin")] _ _=_;rw [zN7 rfl e1,zN7 rfl e2];rfl
theorem yB1 {m:Int}{T:Ts}{j:Option Int}{a b c:Int} (g:Gd T) (hm:0≤m) (hl:T.length < 60):∃ m' T' a' c',rC zDn [.loc 3,.loc 0] (sg m T (ldO j) (src a b c))=.ok (.d .non) (sg m' T' (ldO j) (src a' b c'))∧Up T T' m' 3:=by
 obtain ⟨v1,a1,c1,p1,q1,e1⟩:=zLp (m:=m) (T:=T) (ld:=ldO j) a b c (q:=6) (by decide) (by decide);obtain ⟨x,hx,i1⟩:=ix_6 (S:=sg m T (ldO j) (src a1 b c1)) p1 q1;obtain ⟨v2,a2,c2,p2,q2,e2⟩:=zLp (m:=m) (T:=T) (ld:=ldO j) a1 b c1 (q:=2) (by decide) (by decide);obtain ⟨w,hw,i2⟩:=ix_2 (S:=sg m T (ldO j) (src a2 b c2)) p2 q2;obtain ⟨v3,a3,c3,p3,q3,e3⟩:=zLp (m:=m) (T:=T) (ld:=ldO j) a2 b c2 (q:=3) (by decide) (by decide);obtain ⟨L,hL,i3⟩:=sl_2 (S:=sg m T (ldO j) (src a3 b c3)) (w:=w) p3 q3;obtain ⟨r,hr,z⟩:=List.any_eq_true.mp (List.all_eq_true.mp yFt x hx);obtain ⟨rn,ro,rk⟩:=of_decide_eq_true z;subst rn;obtain ⟨m4,T4,a4,c4,r4,y,e4,u4,hr4,rd4⟩:=yB2 hw hr ro rk hL (m:=m) (T:=T) (j:=j) (a:=a3) (b:=b) (c:=c3) (bx:=.d (.lst (bxL.map D.str))) g hm (by omega);obtain ⟨m5,T5,e5,u5,_⟩:=zYn hr4 (m:=m4) (T:=T4) (s:=src a4 b c4) (ev:=[some (.loc 3),some (.loc 0),some (.d (.lst (bxL.map D.str))),some (.d (.str r4.nm)),y]) (j:=j) u4.g u4.m0 (by have:=u4.len;omega) rd4 rfl rfl rfl;refine ⟨m5,T5,a4,c4,?_,u4.trans u5⟩;have q:zDn [.loc 3,.loc 0] (sg m T (ldO j) (src a b c))=.ok (.d .non) (sg m5 T5 (ldO j) (src a4 b c4)):=by
  have u:zDn=fnD 5 2 (sSeq (sSet 2 (dLst (aCons (dC (.str "box.1")) (aCons (dC (.str "box.10")) (aCons (dC (.str "box.100")) (aCons (dC (.str "box.0")) (aCons (dC (.str "tray.1")) (aCons (dC (.str "tray.10")) aNil))))))))
   (sSeq (sSet 3 (d2 ixD (dV 2) (dCl rC zB3 (aCons (dV 0) (aCons (dC (.int 6)) aNil)))))
   (sSeq (sFor (iAny (dSl (dLst (aCons (d2 ixD (dLst (aCons (dC (.str "lid")) (aCons (dC (.str "part")) aNil))) (dCl rC zB3 (aCons (dV 0) (aCons (dC (.int 2)) aNil)))) (aCons (dC (.str "pin")) aNil))) oNo (oSo (dCl rC zB3 (aCons (dV 0) (aCons (dC (.int 3)) aNil)))))) (gN 4) pBody) pIf))):=rfl
  have bl:[D.str "box.1",.str "box.10",.str "box.100",.str "box.0",.str "tray.1",.str "tray.10"]=bxL.map D.str:=rfl;have mk6:∀ S,mkL [.d (.str "box.1"),.d (.str "box.10"),.d (.str "box.100"),.d (.str "box.0"),.d (.str "tray.1"),.d (.str "tray.10")] S=.ok (.d (.lst (bxL.map D.str))) S:=fun _=>rfl;have mk2:∀ S,mkL [.d (.str "lid"),.d (.str "part")] S=.ok (.d (.lst [.str "lid",.str "part"])) S:=fun _=>rfl;have mkw:∀ S,mkL [.d (.str w),.d (.str "pin")] S=.ok (.d (.lst [.str w,.str "pin"])) S:=fun _=>rfl;rw [u];simp (decide:=true) [mk6,mk2,mkw,e1,i1,e2,i2,e3,i3,iAny,dSl,oNo,oSo,itO,e4,e5,-rC_1,-List.map_map]
 rw [rC_1,q,show (sg m T (ldO j) (src a b c)).length=4 from rfl];simp (decide:=true) [sg,wI]
end My
namespace My
open PySem L2 L2.F
theorem zRx (f:Str→Int) (x:Str):∀ ks:List Str,(ks.map fun y=>(y,f y)).lookup x=if x∈ks then some (f x) else none
 | []=>rfl
 | a :: r=>by
  rw [Zi,zKp,zRx f x r];by_cases h:x=a
  ·subst h;simp
  ·simp [h]
theorem zLs {T:Ts} (x:Str):(sT T).lookup x=T.lookup x:=by
 unfold sT;rw [zRx];by_cases h:x∈nms T
 ·rw [if_pos (zBc.mpr h)];obtain ⟨k,hk⟩:=Option.isSome_iff_exists.mp (zCj h);rw [hk];rfl
 ·rw [if_neg (fun z=>h (zBc.mp z)),zIz h]
theorem zOm (p:Str→Bool) (ks:List Str):sortS (ks.filter p)=(sortS ks).filter p :=
 (zKw (((zAu ks).filter p)) ((zKu ks).filter p)).symm
theorem zUb (nm:Str) (T:Ts):nms (goT nm T)=(nms T).filter fun x=>!und nm x:=by
 unfold nms goT;rw [List.filter_map];rfl
theorem zP7 {nm x:Str}{T:Ts}:x∈nms (goT nm T) ↔ x∈nms T∧und nm x=false:=by
 rw [zUb,List.mem_filter];simp
theorem zUq {nm x:Str}{T:Ts} (h:und nm x=false):(goT nm T).lookup x=T.lookup x:=by
 unfold goT
 induction T with
 | nil=>rfl
 | cons p r ih =>
  obtain ⟨a,k⟩:=p;by_cases e:und nm a=true
  ·rw [List.filter_cons_of_neg (by simp [e]),ih,zKp,if_neg (fun z=>by rw [z,e] at h;cases h)]
  ·rw [List.filter_cons_of_pos (by simpa using e),zKp,zKp,ih]
theorem sT_go (nm:Str) (T:Ts):sT (goT nm T)=(sT T).filter fun p=>!und nm p.1:=by
 unfold sT;rw [zUb,zOm,List.filter_map];refine List.map_congr_left fun x hx=>?_;have:=(List.mem_filter.mp hx).2;rw [zUq (by simpa using this)]
def unB (r q:Nr):Bool:=match q.ow with
 | some w=>!und r.nm w || und r.nm q.nm
 | none=>true
theorem yCg:(TAB.all fun r=>TAB.all fun q=>unB r q)=true:=by decide +kernel
theorem un_of {r q:Nr} (hr:r∈TAB) (hq:q∈TAB) {w:Str} (hw:q.ow=some w) (h:und r.nm q.nm=false):und r.nm w=false:=by
 have z:=List.all_eq_true.mp (List.all_eq_true.mp yCg r hr) q hq;unfold unB at z;rw [hw,h] at z
 simpa using z
theorem zR5 (nm:Str):und nm nm=true:=by unfold und;simp
theorem Gd.go {T:Ts} (g:Gd T) {r:Nr} (hr:r∈TAB):Gd (goT r.nm T):=by
 refine ⟨?_,fun x hx=>g.tb x (zP7.mp hx).1,fun q hq hx w hw=>?_,fun p hp=>g.mp p (List.mem_filter.mp hp).1⟩
 ·rw [zUb];exact g.nd.filter _
 ·obtain ⟨h1,h2⟩:=zP7.mp hx;exact zP7.mpr ⟨g.ow q hq h1 w hw,un_of hr hq hw h2⟩
theorem zO0 (T:Ts):(nms T).length=T.length:=by unfold nms;rw [Z2]
theorem yF4 {T:Ts}{r:Nr} (h:r.nm∈nms T):(goT r.nm T).length < T.length:=by
 unfold goT;obtain ⟨p,hp,e⟩:=List.mem_map.mp h;exact List.length_filter_lt_length_iff_exists.mpr ⟨p,hp,by have:und r.nm p.1=true:=by { rw [show p.1=r.nm from e];exact zR5 _ };simp [this]⟩
theorem zMs (T:Ts):(sT T).length=T.length:=by
 unfold sT;rw [Z2,(zAu _).length_eq,zO0]
theorem zZo (S:Sto) (k:Int):toQ S (.d (.tup [.tup [],.int k]))=some (.tuple [.tuple [],.int k]):=rfl
theorem zZ8 {S:Sto}{B:Ts}:∀ A:Ts,(∀ p∈A,B.lookup p.1=some p.2)→eqE S (upK (th B)) (upK (th A))=some true
 | [],_=>rfl
 | (x,k) :: r,h=>by
  have e:upK (th ((x,k) :: r))=(.inr x,.d (.tup [.tup [],.int k])) :: upK (th r):=rfl;rw [e,eqE,zI4,h (x,k) Zj];simp only [Option.map_some,zZo];rw [if_pos ⟨by simp [PyData.depth,PyData.depthAll],by simp [PyData.depth,PyData.depthAll]⟩,zZ8 r fun p hp=>h p (Zb _ hp)];simp [PyData.eqv,PyData.eqvAll]
theorem zQm:∀ {T:Ts},(nms T).Nodup→∀ p∈T,T.lookup p.1=some p.2
 | (a,k) :: r,nd,p,hp=>by
  obtain ⟨n1,n2⟩:=List.nodup_cons.mp (show (a :: nms r).Nodup from nd);rw [zKp];rcases List.mem_cons.mp hp with rfl | hp
  ·rw [if_pos rfl]
  ·rw [if_neg (fun z=>n1 (by rw [← z];exact List.mem_map.mpr ⟨p,hp,rfl⟩))];exact zQm n2 p hp
theorem zSb {S:Sto}{neg:Bool}{A:Ts} (nd:(nms A).Nodup):eqK neg (.d (.dct (th A))) (.d (.dct (th A))) S=.ok (.d (.bl (xor neg true))) S:=by
 show (if (upK (th A)).length=(upK (th A)).length then match eqE S (upK (th A)) (upK (th A)) with | some r=>Out.ok (U.d (.bl (xor neg r))) S | none=>.st else .ok (.d (.bl (xor neg false))) S)=_;rw [if_pos rfl,zZ8 A (zQm nd)]
theorem zXn {S:Sto}{A:Ts} (nd:(nms A).Nodup):eqA (.d (.dct (th A))) (.d (.dct (th A))) S=.ok (.d (.bl true)) S:=by
 unfold eqA;rw [zSb nd];rfl
theorem zWz {S:Sto}{A:Ts} (nd:(nms A).Nodup):neA (.d (.dct (th A))) (.d (.dct (th A))) S=.ok (.d (.bl false)) S:=by
 unfold neA;rw [zSb nd];rfl
theorem yAw {S:Sto}{A:Ts}:neA (.d (.dct (th A))) (.d (.dct [])) S=.ok (.d (.bl (!A.isEmpty))) S:=by
 cases A with
 | nil=>rfl
 | cons p r =>
  have:eqK true (.d (.dct (th (p :: r)))) (.d (.dct [])) S=.ok (.d (.bl true)) S:=by
   simp [eqK,dctOf,th]
  unfold neA;rw [this];rfl
end My
namespace My
open PySem L2 L2.F
theorem zYq {S:Sto}{H:Ts}{w:Str}:niD (.d (.str w)) (.d (.dct (th H))) S=.ok (.d (.bl (!(H.lookup w).isSome))) S:=by
 have k:inK true (.d (.str w)) (.d (.dct (th H))) S=.ok (.d (.bl (!(H.lookup w).isSome))) S:=by
  show Out.ok (U.d (.bl (xor true (valD (upK (th H)) (.inr w)).isSome))) S=_;rw [zI4];cases H.lookup w <;> rfl
 unfold niD;rw [k];rfl
theorem zYx {S:Sto}{G:Ts}{w:Str}{k:Int} (h:G.lookup w=some k):ixD (.d (.dct (th G))) (.d (.str w)) S=.ok (.d (.tup [.tup [],.int k])) S:=by
 show (match valD (upK (th G)) (.inr w) with | some x=>Out.ok x S | none=>.st)=_;rw [zI4,h];rfl
def grB:FS:=sSeq (sIf (tB1 (d2 neA (dMe "do" T_do rC (dV 0) (aCons (dCl rC zCw (aCons (dC (.str "ann")) (aCons (dV 2) (aCons (dV 4) (aCons (dCal (dictD false) (aCons (dV 1) aNil)) aNil))))) aNil)) (dC (.str "late")))) (sRet (dC (.bl false))) sNx)
 (sSeq (sSet 5 (dMt isS splitD (dV 4) (aCons (dC (.str ".")) aNil)))
  (sIf (tAnd' (tB1 (d2 gtI (dCal lenD (aCons (dV 5) aNil)) (dC (.int 2)))) (tB1 (d2 niD (dMt isS joinD (dC (.str ".")) (aCons (dSl (dV 5) oNo (oSo (d1 negD (dC (.int 2))))) aNil)) (dV 3))))
   (sIf (tB1 (d2 neA (dMe "do" T_do rC (dV 0) (aCons (dMkC "Make" zCy [] (aCons (dC (.str "ann")) (aCons (dV 2) (aCons (dC (.int 0)) (aCons (dV 4) (aCons (d2 ixD (d2 ixD (dV 1) (dMt isS joinD (dC (.str ".")) (aCons (dSl (dV 5) oNo (oSo (d1 negD (dC (.int 2))))) aNil))) (dC (.int 1))) (aCons (dTup aNil) aNil))))))) aNil)) (dC (.str "late")))) (sRet (dC (.bl false))) sNx) sNx))
abbrev evG (G H:Ts) (n:Int) (x y:Option U):Ev:=[some (.loc 0),some (.d (.dct (th G))),some (.d (.int n)),some (.d (.dct (th H))),x,y]
theorem yBd {q:Nr} (hq:q∈TAB) {G H T:Ts}{m n:Int}{j:Option Int}{s:Cell}{y:Option U} (hG:∀ p∈G,1≤p.2) (gl:G.length≤LM) (hl:T.length≤LM) (hS:clC 4 s=true) (hj:j.getD 0 < n) (hn:1≤n) (h0:T.lookup q.nm=none) (hH:∀ x,H.lookup x=T.lookup x) (hw:∀ w,q.ow=some w→T.lookup w=none→∃ k,G.lookup w=some k):∃ y',grB (evG G H n (some (.d (.str q.nm))) y) (sg m T (ldO j) s)=.nx (evG G H n (some (.d (.str q.nm))) y') (sg m T (ldO j) s):=by
 obtain ⟨k,R⟩:=zZw hq;have i0:insOf (sg m T (ldO j) s) (.loc 0)=some (("World" : Str),wI m):=rfl;have cp:dictD false [.d (.dct (th G))] (sg m T (ldO j) s)=.ok (.d (.dct (th G))) (sg m T (ldO j) s):=zO8 _ (th G) rfl (by rw [zR7];exact gl);have d:=zRz hq hn hG (sg m T (ldO j) s);have dl:=zXp R (m:=m) (n:=n) (mk:=mkI G q.nm) (om:=omD G q) hl hS hj h0;have sp:=zRc hq (sg m T (ldO j) s);have ln:=zUt (r:=q) (sg m T (ldO j) s);have t:=zSq hq;have gt:=t.gt;refine ⟨some (.d (.lst ((words q.nm).map D.str))),?_⟩;cases ho:q.ow with
 | none =>
  rw [ho] at gt;have c2:¬ 2 < (words q.nm).length:=of_decide_eq_false gt;have c3:¬ (2:Int) < ((words q.nm).length:Int):=by omega
  simp (decide:=true) [grB,dMe,T_do,i0,wI,cp,d,dl,dMt,isS,sp,ln,c3,-rC_1]
 | some w =>
  rw [ho] at gt;have c2:2 < (words q.nm).length:=of_decide_eq_true gt;have c3:(2:Int) < ((words q.nm).length:Int):=by omega
  have sl:=sl_S (t.sl w ho) (sg m T (ldO j) s);have jn:=zUv hq (sg m T (ldO j) s) ho;have ni:=zYq (S:=sg m T (ldO j) s) (H:=H) (w:=w);rw [hH] at ni;cases hT:T.lookup w with
  | some i =>
   rw [hT] at ni;simp (decide:=true) [grB,dMe,T_do,i0,wI,cp,d,dl,dMt,isS,sp,ln,c3,dSl,oNo,oSo,negD,sl,jn,ni,-rC_1]
  | none =>
   rw [hT] at ni;obtain ⟨i,hi⟩:=hw w ho hT;have ix:=zYx (S:=sg m T (ldO j) s) hi;have i1:1≤i:=hG _ (zGg hi);have om:omOk q (.int i):=by unfold omOk;rw [ho];exact ⟨i,i1,rfl⟩
   have mk:=zUo hq hn om (sg m T (ldO j) s);have ml:=zXr R (m:=m) (n:=n) (i:=i) hl hS hj h0 ho hT;simp (decide:=true) [grB,dMe,T_do,i0,wI,cp,d,dl,dMt,isS,sp,ln,c3,dSl,oNo,oSo,negD,sl,jn,ni,ix,dMkC,mkT,mk,ml,-rC_1]
theorem zV7 {G H T:Ts}{m n:Int}{j:Option Int}{s:Cell} (hG:∀ p∈G,1≤p.2) (gl:G.length≤LM) (hl:T.length≤LM) (hS:clC 4 s=true) (hj:j.getD 0 < n) (hn:1≤n) (hH:∀ x,H.lookup x=T.lookup x):∀ (L:List Str) (x y:Option U),(∀ a∈L,∃ q∈TAB,q.nm=a∧T.lookup a=none∧∀ w,q.ow=some w→T.lookup w=none→∃ k,G.lookup w=some k)→∃ x' y',forI (gN 4) grB (L.map fun a=>.d (.str a)) (evG G H n x y) (sg m T (ldO j) s)=.nx (evG G H n x' y') (sg m T (ldO j) s)
 | [],x,y,_=>⟨x,y,rfl⟩
 | a :: r,x,y,h=>by
  obtain ⟨q,hq,e,h0,hw⟩:=h a Zj;subst e;obtain ⟨y1,e1⟩:=yBd hq (m:=m) (s:=s) (y:=y) hG gl hl hS hj hn h0 hH hw;obtain ⟨x',y',e2⟩:=zV7 hG gl hl hS hj hn hH r (some (.d (.str q.nm))) y1 fun b hb=>h b (Zb _ hb);refine ⟨x',y',?_⟩;rw [Zi,zN7 (ev':=evG G H n (some (.d (.str q.nm))) y) rfl e1];exact e2
theorem zYy {S:Sto}{G:Ts} (ht:∀ x∈nms G,txtB x=true):itO (.d (.dct (th G))) S=.ok (.items ((nms G).map fun a=>.d (.str a))) S:=by
 have a:((upK (th G)).all fun e=>keyOk e.1)=true:=by
  unfold upK th;rw [List.map_map,List.all_map];exact List.all_eq_true.mpr fun p hp=>ht p.1 (List.mem_map.mpr ⟨p,hp,rfl⟩)
 show (if ((upK (th G)).all fun e=>keyOk e.1)=true then Out.ok (Itd.items ((upK (th G)).map fun kv=>keyU kv.1)) S else .st)=_;rw [if_pos a];have:((upK (th G)).map fun kv=>keyU kv.1)=(nms G).map fun a=>U.d (.str a):=by
  unfold upK th nms;rw [List.map_map,List.map_map,List.map_map];rfl
 rw [this]
theorem yBe {G T:Ts}{m n:Int}{j:Option Int}{s:Cell} (g:Gd T) (h60:T.length < 64) (hG:∀ p∈G,1≤p.2) (gl:G.length≤LM) (gt:∀ x∈nms G,txtB x=true) (hS:clC 4 s=true) (hj:j.getD 0 < n) (hn:1≤n) (hL:∀ a∈nms G,∃ q∈TAB,q.nm=a∧T.lookup a=none∧∀ w,q.ow=some w→T.lookup w=none→∃ k,G.lookup w=some k):rC zBd [.loc 0,.d (.dct (th G)),.d (.int n)] (sg m T (ldO j) s)=.ok (.d (.bl true)) (sg m T (ldO j) s):=by
 have hl:T.length≤LM:=Z3 (Zs h60) (by decide);have tq:=zI5 (m:=m) (T:=T) (ld:=ldO j) (s:=s) g.nd g.tx h60 (Z3 (zFz j) (by decide)) hS;obtain ⟨x',y',e⟩:=zV7 (G:=G) (H:=sT T) (T:=T) (m:=m) (s:=s) hG gl hl hS hj hn (fun x=>zLs x) (nms G) none none hL;have it:=zYy (S:=sg m T (ldO j) s) gt;have nds:(nms (sT T)).Nodup:=by rw [zGf];exact zKv g.nd
 have eq:=zXn (S:=sg m T (ldO j) s) nds;have q:zBd [.loc 0,.d (.dct (th G)),.d (.int n)] (sg m T (ldO j) s)=.ok (.d (.bl true)) (sg m T (ldO j) s):=by
  have u:zBd=fnD 6 3 (sSeq (sSet 3 (dCl rC zAz (aCons (dV 0) aNil))) (sSeq (sFor (iAny (dV 1)) (gN 4) grB) (sRet (d2 eqA (dCl rC zAz (aCons (dV 0) aNil)) (dV 3))))):=rfl;rw [u];simp (decide:=true) [tq,iAny,it,e,eq,-rC_1]
 rw [rC_1,q,show (sg m T (ldO j) s).length=4 from rfl];simp (decide:=true) [sg,wI,hS]
end My
namespace My
open PySem L2 L2.F
theorem yEd:(TAB.all fun r=>decide (r.nm.length + ("." : Str).length≤100000))=true:=by decide +kernel
theorem zSt {a b:List Str} (p:a.Perm b):sortS a=sortS b:=zKw ((zAu a).trans p) (zKu a)
theorem zTn {A:Ts} (nd:(nms A).Nodup) (p:Str→Bool):((nms A).filter p).map (fun x=>((.inr x:Key),thD A x))=th (A.filter fun e=>p e.1):=by
 unfold nms th;rw [List.filter_map,List.map_map];refine List.map_congr_left fun e he=>?_;have:=zQm nd e (List.mem_filter.mp he).1;show ((.inr e.1:Key),thD A e.1)=ent e;unfold thD;rw [this];rfl
theorem zRy {A:Ts}{p:Str→Bool}{x:Str}:(A.filter fun e=>p e.1).lookup x=if p x=true then A.lookup x else none:=by
 induction A with
 | nil=>simp
 | cons e r ih =>
  obtain ⟨a,k⟩:=e;by_cases h:p a=true
  ·rw [List.filter_cons_of_pos (by exact h),zKp,zKp,ih];by_cases e:x=a
   ·subst e;simp [h]
   ·simp [e]
  ·rw [List.filter_cons_of_neg (by exact h),ih,zKp];by_cases e:x=a
   ·subst e;simp [h]
   ·simp [e]
theorem zSl {A:Ts} (nd:(nms A).Nodup) (ht:∀ x∈nms A,txtB x=true) (hl:A.length≤LM) {S:Sto}{ev:Ev}{i j:Nat}{t:FT} (p:Str→Bool) (hi:ev[i]? = some (some (.d (.dct (th A))))) (hj:j=ev.length) (hp:∀ x∈nms A,t (ev++[some (.d (.str x))]) S=.ok (p x) S):dCal (dictD false) (aCons (dComp 1 (iAny (dV i)) (gN j) t (dTup (aCons (dV j) (aCons (d2 ixD (dV i) (dV j)) aNil)))) aNil) ev S=.ok (.d (.dct (th (A.filter fun e=>p e.1)))) S:=by
 subst hj;have il:i < ev.length:=(List.getElem?_eq_some_iff.mp hi).1;have len:(nms A).length≤LM:=by rw [zO0];exact hl
 have gi:∀ x:U,(ev++[some x])[i]? = some (some (.d (.dct (th A)))):=fun x=>by rw [Ze il];exact hi
 have gj:∀ x:U,(ev++[some x])[ev.length]? = some (some x):=fun x=>by rw [Zg (Z1 _)];simp
 have c:dComp 1 (iAny (dV i)) (gN ev.length) t (dTup (aCons (dV ev.length) (aCons (d2 ixD (dV i) (dV ev.length)) aNil))) ev S=.ok (.d (.lst (((nms A).filter p).map fun x=>.tup [.str x,thD A x]))) S:=by
  rw [zM4 (ds:=(nms A).map fun a=>.d (.str a)) (fun d=>match d with | .d (.str x)=>p x | _=>false) (fun d=>match d with | .d (.str x)=>.d (.tup [.str x,thD A x]) | u=>u) ?_ (by rw [Z2];exact len) ?_]
  ·have e:(((nms A).map fun a=>U.d (.str a)).filter fun d=>match d with | .d (.str x)=>p x | _=>false).map (fun d=>match d with | .d (.str x)=>U.d (.tup [.str x,thD A x]) | u=>u)=(((nms A).filter p).map fun x=>D.tup [.str x,thD A x]).map U.d:=by
    rw [List.filter_map,List.map_map,List.map_map];rfl
   rw [e];unfold mkL;rw [zD9];simp only;rw [if_pos (by rw [Z2];exact Z3 (Y0 _ _) len)]
  ·simp [iAny,hi,zYy ht]
  ·intro d hd;obtain ⟨x,hx,rfl⟩:=List.mem_map.mp hd;obtain ⟨k,hk⟩:=Option.isSome_iff_exists.mp (zCj hx);have ix:=zYx (S:=S) hk;have tk:thD A x=.tup [.tup [],.int k]:=by unfold thD;rw [hk]
   refine ⟨ev++[some (.d (.str x))],?_,hp x hx,fun _=>?_⟩
   ·show some ((ev++[none]).set ev.length (some (.d (.str x))))=_;rw [List.set_append_right _ _ (Z1 _)];simp
   ·simp [gi,gj,ix,tk,mkT]
    decide
 have d:=zVg (S:=S) (thD A) ((nms A).filter p) (nd.filter _) (Z3 (Y0 _ _) len);rw [zTn nd p] at d;simp only [yBr,zY6,c,zOf,yC2,d]
theorem zXb {S:Sto}{A:Ts} (ht:∀ x∈nms A,txtB x=true):listD [.d (.dct (th A))] S=.ok (.d (.lst ((nms A).map D.str))) S:=by
 have c:listC [.d (.dct (th A))] S=.st:=rfl;have a:((upK (th A)).all fun e=>keyOk e.1)=true:=by
  unfold upK th;rw [List.map_map,List.all_map];exact List.all_eq_true.mpr fun p hp=>ht p.1 (List.mem_map.mpr ⟨p,hp,rfl⟩)
 have k:listK false [.d (.dct (th A))] S=.ok (.d (.lst ((nms A).map D.str))) S:=by
  show (if ((upK (th A)).all fun e=>keyOk e.1)=true then (if false=true then Out.ok (U.loc S.length) (S++[.lst ((upK (th A)).map fun kv=>keyU kv.1)]) else .ok (.d (.lst ((upK (th A)).map fun kv=>keyV kv.1))) S) else .st)=_;rw [if_pos a,if_neg (by decide)];have:((upK (th A)).map fun kv=>keyV kv.1)=(nms A).map D.str:=by
   unfold upK th nms;rw [List.map_map,List.map_map,List.map_map];rfl
  rw [this]
 unfold listD;rw [c,k];rfl
theorem zW4 {S:Sto}{ks:List Str} (hl:ks.length < 64):sortD [.d (.lst (ks.map D.str))] S=.ok (.d (.lst ((sortS ks).map D.str))) S:=by
 have k:lst1 sortL [.d (.lst (ks.map D.str))] S=.ok (.d (.lst ((sortS ks).map D.str))) S:=by
  show sortL ((ks.map D.str).map U.d) S=_;unfold sortL;rw [zR9];exact if_pos hl
 unfold sortD;rw [k];rfl
theorem zQz {S:Sto}{a b:List D} (h:a.length + b.length≤LM):addD (.d (.lst a)) (.d (.lst b)) S=.ok (.d (.lst (a++b))) S:=by
 have e:addL (.d (.lst a)) (.d (.lst b)) S=.ok (.d (.lst (a++b))) S:=by
  show mkL (a.map U.d++b.map U.d) S=_;rw [← List.map_append];unfold mkL;rw [zD9];simp only;rw [if_pos (by rw [Zf];exact h)]
 have e0:addI (.d (.lst a)) (.d (.lst b)) S=.st:=rfl;have e1:addS (.d (.lst a)) (.d (.lst b)) S=.st:=rfl;have e2:addT (.d (.lst a)) (.d (.lst b)) S=.st:=rfl;unfold addD;rw [e0,e1,e2,e];rfl
theorem yEe {S:Sto}{ks:List Str}:neA (.d (.lst (ks.map D.str))) (.d (.lst (ks.map D.str))) S=.ok (.d (.bl false)) S:=by
 have q:toQ S (.d (.lst (ks.map D.str)))=some (.list (ks.map PyData.str)):=by
  show (toPs (ks.map D.str)).map PyData.list=_;rw [zL2];rfl
 have ev:PyData.eqv (.list (ks.map PyData.str)) (.list (ks.map PyData.str))=true:=by
  have:∀ ks:List Str,PyData.eqvAll (ks.map PyData.str) (ks.map PyData.str)=true:=by
   intro ks
   induction ks with
   | nil=>simp [PyData.eqvAll]
   | cons a r ih=>simp [PyData.eqvAll,PyData.eqv,ih]
  simp [PyData.eqv,this]
 have e:eqP true (.d (.lst (ks.map D.str))) (.d (.lst (ks.map D.str))) S=.ok (.d (.bl false)) S:=by
  unfold eqP;rw [q];simp only;rw [if_pos ⟨zO4 ks,zO4 ks⟩,ev];rfl
 have e0:neS (.d (.lst (ks.map D.str))) (.d (.lst (ks.map D.str))) S=.st:=rfl;unfold neA neD;rw [e0,e];rfl
theorem yB5 {S:Sto}{A:Ts}:lenD [.d (.dct (th A))] S=.ok (.d (.int A.length)) S:=by
 have:lenK [.d (.dct (th A))] S=.ok (.d (.int A.length)) S:=by
  show Out.ok (U.d (.int (upK (th A)).length)) S=_;rw [yEo,zR7]
 unfold lenD;rw [this];rfl
theorem yEy {S:Sto}{ks:List Str}{i:Int} (h0:0≤i) (h1:i < ks.length):∃ x∈ks,ixD (.d (.lst (ks.map D.str))) (.d (.int i)) S=.ok (.d (.str x)) S:=by
 have hi:i.toNat < ks.length:=by omega
 refine ⟨ks[i.toNat],List.getElem_mem hi,?_⟩;have e:atI ((ks.map D.str).map U.d) i=some (.d (.str ks[i.toNat])):=by
  unfold atI ixN;rw [if_pos h0,if_pos (by simpa using h1)];simp [hi]
 show (match atI ((ks.map D.str).map U.d) i with | some x=>Out.ok x S | none=>.st)=_;rw [e]
end My
namespace My
open PySem L2 L2.F
def lMake:FS:=sSeq (sSet 6 (d2 addD (dV 6) (dC (.int 1))))
 (sSeq (sIf (tB1 (d2 neA (dMe "do" T_do rC (dV 3) (aCons (dMkC "Make" zCy [] (aCons (dC (.str "ann")) (aCons (dV 6) (aCons (dC (.int 0)) (aCons (dV 9) (aCons (dC .non) (aCons (dTup aNil) aNil))))))) aNil)) (dC (.str "done")))) (sRet (dC (.bl false))) sNx)
  (sIf (tB1 (d2 neA (dCal sortD (aCons (dCl rC zAz (aCons (dV 3) aNil)) aNil)) (dCal sortD (aCons (d2 addD (dCal listD (aCons (dV 11) aNil)) (dLst (aCons (dV 9) aNil))) aNil)))) (sRet (dC (.bl false))) sNx))
def dGone:FE:=dCal (dictD false) (aCons (dComp 1 (iAny (dV 8)) (gN 12) (tOr' (tB1 (d2 eqA (dV 12) (dV 9))) (tTr (dMt isS startD (dV 12) (aCons (d2 addD (dV 9) (dC (.str "."))) aNil)))) (dTup (aCons (dV 12) (aCons (d2 ixD (dV 8) (dV 12)) aNil)))) aNil)
def dRest:FE:=dCal (dictD false) (aCons (dComp 1 (iAny (dV 8)) (gN 12) (tB1 (d2 niD (dV 12) (dV 10))) (dTup (aCons (dV 12) (aCons (d2 ixD (dV 8) (dV 12)) aNil)))) aNil)
def lTest:FS:=sIf (tOr' (tB1 (d2 neA (dCl rC zAz (aCons (dV 3) aNil)) (dV 11))) (tNot' (tTr (dCl rC zBd (aCons (dV 3) (aCons (dV 10) (aCons (d2 addD (dV 6) (dC (.int 1))) aNil))))))) (sRet (dC (.bl false))) sNx
def lBody:FS:=sSeq (sSet 8 (dCl rC zAz (aCons (dV 3) aNil)))
 (sIf (tB1 (d2 neA (dV 8) dDct))
  (sSeq (sSet 9 (d2 ixD (dCal sortD (aCons (dV 8) aNil)) (d2 modI (dV 7) (dCal lenD (aCons (dV 8) aNil)))))
  (sSeq (sSet 6 (d2 addD (dV 6) (dC (.int 1))))
  (sSeq (sIf (tB1 (d2 neA (dMe "do" T_do rC (dV 3) (aCons (dCl rC zCw (aCons (dC (.str "ann")) (aCons (dV 6) (aCons (dV 9) (aCons (dV 8) aNil))))) aNil)) (dC (.str "done")))) (sRet (dC (.bl false))) sNx)
  (sSeq (sSet 10 dGone)
  (sSeq (sSet 11 dRest)
  (sSeq lTest
  (sIf (tAnd' (tB1 (d2 eqA (d2 modI (dV 7) (dC (.int 3))) (dC (.int 0)))) (tB1 (d2 eqA (dMt isS countD (dV 9) (aCons (dC (.str ".")) aNil)) (dC (.int 1))))) lMake sNx))))))) sNx)
abbrev evL (x0 x1 x2 x5:Option U) (n:Int) (x7 x8 x9 x10 x11:Option U):Ev:=[x0,x1,x2,some (.loc 0),some (.loc 3),x5,some (.d (.int n)),x7,x8,x9,x10,x11]
section
variable {x0 x1 x2 x5:Option U}
theorem zUn {r:Nr}{k:Option Str} (R:Rk r k) (hw:r.ow=none) {T:Ts}{m n:Int}{s:Cell} (g:Gd T) (hm:0≤m) (hl:T.length < 60) (hn:0≤n) (hS:clC 4 s=true) (h0:r.nm∉nms T) {x7 x8 x10:Option U}:lMake (evL x0 x1 x2 x5 n x7 x8 (some (.d (.str r.nm))) x10 (some (.d (.dct (th (sT T)))))) (sg m T (ldO (some n)) s)=.nx (evL x0 x1 x2 x5 (n + 1) x7 x8 (some (.d (.str r.nm))) x10 (some (.d (.dct (th (sT T)))))) (sg (m + 1) (T++[(r.nm,m + 1)]) (ldO (some (n + 1))) s):=by
 have i0:∀ m T ld,insOf (sg m T ld s) (.loc 0)=some (("World" : Str),wI m):=fun _ _ _=>rfl;have om:omOk r .non:=by unfold omOk;rw [hw]
 have mk:=zUo R.tt (n:=n + 1) (by omega) om (sg m T (ldO (some n)) s);have d:=zXs R (m:=m) (n:=n + 1) (T:=T) (j:=some n) (s:=s) (Z5 hl (by decide)) hS (by show n < n + 1;omega) (zIz h0) hw;have g2:Gd (T++[(r.nm,m + 1)]):=g.add R.tt h0 (fun w h=>by rw [hw] at h;cases h) hm;have l2:(T++[(r.nm,m + 1)]).length < 64:=by simp;omega
 have t:=zI5 (m:=m + 1) (T:=T++[(r.nm,m + 1)]) (ld:=ldO (some (n + 1))) (s:=s) g2.nd g2.tx l2 (Z3 (zFz _) (by decide)) hS;have tx2:∀ x∈nms (sT (T++[(r.nm,m + 1)])),txtB x=true:=fun x hx=>g2.tx x (by rw [zGf] at hx;exact zBc.mp hx);have so:=zQ8 (S:=sg (m + 1) (T++[(r.nm,m + 1)]) (ldO (some (n + 1))) s) tx2 (by rw [zMs];exact l2);have tx1:∀ x∈nms (sT T),txtB x=true:=fun x hx=>g.tx x (by rw [zGf] at hx;exact zBc.mp hx);have li:=zXb (S:=sg (m + 1) (T++[(r.nm,m + 1)]) (ldO (some (n + 1))) s) tx1;have ln1:(nms (sT T)).length=T.length:=by rw [zO0,zMs]
 have ad:=zQz (S:=sg (m + 1) (T++[(r.nm,m + 1)]) (ldO (some (n + 1))) s) (a:=(nms (sT T)).map D.str) (b:=[.str r.nm]) (by rw [Z2,ln1];show T.length + 1≤LM;exact Z3 hl (by decide));have e2:(nms (sT T)).map D.str++[.str r.nm]=(nms (sT T)++[r.nm]).map D.str:=by rw [List.map_append];rfl
 rw [e2] at ad;have so2:=zW4 (S:=sg (m + 1) (T++[(r.nm,m + 1)]) (ldO (some (n + 1))) s) (ks:=nms (sT T)++[r.nm]) (by rw [Zf,ln1];show T.length + 1 < 64;omega);have same:sortS (nms (sT (T++[(r.nm,m + 1)])))=sortS (nms (sT T)++[r.nm]):=by
  refine zSt ?_;rw [zGf,zGf,zJg];exact (zAu _).trans (List.Perm.append_right _ (zAu _).symm)
 rw [same] at so;have ne:=yEe (S:=sg (m + 1) (T++[(r.nm,m + 1)]) (ldO (some (n + 1))) s) (ks:=sortS (nms (sT T)++[r.nm]));have ml:∀ S,mkL [.d (.str r.nm)] S=.ok (.d (.lst [.str r.nm])) S:=fun _=>rfl;simp (decide:=true) [lMake,dMe,T_do,i0,wI,dMkC,mkT,mk,d,t,so,li,ml,ad,so2,ne,-rC_1,-List.map_append,-List.map_map]
end
end My
namespace My
open PySem L2 L2.F
section
variable {x0 x1 x2 x5:Option U}
structure St (T:Ts) (m n:Int) (j:Option Int):Prop where
 g:Gd T
 m0:0≤m
 n0:0≤n
 le:T.length≤60
 jn:j.getD 0=n
theorem zXe {T:Ts}{m n x:Int}{j:Option Int}{s:Cell} (I:St T m n j) (hS:clC 4 s=true) (x8 x9 x10 x11:Option U):∃ m' T' n' j' y8 y9 y10 y11,lBody (evL x0 x1 x2 x5 n (some (.d (.int x))) x8 x9 x10 x11) (sg m T (ldO j) s)=.nx (evL x0 x1 x2 x5 n' (some (.d (.int x))) y8 y9 y10 y11) (sg m' T' (ldO j') s)∧St T' m' n' j':=by
 have g:=I.g;have l64:T.length < 64:=Yd I.le (by decide);have i0:∀ m T ld,insOf (sg m T ld s) (.loc 0)=some (("World" : Str),wI m):=fun _ _ _=>rfl;have t:=zI5 (m:=m) (T:=T) (ld:=ldO j) (s:=s) g.nd g.tx l64 (Z3 (zFz _) (by decide)) hS;have nd:=yAw (S:=sg m T (ldO j) s) (A:=sT T);by_cases hT:T=[]
 ·subst hT;refine ⟨m,[],n,j,some (.d (.dct (th (sT [])))),x9,x10,x11,?_,I⟩;have nd:neA (.d (.dct (th (sT [])))) (.d (.dct [])) (sg m [] (ldO j) s)=.ok (.d (.bl false)) (sg m [] (ldO j) s):=nd;simp (decide:=true) [lBody,t,nd,-rC_1]
 ·have ne:(sT T).isEmpty=false:=by
   rw [List.isEmpty_eq_false_iff];intro z;have:=zMs T;rw [z] at this;exact hT (List.eq_nil_of_length_eq_zero this.symm)
  rw [ne] at nd;have tx1:∀ y∈nms (sT T),txtB y=true:=fun y hy=>g.tx y (by rw [zGf] at hy;exact zBc.mp hy);have so:=zQ8 (S:=sg m T (ldO j) s) tx1 (by rw [zMs];exact l64);have ln:=yB5 (S:=sg m T (ldO j) s) (A:=sT T);have pos:(0:Int) < ((sT T).length:Int):=by
   have:0 < T.length:=List.length_pos_iff.mpr hT;rw [zMs];omega
  have md:=zP6 (S:=sg m T (ldO j) s) (i:=x) pos;have lk:(sortS (nms (sT T))).length=(sT T).length:=by rw [(zAu _).length_eq,zO0]
  obtain ⟨nm,hnm,ix⟩:=yEy (S:=sg m T (ldO j) s) (ks:=sortS (nms (sT T))) (i:=x % ((sT T).length:Int)) (Int.emod_nonneg _ (by omega)) (by rw [lk];exact Y8 _ pos);have hin:nm∈nms T:=by
   have:=zBc.mp hnm;rw [zGf] at this;exact zBc.mp this
  obtain ⟨r,hr,e⟩:=g.tb nm hin;subst e;obtain ⟨k,R⟩:=zZw hr;obtain ⟨mk,hmk⟩:=Option.isSome_iff_exists.mp (zCj hin);have smp:∀ p∈sT T,1≤p.2:=fun p hp=>by
   obtain ⟨y,hy,rfl⟩:=List.mem_map.mp hp;obtain ⟨i,hi⟩:=Option.isSome_iff_exists.mp (zCj (zBc.mp hy));show 1≤(T.lookup y).getD 0;rw [hi];exact g.mp _ (zGg hi)
  have n1:1≤n + 1:=by have:=I.n0;omega
  have de:=zRz hr n1 smp (sg m T (ldO j) s);have em:mkI (sT T) r.nm=mk:=by unfold mkI;rw [zLs,hmk];rfl
  have eo:mkO T r.ow=omD (sT T) r:=by
   unfold mkO omD;cases ho:r.ow with
   | none=>rfl
   | some w =>
    obtain ⟨i,hi⟩:=Option.isSome_iff_exists.mp (zCj (g.ow r hr hin w ho));show mkD' T w=.int (((sT T).lookup w).getD 1);unfold mkD';rw [zLs,hi];rfl
  rw [em] at de;have dd:=zXq R (m:=m) (n:=n + 1) (T:=T) (j:=j) (s:=s) g.nd g.tx (Z3 (Zs l64) (by decide)) hS (by rw [I.jn];omega) hmk eo (yE7 smp r);have nds:(nms (sT T)).Nodup:=by rw [zGf];exact zKv g.nd
  have sl:(sT T).length≤LM:=by rw [zMs];exact Z3 (Zs l64) (by decide)
  have nl:r.nm.length + ("." : Str).length≤100000:=of_decide_eq_true (List.all_eq_true.mp yEd r hr);have g1:=g.go hr;have T1l:=yF4 hin
  have GN:=zSl nds tx1 sl (S:=sg m (goT r.nm T) (ldO (some (n + 1))) s) (ev:=evL x0 x1 x2 x5 (n + 1) (some (.d (.int x))) (some (.d (.dct (th (sT T))))) (some (.d (.str r.nm))) x10 x11) (i:=8) (j:=12) (t:=tOr' (tB1 (d2 eqA (dV 12) (dV 9))) (tTr (dMt isS startD (dV 12) (aCons (d2 addD (dV 9) (dC (.str "."))) aNil)))) (und r.nm) rfl rfl (fun y hy=>by
   have ad:=fun S=>zQ2 (S:=S) nl;unfold und;by_cases h:y=r.nm
   ·simp (decide:=true) [h]
   ·simp (decide:=true) [h,dMt,isS,ad,startD])
  have lG:∀ y∈nms (sT T),((sT T).filter fun e=>und r.nm e.1).lookup y=if und r.nm y=true then T.lookup y else none:=fun y _=>by rw [zRy,zLs]
  have RS:=zSl nds tx1 sl (S:=sg m (goT r.nm T) (ldO (some (n + 1))) s) (ev:=evL x0 x1 x2 x5 (n + 1) (some (.d (.int x))) (some (.d (.dct (th (sT T))))) (some (.d (.str r.nm))) (some (.d (.dct (th ((sT T).filter fun e=>und r.nm e.1))))) x11) (i:=8) (j:=12) (t:=tB1 (d2 niD (dV 12) (dV 10))) (fun y=>!und r.nm y) rfl rfl (fun y hy=>by
   have ni:=zYq (S:=sg m (goT r.nm T) (ldO (some (n + 1))) s) (H:=(sT T).filter fun e=>und r.nm e.1) (w:=y);have hy':y∈nms T:=by rw [zGf] at hy;exact zBc.mp hy
   have:(((sT T).filter fun e=>und r.nm e.1).lookup y).isSome=und r.nm y:=by
    rw [lG y hy];cases h:und r.nm y with
    | true=>rw [if_pos rfl];exact zCj hy'
    | false=>rw [if_neg (by decide)];rfl
   rw [this] at ni
   simp (decide:=true) [ni])
  rw [← sT_go] at RS;have t1:=zI5 (m:=m) (T:=goT r.nm T) (ld:=ldO (some (n + 1))) (s:=s) g1.nd g1.tx (by omega) (Z3 (zFz _) (by decide)) hS;have nds1:(nms (sT (goT r.nm T))).Nodup:=by rw [zGf];exact zKv g1.nd
  have nm1:=zWz (S:=sg m (goT r.nm T) (ldO (some (n + 1))) s) nds1
  have gr:=yBe (G:=(sT T).filter fun e=>und r.nm e.1) (T:=goT r.nm T) (m:=m) (n:=n + 1 + 1) (j:=some (n + 1)) (s:=s) g1 (by omega) (fun p hp=>smp p (List.mem_filter.mp hp).1) (Z3 (Y0 _ _) sl) (fun y hy=>by
   obtain ⟨p,hp,rfl⟩:=List.mem_map.mp hy
   exact tx1 _ (List.mem_map.mpr ⟨p,(List.mem_filter.mp hp).1,rfl⟩)) hS (by show n + 1 < n + 1 + 1;omega) (by omega) (fun y hy=>by
   obtain ⟨p,hp,rfl⟩:=List.mem_map.mp hy;obtain ⟨hp1,hp2⟩:=List.mem_filter.mp hp;have py:p.1∈nms T:=by
    have:p.1∈nms (sT T):=List.mem_map.mpr ⟨p,hp1,rfl⟩;rw [zGf] at this;exact zBc.mp this
   obtain ⟨q,hq,eq⟩:=g.tb p.1 py;refine ⟨q,hq,eq,zIz (fun z=>?_),fun w hw hn=>?_⟩
   ·have:=(zP7.mp z).2;rw [this] at hp2;cases hp2
   ·have hwT:w∈nms T:=g.ow q hq (by rw [eq];exact py) w hw;have hu:und r.nm w=true:=by
     cases h:und r.nm w with
     | true=>rfl
     | false =>
      rw [zUq h] at hn;have:=zCj hwT;rw [hn] at this;cases this
    obtain ⟨i,hi⟩:=Option.isSome_iff_exists.mp (zCj hwT)
    exact ⟨i,by rw [zRy,if_pos hu,zLs,hi]⟩)
  have GN':dGone (evL x0 x1 x2 x5 (n + 1) (some (.d (.int x))) (some (.d (.dct (th (sT T))))) (some (.d (.str r.nm))) x10 x11) (sg m (goT r.nm T) (ldO (some (n + 1))) s)=_:=GN;have RS':dRest (evL x0 x1 x2 x5 (n + 1) (some (.d (.int x))) (some (.d (.dct (th (sT T))))) (some (.d (.str r.nm))) (some (.d (.dct (th ((sT T).filter fun e=>und r.nm e.1))))) x11) (sg m (goT r.nm T) (ldO (some (n + 1))) s)=_:=RS;have I1:St (goT r.nm T) m (n + 1) (some (n + 1)):=⟨g1,I.m0,by omega,by have:=I.le;omega,rfl⟩;have m3:=zP6 (S:=sg m (goT r.nm T) (ldO (some (n + 1))) s) (i:=x) (j:=3) (by decide);have h0:r.nm∉nms (goT r.nm T):=fun z=>by have:=(zP7.mp z).2;rw [zR5] at this;cases this
  have tst:lTest (evL x0 x1 x2 x5 (n + 1) (some (.d (.int x))) (some (.d (.dct (th (sT T))))) (some (.d (.str r.nm))) (some (.d (.dct (th ((sT T).filter fun e=>und r.nm e.1))))) (some (.d (.dct (th (sT (goT r.nm T))))))) (sg m (goT r.nm T) (ldO (some (n + 1))) s)=.nx (evL x0 x1 x2 x5 (n + 1) (some (.d (.int x))) (some (.d (.dct (th (sT T))))) (some (.d (.str r.nm))) (some (.d (.dct (th ((sT T).filter fun e=>und r.nm e.1))))) (some (.d (.dct (th (sT (goT r.nm T))))))) (sg m (goT r.nm T) (ldO (some (n + 1))) s):=by
   simp (decide:=true) [lTest,t1,nm1,gr,-rC_1]
  have ct:=(zSq hr).ct;by_cases c:x % 3=0∧(Txt.count r.nm "." : Int)=1
  ·have hw:r.ow=none:=by
    cases ho:r.ow with
    | none=>rfl
    | some w =>
     rw [ho] at ct;have:=of_decide_eq_true ct;have h2:=c.2;omega
   have ms:=zUn (x0:=x0) (x1:=x1) (x2:=x2) (x5:=x5) R hw (T:=goT r.nm T) (m:=m) (n:=n + 1) (s:=s) g1 I.m0 (by have:=I.le;omega) (by omega) hS h0 (x7:=some (.d (.int x))) (x8:=some (.d (.dct (th (sT T))))) (x10:=some (.d (.dct (th ((sT T).filter fun e=>und r.nm e.1)))));refine ⟨m + 1,goT r.nm T++[(r.nm,m + 1)],n + 1 + 1,some (n + 1 + 1),some (.d (.dct (th (sT T)))),some (.d (.str r.nm)),some (.d (.dct (th ((sT T).filter fun e=>und r.nm e.1)))),some (.d (.dct (th (sT (goT r.nm T))))),?_,⟨g1.add hr h0 (fun w h=>by rw [hw] at h;cases h) I.m0,by have:=I.m0;omega,by omega,by simp;have:=I.le;omega,rfl⟩⟩;simp (decide:=true) [lBody,t,nd,so,ln,md,ix,dMe,T_do,i0,wI,de,dd,GN',RS',tst,m3,c.1,c.2,dMt,isS,countD,ms,-rC_1]
  ·refine ⟨m,goT r.nm T,n + 1,some (n + 1),some (.d (.dct (th (sT T)))),some (.d (.str r.nm)),some (.d (.dct (th ((sT T).filter fun e=>und r.nm e.1)))),some (.d (.dct (th (sT (goT r.nm T))))),?_,I1⟩;by_cases c1:x % 3=0
   ·have c2:¬ (Txt.count r.nm "." : Int)=1:=fun z=>c ⟨c1,z⟩;simp (decide:=true) [lBody,t,nd,so,ln,md,ix,dMe,T_do,i0,wI,de,dd,GN',RS',tst,m3,c1,c2,dMt,isS,countD,-rC_1]
   ·simp (decide:=true) [lBody,t,nd,so,ln,md,ix,dMe,T_do,i0,wI,de,dd,GN',RS',tst,m3,c1,-rC_1]
end
end My
namespace My
open PySem L2 L2.F
theorem kd1:makeRun (zB4 [.loc 0,.d (.str "pin"),.d (.lst []),.d (.str "lid")] [.ins "Kind" []]) []=.ok (.d (ob "pin" (.str "lid"))) []:=by kernel_rfl
theorem kd2:makeRun (zB4 [.loc 0,.d (.str "box"),.d (.lst []),.d .non] [.ins "Kind" []]) []=.ok (.d (ob "box" .non)) []:=by kernel_rfl
theorem kd3:makeRun (zB4 [.loc 0,.d (.str "part"),.d (.lst []),.d (.str "box")] [.ins "Kind" []]) []=.ok (.d (ob "part" (.str "box"))) []:=by kernel_rfl
theorem kd4:makeRun (zB4 [.loc 0,.d (.str "lid"),.d (.lst []),.d (.str "box")] [.ins "Kind" []]) []=.ok (.d (ob "lid" (.str "box"))) []:=by kernel_rfl
theorem kd5:makeRun (zB4 [.loc 0,.d (.str "tray"),.d (.lst []),.d .non] [.ins "Kind" []]) []=.ok (.d (ob "tray" .non)) []:=by kernel_rfl
theorem kds:makeRun (zGx [.loc 0,.d (.lst [ob "pin" (.str "lid"),ob "box" .non,ob "part" (.str "box"),ob "lid" (.str "box"),ob "tray" .non])] [.ins "Kinds" []]) []=.ok (.d KS) []:=by kernel_rfl
theorem wor:zGw [.loc 0,.d KS,.d .non] [.ins "World" []]=.ok (.d .non) [.ins "World" (wI 0),.dct [],.dct []]:=by kernel_rfl
theorem cellat (ns:List Int) (S:Sto):∃ v,rC zC6 [.d (.frl (ns.map .int)),.d (.int 0)] S=.ok (.d (.int v)) S:=by
 cases ns with
 | nil =>
  refine ⟨0,zAp (xs:=[.frl [],.int 0]) (S':=[]) ?_⟩;simp (decide:=true) [zC6,zD6,lenD,lenS,lenL,lstOf,lstX,Out.or]
 | cons n r =>
  refine ⟨n,zAp (xs:=[.frl ((n :: r).map .int),.int 0]) (S':=[]) ?_⟩;have h:(0:Int) < ((r.length:Int) + 1):=by omega
  simp (decide:=true) [zC6,zD6,lenD,lenS,lenL,lstOf,lstX,Out.or,h,ixD,dctOf,atI,ixN]
theorem source (v:Int) (S:Sto):∃ a,rS zDl [.d (.int v)] S=.ok (.loc S.length) (S++[src a v 0]):=by
 refine ⟨v / 2 * (1 - v % 2),?_⟩;have d:∀ S,divI (.d (.int v)) (.d (.int 2)) S=.ok (.d (.int (v / 2))) S:=fun S=>zPo (by decide) (by decide);have m:∀ S,modI (.d (.int v)) (.d (.int 2)) S=.ok (.d (.int (v % 2))) S:=fun S=>zP6 (by decide);have sm:small64 (1 - v % 2)=true:=by
  have h1:=Int.emod_nonneg v (show (2:Int)≠0 by decide);have h2:=Y8 v (show (0:Int) < 2 by decide);unfold small64;rw [Zc];exact ⟨decide_eq_true (by omega),decide_eq_true (by omega)⟩
 have mu:∀ S,mulD (.d (.int (v / 2))) (.d (.int (1 - v % 2))) S=.ok (.d (.int (v / 2 * (1 - v % 2)))) S:=fun S=>zYr sm;unfold rS;have lm:3≤LM:=by decide
 simp (decide:=true) [zDl,zFl,dCel,d,m,mu,lm]
theorem puts {m:Int}{T:Ts}{a b c:Int}{e0 e1 e2:Option U}:∀ (L:List U) (x5:Option U) (rest:Ev) (m:Int) (T:Ts) (a c:Int),Gd T→0≤m→T.length + 3 * L.length≤60→∃ m' T' a' c' y,forI (gN 5) (sExp (dCl rC zDn (aCons (dV 4) (aCons (dV 3) aNil)))) L (e0 :: e1 :: e2 :: some (.loc 0) :: some (.loc 3) :: x5 :: rest) (sg m T (ldO none) (src a b c))=.nx (e0 :: e1 :: e2 :: some (.loc 0) :: some (.loc 3) :: y :: rest) (sg m' T' (ldO none) (src a' b c'))∧Up T T' m' (3 * L.length)
 | [],x5,rest,m,T,a,c,g,hm,hl=>⟨m,T,a,c,x5,rfl,Up.refl g hm⟩
 | d :: r,x5,rest,m,T,a,c,g,hm,hl=>by
  rw [Zd] at hl;obtain ⟨m1,T1,a1,c1,e1',u1⟩:=yB1 (m:=m) (T:=T) (j:=none) (a:=a) (b:=b) (c:=c) g hm (by omega);obtain ⟨m2,T2,a2,c2,y,e2',u2⟩:=puts (m:=m) (T:=T) (a:=a) (b:=b) (c:=c) (e0:=e0) (e1:=e1) (e2:=e2) r (some d) rest m1 T1 a1 c1 u1.g u1.m0 (by have:=u1.len;omega);refine ⟨m2,T2,a2,c2,y,?_,(u1.trans u2).le (by rw [Zd];omega)⟩;rw [← e2'];refine zN7 (ev':=e0 :: e1 :: e2 :: some (.loc 0) :: some (.loc 3) :: some d :: rest) rfl ?_;simp (decide:=true) [e1',-rC_1]
theorem rows {x0 x1 x2 x5:Option U}{s:Cell} (hS:clC 4 s=true):∀ (L:List Int) (T:Ts) (m n:Int) (j:Option Int) (x7 x8 x9 x10 x11:Option U),St T m n j→∃ m' T' n' j' y7 y8 y9 y10 y11,forI (gN 7) lBody (L.map fun i=>.d (.int i)) (evL x0 x1 x2 x5 n x7 x8 x9 x10 x11) (sg m T (ldO j) s)=.nx (evL x0 x1 x2 x5 n' y7 y8 y9 y10 y11) (sg m' T' (ldO j') s)∧St T' m' n' j'
 | [],T,m,n,j,x7,x8,x9,x10,x11,I=>⟨m,T,n,j,x7,x8,x9,x10,x11,rfl,I⟩
 | i :: r,T,m,n,j,x7,x8,x9,x10,x11,I=>by
  obtain ⟨m1,T1,n1,j1,y8,y9,y10,y11,e1,I1⟩:=zXe (x0:=x0) (x1:=x1) (x2:=x2) (x5:=x5) (x:=i) I hS x8 x9 x10 x11;obtain ⟨m2,T2,n2,j2,z7,z8,z9,z10,z11,e2,I2⟩:=rows hS r T1 m1 n1 j1 (some (.d (.int i))) y8 y9 y10 y11 I1;refine ⟨m2,T2,n2,j2,z7,z8,z9,z10,z11,?_,I2⟩;rw [← e2,Zi];exact zN7 (ev':=evL x0 x1 x2 x5 n (some (.d (.int i))) x8 x9 x10 x11) rfl e1
def lSome:FE:=dLst (aCons (dMkC "Kind" zB4 [] (aCons (dC (.str "pin")) (aCons (dLst aNil) (aCons (dC (.str "lid")) aNil)))) (aCons (dMkC "Kind" zB4 [] (aCons (dC (.str "box")) (aCons (dLst aNil) (aCons (dC .non) aNil)))) (aCons (dMkC "Kind" zB4 [] (aCons (dC (.str "part")) (aCons (dLst aNil) (aCons (dC (.str "box")) aNil)))) (aCons (dMkC "Kind" zB4 [] (aCons (dC (.str "lid")) (aCons (dLst aNil) (aCons (dC (.str "box")) aNil)))) aNil))))
def lKinds:FE:=dMkC "Kinds" zGx [] (aCons (d2 addD (dV 1) (dLst (aCons (dMkC "Kind" zB4 [.non] (aCons (dC (.str "tray")) (aCons (dLst aNil) aNil))) aNil))) aNil)
def lEnd:FS:=sRet (d2 eqA (dMe "last" zQ3 rC (dMe "look" zEs rC (dV 3) aNil) (aCons (dC (.str "ann")) aNil)) (dV 6))
theorem yEp:zY8=fnD 12 1 (sSeq (sSet 1 lSome) (sSeq (sSet 2 lKinds) (sSeq (sSet 3 (dMkS "World" zGw [.non] (aCons (dV 2) aNil))) (sSeq (sSet 4 (dCl rS zDl (aCons (dCl rC zC6 (aCons (dV 0) (aCons (dC (.int 0)) aNil))) aNil)))
 (sSeq (sFor (iRng (aCons (d2 addD (dC (.int 1)) (dCl rC zB3 (aCons (dV 4) (aCons (dC (.int 20)) aNil)))) aNil)) (gN 5) (sExp (dCl rC zDn (aCons (dV 4) (aCons (dV 3) aNil)))))
 (sSeq (sSet 6 (dC (.int 0)))
 (sSeq (sFor (iAny (d2 addD (dSl (dV 0) (oSo (dC (.int 1))) (oSo (dC (.int 21)))) (dLst (aCons (dC (.int 0)) aNil)))) (gN 7) lBody) lEnd))))))):=rfl
theorem zZt (ev:Ev):lSome ev []=.ok (.d (.lst [ob "pin" (.str "lid"),ob "box" .non,ob "part" (.str "box"),ob "lid" (.str "box")])) []:=by
 have m0:∀ S,mkL [] S=.ok (.d (.lst [])) S:=fun _=>rfl;have k1:=kd1;have k2:=kd2;have k3:=kd3;have k4:=kd4;have ml:mkL [.d (ob "pin" (.str "lid")),.d (ob "box" .non),.d (ob "part" (.str "box")),.d (ob "lid" (.str "box"))] []=.ok (.d (.lst [ob "pin" (.str "lid"),ob "box" .non,ob "part" (.str "box"),ob "lid" (.str "box")])) []:=rfl;simp (decide:=true) [lSome,dMkC,m0,k1,k2,k3,k4,ml]
theorem zXg (ev:Ev) (h:ev[1]? = some (some (.d (.lst [ob "pin" (.str "lid"),ob "box" .non,ob "part" (.str "box"),ob "lid" (.str "box")])))):lKinds ev []=.ok (.d KS) []:=by
 have m0:∀ S,mkL [] S=.ok (.d (.lst [])) S:=fun _=>rfl;have k5:=kd5;have ks:=kds;have m1:mkL [.d (ob "tray" .non)] []=.ok (.d (.lst [ob "tray" .non])) []:=rfl;have ad:=zQz (S:=[]) (a:=[ob "pin" (.str "lid"),ob "box" .non,ob "part" (.str "box"),ob "lid" (.str "box")]) (b:=[ob "tray" .non]) (by decide);simp only [List.cons_append,List.nil_append] at ad;simp (decide:=true) [lKinds,dMkC,h,m0,k5,m1,ad,ks]
theorem yBt {α β : Type} (f : α→β) (xs:List α) {lo hi:Option Int}:cutD (xs.map f) lo hi=(cutD xs lo hi).map f:=by
 unfold cutD;rw [Z2,List.map_take,List.map_drop]
theorem zSi {α : Type} (xs:List α) {lo hi:Option Int}:(cutD xs lo hi).length≤xs.length:=by
 unfold cutD;rw [Zx,List.length_drop];omega
theorem zXi (ns:List Int) (hl:ns.length≤63):∃ L:List Int,L.length≤64∧∀ S,slD (.d (.frl (ns.map .int))) (some 1) (some 21) S=.ok (.d (.lst (L.map .int))) S:=by
 refine ⟨cutD ns (some 1) (some 21),?_,fun S=>?_⟩
 ·exact Z3 (zSi ns) (Z3 hl (by decide))
 ·show mkL (cutD ((ns.map D.int).map U.d) (some 1) (some 21)) S=_;rw [List.map_map,yBt,show ((cutD ns (some 1) (some 21)).map (U.d ∘ D.int))=((cutD ns (some 1) (some 21)).map D.int).map U.d from (List.map_map ..).symm];unfold mkL;rw [zD9];simp only;rw [if_pos (by rw [Z2];exact Z3 (zSi ns) (Z3 hl (by decide)))]
theorem zXd:∀ ns:List Int,ns.length≤63→∃ S',zY8 [.d (.frl (ns.map .int))] []=.ok (.d (.bl true)) S':=by
 intro ns hns;have ke:=zXg [some (.d (.frl (ns.map .int))),some (.d (.lst [ob "pin" (.str "lid"),ob "box" .non,ob "part" (.str "box"),ob "lid" (.str "box")])),none,none,none,none,none,none,none,none,none,none] rfl;obtain ⟨v,hv⟩:=cellat ns [.ins "World" (wI 0),.dct [],.dct []];obtain ⟨a,ha⟩:=source v [.ins "World" (wI 0),.dct [],.dct []];have w:=wor;have gd0:Gd []:=⟨by simp [nms],(fun x h=>by cases h),(fun r _ h=>by cases h),(fun p h=>by cases h)⟩;have e0:[.ins "World" (wI 0),.dct [],.dct [],src a v 0]=sg 0 [] (ldO none) (src a v 0):=rfl;obtain ⟨u,a1,c1,u0,u1,hu⟩:=zLp (m:=0) (T:=[]) (ld:=ldO none) a v 0 (q:=20) (by decide) (by decide);have rg : -(2 ^ 62)≤1 + u∧1 + u≤LM:=⟨by omega,(by have h20:(20:Int)≤(LM:Int):=(by decide);omega)⟩;obtain ⟨m2,T2,a2,c2,y5,e2,up⟩:=puts (m:=0) (T:=[]) (a:=a1) (b:=v) (c:=c1) (e0:=some (.d (.frl (ns.map .int)))) (e1:=some (.d (.lst [ob "pin" (.str "lid"),ob "box" .non,ob "part" (.str "box"),ob "lid" (.str "box")]))) (e2:=some (.d KS)) ((List.range (1 + u).toNat).map fun i:Nat=>.d (.int i)) none [none,none,none,none,none,none] 0 [] a1 c1 gd0 (by decide) (by rw [Z2,Ye];show 0 + _≤_;omega);have le2:T2.length≤60:=by
  have:=up.len;rw [Z2,Ye] at this;have:T2.length≤0 + 3 * (1 + u).toNat:=this;omega
 obtain ⟨L,hL,cut⟩:=zXi ns hns;have ad:=fun S=>zQz (S:=S) (a:=L.map D.int) (b:=[.int 0]) (by rw [Z2];show L.length + 1≤LM;exact Z3 (Nat.add_le_add_right hL 1) (by decide));have eL:L.map D.int++[.int 0]=(L++[0]).map D.int:=by rw [List.map_append];rfl
 have mL:((L++[0]).map D.int).map U.d=(L++[0]).map fun i=>U.d (.int i):=by rw [List.map_map];rfl
 have I2:St T2 m2 0 none:=⟨up.g,up.m0,by decide,le2,rfl⟩;obtain ⟨m3,T3,n3,j3,z7,z8,z9,z10,z11,e3,I3⟩:=rows (x0:=some (.d (.frl (ns.map .int)))) (x1:=some (.d (.lst [ob "pin" (.str "lid"),ob "box" .non,ob "part" (.str "box"),ob "lid" (.str "box")]))) (x2:=some (.d KS)) (x5:=y5) (s:=src a2 v c2) rfl (L++[0]) T2 m2 0 none none none none none none I2;have l3:T3.length≤LM:=Z3 I3.le (by decide);have lo:=zGh (m:=m3) (T:=T3) (ld:=ldO j3) (s:=src a2 v c2) l3 (Z3 (zFz _) (by decide)) rfl;have la:=zQo (T:=T3) (k:=j3) (sg m3 T3 (ldO j3) (src a2 v c2));rw [I3.jn] at la;have i0:∀ m T ld s,insOf (sg m T ld s) (.loc 0)=some (("World" : Str),wI m):=fun _ _ _ _=>rfl;have rg1:(-4611686018427387904:Int)≤1 + u:=by omega
 have rg2:=rg.2;have wl:∀ m,(List.lookup ("look" : Str) (wI m)).isNone=true:=fun _=>rfl;refine ⟨sg m3 T3 (ldO j3) (src a2 v c2),?_⟩;have s1:=zZt [some (.d (.frl (ns.map .int))),none,none,none,none,none,none,none,none,none,none,none];have m0:∀ S,mkL [.d (.int 0)] S=.ok (.d (.lst [.int 0])) S:=fun _=>rfl;rw [yEp];simp (decide:=true) [s1,ke,dMkS,w,hv,ha,e0,hu,iRng,rg1,rg2,e2,iAny,dSl,oSo,cut,m0,ad,eL,itO,mL,e3,lEnd,dMe,zQ3,zEs,i0,wl,lo,la,zC5,fLK,-rC_1,-List.map_append,-List.map_map]
end My
set_option autoImplicit false
namespace My
open PySem PySem.Spec PyProof.Rows L2 L2.F
theorem len1 {α : Type}{us:List α} (h:us.length=1):∃ a,us=[a]:=List.length_eq_one_iff.mp h
theorem len2 {α : Type}{us:List α} (h:us.length=2):∃ a0 a1,us=[a0,a1]:=by
 cases us with
 | nil=>cases h
 | cons a0 r=>obtain ⟨a1,rfl⟩:=len1 (show r.length=1 from Nat.succ.inj h);exact ⟨a0,a1,rfl⟩
theorem len3 {α : Type}{us:List α} (h:us.length=3):∃ a0 a1 a2,us=[a0,a1,a2]:=by
 cases us with
 | nil=>cases h
 | cons a0 r=>obtain ⟨a1,a2,rfl⟩:=len2 (show r.length=2 from Nat.succ.inj h);exact ⟨a0,a1,a2,rfl⟩
theorem len4 {α : Type}{us:List α} (h:us.length=4):∃ a0 a1 a2 a3,us=[a0,a1,a2,a3]:=by
 cases us with
 | nil=>cases h
 | cons a0 r=>obtain ⟨a1,a2,a3,rfl⟩:=len3 (show r.length=3 from Nat.succ.inj h);exact ⟨a0,a1,a2,a3,rfl⟩
theorem len5 {α : Type}{us:List α} (h:us.length=5):∃ a0 a1 a2 a3 a4,us=[a0,a1,a2,a3,a4]:=by
 cases us with
 | nil=>cases h
 | cons a0 r=>obtain ⟨a1,a2,a3,a4,rfl⟩:=len4 (show r.length=4 from Nat.succ.inj h);exact ⟨a0,a1,a2,a3,a4,rfl⟩
theorem len6 {α : Type}{us:List α} (h:us.length=6):∃ a0 a1 a2 a3 a4 a5,us=[a0,a1,a2,a3,a4,a5]:=by
 cases us with
 | nil=>cases h
 | cons a0 r=>obtain ⟨a1,a2,a3,a4,a5,rfl⟩:=len5 (show r.length=5 from Nat.succ.inj h);exact ⟨a0,a1,a2,a3,a4,a5,rfl⟩
theorem len7 {α : Type}{us:List α} (h:us.length=7):∃ a0 a1 a2 a3 a4 a5 a6,us=[a0,a1,a2,a3,a4,a5,a6]:=by
 cases us with
 | nil=>cases h
 | cons a0 r=>obtain ⟨a1,a2,a3,a4,a5,a6,rfl⟩:=len6 (show r.length=6 from Nat.succ.inj h);exact ⟨a0,a1,a2,a3,a4,a5,a6,rfl⟩
def blL:List Str:=["all", "bool", "dict", "enumerate", "int", "isinstance", "len", "list", "min", "range", "set", "sorted", "str", "sum", "tuple"]
def clOf (C_Kind C_Kinds C_Deed C_Make C_Take C_Wishes C_Look C_World C_RestError C_NoKind C_TooMany C_NoName C_NoWish C_NoLimit C_NoState C_NoPlace C_NoDeed tP:Addr):Cl:=⟨fun c=>(([("Kind",C_Kind),("Kinds",C_Kinds),("Deed",C_Deed),("Make",C_Make),("Take",C_Take),("Wishes",C_Wishes),("Look",C_Look),("World",C_World),("RestError",C_RestError),("NoKind",C_NoKind),("TooMany",C_TooMany),("NoName",C_NoName),("NoWish",C_NoWish),("NoLimit",C_NoLimit),("NoState",C_NoState),("NoPlace",C_NoPlace),("NoDeed",C_NoDeed)]:List (Str×Addr)).lookup c).getD 0,[(tP,lpos,lq)]⟩
theorem zVt {C_Kind C_Kinds C_Deed C_Make C_Take C_Wishes C_Look C_World C_RestError C_NoKind C_TooMany C_NoName C_NoWish C_NoLimit C_NoState C_NoPlace C_NoDeed tP:Addr}:(clOf C_Kind C_Kinds C_Deed C_Make C_Take C_Wishes C_Look C_World C_RestError C_NoKind C_TooMany C_NoName C_NoWish C_NoLimit C_NoState C_NoPlace C_NoDeed tP).at_ "Kind" = C_Kind:=by rfl
theorem zL0 {C_Kind C_Kinds C_Deed C_Make C_Take C_Wishes C_Look C_World C_RestError C_NoKind C_TooMany C_NoName C_NoWish C_NoLimit C_NoState C_NoPlace C_NoDeed tP:Addr}:(clOf C_Kind C_Kinds C_Deed C_Make C_Take C_Wishes C_Look C_World C_RestError C_NoKind C_TooMany C_NoName C_NoWish C_NoLimit C_NoState C_NoPlace C_NoDeed tP).at_ "Kinds" = C_Kinds:=by rfl
theorem zVu {C_Kind C_Kinds C_Deed C_Make C_Take C_Wishes C_Look C_World C_RestError C_NoKind C_TooMany C_NoName C_NoWish C_NoLimit C_NoState C_NoPlace C_NoDeed tP:Addr}:(clOf C_Kind C_Kinds C_Deed C_Make C_Take C_Wishes C_Look C_World C_RestError C_NoKind C_TooMany C_NoName C_NoWish C_NoLimit C_NoState C_NoPlace C_NoDeed tP).at_ "Deed" = C_Deed:=by rfl
theorem zM7 {C_Kind C_Kinds C_Deed C_Make C_Take C_Wishes C_Look C_World C_RestError C_NoKind C_TooMany C_NoName C_NoWish C_NoLimit C_NoState C_NoPlace C_NoDeed tP:Addr}:(clOf C_Kind C_Kinds C_Deed C_Make C_Take C_Wishes C_Look C_World C_RestError C_NoKind C_TooMany C_NoName C_NoWish C_NoLimit C_NoState C_NoPlace C_NoDeed tP).at_ "Make" = C_Make:=by rfl
theorem zM6 {C_Kind C_Kinds C_Deed C_Make C_Take C_Wishes C_Look C_World C_RestError C_NoKind C_TooMany C_NoName C_NoWish C_NoLimit C_NoState C_NoPlace C_NoDeed tP:Addr}:(clOf C_Kind C_Kinds C_Deed C_Make C_Take C_Wishes C_Look C_World C_RestError C_NoKind C_TooMany C_NoName C_NoWish C_NoLimit C_NoState C_NoPlace C_NoDeed tP).at_ "Take" = C_Take:=by rfl
theorem zM5 {C_Kind C_Kinds C_Deed C_Make C_Take C_Wishes C_Look C_World C_RestError C_NoKind C_TooMany C_NoName C_NoWish C_NoLimit C_NoState C_NoPlace C_NoDeed tP:Addr}:(clOf C_Kind C_Kinds C_Deed C_Make C_Take C_Wishes C_Look C_World C_RestError C_NoKind C_TooMany C_NoName C_NoWish C_NoLimit C_NoState C_NoPlace C_NoDeed tP).at_ "Wishes" = C_Wishes:=by rfl
theorem zFp {C_Kind C_Kinds C_Deed C_Make C_Take C_Wishes C_Look C_World C_RestError C_NoKind C_TooMany C_NoName C_NoWish C_NoLimit C_NoState C_NoPlace C_NoDeed tP:Addr}:(clOf C_Kind C_Kinds C_Deed C_Make C_Take C_Wishes C_Look C_World C_RestError C_NoKind C_TooMany C_NoName C_NoWish C_NoLimit C_NoState C_NoPlace C_NoDeed tP).at_ "Look" = C_Look:=by rfl
theorem zEq {C_Kind C_Kinds C_Deed C_Make C_Take C_Wishes C_Look C_World C_RestError C_NoKind C_TooMany C_NoName C_NoWish C_NoLimit C_NoState C_NoPlace C_NoDeed tP:Addr}:(clOf C_Kind C_Kinds C_Deed C_Make C_Take C_Wishes C_Look C_World C_RestError C_NoKind C_TooMany C_NoName C_NoWish C_NoLimit C_NoState C_NoPlace C_NoDeed tP).at_ "World" = C_World:=by rfl
theorem zZd {C_Kind C_Kinds C_Deed C_Make C_Take C_Wishes C_Look C_World C_RestError C_NoKind C_TooMany C_NoName C_NoWish C_NoLimit C_NoState C_NoPlace C_NoDeed tP:Addr}:(clOf C_Kind C_Kinds C_Deed C_Make C_Take C_Wishes C_Look C_World C_RestError C_NoKind C_TooMany C_NoName C_NoWish C_NoLimit C_NoState C_NoPlace C_NoDeed tP).at_ "RestError" = C_RestError:=by rfl
theorem yFp {C_Kind C_Kinds C_Deed C_Make C_Take C_Wishes C_Look C_World C_RestError C_NoKind C_TooMany C_NoName C_NoWish C_NoLimit C_NoState C_NoPlace C_NoDeed tP:Addr}:(clOf C_Kind C_Kinds C_Deed C_Make C_Take C_Wishes C_Look C_World C_RestError C_NoKind C_TooMany C_NoName C_NoWish C_NoLimit C_NoState C_NoPlace C_NoDeed tP).at_ "NoKind" = C_NoKind:=by rfl
theorem yC8 {C_Kind C_Kinds C_Deed C_Make C_Take C_Wishes C_Look C_World C_RestError C_NoKind C_TooMany C_NoName C_NoWish C_NoLimit C_NoState C_NoPlace C_NoDeed tP:Addr}:(clOf C_Kind C_Kinds C_Deed C_Make C_Take C_Wishes C_Look C_World C_RestError C_NoKind C_TooMany C_NoName C_NoWish C_NoLimit C_NoState C_NoPlace C_NoDeed tP).at_ "TooMany" = C_TooMany:=by rfl
theorem zVs {C_Kind C_Kinds C_Deed C_Make C_Take C_Wishes C_Look C_World C_RestError C_NoKind C_TooMany C_NoName C_NoWish C_NoLimit C_NoState C_NoPlace C_NoDeed tP:Addr}:(clOf C_Kind C_Kinds C_Deed C_Make C_Take C_Wishes C_Look C_World C_RestError C_NoKind C_TooMany C_NoName C_NoWish C_NoLimit C_NoState C_NoPlace C_NoDeed tP).at_ "NoName" = C_NoName:=by rfl
theorem yFo {C_Kind C_Kinds C_Deed C_Make C_Take C_Wishes C_Look C_World C_RestError C_NoKind C_TooMany C_NoName C_NoWish C_NoLimit C_NoState C_NoPlace C_NoDeed tP:Addr}:(clOf C_Kind C_Kinds C_Deed C_Make C_Take C_Wishes C_Look C_World C_RestError C_NoKind C_TooMany C_NoName C_NoWish C_NoLimit C_NoState C_NoPlace C_NoDeed tP).at_ "NoWish" = C_NoWish:=by rfl
theorem yCb {C_Kind C_Kinds C_Deed C_Make C_Take C_Wishes C_Look C_World C_RestError C_NoKind C_TooMany C_NoName C_NoWish C_NoLimit C_NoState C_NoPlace C_NoDeed tP:Addr}:(clOf C_Kind C_Kinds C_Deed C_Make C_Take C_Wishes C_Look C_World C_RestError C_NoKind C_TooMany C_NoName C_NoWish C_NoLimit C_NoState C_NoPlace C_NoDeed tP).at_ "NoLimit" = C_NoLimit:=by rfl
theorem yC9 {C_Kind C_Kinds C_Deed C_Make C_Take C_Wishes C_Look C_World C_RestError C_NoKind C_TooMany C_NoName C_NoWish C_NoLimit C_NoState C_NoPlace C_NoDeed tP:Addr}:(clOf C_Kind C_Kinds C_Deed C_Make C_Take C_Wishes C_Look C_World C_RestError C_NoKind C_TooMany C_NoName C_NoWish C_NoLimit C_NoState C_NoPlace C_NoDeed tP).at_ "NoState" = C_NoState:=by rfl
theorem yCa {C_Kind C_Kinds C_Deed C_Make C_Take C_Wishes C_Look C_World C_RestError C_NoKind C_TooMany C_NoName C_NoWish C_NoLimit C_NoState C_NoPlace C_NoDeed tP:Addr}:(clOf C_Kind C_Kinds C_Deed C_Make C_Take C_Wishes C_Look C_World C_RestError C_NoKind C_TooMany C_NoName C_NoWish C_NoLimit C_NoState C_NoPlace C_NoDeed tP).at_ "NoPlace" = C_NoPlace:=by rfl
theorem yFq {C_Kind C_Kinds C_Deed C_Make C_Take C_Wishes C_Look C_World C_RestError C_NoKind C_TooMany C_NoName C_NoWish C_NoLimit C_NoState C_NoPlace C_NoDeed tP:Addr}:(clOf C_Kind C_Kinds C_Deed C_Make C_Take C_Wishes C_Look C_World C_RestError C_NoKind C_TooMany C_NoName C_NoWish C_NoLimit C_NoState C_NoPlace C_NoDeed tP).at_ "NoDeed" = C_NoDeed:=by rfl
theorem zNx {K:PySem.W.Frag}{C TD f:Addr}{oc ocT:Value}{od an odT:Option Addr}{osl slT:Array (Option Value)}{nT:Nat}{kV doc pm cdv ct:Value} (a:PySem.W.findIn K (.ref C) "__init__" = some (some (.ref f))) (i:PySem.W.isFn K (.ref f)=true) (l:K.lookup f=some ⟨oc,od,.func (PySem.W.fnOf "__init__" "World.__init__" (defArgs zAv) (defBody zAv) (defScope zAv) (.ref TD) kV doc pm an cdv ct),osl⟩)
 (c:PySem.W.codeIn K cdv "World.__init__" = true) (k:PySem.W.keepIn K (.ref f)=true) (t:K.lookup TD=some ⟨ocT,odT,.seq #[.none] nT,slT⟩):MD K C "__init__" "World.__init__" zAv ["self", "kinds", "limits"] f (PySem.W.fnOf "__init__" "World.__init__" (defArgs zAv) (defBody zAv) (defScope zAv) (.ref TD) kV doc pm an cdv ct) :=
 yEl (fun _ _ _ _ _ _ s us hK t hl=>by obtain ⟨z0,z1,z2,rfl⟩:=len3 hl;exact PySem.W.binds_K hK rfl t rfl (by rfl) (by rfl)) (fun _ _ _ _ _ _ s us hK t hl=>by obtain ⟨z0,z1,rfl⟩:=len2 (Nat.succ.inj hl);exact PySem.W.binds_K hK rfl t rfl (by rfl) (by rfl)) a i l c k t
theorem zP8 {K:PySem.W.Frag}{C TD f:Addr}{oc ocT:Value}{od an odT:Option Addr}{osl slT:Array (Option Value)}{nT:Nat}{kV doc pm cdv ct:Value} (a:PySem.W.findIn K (.ref C) "__init__" = some (some (.ref f))) (i:PySem.W.isFn K (.ref f)=true) (l:K.lookup f=some ⟨oc,od,.func (PySem.W.fnOf "__init__" "Kind.__init__" (defArgs zB1) (defBody zB1) (defScope zB1) (.ref TD) kV doc pm an cdv ct),osl⟩)
 (c:PySem.W.codeIn K cdv "Kind.__init__" = true) (k:PySem.W.keepIn K (.ref f)=true) (t:K.lookup TD=some ⟨ocT,odT,.seq #[.none] nT,slT⟩):MD K C "__init__" "Kind.__init__" zB1 ["self", "name", "fields", "owner"] f (PySem.W.fnOf "__init__" "Kind.__init__" (defArgs zB1) (defBody zB1) (defScope zB1) (.ref TD) kV doc pm an cdv ct) :=
 yEl (fun _ _ _ _ _ _ s us hK t hl=>by obtain ⟨z0,z1,z2,z3,rfl⟩:=len4 hl;exact PySem.W.binds_K hK rfl t rfl (by rfl) (by rfl)) (fun _ _ _ _ _ _ s us hK t hl=>by obtain ⟨z0,z1,z2,rfl⟩:=len3 (Nat.succ.inj hl);exact PySem.W.binds_K hK rfl t rfl (by rfl) (by rfl)) a i l c k t
set_option maxHeartbeats 0 in
theorem yFz {l:PySem.W.OpenLaw}{w:World}{K:PySem.W.Frag}{h:Heap}{mg:Str→Option Value}{fx:Addr} (hF:∀ ns:List Int,ns.length≤63→∃ S',zY8 [.d (.frl (ns.map .int))] []=.ok (.d (.bl true)) S') (X:K.In h) (G:h.Ns mainGlobals mg) (hfa:mg "law" = some (.ref fx))
 {f0 f1 f2 f3 f4 f5 f6 f7 f8 f9 f10 f11 f12 f13 f14 f15 f16 f17 f18 f19 f20 f21 f22 f23 f24 f25 f26 f27 f28 f29 f30 f31 f32 f33 f34 f35 f36 f37 f38 f39 f40 f41 f42 f43 f44 f45 f46 f47 f48 f49 f50 f51 f52 f53 f54 f55 f56 f57 f58 f59 f60 f61 f62 f63 f64 f65 f66 f67 f68 f69:Addr}{ts:List Addr}{d1 d2 d3 d4 d5 d6 d7 d8 d9 d10 d11 d12 d13 d14 d15 d16 d17 d18 d19 d20 d21 d22 d23 d24 d25 d26 d27 d28 d29 d30 d31 d32 d33 d34 d35 d36 d37 d38 d39 d40 d41 d42 d43 d44 d45 d46 d47 d48 d49 d50 d51 d52 d53 d54 d55 d56 d57 d58 d59 d60 d61 d62 d63 d64 d65 d66 d67 d68:FuncData}{C_Kind C_Kinds C_Deed C_Make C_Take C_Wishes C_Look C_World C_RestError C_NoKind C_TooMany C_NoName C_NoWish C_NoLimit C_NoState C_NoPlace C_NoDeed:Addr}{cL tP:Addr}{t0 t1 t2 t3 t4 t5 t6 t7:Tok}{oc0 kV0 dc0 pm0 ct0:Value}{od0 an0:Option Addr}{sl0:Array (Option Value)}{oc69 kV69 dc69 pm69 ct69 cd69:Value}{od69 an69:Option Addr}{sl69:Array (Option Value)}
 (a_Kind:PySem.W.nsIn K mainGlobals "Kind" = some (some (.ref C_Kind)))
 (a_Kinds:PySem.W.nsIn K mainGlobals "Kinds" = some (some (.ref C_Kinds)))
 (a_Deed:PySem.W.nsIn K mainGlobals "Deed" = some (some (.ref C_Deed)))
 (a_Make:PySem.W.nsIn K mainGlobals "Make" = some (some (.ref C_Make)))
 (a_Take:PySem.W.nsIn K mainGlobals "Take" = some (some (.ref C_Take)))
 (a_Wishes:PySem.W.nsIn K mainGlobals "Wishes" = some (some (.ref C_Wishes)))
 (a_Look:PySem.W.nsIn K mainGlobals "Look" = some (some (.ref C_Look)))
 (a_World:PySem.W.nsIn K mainGlobals "World" = some (some (.ref C_World)))
 (a_RestError:PySem.W.nsIn K mainGlobals "RestError" = some (some (.ref C_RestError)))
 (a_NoKind:PySem.W.nsIn K mainGlobals "NoKind" = some (some (.ref C_NoKind)))
 (a_TooMany:PySem.W.nsIn K mainGlobals "TooMany" = some (some (.ref C_TooMany)))
 (a_NoName:PySem.W.nsIn K mainGlobals "NoName" = some (some (.ref C_NoName)))
 (a_NoWish:PySem.W.nsIn K mainGlobals "NoWish" = some (some (.ref C_NoWish)))
 (a_NoLimit:PySem.W.nsIn K mainGlobals "NoLimit" = some (some (.ref C_NoLimit)))
 (a_NoState:PySem.W.nsIn K mainGlobals "NoState" = some (some (.ref C_NoState)))
 (a_NoPlace:PySem.W.nsIn K mainGlobals "NoPlace" = some (some (.ref C_NoPlace)))
 (a_NoDeed:PySem.W.nsIn K mainGlobals "NoDeed" = some (some (.ref C_NoDeed)))
 (xa0:PySem.W.nsIn K mainGlobals "placed_by_owners" = some (some (.ref f0)))
 (xl0:K.lookup f0=some ⟨oc0,od0,.func (PySem.W.fnOf "placed_by_owners" "placed_by_owners" (defArgs zAh) (defBody zAh) (defScope zAh) .none kV0 dc0 pm0 an0 (.ref cL) ct0),sl0⟩)
 (xc0:PySem.W.codeIn K (.ref cL) "placed_by_owners" = true)
 (xk0:PySem.W.keepIn K (.ref f0)=true)
 (x1:DL K "is_name" zIj f1 d1)
 (x2:DL K "are_unlike_names" zBk f2 d2)
 (x3:DL K "are_kinds" zF8 f3 d3)
 (x4:ML K C_Kinds "__init__" "Kinds.__init__" zEi f4 d4)
 (x5:ML K C_Kinds "order" "Kinds.order" zDk f5 d5)
 (x6:DL K "wished_of_each" zC7 f6 d6)
 (x7:ML K C_Kinds "of" "Kinds.of" zH7 f7 d7)
 (x8:DL K "is_whole" zH1 f8 d8)
 (x9:DL K "is_written_number" zBg f9 d9)
 (x10:DL K "has_form" zH3 f10 d10)
 (x11:DL K "parts_of" zH0 f11 d11)
 (x12:DL K "name_of" zIi f12 d12)
 (x13:DL K "wished_by_name" zC8 f13 d13)
 (x14:DL K "place_of" zGz f14 d14)
 (x15:DL K "has_value" zF7 f15 d15)
 (x16:DL K "is_pair_of" zE9 f16 d16)
 (x17:DL K "are_pairs_of" zD1 f17 d17)
 (x18:DL K "is_row" zKy f18 d18)
 (x19:DL K "are_rows" zH4 f19 d19)
 (x20:DL K "count_of_each" zCg f20 d20)
 (x21:DL K "count_wished" zCz f21 d21)
 (x22:ML K C_Wishes "__init__" "Wishes.__init__" zDj f22 d22)
 (x23:DL K "is_whole_from" zCf f23 d23)
 (x24:DL K "are_limits" zEb f24 d24)
 (x25:MD K C_World "__init__" "World.__init__" zAv ["self", "kinds", "limits"] f25 d25)
 (x26:DL K "_law_source" zDi f26 d26)
 (x27:DL K "is_pair_with_values" zB6 f27 d27)
 (x28:DL K "are_fields" zEc f28 d28)
 (x29:DL K "count_states" zD0 f29 d29)
 (x30:MD K C_Kind "__init__" "Kind.__init__" zB1 ["self", "name", "fields", "owner"] f30 d30)
 (x31:DL K "_law_cell_at" zD2 f31 d31)
 (x32:DL K "_law_mixed" zEd f32 d32)
 (x33:DL K "_law_next" zFa f33 d33)
 (x34:ML K C_Wishes "names" "Wishes.names" zD3 f34 d34)
 (x35:ML K C_Look "names" "Look.names" zEh f35 d35)
 (x36:ML K C_Look "__init__" "Look.__init__" zFh f36 d36)
 (x37:ML K C_World "look" "World.look" zEe f37 d37)
 (x38:ML K C_Look "is_full" "Look.is_full" zD5 f38 d38)
 (x39:ML K C_World "keep" "World.keep" zEf f39 d39)
 (x40:DL K "all_picks" zF9 f40 d40)
 (x41:DL K "states" zKx f41 d41)
 (x42:DL K "is_state" zH2 f42 d42)
 (x43:ML K C_Look "thing" "Look.thing" zEg f43 d43)
 (x44:ML K C_World "put" "World.put" zFc f44 d44)
 (x45:DL K "_law_put" zH5 f45 d45)
 (x46:DL K "_law_things" zDh f46 d46)
 (x47:ML K C_Look "last" "Look.last" zFg f47 d47)
 (x48:ML K C_Make "suits_kind" "Make.suits_kind" zBz f48 d48)
 (x49:ML K C_Take "suits_kind" "Take.suits_kind" zBy f49 d49)
 (x50:ML K C_Look "mark_of" "Look.mark_of" zD4 f50 d50)
 (x51:ML K C_Make "seen_mark" "Make.seen_mark" zCa f51 d51)
 (x52:ML K C_Take "seen_mark" "Take.seen_mark" zC9 f52 d52)
 (x53:DL K "is_late" zIk f53 d53)
 (x54:ML K C_Look "turn" "Look.turn" zFf f54 d54)
 (x55:DL K "word_for" zGy f55 d55)
 (x56:ML K C_Make "state_after" "Make.state_after" zBm f56 d56)
 (x57:ML K C_Take "state_after" "Take.state_after" zBl f57 d57)
 (x58:ML K C_World "take_away" "World.take_away" zBw f58 d58)
 (x59:ML K C_World "carry_out" "World.carry_out" zBx f59 d59)
 (x60:ML K C_Look "state_of" "Look.state_of" zCh f60 d60)
 (x61:ML K C_World "do" "World.do" zH6 f61 d61)
 (x62:ML K C_Deed "__init__" "Deed.__init__" zFi f62 d62)
 (x63:DL K "check_mark" zEa f63 d63)
 (x64:DL K "check_owner_mark" zBj f64 d64)
 (x65:ML K C_Take "__init__" "Take.__init__" zFd f65 d65)
 (x66:DL K "_law_deed" zFb f66 d66)
 (x67:ML K C_Make "__init__" "Make.__init__" zFe f67 d67)
 (x68:DL K "_law_gone_right" zBv f68 d68)
 (xa69:PySem.W.nsIn K mainGlobals "law" = some (some (.ref f69)))
 (xl69:K.lookup f69=some ⟨oc69,od69,.func (PySem.W.fnOf "law" "law" (defArgs zJ9) (defBody zJ9) (defScope zJ9) .none kV69 dc69 pm69 an69 cd69 ct69),sl69⟩)
 (xc69:PySem.W.codeIn K cd69 "law" = true)
 (xk69:PySem.W.keepIn K (.ref f69)=true)
 (cc0:PySem.W.nsIn K mainGlobals "FIGURES" = some (some (.str "0123456789" t0)))
 (cc1:PySem.W.nsIn K mainGlobals "LETTERS" = some (some (.str "abcdefghijklmnopqrstuvwxyz" t1)))
 (cc2:PySem.W.nsIn K mainGlobals "MOST_FIGURES" = some (some (.int 6 t2)))
 (cc3:PySem.W.nsIn K mainGlobals "MOST_LETTERS" = some (some (.int 8 t3)))
 (cc4:PySem.W.nsIn K mainGlobals "MOST_MANY" = some (some (.int 60 t4)))
 (cc5:PySem.W.nsIn K mainGlobals "MOST_NUMBER" = some (some (.int 999999 t5)))
 (cc6:PySem.W.nsIn K mainGlobals "MOST_STATES" = some (some (.int 8 t6)))
 (cc7:PySem.W.nsIn K mainGlobals "MOST_WISHED" = some (some (.int 60 t7)))
 (rd62:PySem.W.readsIn K C_Deed (.type "type")=true)
 (fc62:PySem.W.findCls K (.ref C_Deed) (.type "type") "__init__" = some (.val (.ref f62)))
 (hh62:PySem.W.handedIn (.ref f62)=true)
 (sp62:PySem.W.specialIn K (.ref C_Deed) "__getattribute__" = some (some (.builtin "type.__getattribute__")))
 (hts:ts=[tP])
 (hcd:PySem.W.codeHdIn K cL tP=true)
 (hout:K.lookup tP=none)
 (hn:PySem.W.specialIn K (.builtin "object.__class__") "__get__" = some (some (.builtin "getset_descriptor.__get__")))
 (htk:PySem.W.takesIn K (.builtin "object.__class__")=some true)
 (qF:L2.F.allF K (clOf C_Kind C_Kinds C_Deed C_Make C_Take C_Wishes C_Look C_World C_RestError C_NoKind C_TooMany C_NoName C_NoWish C_NoLimit C_NoState C_NoPlace C_NoDeed tP) ct=true)
 (qK:L2.F.ktB K (clOf C_Kind C_Kinds C_Deed C_Make C_Take C_Wishes C_Look C_World C_RestError C_NoKind C_TooMany C_NoName C_NoWish C_NoLimit C_NoState C_NoPlace C_NoDeed tP) clsL csL ktL=true)
 (qE:L2.F.exB K (clOf C_Kind C_Kinds C_Deed C_Make C_Take C_Wishes C_Look C_World C_RestError C_NoKind C_TooMany C_NoName C_NoWish C_NoLimit C_NoState C_NoPlace C_NoDeed tP) exL=true)
 (qH:L2.F.hdB K (clOf C_Kind C_Kinds C_Deed C_Make C_Take C_Wishes C_Look C_World C_RestError C_NoKind C_TooMany C_NoName C_NoWish C_NoLimit C_NoState C_NoPlace C_NoDeed tP) hdL=true)
 (qI:injB (clOf C_Kind C_Kinds C_Deed C_Make C_Take C_Wishes C_Look C_World C_RestError C_NoKind C_TooMany C_NoName C_NoWish C_NoLimit C_NoState C_NoPlace C_NoDeed tP) clsL=true)
 (qB:L2.F.blB K blL=true)
 (qN:L2.F.noL K=true):LawOk l w K mg ts 12 fx:=by
 have e:f69=fx:=by have t:=hfa.symm.trans (PySem.W.mg_of X G xa69);cases t;rfl
 subst e;subst hts;have x0:DL K "placed_by_owners" zAh f0 _:=zBf xa0 xl0 xc0 xk0;have x69:DL K "law" zJ9 f69 _:=zBf xa69 xl69 xc69 xk69
 have FX:∀ base,BltAt mg base→Fx ⟨l.prog,w,K,mg,base,(clOf C_Kind C_Kinds C_Deed C_Make C_Take C_Wishes C_Look C_World C_RestError C_NoKind C_TooMany C_NoName C_NoWish C_NoLimit C_NoState C_NoPlace C_NoDeed tP),fun i=>([f0,f1,f2,f3,f4,f5,f6,f7,f8,f9,f10,f11,f12,f13,f14,f15,f16,f17,f18,f19,f20,f21,f22,f23,f24,f25,f26,f27,f28,f29,f30,f31,f32,f33,f34,f35,f36,f37,f38,f39,f40,f41,f42,f43,f44,f45,f46,f47,f48,f49,f50,f51,f52,f53,f54,f55,f56,f57,f58,f59,f60,f61,f62,f63,f64,f65,f66,f67,f68,f69]:List Addr).getD i 0,fun i=>([(PySem.W.fnOf "placed_by_owners" "placed_by_owners" (defArgs zAh) (defBody zAh) (defScope zAh) .none kV0 dc0 pm0 an0 (.ref cL) ct0),d1,d2,d3,d4,d5,d6,d7,d8,d9,d10,d11,d12,d13,d14,d15,d16,d17,d18,d19,d20,d21,d22,d23,d24,d25,d26,d27,d28,d29,d30,d31,d32,d33,d34,d35,d36,d37,d38,d39,d40,d41,d42,d43,d44,d45,d46,d47,d48,d49,d50,d51,d52,d53,d54,d55,d56,d57,d58,d59,d60,d61,d62,d63,d64,d65,d66,d67,d68,(PySem.W.fnOf "law" "law" (defArgs zJ9) (defBody zJ9) (defScope zJ9) .none kV69 dc69 pm69 an69 cd69 ct69)]:List FuncData).getD i d1,cL,tP⟩:=fun base bl=>{
  tb:=tb_of qF
  kt:=kt_of qF rfl hn htk qK
  ex:=ex_of X G qE
  hd:=hd_of qH
  inj:=yF1 qI
  b_all:=zHx X G qB (by decide +kernel)
  b_bool:=zHx X G qB (by decide +kernel)
  b_dict:=zHx X G qB (by decide +kernel)
  b_enumerate:=zHx X G qB (by decide +kernel)
  b_int:=zHx X G qB (by decide +kernel)
  b_isinstance:=zHx X G qB (by decide +kernel)
  b_len:=zHx X G qB (by decide +kernel)
  b_list:=zHx X G qB (by decide +kernel)
  b_min:=zHx X G qB (by decide +kernel)
  b_range:=zHx X G qB (by decide +kernel)
  b_set:=zHx X G qB (by decide +kernel)
  b_sorted:=zHx X G qB (by decide +kernel)
  b_str:=zHx X G qB (by decide +kernel)
  b_sum:=zHx X G qB (by decide +kernel)
  b_tuple:=zHx X G qB (by decide +kernel)
  c_FIGURES:=⟨_,PySem.W.mg_of X G cc0⟩
  c_LETTERS:=⟨_,PySem.W.mg_of X G cc1⟩
  c_MOST_FIGURES:=⟨_,PySem.W.mg_of X G cc2⟩
  c_MOST_LETTERS:=⟨_,PySem.W.mg_of X G cc3⟩
  c_MOST_MANY:=⟨_,PySem.W.mg_of X G cc4⟩
  c_MOST_NUMBER:=⟨_,PySem.W.mg_of X G cc5⟩
  c_MOST_STATES:=⟨_,PySem.W.mg_of X G cc6⟩
  c_MOST_WISHED:=⟨_,PySem.W.mg_of X G cc7⟩
  c_Kind:=(zB2 (c:="Kind") qF rfl).cl
  c_Kinds:=(zB2 (c:="Kinds") qF rfl).cl
  c_Deed:=(zB2 (c:="Deed") qF rfl).cl
  c_Make:=(zB2 (c:="Make") qF rfl).cl
  c_Take:=(zB2 (c:="Take") qF rfl).cl
  c_Wishes:=(zB2 (c:="Wishes") qF rfl).cl
  c_Look:=(zB2 (c:="Look") qF rfl).cl
  c_World:=(zB2 (c:="World") qF rfl).cl
  g_Deed:=by rw [zVu];exact PySem.W.mg_of X G a_Deed
  g_Kind:=by rw [zVt];exact PySem.W.mg_of X G a_Kind
  g_Kinds:=by rw [zL0];exact PySem.W.mg_of X G a_Kinds
  g_Look:=by rw [zFp];exact PySem.W.mg_of X G a_Look
  g_Make:=by rw [zM7];exact PySem.W.mg_of X G a_Make
  g_Take:=by rw [zM6];exact PySem.W.mg_of X G a_Take
  g_Wishes:=by rw [zM5];exact PySem.W.mg_of X G a_Wishes
  g_World:=by rw [zEq];exact PySem.W.mg_of X G a_World
  g_NoName:=by rw [zVs];exact PySem.W.mg_of X G a_NoName
  d0:=mkP X G x0
  n0:=⟨⟨oc0,od0,.none,kV0,dc0,pm0,an0,ct0,sl0,rfl,xl0,xc0⟩⟩
  d1:=mkP X G x1
  d2:=mkP X G x2
  d3:=mkP X G x3
  n4:=funG x4.F
  k4:=mbP x4
  n5:=funG x5.F
  k5:=mbP x5
  d6:=mkP X G x6
  n7:=funG x7.F
  k7:=mbP x7
  d8:=mkP X G x8
  d9:=mkP X G x9
  d10:=mkP X G x10
  d11:=mkP X G x11
  d12:=mkP X G x12
  d13:=mkP X G x13
  d14:=mkP X G x14
  d15:=mkP X G x15
  d16:=mkP X G x16
  d17:=mkP X G x17
  d18:=mkP X G x18
  d19:=mkP X G x19
  d20:=mkP X G x20
  d21:=mkP X G x21
  n22:=funG x22.F
  k22:=mbP x22
  d23:=mkP X G x23
  d24:=mkP X G x24
  n25:=x25.F
  k25:=x25.b
  d26:=mkP X G x26
  d27:=mkP X G x27
  d28:=mkP X G x28
  d29:=mkP X G x29
  n30:=x30.F
  k30:=x30.b
  d31:=mkP X G x31
  d32:=mkP X G x32
  d33:=mkP X G x33
  n34:=funG x34.F
  k34:=mbP x34
  n35:=funG x35.F
  k35:=mbP x35
  n36:=funG x36.F
  k36:=mbP x36
  n37:=funG x37.F
  k37:=mbP x37
  n38:=funG x38.F
  k38:=mbP x38
  n39:=funG x39.F
  k39:=mbP x39
  d40:=mkP X G x40
  d41:=mkP X G x41
  d42:=mkP X G x42
  n43:=funG x43.F
  k43:=mbP x43
  n44:=funG x44.F
  k44:=mbP x44
  d45:=mkP X G x45
  d46:=mkP X G x46
  n47:=funG x47.F
  k47:=mbP x47
  n48:=funG x48.F
  k48:=mbP x48
  n49:=funG x49.F
  k49:=mbP x49
  n50:=funG x50.F
  k50:=mbP x50
  n51:=funG x51.F
  k51:=mbP x51
  n52:=funG x52.F
  k52:=mbP x52
  d53:=mkP X G x53
  n54:=funG x54.F
  k54:=mbP x54
  d55:=mkP X G x55
  n56:=funG x56.F
  k56:=mbP x56
  n57:=funG x57.F
  k57:=mbP x57
  n58:=funG x58.F
  k58:=mbP x58
  n59:=funG x59.F
  k59:=mbP x59
  n60:=funG x60.F
  k60:=mbP x60
  n61:=funG x61.F
  k61:=mbP x61
  n62:=funG x62.F
  k62:=mbP x62
  d63:=mkP X G x63
  d64:=mkP X G x64
  n65:=funG x65.F
  k65:=mbP x65
  d66:=mkP X G x66
  n67:=funG x67.F
  k67:=mbP x67
  d68:=mkP X G x68
  d69:=mkP X G x69
  m_Kind:=⟨(zB2 (c:="Kind") qF rfl).ms,by rw [zVt];exact x30.a,x30.i,(zB2 (c:="Kind") qF rfl).kp⟩
  kd30:=x30.d
  m_Kinds:=⟨(zB2 (c:="Kinds") qF rfl).ms,by rw [zL0];exact x4.a,x4.i,(zB2 (c:="Kinds") qF rfl).kp⟩
  m_Look:=⟨(zB2 (c:="Look") qF rfl).ms,by rw [zFp];exact x36.a,x36.i,(zB2 (c:="Look") qF rfl).kp⟩
  m_Make:=⟨(zB2 (c:="Make") qF rfl).ms,by rw [zM7];exact x67.a,x67.i,(zB2 (c:="Make") qF rfl).kp⟩
  m_Take:=⟨(zB2 (c:="Take") qF rfl).ms,by rw [zM6];exact x65.a,x65.i,(zB2 (c:="Take") qF rfl).kp⟩
  m_Wishes:=⟨(zB2 (c:="Wishes") qF rfl).ms,by rw [zM5];exact x22.a,x22.i,(zB2 (c:="Wishes") qF rfl).kp⟩
  m_World:=⟨(zB2 (c:="World") qF rfl).ms,by rw [zEq];exact x25.a,x25.i,(zB2 (c:="World") qF rfl).kp⟩
  kd25:=x25.d
  q_World_carry_out:=⟨by rw [zEq];exact x59.a,x59.i,x59.F.kp⟩
  q_World_do:=⟨by rw [zEq];exact x61.a,x61.i,x61.F.kp⟩
  q_Look_is_full:=⟨by rw [zFp];exact x38.a,x38.i,x38.F.kp⟩
  q_World_keep:=⟨by rw [zEq];exact x39.a,x39.i,x39.F.kp⟩
  q_Look_last:=⟨by rw [zFp];exact x47.a,x47.i,x47.F.kp⟩
  q_World_look:=⟨by rw [zEq];exact x37.a,x37.i,x37.F.kp⟩
  q_Look_mark_of:=⟨by rw [zFp];exact x50.a,x50.i,x50.F.kp⟩
  q_Wishes_names:=⟨by rw [zM5];exact x34.a,x34.i,x34.F.kp⟩
  q_Look_names:=⟨by rw [zFp];exact x35.a,x35.i,x35.F.kp⟩
  q_Kinds_of:=⟨by rw [zL0];exact x7.a,x7.i,x7.F.kp⟩
  q_Kinds_order:=⟨by rw [zL0];exact x5.a,x5.i,x5.F.kp⟩
  q_World_put:=⟨by rw [zEq];exact x44.a,x44.i,x44.F.kp⟩
  q_Make_seen_mark:=⟨by rw [zM7];exact x51.a,x51.i,x51.F.kp⟩
  q_Take_seen_mark:=⟨by rw [zM6];exact x52.a,x52.i,x52.F.kp⟩
  q_Make_state_after:=⟨by rw [zM7];exact x56.a,x56.i,x56.F.kp⟩
  q_Take_state_after:=⟨by rw [zM6];exact x57.a,x57.i,x57.F.kp⟩
  q_Look_state_of:=⟨by rw [zFp];exact x60.a,x60.i,x60.F.kp⟩
  q_Make_suits_kind:=⟨by rw [zM7];exact x48.a,x48.i,x48.F.kp⟩
  q_Take_suits_kind:=⟨by rw [zM6];exact x49.a,x49.i,x49.F.kp⟩
  q_World_take_away:=⟨by rw [zEq];exact x58.a,x58.i,x58.F.kp⟩
  q_Look_thing:=⟨by rw [zFp];exact x43.a,x43.i,x43.F.kp⟩
  q_Look_turn:=⟨by rw [zFp];exact x54.a,x54.i,x54.F.kp⟩
  f62:=by rw [zVu];exact ⟨rd62,fc62,hh62,sp62,x62.F.kp⟩
  tp:=List.mem_singleton.mpr rfl
  tu:=fun t ht _=>List.mem_singleton.mp ht
  lam:=⟨hcd,bl⟩ }
 refine ⟨(PySem.W.fnOf "law" "law" (defArgs zJ9) (defBody zJ9) (defScope zJ9) .none kV69 dc69 pm69 an69 cd69 ct69),fun s v=>.of_eq rfl,fun T hT=>?_,fun base _ _ bl=>?_⟩
 ·rw [List.mem_singleton.mp hT];exact ⟨hout,cL,hcd⟩
 ·exact (FnOk.calm calmM (yE9 (FX base bl))).imp (enterF qN (fun t ht=>by rw [List.mem_singleton.mp ht];exact List.mem_singleton.mpr rfl) hF)
end My
theorem PySem.W.Fast.tw16372456229581825568:True:=trivial
theorem PySem.W.Fast.tw977222403423337631:True:=trivial
theorem PySem.W.Fast.tw8600746660533966567:True:=trivial
theorem PySem.W.Fast.tw3721587392446276261:True:=trivial
theorem PySem.W.Fast.tw6462512478268495788:True:=trivial
theorem PySem.W.Fast.tw4042992063653020315:True:=trivial
theorem PySem.W.Fast.tw2173892336238216923:True:=trivial
theorem PySem.W.Fast.tw7192010636985394843:True:=trivial
theorem PySem.W.Fast.tw10459816604076721730:True:=trivial
theorem PySem.W.Fast.tw2184729267672792728:True:=trivial
theorem PySem.W.Fast.tw11751267794812338230:True:=trivial
theorem PySem.W.Fast.tw14278538389761716902:True:=trivial
theorem PySem.W.Fast.tw15349465259701470347:True:=trivial
theorem PySem.W.Fast.tw10240017353578020178:True:=trivial
theorem PySem.W.Fast.tw15460441880157828504:True:=trivial
theorem PySem.W.Fast.tw3407573783228352648:True:=trivial
theorem PySem.W.Fast.tw5124617857218330415:True:=trivial
theorem PySem.W.Fast.tw14600739583612357833:True:=trivial
theorem PySem.W.Fast.tw17496617820116513992:True:=trivial
theorem PySem.W.Fast.tw5222058692198111358:True:=trivial
theorem PySem.W.Fast.tw16913182387463132361:True:=trivial
theorem PySem.W.Fast.tw4621492825859486966:True:=trivial
theorem PySem.W.Fast.tw7248214561079327553:True:=trivial
theorem PySem.W.Fast.tw5345078675315734029:True:=trivial
theorem PySem.W.Fast.tw16627983289471482521:True:=trivial
theorem PySem.W.Fast.tw12353966190476551645:True:=trivial
theorem PySem.W.Fast.tw10963568240152552842:True:=trivial
theorem PySem.W.Fast.tw9448646428265504005:True:=trivial
theorem PySem.W.Fast.tw1718607660196783017:True:=trivial
theorem PySem.W.Fast.tw11866411157439133587:True:=trivial
theorem PySem.W.Fast.tw452869267722566032:True:=trivial
theorem PySem.W.Fast.tw1630585847572029586:True:=trivial
theorem PySem.W.Fast.tw13260182764435818997:True:=trivial
theorem PySem.W.Fast.tw8867635232739735601:True:=trivial
theorem PySem.W.Fast.tw13782479050486443212:True:=trivial
theorem PySem.W.Fast.tw7792611992018387495:True:=trivial
theorem PySem.W.Fast.tw12443729187240359543:True:=trivial
theorem PySem.W.Fast.tw5971820959226788315:True:=trivial
theorem PySem.W.Fast.tw5942398977325405875:True:=trivial
theorem PySem.W.Fast.tw12868440363514065576:True:=trivial
theorem PySem.W.Fast.tw15852487494406471950:True:=trivial
theorem PySem.W.Fast.tw15676575302229118330:True:=trivial
theorem PySem.W.Fast.tw2153298185215835232:True:=trivial
theorem PySem.W.Fast.tw10576312638086850952:True:=trivial
theorem PySem.W.Fast.tw14814883944421469975:True:=trivial
theorem PySem.W.Fast.tw6407138781580034432:True:=trivial
theorem PySem.W.Fast.tw4565407678472339236:True:=trivial
theorem PySem.W.Fast.tw18171354344908284652:True:=trivial
theorem PySem.W.Fast.tw1556464152876658009:True:=trivial
theorem PySem.W.Fast.tw4350510062092971786:True:=trivial
theorem PySem.W.Fast.tw4586550358031039724:True:=trivial
theorem PySem.W.Fast.tw7854699088670188621:True:=trivial
theorem PySem.W.Fast.tw16550721680030994136:True:=trivial
theorem PySem.W.Fast.tw17606812836622600658:True:=trivial
theorem PySem.W.Fast.tw11421765155395977462:True:=trivial
theorem PySem.W.Fast.tw5081443431670873170:True:=trivial
theorem PySem.W.Fast.tw17370065775934406796:True:=trivial
theorem PySem.W.Fast.tw12801166040128502605:True:=trivial
theorem PySem.W.Fast.tw5099547511118070431:True:=trivial
theorem PySem.W.Fast.tw9475436319671046725:True:=trivial
theorem PySem.W.Fast.tw10880797866689583926:True:=trivial
theorem PySem.W.Fast.tw6211819851264358138:True:=trivial
theorem PySem.W.Fast.tw2021577779815323727:True:=trivial
theorem PySem.W.Fast.tw14665122788632653197:True:=trivial
theorem PySem.W.Fast.tw9398197198705701912:True:=trivial
theorem PySem.W.Fast.tw5671522862582344947:True:=trivial
theorem PySem.W.Fast.tw6347102336136900534:True:=trivial
theorem PySem.W.Fast.tw9663737100514202276:True:=trivial
theorem PySem.W.Fast.tw12413483148632762896:True:=trivial
theorem PySem.W.Fast.tw2341983892963943612:True:=trivial
theorem PySem.W.Fast.tw3044715061630717622:True:=trivial
theorem PySem.W.Fast.tw3885701548494824659:True:=trivial
theorem PySem.W.Fast.tw7230773687507637:True:=trivial
theorem PySem.W.Fast.tw18088147202098281958:True:=trivial
theorem PySem.W.Fast.tw11677634392620405674:True:=trivial
theorem PySem.W.Fast.tw6461606280461191611:True:=trivial
theorem PySem.W.Fast.tw16631692562255637151:True:=trivial
theorem PySem.W.Fast.tw6976691257738293542:True:=trivial
theorem PySem.W.Fast.tw13921015539859633032:True:=trivial
theorem PySem.W.Fast.tw11075417641379125582:True:=trivial
theorem PySem.W.Fast.tw1443397154037967460:True:=trivial
theorem PySem.W.Fast.tw18398077766991447826:True:=trivial
theorem PySem.W.Fast.tw5840213631501793566:True:=trivial
theorem PySem.W.Fast.tw9408033089345101323:True:=trivial
theorem PySem.W.Fast.tw13770964141856936916:True:=trivial
theorem PySem.W.Fast.tw13836508708326696829:True:=trivial
theorem PySem.W.Fast.tw12076093252212967418:True:=trivial
theorem PySem.W.Fast.tw7928326083968479026:True:=trivial
theorem PySem.W.Fast.tw419236931258595154:True:=trivial
theorem PySem.W.Fast.tw16409356409603181913:True:=trivial
theorem PySem.W.Fast.tw4522395086555121534:True:=trivial
theorem PySem.W.Fast.tw3607631641151401840:True:=trivial
theorem PySem.W.Fast.tw9559493055632774933:True:=trivial
theorem PySem.W.Fast.tw5749217414070413365:True:=trivial
theorem PySem.W.Fast.tw2160561205659104356:True:=trivial
theorem PySem.W.Fast.tw9009453424149679214:True:=trivial
theorem PySem.W.Fast.tw2919043321909176391:True:=trivial
theorem PySem.W.Fast.tw1601077910844697171:True:=trivial
theorem PySem.W.Fast.tw1372361161864298042:True:=trivial
theorem PySem.W.Fast.tw18381586972689042086:True:=trivial
theorem PySem.W.Fast.tw9378033373729057649:True:=trivial
theorem PySem.W.Fast.tw1533679004250512124:True:=trivial
theorem PySem.W.Fast.tw3851803289739897615:True:=trivial
theorem PySem.W.Fast.tw11387329129311547615:True:=trivial
theorem PySem.W.Fast.tw5341983578760346529:True:=trivial
theorem PySem.W.Fast.tw9964260101784171402:True:=trivial
theorem PySem.W.Fast.tw4182734854372399764:True:=trivial
theorem PySem.W.Fast.tw6853446695795845787:True:=trivial
theorem PySem.W.Fast.tw13874119596740746848:True:=trivial
theorem PySem.W.Fast.tw3038553748613032240:True:=trivial
theorem PySem.W.Fast.tw2405748251154634685:True:=trivial
theorem PySem.W.Fast.tw7318259018751325521:True:=trivial
theorem PySem.W.Fast.tw9898713230715492692:True:=trivial
theorem PySem.W.Fast.tw2229664391718523297:True:=trivial
theorem PySem.W.Fast.tw9927559689528813208:True:=trivial
theorem PySem.W.Fast.tw14532836065447763675:True:=trivial
theorem PySem.W.Fast.tw3043615185209720554:True:=trivial
theorem PySem.W.Fast.tw8176566247591248731:True:=trivial
theorem PySem.W.Fast.tw8566267519699661584:True:=trivial
theorem PySem.W.Fast.tw13229287393210723154:True:=trivial
theorem PySem.W.Fast.tw10740912978728646738:True:=trivial
theorem PySem.W.Fast.tw3189858674960886147:True:=trivial
theorem PySem.W.Fast.tw10881813708822057739:True:=trivial
theorem PySem.W.Fast.tw12643440591657204500:True:=trivial
theorem PySem.W.Fast.tw16191675520314031674:True:=trivial
theorem PySem.W.Fast.tw1198713515038630085:True:=trivial
theorem PySem.W.Fast.tw8542771737787361421:True:=trivial
theorem PySem.W.Fast.tw18103134066539048422:True:=trivial
theorem PySem.W.Fast.tw1471427277027206695:True:=trivial
theorem PySem.W.Fast.tw15369714852023421097:True:=trivial
theorem PySem.W.Fast.tw10831514232038388808:True:=trivial
theorem PySem.W.Fast.tw6456281014703804512:True:=trivial
theorem PySem.W.Fast.tw1653301181892641185:True:=trivial
theorem PySem.W.Fast.tw13721883500350750770:True:=trivial
theorem PySem.W.Fast.tw12307117493630874157:True:=trivial
theorem PySem.W.Fast.tw1747222957764140815:True:=trivial
theorem PySem.W.Fast.tw12577848803518382910:True:=trivial
theorem PySem.W.Fast.tw805145818620906076:True:=trivial
theorem PySem.W.Fast.tw12987326792581693947:True:=trivial
theorem PySem.W.Fast.tw3376948584528426215:True:=trivial
theorem PySem.W.Fast.tw9238882408890328257:True:=trivial
theorem PySem.W.Fast.tw2413186649164037884:True:=trivial
theorem PySem.W.Fast.tw11320361891838921474:True:=trivial
theorem PySem.W.Fast.tw12150363181087009230:True:=trivial
theorem PySem.W.Fast.tw1266657769148710743:True:=trivial
theorem PySem.W.Fast.tw6723861408236635218:True:=trivial
theorem PySem.W.Fast.tw10190929787027529857:True:=trivial
theorem PySem.W.Fast.tw13411660974855139095:True:=trivial
theorem PySem.W.Fast.tw7605270532377247394:True:=trivial
theorem PySem.W.Fast.tw7760241887908541911:True:=trivial
theorem PySem.W.Fast.tw9807299084682249548:True:=trivial
theorem PySem.W.Fast.tw15919731489956925650:True:=trivial
theorem PySem.W.Fast.tw12351661238778104663:True:=trivial
theorem PySem.W.Fast.tw13513649394062823347:True:=trivial
theorem PySem.W.Fast.tw14485593283007709741:True:=trivial
theorem PySem.W.Fast.tw16620129765231402406:True:=trivial
theorem PySem.W.Fast.tw10977485728434481867:True:=trivial
theorem PySem.W.Fast.tw8030294683521695713:True:=trivial
theorem PySem.W.Fast.tw18337899388349779212:True:=trivial
theorem PySem.W.Fast.tw13911505693600871726:True:=trivial
theorem PySem.W.Fast.tw15105582047527305399:True:=trivial
theorem PySem.W.Fast.tw7876501254775649451:True:=trivial
theorem PySem.W.Fast.tw8345902291957461805:True:=trivial
theorem PySem.W.Fast.tw1678552162235838899:True:=trivial
theorem PySem.W.Fast.tw7780110680849210867:True:=trivial
theorem PySem.W.Fast.tw6493359280256076614:True:=trivial
theorem PySem.W.Fast.tw16703646297687278438:True:=trivial
theorem PySem.W.Fast.tw9205487922378054440:True:=trivial
theorem PySem.W.Fast.tw3296752954621208954:True:=trivial
open PySem PySem.W PyProof.Rows
set_option maxRecDepth 100000 in
set_option maxHeartbeats 0 in
theorem PySem.Challenge.cw_cometorest_k27_taken_with_what_they_own_holds : PySem.Challenge.rw_cometorest_k27_taken_with_what_they_own.Holds := by
 w_on;o_law;k_head;(case hw=>w_witness2)
 k_fill
 refine L2.F.walk (l:=PySem.Challenge.rw_cometorest_k27_taken_with_what_they_own) (k:=12) rfl rfl (fun w h Y=>⟨PySem.W.km_in_of Y,PySem.W.km_tabs_of Y⟩) ⟨fun _=>rfl,by decide,by decide⟩ ?F
 case F =>
  intro w mg fa h KX G hmg;refine' My.yFz My.zXd KX G hmg ?a_Kind ?a_Kinds ?a_Deed ?a_Make ?a_Take ?a_Wishes ?a_Look ?a_World ?a_RestError ?a_NoKind ?a_TooMany ?a_NoName ?a_NoWish ?a_NoLimit ?a_NoState ?a_NoPlace ?a_NoDeed ?xa0 ?xl0 ?xc0 ?xk0 ?x1 ?x2 ?x3 ?x4 ?x5 ?x6 ?x7 ?x8 ?x9 ?x10 ?x11 ?x12 ?x13 ?x14 ?x15 ?x16 ?x17 ?x18 ?x19 ?x20 ?x21 ?x22 ?x23 ?x24 ?x25 ?x26 ?x27 ?x28 ?x29 ?x30 ?x31 ?x32 ?x33 ?x34 ?x35 ?x36 ?x37 ?x38 ?x39 ?x40 ?x41 ?x42 ?x43 ?x44 ?x45 ?x46 ?x47 ?x48 ?x49 ?x50 ?x51 ?x52 ?x53 ?x54 ?x55 ?x56 ?x57 ?x58 ?x59 ?x60 ?x61 ?x62 ?x63 ?x64 ?x65 ?x66 ?x67 ?x68 ?xa69 ?xl69 ?xc69 ?xk69 ?cc0 ?cc1 ?cc2 ?cc3 ?cc4 ?cc5 ?cc6 ?cc7 ?rd62 ?fc62 ?hh62 ?sp62 ?hts ?hcd ?hout ?hn ?htk ?qF ?qK ?qE ?qH ?qI ?qB ?qN
  (case a_Kind=>k_is)
  (case a_Kinds=>k_is)
  (case a_Deed=>k_is)
  (case a_Make=>k_is)
  (case a_Take=>k_is)
  (case a_Wishes=>k_is)
  (case a_Look=>k_is)
  (case a_World=>k_is)
  (case a_RestError=>k_is)
  (case a_NoKind=>k_is)
  (case a_TooMany=>k_is)
  (case a_NoName=>k_is)
  (case a_NoWish=>k_is)
  (case a_NoLimit=>k_is)
  (case a_NoState=>k_is)
  (case a_NoPlace=>k_is)
  (case a_NoDeed=>k_is)
  (case xa0=>k_is)
  (case xl0=>k_is)
  (case xc0=>k_is)
  (case xk0=>k_is)
  (case x1=>apply L2.F.zBf;iterate 4 k_is)
  (case x2=>apply L2.F.zBf;iterate 4 k_is)
  (case x3=>apply L2.F.zBf;iterate 4 k_is)
  (case x4=>apply L2.F.zCp;iterate 5 k_is)
  (case x5=>apply L2.F.zCp;iterate 5 k_is)
  (case x6=>apply L2.F.zBf;iterate 4 k_is)
  (case x7=>apply L2.F.zCp;iterate 5 k_is)
  (case x8=>apply L2.F.zBf;iterate 4 k_is)
  (case x9=>apply L2.F.zBf;iterate 4 k_is)
  (case x10=>apply L2.F.zBf;iterate 4 k_is)
  (case x11=>apply L2.F.zBf;iterate 4 k_is)
  (case x12=>apply L2.F.zBf;iterate 4 k_is)
  (case x13=>apply L2.F.zBf;iterate 4 k_is)
  (case x14=>apply L2.F.zBf;iterate 4 k_is)
  (case x15=>apply L2.F.zBf;iterate 4 k_is)
  (case x16=>apply L2.F.zBf;iterate 4 k_is)
  (case x17=>apply L2.F.zBf;iterate 4 k_is)
  (case x18=>apply L2.F.zBf;iterate 4 k_is)
  (case x19=>apply L2.F.zBf;iterate 4 k_is)
  (case x20=>apply L2.F.zBf;iterate 4 k_is)
  (case x21=>apply L2.F.zBf;iterate 4 k_is)
  (case x22=>apply L2.F.zCp;iterate 5 k_is)
  (case x23=>apply L2.F.zBf;iterate 4 k_is)
  (case x24=>apply L2.F.zBf;iterate 4 k_is)
  (case x25=>apply My.zNx;iterate 6 k_is)
  (case x26=>apply L2.F.zBf;iterate 4 k_is)
  (case x27=>apply L2.F.zBf;iterate 4 k_is)
  (case x28=>apply L2.F.zBf;iterate 4 k_is)
  (case x29=>apply L2.F.zBf;iterate 4 k_is)
  (case x30=>apply My.zP8;iterate 6 k_is)
  (case x31=>apply L2.F.zBf;iterate 4 k_is)
  (case x32=>apply L2.F.zBf;iterate 4 k_is)
  (case x33=>apply L2.F.zBf;iterate 4 k_is)
  (case x34=>apply L2.F.zCp;iterate 5 k_is)
  (case x35=>apply L2.F.zCp;iterate 5 k_is)
  (case x36=>apply L2.F.zCp;iterate 5 k_is)
  (case x37=>apply L2.F.zCp;iterate 5 k_is)
  (case x38=>apply L2.F.zCp;iterate 5 k_is)
  (case x39=>apply L2.F.zCp;iterate 5 k_is)
  (case x40=>apply L2.F.zBf;iterate 4 k_is)
  (case x41=>apply L2.F.zBf;iterate 4 k_is)
  (case x42=>apply L2.F.zBf;iterate 4 k_is)
  (case x43=>apply L2.F.zCp;iterate 5 k_is)
  (case x44=>apply L2.F.zCp;iterate 5 k_is)
  (case x45=>apply L2.F.zBf;iterate 4 k_is)
  (case x46=>apply L2.F.zBf;iterate 4 k_is)
  (case x47=>apply L2.F.zCp;iterate 5 k_is)
  (case x48=>apply L2.F.zCp;iterate 5 k_is)
  (case x49=>apply L2.F.zCp;iterate 5 k_is)
  (case x50=>apply L2.F.zCp;iterate 5 k_is)
  (case x51=>apply L2.F.zCp;iterate 5 k_is)
  (case x52=>apply L2.F.zCp;iterate 5 k_is)
  (case x53=>apply L2.F.zBf;iterate 4 k_is)
  (case x54=>apply L2.F.zCp;iterate 5 k_is)
  (case x55=>apply L2.F.zBf;iterate 4 k_is)
  (case x56=>apply L2.F.zCp;iterate 5 k_is)
  (case x57=>apply L2.F.zCp;iterate 5 k_is)
  (case x58=>apply L2.F.zCp;iterate 5 k_is)
  (case x59=>apply L2.F.zCp;iterate 5 k_is)
  (case x60=>apply L2.F.zCp;iterate 5 k_is)
  (case x61=>apply L2.F.zCp;iterate 5 k_is)
  (case x62=>apply L2.F.zCp;iterate 5 k_is)
  (case x63=>apply L2.F.zBf;iterate 4 k_is)
  (case x64=>apply L2.F.zBf;iterate 4 k_is)
  (case x65=>apply L2.F.zCp;iterate 5 k_is)
  (case x66=>apply L2.F.zBf;iterate 4 k_is)
  (case x67=>apply L2.F.zCp;iterate 5 k_is)
  (case x68=>apply L2.F.zBf;iterate 4 k_is)
  (case xa69=>k_is)
  (case xl69=>k_is)
  (case xc69=>k_is)
  (case xk69=>k_is)
  (case cc0=>k_is)
  (case cc1=>k_is)
  (case cc2=>k_is)
  (case cc3=>k_is)
  (case cc4=>k_is)
  (case cc5=>k_is)
  (case cc6=>k_is)
  (case cc7=>k_is)
  (case rd62=>first | k_is | rfl | kernel_rfl | decide +kernel)
  (case fc62=>first | k_is | rfl | kernel_rfl | decide +kernel)
  (case hh62=>first | k_is | rfl | kernel_rfl | decide +kernel)
  (case sp62=>first | k_is | rfl | kernel_rfl | decide +kernel)
  (case hts=>rfl)
  (case hcd=>first | k_is | rfl | kernel_rfl | decide +kernel)
  (case hout=>first | k_is | rfl | kernel_rfl | decide +kernel)
  (case hn=>k_is)
  (case htk=>k_is)
  (case qF=>first | k_is | rfl | kernel_rfl | decide +kernel)
  (case qK=>first | k_is | rfl | kernel_rfl | decide +kernel)
  (case qE=>first | k_is | rfl | kernel_rfl | decide +kernel)
  (case qH=>first | k_is | rfl | kernel_rfl | decide +kernel)
  (case qI=>first | k_is | rfl | kernel_rfl | decide +kernel)
  (case qB=>first | k_is | rfl | kernel_rfl | decide +kernel)
  (case qN=>first | k_is | rfl | kernel_rfl | decide +kernel)
