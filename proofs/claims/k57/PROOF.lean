import PyProof.Rows.All
import Wide.All
import OpenK.AllK
import Wide.FinOn
import Lean
import PyProof.EqAt
import PyProof.EqKinds
import PyProof.TupleCall
import PySem.Challenge.RW_cometorest_k57_rings_of_waiting
import KE.KMinKey
import KE.KLam
import KE.KNestM
import KE.KDictList
import PyProof.EnumMake
import PyProof.EnumFor
import PyProof.EnumStmt
import PyProof.AttrMissHeap
import KE.KDictOf
import PyProof.StrLawsChain
import PyProof.StrLawsTight
import PyProof.Rows.StrItems
import PyProof.Rows.StrSplitCount
import PyProof.FString
import KE.KIntText
import KE.KTryMore
import PyProof.NsDelKeeps
import PyProof.ExcClass3
import PyProof.ExcBaseAll.ValueError
import PyProof.ExcAttrAll.ValueError
import PyProof.NeKinds
import PyProof.FactsAll.dict
import KE.KDictSum
import PyProof.DictItems
import KE.KPairComp
import KE.KxWritten
import PyProof.SumAny
import PyProof.Rows.StrLen
import PyProof.CallStr
import PyProof.StrCalls6
import PyProof.Rows.StrCase
import OpenK.KMake
set_option Elab.async false
set_option linter.all false
set_option maxRecDepth 100000
abbrev Z0:=@List.length_map
abbrev Z1:=@List.getElem?_eq_getElem
abbrev Z2:=@PySem.Heap.get?_push_of_some
abbrev Z3:=@Bool.false_ne_true
abbrev Z4:=@List.mem_of_getElem?
abbrev Z5:=@Nat.le_refl
abbrev Z6:=@List.map_append
abbrev Z7:=@PySem.Heap.lt_size
abbrev Z8:=@List.getElem?_map
abbrev Z9:=@Nat.lt_of_lt_of_le
abbrev Za:=@List.take_add_one
abbrev Zb:=@PySem.Heap.get?_push_size
abbrev Zc:=@List.length_take
abbrev Zd:=@List.take_length
abbrev Ze:=@Nat.ne_of_lt
abbrev Zf:=@List.size_toArray
abbrev Zg:=@Option.some.inj
abbrev Zh:=@List.length_cons
abbrev Zi:=@List.mem_cons_of_mem
abbrev Zj:=@List.mem_cons_self
abbrev Zk:=@List.length_append
abbrev Zl:=@List.length_filter_le
abbrev Zm:=@List.getElem?_append_left
abbrev Zn:=@Nat.zero_le
abbrev Zo:=@List.getElem_of_mem
abbrev Zp:=@Nat.le_trans
abbrev Zq:=@List.map_cons
abbrev Zr:=@List.mem_append_right
abbrev Zt:=@Nat.le_of_lt
abbrev Zu:=@List.mem_append_left
abbrev Zv:=@List.map_map
abbrev Zw:=@List.length_drop
abbrev Zx:=@List.length_take_le
abbrev Zy:=@List.mem_cons
abbrev Zz:=@List.not_mem_nil
abbrev Y0:=@Bool.and_eq_true
abbrev Y1:=@List.mem_of_mem_take
abbrev Y2:=@Nat.lt_irrefl
abbrev Y3:=@List.getElem?_append_right
abbrev Y4:=@List.lookup_cons
abbrev Y5:=@List.nodup_nil
abbrev Y6:=@List.length_replicate
abbrev Y7:=@PySem.Heap.get?_none_of_le
abbrev Y8:=@List.all_cons
abbrev Y9:=@List.any_cons
abbrev Ya:=@List.filterMap_cons
abbrev Yb:=@Nat.lt_succ_self
abbrev Yc:=@List.filter_append
abbrev Yd:=@List.find?_cons
abbrev Ye:=@PySem.Heap.size_push
abbrev Yf:=@Array.length_toList
abbrev Yg:=@Bool.eq_iff_iff
abbrev Yh:=@List.nodup_cons
abbrev Yi:=@Int.emod_lt_of_pos
abbrev Yj:=@List.all_map
abbrev Yk:=@List.map_take
namespace L2
open PySem PySem.Spec PyProof.Rows
noncomputable abbrev Key:=Sum Int Str
noncomputable def keyIs:Key→Value→Bool
 | .inl k,v=>Value.isInt k v
 | .inr x,v=>Value.isStrOf x v
noncomputable def keyH (w:World):Key→Int
 | .inl k=>hashInt k
 | .inr x=>hashStr w x
theorem zAq:∀ {k:Key}{v:Value},keyIs k v=true→(∃ i t,k=Sum.inl i∧v=Value.int i t)∨(∃ x t,k=Sum.inr x∧v=Value.str x t)
 | .inl i,v,h=>by
  obtain ⟨t,e⟩:=Value.isInt_shape (k:=i) (v:=v) h;exact .inl ⟨i,t,rfl,e⟩
 | .inr x,v,h=>by
  obtain ⟨t,e⟩:=Value.isStrOf_shape (x:=x) (v:=v) h;exact .inr ⟨x,t,rfl,e⟩
theorem keyIs_int (i:Int) (t:Tok):keyIs (.inl i) (.int i t)=true:=by simp [keyIs,Value.isInt]
theorem keyIs_str (x:Str) (t:Tok):keyIs (.inr x) (.str x t)=true:=by simp [keyIs,Value.isStrOf]
theorem key_ll (a b:Int):decide ((Sum.inl a:Key)=Sum.inl b)=(a == b):=by
 by_cases e:a=b
 ·subst e;simp
 ·have h:¬ (Sum.inl a:Key)=Sum.inl b:=fun q=>e (Sum.inl.inj q);rw [decide_eq_false h];exact (beq_eq_false_iff_ne.mpr e).symm
theorem key_rr (a b:Str):decide ((Sum.inr a:Key)=Sum.inr b)=decide (a=b):=by
 by_cases e:a=b
 ·subst e;simp
 ·have h:¬ (Sum.inr a:Key)=Sum.inr b:=fun q=>e (Sum.inr.inj q);rw [decide_eq_false h,decide_eq_false e]
theorem key_lr (a:Int) (b:Str):decide ((Sum.inl a:Key)=Sum.inr b)=false:=decide_eq_false (fun q=>nomatch q)
theorem key_rl (a:Str) (b:Int):decide ((Sum.inr a:Key)=Sum.inl b)=false:=decide_eq_false (fun q=>nomatch q)
noncomputable def mixKind (prog:Program) (w:World):PySem.KeyKind prog w Key where
 is:=keyIs
 hash:=keyH w
 inj:=fun v a b ha hb=>by
  rcases zAq ha with ⟨i,t,rfl,rfl⟩ | ⟨x,t,rfl,rfl⟩
  ·rcases zAq hb with ⟨j,u,rfl,e⟩ | ⟨y,u,rfl,e⟩
   ·injection e with e1 _;rw [e1]
   ·exact nomatch e
  ·rcases zAq hb with ⟨j,u,rfl,e⟩ | ⟨y,u,rfl,e⟩
   ·exact nomatch e
   ·injection e with e1 _;rw [e1]
 byValue:=fun k v h=>by
  rcases zAq h with ⟨i,t,rfl,rfl⟩ | ⟨x,t,rfl,rfl⟩ <;> rfl
 pyHash:=fun hv h=>by
  rcases zAq hv with ⟨i,t,rfl,rfl⟩ | ⟨x,t,rfl,rfl⟩
  ·exact wpAny_pyHash_int h
  ·exact wpAny_pyHash_str h
 eqBool:=fun hu hv h=>by
  rcases zAq hu with ⟨i,t,rfl,rfl⟩ | ⟨x,t,rfl,rfl⟩
  ·rcases zAq hv with ⟨j,u,rfl,rfl⟩ | ⟨y,u,rfl,rfl⟩
   ·rw [key_ll] at h;exact wpAny_eqBool_int h
   ·rw [key_lr] at h;exact SeqAt.EqAt.int_str i t y u _ _ _ _ h
  ·rcases zAq hv with ⟨j,u,rfl,rfl⟩ | ⟨y,u,rfl,rfl⟩
   ·rw [key_rl] at h;exact SeqAt.EqAt.str_int x t j u _ _ _ _ h
   ·rw [key_rr] at h;exact wpAny_eqBool_str h
 «strs»:=fun k x t v h=>by
  rcases zAq h with ⟨i,u,rfl,e⟩ | ⟨y,u,rfl,e⟩
  ·exact nomatch e
  ·injection e with e1 _;subst e1;cases v <;> rfl
theorem mixKind_int (prog:Program) (w:World) (i:Int) (t:Tok):(mixKind prog w).is (.inl i) (.int i t)=true:=keyIs_int i t
theorem mixKind_str (prog:Program) (w:World) (x:Str) (t:Tok):(mixKind prog w).is (.inr x) (.str x t)=true:=keyIs_str x t
end L2
namespace L2
open PySem PySem.Spec PyProof.Rows
inductive V where
 | non | bl (b:Bool) | int (i:Int) | str (x:Str) | byt (b:Array UInt8) | flt (b:UInt64) | ref (a:Addr) | ty (n:String)
 deriving DecidableEq
noncomputable def RelV:V→Value→Prop
 | .non,u=>u=Value.none
 | .bl b,u=>u=Value.bool b
 | .int i,u=>∃ t,u=Value.int i t
 | .str x,u=>∃ t,u=Value.str x t
 | .byt b,u=>∃ t,u=Value.bytes b t
 | .flt b,u=>∃ t,u=Value.float b t
 | .ref a,u=>u=Value.ref a
 | .ty n,u=>u=Value.type n
noncomputable abbrev Vals:List V→List Value→Prop:=Paired RelV
theorem Vals.length {xs:List V}{us:List Value} (r:Vals xs us):xs.length=us.length:=Paired.length r
theorem Vals.get:∀ {xs:List V}{us:List Value}{i:Nat}{x:V},Vals xs us→xs[i]? = some x→∃ u,us[i]? = some u∧RelV x u
 | _,_,_,_,.nil,e=>by simp at e
 | _,_,0,_,.cons r _,e=>by simp at e;subst e;exact ⟨_,rfl,r⟩
 | _,_,i + 1,x,.cons _ t,e=>by
  obtain ⟨u,h1,h2⟩:=Vals.get (i:=i) (x:=x) t (by simpa using e);exact ⟨u,by simpa using h1,h2⟩
theorem Vals.set {x:V}{u:Value} (r:RelV x u):∀ {xs:List V}{us:List Value} (i:Nat),Vals xs us→Vals (xs.set i x) (us.set i u)
 | _,_,_,.nil=>.nil
 | _,_,0,.cons _ t=>.cons r t
 | _,_,i + 1,.cons q t=>.cons q (Vals.set r i t)
theorem Vals.append:∀ {xs ys:List V}{us ws:List Value},Vals xs us→Vals ys ws→Vals (xs++ys) (us++ws)
 | _,_,_,_,.nil,s=>s
 | _,_,_,_,.cons r t,s=>.cons r (Vals.append t s)
theorem Vals.take:∀ {xs:List V}{us:List Value} (n:Nat),Vals xs us→Vals (xs.take n) (us.take n)
 | _,_,0,_=>.nil
 | _,_,_ + 1,.nil=>.nil
 | _,_,n + 1,.cons r t=>.cons r (Vals.take n t)
theorem Vals.drop:∀ {xs:List V}{us:List Value} (n:Nat),Vals xs us→Vals (xs.drop n) (us.drop n)
 | _,_,0,r=>r
 | _,_,_ + 1,.nil=>.nil
 | _,_,n + 1,.cons _ t=>Vals.drop n t
noncomputable def RelO:Option V→Option Value→Prop
 | some v,some u=>RelV v u
 | none,none=>True
 | _,_=>False
noncomputable def KV {κ : Type}:List (κ×V)→List (κ×Value)→Prop:=Paired fun (p : κ×V) (q : κ×Value)=>p.1=q.1∧RelV p.2 q.2
noncomputable def kV:Key→V
 | .inl i=>.int i
 | .inr x=>.str x
inductive HO where
 | lst (xs:List V)
 | tup (xs:List V)
 | dK (kvs:List (Key×V)) | dT (kvs:List (List Key×V))
 | set (S:Int→Bool) (n:Nat)
 | ins (C dx:Addr) (fs:List (Str×V))
 | own (x:Addr)
 | xd (fs:List (Str×V))
 | met (f x:Addr)
 | rng (lo hi:Int)
 | frz (o:Obj) (u:HO)
 | tbl (ps:Array Value)
 | ext (φ : Heap→Prop)
noncomputable abbrev Hp:=Addr→Option HO
noncomputable def upd (H:Hp) (a:Addr) (o:HO):Hp:=fun b=>if b=a then some o else H b
theorem zA1 {H:Hp}{a:Addr}{o:HO}:upd H a o a=some o:=by unfold upd;rw [if_pos rfl]
theorem zA5 {H:Hp}{a b:Addr}{o:HO} (h:b≠a):upd H a o b=H b:=by unfold upd;rw [if_neg h]
theorem ne_of {H:Hp}{a b:Addr}{o u:HO} (h:H a=some o) (h':H b=some u) (d:o≠u):a≠b:=by
 intro e;subst e;rw [h] at h';exact d (Zg h')
theorem zA3 {H:Hp}{a b:Addr}{o:HO} (h:H a=some o) (h':H b=none):a≠b:=by
 intro e;subst e;rw [h] at h';cases h'
section
variable (P:Program) (w:World)
noncomputable def ObjOk (H:Hp) (h:Heap) (a:Addr):HO→Prop
 | .lst xs=>xs.length≤sizeLine∧∃ (its:List Value) (n:Nat),Vals xs its∧h.get? a=some { cls:=.type "list",data:=.seq its.toArray n }
 | .tup xs=>xs.length≤sizeLine∧∃ its:List Value,Vals xs its∧IsTup h a its.toArray
 | .dK kvs=>kvs.length≤sizeLine∧(a == sysModules)=false∧∃ vs,KV kvs vs∧h.DictOf (mixKind P w) a vs
 | .dT kvs=>kvs.length≤sizeLine∧(a == sysModules)=false∧∃ xs:List (List Key×Addr×Value),
   Paired (fun (p:List Key×V) (q:List Key×Addr×Value)=>p.1=q.1∧H q.2.1=some (.tup (p.1.map kV))∧RelV p.2 q.2.2) kvs xs ∧
   ∃ o es ep,h.get? a=some o∧o.ExactDict∧o.data=.dict es ep∧es.toList=xs.map (entryOfKey (tupleKind (mixKind P w)))∧(xs.map (·.1)).Nodup
 | .set S n=>h.SetOf (intKind P w) a S n
 | .ins C dx fs=>H dx=some (.own a)∧fs.length≤1000∧dx≠a∧h.get? a=some (PySem.W.instObj C dx) ∧
   ∃ mA,h.Ns1 dx mA∧(∀ f,RelO (fs.lookup f) (mA f))∧PySem.Within mA (fs.map (·.1))
 | .own _=>∃ o,h.get? a=some o
 | .xd fs=>∃ mA,h.Ns1 a mA∧∀ f,RelO (fs.lookup f) (mA f)
 | .rng lo hi=>∃ t u v,h.get? a=some { cls:=.type "range",data:=.fields #[.int lo t,.int hi u,.int 1 v] }
 | .frz o u=>h.get? a=some o∧ObjOk H h a u
 | .tbl ps=>h.get? a=some { cls:=.none,data:=.fields ps }
 | .met f x=>h.get? a=some (PySem.W.methodObj (.ref f) (.ref x))
 | .ext φ=>φ h∧(∃ o,h.get? a=some o)∧∀ h1 h2:Heap,φ h1→(∀ o,h1.get? a=some o→h2.get? a=some o)→φ h2
noncomputable def HOk (H:Hp) (h:Heap):Prop:=∀ a o,H a=some o→ObjOk P w H h a o
end
section
variable {P:Program}{w:World}{H H':Hp}{h h':Heap}{a:Addr}{o:HO}
theorem ObjOk.lt (x:ObjOk P w H h a o):a < h.objs.size:=by
 cases o with
 | lst xs=>obtain ⟨_,_,_,_,e⟩:=x;exact Z7 e
 | tup xs=>obtain ⟨_,_,_,p⟩:=x;exact p.lt
 | dK kvs=>obtain ⟨_,_,_,_,o,_,_,e,_⟩:=x;exact Z7 e
 | dT kvs=>obtain ⟨_,_,_,_,o,_,_,e,_⟩:=x;exact Z7 e
 | set S n=>obtain ⟨o,_,_,_,e,_⟩:=x;exact Z7 e
 | ins C dx fs=>obtain ⟨_,_,_,e,_⟩:=x;exact Z7 e
 | own y=>obtain ⟨_,e⟩:=x;exact Z7 e
 | xd fs=>obtain ⟨_,⟨_,_,_,e,_⟩,_⟩:=x;exact Z7 e
 | rng lo hi=>obtain ⟨_,_,_,e⟩:=x;exact Z7 e
 | frz ob u=>obtain ⟨e,_⟩:=x;exact Z7 e
 | tbl ps=>exact Z7 (show h.get? a=some _ from x)
 | met f y=>exact Z7 (show h.get? a=some _ from x)
 | ext φ=>obtain ⟨_,⟨_,e⟩,_⟩:=x;exact Z7 e
theorem Paired.mapP {α β : Type}{F G : α→β→Prop}:∀ {l₁ : List α}{l₂ : List β},Paired F l₁ l₂→(∀ a b,F a b→G a b)→Paired G l₁ l₂
 | _,_,.nil,_=>.nil
 | _,_,.cons r t,f=>.cons (f _ _ r) (Paired.mapP t f)
theorem ObjOk.stay (x:ObjOk P w H h a o) (k:∀ b u,(b=a∨H b=some (.own a))→h.get? b=some u→h'.get? b=some u)
  (ho:∀ b,H b=some (.own a)→H' b=some (.own a)) (ht:∀ b xs,H b=some (.tup xs)→H' b=some (.tup xs)):ObjOk P w H' h' a o:=by
 induction o with
 | lst xs=>obtain ⟨z,its,n,r,e⟩:=x;exact ⟨z,its,n,r,k _ _ (.inl rfl) e⟩
 | tup xs=>obtain ⟨z,its,r,ob,e,c⟩:=x;exact ⟨z,its,r,ob,k _ _ (.inl rfl) e,c⟩
 | dK kvs=>obtain ⟨z,y,vs,r,ob,es,ep,e,c⟩:=x;exact ⟨z,y,vs,r,ob,es,ep,k _ _ (.inl rfl) e,c⟩
 | dT kvs =>
  obtain ⟨z,y,xs,r,ob,es,ep,e,c⟩:=x;exact ⟨z,y,xs,Paired.mapP r fun p q z=>⟨z.1,ht _ _ z.2.1,z.2.2⟩,ob,es,ep,k _ _ (.inl rfl) e,c⟩
 | set S n=>obtain ⟨ob,es,ep,t,e,c⟩:=x;exact ⟨ob,es,ep,t,k _ _ (.inl rfl) e,c⟩
 | ins C dx fs =>
  obtain ⟨d,z,ne,e,mA,⟨od,es,ep,e2,c⟩,r⟩:=x;exact ⟨ho _ d,z,ne,k _ _ (.inl rfl) e,mA,⟨od,es,ep,k _ _ (.inr d) e2,c⟩,r⟩
 | own y=>obtain ⟨ob,e⟩:=x;exact ⟨ob,k _ _ (.inl rfl) e⟩
 | xd fs=>obtain ⟨mA,⟨od,es,ep,e,c⟩,r⟩:=x;exact ⟨mA,⟨od,es,ep,k _ _ (.inl rfl) e,c⟩,r⟩
 | rng lo hi=>obtain ⟨t,u,v,e⟩:=x;exact ⟨t,u,v,k _ _ (.inl rfl) e⟩
 | frz ob u ih=>obtain ⟨e,q⟩:=x;exact ⟨k _ _ (.inl rfl) e,ih q⟩
 | tbl ps =>
  have e:h.get? a=some { cls:=.none,data:=.fields ps }:=x;show h'.get? a=some { cls:=.none,data:=.fields ps };exact k a _ (.inl rfl) e
 | met f y =>
  have e:h.get? a=some (PySem.W.methodObj (.ref f) (.ref y)):=x;show h'.get? a=some (PySem.W.methodObj (.ref f) (.ref y));exact k a _ (.inl rfl) e
 | ext φ=>obtain ⟨p,⟨o,e⟩,st⟩:=x;exact ⟨st _ _ p fun o q=>k _ _ (.inl rfl) q,⟨o,k _ _ (.inl rfl) e⟩,st⟩
theorem HOk.lt (x:HOk P w H h) (e:H a=some o):a < h.objs.size:=(x a o e).lt
theorem HOk.fresh (x:HOk P w H h) (e:h.objs.size≤a):H a=none:=by
 cases q:H a with
 | none=>rfl
 | some u=>exact absurd (Z9 (x.lt q) e) (Y2 _)
theorem HOk.kept (x:HOk P w H h) (k:∀ b u,h.get? b=some u→h'.get? b=some u):HOk P w H h':=fun a o e =>
 (x a o e).stay (fun b u _ q=>k b u q) (fun _ q=>q) fun _ _ q=>q
theorem HOk.laid (x:HOk P w H h) (k:∀ b u,h.get? b=some u→h'.get? b=some u) (hp:h.objs.size≤a) (new:ObjOk P w (upd H a o) h' a o):HOk P w (upd H a o) h':=fun b u e=>by
 have hn:=x.fresh hp;by_cases hb:b=a
 ·subst hb;rw [zA1] at e;cases e;exact new
 ·rw [zA5 hb] at e;exact (x b u e).stay (fun c v _ q=>k c v q) (fun c q=>by rw [zA5 (zA3 q hn)];exact q) fun c xs q=>by rw [zA5 (zA3 q hn)];exact q
end
noncomputable def Rd (H:Hp) (a:Addr) (u:HO):Prop:=H a=some u∨∃ o,H a=some (.frz o u)
theorem Rd.ok {P:Program}{w:World}{H:Hp}{h:Heap}{a:Addr}{u:HO} (r:Rd H a u) (x:HOk P w H h):ObjOk P w H h a u:=by
 rcases r with r | ⟨o,r⟩
 ·exact x a u r
 ·obtain ⟨_,q⟩:=x a _ r;exact q
noncomputable def Mut:Option HO→Prop
 | some (.lst _)=>True
 | some (.dK _)=>True
 | some (.dT _)=>True
 | some (.set _ _)=>True
 | some (.ins _ _ _)=>True
 | some (.ext _)=>True
 | _=>False
section
variable {P:Program}{w:World}{H:Hp}{h h':Heap}{x e:Addr}{o':HO}
theorem HOk.write (ok:HOk P w H h) (mu:Mut (H x)) (he:e=x∨H e=some (.own x)) (k:∀ b u,b≠e→h.get? b=some u→h'.get? b=some u) (heo:∃ u,h'.get? e=some u)
  (new:ObjOk P w (upd H x o') h' x o'):HOk P w (upd H x o') h':=fun b u q=>by
 have nown:∀ c y,H c=some (.own y)→c≠x:=fun c y r z=>by subst z;rw [r] at mu;exact mu
 have ntup:∀ c xs,H c=some (.tup xs)→c≠x:=fun c xs r z=>by subst z;rw [r] at mu;exact mu
 by_cases hb:b=x
 ·subst hb;rw [zA1] at q;cases q;exact new
 ·rw [zA5 hb] at q;by_cases hbe:b=e
  ·have q':H b=some (.own x):=by
    rcases he with z | z
    ·exact absurd (hbe.trans z) hb
    ·rw [hbe];exact z
   rw [q] at q';cases q';obtain ⟨v,hv⟩:=heo;exact ⟨v,by rw [hbe];exact hv⟩
  ·refine (ok b u q).stay (fun c v hc r=>k c v ?_ r) (fun c r=>by rw [zA5 (nown c b r)];exact r) fun c xs r=>by rw [zA5 (ntup c xs r)];exact r
   rcases hc with rfl | hc
   ·exact hbe
   ·rintro rfl;rcases he with z | z
    ·exact nown c b hc z
    ·rw [hc] at z;cases z;exact hb rfl
end
structure Un (fs ex:List Addr) (H H':Hp) (h h':Heap):Prop where
 keep:∀ b o,h.get? b=some o→H b=none→b∉fs→b∉ex→h'.get? b=some o
 slot:∀ b o,h.get? b=some o→H b=none→b∈fs→b∉ex→∃ sl,h'.get? b=some { o with slots:=sl }
 free:∀ b o,h.get? b=some o→H b=none→b∉ex→H' b=none
 there:∀ b o,h.get? b=some o→b∉ex→∃ o',h'.get? b=some o'
 tups:∀ b xs,H b=some (.tup xs)→H' b=some (.tup xs)
 frzs:∀ b o u,H b=some (.frz o u)→H' b=some (.frz o u)
 tbls:∀ b ps,H b=some (.tbl ps)→∃ more,H' b=some (.tbl (ps++more))
section
variable {fs fs' ex ex':List Addr}{H H1 H2:Hp}{h h1 h2 h':Heap}{a x e:Addr}{o:HO}
theorem Un.any (u:Un fs ex H H1 h h1) {b:Addr}{ob:Obj} (q:h.get? b=some ob) (n:H b=none) (hx:b∉ex):∃ sl,h1.get? b=some { ob with slots:=sl }:=by
 by_cases hb:b∈fs
 ·exact u.slot b ob q n hb hx
 ·exact ⟨ob.slots,u.keep b ob q n hb hx⟩
theorem Un.trans (a:Un fs ex H H1 h h1) (b:Un fs ex H1 H2 h1 h2):Un fs ex H H2 h h2 where
 keep:=fun c ob q n hc hx=>b.keep c ob (a.keep c ob q n hc hx) (a.free c ob q n hx) hc hx
 slot:=fun c ob q n hc hx=>by
  obtain ⟨sl,e1⟩:=a.slot c ob q n hc hx;obtain ⟨sl',e2⟩:=b.slot c _ e1 (a.free c ob q n hx) hc hx;exact ⟨sl',e2⟩
 free:=fun c ob q n hx=>by
  obtain ⟨o',e1⟩:=a.there c ob q hx;exact b.free c o' e1 (a.free c ob q n hx) hx
 there:=fun c ob q hx=>by
  obtain ⟨o',e1⟩:=a.there c ob q hx;exact b.there c o' e1 hx
 tups:=fun c xs q=>b.tups c xs (a.tups c xs q)
 frzs:=fun c ob xs q=>b.frzs c ob xs (a.frzs c ob xs q)
 tbls:=fun c ps q=>by
  obtain ⟨m1,e1⟩:=a.tbls c ps q;obtain ⟨m2,e2⟩:=b.tbls c _ e1;exact ⟨m1++m2,by rw [e2,Array.append_assoc]⟩
theorem Un.kept (k:∀ b u,h.get? b=some u→h'.get? b=some u):Un fs ex H H h h' :=
 ⟨fun b ob q _ _ _=>k b ob q,fun b ob q _ _ _=>⟨ob.slots,k b ob q⟩,fun _ _ _ n _=>n,fun b ob q _=>⟨ob,k b ob q⟩,fun _ _ q=>q,fun _ _ _ q=>q,fun _ ps q=>⟨#[],by rw [q];simp⟩⟩
theorem Un.refl:Un fs ex H H h h:=Un.kept fun _ _ q=>q
theorem Un.laid (k:∀ b u,h.get? b=some u→h'.get? b=some u) (hp:h.objs.size≤a) (hn:H a=none):Un fs ex H (upd H a o) h h' where
 keep:=fun b u q _ _ _=>k b u q
 slot:=fun b u q _ _ _=>⟨u.slots,k b u q⟩
 free:=fun b u q n _=>by rw [zA5 (Ze (Z9 (Z7 q) hp))];exact n
 there:=fun b u q _=>⟨u,k b u q⟩
 tups:=fun b xs q=>by rw [zA5 (zA3 q hn)];exact q
 frzs:=fun b u xs q=>by rw [zA5 (zA3 q hn)];exact q
 tbls:=fun b ps q=>⟨#[],by rw [zA5 (zA3 q hn),q];simp⟩
theorem Un.write (mu:Mut (H x)) (he:e=x∨H e=some (.own x)) (k:∀ b u,b≠e→h.get? b=some u→h'.get? b=some u) (heo:∃ u,h'.get? e=some u):Un fs ex H (upd H x o) h h':=by
 have hx:∀ b,H b=none→b≠x:=fun b n z=>by subst z;rw [n] at mu;exact mu
 have hb:∀ b,H b=none→b≠e:=fun b n z=>by
  subst z;rcases he with r | r
  ·exact hx b n r
  ·rw [n] at r;cases r
 have hm:∀ b u,H b=some u→¬ Mut (some u)→b≠x:=fun b u q nm z=>by subst z;rw [q] at mu;exact nm mu
 refine ⟨fun b u q n _ _=>k b u (hb b n) q,fun b u q n _ _=>⟨u.slots,k b u (hb b n) q⟩,fun b u q n _=>by rw [zA5 (hx b n)];exact n,fun b u q _=>?_,
  fun b xs q=>by rw [zA5 (hm b _ q fun z=>z)];exact q,fun b u xs q=>by rw [zA5 (hm b _ q fun z=>z)];exact q,fun b ps q=>⟨#[],by rw [zA5 (hm b _ q fun z=>z),q];simp⟩⟩
 by_cases hbe:b=e
 ·subst hbe;exact heo
 ·exact ⟨u,k b u hbe q⟩
end
noncomputable def trk (h:Heap) (H:Hp):List Addr:=(List.range h.objs.size).filter fun a=>(H a).isSome
noncomputable def hidT (h:Heap) (H:Hp):Heap:=PySem.W.hideAll h (trk h H)
theorem hidT_size (h:Heap) (H:Hp):(hidT h H).objs.size=h.objs.size:=PySem.W.hideAll_size _ _
theorem hidT_get {h:Heap}{H:Hp}{b:Addr}{o:Obj} (e:h.get? b=some o) (n:H b=none):(hidT h H).get? b=some o :=
 PySem.W.hideAll_get _ e fun hm=>by
  have q:(H b).isSome=true:=(List.mem_filter.mp hm).2;rw [n] at q;simp at q
theorem of_hidT {h:Heap}{H:Hp}{b:Addr}{o:Obj} (e:(hidT h H).get? b=some o):h.get? b=some o∧H b=none:=by
 have e':h.get? b=some o:=PySem.W.of_hideAll (trk h H) e;refine ⟨e',?_⟩;cases q:H b with
 | none=>rfl
 | some x =>
  have hm:b∈trk h H:=List.mem_filter.mpr ⟨List.mem_range.mpr (Z7 e'),by simp [q]⟩;have z:(hidT h H).get? b=none:=PySem.W.hideAll_none (trk h H) hm;rw [z] at e;cases e
noncomputable def allNews (g h:Heap) (L:Addr):List (Addr×Obj):=(List.range h.objs.size).filterMap fun a=>if a=L∨(g.get? a).isSome=true then none else (h.get? a).map fun o=>(a,o)
noncomputable def rest (g h:Heap) (L d:Addr):List (Addr×Obj):=(allNews g h L).filter fun p=>decide (p.1≠d)
end L2
namespace L2
open PySem PySem.Spec PyProof.Rows
structure Mod (K:PySem.W.Frag) (mg:Str→Option Value) (base:Heap):Prop where
 kin:K.In base
 glob:base.Ns mainGlobals mg
 blt:∃ mb,base.Ns builtinsNs mb∧∀ x:Str,x≠"__name__"→mb x=bootBuiltins x
 nolimit:base.NoLimit
structure Cx where
 prog:Program
 w:World
 K:PySem.W.Frag
 mg:Str→Option Value
 base:Heap
 A:Around
 N:List Str
 s₀ : Shared
 H₀ : Hp
 env:Env
 outer:List Env
 stack:List Env
 ex:List Addr
 fn:Str→Bool
 calm:Bool
 pn:List (Addr×Obj)
 xe:Value→Shared→Prop
noncomputable def frs (l:List Env):List Addr:=l.filterMap (·.frame)
noncomputable abbrev Cx.fs (X:Cx):List Addr:=frs X.outer
noncomputable def Vis (sc:Scope) (x:Str):Prop:=sc.names.lookup x=some .local∨sc.names.lookup x=some .cell∨sc.names.lookup x=some .free
noncomputable def Loc (sc:Scope) (x:Str):Prop:=sc.names.lookup x=some .local∨sc.names.lookup x=some .cell
noncomputable def Look (env:Env) (h:Heap) (m:Str→Option Value) (x:Str) (u:Value):Prop :=
 (env.kindOf x=some .local∧m x=some u)∨((env.kindOf x=some .cell∨env.kindOf x=some .free)∧∃ c,env.cells.lookup x=some c∧h.IsCell c (some u))
structure Cx.Ok (X:Cx):Prop where
 mod:Mod X.K X.mg X.base
 kind:X.env.scope.kind=.function
 glob:X.env.globals=mainGlobals
 blt:X.env.builtins=builtinsNs
 above:X.s₀.heap.objs.size≤X.env.locals
 inj:∀ x y c,X.env.cells.lookup x=some c→X.env.cells.lookup y=some c→x=y
 has:∀ x,(X.env.kindOf x=some .cell∨X.env.kindOf x=some .free)→∃ c,X.env.cells.lookup x=some c
 cab:∀ x c,X.fn x=true→X.env.cells.lookup x=some c→X.s₀.heap.objs.size≤c
 hd:X.calm=true→X.A.handled=none
 frames:X.A.frames=some X.stack
 stk:X.stack=X.outer∨(X.stack=X.env :: X.outer∧X.env.frame=some X.env.locals)
 exf:∀ b∈X.ex,b≠X.env.locals∧∀ x c,X.env.cells.lookup x=some c→c≠b
 bs:∀ b o,X.base.get? b=some o→X.s₀.heap.get? b=some o∧X.H₀ b=none
 bsz:X.base.objs.size≤X.s₀.heap.objs.size
 noex:∀ b o,X.base.get? b=some o→b∉X.ex
 exfs:∀ b∈X.ex,b∉X.fs
 funs:X.s₀.heap.FunFrames X.base X.outer
 frf:∀ b∈X.fs,X.H₀ b=none
structure Inv (X:Cx) (pins:List (Addr×Obj)) (σ : List (Option V)) (H:Hp) (s:Shared):Prop where
 ok:X.Ok
 os:s.os=X.s₀.os
 bare:AllBare s.gens
 base:Un X.fs X.ex X.H₀ H X.s₀.heap s.heap
 loc:∃ m,s.heap.Ns X.env.locals m∧∀ (i:Nat) (x:Str) (v:V),X.N[i]? = some x→σ[i]? = some (some v)→Vis X.env.scope x→∃ u,RelV v u∧Look X.env s.heap m x u
 cell:∀ x c,X.env.cells.lookup x=some c→∃ v,s.heap.IsCell c v
 free:H X.env.locals=none
 freeC:∀ x c,X.env.cells.lookup x=some c→H c=none
 pin:∀ p∈X.pn++pins,s.heap.get? p.1=some p.2∧H p.1=none∧p.1≠X.env.locals∧p.1∉X.fs∧∀ v,p.2.data≠.cell v
 hok:HOk X.prog X.w H s.heap
 len : σ.length=X.N.length
section
variable {X:Cx}{pins:List (Addr×Obj)}{σ : List (Option V)}{H H':Hp}{s:Shared}{h':Heap}
theorem Cx.Ok.nofr (ok:X.Ok) {b:Addr}{o:Obj} (e:X.base.get? b=some o):b∉X.fs:=fun hb=>by
 have:=(ok.funs.mem hb).1;rw [e] at this;cases this
theorem Inv.bs (I:Inv X pins σ H s):∀ b o,X.base.get? b=some o→s.heap.get? b=some o∧H b=none:=fun b o e =>
 ⟨I.base.keep b o (I.ok.bs b o e).1 (I.ok.bs b o e).2 (I.ok.nofr e) (I.ok.noex b o e),I.base.free b o (I.ok.bs b o e).1 (I.ok.bs b o e).2 (I.ok.noex b o e)⟩
theorem Inv.bk (I:Inv X pins σ H s):∀ b o,X.base.get? b=some o→s.heap.get? b=some o:=fun b o e=>(I.bs b o e).1
theorem Inv.mod (I:Inv X pins σ H s):Mod X.K X.mg X.base:=I.ok.mod
theorem Inv.kIn (I:Inv X pins σ H s):X.K.In s.heap:=I.ok.mod.kin.keeps I.bk
theorem Inv.nolimit (I:Inv X pins σ H s):s.heap.NoLimit:=I.ok.mod.nolimit.keeps I.bk
theorem Inv.lt (I:Inv X pins σ H s):X.env.locals < s.heap.objs.size:=let ⟨_,hn,_⟩:=I.loc;hn.lt
theorem Inv.sz (I:Inv X pins σ H s):X.s₀.heap.objs.size≤s.heap.objs.size:=Zp I.ok.above (Zt I.lt)
theorem Inv.nofs (I:Inv X pins σ H s) {a:Addr} (h:s.heap.objs.size≤a):a∉X.fs:=fun hb=>by
 obtain ⟨_,o,ho,_⟩:=I.ok.funs.mem hb;exact absurd (Z9 (Z7 ho) (Zp I.sz h)) (Y2 _)
theorem Inv.cne (I:Inv X pins σ H s):∀ x c,X.env.cells.lookup x=some c→c≠X.env.locals:=fun x c e z=>by
 obtain ⟨v,o,ho,hd⟩:=I.cell x c e;obtain ⟨m,⟨o',es,ep,ho',hd',_⟩,_⟩:=I.loc;rw [z,ho'] at ho;cases ho;rw [hd'] at hd;cases hd
theorem Inv.funs (I:Inv X pins σ H s):s.heap.FunFrames X.base X.outer:=by
 have all:∀ (l:List Env),(∀ b∈frs l,b∈X.fs)→X.s₀.heap.FunFrames X.base l→s.heap.FunFrames X.base l:=by
  intro l
  induction l with
  | nil=>intro _ _;trivial
  | cons env r ih =>
   intro hs hl;obtain ⟨hk,⟨L,o,hf,hn,ho,hd⟩,hr⟩:=hl;have hL:L∈X.fs:=hs L (by unfold frs;rw [Ya,hf];exact Zj);obtain ⟨sl,e⟩:=I.base.slot L o ho (I.ok.frf L hL) hL fun z=>I.ok.exfs L z hL;exact ⟨hk,⟨L,_,hf,hn,e,hd⟩,ih (fun b hb=>hs b (by unfold frs;rw [Ya,hf];exact Zi _ hb)) hr⟩
 exact all X.outer (fun _ hb=>hb) I.ok.funs
theorem Inv.stack (I:Inv X pins σ H s):s.heap.FunFrames X.base X.stack:=by
 rcases I.ok.stk with e | ⟨e,hf⟩
 ·rw [e];exact I.funs
 ·rw [e];obtain ⟨m,hn,_⟩:=I.loc;refine .cons (by rw [I.ok.kind];decide) hf hn ?_ I.funs;exact Y7 (Zp I.ok.bsz I.ok.above)
theorem Inv.stkSub (I:Inv X pins σ H s):∀ b∈frs X.stack,b∈X.env.locals :: X.fs:=fun b hb=>by
 rcases I.ok.stk with e | ⟨e,hf⟩
 ·rw [e] at hb;exact Zi _ hb
 ·rw [e] at hb;unfold frs at hb;rw [Ya,hf] at hb;exact hb
theorem Inv.stkFree (I:Inv X pins σ H s):∀ b∈frs X.stack,H b=none:=fun b hb=>by
 rcases List.mem_cons.mp (I.stkSub b hb) with e | hb
 ·rw [e];exact I.free
 ·obtain ⟨_,o,ho,_⟩:=I.ok.funs.mem hb;exact I.base.free b o ho (I.ok.frf b hb) fun z=>I.ok.exfs b z hb
theorem Inv.step {g':Array GenState}{t':Nat}{d':Drawn}{ch:List Addr} (I:Inv X pins σ H s)
  (hch:∀ b∈ch,(b∈X.ex∨X.s₀.heap.get? b=none)∧b≠X.env.locals∧(∀ x c,X.env.cells.lookup x=some c→c≠b)∧∀ p∈X.pn++pins,p.1≠b)
  (keep:∀ b o,b≠X.env.locals→b∉X.fs→b∉ch→s.heap.get? b=some o→H b=none→h'.get? b=some o)
  (slot:∀ b o,b≠X.env.locals→b∈X.fs→b∉ch→s.heap.get? b=some o→H b=none→∃ sl,h'.get? b=some { o with slots:=sl }) (free:∀ b o,b∉ch→s.heap.get? b=some o→H b=none→H' b=none)
  (there:∀ b o,b∉ch→s.heap.get? b=some o→∃ o',h'.get? b=some o')
  (tups:∀ b xs,H b=some (.tup xs)→H' b=some (.tup xs)) (frzs:∀ b o u,H b=some (.frz o u)→H' b=some (.frz o u)) (tbls:∀ b ps,H b=some (.tbl ps)→∃ more,H' b=some (.tbl (ps++more)))
  (ns:∀ m,s.heap.Ns X.env.locals m→h'.Ns X.env.locals m) (hok:HOk X.prog X.w H' h') (hg:AllBare g') :
  Inv X pins σ H' { s with heap:=h',gens:=g',drawn:=d',toks:=t' }:=by
 have neL:∀ b o,X.s₀.heap.get? b=some o→b≠X.env.locals:=fun b o e=>Ze (Z9 (Z7 e) I.ok.above);have neC:∀ b o,X.s₀.heap.get? b=some o→b∉X.ex→b∉ch:=fun b o e hx hb=>by
  rcases (hch b hb).1 with z | z
  ·exact hx z
  ·rw [z] at e;cases e
 have cellK:∀ x c,X.env.cells.lookup x=some c→∀ v,s.heap.IsCell c v→h'.IsCell c v:=fun x c e v ⟨o,ho,hd⟩=>by
  have nch:c∉ch:=fun z=>(hch c z).2.2.1 x c e rfl;by_cases hc:c∈X.fs
  ·obtain ⟨sl,q⟩:=slot c o (I.cne x c e) hc nch ho (I.freeC x c e);exact ⟨_,q,hd⟩
  ·exact ⟨o,keep c o (I.cne x c e) hc nch ho (I.freeC x c e),hd⟩
 refine ⟨I.ok,I.os,hg,⟨fun b o e n hb hx=>?_,fun b o e n hb hx=>?_,fun b o e n hx=>?_,fun b o e hx=>?_,fun b xs e=>tups b xs (I.base.tups b xs e),fun b o xs e=>frzs b o xs (I.base.frzs b o xs e),fun b ps e=>?_⟩,?_,fun x c e=>?_,?_,fun x c e=>?_,fun p hp=>?_,hok,I.len⟩
 ·exact keep b o (neL b o e) hb (neC b o e hx) (I.base.keep b o e n hb hx) (I.base.free b o e n hx)
 ·obtain ⟨sl,e1⟩:=I.base.slot b o e n hb hx;obtain ⟨sl',e2⟩:=slot b _ (neL b o e) hb (neC b o e hx) e1 (I.base.free b o e n hx);exact ⟨sl',e2⟩
 ·obtain ⟨o',e1⟩:=I.base.there b o e hx;exact free b o' (neC b o e hx) e1 (I.base.free b o e n hx)
 ·obtain ⟨o',e1⟩:=I.base.there b o e hx;exact there b o' (neC b o e hx) e1
 ·obtain ⟨m1,e1⟩:=I.base.tbls b ps e;obtain ⟨m2,e2⟩:=tbls b _ e1;exact ⟨m1++m2,by rw [e2,Array.append_assoc]⟩
 ·obtain ⟨m,hn,hl⟩:=I.loc;refine ⟨m,ns m hn,fun i x v e1 e2 e3=>?_⟩;obtain ⟨u,r,l⟩:=hl i x v e1 e2 e3;refine ⟨u,r,?_⟩;rcases l with l | ⟨k,c,e,z⟩
  ·exact .inl l
  ·exact .inr ⟨k,c,e,cellK x c e _ z⟩
 ·obtain ⟨v,z⟩:=I.cell x c e;exact ⟨v,cellK x c e v z⟩
 ·obtain ⟨m,⟨o,_,_,ho,_⟩,_⟩:=I.loc;exact free _ o (fun z=>(hch _ z).2.1 rfl) ho I.free
 ·obtain ⟨v,o,ho,hd⟩:=I.cell x c e;exact free c o (fun z=>(hch c z).2.2.1 x c e rfl) ho (I.freeC x c e)
 ·obtain ⟨e,n,ne,nf,d⟩:=I.pin p hp;have nch:p.1∉ch:=fun z=>(hch p.1 z).2.2.2 p hp rfl;exact ⟨keep p.1 p.2 ne nf nch e n,free p.1 p.2 nch e n,ne,nf,d⟩
theorem Inv.un {t':Nat} (I:Inv X pins σ H s) (u:Un X.fs [] H H' s.heap h') (hok:HOk X.prog X.w H' h'):Inv X pins σ H' { s with heap:=h',toks:=t' }:=by
 obtain ⟨m,⟨o,es,ep,ho,r⟩,_⟩:=id I.loc;obtain ⟨sl,hL⟩:=u.any ho I.free (by simp)
 exact I.step (g':=s.gens) (d':=s.drawn) (ch:=[]) (fun _ z=>nomatch z) (fun b o _ hb _ e n=>u.keep b o e n hb (by simp)) (fun b o _ hb _ e n=>u.slot b o e n hb (by simp)) (fun b o _ e n=>u.free b o e n (by simp)) (fun b o _ e=>u.there b o e (by simp)) u.tups u.frzs u.tbls (fun m' hm=>by
  obtain ⟨o',es',ep',ho',r'⟩:=hm;rw [ho] at ho';cases ho'
  exact ⟨_,es',ep',hL,r'⟩) hok I.bare
theorem Inv.call {g':Array GenState}{t':Nat}{d':Drawn}{ch:List Addr} (I:Inv X pins σ H s) (u:Un (frs X.stack) ch H H' s.heap h') (hok:HOk X.prog X.w H' h') (hg:AllBare g')
  (hch:∀ b∈ch,(b∈X.ex∨X.s₀.heap.objs.size≤b)∧b≠X.env.locals∧(∀ x c,X.env.cells.lookup x=some c→c≠b)∧∀ p∈X.pn++pins,p.1≠b) :
  Inv X pins σ H' { s with heap:=h',gens:=g',drawn:=d',toks:=t' }:=by
 obtain ⟨m,⟨o,es,ep,ho,r⟩,_⟩:=id I.loc;obtain ⟨sl,hL⟩:=u.any ho I.free fun z=>(hch _ z).2.1 rfl
 exact I.step (ch:=ch) (fun b hb=>⟨(hch b hb).1.imp_right fun z=>Y7 z,(hch b hb).2⟩) (fun b o hL hb hc e n=>u.keep b o e n (fun z=>(List.mem_cons.mp (I.stkSub b z)).elim hL hb) hc) (fun b o _ _ hc e n=>u.any e n hc) (fun b o hc e n=>u.free b o e n hc) (fun b o hc e=>u.there b o e hc) u.tups u.frzs u.tbls (fun m' hm=>by
  obtain ⟨o',es',ep',ho',r'⟩:=hm;rw [ho] at ho';cases ho'
  exact ⟨_,es',ep',hL,r'⟩) hok hg
theorem Inv.turned {t':Nat}{it:Addr} (I:Inv X pins σ H s) (k:∀ b o,b≠it→s.heap.get? b=some o→h'.get? b=some o) (hn:H it=none) (hL:it≠X.env.locals)
  (h1:it∈X.ex∨X.s₀.heap.objs.size≤it) (h2:∀ x c,X.env.cells.lookup x=some c→c≠it) (h3:∀ p∈X.pn++pins,p.1≠it):Inv X pins σ H { s with heap:=h',toks:=t' }:=by
 have nit:∀ b u,H b=some u→b≠it:=fun b u e z=>by rw [z,hn] at e;cases e
 refine I.step (g':=s.gens) (d':=s.drawn) (ch:=[it]) (fun b hb=>?_) (fun b o _ _ hc e _=>k b o (fun z=>hc (by simp [z])) e) (fun b o _ _ hc e _=>⟨o.slots,k b o (fun z=>hc (by simp [z])) e⟩) (fun _ _ _ _ n=>n)
  (fun b o hc e=>⟨o,k b o (fun z=>hc (by simp [z])) e⟩) (fun _ _ e=>e) (fun _ _ _ e=>e) (fun b ps e=>⟨#[],by rw [e];simp⟩) (fun m hm=>?_) (fun b u e=>?_) I.bare
 ·have e:b=it:=by simpa using hb
  subst e;exact ⟨h1.imp_right fun z=>Y7 z,hL,h2,h3⟩
 ·obtain ⟨o,es,ep,ho,r⟩:=hm;exact ⟨o,es,ep,k _ o (Ne.symm hL) ho,r⟩
 ·refine (I.hok b u e).stay (fun c v hc q=>k c v ?_ q) (fun _ q=>q) fun _ _ q=>q;rcases hc with z | z
  ·rw [z];exact nit b u e
  ·exact nit c _ z
theorem Inv.tok (I:Inv X pins σ H s) (t:Nat):Inv X pins σ H { s with toks:=t }:=I.un (h':=s.heap) (t':=t) Un.refl I.hok
theorem Inv.kept {t':Nat} (I:Inv X pins σ H s) (k:∀ b u,s.heap.get? b=some u→h'.get? b=some u):Inv X pins σ H { s with heap:=h',toks:=t' }:=I.un (Un.kept k) (I.hok.kept k)
theorem Inv.laid {a:Addr}{o:HO}{t':Nat} (I:Inv X pins σ H s) (k:∀ b u,s.heap.get? b=some u→h'.get? b=some u) (hp:s.heap.objs.size≤a) (new:ObjOk X.prog X.w (upd H a o) h' a o) :
  Inv X pins σ (upd H a o) { s with heap:=h',toks:=t' }:=I.un (Un.laid k hp (I.hok.fresh hp)) (I.hok.laid k hp new)
theorem Inv.write {x e:Addr}{o:HO}{t':Nat} (I:Inv X pins σ H s) (mu:Mut (H x)) (he:e=x∨H e=some (.own x)) (k:∀ b u,b≠e→s.heap.get? b=some u→h'.get? b=some u) (heo:∃ u,h'.get? e=some u)
  (new:ObjOk X.prog X.w (upd H x o) h' x o):Inv X pins σ (upd H x o) { s with heap:=h',toks:=t' }:=I.un (Un.write mu he k heo) (I.hok.write mu he k heo new)
theorem Inv.pins_of {pins':List (Addr×Obj)} (I:Inv X pins σ H s) (h:∀ p∈pins',s.heap.get? p.1=some p.2∧H p.1=none∧p.1≠X.env.locals∧p.1∉X.fs∧∀ v,p.2.data≠.cell v):Inv X pins' σ H s :=
 ⟨I.ok,I.os,I.bare,I.base,I.loc,I.cell,I.free,I.freeC,fun p hp=>(List.mem_append.mp hp).elim (fun z=>I.pin p (Zu _ z)) (h p),I.hok,I.len⟩
theorem nodup_ix {N:List Str} (hN:N.Nodup) {i j:Nat}{x:Str} (a:N[i]? = some x) (b:N[j]? = some x):i=j:=by
 obtain ⟨h1,e1⟩:=List.getElem?_eq_some_iff.mp a;obtain ⟨h2,e2⟩:=List.getElem?_eq_some_iff.mp b;exact (List.getElem_inj hN).mp (e1.trans e2.symm)
theorem store_ok2 {M:Model}{A:Around}{E:Value→Shared→Prop}{i:Nat}{x:Str}{v:V}{u:Value}{Q:Unit→Shared→Prop} (I:Inv X pins σ H s) (hN:X.N.Nodup) (hi:X.N[i]? = some x) (hx:Loc X.env.scope x) (r:RelV v u)
  (h:∀ s',Inv X pins (σ.set i (some v)) H s'→(∃ a,Heap.SameBut a s.heap s'.heap∧(a=X.env.locals∨X.env.cells.lookup x=some a))→Q () s') (hf:X.fn x=true∨X.env.scope.names.lookup x=some .local:=by first | exact .inl rfl | exact .inr rfl | assumption):wpAny M A (storeName X.env x u) Q E s:=by
 obtain ⟨m,hn,hl⟩:=id I.loc;have hcls:(X.env.scope.kind == .class || (X.env.scope.kind == .module && X.env.locals != X.env.globals))=false:=by rw [I.ok.kind];rfl
 have hiσ : i < σ.length:=by rw [I.len];exact (List.getElem?_eq_some_iff.mp hi).1
 have cne:=I.cne;have tracked:∀ {a:Addr}{h':Heap},(∃ o,s.heap.get? a=some o∧H a=none)→Heap.SameBut a s.heap h'→HOk X.prog X.w H h':=fun {a h'} ha hs b ob e=>by
  obtain ⟨_,_,hfree⟩:=ha;refine (I.hok b ob e).stay (fun c w' hc q=>(hs.2 c ?_).trans q) (fun _ q=>q) fun _ _ q=>q;rintro rfl;rcases hc with rfl | hc
  ·rw [hfree] at e;cases e
  ·rw [hfree] at hc;cases hc
 rcases hx with hk | hk
 ·refine wpAny_storeName_local hk hn (fun h' hn' hs=>?_) hcls;obtain ⟨oL,_,_,hoL,_⟩:=id hn;refine h _ ⟨I.ok,I.os,I.bare,⟨fun b o e n hb hx=>?_,fun b o e n hb hx=>?_,I.base.free,fun b o e hx=>?_,I.base.tups,I.base.frzs,I.base.tbls⟩,⟨_,hn',fun j y v' e1 e2 e3=>?_⟩,fun y c e=>?_,I.free,I.freeC,fun p hp=>?_,tracked ⟨oL,hoL,I.free⟩ hs,by simpa using I.len⟩ ⟨_,hs,.inl rfl⟩
  ·exact (hs.2 b (Ze (Z9 (Z7 e) I.ok.above))).trans (I.base.keep b o e n hb hx)
  ·obtain ⟨sl,e1⟩:=I.base.slot b o e n hb hx;exact ⟨sl,(hs.2 b (Ze (Z9 (Z7 e) I.ok.above))).trans e1⟩
  ·obtain ⟨o',e1⟩:=I.base.there b o e hx;exact ⟨o',(hs.2 b (Ze (Z9 (Z7 e) I.ok.above))).trans e1⟩
  ·by_cases hj:j=i
   ·subst hj;rw [hi] at e1;cases e1;rw [List.getElem?_set_self hiσ] at e2;cases e2;exact ⟨u,r,.inl ⟨hk,by simp⟩⟩
   ·rw [List.getElem?_set_ne (Ne.symm hj)] at e2;obtain ⟨u',r',q⟩:=hl j y v' e1 e2 e3;refine ⟨u',r',?_⟩;rcases q with ⟨k,e⟩ | ⟨k,c,e,z⟩
    ·refine .inl ⟨k,?_⟩;have:y≠x:=fun e=>hj (nodup_ix hN e1 (e ▸ hi));simp [this,e]
    ·exact .inr ⟨k,c,e,z.sameBut hs (cne y c e)⟩
  ·obtain ⟨w',z⟩:=I.cell y c e;exact ⟨w',z.sameBut hs (cne y c e)⟩
  ·obtain ⟨e,n,ne,nf,d⟩:=I.pin p hp;exact ⟨(hs.2 p.1 ne).trans e,n,ne,nf,d⟩
 ·have hfn:X.fn x=true:=by
   rcases hf with z | z
   ·exact z
   ·rw [z] at hk;cases hk
  obtain ⟨c,hc⟩:=I.ok.has x (.inl hk);obtain ⟨w',z⟩:=I.cell x c hc;refine wpAny_storeName_cell I.ok.kind hk hc z (fun h' hc' hs=>?_);obtain ⟨oc,hoc,hocd⟩:=id z;refine h { s with heap:=h' } ⟨I.ok,I.os,I.bare,⟨fun b o e n hb hx=>?_,fun b o e n hb hx=>?_,I.base.free,fun b o e hx=>?_,I.base.tups,I.base.frzs,I.base.tbls⟩,⟨m,hn.sameBut hs (Ne.symm (cne x c hc)),fun j y v' e1 e2 e3=>?_⟩,fun y c' e=>?_,I.free,I.freeC,fun p hp=>?_,tracked ⟨oc,hoc,I.freeC x c hc⟩ hs,by simpa using I.len⟩ ⟨c,hs,.inr hc⟩
  ·exact (hs.2 b (Ze (Z9 (Z7 e) (I.ok.cab x c hfn hc)))).trans (I.base.keep b o e n hb hx)
  ·obtain ⟨sl,e1⟩:=I.base.slot b o e n hb hx;exact ⟨sl,(hs.2 b (Ze (Z9 (Z7 e) (I.ok.cab x c hfn hc)))).trans e1⟩
  ·obtain ⟨o',e1⟩:=I.base.there b o e hx;exact ⟨o',(hs.2 b (Ze (Z9 (Z7 e) (I.ok.cab x c hfn hc)))).trans e1⟩
  ·by_cases hj:j=i
   ·subst hj;rw [hi] at e1;cases e1;rw [List.getElem?_set_self hiσ] at e2;cases e2;exact ⟨u,r,.inr ⟨.inl hk,c,hc,hc'⟩⟩
   ·rw [List.getElem?_set_ne (Ne.symm hj)] at e2;obtain ⟨u',r',q⟩:=hl j y v' e1 e2 e3;refine ⟨u',r',?_⟩;rcases q with q | ⟨k,c',e,z'⟩
    ·exact .inl q
    ·refine .inr ⟨k,c',e,z'.sameBut hs ?_⟩;rintro rfl;exact hj (nodup_ix hN e1 (I.ok.inj _ _ _ e hc ▸ hi))
  ·by_cases hcc:c'=c
   ·subst hcc;exact ⟨_,hc'⟩
   ·obtain ⟨w2,z2⟩:=I.cell y c' e;exact ⟨w2,z2.sameBut hs hcc⟩
  ·obtain ⟨e,n,ne,nf,d⟩:=I.pin p hp;refine ⟨(hs.2 p.1 ?_).trans e,n,ne,nf,d⟩;intro q;rw [q,hoc] at e;have q':oc=p.2:=Zg e;exact d w' (by rw [← q'];exact hocd)
theorem store_ok {M:Model}{A:Around}{E:Value→Shared→Prop}{i:Nat}{x:Str}{v:V}{u:Value}{Q:Unit→Shared→Prop} (I:Inv X pins σ H s) (hN:X.N.Nodup) (hi:X.N[i]? = some x) (hx:Loc X.env.scope x) (r:RelV v u)
  (h:∀ s',Inv X pins (σ.set i (some v)) H s'→Q () s') (hf:X.fn x=true∨X.env.scope.names.lookup x=some .local:=by first | exact .inl rfl | exact .inr rfl | assumption):wpAny M A (storeName X.env x u) Q E s :=
 store_ok2 I hN hi hx r (fun s' I' _=>h s' I') hf
theorem Inv.call' {s':Shared}{ch:List Addr} (I:Inv X pins σ H s) (ho:s'.os=s.os) (u:Un (frs X.stack) ch H H' s.heap s'.heap) (hok:HOk X.prog X.w H' s'.heap) (hg:AllBare s'.gens)
  (hch:∀ b∈ch,(b∈X.ex∨X.s₀.heap.objs.size≤b)∧b≠X.env.locals∧(∀ x c,X.env.cells.lookup x=some c→c≠b)∧∀ p∈X.pn++pins,p.1≠b):Inv X pins σ H' s':=by
 obtain ⟨h',g',d',t',o'⟩:=s';have e:o'=s.os:=ho;subst e;exact I.call (g':=g') (t':=t') (d':=d') u hok hg hch
end
noncomputable abbrev XK:=Value→Option Addr→Hp→Prop
noncomputable abbrev St:=List (Option V)
noncomputable abbrev VK:=V→Hp→Prop
noncomputable abbrev TE:=St→Hp→VK→Prop
noncomputable abbrev TT:=St→Hp→(Bool→Hp→Prop)→Prop
noncomputable abbrev TA:=St→Hp→(List V→Hp→Prop)→Prop
structure Ends where
 nx:St→Hp→Prop
 rt:VK
 bk:St→Hp→Prop:=fun _ _=>False
 ct:St→Hp→Prop:=fun _ _=>False
noncomputable abbrev TS:=Ends→St→Hp→Prop
noncomputable def EP (X:Cx) (pins:List (Addr×Obj)) (σ : St) (Q:VK) (u:Value) (s':Shared):Prop:=∃ v H',Inv X pins σ H' s'∧RelV v u∧Q v H'
noncomputable def TP (X:Cx) (pins:List (Addr×Obj)) (σ : St) (Q:Bool→Hp→Prop) (b:Bool) (s':Shared):Prop:=∃ H',Inv X pins σ H' s'∧Q b H'
noncomputable def AP (X:Cx) (pins:List (Addr×Obj)) (σ : St) (Q:List V→Hp→Prop) (us:List Value) (s':Shared):Prop:=∃ vs H',Inv X pins σ H' s'∧Vals vs us∧Q vs H'
noncomputable def SP (X:Cx) (pins:List (Addr×Obj)) (D:Ends) (f:Flow) (s':Shared):Prop :=
 match f with
 | .next=>∃ σ' H',Inv X pins σ' H' s'∧D.nx σ' H'
 | .brk=>∃ σ' H',Inv X pins σ' H' s'∧D.bk σ' H'
 | .cont=>∃ σ' H',Inv X pins σ' H' s'∧D.ct σ' H'
 | .ret u=>∃ v σ' H',Inv X pins σ' H' s'∧RelV v u∧D.rt v H'
noncomputable def PE (X:Cx) (e:Expr) (t:TE):Prop :=
 ∀ (pins:List (Addr×Obj)) (s:Shared) (σ : St) (H:Hp) (Q:VK),Inv X pins σ H s→t σ H Q→wpAny (model X.prog X.w) X.A (eval e X.env) (EP X pins σ Q) X.xe s
noncomputable def PT (X:Cx) (e:Expr) (t:TT):Prop :=
 ∀ (pins:List (Addr×Obj)) (s:Shared) (σ : St) (H:Hp) (Q:Bool→Hp→Prop),Inv X pins σ H s→t σ H Q→wpAny (model X.prog X.w) X.A (isTrue e X.env (eval e X.env)) (TP X pins σ Q) X.xe s
noncomputable def PW (X:Cx) (e:Expr) (t:TT):Prop :=
 ∀ (whole:Sem Value) (pins:List (Addr×Obj)) (s:Shared) (σ : St) (H:Hp) (Q:Bool→Hp→Prop),Inv X pins σ H s→t σ H Q→wpAny (model X.prog X.w) X.A (isTrue e X.env whole) (TP X pins σ Q) X.xe s
theorem PW.pt {X:Cx}{e:Expr}{t:TT} (h:PW X e t):PT X e t:=h _
noncomputable def PA (X:Cx) (es:List Expr) (t:TA):Prop :=
 ∀ (pos:Pos) (pins:List (Addr×Obj)) (s:Shared) (σ : St) (H:Hp) (Q:List V→Hp→Prop),Inv X pins σ H s→t σ H Q→wpAny (model X.prog X.w) X.A (spliced (backTo pos (starEach es X.env))) (AP X pins σ Q) X.xe s
noncomputable def PS (X:Cx) (st:Stmt) (t:TS):Prop :=
 ∀ (pins:List (Addr×Obj)) (s:Shared) (σ : St) (H:Hp) (D:Ends),Inv X pins σ H s→t D σ H→wpAny (model X.prog X.w) X.A (exec st X.env) (SP X pins D) X.xe s
noncomputable def PSs (X:Cx) (st:List Stmt) (t:TS):Prop :=
 ∀ (pins:List (Addr×Obj)) (s:Shared) (σ : St) (H:Hp) (D:Ends),Inv X pins σ H s→t D σ H→wpAny (model X.prog X.w) X.A (execs st X.env) (SP X pins D) X.xe s
theorem thn {α : Type}{t:Sem α}{Q Q' : α→Shared→Prop}{M:Model}{A:Around}{E:Value→Shared→Prop}{s:Shared} (h:wpAny M A t Q E s) (hQ:∀ a s,Q a s→Q' a s):wpAny M A t Q' E s:=wpAny_mono h hQ fun _ _ x=>x
end L2
namespace L2
open PySem PySem.Spec PyProof.Rows
section
variable {X:Cx}
theorem bin {a b:Expr}{ta tb:TE} (ha:PE X a ta) (hb:PE X b tb) {pins:List (Addr×Obj)}{s:Shared}{σ : St}{H:Hp}{R:V→V→Hp→Prop} (I:Inv X pins σ H s) (h:ta σ H fun x H1=>tb σ H1 fun y H2=>R x y H2)
  {α : Type}{Q : α→Shared→Prop}{f:Value→Value→Sem α}
  (hf:∀ v u s2 x y H2,Inv X pins σ H2 s2→RelV x v→RelV y u→R x y H2→wpAny (model X.prog X.w) X.A (f v u) Q X.xe s2) :
  wpAny (model X.prog X.w) X.A (eval a X.env) (fun v s₁=>wpAny (model X.prog X.w) X.A (eval b X.env) (fun u s₂=>wpAny (model X.prog X.w) X.A (f v u) Q X.xe s₂) X.xe s₁) X.xe s:=by
 refine thn (ha pins s σ H _ I h) fun v s1 ⟨x,H1,I1,r1,q1⟩=>?_;refine thn (hb pins s1 σ H1 _ I1 q1) fun u s2 ⟨y,H2,I2,r2,q2⟩=>?_;exact hf v u s2 x y H2 I2 r1 r2 q2
noncomputable def tVar (i:Nat):TE:=fun σ H Q=>∃ v,σ[i]? = some (some v)∧Q v H
noncomputable def tC (v:V):TE:=fun _ H Q=>Q v H
theorem pe_var {i:Nat}{x:Str}{pos:Pos} (hN:X.N[i]? = some x) (hv:Vis X.env.scope x) (hd:(x == ("__debug__" : Str))=false:=by decide) (hcd:(x == ("__classdict__" : Str))=false:=by decide):PE X (.Name x pos) (tVar i):=by
 intro pins s σ H Q I h;obtain ⟨v,e,h⟩:=h;obtain ⟨m,hn,hl⟩:=I.loc;obtain ⟨u,r,l⟩:=hl i x v hN e hv;have fin:EP X pins σ Q u s:=⟨v,H,I,r,h⟩;rcases l with ⟨hk,hm⟩ | ⟨hk,c,hc,hcell⟩
 ·exact wpAny_Name (wpAny_loadName_local I.ok.kind hk hn hm fin) hd
 ·rcases hk with hk | hk
  ·exact wpAny_Name (wpAny_loadName_cell I.ok.kind hk hc hcell fin) hd
  ·exact wpAny_Name (wpAny_loadName_free I.ok.kind hk hc hcell fin hcd) hd
theorem zAa {i j pos}:PE X (.Constant (.int i) j pos) (tC (.int i)):=fun _ _ _ H _ I h=>wpAny_Constant_int ⟨.int i,H,I.tok _,⟨_,rfl⟩,h⟩
theorem zCh {b j pos}:PE X (.Constant (.bool b) j pos) (tC (.bl b)):=fun _ _ _ H _ I h=>Constant_bool ⟨.bl b,H,I,rfl,h⟩
theorem zDt {j pos}:PE X (.Constant .none j pos) (tC .non):=fun _ _ _ H _ I h=>Constant_none ⟨.non,H,I,rfl,h⟩
theorem zBv {x j pos}:PE X (.Constant (.str x) j pos) (tC (.str x)):=fun _ _ _ H _ I h=>Calls.Constant_str ⟨.str x,H,I.tok _,⟨_,rfl⟩,h⟩
noncomputable def Gl (X:Cx) (x:Str):Prop:=X.env.kindOf x=some .globalImplicit
theorem zCt {E:Value→Shared→Prop}{pins:List (Addr×Obj)}{s:Shared}{σ : St}{H:Hp}{x:Str}{u:Value}{pos:Pos}{Q:Value→Shared→Prop} (I:Inv X pins σ H s) (hg:Gl X x) (hm:X.mg x=some u) (h:Q u s)
  (hd:(x == ("__debug__" : Str))=false:=by decide):wpAny (model X.prog X.w) X.A (eval (.Name x pos) X.env) Q E s :=
 Calls.Name_function_global I.ok.kind hg (Calls.loadGlobal_global (by rw [I.ok.glob];exact I.mod.glob.keeps I.bk) hm h) hd
theorem zDu {E:Value→Shared→Prop}{pins:List (Addr×Obj)}{s:Shared}{σ : St}{H:Hp}{x:Str}{u:Value}{pos:Pos}{Q:Value→Shared→Prop} (I:Inv X pins σ H s) (hg:Gl X x) (hm:X.mg x=none) (hv:bootBuiltins x=some u) (h:Q u s)
  (hn:x≠"__name__":=by decide) (hd:(x == ("__debug__" : Str))=false:=by decide):wpAny (model X.prog X.w) X.A (eval (.Name x pos) X.env) Q E s:=by
 obtain ⟨mb,h1,h2⟩:=I.mod.blt;exact Calls.Name_function_global I.ok.kind hg (Calls.loadGlobal_builtin (by rw [I.ok.glob];exact I.mod.glob.keeps I.bk) hm (by rw [I.ok.blt];exact h1.keeps I.bk) ((h2 x hn).trans hv) h) hd
theorem zBk {x:Str}{v:V}{u:Value}{pos:Pos} (hg:Gl X x) (hm:X.mg x=some u) (r:RelV v u) (hd:(x == ("__debug__" : Str))=false:=by decide):PE X (.Name x pos) (tC v) :=
 fun _ _ _ H _ I h=>zCt I hg hm ⟨v,H,I,r,h⟩ hd
theorem zBa {x:Str}{v:V}{u:Value}{pos:Pos} (hg:Gl X x) (hm:X.mg x=none) (hv:bootBuiltins x=some u) (r:RelV v u) (hn:x≠"__name__":=by decide) (hd:(x == ("__debug__" : Str))=false:=by decide):PE X (.Name x pos) (tC v) :=
 fun _ _ _ H _ I h=>zDu I hg hm hv ⟨v,H,I,r,h⟩ hn hd
variable {a b:Expr}{ta tb:TE}{pos:Pos}
noncomputable def PC (X:Cx) (op:CmpOp) (a b:Expr) (t:TE):Prop :=
 ∀ (pins:List (Addr×Obj)) (s:Shared) (σ : St) (H:Hp) (Q:VK),Inv X pins σ H s→t σ H Q →
  wpAny (model X.prog X.w) X.A (eval a X.env) (fun v s₁=>wpAny (model X.prog X.w) X.A (eval b X.env) (fun u s₂=>wpAny (model X.prog X.w) X.A (compareOp op v u) (EP X pins σ Q) X.xe s₂) X.xe s₁) X.xe s
theorem nobehind (b:Expr) {op:CmpOp} (h:op≠.In) (h2:op≠.NotIn):behindInMarks op b=false:=by
 have e1:(op == CmpOp.In)=false:=by cases op <;> first | rfl | exact absurd rfl h
 have e2:(op == CmpOp.NotIn)=false:=by cases op <;> first | rfl | exact absurd rfl h2
 cases b <;> simp [behindInMarks,e1,e2]
noncomputable def tIsN (ta:TE):TE:=fun σ H Q=>ta σ H fun x H1=>Q (.bl (decide (x=.non))) H1
noncomputable def tNotN (ta:TE):TE:=fun σ H Q=>ta σ H fun x H1=>Q (.bl (!decide (x=.non))) H1
theorem RelV.none_iff {x:V}{v:Value} (r:RelV x v):(v == Value.none)=decide (x=.non):=by
 cases x with
 | non=>cases r;rfl
 | bl _=>cases r;rfl
 | int _=>obtain ⟨t,rfl⟩:=r;rfl
 | str _=>obtain ⟨t,rfl⟩:=r;rfl
 | byt _=>obtain ⟨t,rfl⟩:=r;rfl
 | flt _=>obtain ⟨t,rfl⟩:=r;rfl
 | ref _=>cases r;rfl
 | ty _=>cases r;rfl
theorem pc_isN {j pos'} (ha:PE X a ta):PC X .Is a (.Constant .none j pos') (tIsN ta):=by
 intro pins s σ H Q I h;refine thn (ha pins s σ H _ I h) fun v s1 ⟨x,H1,I1,r1,q1⟩=>?_;exact Constant_none (is_none_gen ⟨.bl _,H1,I1,by rw [r1.none_iff];rfl,q1⟩)
theorem zE8 {j pos'} (ha:PE X a ta):PC X .IsNot a (.Constant .none j pos') (tNotN ta):=by
 intro pins s σ H Q I h;refine thn (ha pins s σ H _ I h) fun v s1 ⟨x,H1,I1,r1,q1⟩=>?_;exact Constant_none (isnot_none_gen ⟨.bl _,H1,I1,by rw [r1.none_iff];rfl,q1⟩)
noncomputable def tB (t:TE):TT:=fun σ H Q=>t σ H fun x H1=>∃ c,x=.bl c∧Q c H1
theorem zC6 {op:CmpOp}{t:TE} (h:PC X op a b t) (h1:behindInMarks op b=false:=by first | exact nobehind _ (by decide) (by decide) | rfl):PT X (.Compare a [op] [b] pos) (tB t):=by
 intro pins s σ H Q I hw;refine wpAny_isTrue_Compare1 (thn (h pins s σ H _ I hw) fun v s1 h1=>thn h1 fun u s2 h2=>thn h2 fun c s3 ⟨x,H1,I1,r1,q1⟩=>?_) h1;obtain ⟨d,rfl,q⟩:=q1;cases r1;exact wpAny_truthy_bool ⟨H1,I1,q⟩
theorem zAr {e:Expr}{t:TE} (h:PE X e t) (he:∀ whole,isTrue e X.env whole=(do let v ← whole;standAt e.pos;holding [v] (truthy v)):=by intro _;rfl):PT X e (tB t):=by
 intro pins s σ H Q I hw;refine isTrue_plain (thn (h pins s σ H _ I hw) fun v s1 ⟨x,H1,I1,r1,q1⟩=>?_) (he _);obtain ⟨d,rfl,q⟩:=q1;cases r1;exact wpAny_truthy_bool ⟨H1,I1,q⟩
variable {tA tB':TT}{rest:List Expr}
noncomputable def tAnd (t u:TT):TT:=fun σ H Q=>t σ H fun c H1=>if c=true then u σ H1 Q else Q false H1
noncomputable def tOr (t u:TT):TT:=fun σ H Q=>t σ H fun c H1=>if c=true then Q true H1 else u σ H1 Q
noncomputable def tNot (t:TT):TT:=fun σ H Q=>t σ H fun c H1=>Q (!c) H1
theorem zE2 (ha:PT X a tA):PW X (.BoolOp .And [a] pos) tA:=by
 intro wh pins s σ H Q I h;refine isTrue_and (thn (ha pins s σ H Q I h) fun c s1 e=>?_);cases c with
 | true=>exact isTrue_and_nil e
 | false=>exact e
theorem zBt (ha:PT X a tA):PW X (.BoolOp .Or [a] pos) tA:=by
 intro wh pins s σ H Q I h;refine isTrue_or (thn (ha pins s σ H Q I h) fun c s1 e=>?_);cases c with
 | false=>exact isTrue_or_nil e
 | true=>exact e
theorem pw_and (ha:PT X a tA) (hb:PW X (.BoolOp .And (b :: rest) pos) tB'):PW X (.BoolOp .And (a :: b :: rest) pos) (tAnd tA tB'):=by
 intro wh pins s σ H Q I h;refine isTrue_and (thn (ha pins s σ H _ I h) fun c s1 ⟨H1,I1,q1⟩=>?_);cases c with
 | true=>exact hb wh pins s1 σ H1 Q I1 q1
 | false=>exact ⟨H1,I1,q1⟩
theorem zCo (ha:PT X a tA) (hb:PW X (.BoolOp .Or (b :: rest) pos) tB'):PW X (.BoolOp .Or (a :: b :: rest) pos) (tOr tA tB'):=by
 intro wh pins s σ H Q I h;refine isTrue_or (thn (ha pins s σ H _ I h) fun c s1 ⟨H1,I1,q1⟩=>?_);cases c with
 | true=>exact ⟨H1,I1,q1⟩
 | false=>exact hb wh pins s1 σ H1 Q I1 q1
theorem zAs (ha:PT X a tA):PT X (.UnaryOp .Not a pos) (tNot tA):=by
 intro pins s σ H Q I h;exact isTrue_not (ha pins s σ H (fun c H1=>Q (!c) H1) I h)
noncomputable def tAndV (ta tb:TE):TE:=fun σ H Q=>ta σ H fun x H1=>∃ c,x=.bl c∧if c=true then tb σ H1 Q else Q (.bl false) H1
theorem zCy {op}{t:TE} (h:PE X a t):PE X (.BoolOp op [a] pos) t:=fun pins s σ H Q I hw=>BoolOp_one (h pins s σ H Q I hw)
theorem zC8 (ha:PE X a ta) (hb:PE X (.BoolOp .And (b :: rest) pos) tb):PE X (.BoolOp .And (a :: b :: rest) pos) (tAndV ta tb):=by
 intro pins s σ H Q I h;refine BoolOp_and (thn (ha pins s σ H _ I h) fun v s1 ⟨x,H1,I1,r1,q1⟩=>?_);obtain ⟨c,rfl,q1⟩:=q1;cases r1;refine wpAny_truthy_bool ?_;cases c with
 | true=>exact hb pins s1 σ H1 Q I1 q1
 | false=>exact ⟨.bl false,H1,I1,rfl,q1⟩
noncomputable def tIf (t:TT) (ta tb:TE):TE:=fun σ H Q=>t σ H fun c H1=>if c=true then ta σ H1 Q else tb σ H1 Q
theorem zE6 {c:Expr} (hc:PT X c tA) (ha:PE X a ta) (hb:PE X b tb):PE X (.IfExp c a b pos) (tIf tA ta tb):=by
 intro pins s σ H Q I h;refine wpAny_IfExp (thn (hc pins s σ H _ I h) fun d s1 ⟨H1,I1,q1⟩=>?_);cases d with
 | true=>exact ha pins s1 σ H1 Q I1 q1
 | false=>exact hb pins s1 σ H1 Q I1 q1
end
end L2
namespace L2
open PySem PySem.Spec PyProof.Rows
noncomputable def SqL (K:PySem.W.Frag) (H:Hp) (a:Addr) (xs:List V):Prop :=
 Rd H a (.lst xs) ∨
  ∃ (o:Obj) (its:Array Value) (n:Nat),K.lookup a=some o∧o.cls=.type "list"∧o.dict=none∧o.data=.seq its n∧its.size≤sizeLine∧Vals xs its.toList
noncomputable def SqT (K:PySem.W.Frag) (H:Hp) (a:Addr) (xs:List V):Prop :=
 Rd H a (.tup xs) ∨
  ∃ (o:Obj) (its:Array Value) (n:Nat),K.lookup a=some o∧o.cls=.type "tuple"∧o.data=.seq its n∧its.size≤sizeLine∧Vals xs its.toList
noncomputable def absV:Value→Option V
 | .none=>some .non
 | .bool b=>some (.bl b)
 | .int i _=>some (.int i)
 | .str x _=>some (.str x)
 | .bytes b _=>some (.byt b)
 | .float b _=>some (.flt b)
 | .ref a=>some (.ref a)
 | .type n=>some (.ty n)
 | _=>none
theorem RelV.abs {x:V}{u:Value} (r:RelV x u):absV u=some x:=by
 cases x with
 | non=>cases r;rfl
 | bl _=>cases r;rfl
 | int _=>obtain ⟨t,rfl⟩:=r;rfl
 | str _=>obtain ⟨t,rfl⟩:=r;rfl
 | byt _=>obtain ⟨t,rfl⟩:=r;rfl
 | flt _=>obtain ⟨t,rfl⟩:=r;rfl
 | ref _=>cases r;rfl
 | ty _=>cases r;rfl
theorem RelV.inj {x y:V}{u:Value} (r:RelV x u) (q:RelV y u):x=y:=Zg (r.abs.symm.trans q.abs)
theorem Vals.inj:∀ {xs ys:List V}{us:List Value},Vals xs us→Vals ys us→xs=ys
 | _,_,_,.nil,.nil=>rfl
 | _,_,_,.cons r t,.cons r' t'=>by rw [r.inj r',Vals.inj t t']
section
variable {X:Cx}{pins:List (Addr×Obj)}{σ : St}{H:Hp}{s:Shared}{a:Addr}{xs ys:List V}
theorem SqL.of {K:PySem.W.Frag} (h:H a=some (.lst xs)):SqL K H a xs:=.inl (.inl h)
theorem SqT.of {K:PySem.W.Frag} (h:H a=some (.tup xs)):SqT K H a xs:=.inl (.inl h)
theorem Inv.list (I:Inv X pins σ H s) (h:SqL X.K H a xs):∃ its:List Value,Vals xs its∧PlainL s.heap a its.toArray∧xs.length≤sizeLine:=by
 rcases h with h | ⟨o,its,n,hk,hc,hd,hs,hz,r⟩
 ·obtain ⟨z,its,n,r,e⟩:=h.ok I.hok;exact ⟨its,r,⟨_,n,e,rfl,rfl,rfl⟩,z⟩
 ·refine ⟨its.toList,r,⟨o,n,I.kIn a o hk,hc,hd,by simpa using hs⟩,?_⟩;have e:=r.length;simp only [Yf] at e;omega
theorem Inv.tuple (I:Inv X pins σ H s) (h:SqT X.K H a xs):∃ its:List Value,Vals xs its∧IsTup s.heap a its.toArray∧xs.length≤sizeLine:=by
 rcases h with h | ⟨o,its,n,hk,hc,hs,hz,r⟩
 ·obtain ⟨z,its,r,p⟩:=h.ok I.hok;exact ⟨its,r,p,z⟩
 ·refine ⟨its.toList,r,⟨o,I.kIn a o hk,hc,n,by simpa using hs⟩,?_⟩;have e:=r.length;simp only [Yf] at e;omega
theorem Inv.list_inj (I:Inv X pins σ H s) (h:SqL X.K H a xs) (h':SqL X.K H a ys):xs=ys:=by
 obtain ⟨its,r,⟨o,n,e,_,_,d⟩,_⟩:=I.list h;obtain ⟨its',r',⟨o',n',e',_,_,d'⟩,_⟩:=I.list h';rw [e] at e';cases e';rw [d] at d';injection d' with d1 _;have:its=its':=by simpa using congrArg Array.toList d1
 subst this;exact r.inj r'
end
noncomputable abbrev Cx.wish (X:Cx) (E:Value→Shared→Prop):Cx:={ X with xe:=E }
noncomputable abbrev Cx.nox (X:Cx):Cx:=X.wish fun _ _=>False
theorem Cx.Ok.wish {X:Cx} (ok:X.Ok) (E:Value→Shared→Prop):(X.wish E).Ok :=
 ⟨ok.mod,ok.kind,ok.glob,ok.blt,ok.above,ok.inj,ok.has,ok.cab,ok.hd,ok.frames,ok.stk,ok.exf,ok.bs,ok.bsz,ok.noex,ok.exfs,ok.funs,ok.frf⟩
theorem Cx.Ok.unwish {X:Cx}{E:Value→Shared→Prop} (ok:(X.wish E).Ok):X.Ok :=
 ⟨ok.mod,ok.kind,ok.glob,ok.blt,ok.above,ok.inj,ok.has,ok.cab,ok.hd,ok.frames,ok.stk,ok.exf,ok.bs,ok.bsz,ok.noex,ok.exfs,ok.funs,ok.frf⟩
section
variable {X:Cx}{pins:List (Addr×Obj)}{σ : St}{H:Hp}{s:Shared}{E:Value→Shared→Prop}
theorem Inv.wish (I:Inv X pins σ H s) (E:Value→Shared→Prop):Inv (X.wish E) pins σ H s:=⟨I.ok.wish E,I.os,I.bare,I.base,I.loc,I.cell,I.free,I.freeC,I.pin,I.hok,I.len⟩
theorem Inv.unwish (I:Inv (X.wish E) pins σ H s):Inv X pins σ H s:=⟨I.ok.unwish,I.os,I.bare,I.base,I.loc,I.cell,I.free,I.freeC,I.pin,I.hok,I.len⟩
theorem SP.unwish {D:Ends}{f:Flow}{s':Shared} (h:SP (X.wish E) pins D f s'):SP X pins D f s':=by
 cases f with
 | next=>obtain ⟨σ',H',I,q⟩:=h;exact ⟨σ',H',I.unwish,q⟩
 | brk=>obtain ⟨σ',H',I,q⟩:=h;exact ⟨σ',H',I.unwish,q⟩
 | cont=>obtain ⟨σ',H',I,q⟩:=h;exact ⟨σ',H',I.unwish,q⟩
 | ret u=>obtain ⟨v,σ',H',I,r,q⟩:=h;exact ⟨v,σ',H',I.unwish,r,q⟩
theorem PE.nox {e:Expr}{t:TE} (h:PE X.nox e t):PE X e t:=fun pins s σ H Q I hw =>
 wpAny_mono (h pins s σ H Q (I.wish _) hw) (fun _ _ ⟨v,H',I',r,q⟩=>⟨v,H',I'.unwish,r,q⟩) fun _ _ z=>False.elim z
theorem PT.nox {e:Expr}{t:TT} (h:PT X.nox e t):PT X e t:=fun pins s σ H Q I hw =>
 wpAny_mono (h pins s σ H Q (I.wish _) hw) (fun _ _ ⟨H',I',q⟩=>⟨H',I'.unwish,q⟩) fun _ _ z=>False.elim z
theorem PSs.nox {st:List Stmt}{t:TS} (h:PSs X.nox st t):PSs X st t:=fun pins s σ H D I hw =>
 wpAny_mono (h pins s σ H D (I.wish _) hw) (fun _ _ q=>q.unwish) fun _ _ z=>False.elim z
end
section
variable {X:Cx}{st:Stmt}{rest:List Stmt}{t u:TS}{e:Expr}{te:TE}{pos:Pos}
noncomputable def tNext:TS:=fun D σ H=>D.nx σ H
noncomputable def tSeq (t u:TS):TS:=fun D σ H=>t { D with nx:=u D } σ H
theorem zAf:PSs X [] tNext:=fun _ _ σ H _ I h=>wpAny_execs_nil ⟨σ,H,I,h⟩
theorem zA2 (h1:PS X st t) (h2:PSs X rest u):PSs X (st :: rest) (tSeq t u):=by
 intro pins s σ H D I h;refine wpAny_execs_cons (thn (h1 pins s σ H { D with nx:=u D } I h) fun f s1 q=>?_);cases f with
 | next =>
  obtain ⟨σ',H',I',q⟩:=q;exact h2 pins s1 σ' H' D I' q
 | ret v=>exact q
 | brk=>exact q
 | cont=>exact q
theorem zA6 (h1:PS X st t):PSs X [st] t:=by
 intro pins s σ H D I h;refine wpAny_execs_cons (thn (h1 pins s σ H D I h) fun f s1 q=>?_);cases f with
 | next=>exact wpAny_execs_nil q
 | ret v=>exact q
 | brk=>exact q
 | cont=>exact q
theorem Inv.quiet {pins:List (Addr×Obj)}{σ : St}{H:Hp}{s:Shared} (I:Inv X pins σ H s):interactive X.env=false:=by simp [interactive,I.ok.kind]
noncomputable def tDrop (te:TE):TS:=fun D σ H=>te σ H fun _ H1=>D.nx σ H1
theorem zBx (he:PE X e te) (hs:swapsWith e none pos.line X.env=pure false:=by rfl):PS X (.Expr e pos) (tDrop te):=by
 intro pins s σ H D I h;exact wpAny_Expr_any (thn (he pins s σ H _ I h) fun v s1 ⟨x,H1,I1,r1,q1⟩=>⟨σ,H1,I1,q1⟩) I.quiet hs
noncomputable def tRet (te:TE):TS:=fun D σ H=>te σ H D.rt
theorem zAj (he:PE X e te):PS X (.Return (some e) pos) (tRet te):=by
 intro pins s σ H D I h;exact wpAny_Return_some (thn (he pins s σ H _ I h) fun v s1 ⟨x,H1,I1,r1,q1⟩=>⟨x,σ,H1,I1,r1,q1⟩)
noncomputable def tIfS (c:TT) (t u:TS):TS:=fun D σ H=>c σ H fun b H1=>if b=true then t D σ H1 else u D σ H1
theorem zB1 {c:Expr}{a b:List Stmt}{tc:TT} (hc:PT X c tc) (ha:PSs X a t) (hb:PSs X b u):PS X (.If c a b pos) (tIfS tc t u):=by
 intro pins s σ H D I h;refine wpAny_If (thn (hc pins s σ H _ I h) fun d s1 ⟨H1,I1,q1⟩=>?_);cases d with
 | true=>exact ha pins s1 σ H1 D I1 q1
 | false=>exact hb pins s1 σ H1 D I1 q1
noncomputable def tNever:TS:=fun _ _ _=>False
theorem zAk {sts:List Stmt}:PSs X sts tNever:=fun _ _ _ _ _ _ h=>h.elim
end
noncomputable abbrev TG:=V→St→Hp→(St→Hp→Prop)→Prop
noncomputable abbrev TGs:=List V→St→Hp→(St→Hp→Prop)→Prop
noncomputable def PG (X:Cx) (target:Expr) (t:TG):Prop :=
 ∀ (pins:List (Addr×Obj)) (s:Shared) (σ : St) (H:Hp) (v:V) (u:Value) (Q:St→Hp→Prop),Inv X pins σ H s→RelV v u→t v σ H Q →
  wpAny (model X.prog X.w) X.A (assign target X.env u) (fun _ s'=>∃ σ' H',Inv X pins σ' H' s'∧Q σ' H') X.xe s
noncomputable def PGs (X:Cx) (ts:List Expr) (t:TGs):Prop :=
 ∀ (pins:List (Addr×Obj)) (s:Shared) (σ : St) (H:Hp) (vs:List V) (us:List Value) (Q:St→Hp→Prop),Inv X pins σ H s→Vals vs us→t vs σ H Q →
  wpAny (model X.prog X.w) X.A (assignInOrder ((assignEach ts X.env).map (·.2)) us) (fun _ s'=>∃ σ' H',Inv X pins σ' H' s'∧Q σ' H') X.xe s
noncomputable abbrev TSet:=V→V→V→Hp→(Hp→Prop)→Prop
noncomputable def PSet (X:Cx) (t:TSet):Prop :=
 ∀ (pins:List (Addr×Obj)) (s:Shared) (σ : St) (H:Hp) (o i v:V) (ov iv u:Value) (Q:Hp→Prop),Inv X pins σ H s→RelV o ov→RelV i iv→RelV v u→t o i v H Q →
  wpAny (model X.prog X.w) X.A (setItem ov iv u) (fun _ s'=>∃ H',Inv X pins σ H' s'∧Q H') X.xe s
section
variable {X:Cx}{pos:Pos}
noncomputable def gName (i:Nat):TG:=fun v σ H Q=>Q (σ.set i (some v)) H
theorem zA8 {i:Nat}{x:Str} (hN:X.N.Nodup) (hi:X.N[i]? = some x) (hx:Loc X.env.scope x) (hf:X.fn x=true∨X.env.scope.names.lookup x=some .local:=by first | exact .inl rfl | exact .inr rfl | assumption):PG X (.Name x pos) (gName i):=by
 intro pins s σ H v u Q I r h;exact wpAny_assign_Name (store_ok I hN hi hx r (fun s' I'=>⟨_,H,I',h⟩) hf)
noncomputable def gNil:TGs:=fun vs σ H Q=>vs=[]∧Q σ H
noncomputable def gCons (t:TG) (u:TGs):TGs:=fun vs σ H Q=>∃ v r,vs=v :: r∧t v σ H fun σ' H'=>u r σ' H' Q
theorem zBy:PGs X [] gNil:=by
 intro pins s σ H vs us Q I r h;obtain ⟨e,h⟩:=h;subst e;cases r;exact assignInOrder_nil ⟨σ,H,I,h⟩
theorem zAu {e:Expr}{es:List Expr}{t:TG}{u:TGs} (h1:PG X e t) (h2:PGs X es u)
  (hs:(assignEach (e :: es) X.env).map (·.2)=assign e X.env :: (assignEach es X.env).map (·.2):=by rfl):PGs X (e :: es) (gCons t u):=by
 intro pins s σ H vs us Q I r h;obtain ⟨v,vr,e1,h⟩:=h;subst e1;cases r with
 | cons r rr =>
  rw [hs];refine assignInOrder_cons (thn (h1 pins s σ H _ _ _ I r h) fun _ s1 ⟨σ1,H1,I1,q1⟩=>?_);exact h2 pins s1 σ1 H1 _ _ Q I1 rr q1
noncomputable def gTup (K:PySem.W.Frag) (n:Nat) (t:TGs):TG:=fun v σ H Q=>∃ a xs,v=.ref a∧SqT K H a xs∧xs.length=n∧t xs σ H Q
theorem pg_tup {es:List Expr}{k:Nat}{t:TGs}{n:Nat} (hc:X.calm=true) (h:PGs X es t)
  (hn:(assignEach es X.env).length=n:=by rfl) (hst:(assignEach es X.env).findIdx? (·.1)=none:=by rfl):PG X (.Tuple es k pos) (gTup X.K n t):=by
 intro pins s σ H v u Q I r hw;obtain ⟨a,xs,e1,hq,hl,hw⟩:=hw;subst e1;cases r;obtain ⟨its,rv,ht,hz⟩:=I.tuple hq;refine assign_Tuple_tuple (I.ok.hd hc) ht (by simp [hn,← hl,rv.length]) hst fun h' hx=>?_;have I1:Inv X pins σ H { s with heap:=h' }:=I.kept (t':=s.toks) fun b o e=>hx b o (Ze (Z7 e)) e;exact h pins _ σ H xs _ Q I1 (by simpa using rv) hw
noncomputable def gSub (to ti:TE) (t:TSet):TG:=fun v σ H Q=>to σ H fun o H1=>ti σ H1 fun i H2=>t o i v H2 fun H3=>Q σ H3
theorem pg_sub {o i:Expr}{to ti:TE}{t:TSet} (ho:PE X o to) (hi:PE X i ti) (hs:PSet X t)
  (ha:∀ v,assign (.Subscript o i pos) X.env v=(do
   let ov ← holding [v] (eval o X.env)
   let iv ← holding [v,ov] (eval i X.env)
   standAt pos
   holding [v,ov,iv] (setItem ov iv v)
   release [v,ov,iv] []):=by intro _;rfl):PG X (.Subscript o i pos) (gSub to ti t):=by
 intro pins s σ H v u Q I r h;rw [ha];refine wpAny_bind (wpAny_holding (thn (ho pins s σ H _ I h) fun ov s1 ⟨x,H1,I1,r1,q1⟩=>?_));refine wpAny_bind (wpAny_holding (thn (hi pins s1 σ H1 _ I1 q1) fun iv s2 ⟨y,H2,I2,r2,q2⟩=>?_));refine wpAny_bind (wpAny_standAt (wpAny_bind (wpAny_holding (thn (hs pins s2 σ H2 x y v ov iv u _ I2 r1 r2 r q2) fun _ s3 ⟨H3,I3,q3⟩=>?_))));exact wpAny_release ⟨σ,H3,I3,q3⟩
noncomputable def tAsg (te:TE) (g:TG):TS:=fun D σ H=>te σ H fun x H1=>g x σ H1 D.nx
theorem ps_asg {tg e:Expr}{te:TE}{g:TG} (he:PE X e te) (hg:PG X tg g) (hs:swapsWithSole [tg] e pos.line X.env=pure false:=by rfl) (hw:swappedStores [tg] e X.env=pure none:=by rfl)
  (h1:(assignEach [tg] X.env).map (·.2)=[assign tg X.env]:=by rfl):PS X (.Assign [tg] e pos) (tAsg te g):=by
 intro pins s σ H D I h;refine wpAny_Assign_stores (thn (he pins s σ H _ I h) fun v s1 ⟨x,H1,I1,r1,q1⟩=>?_) hs hw;rw [h1];exact thn (hg pins s1 σ H1 x v _ I1 r1 q1) fun _ s2 q=>q
theorem zAh {i:Nat}{x:Str}{e:Expr}{te:TE}{pos':Pos} (hN:X.N.Nodup) (hi:X.N[i]? = some x) (hx:Loc X.env.scope x) (he:PE X e te) (hs:swapsWith e (some (.Name x pos')) pos.line X.env=pure false:=by rfl) (hf:X.fn x=true∨X.env.scope.names.lookup x=some .local:=by first | exact .inl rfl | exact .inr rfl | assumption) :
  PS X (.Assign [.Name x pos'] e pos) (tAsg te (gName i)):=by
 intro pins s σ H D I h;refine wpAny_Assign_Name (thn (he pins s σ H _ I h) fun v s1 ⟨y,H1,I1,r1,q1⟩=>?_) hs;exact store_ok I1 hN hi hx r1 (fun s2 I2=>⟨_,H1,I2,q1⟩) hf
end
section
variable {X:Cx}{pos:Pos}
noncomputable def tWhile (c:TT) (tb:TS):TS:=fun D σ H=>∃ W:Nat→St→Hp→Prop,(∃ m,W m σ H)∧∀ m σ H,W m σ H →
 c σ H fun b H1=>if b=true then ∃ N:St→Hp→Prop,(∀ σ' H',N σ' H'→∃ m',m' < m∧W m' σ' H')∧tb { D with nx:=N,ct:=N,bk:=D.nx } σ H1 else D.nx σ H1
theorem zCc {c:Expr}{body:List Stmt}{tc:TT}{tb:TS} (hp:PassesOwn (model X.prog X.w) X.A X.env X.xe) (hc:PT X c tc) (hb:PSs X body tb):PS X (.While c body [] pos) (tWhile tc tb):=by
 intro pins s σ H D I h;obtain ⟨W,⟨m0,w0⟩,turn⟩:=h;refine wpAny_While (codeAny_whileLoop (fun n s'=>∃ σ' H',Inv X pins σ' H' s'∧W n σ' H') ?_ m0 ⟨σ,H,I,w0⟩);rintro n s1 ⟨σ1,H1,I1,w1⟩;refine wpAny_passesOwn hp (thn (hc pins s1 σ1 H1 _ I1 (turn n σ1 H1 w1)) fun b s2 ⟨H2,I2,q2⟩=>?_);cases b with
 | true =>
  obtain ⟨N,hN,q2⟩:=q2;rw [if_pos rfl];refine wpAny_passesOwn hp (thn (hb pins s2 σ1 H2 _ I2 q2) fun f s3 q3=>?_);cases f with
  | next =>
   obtain ⟨σ3,H3,I3,n3⟩:=q3;obtain ⟨m',hm,w3⟩:=hN σ3 H3 n3;exact ⟨m',hm,σ3,H3,I3,w3⟩
  | cont =>
   obtain ⟨σ3,H3,I3,n3⟩:=q3;obtain ⟨m',hm,w3⟩:=hN σ3 H3 n3;exact ⟨m',hm,σ3,H3,I3,w3⟩
  | brk=>exact q3
  | ret v=>exact q3
 | false =>
  rw [if_neg Z3];exact wpAny_execs_nil ⟨σ1,H2,I2,q2⟩
end
structure It where
 go:Nat→Hp→Prop
 yld:Nat→Hp→V→Hp→Prop
 stop:Nat→Hp→Prop
noncomputable def FpOk (X:Cx) (pins:List (Addr×Obj)) (H:Hp) (b:Addr):Prop :=
 H b=none∧b≠X.env.locals∧b∉X.fs∧(b∈X.ex∨X.s₀.heap.objs.size≤b)∧(∀ x c,X.env.cells.lookup x=some c→c≠b)∧∀ p∈X.pn++pins,p.1≠b
theorem Inv.fpOk {X:Cx}{pins:List (Addr×Obj)}{σ : St}{H H':Hp}{s:Shared}{b:Addr} (I:Inv X pins σ H s) (hb:s.heap.objs.size≤b) (hn:H' b=none):FpOk X pins H' b:=by
 refine ⟨hn,Nat.ne_of_gt (Z9 I.lt hb),I.nofs hb,.inr (Zp I.sz hb),fun x c e z=>?_,fun p hp z=>?_⟩
 ·obtain ⟨v,q⟩:=I.cell x c e;exact absurd (Z9 q.lt (by rw [z];exact hb)) (Y2 _)
 ·exact absurd (Z9 (Z7 (I.pin p hp).1) (by rw [z];exact hb)) (Y2 _)
structure Turn (P:Program) (w:World) (K:PySem.W.Frag) (tg:Expr) (J:It) (fp:List Addr) (it:Addr) (tn:Nat→Heap→Prop):Prop where
 mem:it∈fp
 obj:∀ i h,tn i h→∀ b∈fp,∃ o,h.get? b=some o∧∀ v,o.data≠.cell v
 keep:∀ i h h',tn i h→(∀ b∈fp,∀ o,h.get? b=some o→h'.get? b=some o)→tn i h'
 item:∀ (X:Cx),X.prog=P→X.w=w→X.K=K→X.calm=true→∀ (i:Nat) (pins:List (Addr×Obj)) (s:Shared) (σ : St) (H:Hp) (E:Value→Shared→Prop),Inv X pins σ H s→(∀ b∈fp,FpOk X pins H b)→tn i s.heap→J.go i H →
  wpAny (model P w) X.A (pyNext (.ref it)) (fun r s1=>∃ u,r=some u ∧
   wpAny (model P w) X.A (letOwnedTupleGo tg (.ref it) u) (fun _ s2=>∃ x H',Inv X pins σ H' s2∧RelV x u∧J.yld i H x H'∧tn (i + 1) s2.heap∧∀ b∈fp,H' b=none) E s1) E s
 done:∀ (X:Cx),X.prog=P→X.w=w→X.K=K→X.calm=true→∀ (i:Nat) (pins:List (Addr×Obj)) (s:Shared) (σ : St) (H:Hp) (E:Value→Shared→Prop),Inv X pins σ H s→(∀ b∈fp,FpOk X pins H b)→tn i s.heap→J.stop i H →
  wpAny (model P w) X.A (pyNext (.ref it)) (fun r s1=>r=none∧Inv X pins σ H s1) E s
 self:∀ (A:Around) (i:Nat) (s:Shared) (Q:Value→Shared→Prop) (E:Value→Shared→Prop),tn i s.heap→Q (.ref it) s→wpAny (model P w) A (pyIter (.ref it)) Q E s
noncomputable abbrev TI:=St→Hp→(It→Hp→Prop)→Prop
noncomputable def PIE (X:Cx) (pins:List (Addr×Obj)) (σ : St) (tg:Expr) (R:It→Hp→Prop) (itv:Value) (s2:Shared):Prop :=
 ∃ (it:Addr) (fp:List Addr) (tn:Nat→Heap→Prop) (J:It) (H':Hp),itv=.ref it∧Inv X pins σ H' s2∧Turn X.prog X.w X.K tg J fp it tn∧tn 0 s2.heap∧(∀ b∈fp,FpOk X pins H' b)∧R J H'
noncomputable def PI (X:Cx) (tg iter:Expr) (wi:TI):Prop :=
 ∀ (pins:List (Addr×Obj)) (s:Shared) (σ : St) (H:Hp) (R:It→Hp→Prop),Inv X pins σ H s→wi σ H R →
  wpAny (model X.prog X.w) X.A (eval iter X.env) (fun v s1=>wpAny (model X.prog X.w) X.A (pyIter v) (PIE X pins σ tg R) X.xe s1) X.xe s
theorem go_of {M:Model}{A:Around}{E:Value→Shared→Prop}{s:Shared}{tg:Expr}{it:Addr}{u:Value}{o:Obj}{n:String}{vs:Array Value}{Q:Unit→Shared→Prop} (ho:s.heap.get? it=some o) (hc:o.cls=.type n) (hd:o.data=.fields vs)
  (hn:["enumerate", "zip", "dict_itemiterator", "dict_reverseitemiterator", "odict_iterator", "itertools.zip_longest", "itertools.pairwise"].contains n=false) (hQ:Q () s):wpAny M A (letOwnedTupleGo tg (.ref it) u) Q E s:=by
 unfold letOwnedTupleGo
 cases tg <;> first
  | exact wpAny_pure hQ
  | (cases u <;> first
    | exact wpAny_pure hQ
    | (refine wpAny_bind (wpAny_load ho ?_)
       rw [hc,hd];show wpAny M A (if (["enumerate", "zip", "dict_itemiterator", "dict_reverseitemiterator", "odict_iterator", "itertools.zip_longest", "itertools.pairwise"].contains n && vs[0]? == some (rawInt _))=true then _ else _) Q E s;rw [if_neg (by intro h;rw [hn,Bool.false_and] at h;cases h)]
       exact wpAny_pure hQ))
noncomputable def Itl (K:PySem.W.Frag) (a:Addr):It :=
 ⟨fun i H=>∃ xs x,SqL K H a xs∧xs[i]? = some x,fun i H x H'=>H'=H∧∀ xs,SqL K H a xs→xs[i]? = some x,fun i H=>∃ xs,SqL K H a xs∧xs.length≤i⟩
noncomputable def Itr (lo:Int) (n:Nat):It:=⟨fun i _=>i < n,fun i H x H'=>H'=H∧x=.int (lo + i),fun i _=>n≤i⟩
theorem turn_list {P:Program}{w:World}{K:PySem.W.Frag}{tg:Expr} (a it:Addr):Turn P w K tg (Itl K a) [it] it (fun i h=>h.IsListIter it a i) where
 mem:=by simp
 obj:=fun i h st b hb=>by
  have e:b=it:=by simpa using hb
  subst e;obtain ⟨o,e,c,d⟩:=st;exact ⟨o,e,fun v z=>by rw [d] at z;cases z⟩
 keep:=fun i h h' st k=>st.at fun o e=>k it (by simp) o e
 item:=by
  intro X hP hw hK hc i pins s σ H E I hf st hg;subst hP hw hK;obtain ⟨xs,x,hq,hx⟩:=hg;obtain ⟨its,rv,p,hz⟩:=I.list hq;obtain ⟨u,hu,ru⟩:=rv.get hx;obtain ⟨f0,f1,f2,f3,f4,f5⟩:=hf it (by simp);refine wpAny_pyNext_list_item st p.isList (x:=u) (by simpa using hu) fun h' st' sb=>?_;have I1:Inv X pins σ H { s with heap:=h' }:=I.turned (t':=s.toks) (fun b o hb e=>(sb.2 b hb).trans e) f0 f1 f3 f4 f5;obtain ⟨o,e,c,d⟩:=id st';exact ⟨u,rfl,go_of (s:={ s with heap:=h' }) e c d (by decide) ⟨x,H,I1,ru,⟨rfl,fun ys hy=>by rw [I.list_inj hy hq];exact hx⟩,st',fun b hb=>(hf b hb).1⟩⟩
 done:=by
  intro X hP hw hK hc i pins s σ H E I hf st hg;subst hP hw hK;obtain ⟨xs,hq,hx⟩:=hg;obtain ⟨its,rv,p,hz⟩:=I.list hq;obtain ⟨f0,f1,f2,f3,f4,f5⟩:=hf it (by simp);have hl:=rv.length;exact wpAny_pyNext_list_end (I.ok.hd hc) st p.isList (by simp;omega) fun h' eb=>⟨rfl,I.turned (t':=s.toks) (fun b o hb e=>eb b o hb e) f0 f1 f3 f4 f5⟩
 self:=fun _ _ _ _ _ st h=>wpAny_pyIter_listiter st h
theorem turn_range {P:Program}{w:World}{K:PySem.W.Frag}{tg:Expr} (it:Addr) (lo:Int) (n:Nat):Turn P w K tg (Itr lo n) [it] it (fun i h=>IsRangeIter h it (lo + (i:Nat) * 1) ((n:Int) - (i:Nat)) 1) where
 mem:=by simp
 obj:=fun i h st b hb=>by
  have e:b=it:=by simpa using hb
  subst e
  exact ⟨_,st,fun v z=>by
   have z':Data.fields _=Data.cell v:=z
   cases z'⟩
 keep:=fun i h h' st k=>k it (by simp) _ st
 item:=by
  intro X hP hw hK hc i pins s σ H E I hf st hg;subst hP hw hK;obtain ⟨f0,f1,f2,f3,f4,f5⟩:=hf it (by simp);have W:=Walks.range (prog:=X.prog) (w:=X.w) (I.ok.hd hc) it lo 1 n;refine W.item i s _ _ hg st fun v h' tk hv st' kk=>?_;obtain ⟨t,rfl⟩:=hv;have I1:Inv X pins σ H { s with heap:=h',toks:=tk }:=I.turned (fun b o hb e=>kk b o (by simpa using hb) e) f0 f1 f3 f4 f5;refine ⟨_,rfl,go_of (s:={ s with heap:=h',toks:=tk }) (n:="range_iterator") st' rfl rfl (by decide) ⟨.int (lo + i),H,I1,⟨t,?_⟩,⟨rfl,rfl⟩,st',fun b hb=>(hf b hb).1⟩⟩;rw [Int.mul_one]
 done:=by
  intro X hP hw hK hc i pins s σ H E I hf st hg;subst hP hw hK;obtain ⟨f0,f1,f2,f3,f4,f5⟩:=hf it (by simp);exact wpAny_pyNext_range_end (I.ok.hd hc) st (by have:n≤i:=hg;omega) fun h' eb=>⟨rfl,I.turned (t':=s.toks) (fun b o hb e=>eb b o hb e) f0 f1 f3 f4 f5⟩
 self:=fun _ _ _ _ _ st h=>wpAny_pyIter_rangeiter st h
end L2
namespace L2
open PySem PySem.Spec PyProof.Rows
section
variable {X:Cx}{tg:Expr}
noncomputable def iList (K:PySem.W.Frag) (tl:TE):TI:=fun σ H R=>tl σ H fun x H1=>∃ a,x=.ref a∧(∃ xs,SqL K H1 a xs)∧R (Itl K a) H1
theorem zAg {l:Expr}{tl:TE} (hl:PE X l tl):PI X tg l (iList X.K tl):=by
 intro pins s σ H R I h;refine thn (hl pins s σ H _ I h) fun v s1 ⟨x,H1,I1,r1,q1⟩=>?_;obtain ⟨a,e,⟨xs,hq⟩,q⟩:=q1;subst e;cases r1;obtain ⟨its,rv,p,hz⟩:=I1.list hq;refine wpAny_pyIter_list p.isList ?_;refine ⟨s1.heap.objs.size,[s1.heap.objs.size],_,_,H1,rfl,I1.kept (t':=s1.toks) fun b o e=>Z2 _ e,turn_list a _,⟨_,Zb _ rfl,rfl,rfl⟩,fun b hb=>?_,q⟩;have e:b=s1.heap.objs.size:=by simpa using hb
 subst e;exact I1.fpOk (Z5 _) (I1.hok.fresh (Z5 _))
theorem range_it {pins:List (Addr×Obj)}{σ : St}{H:Hp}{s:Shared}{R:It→Hp→Prop}{E:Value→Shared→Prop}{lo hi:Int}{t u v:Tok}{tk:Nat} (I:Inv X pins σ H s) (h1 : -(2 ^ 62)≤lo) (h2:lo < 2 ^ 62) (h3 : -(2 ^ 62)≤hi) (h4:hi < 2 ^ 62)
  (q:R (Itr lo (hi - lo).toNat) H):wpAny (model X.prog X.w) X.A (pyIter (.ref s.heap.objs.size)) (PIE X pins σ tg R) E { s with heap:=s.heap.push { cls:=.type "range",data:=.fields #[.int lo t,.int hi u,.int 1 v] },toks:=tk }:=by
 refine wpAny_pyIter_range (IsRange.new ..) (small_one h1 h2 h3 h4) ?_;have I1:Inv X pins σ H { s with heap:=s.heap.push { cls:=.type "range",data:=.fields #[.int lo t,.int hi u,.int 1 v] },toks:=tk }:=I.kept fun b o e=>Z2 _ e
 refine ⟨(s.heap.push { cls:=.type "range",data:=.fields #[.int lo t,.int hi u,.int 1 v] }).objs.size,[(s.heap.push { cls:=.type "range",data:=.fields #[.int lo t,.int hi u,.int 1 v] }).objs.size],_,_,H,rfl,
  I1.kept (t':=tk) fun b o e=>Z2 _ e,turn_range _ lo (hi - lo).toNat,?_,fun b hb=>?_,q⟩
 ·have e1:lo + ((0:Nat):Int) * 1=lo:=by simp
  have e2:(((hi - lo).toNat:Nat):Int) - ((0:Nat):Int)=Builtin.Range.rangeSize lo hi 1:=by rw [rangeSize_one];split <;> omega
  show IsRangeIter _ _ (lo + ((0:Nat):Int) * 1) ((((hi - lo).toNat:Nat):Int) - ((0:Nat):Int)) 1;rw [e1,e2];exact Zb _ rfl
 ·have e:b=(s.heap.push { cls:=.type "range",data:=.fields #[.int lo t,.int hi u,.int 1 v] }).objs.size:=by simpa using hb
  subst e;exact I1.fpOk (Z5 _) (I1.hok.fresh (Z5 _))
noncomputable def iRng1 (ta:TA):TI:=fun σ H R=>ta σ H fun vs H1=>∃ j:Int,vs=[.int j]∧-(2 ^ 62)≤j∧j < 2 ^ 62∧R (Itr 0 j.toNat) H1
theorem zDc {a:Expr}{ta:TA}{p pos:Pos} (hg:Gl X "range") (hm:X.mg "range" = none) (ha:PA X [a] ta) (hs:starEach [a] X.env=[(false,eval a X.env)]:=by rfl):PI X tg (.Call (.Name "range" p) [a] [] pos) (iRng1 ta):=by
 intro pins s σ H R I h;refine Call_ (zDu I hg hm boot_range (PyProof.Rows.callWith_type1 (thn (ha pos pins s σ H _ I h) fun us s1 ⟨vs,H1,I1,r1,q1⟩=>?_) hs rfl));obtain ⟨j,e,q1,q2,q⟩:=q1;subst e;cases r1 with
 | cons r rr =>
  cases rr;obtain ⟨t,rfl⟩:=r;exact call_range_1 (range_it I1 (by omega) (by omega) q1 q2 (by simpa using q))
noncomputable def tFor (wi:TI) (g:TG) (tb:TS):TS:=fun D σ H=>wi σ H fun J H1=>∃ W:Nat→Nat→St→Hp→Prop,(∃ m,W 0 m σ H1)∧∀ i m σ H,W i m σ H →
 (J.stop i H∧D.nx σ H)∨(J.go i H∧∃ N:St→Hp→Prop,(∀ σ' H',N σ' H'→∃ m',m' < m∧W (i + 1) m' σ' H')∧∀ x H',J.yld i H x H'→g x σ H' fun σ2 H2=>tb { D with nx:=N,ct:=N,bk:=D.nx } σ2 H2)
noncomputable def pinsAt (fp:List Addr) (h:Heap):List (Addr×Obj):=fp.filterMap fun b=>(h.get? b).map fun o=>(b,o)
theorem zCs {fp:List Addr}{h:Heap}{b:Addr}{o:Obj} (hb:b∈fp) (e:h.get? b=some o):(b,o)∈pinsAt fp h:=List.mem_filterMap.mpr ⟨b,hb,by rw [e];rfl⟩
theorem of_pinsAt {fp:List Addr}{h:Heap}{p:Addr×Obj} (hp:p∈pinsAt fp h):p.1∈fp∧h.get? p.1=some p.2:=by
 obtain ⟨b,hb,e⟩:=List.mem_filterMap.mp hp;cases q:h.get? b with
 | none=>rw [q] at e;cases e
 | some o =>
  rw [q] at e;have e':(b,o)=p:=Zg e;subst e';exact ⟨hb,q⟩
theorem Inv.pinned {pins:List (Addr×Obj)}{σ : St}{H:Hp}{s:Shared}{fp:List Addr} (I:Inv X pins σ H s) (hf:∀ b∈fp,FpOk X pins H b) (ho:∀ b∈fp,∃ o,s.heap.get? b=some o∧∀ v,o.data≠.cell v):Inv X (pins++pinsAt fp s.heap) σ H s :=
 I.pins_of fun p hp=>(List.mem_append.mp hp).elim (fun z=>I.pin p (Zr _ z)) fun z=>by
  obtain ⟨hb,e⟩:=of_pinsAt z;obtain ⟨f0,f1,f2,_⟩:=hf p.1 hb;obtain ⟨o,e',d⟩:=ho p.1 hb;rw [e] at e';cases e';exact ⟨e,f0,f1,f2,d⟩
theorem Inv.unpinned {pins pl:List (Addr×Obj)}{σ : St}{H:Hp}{s:Shared} (I:Inv X (pins++pl) σ H s):Inv X pins σ H s:=I.pins_of fun p hp=>I.pin p (Zr _ (Zu _ hp))
theorem zBg {iter:Expr}{body:List Stmt}{wi:TI}{g:TG}{tb:TS}{pos:Pos} (hp:PassesOwn (model X.prog X.w) X.A X.env X.xe) (hc:X.calm=true) (hi:PI X tg iter wi) (hg:PG X tg g) (hb:PSs X body tb)
  (hs:∀ x,foldedSetIterable iter X.env x=pure x:=by intro _;rfl):PS X (.For tg iter body [] pos) (tFor wi g tb):=by
 intro pins s σ H D I h;refine wpAny_For (thn (hi pins s σ H _ I h) fun v s1 h1=>thn h1 fun itv s2 h2=>?_) hs;obtain ⟨it,fp,tn,J,H2,e,I2,T,st2,f2,W,⟨m0,w0⟩,turn⟩:=h2;subst e;have stat:∀ {H':Hp},(∀ b∈fp,H' b=none)→∀ b∈fp,FpOk X pins H' b:=fun hn b hb=>⟨hn b hb,(f2 b hb).2⟩;refine codeAny_forLoop_any (fun n s'=>∃ i σ' H',Inv X pins σ' H' s'∧tn i s'.heap∧(∀ b∈fp,H' b=none)∧W i n σ' H') ?_ m0 ⟨0,σ,H2,I2,st2,fun b hb=>(f2 b hb).1,w0⟩;rintro n s3 ⟨i,σ3,H3,I3,st3,fr3,w3⟩;rcases turn i n σ3 H3 w3 with ⟨stop,qn⟩ | ⟨go,N,hN,step⟩
 ·refine wpAny_passesOwn hp (thn (T.done X rfl rfl rfl hc i pins s3 σ3 H3 X.xe I3 (stat fr3) st3 stop) fun r s4 ⟨hr,I4⟩=>?_);subst hr;exact wpAny_execs_nil ⟨σ3,H3,I4,qn⟩
 ·refine wpAny_passesOwn hp (thn (T.item X rfl rfl rfl hc i pins s3 σ3 H3 X.xe I3 (stat fr3) st3 go) fun r s4 ⟨u,hr,h4⟩=>?_);subst hr;refine wpAny_passesOwn hp (thn h4 fun _ s5 ⟨x,H5,I5,r5,y5,st5,fr5⟩=>?_);have I5':=I5.pinned (stat fr5) (T.obj _ _ st5);refine wpAny_passesOwn hp (thn (hg _ s5 σ3 H5 x u _ I5' r5 (step x H5 y5)) fun _ s6 ⟨σ6,H6,I6,q6⟩=>?_);refine wpAny_passesOwn hp (thn (hb _ s6 σ6 H6 _ I6 q6) fun f s7 q7=>?_);have again:∀ {σ7:St}{H7:Hp},Inv X (pins++pinsAt fp s5.heap) σ7 H7 s7→N σ7 H7→∃ m,m < n∧∃ i σ' H',Inv X pins σ' H' s7∧tn i s7.heap∧(∀ b∈fp,H' b=none)∧W i m σ' H':=fun {σ7 H7} I7 n7=>by
   obtain ⟨m',hm,w7⟩:=hN σ7 H7 n7;refine ⟨m',hm,i + 1,σ7,H7,I7.unpinned,T.keep _ _ _ st5 fun b hb o e=>(I7.pin (b,o) (Zr _ (Zr _ (zCs hb e)))).1,fun b hb=>?_,w7⟩;obtain ⟨o,e,d⟩:=T.obj _ _ st5 b hb;exact (I7.pin (b,o) (Zr _ (Zr _ (zCs hb e)))).2.1
  cases f with
  | next=>obtain ⟨σ7,H7,I7,n7⟩:=q7;exact again I7 n7
  | cont=>obtain ⟨σ7,H7,I7,n7⟩:=q7;exact again I7 n7
  | brk=>obtain ⟨σ7,H7,I7,q7⟩:=q7;exact ⟨σ7,H7,I7.unpinned,q7⟩
  | ret v=>obtain ⟨x7,σ7,H7,I7,r7,q7⟩:=q7;exact ⟨x7,σ7,H7,I7.unpinned,r7,q7⟩
end
theorem zBh {K:PySem.W.Frag}{a:Addr}{xs:List V}{g:TG}{tb:TS}{D:Ends}{σ : St}{H:Hp} (Pv:Nat→St→Hp→Prop) (h0:Pv 0 σ H) (hl:∀ i σ H,i≤xs.length→Pv i σ H→SqL K H a xs)
  (hs:∀ i x σ H,xs[i]? = some x→Pv i σ H→g x σ H fun σ2 H2=>tb { D with nx:=Pv (i + 1),ct:=Pv (i + 1),bk:=D.nx } σ2 H2) (hd:∀ σ H,Pv xs.length σ H→D.nx σ H) :
  ∃ W:Nat→Nat→St→Hp→Prop,(∃ m,W 0 m σ H)∧∀ i m σ H,W i m σ H →
   ((Itl K a).stop i H∧D.nx σ H)∨((Itl K a).go i H∧∃ N:St→Hp→Prop,(∀ σ' H',N σ' H'→∃ m',m' < m∧W (i + 1) m' σ' H')∧∀ x H',(Itl K a).yld i H x H'→g x σ H' fun σ2 H2=>tb { D with nx:=N,ct:=N,bk:=D.nx } σ2 H2):=by
 refine ⟨fun i m σ H=>m=xs.length - i∧i≤xs.length∧Pv i σ H,⟨xs.length,by simp,Zn _,h0⟩,?_⟩;rintro i m σ H ⟨rfl,hi,p⟩;have q:=hl i σ H hi p;by_cases hlt:i < xs.length
 ·refine .inr ⟨⟨xs,xs[i],q,by simp [hlt]⟩,Pv (i + 1),fun σ' H' p'=>⟨xs.length - (i + 1),by omega,rfl,hlt,p'⟩,fun x H' y=>?_⟩;obtain ⟨e,y⟩:=y;subst e;exact hs i x σ _ (y xs q) p
 ·have e:i=xs.length:=by omega
  subst e;exact .inl ⟨⟨xs,q,Z5 _⟩,hd σ H p⟩
theorem for_range {lo:Int}{n:Nat}{g:TG}{tb:TS}{D:Ends}{σ : St}{H:Hp} (Pv:Nat→St→Hp→Prop) (h0:Pv 0 σ H)
  (hs:∀ i σ H,i < n→Pv i σ H→g (.int (lo + i)) σ H fun σ2 H2=>tb { D with nx:=Pv (i + 1),ct:=Pv (i + 1),bk:=D.nx } σ2 H2) (hd:∀ σ H,Pv n σ H→D.nx σ H) :
  ∃ W:Nat→Nat→St→Hp→Prop,(∃ m,W 0 m σ H)∧∀ i m σ H,W i m σ H →
   ((Itr lo n).stop i H∧D.nx σ H)∨((Itr lo n).go i H∧∃ N:St→Hp→Prop,(∀ σ' H',N σ' H'→∃ m',m' < m∧W (i + 1) m' σ' H')∧∀ x H',(Itr lo n).yld i H x H'→g x σ H' fun σ2 H2=>tb { D with nx:=N,ct:=N,bk:=D.nx } σ2 H2):=by
 refine ⟨fun i m σ H=>m=n - i∧i≤n∧Pv i σ H,⟨n,by simp,Zn _,h0⟩,?_⟩;rintro i m σ H ⟨rfl,hi,p⟩;by_cases hlt:i < n
 ·refine .inr ⟨hlt,Pv (i + 1),fun σ' H' p'=>⟨n - (i + 1),by omega,rfl,hlt,p'⟩,fun x H' y=>?_⟩;obtain ⟨e,y⟩:=y;subst e y;exact hs i σ _ hlt p
 ·have e:i=n:=by omega
  subst e;exact .inl ⟨Z5 _,hd σ H p⟩
end L2
namespace L2
open PySem PySem.Spec PyProof.Rows
noncomputable abbrev R2:=V→V→Hp→VK→Prop
noncomputable def OpR (X:Cx) (f:Value→Value→Sem Value) (r:R2):Prop :=
 ∀ (pins:List (Addr×Obj)) (s:Shared) (σ : St) (H:Hp) (x y:V) (v u:Value) (Q:VK),Inv X pins σ H s→RelV x v→RelV y u→r x y H Q →
  wpAny (model X.prog X.w) X.A (f v u) (EP X pins σ Q) X.xe s
noncomputable def CallR (X:Cx) (f:Value) (r:List V→Hp→VK→Prop):Prop :=
 ∀ (pins:List (Addr×Obj)) (s:Shared) (σ : St) (H:Hp) (xs:List V) (us:List Value) (Q:VK),Inv X pins σ H s→Vals xs us→r xs H Q →
  wpAny (model X.prog X.w) X.A (call f us) (EP X pins σ Q) X.xe s
noncomputable def TruR (X:Cx) (r:V→Hp→(Bool→Hp→Prop)→Prop):Prop :=
 ∀ (pins:List (Addr×Obj)) (s:Shared) (σ : St) (H:Hp) (x:V) (v:Value) (Q:Bool→Hp→Prop),Inv X pins σ H s→RelV x v→r x H Q →
  wpAny (model X.prog X.w) X.A (truthy v) (TP X pins σ Q) X.xe s
noncomputable def tOp (r:R2) (ta tb:TE):TE:=fun σ H Q=>ta σ H fun x H1=>tb σ H1 fun y H2=>r x y H2 Q
noncomputable def rI (C:Int→Int→Prop) (g:Int→Int→V):R2:=fun x y H Q=>∃ i j,x=.int i∧y=.int j∧C i j∧Q (g i j) H
noncomputable def rI0 (g:Int→Int→V):R2:=fun x y H Q=>∃ i j,x=.int i∧y=.int j∧Q (g i j) H
section
variable {X:Cx}{a b c:Expr}{ta tb tc:TE}{pos:Pos}
theorem binT (ha:PE X a ta) (hb:PE X b tb) {pins:List (Addr×Obj)}{s:Shared}{σ : St}{H:Hp}{R:V→V→Hp→Prop} (I:Inv X pins σ H s)
  (h:ta σ H fun x H1=>tb σ H1 fun y H2=>R x y H2) {Q:Value→Shared→Prop}{f:Value→Value→Sem Value}
  (hf:∀ v u s2 x y H2,Inv X pins σ H2 s2→RelV x v→RelV y u→R x y H2→wpAny (model X.prog X.w) X.A (f v u) Q X.xe s2) :
  wpAny (model X.prog X.w) X.A (eval a X.env) (fun v s₁=>wpAny (model X.prog X.w) X.A (eval b X.env) (fun u s₂=>wpAny (model X.prog X.w) X.A (f v u) Q X.xe s₂) X.xe s₁) X.xe s:=by
 refine thn (ha pins s σ H _ I h) fun v s1 ⟨x,H1,I1,r1,q1⟩=>?_;refine thn (hb pins s1 σ H1 _ I1 q1) fun u s2 ⟨y,H2,I2,r2,q2⟩=>?_;exact hf v u s2 x y H2 I2 r1 r2 q2
theorem zAt {op:Operator}{r:R2} (ho:OpR X (binaryOp op) r) (ha:PE X a ta) (hb:PE X b tb):PE X (.BinOp a op b pos) (tOp r ta tb):=by
 intro pins s σ H Q I h;exact wpAny_BinOp (binT ha hb I h fun v u s2 x y H2 I2 rx ry q=>ho pins s2 σ H2 x y v u Q I2 rx ry q)
theorem opI {f:Value→Value→Sem Value}{C:Int→Int→Prop}{g:Int→Int→Int}
  (rule:∀ (i j:Int) (t u:Tok) (s:Shared) (Q:Value→Shared→Prop) (E:Value→Shared→Prop),C i j→Q (.int (g i j) s.toks) { s with toks:=s.toks + 1 }→wpAny (model X.prog X.w) X.A (f (.int i t) (.int j u)) Q E s) :
  OpR X f (rI C fun i j=>.int (g i j)):=by
 intro pins s σ H x y v u Q I rx ry h;obtain ⟨i,j,rfl,rfl,hc,q⟩:=h;obtain ⟨t,rfl⟩:=rx;obtain ⟨t',rfl⟩:=ry;exact rule i j t t' s _ _ hc ⟨.int (g i j),H,I.tok _,⟨_,rfl⟩,q⟩
theorem opI0 {f:Value→Value→Sem Value}{g:Int→Int→Int}
  (rule:∀ (i j:Int) (t u:Tok) (s:Shared) (Q:Value→Shared→Prop) (E:Value→Shared→Prop),Q (.int (g i j) s.toks) { s with toks:=s.toks + 1 }→wpAny (model X.prog X.w) X.A (f (.int i t) (.int j u)) Q E s) :
  OpR X f (rI0 fun i j=>.int (g i j)):=by
 intro pins s σ H x y v u Q I rx ry h;obtain ⟨i,j,rfl,rfl,q⟩:=h;obtain ⟨t,rfl⟩:=rx;obtain ⟨t',rfl⟩:=ry;exact rule i j t t' s _ _ ⟨.int (g i j),H,I.tok _,⟨_,rfl⟩,q⟩
theorem opB0 {f:Value→Value→Sem Value}{g:Int→Int→Bool}
  (rule:∀ (i j:Int) (t u:Tok) (s:Shared) (Q:Value→Shared→Prop) (E:Value→Shared→Prop),Q (.bool (g i j)) s→wpAny (model X.prog X.w) X.A (f (.int i t) (.int j u)) Q E s) :
  OpR X f (rI0 fun i j=>.bl (g i j)):=by
 intro pins s σ H x y v u Q I rx ry h;obtain ⟨i,j,rfl,rfl,q⟩:=h;obtain ⟨t,rfl⟩:=rx;obtain ⟨t',rfl⟩:=ry;exact rule i j t t' s _ _ ⟨.bl (g i j),H,I,rfl,q⟩
noncomputable def CDiv (i j:Int):Prop:=0 < j∧j < 1073741824
noncomputable def CMul (i j:Int):Prop:=(-(2 ^ 64) < i∧i < 2 ^ 64)∨(-(2 ^ 64) < j∧j < 2 ^ 64)
theorem CMul.ok {i j:Int} (h:CMul i j):IntMulOk i j:=by
 rcases h with ⟨h1,h2⟩ | ⟨h1,h2⟩
 ·exact .of_left (intBits_le_64 h1 h2)
 ·exact .of_right (intBits_le_64 h1 h2)
theorem zBw:OpR X (binaryOp .Add) (rI0 fun i j=>.int (i + j)):=opI0 fun _ _ _ _ _ _ _ q=>add_int q
theorem op_sub:OpR X (binaryOp .Sub) (rI0 fun i j=>.int (i - j)):=opI0 fun _ _ _ _ _ _ _ q=>sub_int q
theorem zDg:OpR X (binaryOp .Mult) (rI CMul fun i j=>.int (i * j)):=opI fun _ _ _ _ _ _ _ hc q=>mul_int q hc.ok
theorem zEa:OpR X (binaryOp .FloorDiv) (rI CDiv fun i j=>.int (i / j)):=opI fun i j _ _ _ _ _ hc q=>by
 have h1:(0:Int) < j:=hc.1;have h2:j < 1073741824:=hc.2;exact floordiv_int (by omega) (by rw [Int.fdiv_eq_ediv_of_nonneg i (by omega)];exact q) (.inl (PyProof.noPylong_small (by omega)))
theorem zD1:OpR X (binaryOp .Mod) (rI (fun _ j=>0 < j) fun i j=>.int (i % j)):=opI fun i j _ _ _ _ _ hc q=>by
 have h1:(0:Int) < j:=hc;exact mod_int' (by omega) (by rw [Int.fmod_eq_emod_of_nonneg i (by omega)];exact q)
end
noncomputable def scal:V→V→Bool
 | .non,.non=>true | .non,.int _=>true | .int _,.non=>true | .non,.bl _=>true | .bl _,.non=>true | .non,.str _=>true | .str _,.non=>true
 | .int _,.int _=>true | .bl _,.bl _=>true | .str _,.str _=>true | .byt _,.byt _=>true
 | .int _,.str _=>true | .str _,.int _=>true | .bl _,.str _=>true | .str _,.bl _=>true
 | _,_=>false
noncomputable def rEq:R2:=fun x y H Q=>scal x y=true∧Q (.bl (decide (x=y))) H
noncomputable def rNe:R2:=fun x y H Q=>scal x y=true∧Q (.bl (!decide (x=y))) H
theorem dec_int {i j:Int}:decide (V.int i=V.int j)=(i == j):=by
 rw [Yg];simp
theorem dec_bl {i j:Bool}:decide (V.bl i=V.bl j)=(i == j):=by
 rw [Yg];simp
theorem dec_str {i j:Str}:decide (V.str i=V.str j)=(i == j):=by
 rw [Yg];simp
theorem dec_byt {i j:Array UInt8}:decide (V.byt i=V.byt j)=(i.toList == j.toList):=by
 rw [Yg];cases i;cases j;simp
section
variable {X:Cx}{a b c:Expr}{ta tb tc:TE}{pos:Pos}
theorem zAm {pins:List (Addr×Obj)}{σ : St}{H:Hp}{s:Shared}{Q:VK}{k k':Bool} (I:Inv X pins σ H s) (q:Q (.bl k) H) (e:k=k'):EP X pins σ Q (.bool k') s:=by
 subst e;exact ⟨.bl k,H,I,rfl,q⟩
theorem op_eq:OpR X (compareOp .Eq) rEq:=by
 intro pins s σ H x y v u Q I rx ry h;obtain ⟨hs,q⟩:=h;cases x with
 | non =>
  cases rx;cases y with
  | non=>cases ry;exact PySem.EqNone.eq_none_none (zAm I q (by simp))
  | bl j=>cases ry;exact PySem.EqNone.eq_none_bool (zAm I q (by simp))
  | int j=>obtain ⟨t',rfl⟩:=ry;exact PySem.EqNone.eq_none_int (zAm I q (by simp))
  | str j=>obtain ⟨t',rfl⟩:=ry;exact PySem.EqNone.eq_none_str (zAm I q (by simp))
  | _=>exact absurd (show false=true from hs) Z3
 | bl i =>
  cases rx;cases y with
  | non=>cases ry;exact PySem.EqNone.eq_bool_none (zAm I q (by simp))
  | bl j=>cases ry;exact eq_bool (zAm I q dec_bl)
  | str j=>obtain ⟨t',rfl⟩:=ry;exact PySem.EqMixed.eq_bool_str (zAm I q (by simp))
  | _=>exact absurd (show false=true from hs) Z3
 | int i =>
  obtain ⟨t,rfl⟩:=rx;cases y with
  | non=>cases ry;exact PySem.EqNone.eq_int_none (zAm I q (by simp))
  | int j=>obtain ⟨t',rfl⟩:=ry;exact eq_int (zAm I q dec_int)
  | str j=>obtain ⟨t',rfl⟩:=ry;exact PySem.EqMixed.eq_int_str (zAm I q (by simp))
  | _=>exact absurd (show false=true from hs) Z3
 | str i =>
  obtain ⟨t,rfl⟩:=rx;cases y with
  | non=>cases ry;exact PySem.EqNone.eq_str_none (zAm I q (by simp))
  | bl j=>cases ry;exact PySem.EqMixed.eq_str_bool (zAm I q (by simp))
  | int j=>obtain ⟨t',rfl⟩:=ry;exact PySem.EqMixed.eq_str_int (zAm I q (by simp))
  | str j=>obtain ⟨t',rfl⟩:=ry;exact eq_str (zAm I q dec_str)
  | _=>exact absurd (show false=true from hs) Z3
 | byt i =>
  obtain ⟨t,rfl⟩:=rx;cases y with
  | byt j=>obtain ⟨t',rfl⟩:=ry;exact PySem.W.eq_bytes (zAm I q dec_byt)
  | _=>exact absurd (show false=true from hs) Z3
 | _=>cases y <;> exact absurd (show false=true from hs) Z3
theorem op_ne:OpR X (compareOp .NotEq) rNe:=by
 intro pins s σ H x y v u Q I rx ry h;obtain ⟨hs,q⟩:=h;cases x with
 | non =>
  cases rx;cases y with
  | non=>cases ry;exact PySem.EqNone.ne_none_none (zAm I q (by simp))
  | bl j=>cases ry;exact PySem.EqNone.ne_none_bool (zAm I q (by simp))
  | int j=>obtain ⟨t',rfl⟩:=ry;exact PySem.EqNone.ne_none_int (zAm I q (by simp))
  | str j=>obtain ⟨t',rfl⟩:=ry;exact PySem.EqNone.ne_none_str (zAm I q (by simp))
  | _=>exact absurd (show false=true from hs) Z3
 | bl i =>
  cases rx;cases y with
  | non=>cases ry;exact PySem.EqNone.ne_bool_none (zAm I q (by simp))
  | bl j=>cases ry;exact ne_bool (zAm I q (congrArg not dec_bl))
  | str j=>obtain ⟨t',rfl⟩:=ry;exact PySem.EqMixed.ne_bool_str (zAm I q (by simp))
  | _=>exact absurd (show false=true from hs) Z3
 | int i =>
  obtain ⟨t,rfl⟩:=rx;cases y with
  | non=>cases ry;exact PySem.EqNone.ne_int_none (zAm I q (by simp))
  | int j=>obtain ⟨t',rfl⟩:=ry;exact ne_int (zAm I q (congrArg not dec_int))
  | str j=>obtain ⟨t',rfl⟩:=ry;exact PySem.EqMixed.ne_int_str (zAm I q (by simp))
  | _=>exact absurd (show false=true from hs) Z3
 | str i =>
  obtain ⟨t,rfl⟩:=rx;cases y with
  | non=>cases ry;exact PySem.EqNone.ne_str_none (zAm I q (by simp))
  | bl j=>cases ry;exact PySem.EqMixed.ne_str_bool (zAm I q (by simp))
  | int j=>obtain ⟨t',rfl⟩:=ry;exact PySem.EqMixed.ne_str_int (zAm I q (by simp))
  | str j=>obtain ⟨t',rfl⟩:=ry;exact ne_str (zAm I q (congrArg not dec_str))
  | _=>exact absurd (show false=true from hs) Z3
 | byt i =>
  obtain ⟨t,rfl⟩:=rx;cases y with
  | byt j=>obtain ⟨t',rfl⟩:=ry;exact PySem.W.ne_bytes (zAm I q (congrArg not dec_byt))
  | _=>exact absurd (show false=true from hs) Z3
 | _=>cases y <;> exact absurd (show false=true from hs) Z3
theorem op_lt:OpR X (compareOp .Lt) (rI0 fun i j=>.bl (decide (i < j))):=opB0 fun _ _ _ _ _ _ _ q=>lt_int q
theorem op_le:OpR X (compareOp .LtE) (rI0 fun i j=>.bl (decide (i≤j))):=opB0 fun _ _ _ _ _ _ _ q=>le_int q
theorem op_gt:OpR X (compareOp .Gt) (rI0 fun i j=>.bl (decide (j < i))):=opB0 fun _ _ _ _ _ _ _ q=>gt_int q
theorem op_in_str:OpR X (compareOp .In) (fun x y H Q=>∃ i j,x=.str i∧y=.str j∧Q (.bl (!(Builtin.Str.occurrences j i 0 j.length 1).isEmpty)) H):=by
 intro pins s σ H x y v u Q I rx ry h;obtain ⟨i,j,rfl,rfl,q⟩:=h;obtain ⟨t,rfl⟩:=rx;obtain ⟨t',rfl⟩:=ry;exact in_str (zAm I q rfl)
theorem op_isN:OpR X (compareOp .Is) (fun x y H Q=>y=.non∧Q (.bl (decide (x=.non))) H):=by
 intro pins s σ H x y v u Q I rx ry h;obtain ⟨rfl,q⟩:=h;cases ry;refine is_none_gen (zAm I q ?_)
 cases x <;> first
  | (cases rx;rfl)
  | (obtain ⟨t,rfl⟩:=rx;rfl)
theorem nomark (b:Expr) {op:CmpOp} (h:op≠.In:=by decide) (h2:op≠.NotIn:=by decide):behindInMarks op b=false:=by
 have e1:(op == CmpOp.In)=false:=by cases op <;> first | rfl | exact absurd rfl h
 have e2:(op == CmpOp.NotIn)=false:=by cases op <;> first | rfl | exact absurd rfl h2
 cases b <;> simp [behindInMarks,e1,e2]
theorem zBq {op:CmpOp}{r:R2} (ho:OpR X (compareOp op) r) (ha:PE X a ta) (hb:PE X b tb) (hm:behindInMarks op b=false):PE X (.Compare a [op] [b] pos) (tOp r ta tb):=by
 intro pins s σ H Q I h;exact wpAny_Compare1 (binT ha hb I h fun v u s2 x y H2 I2 rx ry q=>ho pins s2 σ H2 x y v u Q I2 rx ry q) hm
noncomputable def tTest (t:TE):TT:=fun σ H Q=>t σ H fun x H'=>∃ k,x=.bl k∧Q k H'
theorem zAp {op:CmpOp}{r:R2} (ho:OpR X (compareOp op) r) (ha:PE X a ta) (hb:PE X b tb) (hm:behindInMarks op b=false):PT X (.Compare a [op] [b] pos) (tTest (tOp r ta tb)):=by
 intro pins s σ H Q I h
 refine wpAny_isTrue_Compare1 (thn (ha pins s σ H _ I h) fun v s1 ⟨x,H1,I1,r1,q1⟩=>thn (hb pins s1 σ H1 _ I1 q1) fun u s2 ⟨y,H2,I2,r2,q2⟩ =>
  thn (ho pins s2 σ H2 x y v u _ I2 r1 r2 q2) fun c s3 ⟨z,H3,I3,r3,k,e,q3⟩=>?_) hm
 subst e;cases r3;exact wpAny_truthy_bool ⟨H3,I3,q3⟩
noncomputable def tChain (r r':R2) (ta tb tc:TE):TE:=fun σ H Q=>ta σ H fun x H1=>tb σ H1 fun y H2=>r x y H2 fun z H3=>∃ k,z=.bl k ∧
 (if k=true then tc σ H3 fun w' H4=>r' y w' H4 Q else Q (.bl false) H3)
theorem zE7 {op op':CmpOp}{r r':R2} (ho:OpR X (compareOp op) r) (ho':OpR X (compareOp op') r') (ha:PE X a ta) (hb:PE X b tb) (hc:PE X c tc)
  (hm:lastMarks [op,op'] [b,c]=false:=by with_unfolding_all rfl):PE X (.Compare a [op,op'] [b,c] pos) (tChain r r' ta tb tc):=by
 intro pins s σ H Q I h
 refine Compare_chain (thn (ha pins s σ H _ I h) fun v s1 ⟨x,H1,I1,r1,q1⟩=>chain_link (thn (hb pins s1 σ H1 _ I1 q1) fun u s2 ⟨y,H2,I2,r2,q2⟩ =>
  thn (ho pins s2 σ H2 x y v u _ I2 r1 r2 q2) fun d s3 ⟨z,H3,I3,r3,k,e,q3⟩=>?_)) hm
 subst e;cases r3;refine wpAny_truthy_bool ?_;cases k with
 | false=>exact ite_ff ⟨.bl false,H3,I3,rfl,q3⟩
 | true=>exact ite_tt (chain_last (thn (hc pins s3 σ H3 _ I3 q3) fun w' s4 ⟨z',H4,I4,r4,q4⟩=>ho' pins s4 σ H4 y z' u w' Q I4 r2 r4 q4))
noncomputable def TruV (K:PySem.W.Frag) (x:V) (H:Hp) (k:Bool):Prop :=
 match x with
 | .non=>k=false
 | .bl b=>k=b
 | .int i=>k=(i != 0)
 | .str y=>y.length≤sizeLine∧k=((y.length:Int) != 0)
 | .byt y=>y.size≤sizeLine∧k=((y.size:Int) != 0)
 | .ref p=>(∃ xs,SqL K H p xs∧k = !xs.isEmpty)∨(∃ xs,SqT K H p xs∧k = !xs.isEmpty)∨∃ kvs,H p=some (.dK kvs)∧k = !kvs.isEmpty
 | _=>False
theorem isEmpty_kv {κ : Type}{kvs:List (κ×V)}{vs:List (κ×Value)} (r:KV kvs vs):(!vs.isEmpty) = !kvs.isEmpty:=by
 cases r <;> rfl
theorem zDv {xs:List V}{its:List Value} (r:Vals xs its):(!its.toArray.isEmpty) = !xs.isEmpty:=by
 cases r <;> simp
theorem line63:(sizeLine:Nat) < 2 ^ 63:=by rw [sizeLine_eq];decide
theorem tru_ok:TruR X (fun x H Q=>∃ k,TruV X.K x H k∧Q k H):=by
 intro pins s σ H x v Q I rx h;obtain ⟨k,e,q⟩:=h;have hl:=line63;have hs:sizeLine=16777216:=sizeLine_eq;cases x with
 | non =>
  cases rx;have e':k=false:=e;subst e';exact truthy_none ⟨H,I,q⟩
 | bl b =>
  cases rx;have e':k=b:=e;subst e';exact wpAny_truthy_bool ⟨H,I,q⟩
 | int i =>
  obtain ⟨t,rfl⟩:=rx;have e':k=(i != 0):=e;subst e';exact PySem.P.truthy_int ⟨H,I,q⟩
 | str y =>
  obtain ⟨t,rfl⟩:=rx;obtain ⟨hy,e'⟩:y.length≤sizeLine∧k=((y.length:Int) != 0):=e;subst e';exact PySem.P.truthy_str (by omega) ⟨H,I.tok _,q⟩
 | byt y =>
  obtain ⟨t,rfl⟩:=rx;obtain ⟨hy,e'⟩:y.size≤sizeLine∧k=((y.size:Int) != 0):=e;subst e';exact PySem.W.truthy_bytes (by omega) ⟨H,I.tok _,q⟩
 | ref p =>
  cases rx;have e':(∃ xs,SqL X.K H p xs∧k = !xs.isEmpty)∨(∃ xs,SqT X.K H p xs∧k = !xs.isEmpty)∨∃ kvs,H p=some (.dK kvs)∧k = !kvs.isEmpty:=e;rcases e' with ⟨xs,hx,e'⟩ | ⟨xs,hx,e'⟩ | ⟨kvs,hx,e'⟩
  ·subst e';obtain ⟨its,r,pl,hz⟩:=I.list hx;have hlen:=r.length;exact wpAny_truthy_list pl.isList (by simp only [Zf];omega) ⟨H,I.tok _,by rw [zDv r];exact q⟩
  ·subst e';obtain ⟨its,r,pl,hz⟩:=I.tuple hx;have hlen:=r.length;exact truthy_tuple pl (by simp only [Zf];omega) ⟨H,I.tok _,by rw [zDv r];exact q⟩
  ·subst e';obtain ⟨hz,hS,vs,r,m⟩:kvs.length≤sizeLine∧(p == sysModules)=false∧∃ vs,KV kvs vs∧s.heap.DictOf (mixKind X.prog X.w) p vs:=I.hok p _ hx;have hlen:kvs.length=vs.length:=Paired.length r;exact wpAny_truthy_dict hS m (by omega) ⟨H,I.tok _,by rw [isEmpty_kv r];exact q⟩
 | _=>exact (show False from e).elim
theorem zE3 (ha:PE X a ta) (he:∀ whole,isTrue a X.env whole=(do let v ← whole;standAt a.pos;holding [v] (truthy v))) :
  PT X a (fun σ H Q=>ta σ H fun x H'=>∃ k,TruV X.K x H' k∧Q k H'):=by
 intro pins s σ H Q I h;exact isTrue_plain (thn (ha pins s σ H _ I h) fun v s1 ⟨x,H1,I1,r1,q1⟩=>tru_ok pins s1 σ H1 x v Q I1 r1 q1) (he _)
theorem vals1 {x:V}{us:List Value} (r:Vals [x] us):∃ u,us=[u]∧RelV x u:=by
 cases r with
 | cons r1 r2=>cases r2;exact ⟨_,rfl,r1⟩
end
end L2
namespace L2
open PySem PySem.Spec PyProof.Rows
structure ObjM (h:Heap) (x dx C:Addr) (mA:Str→Option Value):Prop where
 obj:h.get? x=some (PySem.W.instObj C dx)
 ns:h.Ns1 dx mA
 ne:dx≠x
theorem lookIn_ns {h:Heap}{dx:Addr}{mA:Str→Option Value} (n:h.Ns1 dx mA):∃ od,h.get? dx=some od∧∀ name,PySem.W.lookIn name od=some (mA name):=by
 obtain ⟨o,es,ep,ho,hd,hk,_,hm⟩:=n;refine ⟨o,ho,fun name=>?_⟩;have e:=hm name;unfold nsFind findBy at e;rw [← Array.find?_toList] at e;unfold PySem.W.lookIn;rw [hd];dsimp only;split
 ·rename_i y q
  rw [q] at e;exact congrArg some e
 ·rename_i q
  rw [q] at e;have a:es.toList.any (·.refKey)=false:=by
   rw [List.any_eq_false];intro y hy;obtain ⟨z,t,hkey⟩:=hk y (Array.mem_toList_iff.mp hy);simp [DictEntry.refKey,hkey]
  have a':¬ es.toList.any (·.refKey)=true:=by rw [a];exact Z3
  rw [if_neg a'];exact congrArg some e
theorem ObjM.look {h:Heap}{x dx C:Addr}{mA:Str→Option Value} (I:ObjM h x dx C mA):∃ od,PySem.W.InstAt h x (PySem.W.instObj C dx) C (some od)∧∀ name,PySem.W.lookIn name od=some (mA name) :=
 let ⟨od,ho,hl⟩:=lookIn_ns I.ns
 ⟨od,⟨I.obj,rfl,rfl,ho⟩,hl⟩
section
variable {prog:Program}{w:World}{A:Around}{E:Value→Shared→Prop}{s:Shared}{K:PySem.W.Frag}{x dx C f:Addr}{mA:Str→Option Value}{name:Str}{v:Value}
theorem get_map {expr:Bool}{Q:Value→Shared→Prop} (X:K.In s.heap) (I:ObjM s.heap x dx C mA) (hg:PySem.W.plainGet K C name=true) (hh:PySem.W.hasDictIn K C=true)
  (ha:PySem.W.findIn K (.ref C) name=some none) (hv:mA name=some v) (hv':PySem.W.handedIn v=true) (h:Q v { s with toks:=s.toks + 1 }) :
  wpAny (model prog w) A (getAttr (.ref x) name expr) Q E s:=by
 obtain ⟨od,J,hl⟩:=I.look;exact PySem.W.get_value X J (PySem.W.plainGet_of hg).1 (PySem.W.findObj_own hh ha rfl (by rw [hl,hv])) hv' h
theorem get_meth {pl:Sem Bool}{Q:Value×List Value→Shared→Prop} (X:K.In s.heap) (I:ObjM s.heap x dx C mA) (hg:PySem.W.plainGet K C name=true)
  (hf:PySem.W.findIn K (.ref C) name=some (some (.ref f))) (ht:PySem.W.isFn K (.ref f)=true) (hv:mA name=none) (h:Q (.ref f,[.ref x]) s) :
  wpAny (model prog w) A (getMethod (.ref x) name pl) Q E s:=by
 obtain ⟨od,J,hl⟩:=I.look;exact PySem.W.method_fn X J (PySem.W.plainGet_of hg).1 (PySem.W.plainGet_of hg).2 hf (beq_iff_eq.mp ht) (by show (PySem.W.lookIn name od).map (·.isSome)=some false;rw [hl,hv];rfl) h
theorem set_map {ns:List Str}{Q:Unit→Shared→Prop} (X:K.In s.heap) (I:ObjM s.heap x dx C mA)
  (hs:PySem.W.findIn K (.ref C) "__setattr__" = some (some (.builtin "object.__setattr__"))) (hp:PySem.W.plainOver K C=true) (ht:PySem.W.takerIn K C name=some none) (hh:PySem.W.hasDictIn K C=true)
  (hw:PySem.Within mA ns) (hsz:ns.length≤sizeLine)
  (h:∀ h',ObjM h' x dx C (fun y=>if y=name then some v else mA y)→Heap.SameBut dx s.heap h'→Q () { s with heap:=h',toks:=s.toks + 2 }) :
  wpAny (model prog w) A (setAttr (.ref x) name v) Q E s:=by
 obtain ⟨od,J,hl⟩:=I.look;refine PySem.W.set_plain X J hs (PySem.W.osa_open (s:={ s with toks:=s.toks + 1 }) (r:=none) X J hp ht fun b=>?_);obtain ⟨cd,hc,hd'⟩:=PySem.W.any_some hh;have hx:s.heap.get? x=some ⟨.ref C,some dx,.plain,#[]⟩:=I.obj;refine wpAny_bind (wpAny_pure (wpAny_bind (wpAny_bind (wpAny_loadPart hx (wpAny_bind (PySem.W.Looks.here (s:={ s with toks:=s.toks + 1 }) (PySem.W.looks_clsIn X hc) ?_))))));rw [hd'];refine wpAny_pure (a:=some dx) (wpAny_bind (wpAny_pure (wpAny_bind ?_)));refine wpAny_nsSet1 (s:={ s with toks:=s.toks + 1 }) I.ns fun h' hn2 hs2=>?_;obtain ⟨oD,esD,epD,hoD,hdD,hcD⟩:=hn2.count (PySem.Within.cons name v hw);refine wpAny_bind (wpAny_lookBehind hoD (by rw [hdD];exact pastItsLine_dict (Zp hcD (by rw [Zh];omega))) ?_);exact wpAny_pure (h _ ⟨(hs2.2 _ (Ne.symm I.ne)).trans I.obj,hn2,I.ne⟩ hs2)
theorem make_map {R:Result→Shared→Prop}{vs:List Value}{kw:List (Str×Value)} (X:K.In s.heap) (hm:PySem.W.makesIn K C=true)
  (hi:PySem.W.findIn K (.ref C) "__init__" = some (some (.ref f))) (hf:PySem.W.typeIn K (.ref f)=some (.type "function"))
  (h:codeAny (model prog w) (A.under (.builtin "type.__call__" ⟨.ref C :: vs,kw⟩)) (.call (.ref f) ⟨.ref (s.heap.objs.size + 1) :: vs,kw⟩) (PySem.W.InitBack (s.heap.objs.size + 1) R)
   { s with heap:=(s.heap.push PySem.W.emptyDict).push (PySem.W.instObj C s.heap.objs.size) }) :
  codeAny (model prog w) A (.call (.ref C) ⟨vs,kw⟩) R s:=by
 obtain ⟨hh,g,d,t,os⟩:=s;exact PySem.W.make_core (PySem.W.makes_of X hm) (PySem.W.looks_findIn X hi) (fun self=>PySem.W.bind_fn X self hf) (.inl rfl) h
theorem make_map0 {R:Result→Shared→Prop} (X:K.In s.heap) (hm:PySem.W.makesIn K C=true)
  (hi:PySem.W.findIn K (.ref C) "__init__" = some (some (.builtin "object.__init__")))
  (hb:∀ self,PySem.W.Looks (model prog w) s.heap (bindSpecial (.builtin "object.__init__") self) (.builtin "object.__init__",[self]))
  (h:codeAny (model prog w) (A.under (.builtin "type.__call__" ⟨[.ref C],[]⟩)) (.call (.builtin "object.__init__") ⟨[.ref (s.heap.objs.size + 1)],[]⟩) (PySem.W.InitBack (s.heap.objs.size + 1) R)
   { s with heap:=(s.heap.push PySem.W.emptyDict).push (PySem.W.instObj C s.heap.objs.size) }) :
  codeAny (model prog w) A (.call (.ref C) ⟨[],[]⟩) R s:=by
 obtain ⟨hh,g,d,t,os⟩:=s;exact PySem.W.make_core (PySem.W.makes_of X hm) (PySem.W.looks_findIn X hi) hb (.inr ⟨rfl,rfl⟩) h
end
noncomputable def putF (f:Str) (v:V):List (Str×V)→List (Str×V)
 | []=>[(f,v)]
 | (g,x) :: r=>if g=f then (g,v) :: r else (g,x) :: putF f v r
theorem zA9 (f g:Str) (v:V):∀ fs:List (Str×V),(putF f v fs).lookup g=if g=f then some v else fs.lookup g
 | []=>by
  show List.lookup g [(f,v)]=_;by_cases h:g=f
  ·have hb:(g == f)=true:=beq_iff_eq.mpr h;simp only [List.lookup,hb,if_pos h]
  ·have hb:(g == f)=false:=beq_eq_false_iff_ne.mpr h;simp only [List.lookup,hb,if_neg h]
 | (k,x) :: r=>by
  have ih:=zA9 f g v r;rw [show putF f v ((k,x) :: r)=(if k=f then (k,v) :: r else (k,x) :: putF f v r) from rfl];by_cases hk:k=f
  ·rw [if_pos hk];by_cases h:g=k
   ·have hb:(g == k)=true:=beq_iff_eq.mpr h;simp only [List.lookup,hb,if_pos (h.trans hk)]
   ·have hb:(g == k)=false:=beq_eq_false_iff_ne.mpr h;simp only [List.lookup,hb,if_neg (fun e:g=f=>h (e.trans hk.symm))]
  ·rw [if_neg hk];by_cases h:g=k
   ·have hb:(g == k)=true:=beq_iff_eq.mpr h;simp only [List.lookup,hb,if_neg (fun e:g=f=>hk (h.symm.trans e))]
   ·have hb:(g == k)=false:=beq_eq_false_iff_ne.mpr h;simp only [List.lookup,hb];exact ih
theorem zDj (f:Str) (v:V):∀ fs:List (Str×V),f∈(putF f v fs).map (·.1)∧∀ g,g∈fs.map (·.1)→g∈(putF f v fs).map (·.1)
 | []=>⟨by simp [putF],fun g h=>by simp at h⟩
 | (k,x) :: r=>by
  obtain ⟨i1,i2⟩:=zDj f v r;rw [show putF f v ((k,x) :: r)=(if k=f then (k,v) :: r else (k,x) :: putF f v r) from rfl];by_cases hk:k=f
  ·rw [if_pos hk];subst hk;exact ⟨by simp,fun g h=>by simpa using h⟩
  ·rw [if_neg hk];refine ⟨?_,fun g h=>?_⟩
   ·rw [Zq];exact Zi _ i1
   ·rw [Zq] at h ⊢;rcases List.mem_cons.mp h with e | e
    ·exact List.mem_cons.mpr (.inl e)
    ·exact Zi _ (i2 g e)
theorem zCa (f:Str) (v:V):∀ fs:List (Str×V),(putF f v fs).length≤fs.length + 1
 | []=>by simp [putF]
 | (k,x) :: r=>by
  have ih:=zCa f v r;rw [show putF f v ((k,x) :: r)=(if k=f then (k,v) :: r else (k,x) :: putF f v r) from rfl];by_cases hk:k=f
  ·rw [if_pos hk,Zh,Zh];omega
  ·rw [if_neg hk,Zh,Zh];omega
theorem RelO.some_of {v:V}{o:Option Value} (r:RelO (some v) o):∃ u,o=some u∧RelV v u:=by
 cases o with
 | none=>exact (show False from r).elim
 | some u=>exact ⟨u,rfl,r⟩
theorem RelO.none_of {o:Option Value} (r:RelO none o):o=none:=by
 cases o with
 | none=>rfl
 | some u=>exact (show False from r).elim
theorem handed_of {v:V}{u:Value} (r:RelV v u):PySem.W.handedIn u=true:=by
 cases v with
 | non=>cases (show u=Value.none from r);rfl
 | bl b=>cases (show u=Value.bool b from r);rfl
 | int i=>obtain ⟨t,e⟩:=(show ∃ t,u=Value.int i t from r);cases e;rfl
 | str x=>obtain ⟨t,e⟩:=(show ∃ t,u=Value.str x t from r);cases e;rfl
 | byt b=>obtain ⟨t,e⟩:=(show ∃ t,u=Value.bytes b t from r);cases e;rfl
 | flt b=>obtain ⟨t,e⟩:=(show ∃ t,u=Value.float b t from r);cases e;rfl
 | ref a=>cases (show u=Value.ref a from r);rfl
 | ty n=>cases (show u=Value.type n from r);rfl
section
variable {P:Program}{w:World}{H H':Hp}{h h':Heap}{a C dx:Addr}{fs fs':List (Str×V)}
theorem zDl (hok:HOk P w H h) (e:H a=some (.ins C dx fs)):∃ mA,ObjM h a dx C mA∧(∀ f,RelO (fs.lookup f) (mA f))∧PySem.Within mA (fs.map (·.1))∧fs.length≤1000∧H dx=some (.own a):=by
 obtain ⟨d,z,ne,ob,mA,n,r,q⟩:=(show ObjOk P w H h a (.ins C dx fs) from hok a _ e);exact ⟨mA,⟨ob,n,ne⟩,r,q,z,d⟩
end
structure Cls (K:PySem.W.Frag) (C:Addr):Prop where
 pg:PySem.W.plainGet K C Str.empty=true
 hd:PySem.W.hasDictIn K C=true
 po:PySem.W.plainOver K C=true
 sa:PySem.W.findIn K (.ref C) "__setattr__" = some (some (.builtin "object.__setattr__"))
theorem Cls.get {K:PySem.W.Frag}{C:Addr} (c:Cls K C) (f:Str):PySem.W.plainGet K C f=true:=c.pg
noncomputable def NoAttr (K:PySem.W.Frag) (C:Addr) (f:Str):Prop:=PySem.W.findIn K (.ref C) f=some none
theorem NoAttr.taker {K:PySem.W.Frag}{C:Addr}{f:Str} (n:NoAttr K C f):PySem.W.takerIn K C f=some none:=by
 unfold PySem.W.takerIn;rw [show PySem.W.findIn K (.ref C) f=some none from n];rfl
structure Meth (K:PySem.W.Frag) (C:Addr) (m:Str) (f:Addr):Prop where
 at_:PySem.W.findIn K (.ref C) m=some (some (.ref f))
 fn:PySem.W.isFn K (.ref f)=true
 kp:PySem.W.keepIn K (.ref f)=true
section
variable {X:Cx}{pins:List (Addr×Obj)}{σ : St}{H:Hp}{s:Shared}{a C dx:Addr}{fs:List (Str×V)}{f:Str}{v:V}{A:Around}{E:Value→Shared→Prop}
theorem getattr_ok {b:Bool}{Q:Value→Shared→Prop} (I:Inv X pins σ H s) (e:H a=some (.ins C dx fs)) (c:Cls X.K C) (n:NoAttr X.K C f) (l:fs.lookup f=some v)
  (h:∀ u s',Inv X pins σ H s'→RelV v u→Q u s'):wpAny (model X.prog X.w) A (getAttr (.ref a) f b) Q E s:=by
 obtain ⟨mA,O,r,_,_,_⟩:=zDl I.hok e;obtain ⟨u,hu,ru⟩:=RelO.some_of (v:=v) (o:=mA f) (by rw [← l];exact r f);exact get_map I.kIn O (c.get f) c.hd n hu (handed_of ru) (h u _ (I.tok _) ru)
theorem zCu {m:Str}{g:Addr}{pl:Sem Bool}{Q:Value×List Value→Shared→Prop} (I:Inv X pins σ H s) (e:H a=some (.ins C dx fs)) (c:Cls X.K C) (k:Meth X.K C m g) (l:fs.lookup m=none)
  (h:Q (.ref g,[.ref a]) s):wpAny (model X.prog X.w) A (getMethod (.ref a) m pl) Q E s:=by
 obtain ⟨mA,O,r,_,_,_⟩:=zDl I.hok e;have hn:mA m=none:=RelO.none_of (by rw [← l];exact r m);exact get_meth I.kIn O (c.get m) k.at_ k.fn hn h
theorem setattr_ok {y:V}{u:Value}{Q:Unit→Shared→Prop} (I:Inv X pins σ H s) (e:H a=some (.ins C dx fs)) (c:Cls X.K C) (n:NoAttr X.K C f) (hl:fs.length < 1000) (ry:RelV y u)
  (h:∀ s',Inv X pins σ (upd H a (.ins C dx (putF f y fs))) s'→Q () s'):wpAny (model X.prog X.w) A (setAttr (.ref a) f u) Q E s:=by
 obtain ⟨mA,O,r,wi,_,ho⟩:=zDl I.hok e;have hz:(fs.map (·.1)).length≤sizeLine:=by rw [Z0,sizeLine_eq];omega
 refine set_map I.kIn O c.sa c.po n.taker c.hd wi hz fun h' O' sb=>h _ ?_;have hd:∃ o,h'.get? dx=some o:=let ⟨o,_,_,e',_⟩:=O'.ns;⟨o,e'⟩;refine I.write (x:=a) (e:=dx) (by rw [e];exact True.intro) (.inr ho) (fun b q hb z=>(sb.2 b hb).trans z) hd ?_;refine ⟨by rw [zA5 O.ne];exact ho,?_,O.ne,O'.obj,_,O'.ns,fun g=>?_,fun g hg=>?_⟩
 ·have:=zCa f y fs;omega
 ·show RelO ((putF f y fs).lookup g) (if g=f then some u else mA g);rw [zA9];by_cases q:g=f
  ·rw [if_pos q,if_pos q];exact ry
  ·rw [if_neg q,if_neg q];exact r g
 ·by_cases q:g=f
  ·rw [q];exact (zDj f y fs).1
  ·refine (zDj f y fs).2 g (wi g fun z=>hg ?_);show (if g=f then some u else mA g)=none;rw [if_neg q];exact z
theorem Inv.made (I:Inv X pins σ H s):Inv X pins σ (upd (upd H s.heap.objs.size (.own (s.heap.objs.size + 1))) (s.heap.objs.size + 1) (.ins C s.heap.objs.size []))
  { s with heap:=(s.heap.push PySem.W.emptyDict).push (PySem.W.instObj C s.heap.objs.size) }:=by
 have e1:(s.heap.push PySem.W.emptyDict).get? s.heap.objs.size=some PySem.W.emptyDict:=Zb s.heap rfl;have e2:((s.heap.push PySem.W.emptyDict).push (PySem.W.instObj C s.heap.objs.size)).get? (s.heap.objs.size + 1)=some (PySem.W.instObj C s.heap.objs.size):=by
  have:=Zb (s.heap.push PySem.W.emptyDict) (o:=PySem.W.instObj C s.heap.objs.size) rfl
  rwa [Ye] at this
 have e3:(s.heap.push PySem.W.emptyDict).Ns s.heap.objs.size (fun _=>none):=⟨PySem.W.emptyDict,#[],_,e1,rfl,(fun e he=>absurd he (by simp)),fun _=>rfl⟩;have I1:=I.laid (a:=s.heap.objs.size) (o:=.own (s.heap.objs.size + 1)) (h':=s.heap.push PySem.W.emptyDict) (t':=s.toks) (fun b u q=>Z2 _ q) (Z5 _) ⟨_,e1⟩;refine I1.laid (a:=s.heap.objs.size + 1) (o:=.ins C s.heap.objs.size []) (t':=s.toks) (fun b u q=>Z2 _ q) (Nat.le_of_eq (Ye _ _)) ?_;have ne:s.heap.objs.size≠s.heap.objs.size + 1:=Ze (Yb _);refine ⟨by rw [zA5 ne,zA1],Zn _,ne,e2,fun _=>none,(Heap.Ns1.of_empty e3).at fun o q=>Z2 _ q,fun _=>True.intro,fun y hy=>absurd rfl hy⟩
theorem attr_of {prog:Program}{w:World}{env:Env}{e:Expr}{f:Str}{pos:Pos}{s:Shared}{Q:Value→Shared→Prop} (hb:attributeBase e f env (eval e env)=eval e env)
  (h:wpAny (model prog w) A (eval e env) (fun o s₁=>wpAny (model prog w) A (getAttr o f true) Q E s₁) E s):wpAny (model prog w) A (eval (.Attribute e f pos) env) Q E s :=
 Attribute_any_ h (by rw [arm_eval_Attribute,hb])
end
noncomputable def tFld (K:PySem.W.Frag) (ta:TE) (f:Str):TE:=fun σ H Q=>ta σ H fun x H1=>∃ a C dx fs v,x=.ref a∧H1 a=some (.ins C dx fs)∧Cls K C∧NoAttr K C f∧fs.lookup f=some v∧Q v H1
noncomputable def sFld (K:PySem.W.Frag) (ta tv:TE) (f:Str):TS:=fun D σ H=>tv σ H fun y H1=>ta σ H1 fun x H2=>∃ a C dx fs,x=.ref a∧H2 a=some (.ins C dx fs)∧Cls K C∧NoAttr K C f∧fs.length < 1000 ∧
 D.nx σ (upd H2 a (.ins C dx (putF f y fs)))
section
variable {X:Cx}{o e value:Expr}{f:Str}{pos pos' tpos:Pos}{ta tv:TE}
theorem zB7 (he:PE X e ta) (hb:attributeBase e f X.env (eval e X.env)=eval e X.env):PE X (.Attribute e f pos) (tFld X.K ta f):=by
 intro pins s σ H Q I h;refine attr_of hb (thn (he pins s σ H _ I h) fun u s1 ⟨x,H1,I1,rx,a,C,dx,fs,v,ex,ea,c,n,l,q⟩=>?_);subst ex;obtain rfl:u=Value.ref a:=rx;exact getattr_ok I1 ea c n l fun u' s2 I2 ru=>⟨v,H1,I2,ru,q⟩
theorem zBu (ha:PE X o ta) (hv:PE X value tv) (hs:swapsWith value (some (.Attribute o f pos')) pos.line X.env=pure false):PS X (.Assign [.Attribute o f pos'] value pos) (sFld X.K ta tv f):=by
 intro pins s σ H D I h;refine plainObj_wpAny_Assign_Attribute (thn (hv pins s σ H _ I h) fun u s1 ⟨y,H1,I1,ry,q⟩=>thn (ha pins s1 σ H1 _ I1 q) fun ov s2 ⟨x,H2,I2,rx,a,C,dx,fs,ex,ea,c,n,l,q2⟩=>?_) hs;subst ex;obtain rfl:ov=Value.ref a:=rx;exact setattr_ok I2 ea c n l ry fun s3 I3=>⟨σ,_,I3,q2⟩
theorem zDh {pl:Sem Bool}{m:Str}{apos:Pos}{args:List Expr}{pins:List (Addr×Obj)}{s:Shared}{σ : St}{H:Hp}{Q:Value→Shared→Prop}{te:TE} (he:PE X e te) (I:Inv X pins σ H s)
  (h:te σ H fun x H1=>∃ a C dx fs g,x=.ref a∧H1 a=some (.ins C dx fs)∧Cls X.K C∧Meth X.K C m g∧fs.lookup m=none ∧
   ∀ s1,Inv X pins σ H1 s1→wpAny (model X.prog X.w) X.A (callWith pos (.ref g) [.ref a] (backTo pos (starEach args X.env)) (backToKw pos (keywordEach [] X.env))) Q X.xe s1)
  (ht:eval (.Call (.Attribute e m apos) args [] pos) X.env=(do
   let ov ← eval e X.env
   standAt apos.atName
   let (f,first) ← holding [ov] (getMethod ov m pl)
   callWith pos f first (backTo pos (starEach args X.env)) (backToKw pos (keywordEach [] X.env)))) :
  wpAny (model X.prog X.w) X.A (eval (.Call (.Attribute e m apos) args [] pos) X.env) Q X.xe s:=by
 refine PySem.W.methodCall_KW (pl:=pl) (thn (he pins s σ H _ I h) fun u s1 ⟨x,H1,I1,rx,a,C,dx,fs,g,ex,ea,c,k,l,q⟩=>?_) ht;subst ex;obtain rfl:u=Value.ref a:=rx;exact zCu I1 ea c k l (q s1 I1)
end
section
variable {X:Cx}{pins:List (Addr×Obj)}{σ : St}{H:Hp}{s:Shared}{A:Around}{E:Value→Shared→Prop}{Q:Value→Shared→Prop}{c:Value}{b:Bool}
inductive TyOf (K:PySem.W.Frag) (H:Hp):V→Value→Prop where
 | non:TyOf K H .non (.type "NoneType")
 | bl (x:Bool):TyOf K H (.bl x) (.type "bool")
 | int (i:Int):TyOf K H (.int i) (.type "int")
 | str (x:Str):TyOf K H (.str x) (.type "str")
 | flt (x:UInt64):TyOf K H (.flt x) (.type "float")
 | lst {a:Addr}{xs:List V} (e:H a=some (.lst xs)):TyOf K H (.ref a) (.type "list")
 | frz {a:Addr}{o:Obj}{xs:List V} (e:H a=some (.frz o (.lst xs))):TyOf K H (.ref a) (.type "list")
 | tup {a:Addr}{xs:List V} (e:H a=some (.tup xs)):TyOf K H (.ref a) (.type "tuple")
 | dK {a:Addr}{kvs:List (Key×V)} (e:H a=some (.dK kvs)):TyOf K H (.ref a) (.type "dict")
 | dT {a:Addr}{kvs:List (List Key×V)} (e:H a=some (.dT kvs)):TyOf K H (.ref a) (.type "dict")
 | ins {a C dx:Addr}{fs:List (Str×V)} (e:H a=some (.ins C dx fs)) (cl:Cls K C) (ha:PySem.W.findIn K (.ref C) "__class__" = some (some (.builtin "object.__class__")))
   (hn:PySem.W.specialIn K (.builtin "object.__class__") "__get__" = some (some (.builtin "getset_descriptor.__get__"))) (htk:PySem.W.takesIn K (.builtin "object.__class__")=some true)
   (hm:PySem.W.mroIn K C (.type "object")=some true):TyOf K H (.ref a) (.ref C)
theorem isinst_ok {x:V}{u t:Value} (I:Inv X pins σ H s) (rx:RelV x u) (ty:TyOf X.K H x t) (e:PySem.W.kitOne X.K t c=some b) (h:∀ tk,Q (.bool b) { s with toks:=tk }) :
  wpAny (model X.prog X.w) A (call (.builtin "isinstance") [u,c]) Q E s:=by
 cases ty with
 | non=>cases (show u=Value.none from rx);exact PySem.W.kia_one PySem.W.kitx_none I.kIn True.intro e (fun z=>nomatch z) h
 | bl y=>cases (show u=Value.bool y from rx);exact PySem.W.kia_one PySem.W.kitx_bool I.kIn True.intro e (fun z=>nomatch z) h
 | int i=>obtain ⟨t,q⟩:=(show ∃ t,u=Value.int i t from rx);cases q;exact PySem.W.kia_one PySem.W.kitx_int I.kIn True.intro e (fun z=>nomatch z) h
 | str y=>obtain ⟨t,q⟩:=(show ∃ t,u=Value.str y t from rx);cases q;exact PySem.W.kia_one PySem.W.kitx_str I.kIn True.intro e (fun z=>nomatch z) h
 | flt y=>obtain ⟨t,q⟩:=(show ∃ t,u=Value.float y t from rx);cases q;exact PySem.W.kia_one PySem.W.kitx_float I.kIn True.intro e (fun z=>nomatch z) h
 | @lst a xs ea =>
  cases (show u=Value.ref a from rx);obtain ⟨_,_,n,_,h1⟩:=(show ObjOk X.prog X.w H s.heap a (.lst xs) from I.hok a _ ea);exact PySem.W.kia_one PySem.W.kitx_list I.kIn ⟨_,h1,rfl⟩ e (fun z=>nomatch z) h
 | @frz a ob xs ea =>
  cases (show u=Value.ref a from rx);obtain ⟨_,_,_,n,_,h1⟩:=(show ObjOk X.prog X.w H s.heap a (.frz ob (.lst xs)) from I.hok a _ ea);exact PySem.W.kia_one PySem.W.kitx_list I.kIn ⟨_,h1,rfl⟩ e (fun z=>nomatch z) h
 | @tup a xs ea =>
  cases (show u=Value.ref a from rx);obtain ⟨_,_,_,p⟩:=(show ObjOk X.prog X.w H s.heap a (.tup xs) from I.hok a _ ea);obtain ⟨o,h1,h2,_⟩:=p;exact PySem.W.kia_one PySem.W.kitx_tuple I.kIn ⟨o,h1,h2⟩ e (fun z=>nomatch z) h
 | @dK a kvs ea =>
  cases (show u=Value.ref a from rx);obtain ⟨_,_,vs,_,p⟩:=(show ObjOk X.prog X.w H s.heap a (.dK kvs) from I.hok a _ ea);obtain ⟨o,es,ep,h1,h2,_⟩:=p;exact PySem.W.kia_one PySem.W.kitx_dict I.kIn ⟨o,h1,h2.1⟩ e (fun z=>nomatch z) h
 | @dT a kvs ea =>
  cases (show u=Value.ref a from rx);obtain ⟨_,_,xs,_,o,es,ep,h1,h2,_⟩:=(show ObjOk X.prog X.w H s.heap a (.dT kvs) from I.hok a _ ea);exact PySem.W.kia_one PySem.W.kitx_dict I.kIn ⟨o,h1,h2.1⟩ e (fun z=>nomatch z) h
 | @ins a C dx fs ea cl ha hn htk hm =>
  cases (show u=Value.ref a from rx);obtain ⟨mA,O,_⟩:=zDl I.hok ea;obtain ⟨od,J,_⟩:=O.look;exact PySem.W.kia_one (PySem.W.kitx_own (cl.get _) cl.hd ha hn htk hm) I.kIn J e (fun z=>nomatch z) h
end
end L2
namespace L2
open PySem PySem.Spec PyProof.Rows
structure Room (k:Nat) (A:Around):Prop where
 hd:A.handled=none
 dp:A.depth + 3 * k + 5 < recursionLimit
 un:A.units + 16 * k + 200 < cLine
theorem Room.mono {j k:Nat}{A:Around} (r:Room k A) (h:j≤k):Room j A:=⟨r.hd,by have:=r.dp;omega,by have:=r.un;omega⟩
theorem Room.deeper {k:Nat}{A:Around} (r:Room (k + 1) A) (env:Env):Room k (A.deeper env) :=
 ⟨r.hd,by have:=r.dp;show A.depth + 1 + 3 * k + 5 < _;omega,by have:=r.un;show A.units + 3 + 16 * k + 200 < _;omega⟩
theorem Room.in1 {k:Nat}{A:Around} (r:Room (k + 1) A):Room k A.in1 :=
 ⟨r.hd,by have:=r.dp;show A.depth + 3 * k + 5 < _;omega,by have:=r.un;show A.units + 1 + 16 * k + 200 < _;omega⟩
theorem make_depth {A:Around}{C:Addr}{us:List Value}{kw:List (Str×Value)}:(A.under (.builtin "type.__call__" ⟨.ref C :: us,kw⟩)).depth=A.depth + 1:=by
 first | rfl | simp [Around.under,Code.weight,Code.isCreation,Code.isGuard,Code.isCaller,Code.frames,Code.isFrame,guardIds]
theorem make_units {A:Around}{C:Addr}{us:List Value}{kw:List (Str×Value)}:(A.under (.builtin "type.__call__" ⟨.ref C :: us,kw⟩)).units=A.units + 1:=by
 first | rfl | simp [Around.under,Code.cUnits,Code.frames,Code.isFrame]
theorem Room.make {k:Nat}{A:Around} (r:Room (k + 1) A) (C:Addr) (us:List Value) (kw:List (Str×Value)):Room k (A.under (.builtin "type.__call__" ⟨.ref C :: us,kw⟩)) :=
 ⟨r.hd,by have:=r.dp;rw [make_depth];omega,by have:=r.un;rw [make_units];omega⟩
theorem Room.depth {k:Nat}{A:Around} (r:Room k A):A.depth < recursionLimit:=by have:=r.dp;omega
theorem Room.units {k:Nat}{A:Around} (r:Room k A):A.units + 64 < cLine:=by have:=r.un;omega
noncomputable def tNil:TA:=fun _ H Q=>Q [] H
noncomputable def tCons (ta:TE) (tr:TA):TA:=fun σ H Q=>ta σ H fun x H1=>tr σ H1 fun xs H2=>Q (x :: xs) H2
section
variable {X:Cx}{e:Expr}{es:List Expr}{te:TE}{t:TA}{pos:Pos}
theorem zA4:PA X [] tNil:=fun _ _ _ _ H Q I h=>Calls.spliced_nil ⟨[],H,I,.nil,h⟩
theorem zA0 (ha:PE X e te) (hr:PA X es t) (hs:starEach (e :: es) X.env=(false,eval e X.env) :: starEach es X.env:=by rfl):PA X (e :: es) (tCons te t):=by
 intro pos pins s σ H Q I h;rw [hs];show wpAny _ _ (spliced ((false,eval e X.env) :: backTo pos (starEach es X.env))) _ _ s;refine Calls.spliced_cons (thn (ha pins s σ H _ I h) fun u s1 ⟨x,H1,I1,r1,q1⟩=>?_);exact thn (hr pos pins s1 σ H1 _ I1 q1) fun us s2 ⟨xs,H2,I2,r2,q2⟩=>⟨x :: xs,H2,I2,.cons r1 r2,q2⟩
noncomputable def tTup (t:TA):TE:=fun σ H Q=>t σ H fun xs H1=>xs.length≤sizeLine∧∀ p,H1 p=none→Q (.ref p) (upd H1 p (.tup xs))
noncomputable def tLst (t:TA):TE:=fun σ H Q=>t σ H fun xs H1=>xs.length≤sizeLine∧∀ p,H1 p=none→Q (.ref p) (upd H1 p (.lst xs))
theorem zDd {x1} (h:PA X es t):PE X (.Tuple es x1 pos) (tTup t):=by
 intro pins s σ H Q I hq;refine wpAny_Tuple_spliced (thn (h pos pins s σ H _ I hq) fun us s1 ⟨xs,H1,I1,r,z,q⟩=>⟨by rw [← r.length];exact z,?_⟩);have hf:H1 s1.heap.objs.size=none:=I1.hok.fresh (Z5 _);refine ⟨.ref s1.heap.objs.size,upd H1 s1.heap.objs.size (.tup xs),I1.laid (t':=s1.toks) (fun b u e=>Z2 _ e) (Z5 _) ?_,rfl,q _ hf⟩;exact ⟨z,us,r,⟨_,Zb _ rfl,rfl,_,rfl⟩⟩
theorem zB2 (h:PA X es t):PE X (.List es pos) (tLst t):=by
 intro pins s σ H Q I hq;refine wpAny_List_spliced (thn (h pos pins s σ H _ I hq) fun us s1 ⟨xs,H1,I1,r,z,q⟩=>⟨by rw [← r.length];exact z,?_⟩);have hf:H1 s1.heap.objs.size=none:=I1.hok.fresh (Z5 _);refine ⟨.ref s1.heap.objs.size,upd H1 s1.heap.objs.size (.lst xs),I1.laid (t':=s1.toks) (fun b u e=>Z2 _ e) (Z5 _) ?_,rfl,q _ hf⟩;exact ⟨z,us,0,r,Zb _ rfl⟩
end
noncomputable abbrev Sp:=List V→Hp→VK→XK→Prop
noncomputable abbrev CXT:=List Env→Hp→Shared→XK→Value→Shared→Prop
structure Env0 (P:Program) (w:World) (K:PySem.W.Frag) (mg:Str→Option Value) (base:Heap) (A:Around) (outer:List Env) (s:Shared) (H:Hp):Prop where
 frames:A.frames=some outer
 mod:Mod K mg base
 bs:∀ b o,base.get? b=some o→s.heap.get? b=some o∧H b=none
 bsz:base.objs.size≤s.heap.objs.size
 funs:s.heap.FunFrames base outer
 frf:∀ b∈frs outer,H b=none
 hok:HOk P w H s.heap
 bare:AllBare s.gens
noncomputable def CE (outer:List Env) (P:Program) (w:World) (H:Hp) (s:Shared) (Q:VK) (u:Value) (s':Shared):Prop :=
 ∃ v H',s'.os=s.os∧AllBare s'.gens∧Un (frs outer) [] H H' s.heap s'.heap∧HOk P w H' s'.heap∧RelV v u∧Q v H'
noncomputable def CR (CX:CXT) (outer:List Env) (P:Program) (w:World) (H:Hp) (s:Shared) (Q:VK) (E:XK) (r:Result) (s':Shared):Prop :=
 match r with
 | .ok (.ret u)=>CE outer P w H s Q u s'
 | .ok _=>False
 | .error e=>CX outer H s E e s'
structure FnOk (P:Program) (w:World) (K:PySem.W.Frag) (mg:Str→Option Value) (base:Heap) (CX:CXT) (k:Nat) (f:Addr) (fd:FuncData) (ps:List Str) (sp:Sp):Prop where
 len:∀ vs H Q E,sp vs H Q E→vs.length=ps.length
 run:∀ (A:Around) (outer:List Env) (s:Shared) (H:Hp) (args:Args) (us:List Value) (vs:List V) (Q:VK) (E:XK),Room k A→Env0 P w K mg base A outer s H→BindsTo s fd args (ps.zip us)→Vals vs us→sp vs H Q E →
  codeAny (model P w) A (.call (.ref f) args) (CR CX outer P w H s Q E) s
theorem FnOk.imp {P:Program}{w:World}{K:PySem.W.Frag}{mg:Str→Option Value}{base:Heap}{CX:CXT}{k:Nat}{f:Addr}{fd:FuncData}{ps:List Str}{sp sp':Sp} (F:FnOk P w K mg base CX k f fd ps sp)
  (h:∀ vs H Q E,sp' vs H Q E→sp vs H Q E):FnOk P w K mg base CX k f fd ps sp' :=
 ⟨fun vs H Q E q=>F.len vs H Q E (h _ _ _ _ q),fun A outer s H args us vs Q E hr he hb hv hs=>F.run A outer s H args us vs Q E hr he hb hv (h _ _ _ _ hs)⟩
theorem Env0.make {P:Program}{w:World}{K:PySem.W.Frag}{mg:Str→Option Value}{base:Heap}{A:Around}{outer:List Env}{s:Shared}{H:Hp} (e:Env0 P w K mg base A outer s H) (C:Addr) (us:List Value) (kw:List (Str×Value)) :
  Env0 P w K mg base (A.under (.builtin "type.__call__" ⟨.ref C :: us,kw⟩)) outer s H:=⟨by first | exact e.frames | (simpa [Around.under,Code.envs,Code.isFrame,pushEnvs] using e.frames),e.mod,e.bs,e.bsz,e.funs,e.frf,e.hok,e.bare⟩
section
variable {X:Cx}{pins:List (Addr×Obj)}{σ : St}{H:Hp}{s s':Shared}
theorem Inv.env0 (I:Inv X pins σ H s):Env0 X.prog X.w X.K X.mg X.base X.A X.stack s H :=
 ⟨I.ok.frames,I.ok.mod,I.bs,Zp I.ok.bsz I.sz,I.stack,I.stkFree,I.hok,I.bare⟩
theorem Inv.after {Q:VK}{u:Value} (I:Inv X pins σ H s) (h:CE X.stack X.prog X.w H s Q u s'):EP X pins σ Q u s':=by
 obtain ⟨v,H',os,bare,un,hok,r,q⟩:=h;obtain ⟨hh,g,d,t,os'⟩:=s';obtain rfl:os'=s.os:=os;exact ⟨v,H',I.call (h':=hh) (g':=g) (d':=d) (t':=t) (ch:=[]) un hok bare (fun b z=>absurd z (by simp)),r,q⟩
end
noncomputable def tCall (sp:Sp) (dvs:List V) (E:St→XK) (t:TA):TE:=fun σ H Q=>t σ H fun vs H1=>sp (vs++dvs) H1 Q (E σ)
noncomputable def tMeth (C:Addr) (m:Str) (sp:Sp) (dvs:List V) (E:St→XK) (ta:TE) (t:TA):TE:=fun σ H Q=>ta σ H fun x H1=>∃ a dx fs,x=.ref a∧H1 a=some (.ins C dx fs)∧fs.lookup m=none ∧
 t σ H1 fun vs H2=>sp (x :: (vs++dvs)) H2 Q (E σ)
noncomputable def tMake (C:Addr) (sp:Sp) (dvs:List V) (E:St→XK) (t:TA):TE:=fun σ H Q=>t σ H fun vs H1=>∀ x dx,H1 x=none→H1 dx=none→dx≠x →
 sp (.ref x :: (vs++dvs)) (upd (upd H1 dx (.own x)) x (.ins C dx [])) (fun v H2=>v=.non∧Q (.ref x) H2) (E σ)
noncomputable def Binds (K:PySem.W.Frag) (fd:FuncData) (ps:List Str) (ds:List Value):Prop :=
 ∀ (s:Shared) (us:List Value),K.In s.heap→(us++ds).length=ps.length→BindsTo s fd ⟨us,[]⟩ (ps.zip (us++ds))
theorem Binds.all {K:PySem.W.Frag}{fd:FuncData}{ps:List Str} (h:∀ us:List Value,us.length=ps.length→bindArgs fd ⟨us,[]⟩=pure (ps.zip us)):Binds K fd ps []:=fun s us _ hl=>by
 rw [List.append_nil] at hl ⊢;exact .of_eq (h us hl)
noncomputable def Passes (CX:CXT) (X:Cx) (E:St→XK):Prop:=∀ (pins:List (Addr×Obj)) (σ : St) (H:Hp) (s:Shared) (e:Value) (s':Shared),Inv X pins σ H s→CX X.stack H s (E σ) e s'→X.xe e s'
section
variable {X:Cx}{CX:CXT}{k:Nat}{f C:Addr}{fd:FuncData}{ps:List Str}{sp:Sp}{dvs:List V}{ds:List Value}{E:St→XK}{x m:Str}{p pos apos:Pos}{e o:Expr}{es:List Expr}{ta:TE}{t:TA}
theorem run_fn {pins:List (Addr×Obj)}{σ : St}{H:Hp}{s:Shared}{Q:VK}{us:List Value}{vs:List V} (F:FnOk X.prog X.w X.K X.mg X.base CX k f fd ps sp) (hr:Room k X.A) (hb:Binds X.K fd ps ds) (hd:Vals dvs ds) (hx:Passes CX X E)
  (I:Inv X pins σ H s) (r:Vals vs us) (h:sp (vs++dvs) H Q (E σ)):wpAny (model X.prog X.w) X.A (call (.ref f) us) (EP X pins σ Q) X.xe s:=by
 have r2:Vals (vs++dvs) (us++ds):=r.append hd;have hl:(us++ds).length=ps.length:=by rw [← r2.length];exact F.len _ _ _ _ h
 refine wpAny_call (codeAny_mono (F.run X.A X.stack s H ⟨us,[]⟩ (us++ds) (vs++dvs) Q (E σ) hr I.env0 (hb s us I.kIn hl) r2 h) fun r s' hq=>?_);cases r with
 | error e=>exact hx pins σ H s e s' I hq
 | ok fl =>
  cases fl with
  | ret u=>exact I.after hq
  | next=>exact False.elim hq
  | brk=>exact False.elim hq
  | cont=>exact False.elim hq
theorem zAc (F:FnOk X.prog X.w X.K X.mg X.base CX k f fd ps sp) (hr:Room k X.A) (hg:Gl X x) (hm:X.mg x=some (.ref f)) (hk:PySem.W.keepIn X.K (.ref f)=true) (hb:Binds X.K fd ps ds) (hd:Vals dvs ds) (hx:Passes CX X E)
  (ha:PA X (e :: es) t) (hdb:(x == ("__debug__" : Str))=false:=by decide) (he:starEach (e :: es) X.env=(false,eval e X.env) :: starEach es X.env:=by rfl) (hpl:(backTo pos (starEach es X.env)).any (·.1)=false:=by rfl) :
  PE X (.Call (.Name x p) (e :: es) [] pos) (tCall sp dvs E t):=by
 intro pins s σ H Q I h;refine wpAny_Call_Name_kw (zCt I hg hm ?_ hdb);refine PySem.W.callWith_K (h₀:=X.base) I.ok.mod.kin hk (thn (ha pos pins s σ H _ I h) fun us s1 ⟨vs,H1,I1,r,q⟩=>⟨I1.kIn,?_⟩) he hpl;exact run_fn F hr hb hd hx I1 r q
theorem zCr {pl:Sem Bool} (he:PE X o ta) (c:Cls X.K C) (hm:Meth X.K C m f) (F:FnOk X.prog X.w X.K X.mg X.base CX k f fd ps sp) (hr:Room k X.A) (hb:Binds X.K fd ps ds) (hd:Vals dvs ds) (hx:Passes CX X E) (ha:PA X (e :: es) t)
  (hst:starEach (e :: es) X.env=(false,eval e X.env) :: starEach es X.env:=by rfl) (hpl:(backTo pos (starEach es X.env)).any (·.1)=false:=by rfl)
  (ht:eval (.Call (.Attribute o m apos) (e :: es) [] pos) X.env=(do
   let ov ← eval o X.env
   standAt apos.atName
   let (f,first) ← holding [ov] (getMethod ov m pl)
   callWith pos f first (backTo pos (starEach (e :: es) X.env)) (backToKw pos (keywordEach [] X.env))):=by rfl) :
  PE X (.Call (.Attribute o m apos) (e :: es) [] pos) (tMeth C m sp dvs E ta t):=by
 intro pins s σ H Q I h;refine PySem.W.methodCall_KW (pl:=pl) (thn (he pins s σ H _ I h) fun u s1 ⟨x,H1,I1,rx,a,dx,fs,ex,ea,l,q⟩=>?_) ht;subst ex;obtain rfl:u=Value.ref a:=rx;refine zCu I1 ea c hm l ?_;refine PySem.W.callWith_K (first:=[.ref a]) (h₀:=X.base) I.ok.mod.kin hm.kp (thn (ha pos pins s1 σ H1 _ I1 q) fun us s2 ⟨vs,H2,I2,r,q2⟩=>⟨I2.kIn,?_⟩) hst hpl;exact run_fn (us:=.ref a :: us) (vs:=.ref a :: vs) F hr hb hd hx I2 (.cons rfl r) q2
theorem zD5 {pl:Sem Bool} (he:PE X o ta) (c:Cls X.K C) (hm:Meth X.K C m f) (F:FnOk X.prog X.w X.K X.mg X.base CX k f fd ps sp) (hr:Room k X.A) (hb:Binds X.K fd ps ds) (hd:Vals dvs ds) (hx:Passes CX X E)
  (ht:eval (.Call (.Attribute o m apos) [] [] pos) X.env=(do
   let ov ← eval o X.env
   standAt apos.atName
   let (f,first) ← holding [ov] (getMethod ov m pl)
   callWith pos f first (backTo pos (starEach [] X.env)) (backToKw pos (keywordEach [] X.env))):=by rfl) :
  PE X (.Call (.Attribute o m apos) [] [] pos) (tMeth C m sp dvs E ta tNil):=by
 intro pins s σ H Q I h;refine PySem.W.methodCall_KW (pl:=pl) (thn (he pins s σ H _ I h) fun u s1 ⟨x,H1,I1,rx,a,dx,fs,ex,ea,l,q⟩=>?_) ht;subst ex;obtain rfl:u=Value.ref a:=rx;refine zCu I1 ea c hm l ?_;exact PySem.W.callWith_K0 (first:=[.ref a]) I1.kIn hm.kp (run_fn (us:=[.ref a]) (vs:=[.ref a]) F hr hb hd hx I1 (.cons rfl .nil) q)
structure Mk (K:PySem.W.Frag) (C f:Addr):Prop where
 makes:PySem.W.makesIn K C=true
 init:PySem.W.findIn K (.ref C) "__init__" = some (some (.ref f))
 fn:PySem.W.isFn K (.ref f)=true
 kp:PySem.W.keepIn K (.ref C)=true
theorem run_make {pins:List (Addr×Obj)}{σ : St}{H:Hp}{s:Shared}{Q:VK}{us:List Value}{vs:List V} (M:Mk X.K C f) (F:FnOk X.prog X.w X.K X.mg X.base CX k f fd ps sp) (hr:Room (k + 1) X.A) (hb:Binds X.K fd ps ds) (hd:Vals dvs ds)
  (hx:Passes CX X E) (I:Inv X pins σ H s) (r:Vals vs us)
  (h:∀ x dx,H x=none→H dx=none→dx≠x→sp (.ref x :: (vs++dvs)) (upd (upd H dx (.own x)) x (.ins C dx [])) (fun v H2=>v=.non∧Q (.ref x) H2) (E σ)) :
  wpAny (model X.prog X.w) X.A (call (.ref C) us) (EP X pins σ Q) X.xe s:=by
 have hq:=h (s.heap.objs.size + 1) s.heap.objs.size (I.hok.fresh (Nat.le_succ _)) (I.hok.fresh (Z5 _)) (Ze (Yb _));have I2:=Inv.made (C:=C) I;have r2:Vals (V.ref (s.heap.objs.size + 1) :: (vs++dvs)) (Value.ref (s.heap.objs.size + 1) :: (us++ds)):=.cons rfl (r.append hd);have hl:(Value.ref (s.heap.objs.size + 1) :: us++ds).length=ps.length:=by
  have e:=r2.length;rw [F.len _ _ _ _ hq] at e;exact e.symm
 refine wpAny_call (make_map (f:=f) I.kIn M.makes M.init (beq_iff_eq.mp M.fn) (codeAny_mono (F.run _ X.stack _ _ ⟨Value.ref (s.heap.objs.size + 1) :: us,[]⟩ (Value.ref (s.heap.objs.size + 1) :: (us++ds)) _ _ (E σ) (hr.make C us [])
  (I2.env0.make C us []) (hb _ (Value.ref (s.heap.objs.size + 1) :: us) I2.kIn hl) r2 hq) fun r s' hq'=>?_))
 cases r with
 | error e=>exact hx pins σ _ _ e s' I2 hq'
 | ok fl =>
  cases fl with
  | ret u =>
   obtain ⟨v,H',I3,rv,ev,q3⟩:=I2.after hq';subst ev;exact ⟨rv,⟨V.ref (s.heap.objs.size + 1),H',I3,rfl,q3⟩⟩
  | next=>exact False.elim hq'
  | brk=>exact False.elim hq'
  | cont=>exact False.elim hq'
theorem zBo (M:Mk X.K C f) (F:FnOk X.prog X.w X.K X.mg X.base CX k f fd ps sp) (hr:Room (k + 1) X.A) (hg:Gl X x) (hm:X.mg x=some (.ref C)) (hb:Binds X.K fd ps ds) (hd:Vals dvs ds) (hx:Passes CX X E)
  (ha:PA X (e :: es) t) (hdb:(x == ("__debug__" : Str))=false:=by decide) (he:starEach (e :: es) X.env=(false,eval e X.env) :: starEach es X.env:=by rfl) (hpl:(backTo pos (starEach es X.env)).any (·.1)=false:=by rfl) :
  PE X (.Call (.Name x p) (e :: es) [] pos) (tMake C sp dvs E t):=by
 intro pins s σ H Q I h;refine wpAny_Call_Name_kw (zCt I hg hm ?_ hdb);refine PySem.W.callWith_K (h₀:=X.base) I.ok.mod.kin M.kp (thn (ha pos pins s σ H _ I h) fun us s1 ⟨vs,H1,I1,r,q⟩=>⟨I1.kIn,?_⟩) he hpl;exact run_make M F hr hb hd hx I1 r q
end
section
variable {X:Cx}{CX:CXT}{k:Nat}{f C:Addr}{fd:FuncData}{ps ks:List Str}{sp:Sp}{E:St→XK}{x m:Str}{p pos apos kpos:Pos}{e o:Expr}{es:List Expr}{kws:List Keyword}{te ta:TE}{t tk:TA}{nm:Option Str}
variable {g:List Value→List Value→List Value}{gV:List V→List V→List V}
end
structure FnScope (N P:List Str) (sc:Scope):Prop where
 kind:sc.kind=.function
 co:sc.isCoroutine=false
 gen:sc.isGenerator=false
 nd:N.Nodup
 pre:N.take P.length=P
 par:∀ x∈P,sc.names.lookup x=some .local∨sc.names.lookup x=some .cell
 nofree:∀ y∈sc.names,y.2≠.free
theorem bindL_out {kindOf:Str→Option NameKind}{x:Str}:∀ {binds:List (Str×Value)}{m:Str→Option Value},(∀ v,(x,v)∉binds)→bindL kindOf binds m x=m x
 | [],_,_=>rfl
 | (n,v) :: r,m,h=>by
  unfold bindL;rw [bindL_out fun w hw=>h w (Zi _ hw)];split
  ·have:x≠n:=by rintro rfl;exact h v Zj
   simp [this]
  ·rfl
theorem bindC_out {kindOf:Str→Option NameKind}{x:Str}:∀ {binds:List (Str×Value)}{m:Str→Option Value},(∀ v,(x,v)∉binds)→bindC kindOf binds m x=m x
 | [],_,_=>rfl
 | (n,v) :: r,m,h=>by
  unfold bindC;rw [bindC_out fun w hw=>h w (Zi _ hw)];split
  ·rfl
  ·have:x≠n:=by rintro rfl;exact h v Zj
   simp [this]
theorem bindL_get {kindOf:Str→Option NameKind}{x:Str}{v:Value}:∀ {P:List Str}{vs:List Value}{i:Nat}{m:Str→Option Value},P.Nodup→P[i]? = some x→vs[i]? = some v→kindOf x=some .local →
  bindL kindOf (P.zip vs) m x=some v
 | [],_,_,_,_,h,_,_=>by simp at h
 | _ :: _,[],_,_,_,_,h,_=>by simp at h
 | p :: P,w :: vs,0,m,nd,h1,h2,hk=>by
  simp at h1 h2;subst h1;subst h2;show bindL kindOf ((p,w) :: P.zip vs) m p=_;unfold bindL;rw [bindL_out fun v hv=>(List.nodup_cons.mp nd).1 (List.of_mem_zip hv).1,if_pos hk];simp
 | p :: P,w :: vs,i + 1,m,nd,h1,h2,hk=>by
  show bindL kindOf ((p,w) :: P.zip vs) m x=_;unfold bindL;exact bindL_get (i:=i) (List.nodup_cons.mp nd).2 (by simpa using h1) (by simpa using h2) hk
theorem bindC_get {kindOf:Str→Option NameKind}{x:Str}{v:Value}:∀ {P:List Str}{vs:List Value}{i:Nat}{m:Str→Option Value},P.Nodup→P[i]? = some x→vs[i]? = some v→kindOf x≠some .local →
  bindC kindOf (P.zip vs) m x=some v
 | [],_,_,_,_,h,_,_=>by simp at h
 | _ :: _,[],_,_,_,_,h,_=>by simp at h
 | p :: P,w :: vs,0,m,nd,h1,h2,hk=>by
  simp at h1 h2;subst h1;subst h2;show bindC kindOf ((p,w) :: P.zip vs) m p=_;unfold bindC;rw [bindC_out fun v hv=>(List.nodup_cons.mp nd).1 (List.of_mem_zip hv).1,if_neg hk];simp
 | p :: P,w :: vs,i + 1,m,nd,h1,h2,hk=>by
  show bindC kindOf ((p,w) :: P.zip vs) m x=_;unfold bindC;exact bindC_get (i:=i) (List.nodup_cons.mp nd).2 (by simpa using h1) (by simpa using h2) hk
noncomputable def start (N:List Str) (vs:List V):St:=vs.map some++List.replicate (N.length - vs.length) none
noncomputable def cxOf (CX:CXT) (P:Program) (w:World) (K:PySem.W.Frag) (mg:Str→Option Value) (base:Heap) (N:List Str) (qual:Str) (scope:Scope) (f:Addr) (cd:Value) (A:Around) (outer:List Env) (s:Shared) (H:Hp) (E:XK):Cx where
 prog:=P
 w:=w
 K:=K
 mg:=mg
 base:=base
 A:=A.deeper (envOfC qual scope s.heap.objs.size f cd)
 N:=N
 s₀:=s
 H₀:=H
 env:=envOfC qual scope s.heap.objs.size f cd
 outer:=outer
 stack:=envOfC qual scope s.heap.objs.size f cd :: outer
 ex:=[]
 calm:=true
 fn:=fun _=>true
 pn:=[]
 xe:=fun e s'=>wpAny (model P w) (A.deeper (envOfC qual scope s.heap.objs.size f cd)) (leaving (envOfC qual scope s.heap.objs.size f cd) e) (fun _ s''=>CX outer H s E e s'') (fun e' s''=>CX outer H s E e' s'') s'
theorem cell_has {sc:Scope}{n:Nat}{x:Str} (h:sc.names.lookup x=some .cell):∃ c,(cellsFrom n sc.names []).lookup x=some c:=by
 have q:=PySem.W.cellsFrom_some sc.names n [] (.inl h);exact Option.isSome_iff_exists.mp q
theorem inv_start {CX:CXT}{P:Program}{w:World}{K:PySem.W.Frag}{mg:Str→Option Value}{base:Heap}{N ps:List Str}{qual:Str}{scope:Scope}{f:Addr}{cd:Value}{A:Around}{outer:List Env}{s s1:Shared}{H:Hp}{E:XK}{us:List Value}{vs:List V}
  (S:FnScope N ps scope) (hd:A.handled=none) (e0:Env0 P w K mg base A outer s H) (hl:vs.length=ps.length) (r:Vals vs us)
  (x:InCallC s s.heap.objs.size (bindL (envOfC qual scope s.heap.objs.size f cd).kindOf (ps.zip us) fun _=>none) (cellsFrom (s.heap.objs.size + 1) scope.names []) (bindC (envOfC qual scope s.heap.objs.size f cd).kindOf (ps.zip us) fun _=>none) s1) :
  Inv (cxOf CX P w K mg base N qual scope f cd A outer s H E) [] (start N vs) H s1:=by
 have hpl:ps.length≤N.length:=by have:=congrArg List.length S.pre;rw [Zc] at this;omega
 obtain ⟨h1,tk,rfl,hk⟩:=x.done;have noA:∀ b:Addr,b∉(cxOf CX P w K mg base N qual scope f cd A outer s H E).ex:=fun b z=>absurd (show b∈([]:List Addr) from z) (by simp)
 refine ⟨⟨e0.mod,S.kind,rfl,rfl,Z5 _,fun y z c h1 h2=>?_,fun y hy=>?_,fun y c _ h=>?_,fun _=>hd,Around.frames_deeper e0.frames,.inr ⟨rfl,rfl⟩,fun b z=>absurd z (noA b),e0.bs,e0.bsz,fun b _ _=>noA b,fun b z=>absurd z (noA b),e0.funs,e0.frf⟩,
  rfl,e0.bare,Un.kept hk,⟨_,x.toInCall.ns,fun i y v h1 h2 h3=>?_⟩,fun y c h=>⟨_,x.cell y c h⟩,e0.hok.fresh (Z5 _),fun y c h=>?_,fun p hp=>absurd (show p∈([]:List (Addr×Obj)) from hp) (by simp),e0.hok.kept hk,?_⟩
 ·exact name_of_addr x.apart (PySem.mem_of_lookup h1) (PySem.mem_of_lookup h2)
 ·have hy:scope.names.lookup y=some .cell∨scope.names.lookup y=some .free:=hy;rcases hy with hy | hy
  ·exact cell_has hy
  ·exact absurd rfl (S.nofree _ (PySem.mem_of_lookup hy))
 ·exact Zt (x.above y c (PySem.mem_of_lookup h))
 ·have hi:i < vs.length:=by
   unfold start at h2;by_cases hi:i < vs.length
   ·exact hi
   ·rw [Y3 (by simpa using hi)] at h2;rw [List.getElem?_replicate] at h2;split at h2 <;> cases h2
  have ha:vs[i]? = some v:=by
   unfold start at h2;rw [Zm (by simpa using hi),Z8] at h2;cases e:vs[i]? with
   | none=>rw [e] at h2;cases h2
   | some a=>rw [e] at h2;cases h2;rfl
  obtain ⟨u,hu,rv⟩:=r.get ha;have hp:ps[i]? = some y:=by
   rw [← S.pre,List.getElem?_take_of_lt (by omega)];exact h1
  have ndP:ps.Nodup:=by rw [← S.pre];exact S.nd.sublist (List.take_sublist _ _)
  refine ⟨u,rv,?_⟩;rcases S.par y (Z4 hp) with k | k
  ·exact .inl ⟨k,bindL_get ndP hp hu k⟩
  ·obtain ⟨c,e⟩:=cell_has (n:=s.heap.objs.size + 1) k;refine .inr ⟨.inl k,c,e,?_⟩;have q:=x.cell y c e;rw [bindC_get ndP hp hu (by show scope.names.lookup y≠_;rw [k];decide)] at q;exact q
 ·exact e0.hok.fresh (Zt (x.above y c (PySem.mem_of_lookup h)))
 ·unfold start;show _=N.length;rw [Zk,Z0,Y6];omega
theorem fn_of {CX:CXT}{P:Program}{w:World}{K:PySem.W.Frag}{mg:Str→Option Value}{base:Heap}{k:Nat}{f:Addr}{name qual:Str}{params:Arguments}{body:List Stmt}{scope:Scope}{dV kV doc pm cdv ct oc:Value}{an od:Option Addr}
  {osl:Array (Option Value)}{N ps:List Str}{sp:Sp} (lk:K.lookup f=some ⟨oc,od,.func (PySem.W.fnOf name qual params body scope dV kV doc pm an cdv ct),osl⟩) (hcd:PySem.W.codeIn K cdv qual=true) (S:FnScope N ps scope)
  (len:∀ vs H Q E,sp vs H Q E→vs.length=ps.length)
  (hbody:∀ (A:Around) (outer:List Env) (s:Shared) (H:Hp) (vs:List V) (Q:VK) (E:XK),Room k (A.deeper (envOfC qual scope s.heap.objs.size f cdv))→sp vs H Q E →
   ∃ t,PSs (cxOf CX P w K mg base N qual scope f cdv A outer s H E) body t∧t { nx:=fun _ H'=>Q .non H',rt:=Q } (start N vs) H) :
  FnOk P w K mg base CX (k + 1) f (PySem.W.fnOf name qual params body scope dV kV doc pm an cdv ct) ps sp:=by
 refine ⟨len,fun A outer s H args us vs Q E hr e0 hb r hsp=>?_⟩;have hl:=len _ _ _ _ hsp;have KX:K.In s.heap:=e0.mod.kin.keeps fun b o e=>(e0.bs b o e).1;have lim:s.heap.NoLimit:=e0.mod.nolimit.keeps fun b o e=>(e0.bs b o e).1;have hkind:∀ y∈ps.zip us,scope.names.lookup y.1=some .local∨(scope.names.lookup y.1=some .cell∧((cellsFrom (s.heap.objs.size + 1) scope.names []).lookup y.1).isSome=true):=fun ⟨n,v⟩ hy=>by
  rcases S.par n (List.of_mem_zip hy).1 with q | q
  ·exact .inl q
  ·exact .inr ⟨q,PySem.W.cellsFrom_some _ _ _ (.inl q)⟩
 refine codeAny_call_function hr.depth (KX _ _ lk) rfl S.co S.gen rfl (PySem.W.codeRec_of KX hcd) (hb _ _ _ _ ?_);refine wpAny_newFunctionEnv_cells S.kind hkind fun env he s1 x=>?_;subst he;refine ⟨lim.keeps x.toInCall.keep,codeAny_func ?_⟩;obtain ⟨t,ht,hq⟩:=hbody A outer s H vs Q E (hr.deeper _) hsp;have I:Inv (cxOf CX P w K mg base N qual scope f cdv A outer s H E) [] (start N vs) H s1:=inv_start S hr.hd e0 hl r x;refine wpAny_mono (ht [] s1 (start N vs) H _ I hq) (fun fl s' hs=>?_) fun e s' hs=>hs;have fin:∀ {σ':St}{H':Hp}{v:V}{u:Value},Inv (cxOf CX P w K mg base N qual scope f cdv A outer s H E) [] σ' H' s'→RelV v u→Q v H'→CE outer P w H s Q u s' :=
  fun {σ' H' v u} J rv q=>⟨v,H',J.os,J.bare,J.base,J.hok,rv,q⟩
 cases fl with
 | ret u =>
  obtain ⟨v,σ',H',J,rv,q⟩:=hs;exact fin J rv q
 | next =>
  obtain ⟨σ',H',J,q⟩:=hs;exact fin (v:=V.non) (u:=Value.none) J rfl q
 | brk =>
  obtain ⟨_,_,_,q⟩:=hs;exact False.elim q
 | cont =>
  obtain ⟨_,_,_,q⟩:=hs;exact False.elim q
end L2
namespace L2
open PySem PySem.Spec PyProof.Rows
section
variable {X:Cx}{x:Str}{p pos:Pos}{e:Expr}{es:List Expr}{t:TA}{id T:String}{r:List V→Hp→VK→Prop}
noncomputable def tCB (r:List V→Hp→VK→Prop) (t:TA):TE:=fun σ H Q=>t σ H fun vs H1=>r vs H1 Q
theorem zA7 (hc:CallR X (.builtin id) r) (hg:Gl X x) (hm:X.mg x=none) (hv:bootBuiltins x=some (.builtin id)) (ha:PA X (e :: es) t) (hn:x≠"__name__":=by decide) (hdb:(x == ("__debug__" : Str))=false:=by decide)
  (he:starEach (e :: es) X.env=(false,eval e X.env) :: starEach es X.env:=by rfl) (hpl:(backTo pos (starEach es X.env)).any (·.1)=false:=by rfl):PE X (.Call (.Name x p) (e :: es) [] pos) (tCB r t):=by
 intro pins s σ H Q I h;refine wpAny_Call_Name_kw (zDu I hg hm hv ?_ hn hdb);exact PyProof.Rows.callWith_builtin1 (thn (ha pos pins s σ H _ I h) fun us s1 ⟨vs,H1,I1,r1,q1⟩=>hc pins s1 σ H1 vs us Q I1 r1 q1) he hpl
theorem zAo (hc:CallR X (.type T) r) (hg:Gl X x) (hm:X.mg x=none) (hv:bootBuiltins x=some (.type T)) (ha:PA X (e :: es) t) (hn:x≠"__name__":=by decide) (hdb:(x == ("__debug__" : Str))=false:=by decide)
  (he:starEach (e :: es) X.env=(false,eval e X.env) :: starEach es X.env:=by rfl) (hpl:(backTo pos (starEach es X.env)).any (·.1)=false:=by rfl):PE X (.Call (.Name x p) (e :: es) [] pos) (tCB r t):=by
 intro pins s σ H Q I h;refine wpAny_Call_Name_kw (zDu I hg hm hv ?_ hn hdb);exact PyProof.Rows.callWith_type1 (thn (ha pos pins s σ H _ I h) fun us s1 ⟨vs,H1,I1,r1,q1⟩=>hc pins s1 σ H1 vs us Q I1 r1 q1) he hpl
end
end L2
namespace HT
open PySem PyProof.Rows
section
open PySem.SeqAt
open PySem.AutoSeq1 (wpAny_loadPart')
open PySem.MeetsSeq PySem.MeetsSeq2 PySem.MeetsSeq3
end
section
variable {prog:Program}{w:World}{A:Around}{E:Value→Shared→Prop}{s:Shared}
noncomputable def sIx (n d:Nat):Option Int→Nat
 | none=>d
 | some v=>if v < 0 then (v + (n:Int)).toNat else min v.toNat n
end
end HT
namespace L2
open PySem PySem.Spec PyProof.Rows
noncomputable abbrev TO:=St→Hp→(Option Int→Hp→Prop)→Prop
noncomputable def PO (X:Cx) (e:Option Expr) (t:TO):Prop :=
 ∀ (pins:List (Addr×Obj)) (s:Shared) (σ : St) (H:Hp) (Q:Option Int→Hp→Prop),Inv X pins σ H s→t σ H Q →
  wpAny (model X.prog X.w) X.A (evalPart e X.env) (fun u s'=>∃ o H',Inv X pins σ H' s'∧IsPart u o∧Q o H') X.xe s
noncomputable def tNoPart:TO:=fun _ H Q=>Q none H
noncomputable def tPart (t:TE):TO:=fun σ H Q=>t σ H fun x H1=>∃ i,x=.int i∧Q (some i) H1
section
variable {X:Cx}{e:Expr}{te:TE}{lo hi:Option Expr}{tl th:TO}{pos p2:Pos}
theorem zBn:PO X none tNoPart:=by
 intro pins s σ H Q I h;rw [evalPart_none];exact wpAny_pure ⟨none,H,I,.none,h⟩
theorem zB4 (h:PE X e te):PO X (some e) (tPart te):=by
 intro pins s σ H Q I hw;rw [evalPart_some];refine thn (h pins s σ H _ I hw) fun u s1 ⟨x,H1,I1,r1,q1⟩=>?_;obtain ⟨i,rfl,q⟩:=q1;obtain ⟨t,rfl⟩:=r1;exact ⟨some i,H1,I1,.int i t,q⟩
noncomputable def SlR (X:Cx) (r:V→Option Int→Option Int→Hp→VK→Prop):Prop :=
 ∀ (pins:List (Addr×Obj)) (s:Shared) (σ : St) (H:Hp) (x:V) (v vl vu:Value) (lo hi:Option Int) (sl:Addr) (Q:VK),Inv X pins σ H s→RelV x v→s.heap.IsSliceOf sl vl vu .none→IsPart vl lo→IsPart vu hi→r x lo hi H Q →
  ∃ T id,typeLookup (.type T) "__getitem__" = pure (some (.builtin id))∧s.TypeIs v T∧wpAny (model X.prog X.w) X.A (getItem v (.ref sl)) (EP X pins σ Q) X.xe s
noncomputable def tSl (r:V→Option Int→Option Int→Hp→VK→Prop) (te:TE) (tl th:TO):TE:=fun σ H Q=>te σ H fun x H1=>tl σ H1 fun l H2=>th σ H2 fun u H3=>r x l u H3 Q
theorem zAx {r:V→Option Int→Option Int→Hp→VK→Prop} (hr:SlR X r) (he:PE X e te) (hl:PO X lo tl) (hu:PO X hi th):PE X (.Subscript e (.Slice lo hi none p2) pos) (tSl r te tl th):=by
 intro pins s σ H Q I h;refine Subscript_ (thn (he pins s σ H _ I h) fun v s1 ⟨x,H1,I1,r1,q1⟩=>?_);refine wpAny_Slice (thn (hl pins s1 σ H1 _ I1 q1) fun vl s2 ⟨l,H2,I2,pl,q2⟩=>thn (hu pins s2 σ H2 _ I2 q2) fun vu s3 ⟨u,H3,I3,pu,q3⟩=>?_);rw [evalPart_none];refine wpAny_pure ?_;have I4:Inv X pins σ H3 { s3 with heap:=s3.heap.push { cls:=.type "slice",data:=.fields #[vl,vu,.none] } }:=I3.kept (t':=s3.toks) fun b ob q=>Z2 _ q;obtain ⟨T,id,hT,ht,hg⟩:=hr pins { s3 with heap:=s3.heap.push { cls:=.type "slice",data:=.fields #[vl,vu,.none] } } σ H3 x v vl vu l u s3.heap.objs.size Q I4 r1 (Heap.IsSliceOf.new ..) pl pu q3;show wpAny (model X.prog X.w) X.A (subscriptTail e (.Slice lo hi none p2) v (.ref s3.heap.objs.size)) (EP X pins σ Q) X.xe { s3 with heap:=s3.heap.push { cls:=.type "slice",data:=.fields #[vl,vu,.none] } };exact tail_any (ops:=[.ref s3.heap.objs.size,v]) ht hT hg (by with_unfolding_all rfl)
noncomputable def cutV (xs:List V) (lo hi:Option Int):List V:=(xs.drop (HT.sIx xs.length 0 lo)).take (HT.sIx xs.length xs.length hi - HT.sIx xs.length 0 lo)
theorem cutV_length (xs:List V) (lo hi:Option Int):(cutV xs lo hi).length≤xs.length:=by
 unfold cutV;rw [Zc,Zw];omega
end
end L2
namespace L2
open PySem PySem.Spec PyProof.Rows
noncomputable def ixN (n:Nat) (i:Int):Option Nat:=if 0≤i then (if i < n then some i.toNat else none) else if -(n:Int)≤i then some (i + n).toNat else none
noncomputable def atI {α : Type} (xs:List α) (i:Int):Option α:=(ixN xs.length i).bind fun j=>xs[j]?
theorem ixN_seq {n:Nat}{i:Int}{j:Nat} (h:ixN n i=some j):seqIndex? i n=some j∧j < n∧-(n:Int)≤i∧i < n:=by
 unfold ixN at h;by_cases h0:0≤i
 ·rw [if_pos h0] at h;by_cases h1:i < n
  ·rw [if_pos h1] at h;have e:i.toNat=j:=Zg h;exact ⟨by rw [seqIndex_of h0 h1,e],by omega,by omega,h1⟩
  ·rw [if_neg h1] at h;cases h
 ·rw [if_neg h0] at h;by_cases h1 : -(n:Int)≤i
  ·rw [if_pos h1] at h;have e:(i + n).toNat=j:=Zg h;exact ⟨by rw [seqIndex_neg (by omega) h1,e],by omega,h1,by omega⟩
  ·rw [if_neg h1] at h;cases h
theorem atI_get {α : Type}{xs:List α}{i:Int}{v : α} (h:atI xs i=some v):∃ j,seqIndex? i xs.length=some j∧xs[j]? = some v∧j < xs.length∧-(xs.length:Int)≤i∧i < xs.length:=by
 unfold atI at h;cases e:ixN xs.length i with
 | none=>rw [e] at h;cases h
 | some j =>
  rw [e] at h;obtain ⟨h1,h2,h3,h4⟩:=ixN_seq e;exact ⟨j,h1,h,h2,h3,h4⟩
theorem zCx {α : Type}{xs:List α}{j:Nat}{v : α} (h:xs[j]? = some v):atI xs (j:Int)=some v:=by
 have hj:j < xs.length:=(List.getElem?_eq_some_iff.mp h).1;have e:ixN xs.length (j:Int)=some j:=by
  unfold ixN;rw [if_pos (by omega),if_pos (by omega)];simp
 unfold atI;rw [e];exact h
noncomputable def PlainIx (b:Expr):Prop:=∀ o i,subscripted b false o i=operate [o,i] (getItem o i)
noncomputable def IxR (X:Cx) (r:R2):Prop :=
 ∀ (value slice:Expr) (pins:List (Addr×Obj)) (s:Shared) (σ : St) (H:Hp) (x y:V) (v u:Value) (Q:VK),Inv X pins σ H s→RelV x v→RelV y u→r x y H Q →
  subscripted slice false v u=operate [v,u] (getItem v u)→wpAny (model X.prog X.w) X.A (subscriptTail value slice v u) (EP X pins σ Q) X.xe s
noncomputable def MtR (X:Cx) (id:String) (r:V→List V→Hp→VK→Prop):Prop :=
 ∀ (pins:List (Addr×Obj)) (s:Shared) (σ : St) (H:Hp) (x:V) (xs:List V) (v:Value) (us:List Value) (Q:VK),Inv X pins σ H s→RelV x v→Vals xs us→r x xs H Q →
  wpAny (model X.prog X.w) X.A (call (.builtin id) (v :: us)) (EP X pins σ Q) X.xe s
section
variable {X:Cx}{a b:Expr}{ta tb:TE}{pos:Pos}
theorem zBp {r:R2} (hr:IxR X r) (ha:PE X a ta) (hb:PE X b tb) (hs:PlainIx b):PE X (.Subscript a b pos) (tOp r ta tb):=by
 intro pins s σ H Q I h;exact Subscript_ (binT ha hb I h fun v u s2 x y H2 I2 rx ry q=>hr a b pins s2 σ H2 x y v u Q I2 rx ry q (hs _ _))
noncomputable def rIxL (K:PySem.W.Frag):R2:=fun x y H Q=>∃ p xs i v,x=.ref p∧y=.int i∧SqL K H p xs∧atI xs i=some v∧Q v H
noncomputable def rIxT (K:PySem.W.Frag):R2:=fun x y H Q=>∃ p xs i v,x=.ref p∧y=.int i∧SqT K H p xs∧atI xs i=some v∧Q v H
theorem zB9:IxR X (rIxL X.K):=by
 intro value slice pins s σ H x y v u Q I rx ry h hs;obtain ⟨p,xs,i,z,rfl,rfl,hq,he,q⟩:=h;cases rx;obtain ⟨t,rfl⟩:=ry;obtain ⟨its,r,pl,hz⟩:=I.list hq;obtain ⟨j,h1,h2,h3,h4,h5⟩:=atI_get he;obtain ⟨w,ew,rw'⟩:=r.get h2;have hl:=r.length;have hn:=line63;have fin:EP X pins σ Q w s:=⟨z,H,I,rw',q⟩;by_cases h0:0≤i
 ·have hj:i.toNat=j:=by
   rw [seqIndex_of h0 h5] at h1;exact Zg h1
  exact item_listR pl.isList h0 (by omega) (by rw [hj];simpa using ew) fin hs
 ·have hj:(i + (its.toArray.size:Int)).toNat=j:=by
   rw [seqIndex_neg (by omega) h4] at h1;rw [Zf,← hl];exact Zg h1
  exact subscriptTail_builtinR (x:=w) pl.isList.typeIs slot_list_getitem.lookup
   (wpAny_getItem_list_neg (Q:=fun r s'=>r=w∧EP X pins σ Q r s') pl.isList (by omega) (by rw [Zf] <;> omega) (by omega) (by rw [hj];simpa using ew) ⟨rfl,fin⟩) hs
theorem ix_tup:IxR X (rIxT X.K):=by
 intro value slice pins s σ H x y v u Q I rx ry h hs;obtain ⟨p,xs,i,z,rfl,rfl,hq,he,q⟩:=h;cases rx;obtain ⟨t,rfl⟩:=ry;obtain ⟨its,r,pl,hz⟩:=I.tuple hq;obtain ⟨j,h1,h2,h3,h4,h5⟩:=atI_get he;obtain ⟨w,ew,rw'⟩:=r.get h2;have hl:=r.length;have hn:=line63;have fin:EP X pins σ Q w s:=⟨z,H,I,rw',q⟩;exact subscriptTail_builtinR (x:=w) pl.typeIs slot_tuple_getitem.lookup
  (getItem_tuple (j:=j) (Q:=fun r s'=>r=w∧EP X pins σ Q r s') pl (by omega) (by omega) (by rw [Zf,← hl];exact h1) (by simpa using ew) ⟨rfl,fin⟩) hs
theorem mapSeq_set (its:List Value) (n j:Nat) (u:Value):Obj.mapSeq (·.setIfInBounds j u) { cls:=.type "list",data:=.seq its.toArray n }={ cls:=.type "list",data:=.seq (its.set j u).toArray n }:=by
 simp [Obj.mapSeq]
theorem Inv.lst {pins:List (Addr×Obj)}{σ : St}{H:Hp}{s:Shared}{p:Addr}{xs:List V} (I:Inv X pins σ H s) (h:H p=some (.lst xs)) :
  ∃ (its:List Value) (n:Nat),Vals xs its∧s.heap.get? p=some { cls:=.type "list",data:=.seq its.toArray n }∧xs.length≤sizeLine:=by
 obtain ⟨z,its,n,r,e⟩:=I.hok p _ h;exact ⟨its,n,r,e,z⟩
theorem Inv.lstUpd {pins:List (Addr×Obj)}{σ : St}{H:Hp}{s:Shared}{p:Addr}{xs ys:List V}{its its':List Value}{n n':Nat}{f:Obj→Obj} (I:Inv X pins σ H s) (h:H p=some (.lst xs))
  (ho:s.heap.get? p=some { cls:=.type "list",data:=.seq its.toArray n }) (hf:f { cls:=.type "list",data:=.seq its.toArray n }={ cls:=.type "list",data:=.seq its'.toArray n' }) (r:Vals ys its') (hz:ys.length≤sizeLine) (t:Nat) :
  Inv X pins σ (upd H p (.lst ys)) { s with heap:=s.heap.update p f,toks:=t }:=by
 have e:(s.heap.update p f).get? p=some { cls:=.type "list",data:=.seq its'.toArray n' }:=by
  rw [Heap.get?_update_self f ho (by rw [hf] <;> rfl),hf]
 refine I.write (x:=p) (e:=p) (by rw [h];trivial) (.inl rfl) (fun b u hb q=>(Heap.get?_update_other _ _ (Ne.symm hb)).trans q) ⟨_,e⟩ ?_;exact ⟨hz,its',n',r,e⟩
noncomputable def rSetL:V→V→V→Hp→(Hp→Prop)→Prop:=fun o i v H Q=>∃ p xs k j,o=.ref p∧i=.int k∧H p=some (.lst xs)∧ixN xs.length k=some j∧Q (upd H p (.lst (xs.set j v)))
theorem set_list:PSet X rSetL:=by
 intro pins s σ H o i v ov iv u Q I ro ri rv h;obtain ⟨p,xs,k,j,rfl,rfl,hp,hj,q⟩:=h;cases ro;obtain ⟨t,rfl⟩:=ri;obtain ⟨its,n,r,ho,hz⟩:=I.lst hp;obtain ⟨h1,h2,h3,h4⟩:=ixN_seq hj;have hl:=r.length;have hn:=line63;have I':Inv X pins σ (upd H p (.lst (xs.set j v))) { s with heap:=s.heap.update p (Obj.mapSeq (·.setIfInBounds j u)) } :=
  I.lstUpd hp ho (mapSeq_set its n j u) (r.set rv j) (by rw [List.length_set];exact hz) s.toks
 by_cases h0:0≤k
 ·have hk:k.toNat=j:=by
   rw [seqIndex_of h0 h4] at h1;exact Zg h1
  exact PySem.W.ki_setAt ho h0 (by omega) (by rw [Zf,← hl];exact h4) (by rw [hk];exact ⟨_,I',q⟩)
 ·have hk:(k + (its.toArray.size:Int)).toNat=j:=by
   rw [seqIndex_neg (by omega) h3] at h1;rw [Zf,← hl];exact Zg h1
  exact PySem.W.ki_setBack ho (by omega) (by rw [Zf,← hl];exact h3) (by omega) (by rw [hk];exact ⟨_,I',q⟩)
theorem slice_bounds (lo hi:Option Int) (n:Nat):(sliceBounds lo hi none n).1=((HT.sIx n 0 lo:Nat):Int)∧(sliceBounds lo hi none n).2.1=((HT.sIx n n hi:Nat):Int)∧(sliceBounds lo hi none n).2.2=1:=by
 refine ⟨?_,?_,rfl⟩
 ·cases lo with
  | none=>simp [sliceBounds,HT.sIx]
  | some i =>
   simp only [sliceBounds,HT.sIx,Option.getD_none,show (1:Int) > 0 by decide,if_true];by_cases h:i < 0
   ·simp only [h,if_true] <;> omega
   ·simp only [h,if_false] <;> omega
 ·cases hi with
  | none=>simp [sliceBounds,HT.sIx]
  | some i =>
   simp only [sliceBounds,HT.sIx,Option.getD_none,show (1:Int) > 0 by decide,if_true];by_cases h:i < 0
   ·simp only [h,if_true] <;> omega
   ·simp only [h,if_false] <;> omega
theorem zDz (its:List Value) (lo hi:Option Int):slicePick its.toArray lo hi none=((its.drop (HT.sIx its.length 0 lo)).take (HT.sIx its.length its.length hi - HT.sIx its.length 0 lo)).toArray:=by
 obtain ⟨h1,h2,h3⟩:=slice_bounds lo hi its.toArray.size;unfold slicePick;rw [h1,h2,h3];simp only [sliceRange_one,pick_run,Zf] <;> rfl
noncomputable def rSlL (K:PySem.W.Frag):V→Option Int→Option Int→Hp→VK→Prop:=fun x lo hi H Q=>∃ a xs,x=.ref a∧SqL K H a xs∧∀ p,H p=none→Q (.ref p) (upd H p (.lst (cutV xs lo hi)))
theorem zBj:SlR X (rSlL X.K):=by
 intro pins s σ H x v vl vu lo hi sl Q I rx hs pl pu h;obtain ⟨a,xs,rfl,hx,q⟩:=h;cases rx;obtain ⟨its,r,ht,hz⟩:=I.list hx;have hlen:=r.length;refine ⟨"list",_,slot_list_getitem.lookup,ht.isList.typeIs,?_⟩;refine wpAny_getItem_list_slice ht.isList hs pl pu .none (by simp) ?_ (by rw [Zf] <;> omega);rw [zDz,← hlen];refine ⟨.ref s.heap.objs.size,_,I.laid (t':=s.toks) (o:=.lst (cutV xs lo hi)) (fun b ob q=>Z2 _ q) (Z5 _) ?_,rfl,q _ (I.hok.fresh (Z5 _))⟩;exact ⟨Zp (cutV_length xs lo hi) hz,_,0,(r.drop (HT.sIx xs.length 0 lo)).take (HT.sIx xs.length xs.length hi - HT.sIx xs.length 0 lo),Zb _ rfl⟩
noncomputable def flatV:V→Bool
 | .non=>true
 | .bl _=>true
 | .int _=>true
 | .str _=>true
 | _=>false
noncomputable def eqV:V→V→Bool
 | .non,.non=>true
 | .bl a,.bl b=>a == b
 | .bl a,.int b=>(if a then 1 else 0) == b
 | .int a,.bl b=>a == (if b then 1 else 0)
 | .int a,.int b=>a == b
 | .str a,.str b=>a == b
 | _,_=>false
theorem eqAt_V {A:Around}{s:Shared}{y x:V}{u v:Value} (ry:RelV y u) (rx:RelV x v) (fy:flatV y=true) (fx:flatV x=true):SeqAt.EqAt A s u v (eqV y x):=by
 cases y with
 | non =>
  cases ry;cases x with
  | non=>cases rx;exact SeqAt.EqAt.same _
  | bl b=>cases rx;exact SeqAt.EqAt.none_bool b
  | int b=>obtain ⟨t,rfl⟩:=rx;exact SeqAt.EqAt.none_int b t
  | str b=>obtain ⟨t,rfl⟩:=rx;exact SeqAt.EqAt.none_str b t
  | _=>exact absurd (show false=true from fx) Z3
 | bl a =>
  cases ry;cases x with
  | non=>cases rx;exact SeqAt.EqAt.bool_none a
  | bl b=>cases rx;exact SeqAt.EqAt.bool_bool a b
  | int b=>obtain ⟨t,rfl⟩:=rx;exact SeqAt.EqAt.bool_int a b t
  | str b=>obtain ⟨t,rfl⟩:=rx;exact SeqAt.EqAt.bool_str a b t
  | _=>exact absurd (show false=true from fx) Z3
 | int a =>
  obtain ⟨t',rfl⟩:=ry;cases x with
  | non=>cases rx;exact SeqAt.EqAt.int_none a t'
  | bl b=>cases rx;exact SeqAt.EqAt.int_bool a t' b
  | int b=>obtain ⟨t,rfl⟩:=rx;exact SeqAt.EqAt.int_int a t' b t
  | str b=>obtain ⟨t,rfl⟩:=rx;exact SeqAt.EqAt.int_str a t' b t
  | _=>exact absurd (show false=true from fx) Z3
 | str a =>
  obtain ⟨t',rfl⟩:=ry;cases x with
  | non=>cases rx;exact SeqAt.EqAt.str_none a t'
  | bl b=>cases rx;exact SeqAt.EqAt.str_bool a t' b
  | int b=>obtain ⟨t,rfl⟩:=rx;exact SeqAt.EqAt.str_int a t' b t
  | str b=>obtain ⟨t,rfl⟩:=rx;exact SeqAt.EqAt.str_str a t' b t
  | _=>exact absurd (show false=true from fx) Z3
 | _=>exact absurd (show false=true from fy) Z3
noncomputable def eqU (x:V) (u:Value):Bool:=match u with
 | .none=>eqV .non x
 | .bool b=>eqV (.bl b) x
 | .int i _=>eqV (.int i) x
 | .str z _=>eqV (.str z) x
 | _=>false
theorem eqU_of {x y:V}{u:Value} (r:RelV y u) (f:flatV y=true):eqU x u=eqV y x:=by
 cases y with
 | non=>cases r;rfl
 | bl b=>cases r;rfl
 | int i=>obtain ⟨t,rfl⟩:=r;rfl
 | str z=>obtain ⟨t,rfl⟩:=r;rfl
 | _=>exact absurd (show false=true from f) Z3
theorem zDp {x:V}:∀ {xs:List V}{us:List Value},Vals xs us→xs.all flatV=true→us.any (eqU x)=xs.any fun y=>eqV y x
 | _,_,.nil,_=>rfl
 | y :: xs,u :: us,.cons r t,f=>by
  rw [Y8,Y0] at f;rw [Y9,Y9,eqU_of r f.1,zDp t f.2]
theorem zC5 {A:Around}{s:Shared}{x:V}{v:Value} (rx:RelV x v) (fx:flatV x=true):∀ {xs:List V}{us:List Value},Vals xs us→xs.all flatV=true→∀ u∈us,SeqAt.EqAt A s u v (eqU x u)
 | _,_,.nil,_=>fun u hu=>by cases hu
 | y :: xs,u :: us,.cons r t,f=>fun u' hu=>by
  rw [Y8,Y0] at f;rcases List.mem_cons.mp hu with rfl | hu
  ·rw [eqU_of r f.1];exact eqAt_V r rx f.1 fx
  ·exact zC5 rx fx t f.2 u' hu
noncomputable def inV (x:V) (xs:List V):Bool:=xs.any fun y=>eqV y x
noncomputable def rIn (K:PySem.W.Frag) (neg:Bool):R2:=fun x y H Q=>∃ p xs,y=.ref p∧(SqL K H p xs∨SqT K H p xs)∧flatV x=true∧xs.all flatV=true∧Q (.bl (if neg then !inV x xs else inV x xs)) H
theorem zCj:OpR X (compareOp .In) (rIn X.K false):=by
 intro pins s σ H x y v u Q I rx ry h;obtain ⟨p,xs,rfl,hq,fx,fs,q⟩:=h;cases ry;rcases hq with hq | hq
 ·obtain ⟨its,r,pl,hz⟩:=I.list hq;refine SeqAt.in_listAt (eqU x) pl.isList (fun w hw=>zC5 rx fx r fs w (by simpa using hw)) ⟨.bl _,H,I,rfl,?_⟩;rw [show its.toArray.any (eqU x)=its.any (eqU x) by simp,zDp r fs];exact q
 ·obtain ⟨its,r,pl,hz⟩:=I.tuple hq;refine SeqAt.in_tupleAt (eqU x) pl (fun w hw=>zC5 rx fx r fs w (by simpa using hw)) ⟨.bl _,H,I,rfl,?_⟩;rw [show its.toArray.any (eqU x)=its.any (eqU x) by simp,zDp r fs];exact q
theorem zB8:OpR X (compareOp .NotIn) (rIn X.K true):=by
 intro pins s σ H x y v u Q I rx ry h;obtain ⟨p,xs,rfl,hq,fx,fs,q⟩:=h;cases ry;rcases hq with hq | hq
 ·obtain ⟨its,r,pl,hz⟩:=I.list hq;refine SeqAt.notIn_listAt (eqU x) pl.isList (fun w hw=>zC5 rx fx r fs w (by simpa using hw)) ⟨.bl _,H,I,rfl,?_⟩;rw [show its.toArray.any (eqU x)=its.any (eqU x) by simp,zDp r fs];exact q
 ·obtain ⟨its,r,pl,hz⟩:=I.tuple hq;refine SeqAt.notIn_tupleAt (eqU x) pl (fun w hw=>zC5 rx fx r fs w (by simpa using hw)) ⟨.bl _,H,I,rfl,?_⟩;rw [show its.toArray.any (eqU x)=its.any (eqU x) by simp,zDp r fs];exact q
theorem zAe:CallR X (.builtin "len") (fun xs H Q=>∃ p ys,xs=[.ref p]∧(SqL X.K H p ys∨SqT X.K H p ys)∧Q (.int ys.length) H):=by
 intro pins s σ H xs us Q I r h;obtain ⟨p,ys,rfl,hq,q⟩:=h;obtain ⟨u,rfl,rx⟩:=vals1 r;cases rx;have hn:=line63;rcases hq with hq | hq
 ·obtain ⟨its,r',pl,hz⟩:=I.list hq;have hlen:=r'.length;exact Calls.call_len_list pl.isList (by simp only [Zf] <;> omega) ⟨.int ys.length,H,I.tok _,⟨s.toks + 1,by rw [Zf,hlen]⟩,q⟩
 ·obtain ⟨its,r',pl,hz⟩:=I.tuple hq;have hlen:=r'.length;exact len_tuple pl (by simp only [Zf] <;> omega) ⟨.int ys.length,H,I.tok _,⟨s.toks + 1,by rw [Zf,hlen]⟩,q⟩
theorem call_len_str:CallR X (.builtin "len") (fun xs H Q=>∃ z,xs=[.str z]∧z.length≤sizeLine∧Q (.int z.length) H):=by
 intro pins s σ H xs us Q I r h;obtain ⟨z,rfl,hz,q⟩:=h;obtain ⟨u,rfl,t,rfl⟩:=vals1 r;have hn:=line63;exact len_str (by omega) ⟨.int z.length,H,I.tok _,⟨_,rfl⟩,q⟩
theorem zB0:CallR X (.type "list") (fun xs H Q=>∃ p ys,xs=[.ref p]∧(SqL X.K H p ys∨SqT X.K H p ys)∧∀ l,H l=none→Q (.ref l) (upd H l (.lst ys))):=by
 intro pins s σ H xs us Q I r h;obtain ⟨p,ys,rfl,hq,q⟩:=h;obtain ⟨u,rfl,rx⟩:=vals1 r;cases rx
 have fin:∀ (its:List Value),Vals ys its→ys.length≤sizeLine→∀ (h':Heap) (c':Nat),(∀ b o',s.heap.get? b=some o'→h'.get? b=some o') →
   h'.get? s.heap.objs.size=some { cls:=.type "list",dict:=none,data:=.seq its.toArray c',slots:=#[] }→EP X pins σ Q (.ref s.heap.objs.size) { s with heap:=h' }:=fun its r' hz h' c' kp e =>
  ⟨.ref s.heap.objs.size,_,I.laid (t':=s.toks) kp (Z5 _) (show ObjOk X.prog X.w _ h' _ (.lst ys) from ⟨hz,its,c',r',e⟩),rfl,q _ (I.hok.fresh (Z5 _))⟩
 rcases hq with hq | hq
 ·obtain ⟨its,r',pl,hz⟩:=I.list hq;have hlen:=r'.length;obtain ⟨o,ho,hc,n,hd⟩:=pl.isList;exact call_list_seq p (.inl rfl) ho hc hd (fun h' c' kp e=>fin its r' hz h' c' kp e) (by simp only [Zf] <;> omega)
 ·obtain ⟨its,r',pl,hz⟩:=I.tuple hq;have hlen:=r'.length;obtain ⟨o,ho,hc,n,hd⟩:=pl;exact call_list_seq p (.inr rfl) ho hc hd (fun h' c' kp e=>fin its r' hz h' c' kp e) (by simp only [Zf] <;> omega)
noncomputable def tyV (K:PySem.W.Frag) (T:String) (x:V) (H:Hp):Prop:=match x with
 | .str _=>T = "str"
 | .int _=>T = "int"
 | .ref p=>(T = "list"∧∃ xs,SqL K H p xs)∨(T = "tuple"∧∃ o,K.lookup p=some o∧o.cls=.type "tuple"∧o.dict=none) ∨
   (T = "dict"∧((∃ kvs,H p=some (.dK kvs))∨∃ kvs,H p=some (.dT kvs)))∨(T = "set"∧∃ S n,H p=some (.set S n))
 | _=>False
theorem tyV_is {pins:List (Addr×Obj)}{σ : St}{H:Hp}{s:Shared}{T:String}{x:V}{v:Value} (I:Inv X pins σ H s) (r:RelV x v) (ty:tyV X.K T x H) :
  s.TypeIs v T∧∀ a,v=.ref a→∃ ob,s.heap.get? a=some ob∧ob.dict=none:=by
 cases x with
 | str z =>
  obtain ⟨t,rfl⟩:=r;cases (show T = "str" from ty);exact ⟨typeIs_str s z t,fun _ e=>nomatch e⟩
 | int i =>
  obtain ⟨t,rfl⟩:=r;cases (show T = "int" from ty);exact ⟨typeIs_int s i t,fun _ e=>nomatch e⟩
 | ref p =>
  cases r;rcases ty with ⟨rfl,xs,hq⟩ | ⟨rfl,o,hk,hc,hd⟩ | ⟨rfl,hk⟩ | ⟨rfl,S,n,hk⟩
  ·obtain ⟨its,_,pl,_⟩:=I.list hq;refine ⟨pl.isList.typeIs,fun a e=>?_⟩;cases e;obtain ⟨o,n,e,c,hd,_⟩:=pl;exact ⟨o,e,hd⟩
  ·refine ⟨⟨o,I.kIn p o hk,hc⟩,fun a e=>?_⟩;cases e;exact ⟨o,I.kIn _ o hk,hd⟩
  ·have z:∃ o,s.heap.get? p=some o∧o.ExactDict:=by
    rcases hk with ⟨kvs,hk⟩ | ⟨kvs,hk⟩
    ·obtain ⟨_,_,_,_,o,_,_,e,ex,_⟩:=I.hok p _ hk;exact ⟨o,e,ex⟩
    ·obtain ⟨_,_,_,_,o,_,_,e,ex,_⟩:=I.hok p _ hk;exact ⟨o,e,ex⟩
   obtain ⟨o,e,ex⟩:=z;refine ⟨⟨o,e,ex.1⟩,fun a e2=>?_⟩;cases e2;exact ⟨o,e,ex.2.1⟩
  ·obtain ⟨o,_,_,_,e,ex,_⟩:=I.hok p _ hk;refine ⟨⟨o,e,ex.1⟩,fun a e2=>?_⟩;cases e2;exact ⟨o,e,ex.2.1⟩
 | _=>exact False.elim ty
noncomputable def tBM (K:PySem.W.Frag) (T:String) (r:V→List V→Hp→VK→Prop) (to:TE) (t:TA):TE:=fun σ H Q=>to σ H fun x H1=>tyV K T x H1∧t σ H1 fun xs H2=>r x xs H2 Q
variable {o e:Expr}{es:List Expr}{to:TE}{t:TA}{name:Str}{apos cpos:Pos}{T id:String}{r:V→List V→Hp→VK→Prop}
theorem pe_bm (pa:PlainAttrs T) (slot:Slot T name id) (hty:typeOf (.builtin id)=pure (.type "method_descriptor")) (hm:MtR X id r) (ho:PE X o to) (ha:PA X (e :: es) t)
  (hbase:attributeBase o name X.env (eval o X.env)=eval o X.env:=by rfl)
  (hfew:((backTo cpos (starEach (e :: es) X.env)).all (fun x=>!x.1) && (backToKw cpos (keywordEach [] X.env)).all (fun x=>x.1.isSome)
   && decide ((e :: es).length + ([]:List Keyword).length + (if ([]:List Keyword).isEmpty then 0 else 1) < 30))=true:=by rfl)
  (hline:(apos.endLine == cpos.line)=true:=by rfl) (hs:starEach (e :: es) X.env=(false,eval e X.env) :: starEach es X.env:=by rfl) (hplain:(backTo cpos (starEach es X.env)).any (·.1)=false:=by rfl) :
  PE X (.Call (.Attribute o name apos) (e :: es) [] cpos) (tBM X.K T r to t):=by
 intro pins s σ H Q I h;refine wpAny_Call_method_late hbase hfew hline rfl (thn (ho pins s σ H _ I h) fun v s1 ⟨x,H1,I1,r1,ty,q1⟩=>?_);obtain ⟨h1,h2⟩:=tyV_is I1 r1 ty;refine ⟨T,id,pa,slot,hty,h1,h2,?_⟩;have hA:=ha cpos pins s1 σ H1 _ I1 q1;rw [hs] at hA ⊢;refine Calls.callWith_builtin (by show (false || (backTo cpos (starEach es X.env)).any (·.1))=false;rw [hplain] <;> rfl) (Calls.evalArgs_plain ?_);exact thn hA fun us s2 ⟨vs,H2,I2,r2,q2⟩=>hm pins s2 σ H2 x vs v us Q I2 r1 r2 q2
end
end L2
namespace L2
open PySem PySem.Spec PyProof.Rows
noncomputable def MtM (X:Cx) (id:String) (r:V→List V→Hp→VK→Prop):Prop :=
 ∀ (pins:List (Addr×Obj)) (s:Shared) (σ : St) (H:Hp) (x:V) (xs:List V) (v:Value) (us:List Value) (Q:VK),Inv X pins σ H s→RelV x v→Vals xs us→r x xs H Q →
  wpAny (model X.prog X.w) X.A (call (.builtin id) (v :: us)) (EP X pins σ Q) X.xe s
theorem Vals.one:∀ {x:V}{us:List Value},Vals [x] us→∃ u,us=[u]∧RelV x u
 | _,_,.cons r .nil=>⟨_,rfl,r⟩
theorem Vals.dropLast {xs:List V}{us:List Value} (h:Vals xs us):Vals xs.dropLast us.dropLast:=by
 induction h with
 | nil=>exact .nil
 | cons r t ih =>
  cases t with
  | nil=>exact .nil
  | cons q t'=>exact .cons r ih
theorem Vals.eraseIdx:∀ {xs:List V}{us:List Value} (i:Nat),Vals xs us→Vals (xs.eraseIdx i) (us.eraseIdx i)
 | _,_,_,.nil=>.nil
 | _,_,0,.cons _ t=>t
 | _,_,i + 1,.cons r t=>.cons r (Vals.eraseIdx i t)
theorem erase_last {α : Type} (l:List α):l.eraseIdx (l.length - 1)=l.dropLast:=by
 induction l with
 | nil=>rfl
 | cons a r ih =>
  cases r with
  | nil=>rfl
  | cons b r =>
   have e:(a :: b :: r).length - 1=((b :: r).length - 1) + 1:=by
    have h1:(a :: b :: r).length=r.length + 2:=rfl;have h2:(b :: r).length=r.length + 1:=rfl;omega
   rw [e,List.eraseIdx_cons_succ,ih]
   all_goals rfl
section
variable {X:Cx}{pins:List (Addr×Obj)}{σ : St}{H:Hp}{s:Shared}{l b:Addr}{xs ys zs:List V}
theorem Inv.lset {its its':List Value}{n:Nat}{f:Array Value→Array Value}{t':Nat} (I:Inv X pins σ H s) (hH:H l=some (.lst xs))
  (e:s.heap.get? l=some { cls:=.type "list",data:=.seq its.toArray n }) (hf:f its.toArray=its'.toArray) (hv:Vals ys its') (hz:ys.length≤sizeLine) :
  Inv X pins σ (upd H l (.lst ys)) { s with heap:=s.heap.update l (Obj.mapSeq f),toks:=t' }:=by
 have q:=PySem.IsL.update e f;rw [hf] at q;refine I.write (x:=l) (e:=l) (by rw [hH];exact trivial) (.inl rfl) (fun b' u hb hu=>(Heap.get?_update_other s.heap (Obj.mapSeq f) (Ne.symm hb)).trans hu) ⟨_,q⟩ ?_;exact ⟨hz,its',_,hv,q⟩
theorem Inv.lnew {its:List Value}{t':Nat} (I:Inv X pins σ H s) (hv:Vals ys its) (hz:ys.length≤sizeLine) :
  Inv X pins σ (upd H s.heap.objs.size (.lst ys)) { s with heap:=s.heap.push { cls:=.type "list",data:=.seq its.toArray },toks:=t' } :=
 I.laid (fun _ _ q=>Z2 _ q) (Z5 _) ⟨hz,its,0,hv,Zb _ rfl⟩
theorem Inv.fresh (I:Inv X pins σ H s):H s.heap.objs.size=none:=I.hok.fresh (Z5 _)
theorem Inv.lstM (I:Inv X pins σ H s) (hH:H l=some (.lst xs)):xs.length≤sizeLine∧∃ (its:List Value) (n:Nat),Vals xs its∧xs.length=its.length∧s.heap.get? l=some { cls:=.type "list",data:=.seq its.toArray n }:=by
 obtain ⟨z,its,n,r,e⟩:=I.hok l _ hH;exact ⟨z,its,n,r,r.length,e⟩
theorem notLongL {n:Nat} (h:n≤sizeLine):Builtin.List.listTooLong n=false:=by
 unfold Builtin.List.listTooLong;exact decide_eq_false (by omega)
end
section
variable {X:Cx}
noncomputable def rAppend:V→List V→Hp→VK→Prop:=fun x vs H Q=>∃ l xs y,x=.ref l∧vs=[y]∧H l=some (.lst xs)∧xs.length < sizeLine∧Q .non (upd H l (.lst (xs++[y])))
theorem mt_append:MtM X "list.append" rAppend:=by
 intro pins s σ H x vs v us Q I rx rv h;obtain ⟨l,xs,y,rfl,rfl,hH,hz,q⟩:=h;cases rx;obtain ⟨u,rfl,ru⟩:=rv.one;obtain ⟨z,its,n,r,hl,e⟩:=I.lstM hH;refine call_meets F.slot_list_append ⟨_,e,rfl⟩ F.entry_list_append (F.args_list_append_2 _ _) (PySem.list_append l its.toArray n u (by rw [Zf];omega)) ⟨e,?_⟩;refine ⟨.non,_,I.lset (its':=its++[u]) hH e (by simp) (r.append (.cons ru .nil)) ?_,rfl,q⟩;rw [Zk,List.length_singleton];omega
noncomputable def rExtend:V→List V→Hp→VK→Prop:=fun x vs H Q=>∃ l b xs zs,x=.ref l∧vs=[.ref b]∧H l=some (.lst xs)∧H b=some (.lst zs)∧xs.length + zs.length≤sizeLine∧Q .non (upd H l (.lst (xs++zs)))
theorem mt_extend:MtM X "list.extend" rExtend:=by
 intro pins s σ H x vs v us Q I rx rv h;obtain ⟨l,b,xs,zs,rfl,rfl,hH,hB,hz,q⟩:=h;cases rx;obtain ⟨u,rfl,ru⟩:=rv.one;cases ru;obtain ⟨z,its,n,r,hl,e⟩:=I.lstM hH;obtain ⟨z2,its2,n2,r2,hl2,e2⟩:=I.lstM hB;have hsz:its.toArray.size + its2.toArray.size≤sizeLine:=by rw [Zf,Zf];omega
 have hlong:¬ (!its.toArray.isEmpty && Builtin.List.listTooLong (its.toArray.size + its2.toArray.size))=true:=by
  rw [notLongL hsz,Bool.and_false];exact Z3
 refine call_meets F.slot_list_extend ⟨_,e,rfl⟩ F.entry_list_extend (F.args_list_extend_2 _ _)
  (AutoSeq1.list_extend_list_list_0 l its.toArray n b its2.toArray n2 hlong (by rw [Zf];omega) (by omega)) ⟨e,e2,?_⟩
 refine ⟨.non,_,I.lset (its':=its++its2) hH e (by simp) (r.append r2) ?_,rfl,q⟩;rw [Zk];omega
noncomputable def rCat:R2:=fun x y H Q=>∃ l b xs zs,x=.ref l∧y=.ref b∧H l=some (.lst xs)∧H b=some (.lst zs)∧xs.length + zs.length≤sizeLine∧∀ p,H p=none→Q (.ref p) (upd H p (.lst (xs++zs)))
theorem op_cat:OpR X (binaryOp .Add) rCat:=by
 intro pins s σ H x y v u Q I rx ry h;obtain ⟨l,b,xs,zs,rfl,rfl,hH,hB,hz,q⟩:=h;cases rx;cases ry;obtain ⟨z,its,n,r,hl,e⟩:=I.lstM hH;obtain ⟨z2,its2,n2,r2,hl2,e2⟩:=I.lstM hB;refine PySem.P.add_list e e2 ?_ (by rw [Zf,Zf];omega);have ea:its.toArray++its2.toArray=(its++its2).toArray:=by simp
 rw [ea];exact ⟨.ref _,_,I.lnew (t':=s.toks) (r.append r2) (by rw [Zk];omega),rfl,q _ I.fresh⟩
end
section
variable {prog:Program}{w:World}{A:Around}{E:Value→Shared→Prop}{s:Shared}
set_option maxRecDepth 100000 in
end
section
variable {X:Cx}
end
end L2
namespace Att
open PySem PySem.W PySem.Calls PyProof.Rows
theorem zDk {P:Params}{h:Heap}:∀ (ns:List Int) (vs:List Value),WellAll P h vs (ns.map WData.int)→IntsAre vs ns:=by
 intro ns
 induction ns with
 | nil =>
  intro vs w;rw [List.map_nil] at w;cases w;exact .nil
 | cons n ns ih =>
  intro vs w;rw [Zq] at w;cases w with
  | cons a b =>
   cases a;exact .cons _ _ (ih _ b)
theorem script_of {l:OpenLaw}{n:Nat} (hn:l.most=some n) {P:Params}{h:Heap}{args:List WData}{vals:List Value}
  (hpre:l.row.toRowW.claim.pre args=true) (hwl:WellAll P h vals args) :
  ∃ a vs ns,vals=[Value.ref a]∧args=[WData.list (ns.map WData.int)]∧h.get? a=some { cls:=.type "list",data:=.seq vs.toArray }∧IntsAre vs ns∧ns.length≤n:=by
 have hsh:WShape.hasAll [] args [.list .int]=true:=(pre_splitW hpre).1;have hc:l.pre.holds [] { args:=args }=true:=(pre_splitW hpre).2;obtain ⟨d,r,rfl,h1,h2⟩:=hasAllW_cons hsh;obtain rfl:=hasAllW_nil h2;obtain ⟨xs,rfl,h3⟩:=hasW_list h1;obtain ⟨ns,rfl⟩:=items_int h3;have hlen:ns.length≤n:=by
  unfold OpenLaw.pre at hc;have h4:(WTm.not (.lt (.lit (.int (n:Int))) (.len (.arg 0)))).holds [] { args:=[.list (ns.map .int)] }=true:=by
   have h4:=(holds_andW hc).1;rw [hn] at h4;exact h4
  have h5:=condW_of h4 (w_not (w_lt w_lit (w_len_list (w_arg rfl))));rw [Z0] at h5;refine Nat.le_of_not_lt fun q=>?_;have q':(n:Int) < ((ns.length:Nat):Int):=by omega
  first
   | (rw [decide_eq_true q'] at h5;exact absurd h5 (by decide))
   | (simp at h5;omega)
 cases hwl with
 | cons w1 w2 =>
  cases w2;cases w1 with
  | list ho hall=>exact ⟨_,_,ns,rfl,rfl,ho,zDk ns _ hall,hlen⟩
theorem post_true (l:OpenLaw) (args:List WData):l.row.toRowW.claim.post args (.bool true) args=true :=
 postW_of (r:=l.row.toRowW) (X:=(true == true))
  (show WShape.has [] (.bool true) .bool=true by first | rfl | decide | simp [WShape.has,WShape.arms,WShape.armsAll])
  (show (WTm.eq .res (.lit (.bool true))).value [] { args:=args,res:=some (.bool true),after:=args }=some (.bool (true == true)) from w_eq_bool (w_res rfl) w_lit) rfl
theorem attach_call {l:OpenLaw}{n:Nat}{q:Program}{loose:List Str}{XP:(Str→Option Value)→Heap→Prop}{YP:World→Heap→Prop}{d:DefRec}
  (hn:l.most=some n) (hdf:d.params.defaults=[])
  (call:∀ (w:World) (s₀ s₁ : Shared) (mg mb:Str→Option Value) (fa:Addr) (o:Obj) (pm cd doc:Value) (a:Addr) (vs:List Value) (ns:List Int),
   Ground q loose [] XP w s₀ mg mb s₁.heap→YP w s₁.heap →
   s₁.heap.get? fa=some o→o.data=.func (docDef d.name d.params d.body d.scope pm cd doc)→s₁.heap.CodeRec cd d.name→mg d.name=some (.ref fa) →
   s₁.heap.get? a=some { cls:=.type "list",data:=.seq vs.toArray }→IntsAre vs ns→ns.length≤n→s₁.gens = #[] →
   codeAny (model l.prog w) callerA (.call (.ref fa) ⟨[.ref a],[]⟩) (fun r s'=>r=.ok (.ret (.bool true))∧OldK s₁.heap s'.heap∧s'.os=s₁.os∧AllBare s'.gens) s₁) :
  WalkO q loose XP YP l.row.toRowW d [] (fun f vs=>PySem.call f vs):=by
 intro w s₀ s₁ mg mb G Y fa o pm cd doc dV kV ho hd hcd hD hmg hg args vals as hpre hlay hrd hwl hlo;obtain rfl:dV=.none:=Dflts.none hD hdf;obtain rfl:kV=.none:=Dflts.noKw hD;obtain ⟨a,vs,ns,rfl,rfl,hobj,hints,hlen⟩:=script_of hn hpre hwl;refine enter_call (codeAny_mono (call w s₀ s₁ mg mb fa o pm cd doc a vs ns G Y ho (fd_plain hd) hcd hmg hobj hints hlen hg) fun r s' hq=>?_);obtain ⟨rfl,h2,h3,h4⟩:=hq;exact ⟨.inl ⟨.bool true,.bool true,[],rfl,fun _=>rfl,.bool true,post_true l _,fun _=>⟨List.Pairwise.nil,fun _ hm=>(nomatch hm)⟩⟩,h2,h3,h4⟩
section
variable {prog:Program}{w:World}{A:Around}{E:Value→Shared→Prop}{s:Shared}{K:Frag}
noncomputable def ledger (h:Heap) (L d:Addr):List (Addr×Obj):=(List.range h.objs.size).filterMap fun a=>if a=L∨a=d then none else (h.get? a).map fun o=>(a,o)
end
end Att
namespace L2
open PySem PySem.Spec PyProof.Rows
theorem vals_ints:∀ {vs:List Value}{ns:List Int},IntsAre vs ns→Vals (ns.map V.int) vs
 | _,_,.nil=>.nil
 | _,_,.cons n t h=>.cons ⟨t,rfl⟩ (vals_ints h)
end L2
namespace L2
open PySem PySem.Spec PyProof.Rows
noncomputable abbrev KOf {K:PySem.W.Frag}{h:Heap} (_:K.In h):PySem.W.Frag:=K
end L2
namespace L2
open PySem PySem.Spec PyProof.Rows
noncomputable def inClass (s:Stmt) (j:Nat):Stmt:=match s with
 | .ClassDef _ _ _ body _ _ _ _ _ _ _=>body.getD j (.Pass ⟨0,0,0,0⟩)
 | _=>.Pass ⟨0,0,0,0⟩
noncomputable def defArgs (s:Stmt):Arguments:=match s with
 | .FunctionDef _ a _ _ _ _ _ _ _ _=>a
 | _=>{ posonlyargs:=[],args:=[],vararg:=none,kwonlyargs:=[],kw_defaults:=[],kwarg:=none,defaults:=[] }
noncomputable def defBody (s:Stmt):List Stmt:=match s with
 | .FunctionDef _ _ b _ _ _ _ _ _ _=>b
 | _=>[]
noncomputable def defScope (s:Stmt):Scope:=match s with
 | .FunctionDef _ _ _ _ _ _ sc _ _ _=>sc
 | _=>{ kind:=.function,names:=[],isGenerator:=false,isCoroutine:=false }
noncomputable abbrev CX0:CXT:=fun _ _ _ _ _ _=>False
noncomputable abbrev E0:St→XK:=fun _ _ _ _=>False
structure Fun (K:PySem.W.Frag) (x qual:Str) (st:Stmt) (f:Addr) (fd:FuncData):Prop where
 ex:∃ (oc:Value) (od:Option Addr) (kV doc pm:Value) (an:Option Addr) (cdv ct:Value) (osl:Array (Option Value)),
  fd=PySem.W.fnOf x qual (defArgs st) (defBody st) (defScope st) .none kV doc pm an cdv ct∧K.lookup f=some ⟨oc,od,.func fd,osl⟩∧PySem.W.codeIn K cdv qual=true
 kp:PySem.W.keepIn K (.ref f)=true
section
variable {P:Program}{w:World}{K:PySem.W.Frag}{mg:Str→Option Value}{base:Heap}
theorem Fun.ok {x qual:Str}{st:Stmt}{f:Addr}{fd:FuncData}{N ps:List Str}{k:Nat}{sp:Sp} (F:Fun K x qual st f fd) (S:FnScope N ps (defScope st)) (len:∀ vs H Q E,sp vs H Q E→vs.length=ps.length)
  (hbody:∀ (cdv:Value) (A:Around) (outer:List Env) (s:Shared) (H:Hp) (vs:List V) (Q:VK) (E:XK),Room k (A.deeper (envOfC qual (defScope st) s.heap.objs.size f cdv))→sp vs H Q E →
   ∃ t,PSs (cxOf CX0 P w K mg base N qual (defScope st) f cdv A outer s H E).nox (defBody st) t∧t { nx:=fun _ H'=>Q .non H',rt:=Q } (start N vs) H):FnOk P w K mg base CX0 (k + 1) f fd ps sp:=by
 obtain ⟨oc,od,kV,doc,pm,an,cdv,ct,osl,rfl,lk,hcd⟩:=F.ex;refine fn_of lk hcd S len fun A outer s H vs Q E hr hsp=>?_;obtain ⟨t,h,q⟩:=hbody cdv A outer s H vs Q E hr hsp;exact ⟨t,h.nox,q⟩
theorem Fun.binds {x qual:Str}{st:Stmt}{f:Addr}{fd:FuncData}{ps:List Str} (F:Fun K x qual st f fd)
  (h:∀ (kV doc pm:Value) (an:Option Addr) (cdv ct:Value) (us:List Value),us.length=ps.length→bindArgs (PySem.W.fnOf x qual (defArgs st) (defBody st) (defScope st) .none kV doc pm an cdv ct) ⟨us,[]⟩=pure (ps.zip us)):Binds K fd ps []:=by
 obtain ⟨oc,od,kV,doc,pm,an,cdv,ct,osl,rfl,lk,hcd⟩:=F.ex;exact .all (h kV doc pm an cdv ct)
theorem fun_mk {x qual:Str}{st:Stmt}{f:Addr}{oc:Value}{od an:Option Addr}{osl:Array (Option Value)}{kV doc pm cdv ct:Value} (l:K.lookup f=some ⟨oc,od,.func (PySem.W.fnOf x qual (defArgs st) (defBody st) (defScope st) .none kV doc pm an cdv ct),osl⟩)
  (c:PySem.W.codeIn K cdv qual=true) (k:PySem.W.keepIn K (.ref f)=true):Fun K x qual st f (PySem.W.fnOf x qual (defArgs st) (defBody st) (defScope st) .none kV doc pm an cdv ct):=⟨⟨oc,od,kV,doc,pm,an,cdv,ct,osl,rfl,l,c⟩,k⟩
end
theorem hu_of {A:Around}{k:Nat} (hr:Room k A):A.units + 1 < cLine:=Nat.lt_of_le_of_lt (Nat.add_le_add_left (by decide:1≤64) _) hr.units
theorem small1000 {n:Nat} (h:n≤1000):n < sizeLine:=Nat.lt_of_le_of_lt h (by decide)
section
variable {X:Cx}
theorem pv (i:Nat) {x:Str}{pos:Pos} (hN:X.N[i]? = some x:=by rfl) (hv:Vis X.env.scope x:=by first | exact Or.inl rfl | exact Or.inr (Or.inl rfl) | exact Or.inr (Or.inr rfl)) (hd:(x == ("__debug__" : Str))=false:=by decide)
  (hcd:(x == ("__classdict__" : Str))=false:=by decide):PE X (.Name x pos) (tVar i):=pe_var hN hv hd hcd
end
theorem iteF {A B:Prop} (h:B):if false=true then A else B:=by
 rw [if_neg Z3];exact h
theorem iteT {A B:Prop} (h:A):if true=true then A else B:=by
 rw [if_pos rfl];exact h
theorem ite2 {c A B:Prop} [Decidable c] (h1:c→A) (h2:¬ c→B):if c then A else B:=by
 by_cases h:c
 ·rw [if_pos h];exact h1 h
 ·rw [if_neg h];exact h2 h
noncomputable def Same (H H':Hp):Prop:=∀ b o,H b=some o→H' b=some o
theorem Same.refl (H:Hp):Same H H:=fun _ _ h=>h
theorem Same.trans {H H1 H2:Hp} (a:Same H H1) (b:Same H1 H2):Same H H2:=fun c o h=>b c o (a c o h)
theorem Same.free {H H':Hp} (e:Same H H') {l:Addr} (h:H' l=Option.none):H l=Option.none:=by
 cases q:H l with
 | none=>rfl
 | some o =>
  rw [e l o q] at h;cases h
end L2
namespace L2
open PySem PySem.Spec PyProof.Rows
section
variable {κ : Type} [DecidableEq κ]
noncomputable def valV (kvs:List (κ×V)) (k : κ):Option V:=(kvs.find? fun kv=>decide (kv.1=k)).map (·.2)
noncomputable def putK (kvs:List (κ×V)) (k : κ) (v:V):List (κ×V) :=
 if (kvs.any fun kv=>decide (kv.1=k))=true then kvs.map (fun kv=>if kv.1=k then (kv.1,v) else kv) else kvs++[(k,v)]
theorem zBf {p : κ×V}{r:List (κ×V)}{k : κ} (e:p.1=k):valV (p :: r) k=some p.2:=by simp [valV,Yd,e]
theorem zB6 {p : κ×V}{r:List (κ×V)}{k : κ} (e:¬ p.1=k):valV (p :: r) k=valV r k:=by simp [valV,Yd,e]
theorem zD2 (k : κ):∀ kvs:List (κ×V),(kvs.any fun kv=>decide (kv.1=k))=(valV kvs k).isSome
 | []=>rfl
 | p :: r=>by
  rw [Y9];by_cases e:p.1=k
  ·simp only [zBf e,decide_eq_true e,Bool.true_or,Option.isSome_some]
  ·rw [zB6 e,decide_eq_false e,Bool.false_or];exact zD2 k r
theorem zDi (kvs:List (κ×V)) (k : κ) (v:V):(putK kvs k v).length≤kvs.length + 1:=by
 unfold putK;split
 ·rw [Z0];omega
 ·rw [Zk,Zh,List.length_nil];omega
theorem zD3 {kvs:List (κ×V)}{k : κ} (v:V) (h:valV kvs k=none):putK kvs k v=kvs++[(k,v)]:=by
 unfold putK;rw [zD2,h];exact if_neg (by decide)
theorem RelO.isSome_eq {o:Option V}{u:Option Value} (r:RelO o u):o.isSome=u.isSome:=by
 cases o with
 | none=>cases u with
  | none=>rfl
  | some _=>exact (show False from r).elim
 | some _=>cases u with
  | none=>exact (show False from r).elim
  | some _=>rfl
theorem KV.val {kvs:List (κ×V)}{vs:List (κ×Value)} (r:KV kvs vs) (k : κ):RelO (valV kvs k) (valueAt vs k):=by
 unfold KV at r
 induction r with
 | nil=>exact True.intro
 | @cons p q ps qs h t ih =>
  obtain ⟨h1,h2⟩:=h;by_cases e:p.1=k
  ·have e':q.1=k:=h1.symm.trans e;have b:valueAt (q :: qs) k=some q.2:=by simp [valueAt,Yd,e']
   rw [zBf e,b];exact h2
  ·have e':¬ q.1=k:=fun z=>e (h1.trans z);have b:valueAt (q :: qs) k=valueAt qs k:=by simp [valueAt,Yd,e']
   rw [zB6 e,b];exact ih
theorem KV.any {kvs:List (κ×V)}{vs:List (κ×Value)} (r:KV kvs vs) (k : κ):(kvs.any fun kv=>decide (kv.1=k))=vs.any fun kv=>decide (kv.1=k):=by
 unfold KV at r
 induction r with
 | nil=>rfl
 | cons h t ih=>rw [Y9,Y9,ih,h.1]
theorem KV.repl {kvs:List (κ×V)}{vs:List (κ×Value)} (r:KV kvs vs) (k : κ) {y:V}{u:Value} (ry:RelV y u) :
  KV (kvs.map fun kv=>if kv.1=k then (kv.1,y) else kv) (vs.map fun kv=>if kv.1=k then (kv.1,u) else kv):=by
 unfold KV at r ⊢
 induction r with
 | nil=>exact .nil
 | @cons p q ps qs h t ih =>
  rw [Zq,Zq];refine .cons ?_ ih;obtain ⟨h1,h2⟩:=h;by_cases e:p.1=k
  ·rw [if_pos e,if_pos (h1.symm.trans e)];exact ⟨h1,ry⟩
  ·rw [if_neg e,if_neg (fun z=>e (h1.trans z))];exact ⟨h1,h2⟩
theorem KV.put {kvs:List (κ×V)}{vs:List (κ×Value)} (r:KV kvs vs) (k : κ) {y:V}{u:Value} (ry:RelV y u):KV (putK kvs k y) (stored vs k u):=by
 unfold putK stored;rw [r.any k];by_cases e:(vs.any fun kv=>decide (kv.1=k))=true
 ·rw [if_pos e,if_pos e];exact r.repl k ry
 ·rw [if_neg e,if_neg e];exact Paired.snoc r ⟨rfl,ry⟩
theorem KV.length {kvs:List (κ×V)}{vs:List (κ×Value)} (r:KV kvs vs):kvs.length=vs.length:=Paired.length r
end
theorem kV_is {P:Program}{w:World}{k:Key}{u:Value} (r:RelV (kV k) u):(mixKind P w).is k u=true:=by
 cases k with
 | inl i=>obtain ⟨t,e⟩:=(show ∃ t,u=Value.int i t from r);subst e;exact mixKind_int P w i t
 | inr x=>obtain ⟨t,e⟩:=(show ∃ t,u=Value.str x t from r);subst e;exact mixKind_str P w x t
theorem items_are {P:Program}{w:World}:∀ {ks:List Key}{us:List Value},Vals (ks.map kV) us→ItemsAre (mixKind P w) ks us
 | [],_,r=>by rw [List.map_nil] at r;cases r;exact .nil
 | k :: ks,_,r=>by
  rw [Zq] at r;cases r with
  | cons h t=>exact .cons (kV_is h) (items_are t)
noncomputable abbrev KT (H:Hp):List (List Key×V)→List (List Key×Addr×Value)→Prop:=Paired fun p q=>p.1=q.1∧H q.2.1=some (.tup (p.1.map kV))∧RelV p.2 q.2.2
theorem KT.val {H:Hp}{kvs:List (List Key×V)}{xs:List (List Key×Addr×Value)} (r:KT H kvs xs) (k:List Key):RelO (valV kvs k) ((atKey xs k).map (·.2)):=by
 induction r with
 | nil=>exact True.intro
 | @cons p q ps qs h t ih =>
  obtain ⟨h1,_,h2⟩:=h;by_cases e:p.1=k
  ·have e':q.1=k:=h1.symm.trans e;have b:atKey (q :: qs) k=some q.2:=by simp [atKey,Yd,e']
   rw [zBf e,b];exact h2
  ·have e':¬ q.1=k:=fun z=>e (h1.trans z);have b:atKey (q :: qs) k=atKey qs k:=by simp [atKey,Yd,e']
   rw [zB6 e,b];exact ih
theorem KT.repl {H:Hp}{kvs:List (List Key×V)}{xs:List (List Key×Addr×Value)} (r:KT H kvs xs) (k:List Key) {y:V}{u:Value} (ry:RelV y u) :
  KT H (kvs.map fun kv=>if kv.1=k then (kv.1,y) else kv) (xs.map (putAt k u)):=by
 induction r with
 | nil=>exact .nil
 | @cons p q ps qs h t ih =>
  rw [Zq,Zq];refine .cons ?_ ih;obtain ⟨h1,h2,h3⟩:=h;unfold putAt;by_cases e:p.1=k
  ·rw [if_pos e,if_pos (h1.symm.trans e)];exact ⟨h1,h2,ry⟩
  ·rw [if_neg e,if_neg (fun z=>e (h1.trans z))];exact ⟨h1,h2,h3⟩
theorem KT.put {H:Hp}{kvs:List (List Key×V)}{xs:List (List Key×Addr×Value)} (r:KT H kvs xs) (k:List Key) {b:Addr}{y:V}{u:Value} (hb:H b=some (.tup (k.map kV))) (ry:RelV y u) :
  KT H (putK kvs k y) (storedH xs k b u):=by
 have e:(kvs.any fun kv=>decide (kv.1=k))=(atKey xs k).isSome:=by
  rw [zD2,(r.val k).isSome_eq,Option.isSome_map]
 unfold putK storedH;rw [e];by_cases q:(atKey xs k).isSome=true
 ·rw [if_pos q,if_pos q];exact r.repl k ry
 ·rw [if_neg q,if_neg q];exact Paired.snoc r ⟨rfl,hb,ry⟩
theorem KT.keeps {H H':Hp}{kvs:List (List Key×V)}{xs:List (List Key×Addr×Value)} (r:KT H kvs xs) (ht:∀ b ys,H b=some (.tup ys)→H' b=some (.tup ys)):KT H' kvs xs :=
 Paired.mapP r fun _ _ z=>⟨z.1,ht _ _ z.2.1,z.2.2⟩
section
variable {P:Program}{w:World}{H:Hp}{h:Heap}{a:Addr}
theorem rd_of {u:HO} (ok:HOk P w H h) (e:Rd H a u):ObjOk P w H h a u:=e.ok ok
theorem zEf {kvs:List (Key×V)} (ok:HOk P w H h) (e:Rd H a (.dK kvs)):kvs.length≤sizeLine∧(a == sysModules)=false∧∃ vs,KV kvs vs∧h.DictOf (mixKind P w) a vs :=
 show ObjOk P w H h a (.dK kvs) from rd_of ok e
theorem dk_of {kvs:List (Key×V)} (ok:HOk P w H h) (e:H a=some (.dK kvs)):kvs.length≤sizeLine∧(a == sysModules)=false∧∃ vs,KV kvs vs∧h.DictOf (mixKind P w) a vs:=zEf ok (.inl e)
theorem key_of {ks:List Key} (ok:HOk P w H h) (e:H a=some (.tup (ks.map kV))):(tupleKind (mixKind P w)).is h ks a:=by
 obtain ⟨_,its,r,o,h1,h2,n,h3⟩:=(show ObjOk P w H h a (.tup (ks.map kV)) from ok a _ e);exact ⟨o,its.toArray,n,h1,h2,h3,by simpa using items_are r⟩
theorem dt_rd {kvs:List (List Key×V)} (ok:HOk P w H h) (e:Rd H a (.dT kvs)):kvs.length≤sizeLine∧(a == sysModules)=false ∧
  ∃ xs,KT H kvs xs∧h.DictOfH (tupleKind (mixKind P w)) a xs:=by
 obtain ⟨z,y,xs,r,o,es,ep,h1,h2,h3,h4,h5⟩:=(show ObjOk P w H h a (.dT kvs) from rd_of ok e);refine ⟨z,y,xs,r,o,es,ep,h1,h2,h3,h4,fun x hx=>?_,h5⟩;have all:∀ {l:List (List Key×V)}{m:List (List Key×Addr×Value)},KT H l m→∀ x∈m,(tupleKind (mixKind P w)).is h x.1 x.2.1:=by
  intro l m q
  induction q with
  | nil=>intro x hx;exact nomatch hx
  | @cons p q ps qs hq t ih =>
   intro x hx;rcases List.mem_cons.mp hx with e | hx
   ·subst e;exact key_of ok (by rw [← hq.1];exact hq.2.1)
   ·exact ih x hx
 exact all r x hx
theorem dt_of {kvs:List (List Key×V)} (ok:HOk P w H h) (e:H a=some (.dT kvs)):kvs.length≤sizeLine∧(a == sysModules)=false ∧
  ∃ xs,KT H kvs xs∧h.DictOfH (tupleKind (mixKind P w)) a xs:=dt_rd ok (.inl e)
end
noncomputable def DGet (H:Hp) (a:Addr) (y:V) (r:Option V):Prop :=
 (∃ kvs k,Rd H a (.dK kvs)∧y=kV k∧r=valV kvs k)∨∃ kvs k b,Rd H a (.dT kvs)∧y=.ref b∧H b=some (.tup (k.map kV))∧r=valV kvs k
noncomputable def DPut (H:Hp) (a:Addr) (y v:V) (H':Hp):Prop :=
 (∃ kvs k,H a=some (.dK kvs)∧y=kV k∧kvs.length < sizeLine∧H'=upd H a (.dK (putK kvs k v))) ∨
 ∃ kvs k b,H a=some (.dT kvs)∧y=.ref b∧H b=some (.tup (k.map kV))∧kvs.length < sizeLine∧H'=upd H a (.dT (putK kvs k v))
theorem DGet.k {H:Hp}{a:Addr}{kvs:List (Key×V)}{k:Key} (e:H a=some (.dK kvs)):DGet H a (kV k) (valV kvs k):=.inl ⟨kvs,k,.inl e,rfl,rfl⟩
theorem DGet.t {H:Hp}{a b:Addr}{kvs:List (List Key×V)}{k:List Key} (e:H a=some (.dT kvs)) (eb:H b=some (.tup (k.map kV))):DGet H a (.ref b) (valV kvs k):=.inr ⟨kvs,k,b,.inl e,rfl,eb,rfl⟩
theorem DPut.k {H:Hp}{a:Addr}{kvs:List (Key×V)}{k:Key}{v:V} (e:H a=some (.dK kvs)) (hl:kvs.length < sizeLine):DPut H a (kV k) v (upd H a (.dK (putK kvs k v))):=.inl ⟨kvs,k,e,rfl,hl,rfl⟩
theorem DPut.t {H:Hp}{a b:Addr}{kvs:List (List Key×V)}{k:List Key}{v:V} (e:H a=some (.dT kvs)) (eb:H b=some (.tup (k.map kV))) (hl:kvs.length < sizeLine) :
  DPut H a (.ref b) v (upd H a (.dT (putK kvs k v))):=.inr ⟨kvs,k,b,e,rfl,eb,hl,rfl⟩
section
variable {X:Cx}{pins:List (Addr×Obj)}{σ : St}{H:Hp}{s:Shared}{a:Addr}{y v:V}{u r:Value}{o:Option V}{A:Around}{E:Value→Shared→Prop}
theorem Inv.big (I:Inv X pins σ H s):sysModules < s.heap.objs.size:=by
 have h:mainGlobals < s.heap.objs.size:=(I.mod.glob.keeps I.bk).lt;exact Nat.lt_trans (by decide) h
theorem d_getItem {Q:Value→Shared→Prop} (hu:A.units + 1 < cLine) (I:Inv X pins σ H s) (g:DGet H a y (some v)) (ry:RelV y u) (h:∀ w' s',Inv X pins σ H s'→RelV v w'→Q w' s') :
  wpAny (model X.prog X.w) A (getItem (.ref a) u) Q E s:=by
 rcases g with ⟨kvs,k,e,ey,l⟩ | ⟨kvs,k,b,e,ey,eb,l⟩
 ·subst ey;obtain ⟨z,hd,vs,rel,dd⟩:=zEf I.hok e;obtain ⟨w',hw,rw'⟩:=RelO.some_of (v:=v) (o:=valueAt vs k) (by rw [l];exact rel.val k);exact wpAny_getItem_of (kV_is ry) dd.mapOf hw (h w' _ (I.tok _) rw')
 ·subst ey;cases (show u=Value.ref b from ry);obtain ⟨z,hd,xs,rel,dd⟩:=dt_rd I.hok e;obtain ⟨w',hw,rw'⟩:=RelO.some_of (v:=v) (o:=(atKey xs k).map (·.2)) (by rw [l];exact rel.val k);obtain ⟨p,hp,hp2⟩:=Option.map_eq_some_iff.mp hw;refine wpAny_getItem_heap (tupleKind_room_in1 hu) (key_of I.hok eb) dd hp ?_;rw [hp2];exact h w' _ (I.tok _) rw'
theorem d_in {Q:Value→Shared→Prop} (hu:A.units + 1 < cLine) (I:Inv X pins σ H s) (g:DGet H a y o) (ry:RelV y u) (h:∀ s',Inv X pins σ H s'→Q (.bool o.isSome) s') :
  wpAny (model X.prog X.w) A (compareOp .In u (.ref a)) Q E s:=by
 rcases g with ⟨kvs,k,e,ey,l⟩ | ⟨kvs,k,b,e,ey,eb,l⟩
 ·subst ey;obtain ⟨z,hd,vs,rel,dd⟩:=zEf I.hok e;refine wpAny_in_of (kV_is ry) hd dd.mapOf ?_;rw [← (rel.val k).isSome_eq,← l];exact h _ (I.tok _)
 ·subst ey;cases (show u=Value.ref b from ry);obtain ⟨z,hd,xs,rel,dd⟩:=dt_rd I.hok e;refine wpAny_in_heap (tupleKind_room_in1 hu) (key_of I.hok eb) hd dd ?_;have q:=(rel.val k).isSome_eq;rw [Option.isSome_map] at q;rw [← q,← l];exact h _ (I.tok _)
theorem d_notIn {Q:Value→Shared→Prop} (hu:A.units + 1 < cLine) (I:Inv X pins σ H s) (g:DGet H a y o) (ry:RelV y u) (h:∀ s',Inv X pins σ H s'→Q (.bool (!o.isSome)) s') :
  wpAny (model X.prog X.w) A (compareOp .NotIn u (.ref a)) Q E s:=by
 rcases g with ⟨kvs,k,e,ey,l⟩ | ⟨kvs,k,b,e,ey,eb,l⟩
 ·subst ey;obtain ⟨z,hd,vs,rel,dd⟩:=zEf I.hok e;refine wpAny_notIn_of (kV_is ry) hd dd.mapOf ?_;rw [← (rel.val k).isSome_eq,← l];exact h _ (I.tok _)
 ·subst ey;cases (show u=Value.ref b from ry);obtain ⟨z,hd,xs,rel,dd⟩:=dt_rd I.hok e;refine wpAny_notIn_heap (tupleKind_room_in1 hu) (key_of I.hok eb) hd dd ?_;have q:=(rel.val k).isSome_eq;rw [Option.isSome_map] at q;rw [← q,← l];exact h _ (I.tok _)
theorem d_write {h':Heap}{t':Nat}{ob:HO} (I:Inv X pins σ H s) (mu:Mut (H a)) (hs:Heap.SameBut a s.heap h') (he:∃ q,h'.get? a=some q) (new:ObjOk X.prog X.w (upd H a ob) h' a ob) :
  Inv X pins σ (upd H a ob) { s with heap:=h',toks:=t' } :=
 I.write (x:=a) (e:=a) mu (.inl rfl) (fun b q hb z=>(hs.2 b hb).trans z) he new
theorem dk_new {P:Program}{w:World}{H':Hp}{h':Heap}{kvs:List (Key×V)}{vs:List (Key×Value)} (z:kvs.length≤sizeLine) (hd:(a == sysModules)=false) (rel:KV kvs vs) (dd:h'.DictOf (mixKind P w) a vs) :
  ObjOk P w H' h' a (.dK kvs):=⟨z,hd,vs,rel,dd⟩
theorem d_setItem {H':Hp}{Q:Unit→Shared→Prop} (hu:A.units + 1 < cLine) (I:Inv X pins σ H s) (g:DPut H a y v H') (ry:RelV y u) (rv:RelV v r) (h:∀ s',Inv X pins σ H' s'→Q () s') :
  wpAny (model X.prog X.w) A (setItem (.ref a) u r) Q E s:=by
 rcases g with ⟨kvs,k,e,ey,l,eH⟩ | ⟨kvs,k,b,e,ey,eb,l,eH⟩
 ·subst ey eH;obtain ⟨z,hd,vs,rel,dd⟩:=dk_of I.hok e;have hz:vs.length≤sizeLine:=by rw [← rel.length];exact z
  have hl:(putK kvs k v).length≤sizeLine:=by have:=zDi kvs k v;omega
  refine wpAny_setItem_pairs (hsz:=hz) (kV_is ry) dd fun h' dd' hs=>h _ ?_;have he:∃ q,h'.get? a=some q:=let ⟨q,_,_,hq,_⟩:=dd';⟨q,hq⟩;exact d_write I (by rw [e];exact True.intro) hs he (dk_new hl hd (rel.put k rv) dd')
 ·subst ey eH;cases (show u=Value.ref b from ry);obtain ⟨z,hd,xs,rel,dd⟩:=dt_of I.hok e;have hz:xs.length≤sizeLine:=by rw [← Paired.length rel];exact z
  have hl:(putK kvs k v).length≤sizeLine:=by have:=zDi kvs k v;omega
  refine wpAny_setItem_heap (hsz:=hz) (tupleKind_room_in1 hu) (key_of I.hok eb) dd fun h' dd' hs=>h _ ?_;obtain ⟨q,es,ep,hq,h2,h3,h4,_,h5⟩:=dd';refine d_write I (by rw [e];exact True.intro) hs ⟨q,hq⟩ ⟨hl,hd,_,(rel.put k eb rv).keeps fun c ys ec=>?_,q,es,ep,hq,h2,h3,h4,h5⟩;rw [zA5 (ne_of ec e (fun z=>nomatch z))];exact ec
end
section
variable {X:Cx}{pins:List (Addr×Obj)}{σ : St}{H:Hp}{s:Shared}{a:Addr}{kvs:List (Key×V)}{k:Key}{u:Value}{A:Around}{E:Value→Shared→Prop}
theorem d_len {Q:Value→Shared→Prop} (I:Inv X pins σ H s) (e:Rd H a (.dK kvs)) (h:∀ t s',Inv X pins σ H s'→Q (.int kvs.length t) s'):wpAny (model X.prog X.w) A (call (.builtin "len") [.ref a]) Q E s:=by
 obtain ⟨z,hd,vs,rel,dd⟩:=zEf I.hok e;refine call_len_dict hd dd (by rw [← rel.length];rw [sizeLine_eq] at z;omega) ?_;rw [← rel.length];exact h _ _ (I.tok _)
end
noncomputable def NoSl (i:Expr):Prop:=∀ ov iv,subscripted i false ov iv=operate [ov,iv] (getItem ov iv)
theorem subD_of {prog:Program}{w:World}{A:Around}{E:Value→Shared→Prop}{s:Shared}{env:Env}{value slice:Expr}{pos:Pos}{T id:String}{Q:Value→Shared→Prop}
  (hl:typeLookup (.type T) "__getitem__" = pure (some (.builtin id))) (hs:NoSl slice)
  (h:wpAny (model prog w) A (eval value env) (fun o s₁=>wpAny (model prog w) A (eval slice env) (fun i s₂=>s₂.TypeIs o T∧wpAny (model prog w) A (getItem o i) Q E s₂) E s₁) E s) :
  wpAny (model prog w) A (eval (.Subscript value slice pos) env) Q E s:=by
 refine Subscript_ (wpAny_mono h (fun o s₁ h₁=>wpAny_mono h₁ (fun i s₂ h₂=>?_) fun _ _ x=>x) fun _ _ x=>x);obtain ⟨hT,h₂⟩:=h₂;unfold subscriptTail;refine wpAny_bind ?_;rw [getitemInPython_of_ne hT.not_modules];refine wpAny_bind (wpAny_specialOf hT hl ?_);have fin:wpAny (model prog w) A (subscripted slice false o i) (fun r s₃=>wpAny (model prog w) A (letTemporaryGo value o r >>= fun _=>pure r) Q E s₃) E s₂:=by
  rw [hs o i];exact wpAny_operating (wpAny_mono h₂ (fun r s₃ h₃=>wpAny_bind (wpAny_letTemporaryGo (wpAny_pure h₃))) fun _ _ x=>x)
 first
  | exact wpAny_pure (wpAny_bind fin)
  | exact wpAny_bind (wpAny_pure (wpAny_bind fin))
  | exact wpAny_bind fin
theorem dict_typeIs {X:Cx}{pins:List (Addr×Obj)}{σ : St}{H:Hp}{s:Shared}{a:Addr}{y:V}{o:Option V} (I:Inv X pins σ H s) (g:DGet H a y o):s.TypeIs (.ref a) "dict":=by
 rcases g with ⟨kvs,k,e,_,_⟩ | ⟨kvs,k,b,e,_,_,_⟩
 ·obtain ⟨_,_,vs,_,dd⟩:=zEf I.hok e;exact dd.typeIs
 ·obtain ⟨_,_,xs,_,dd⟩:=dt_rd I.hok e;exact dd.typeIs
noncomputable def tDGet (td ty:TE):TE:=fun σ H Q=>td σ H fun x H1=>ty σ H1 fun y H2=>∃ a v,x=.ref a∧DGet H2 a y (some v)∧Q v H2
noncomputable def tDIn (ty td:TE):TE:=fun σ H Q=>ty σ H fun y H1=>td σ H1 fun x H2=>∃ a o,x=.ref a∧DGet H2 a y o∧Q (.bl o.isSome) H2
noncomputable def tDNotIn (ty td:TE):TE:=fun σ H Q=>ty σ H fun y H1=>td σ H1 fun x H2=>∃ a o,x=.ref a∧DGet H2 a y o∧Q (.bl (!o.isSome)) H2
noncomputable def sDPut (td ty tv:TE):TS:=fun D σ H=>tv σ H fun v H1=>td σ H1 fun x H2=>ty σ H2 fun y H3=>∃ a H4,x=.ref a∧DPut H3 a y v H4∧D.nx σ H4
section
variable {X:Cx}{o i e value:Expr}{pos pos' tpos:Pos}{td ty tv:TE}
theorem zB5 (hu:X.A.units + 1 < cLine) (ho:PE X o td) (hi:PE X i ty) (hs:NoSl i):PE X (.Subscript o i pos) (tDGet td ty):=by
 intro pins s σ H Q I h;refine subD_of PySem.F.slot_dict_getitem.lookup hs (thn (ho pins s σ H _ I h) fun u s1 ⟨x,H1,I1,rx,q1⟩=>thn (hi pins s1 σ H1 _ I1 q1) fun iv s2 ⟨y,H2,I2,ry,a,v,ex,g,q2⟩=>?_);subst ex;obtain rfl:u=Value.ref a:=rx;exact ⟨dict_typeIs I2 g,d_getItem hu I2 g ry fun w' s3 I3 rw'=>⟨v,H2,I3,rw',q2⟩⟩
theorem pc_din (hu:X.A.units + 1 < cLine) (hi:PE X i ty) (ho:PE X o td):PC X .In i o (tDIn ty td):=by
 intro pins s σ H Q I h;refine thn (hi pins s σ H _ I h) fun iv s1 ⟨y,H1,I1,ry,q1⟩=>thn (ho pins s1 σ H1 _ I1 q1) fun u s2 ⟨x,H2,I2,rx,a,ov,ex,g,q2⟩=>?_;subst ex;obtain rfl:u=Value.ref a:=rx;exact d_in hu I2 g ry fun s3 I3=>⟨.bl ov.isSome,H2,I3,rfl,q2⟩
theorem zCi (hu:X.A.units + 1 < cLine) (hi:PE X i ty) (ho:PE X o td):PC X .NotIn i o (tDNotIn ty td):=by
 intro pins s σ H Q I h;refine thn (hi pins s σ H _ I h) fun iv s1 ⟨y,H1,I1,ry,q1⟩=>thn (ho pins s1 σ H1 _ I1 q1) fun u s2 ⟨x,H2,I2,rx,a,ov,ex,g,q2⟩=>?_;subst ex;obtain rfl:u=Value.ref a:=rx;exact d_notIn hu I2 g ry fun s3 I3=>⟨.bl (!ov.isSome),H2,I3,rfl,q2⟩
theorem zCp (hu:X.A.units + 1 < cLine) (ho:PE X o td) (hi:PE X i ty) (hv:PE X value tv) (hs:swapsWith value (some (.Subscript o i pos')) pos.line X.env=pure false) :
  PS X (.Assign [.Subscript o i pos'] value pos) (sDPut td ty tv):=by
 intro pins s σ H D I h;refine wpAny_Assign_Subscript (thn (hv pins s σ H _ I h) fun r s1 ⟨v,H1,I1,rv,q1⟩=>thn (ho pins s1 σ H1 _ I1 q1) fun u s2 ⟨x,H2,I2,rx,q2⟩=>thn (hi pins s2 σ H2 _ I2 q2) fun iv s3 ⟨y,H3,I3,ry,a,H4,ex,g,q3⟩=>?_) hs;subst ex;obtain rfl:u=Value.ref a:=rx;exact d_setItem hu I3 g ry rv fun s4 I4=>⟨σ,H4,I4,q3⟩
end
theorem dk_empty {P:Program}{w:World}{H:Hp} (h:Heap) (hb:sysModules < h.objs.size):ObjOk P w H (h.push { cls:=.type "dict",data:=.dict #[] }) h.objs.size (.dK []) :=
 ⟨Zn _,beq_eq_false_iff_ne.mpr (Ne.symm (Ze hb)),[],.nil,Heap.DictOf.new h⟩
noncomputable def tDNewK:TE:=fun _ H Q=>∀ p,H p=none→Q (.ref p) (upd H p (.dK []))
section
variable {X:Cx}{pos:Pos}
theorem zCg:PE X (.Dict [] [] pos) tDNewK:=fun pins s σ H Q I h =>
 wpAny_Dict_empty ⟨.ref s.heap.objs.size,_,I.laid (a:=s.heap.objs.size) (o:=.dK []) (t':=s.toks) (fun _ _ q=>Z2 _ q) (Z5 _) (dk_empty s.heap I.big),rfl,h _ (I.hok.fresh (Z5 _))⟩
end
noncomputable def IsD (H:Hp) (a:Addr):Prop:=(∃ kvs,Rd H a (.dK kvs))∨∃ kvs,Rd H a (.dT kvs)
theorem isD_at {X:Cx}{pins:List (Addr×Obj)}{σ : St}{H:Hp}{s:Shared}{a:Addr} (I:Inv X pins σ H s) (d:IsD H a) :
  s.TypeIs (.ref a) "dict"∧(∀ b,Value.ref a=.ref b→∃ ob,s.heap.get? b=some ob∧ob.dict=none)∧(a == sysModules)=false:=by
 rcases d with ⟨kvs,e⟩ | ⟨kvs,e⟩
 ·obtain ⟨_,hd,vs,_,dd⟩:=zEf I.hok e;refine ⟨dd.typeIs,fun b q=>?_,hd⟩;cases q;obtain ⟨ob,_,_,h1,h2,_⟩:=dd;exact ⟨ob,h1,h2.2.1⟩
 ·obtain ⟨_,hd,xs,_,dd⟩:=dt_rd I.hok e;refine ⟨dd.typeIs,fun b q=>?_,hd⟩;cases q;obtain ⟨ob,_,_,h1,h2,_⟩:=dd;exact ⟨ob,h1,h2.2.1⟩
section
variable {X:Cx}{pins:List (Addr×Obj)}{σ : St}{H:Hp}{s:Shared}{a:Addr}{y d:V}{u r:Value}{o:Option V}{A:Around}{E:Value→Shared→Prop}
end
section
variable {X:Cx}{o e f:Expr}{apos cpos:Pos}{td ty tx:TE}
end
section
variable {X:Cx}{pins:List (Addr×Obj)}{σ : St}{H:Hp}{s:Shared}{a:Addr}{kvs:List (Key×V)}{A:Around}{E:Value→Shared→Prop}
end
section
variable {X:Cx}{pins:List (Addr×Obj)}{σ : St}{H:Hp}{s:Shared}{a:Addr}{y:V}{u:Value}{A:Around}{E:Value→Shared→Prop}
end
end L2
namespace L2
open PySem PySem.Spec PyProof.Rows
noncomputable def PFs (X:Cx) (ifs:List Expr) (t:TT):Prop :=
 ∀ (pins:List (Addr×Obj)) (s:Shared) (σ : St) (H:Hp) (Q:Bool→Hp→Prop),Inv X pins σ H s→t σ H Q →
  wpAny (model X.prog X.w) X.A (forIn ifs true fun c r=>if r=true then do let ok ← isTrue c X.env (eval c X.env);pure (ForInStep.yield ok) else pure (ForInStep.yield r)) (TP X pins σ Q) X.xe s
noncomputable def tYes:TT:=fun _ H Q=>Q true H
theorem zAy {X:Cx}:PFs X [] tYes:=fun _ _ _ H _ I h=>wpAny_tests_nil ⟨H,I,h⟩
theorem zC7 {X:Cx}{c:Expr}{t:TT} (h:PT X c t):PFs X [c] t:=fun pins s σ H Q I q=>wpAny_tests_one (h pins s σ H Q I q)
section
variable {prog:Program}{w:World}{A:Around}{R:Result→Shared→Prop}
theorem comp_loop {elt tg iter:Expr}{ifs:List Expr}{sc:Scope}{pos:Pos}{it acc:Value}{env:Env} (J:Nat→Shared→Prop) (N:Value→Shared→Prop)
  (hN:N=notedBy (model prog w) A env fun e z=>R (.error e) z)
  (turn:∀ k z,J k z→wpAny (model prog w) A (pyNext it) (fun r z1=>match r with
   | none=>R (.ok .next) z1
   | some v=>wpAny (model prog w) A (letOwnedTupleGo tg it v) (fun _ z2=>wpAny (model prog w) A (assign tg env v) (fun _ z3 =>
     wpAny (model prog w) A (forIn ifs true fun c r=>if r=true then do let ok ← isTrue c env (eval c env);pure (ForInStep.yield ok) else pure (ForInStep.yield r)) (fun ok z4 =>
      if ok=true then wpAny (model prog w) A (eval elt env) (fun y z5=>wpAny (model prog w) A (call (.builtin "list.append") [acc,y]) (fun _ z6=>∃ j,j < k∧J j z6) N z5) N z4
      else ∃ j,j < k∧J j z4) N z3) N z2) N z1) N z)
  {z:Shared} (k:Nat) (h:J k z):codeAny (model prog w) A (.compLoop (.ListComp elt [⟨tg,iter,ifs,0⟩] sc pos) 0 it acc env) R z:=by
 subst hN;refine codeAny_loop rfl J (fun k z hJ=>?_) k h;show wpAny _ A ((compTurn (.ListComp elt [⟨tg,iter,ifs,0⟩] sc pos) 0 it acc env).onRaise (fun x=>do noteFrame x env;theTreesLotGoes x)) _ _ z;refine wpAny_noted ?_;rw [compTurn_list];refine wpAny_bind (wpAny_standAt (wpAny_bind (thn (turn k z hJ) fun r z1 h1=>?_)));cases r with
 | none=>exact wpAny_pure h1
 | some v =>
  refine wpAny_bind (thn h1 fun _ z2 h2=>?_);refine wpAny_bind (thn h2 fun _ z3 h3=>?_);refine wpAny_bind (thn h3 fun ok z4 h4=>?_);cases ok with
  | false=>exact wpAny_pure ⟨rfl,h4⟩
  | true=>exact wpAny_bind (wpAny_bind (thn h4 fun y z5 h5=>wpAny_bind (thn h5 fun _ z6 h6=>wpAny_pure (wpAny_pure ⟨rfl,h6⟩))))
end
noncomputable def cxComp (X:Cx) (sc:Scope) (cl:List (Str×Addr)) (T:List Str) (C:Addr) (s2:Shared) (H2:Hp) (fp:List Addr):Cx where
 prog:=X.prog
 w:=X.w
 K:=X.K
 mg:=X.mg
 base:=X.base
 A:=X.A
 N:=X.N++T
 s₀:=s2
 H₀:=H2
 env:=compEnvC sc cl C X.env
 outer:=X.stack
 stack:=X.stack
 ex:=fp
 fn:=fun _=>false
 calm:=X.calm
 pn:=[]
 xe:=fun _ _=>False
noncomputable def ClOk (X:Cx):List (Str×Addr)→Prop
 | []=>True
 | p :: r=>X.env.cells.lookup p.1=some p.2∧ClOk X r
theorem ClOk.look {X:Cx}:∀ {cl:List (Str×Addr)},ClOk X cl→∀ x c,cl.lookup x=some c→X.env.cells.lookup x=some c
 | [],_,_,_,h=>by cases h
 | p :: r,k,x,c,h=>by
  cases e:x == p.1 with
  | true =>
   rw [Y4,e] at h;have ex:x=p.1:=by simpa using e
   rw [ex,k.1];exact h
  | false =>
   rw [Y4,e] at h;exact ClOk.look k.2 x c h
structure ScOk (X:Cx) (sc:Scope) (cl:List (Str×Addr)) (T:List Str):Prop where
 clos:closureFor sc X.env=pure cl
 cell:∀ y∈sc.names,y.2≠.cell
 kind:sc.kind=.function
 names:∀ x∈sc.names,x.2=.local→sc.names.lookup x.1=some .local
 cls:ClOk X cl
 has:∀ x∈sc.names,x.2=.free→(cl.lookup x.1).isSome=true∧(X.env.scope.names.lookup x.1=some .cell∨X.env.scope.names.lookup x.1=some .free)
 out:∀ x∈X.N,sc.names.lookup x≠some .local
theorem zCn {sc:Scope}{env:Env}{x:Str}{k:NameKind}:∀ {names:List (Str×NameKind)},
  (names.map fun (n,k)=>if (k == NameKind.free && env.scope.kind == .function && env.kindOf n == some .cell) then (n,NameKind.cell) else (n,k)).lookup x=some k →
  ∃ j,(x,j)∈names∧names.lookup x=some j∧(j=k∨(j=.free∧k=.cell))
 | [],h=>by cases h
 | (n,j) :: r,h=>by
  cases e:x == n with
  | true =>
   have ex:x=n:=by simpa using e
   subst ex;refine ⟨j,Zj,by rw [Y4,e],?_⟩;have h':List.lookup x ((if (j == NameKind.free && env.scope.kind == .function && env.kindOf x == some .cell)=true then (x,NameKind.cell) else (x,j)) :: _)=some k:=h;by_cases c:(j == NameKind.free && env.scope.kind == .function && env.kindOf x == some .cell)=true
   ·rw [if_pos c,Y4,e] at h';have c1:(j == NameKind.free)=true:=by
     cases q:(j == NameKind.free) with
     | true=>rfl
     | false=>rw [q] at c;simp at c
    exact .inr ⟨by simpa using c1,(Zg h').symm⟩
   ·rw [if_neg c,Y4,e] at h';exact .inl (Zg h')
  | false =>
   have h':List.lookup x ((if (j == NameKind.free && env.scope.kind == .function && env.kindOf n == some .cell)=true then (n,NameKind.cell) else (n,j)) :: _)=some k:=h;have h2:(List.map (fun (n,k)=>if (k == NameKind.free && env.scope.kind == .function && env.kindOf n == some .cell) then (n,NameKind.cell) else (n,k)) r).lookup x=some k:=by
    by_cases c:(j == NameKind.free && env.scope.kind == .function && env.kindOf n == some .cell)=true
    ·rw [if_pos c,Y4,e] at h';exact h'
    ·rw [if_neg c,Y4,e] at h';exact h'
   obtain ⟨i,m,l,q⟩:=zCn (sc:=sc) (env:=env) h2;exact ⟨i,Zi _ m,by rw [Y4,e];exact l,q⟩
section
variable {X:Cx}{sc:Scope}{cl:List (Str×Addr)}{T:List Str}
theorem ScOk.seen (S:ScOk X sc cl T) {C:Addr}{x:Str} (h:(compEnvC sc cl C X.env).scope.names.lookup x=some .cell∨(compEnvC sc cl C X.env).scope.names.lookup x=some .free) :
  (∃ c,cl.lookup x=some c)∧(X.env.scope.names.lookup x=some .cell∨X.env.scope.names.lookup x=some .free):=by
 have key:∀ k,(k=.cell∨k=.free)→(relabel sc X.env).names.lookup x=some k→(∃ c,cl.lookup x=some c)∧(X.env.scope.names.lookup x=some .cell∨X.env.scope.names.lookup x=some .free):=by
  intro k hk h;obtain ⟨j,m,l,q⟩:=zCn (sc:=sc) (env:=X.env) h;have jf:j=.free:=by
   rcases q with rfl | ⟨q,_⟩
   ·rcases hk with rfl | rfl
    ·exact absurd rfl (S.cell _ m)
    ·rfl
   ·exact q
  subst jf;obtain ⟨a,b⟩:=S.has _ m rfl;exact ⟨Option.isSome_iff_exists.mp a,b⟩
 rcases h with h | h
 ·exact key _ (.inl rfl) h
 ·exact key _ (.inr rfl) h
theorem ScOk.local_out (S:ScOk X sc cl T) {C:Addr}{x:Str} (hx:x∈X.N):(compEnvC sc cl C X.env).scope.names.lookup x≠some .local:=by
 intro h;obtain ⟨j,m,l,q⟩:=zCn (sc:=sc) (env:=X.env) h;rcases q with rfl | ⟨_,q⟩
 ·exact S.out x hx l
 ·cases q
variable {pins:List (Addr×Obj)}{σ : St}{H:Hp}{s:Shared}{fp:List Addr}{C:Addr}
theorem comp_ok (S:ScOk X sc cl T) (I:Inv X pins σ H s) (hf:∀ b∈fp,FpOk X pins H b) (hl:∀ b∈fp,b < s.heap.objs.size) (hC:s.heap.objs.size≤C):(cxComp X sc cl T C s H fp).Ok where
 mod:=I.ok.mod
 kind:=S.kind
 glob:=I.ok.glob
 blt:=I.ok.blt
 above:=hC
 inj:=fun x y c h1 h2=>I.ok.inj x y c (S.cls.look x c h1) (S.cls.look y c h2)
 has:=fun x hx=>(S.seen hx).1
 cab:=fun x c h=>by cases h
 hd:=I.ok.hd
 frames:=I.ok.frames
 stk:=.inl rfl
 exf:=fun b hb=>⟨Ze (Z9 (hl b hb) hC),fun x c h=>(hf b hb).2.2.2.2.1 x c (S.cls.look x c h)⟩
 bs:=I.bs
 bsz:=Zp I.ok.bsz I.sz
 noex:=fun b o e hb=>by
  rcases (hf b hb).2.2.2.1 with z | z
  ·exact I.ok.noex b o e z
  ·exact absurd (Z9 (Z7 e) (Zp I.ok.bsz z)) (Y2 _)
 exfs:=fun b hb z=>by
  rcases List.mem_cons.mp (I.stkSub b z) with e | e
  ·exact (hf b hb).2.1 e
  ·exact (hf b hb).2.2.1 e
 funs:=I.stack
 frf:=I.stkFree
theorem comp_inv (S:ScOk X sc cl T) (I:Inv X pins σ H s) (hf:∀ b∈fp,FpOk X pins H b) (hl:∀ b∈fp,b < s.heap.objs.size) (hC:s.heap.objs.size≤C) {h1:Heap}{m:Str→Option Value}{t1:Nat}
  (k:∀ b o,s.heap.get? b=some o→h1.get? b=some o) (hn:h1.Ns C m):Inv (cxComp X sc cl T C s H fp) [] (σ++List.replicate T.length none) H { s with heap:=h1,toks:=t1 } where
 ok:=comp_ok S I hf hl hC
 os:=rfl
 bare:=I.bare
 base:=Un.kept k
 loc:=by
  refine ⟨m,hn,fun i x v e1 e2 e3=>?_⟩;have hi:i < σ.length:=by
   by_cases hi:i < σ.length
   ·exact hi
   ·rw [Y3 (Nat.not_lt.mp hi),List.getElem?_replicate] at e2;split at e2 <;> cases e2
  rw [Zm hi] at e2;have e1':X.N[i]? = some x:=by
   have e:(X.N++T)[i]? = some x:=e1
   rwa [Zm (by rw [← I.len];exact hi)] at e
  have hx:x∈X.N:=Z4 e1';have e3':(compEnvC sc cl C X.env).scope.names.lookup x=some .cell∨(compEnvC sc cl C X.env).scope.names.lookup x=some .free:=by
   rcases e3 with z | z | z
   ·exact absurd z (S.local_out hx)
   ·exact .inl z
   ·exact .inr z
  obtain ⟨⟨c,hc⟩,ko⟩:=S.seen e3';obtain ⟨m0,hn0,hl0⟩:=I.loc;obtain ⟨u,r,l⟩:=hl0 i x v e1' e2 (.inr ko);refine ⟨u,r,.inr ⟨e3',c,hc,?_⟩⟩;have hc':=S.cls.look x c hc;rcases l with ⟨kl,_⟩ | ⟨_,c',hc2,z⟩
  ·have kl':X.env.scope.names.lookup x=some .local:=kl;rcases ko with q | q
   ·rw [q] at kl';cases kl'
   ·rw [q] at kl';cases kl'
  ·rw [hc'] at hc2;cases hc2;obtain ⟨o,ho,hd⟩:=z;exact ⟨o,k _ _ ho,hd⟩
 cell:=fun x c hc=>by
  obtain ⟨v,o,ho,hd⟩:=I.cell x c (S.cls.look x c hc);exact ⟨v,o,k _ _ ho,hd⟩
 free:=I.hok.fresh hC
 freeC:=fun x c hc=>I.freeC x c (S.cls.look x c hc)
 pin:=fun p hp=>absurd (show p∈([]:List (Addr×Obj)) from hp) (by simp)
 hok:=I.hok.kept k
 len:=by
  show (σ++List.replicate T.length none).length=(X.N++T).length;rw [Zk,Zk,Y6,I.len]
theorem comp_out (S:ScOk X sc cl T) (I:Inv X pins σ H s) (hf:∀ b∈fp,FpOk X pins H b) {D:Addr} (hD:s.heap.objs.size≤D) (hC:s.heap.objs.size≤C) (hDC:D≠C) {s1:Shared}{H1:Hp}{σ1:St}{p1:List (Addr×Obj)}{ys:List V}{its:List Value}
  (J:Inv (cxComp X sc cl T C s H fp) p1 σ1 H1 s1) (hH:H1 D=none) (rv:Vals ys its) (hz:ys.length≤sizeLine) (hget:s1.heap.get? D=some (LCg.lst its)) :
  Inv X pins σ (upd H1 D (.lst ys)) s1:=by
 have fD:H D=none:=I.hok.fresh hD;have nD:∀ b o,s.heap.get? b=some o→b≠D:=fun b o e=>Ze (Z9 (Z7 e) hD);refine I.call' (ch:=fp) J.os ⟨fun b o e n hb hx=>J.base.keep b o e n hb hx,fun b o e n hb hx=>J.base.slot b o e n hb hx,fun b o e n hx=>?_,fun b o e hx=>J.base.there b o e hx,fun b xs e=>?_,fun b o u e=>?_,fun b ps e=>?_⟩ (fun b u e=>?_) J.bare fun b hb=>⟨(hf b hb).2.2.2.1,(hf b hb).2.1,(hf b hb).2.2.2.2.1,(hf b hb).2.2.2.2.2⟩
 ·rw [zA5 (nD b o e)];exact J.base.free b o e n hx
 ·rw [zA5 (zA3 e fD)];exact J.base.tups b xs e
 ·rw [zA5 (zA3 e fD)];exact J.base.frzs b o u e
 ·rw [zA5 (zA3 e fD)];exact J.base.tbls b ps e
 ·by_cases hb:b=D
  ·subst hb;rw [zA1] at e;cases e;exact ⟨hz,its,its.length,rv,hget⟩
  ·rw [zA5 hb] at e;exact (J.hok b u e).stay (fun c v _ q=>q) (fun c q=>by rw [zA5 (zA3 q hH)];exact q) fun c xs q=>by rw [zA5 (zA3 q hH)];exact q
end
noncomputable def CompGoal (J:It) (k:Nat) (σ : St) (H1:Hp) (g:TG) (tt:TT) (te:TE) (Q:VK):Prop:=∃ W:Nat→Nat→List V→Hp→Prop,(∃ m,W 0 m [] H1)∧∀ i m ys H,W i m ys H →
 (J.stop i H∧ys.length≤sizeLine∧∀ p,H p=none→Q (.ref p) (upd H p (.lst ys))) ∨
 (J.go i H∧ys.length≤sizeLine∧∀ x H',J.yld i H x H'→g x (σ++List.replicate k none) H' fun σ2 H2=>tt σ2 H2 fun b H3 =>
  if b=true then te σ2 H3 fun y H4=>∃ m',m' < m∧W (i + 1) m' (ys++[y]) H4 else ∃ m',m' < m∧W (i + 1) m' ys H3)
noncomputable def tComp (k:Nat) (wi:TI) (g:TG) (tt:TT) (te:TE):TE:=fun σ H Q=>wi σ H fun J H1=>CompGoal J k σ H1 g tt te Q
section
variable {X:Cx}{elt tg iter:Expr}{ifs:List Expr}{sc:Scope}{pos:Pos}{cl:List (Str×Addr)}{T:List Str}{wi:TI}{g:TG}{tt:TT}{te:TE}
theorem zD8 {pins:List (Addr×Obj)}{σ : St}{s2:Shared}{H2:Hp}{Q:VK}{E:Value→Shared→Prop}{R:Value→Addr→Result→Shared→Prop}{it:Addr}{fp:List Addr}{tn:Nat→Heap→Prop}{J:It}
  (hc:X.calm=true) (S:ScOk X sc cl T)
  (hg:∀ C s H fp,PG (cxComp X sc cl T C s H fp) tg g) (hf:∀ C s H fp,PFs (cxComp X sc cl T C s H fp) ifs tt) (he:∀ C s H fp,PE (cxComp X sc cl T C s H fp) elt te)
  (I:Inv X pins σ H2 s2) (TT':Turn X.prog X.w X.K tg J fp it tn) (st:tn 0 s2.heap) (f2:∀ b∈fp,FpOk X pins H2 b)
  (W:Nat→Nat→List V→Hp→Prop) (m0:Nat) (w0:W 0 m0 [] H2)
  (turn:∀ i m ys H,W i m ys H→(J.stop i H∧ys.length≤sizeLine∧∀ p,H p=none→Q (.ref p) (upd H p (.lst ys))) ∨
   (J.go i H∧ys.length≤sizeLine∧∀ x H',J.yld i H x H'→g x (σ++List.replicate T.length none) H' fun σ2 H2=>tt σ2 H2 fun b H3 =>
    if b=true then te σ2 H3 fun y H4=>∃ m',m' < m∧W (i + 1) m' (ys++[y]) H4 else ∃ m',m' < m∧W (i + 1) m' ys H3))
  (hR:∀ (D C:Addr) (s1:Shared) (H1:Hp) (m:Str→Option Value),Inv X pins σ H1 s1→H1 C=none→C≠X.env.locals→X.s₀.heap.objs.size≤C→(∀ x c,X.env.cells.lookup x=some c→c≠C)→(∀ p∈X.pn++pins,p.1≠C) →
   s1.heap.Ns C m→Q (.ref D) H1→R (.ref D) C (.ok .next) s1) :
  wpAny (model X.prog X.w) X.A (newList []) (fun acc s₃=>wpAny (model X.prog X.w) X.A (newFunctionEnv sc X.env.globals cl [] X.env.qual none .none (some X.env)) (fun cenv s₄ =>
   codeAny (model X.prog X.w) X.A (.compStart (.ListComp elt [⟨tg,iter,ifs,0⟩] sc pos) 0 (.ref it) acc { cenv with scope:=relabel sc X.env }) (R acc cenv.locals) s₄) E s₃) E s2:=by
 refine wpAny_newObj_type (wpAny_newFunctionEnv S.cell (by intro y hy;simp at hy) (fun h1 hn1 sb1=>?_) S.kind);dsimp only at hn1 sb1 ⊢;generalize hH:s2.heap.push { cls:=.type "list",dict:=none,data:=.seq ([]:List Value).toArray }=G at hn1 sb1 ⊢;have hC:G.objs.size=s2.heap.objs.size + 1:=by rw [← hH,Ye]
 have hDC:s2.heap.objs.size≠G.objs.size:=by rw [hC];exact Ze (Yb _)
 have hCle:s2.heap.objs.size≤G.objs.size:=by rw [hC];exact Nat.le_succ _
 have old:∀ b o,s2.heap.get? b=some o→h1.get? b=some o:=fun b o e=>by
  exact sb1.extBut b o (Ze (Z9 (Z7 e) hCle)) (Z2 _ (hH ▸ Z2 _ e))
 have hacc:h1.get? s2.heap.objs.size=some (LCg.lst []):=sb1.extBut _ _ hDC (Z2 _ (hH ▸ Zb _ rfl));have fl:∀ b∈fp,b < s2.heap.objs.size:=fun b hb=>by
  obtain ⟨o,e,_⟩:=TT'.obj _ _ st b hb;exact Z7 e
 have DS:s2.heap.objs.size∉frs X.stack:=fun z=>by
  rcases List.mem_cons.mp (I.stkSub _ z) with e | e
  ·exact Ze I.lt e.symm
  ·exact I.nofs (Z5 _) e
 have keepT:∀ (i:Nat) (h h':Heap),tn i h→(∀ b o,b < s2.heap.objs.size→h.get? b=some o→h'.get? b=some o)→tn i h':=fun i h h' z k=>TT'.keep i h h' z fun b hb o e=>k b o (fl b hb) e;have fpo:∀ {H':Hp}{pl:List (Addr×Obj)},(∀ b∈fp,H' b=none)→(∀ p∈pl,s2.heap.objs.size≤p.1)→∀ b∈fp,FpOk (cxComp X sc cl T G.objs.size s2 H2 fp) pl H' b:=fun {H' pl} hn hp b hb=>by
  refine ⟨hn b hb,fun z=>?_,fun z=>?_,.inl hb,fun x c h=>(f2 b hb).2.2.2.2.1 x c (S.cls.look x c h),fun p hp' z=>?_⟩
  ·exact Ze (Z9 (fl b hb) hCle) z
  ·rcases List.mem_cons.mp (I.stkSub b z) with e | e
   ·exact (f2 b hb).2.1 e
   ·exact (f2 b hb).2.2.1 e
  ·exact Ze (Z9 (fl b hb) (hp p (show p∈pl from hp'))) z.symm
 let Y:=cxComp X sc cl T G.objs.size s2 H2 fp
 have loop:∀ z:Shared,z={ s2 with heap:=h1,toks:=s2.toks + ([]:List (Str×Value)).length } →
   codeAny (model X.prog X.w) X.A (.compLoop (.ListComp elt [⟨tg,iter,ifs,0⟩] sc pos) 0 (.ref it) (.ref s2.heap.objs.size) (compEnvC sc cl G.objs.size X.env)) (R (.ref s2.heap.objs.size) G.objs.size) z:=by
  rintro z rfl;refine comp_loop (fun n z=>∃ i ys its H',Inv Y [] (σ++List.replicate T.length none) H' z∧tn i z.heap∧(∀ b∈fp,H' b=none)∧H' s2.heap.objs.size=none∧Vals ys its∧z.heap.get? s2.heap.objs.size=some (LCg.lst its)∧W i n ys H') _ rfl ?_ m0
   ⟨0,[],[],H2,comp_inv S I f2 fl hCle old hn1,TT'.keep _ _ _ st fun b hb o e=>old b o e,fun b hb=>(f2 b hb).1,I.hok.fresh (Z5 _),.nil,hacc,w0⟩
  rintro n z ⟨i,ys,its,H',IY,stz,frz,fD,rv,hget,wz⟩;have IP:Inv Y [(s2.heap.objs.size,LCg.lst its)] (σ++List.replicate T.length none) H' z:=IY.pins_of fun p hp=>by
   have e:p=(s2.heap.objs.size,LCg.lst its):=by simpa using hp
   subst e;exact ⟨hget,fD,hDC,DS,fun v q=>by cases (show Data.seq _ _=Data.cell v from q)⟩
  have hpl:∀ p∈[(s2.heap.objs.size,LCg.lst its)],s2.heap.objs.size≤p.1:=fun p hp=>by
   have e:p=(s2.heap.objs.size,LCg.lst its):=by simpa using hp
   subst e;exact Z5 _
  rcases turn i n ys H' wz with ⟨stop,hz,q⟩ | ⟨go,hz,step⟩
  ·refine thn (TT'.done Y rfl rfl rfl hc i _ z _ H' _ IP (fpo frz hpl) stz stop) fun r z1 ⟨hr,I1⟩=>?_;subst hr;have g1:z1.heap.get? s2.heap.objs.size=some (LCg.lst its):=(I1.pin (s2.heap.objs.size,LCg.lst its) (by simp [Y,cxComp])).1;obtain ⟨mC,hnC,_⟩:=I1.loc;have out:=comp_out S I f2 (Z5 _) hCle hDC I1 fD rv hz g1;refine hR _ _ z1 _ mC out ?_ ?_ ?_ ?_ ?_ hnC (q _ fD)
   ·rw [zA5 (Ne.symm hDC)];exact I1.free
   ·exact (Ze (Z9 I.lt hCle)).symm
   ·exact Zp I.sz hCle
   ·intro x c hcc;obtain ⟨v,zc⟩:=I.cell x c hcc;exact Ze (Z9 zc.lt hCle)
   ·intro p hp;exact Ze (Z9 (Z7 (I.pin p hp).1) hCle)
  ·refine thn (TT'.item Y rfl rfl rfl hc i _ z _ H' _ IP (fpo frz hpl) stz go) fun r z1 ⟨u,hr,h1'⟩=>?_;subst hr;refine thn h1' fun _ z2 ⟨x,H3,I3,r3,y3,st3,fr3⟩=>?_;have I3':=I3.pinned (fpo fr3 hpl) (TT'.obj _ _ st3);have fin:∀ {H':Hp}{σ':St}{z':Shared},Inv Y ([(s2.heap.objs.size,LCg.lst its)]++pinsAt fp z2.heap) σ' H' z'→tn (i + 1) z'.heap∧(∀ b∈fp,H' b=none)∧H' s2.heap.objs.size=none∧z'.heap.get? s2.heap.objs.size=some (LCg.lst its):=fun {H' σ' z'} I'=>by
    have a1:∀ b∈fp,∀ o,z2.heap.get? b=some o→z'.heap.get? b=some o∧H' b=none:=fun b hb o e =>
     let p:=I'.pin (b,o) (Zr _ (Zr _ (zCs hb e)))
     ⟨p.1,p.2.1⟩
    have a2:=I'.pin (s2.heap.objs.size,LCg.lst its) (Zr _ (by simp))
    exact ⟨TT'.keep _ _ _ st3 fun b hb o e=>(a1 b hb o e).1,fun b hb=>by
     obtain ⟨o,e,_⟩:=TT'.obj _ _ st3 b hb
     exact (a1 b hb o e).2,a2.2.1,a2.1⟩
   have bare:∀ {H':Hp}{σ':St}{z':Shared},Inv Y ([(s2.heap.objs.size,LCg.lst its)]++pinsAt fp z2.heap) σ' H' z'→Inv Y [] σ' H' z':=fun I'=>I'.pins_of fun p hp=>absurd hp (by simp);refine wpAny_mono (hg G.objs.size s2 H2 fp _ z2 _ H3 x u _ I3' r3 (step x H3 y3)) (fun _ z3 ⟨σ4,H4,I4,q4⟩=>?_) fun _ _ e=>e.elim;refine wpAny_mono (hf G.objs.size s2 H2 fp _ z3 _ H4 _ I4 q4) (fun ok z4 ⟨H5,I5,q5⟩=>?_) fun _ _ e=>e.elim;have lenσ : ∀ {H':Hp}{σ':St}{z':Shared}{pl},Inv Y pl σ' H' z'→(σ++List.replicate T.length none).length = σ'.length:=fun I'=>by rw [I'.len];exact IY.len
   have weak:∀ {H':Hp}{z':Shared},Inv Y [] σ4 H' z'→Inv Y [] (σ++List.replicate T.length none) H' z':=fun {H' z'} I'=>by
    have c0:=comp_inv (T:=T) (t1:=z'.toks) S I f2 fl hCle old hn1;obtain ⟨m',hn',hl'⟩:=I'.loc;obtain ⟨_,_,hl0⟩:=I.loc;refine ⟨I'.ok,I'.os,I'.bare,I'.base,⟨m',hn',fun j x v e1 e2 e3=>?_⟩,I'.cell,I'.free,I'.freeC,I'.pin,I'.hok,(lenσ I').trans I'.len⟩;have hj:j < σ.length:=by
     by_cases hj:j < σ.length
     ·exact hj
     ·rw [Y3 (Nat.not_lt.mp hj),List.getElem?_replicate] at e2;split at e2 <;> cases e2
    have e2':=e2;rw [Zm hj] at e2';have e1':X.N[j]? = some x:=by
     have e:(X.N++T)[j]? = some x:=e1
     rwa [Zm (by rw [← I.len];exact hj)] at e
    have hx:x∈X.N:=Z4 e1';have e3':(compEnvC sc cl G.objs.size X.env).scope.names.lookup x=some .cell∨(compEnvC sc cl G.objs.size X.env).scope.names.lookup x=some .free:=by
     rcases e3 with z | z | z
     ·exact absurd z (S.local_out hx)
     ·exact .inl z
     ·exact .inr z
    obtain ⟨⟨c,hc'⟩,ko⟩:=S.seen e3';obtain ⟨u,r,l⟩:=hl0 j x v e1' e2' (.inr ko);have hcX:=S.cls.look x c hc';refine ⟨u,r,.inr ⟨e3',c,hc',?_⟩⟩;rcases l with ⟨kl,_⟩ | ⟨_,c',hc2,zc⟩
    ·have kl':X.env.scope.names.lookup x=some .local:=kl;rcases ko with q | q
     ·rw [q] at kl';cases kl'
     ·rw [q] at kl';cases kl'
    ·rw [hcX] at hc2;cases hc2;obtain ⟨o,ho,hd⟩:=zc;have nfp:c∉fp:=fun hb=>(f2 c hb).2.2.2.2.1 x c hcX rfl;obtain ⟨sl,e⟩:=I'.base.any ho (I.freeC x c hcX) nfp;exact ⟨_,e,hd⟩
   cases ok with
   | false =>
    rw [if_neg Z3] at q5 ⊢;obtain ⟨m',hm,w'⟩:=q5;obtain ⟨b1,b2,b3,b4⟩:=fin I5;exact ⟨m',hm,i + 1,ys,its,H5,weak (bare I5),b1,b2,b3,rv,b4,w'⟩
   | true =>
    rw [if_pos rfl] at q5 ⊢;refine wpAny_mono (he G.objs.size s2 H2 fp _ z4 _ H5 _ I5 q5) (fun y z5 ⟨yv,H6,I6,r6,q6⟩=>?_) fun _ _ e=>e.elim;obtain ⟨m',hm,w'⟩:=q6;obtain ⟨b1,b2,b3,b4⟩:=fin I6;refine append_at (hsz:=by show its.toArray.size≤sizeLine;rw [Zf,← rv.length];exact hz) b4 fun h6 sb6 g6=>?_
    have I7:Inv Y [] (σ++List.replicate T.length none) H6 { z5 with heap:=h6 }:=(weak (bare I6)).turned (t':=z5.toks) (it:=s2.heap.objs.size) (fun b o hb e=>(sb6.2 b hb).trans e) b3 hDC (.inr (Z5 _)) (fun x c h=>by
     obtain ⟨v,zc⟩:=I.cell x c (S.cls.look x c h)
     exact Ze zc.lt) fun p hp=>absurd (show p∈([]:List (Addr×Obj)) from hp) (by simp)
    refine ⟨m',hm,i + 1,ys++[yv],its++[y],H6,I7,keepT _ _ _ b1 fun b o hb e=>(sb6.2 b (Ze hb)).trans e,b2,b3,rv.append (.cons r6 .nil),g6.trans (congrArg some (LCg.lst_snoc its y)),w'⟩
 exact codeAny_compStart_list (loop _ rfl) (TT'.self _ 0 _ _ _ (TT'.keep _ _ _ st fun b hb o e=>old b o e) (loop _ rfl))
theorem zAn (hc:X.calm=true) (S:ScOk X sc cl T) (hi:PI X tg iter wi)
  (hg:∀ C s H fp,PG (cxComp X sc cl T C s H fp) tg g) (hf:∀ C s H fp,PFs (cxComp X sc cl T C s H fp) ifs tt) (he:∀ C s H fp,PE (cxComp X sc cl T C s H fp) elt te)
  (hs:∀ x,foldedSetIterable iter X.env x=pure x:=by intro _;rfl):PE X (.ListComp elt [⟨tg,iter,ifs,0⟩] sc pos) (tComp T.length wi g tt te):=by
 intro pins s σ H Q I h;rw [eval_ListComp];refine wpAny_comprehension_free (use:=none) rfl hs S.clos S.kind S.names (thn (hi pins s σ H _ I h) fun v s1 h1=>thn h1 fun itv s2 h2=>?_);obtain ⟨it,fp,tn,J,H2,e,I2,TT',st2,f2,W,⟨m0,w0⟩,turn⟩:=h2;subst e;refine zD8 (Q:=Q) hc S hg hf he I2 TT' st2 f2 W m0 w0 turn fun D C z H1 m I1 n1 n2 n3 n4 n5 hn q=>?_;exact ⟨m,hn,fun h' sb=>⟨.ref D,H1,I1.turned (t':=z.toks) (it:=C) (fun b o hb e=>(sb.2 b hb).trans e) n1 n2 (.inr n3) n4 n5,rfl,q⟩⟩
theorem zB3 {i:Nat}{y:Str}{py spos:Pos} (hc:X.calm=true) (S:ScOk X sc cl T) (hi:PI X tg iter wi)
  (hg:∀ C s H fp,PG (cxComp X sc cl T C s H fp) tg g) (hf:∀ C s H fp,PFs (cxComp X sc cl T C s H fp) ifs tt) (he:∀ C s H fp,PE (cxComp X sc cl T C s H fp) elt te)
  (hN:X.N.Nodup) (hix:X.N[i]? = some y) (hx:X.env.scope.names.lookup y=some .local)
  (hsw:swapsWith (.ListComp elt [⟨tg,iter,ifs,0⟩] sc pos) (some (.Name y py)) spos.line X.env=pure true)
  (hs:∀ x,foldedSetIterable iter X.env x=pure x:=by intro _;rfl) :
  PS X (.Assign [.Name y py] (.ListComp elt [⟨tg,iter,ifs,0⟩] sc pos) spos) (tAsg (tComp T.length wi g tt te) (gName i)):=by
 intro pins s σ H D I h;rw [exec_Assign_Name_used _ _ _ _ hsw];refine wpAny_bind (wpAny_standAt (wpAny_bind ?_));show wpAny _ X.A (do let _ ← comprehension (.ListComp elt [⟨tg,iter,ifs,0⟩] sc pos) sc X.env _ (newList []) false (eval iter X.env) (some (assign (.Name y py) X.env))) _ _ s;refine wpAny_bind (thn (wpAny_comprehension_free (use:=some (assign (.Name y py) X.env)) (Q:=fun _ s'=>SP X pins D .next s') rfl hs S.clos S.kind S.names (thn (hi pins s σ H _ I h) fun v s1 h1=>thn h1 fun itv s2 h2=>?_)) fun _ s' hq=>wpAny_pure (wpAny_pure hq));obtain ⟨it,fp,tn,J,H2,e,I2,TT',st2,f2,W,⟨m0,w0⟩,turn⟩:=h2;subst e;refine zD8 (Q:=fun x H1=>gName i x σ H1 D.nx) hc S hg hf he I2 TT' st2 f2 W m0 w0 turn fun A C z H1 m I1 n1 n2 n3 n4 n5 hn q=>?_;show wpAny _ X.A (assign (.Name y py) X.env (.ref A)) _ _ z;refine wpAny_assign_Name (store_ok2 (v:=.ref A) I1 hN hix (.inl hx) rfl (fun z' I' ⟨a,sb,ha⟩=>?_) (.inr hx));have hCa:C≠a:=by
  rcases ha with e | e
  ·rw [e];exact n2
  ·exact (n4 y a e).symm
 refine ⟨m,hn.sameBut sb hCa,fun h' sb'=>⟨_,H1,I'.turned (t':=z'.toks) (it:=C) (fun b o hb e=>(sb'.2 b hb).trans e) n1 n2 (.inr n3) n4 n5,q⟩⟩
end
end L2
namespace L2
open PySem PySem.Spec PyProof.Rows
section
variable {X:Cx}
theorem v1 {x:V}{us:List Value} (r:Vals [x] us):∃ u,us=[u]∧RelV x u:=by
 cases r with
 | cons a b=>cases b;exact ⟨_,rfl,a⟩
theorem v2 {x y:V}{us:List Value} (r:Vals [x,y] us):∃ u v,us=[u,v]∧RelV x u∧RelV y v:=by
 cases r with
 | cons a b =>
  cases b with
  | cons c d=>cases d;exact ⟨_,_,rfl,a,c⟩
theorem zAl:CallR X (.builtin "isinstance") (fun xs H Q=>∃ x c t cv b,xs=[x,c]∧TyOf X.K H x t∧RelV c cv∧PySem.W.kitOne X.K t cv=some b∧Q (.bl b) H):=by
 intro pins s σ H xs us Q I r h;obtain ⟨x,c,t,cv,b,rfl,ty,rc,e,q⟩:=h;obtain ⟨u,v,rfl,ru,rv⟩:=v2 r;have hv:v=cv:=by
  cases c with
  | non=>exact (show v=Value.none from rv).trans (show cv=Value.none from rc).symm
  | bl z=>exact (show v=Value.bool z from rv).trans (show cv=Value.bool z from rc).symm
  | int i =>
   obtain ⟨t1,rfl⟩:=rc;exact absurd e (by unfold PySem.W.kitOne;cases ty <;> simp [PySem.W.kitCls])
  | str i =>
   obtain ⟨t1,rfl⟩:=rc;exact absurd e (by unfold PySem.W.kitOne;cases ty <;> simp [PySem.W.kitCls])
  | byt i =>
   obtain ⟨t1,rfl⟩:=rc;exact absurd e (by unfold PySem.W.kitOne;cases ty <;> simp [PySem.W.kitCls])
  | flt i =>
   obtain ⟨t1,rfl⟩:=rc;exact absurd e (by unfold PySem.W.kitOne;cases ty <;> simp [PySem.W.kitCls])
  | ref a=>exact (show v=Value.ref a from rv).trans (show cv=Value.ref a from rc).symm
  | ty n=>exact (show v=Value.type n from rv).trans (show cv=Value.type n from rc).symm
 subst hv;exact isinst_ok I ru ty e fun tk=>⟨.bl b,H,I.tok tk,rfl,q⟩
theorem zDo:∀ {bs:List Bool}{us:List Value}{i:Nat}{v:Value},Vals (bs.map V.bl) us→us[i]? = some v→∃ b,bs[i]? = some b∧v=Value.bool b
 | [],_,i,v,.nil,h=>by simp at h
 | b :: r,_,0,v,.cons a t,h=>by
  simp at h;subst h;exact ⟨b,rfl,a⟩
 | b :: r,_,i + 1,v,.cons a t,h=>by
  obtain ⟨b',e,q⟩:=zDo (bs:=r) (i:=i) t (by simpa using h);exact ⟨b',by simpa using e,q⟩
theorem all_range:∀ (bs:List Bool),((List.range bs.length).all fun i=>(bs[i]?).getD true)=bs.all id
 | []=>rfl
 | b :: r=>by
  rw [Zh,List.range_succ_eq_map,Y8,Yj,Y8];have e:=all_range r;simp only [Function.comp_def,List.getElem?_cons_succ,List.getElem?_cons_zero,Option.getD_some,id] at *;rw [← e]
theorem zBi (hc:X.calm=true):CallR X (.builtin "all") (fun xs H Q=>∃ (p:Addr) (bs:List Bool),xs=[.ref p]∧SqL X.K H p (bs.map V.bl)∧Q (.bl (bs.all id)) H):=by
 intro pins s σ H xs us Q I r h;obtain ⟨p,bs,rfl,hp,q⟩:=h;obtain ⟨u,rfl,ru⟩:=v1 r;cases (show u=Value.ref p from ru);obtain ⟨its,rv,pl,hz⟩:=I.list hp;have hl:=pl.isList;have hlt:p < s.heap.objs.size:=by obtain ⟨_,e,_⟩:=hl;exact Z7 e
 have hlen:its.length=bs.length:=by rw [← rv.length,Z0]
 refine call_all_walk (wpAny_pyIter_list hl ?_)
 refine ⟨s.heap.objs.size,[s.heap.objs.size,p],[s.heap.objs.size],its.toArray.size,_,_,fun i=>(bs[i]?).getD true,rfl,Walks.list (A:=X.A.in1) (I.ok.hd hc) _ p (Ze hlt) its.toArray,
  ⟨⟨_,Zb _ rfl,rfl,rfl⟩,hl.push _⟩,fun i v s' Q' E' hP hQ=>?_,fun h' tk hk=>?_⟩
 ·obtain ⟨b,e,rfl⟩:=zDo rv (by simpa using hP);simp only [e,Option.getD_some] at hQ;exact wpAny_truthy_bool hQ
 ·rw [Zf,hlen,all_range];exact ⟨.bl _,H,I.kept (t':=tk) fun b o e=>hk b o (fun hm=>by rw [List.mem_singleton.mp hm] at e;exact Y2 _ (Z7 e)) (Z2 _ e),rfl,q⟩
noncomputable def Its (x:Str):It:=⟨fun i _=>i < x.length,fun i H v H'=>H'=H∧∃ c,x.cps[i]? = some c∧v=.str ⟨#[c]⟩,fun i _=>x.length≤i⟩
noncomputable def iStr (tl:TE):TI:=fun σ H R=>tl σ H fun v H1=>∃ x,v=.str x∧R (Its x) H1
theorem turn_str {P:Program}{w:World}{K:PySem.W.Frag}{y:Str}{py:Pos}{x:Str}{it:Addr}{St:Nat→Heap→Prop} (ho:∀ i h,St i h→∃ o,h.get? it=some o∧∀ v,o.data≠.cell v)
  (W:∀ A':Around,A'.handled=none→Walks P w A' it [it] [it] x.cps.size (SignAt x) St) (hself:∀ (A:Around) (i:Nat) (s:Shared) (Q:Value→Shared→Prop) (E:Value→Shared→Prop),St i s.heap→Q (.ref it) s→wpAny (model P w) A (pyIter (.ref it)) Q E s)
  (hst:∀ i h,St i h→i≤x.cps.size→True):Turn P w K (.Name y py) (Its x) [it] it (fun i h=>i≤x.cps.size∧St i h) where
 mem:=by simp
 obj:=fun i h st b hb=>by
  have e:b=it:=by simpa using hb
  subst e;exact ho i h st.2
 keep:=fun i h h' st k=>⟨st.1,(W { callerA with handled:=none } rfl).frame i h h' st.2 k⟩
 item:=by
  intro X hP hw hK hc i pins s σ H E I hf st hg;subst hP hw hK;obtain ⟨f0,f1,f2,f3,f4,f5⟩:=hf it (by simp);refine (W X.A (I.ok.hd hc)).item i s _ _ hg st.2 fun v h' tk hv st' kk=>?_;obtain ⟨c,u,hc',rfl⟩:=hv;have I1:Inv X pins σ H { s with heap:=h',toks:=tk }:=I.turned (fun b o hb e=>kk b o (by simpa using hb) e) f0 f1 f3 f4 f5;exact ⟨_,rfl,wpAny_pure ⟨.str ⟨#[c]⟩,H,I1,⟨u,rfl⟩,⟨rfl,c,hc',rfl⟩,⟨hg,st'⟩,fun b hb=>(hf b hb).1⟩⟩
 done:=by
  intro X hP hw hK hc i pins s σ H E I hf st hg;subst hP hw hK;obtain ⟨f0,f1,f2,f3,f4,f5⟩:=hf it (by simp);have e:i=x.cps.size:=Nat.le_antisymm st.1 hg;have st2:=st.2;rw [e] at st2;exact (W X.A (I.ok.hd hc)).done s _ _ st2 fun h' tk kk=>⟨rfl,I.turned (fun b o hb e=>kk b o (by simpa using hb) e) f0 f1 f3 f4 f5⟩
 self:=fun A i s Q E st h=>hself A i s Q E st.2 h
theorem pi_str {y:Str}{py:Pos}{l:Expr}{tl:TE} (hl:PE X l tl):PI X (.Name y py) l (iStr tl):=by
 intro pins s σ H R I h;refine thn (hl pins s σ H _ I h) fun v s1 ⟨x,H1,I1,r1,q1⟩=>?_;obtain ⟨z,rfl,q⟩:=q1;obtain ⟨t,rfl⟩:=r1;have fin:∀ {o:Obj}{St:Nat→Heap→Prop},Turn X.prog X.w X.K (.Name y py) (Its z) [s1.heap.objs.size] s1.heap.objs.size St→St 0 (s1.heap.push o)→PIE X pins σ (.Name y py) R (.ref s1.heap.objs.size) { s1 with heap:=s1.heap.push o }:=fun {o St} T st=>by
  refine ⟨s1.heap.objs.size,[s1.heap.objs.size],St,_,H1,rfl,I1.kept (t':=s1.toks) fun b o e=>Z2 _ e,T,st,fun b hb=>?_,q⟩;have e:b=s1.heap.objs.size:=by simpa using hb
  subst e;exact I1.fpOk (Z5 _) (I1.hok.fresh (Z5 _))
 cases ha:z.cps.all (· < 128)
 ·refine wpAny_pyIter_wide ha (fin (turn_str (fun i h st=>?_) (fun A' hA=>Walks.strWide hA _ z t) (fun A i s Q E st h=>wpAny_pyIter_striter_wide st h) fun _ _ _ _=>trivial) ⟨Zn _,⟨_,Zb _ rfl,rfl,rfl⟩⟩);obtain ⟨o,e,c,d⟩:=st;exact ⟨o,e,fun v q=>by rw [d] at q;cases q⟩
 ·refine wpAny_pyIter_ascii ha (fin (turn_str (fun i h st=>?_) (fun A' hA=>Walks.strAscii hA _ z t) (fun A i s Q E st h=>wpAny_pyIter_striter_ascii st h) fun _ _ _ _=>trivial) ⟨Zn _,⟨_,Zb _ rfl,rfl,rfl⟩⟩);obtain ⟨o,e,c,d⟩:=st;exact ⟨o,e,fun v q=>by rw [d] at q;cases q⟩
end
section
variable {X:Cx}{CX:CXT}{k:Nat}{f C:Addr}{fd:FuncData}{ps ks:List Str}{sp:Sp}{E:St→XK}{x:Str}{p pos:Pos}{e:Expr}{es:List Expr}{kws:List Keyword}{t tk:TA}{g:List Value→List Value→List Value}{gV:List V→List V→List V}
end
end L2
namespace L2
open PySem PySem.Spec PyProof.Rows
theorem log2_lt64 {j:Int} (h0:0 < j) (h1:j < 2 ^ 64):j.natAbs.log2 < 9000:=by
 have:j.natAbs < 2 ^ 64:=by omega
 have h:j.natAbs.log2 < 64:=(Nat.log2_lt (by omega)).mpr this;omega
noncomputable def CDivB (i j:Int):Prop:=0 < j∧j < 2 ^ 64
theorem op_fdivB {X:Cx}:OpR X (binaryOp .FloorDiv) (rI CDivB fun i j=>.int (i / j)):=opI fun i j _ _ _ _ _ hc q=>by
 have h1:(0:Int) < j:=hc.1;exact floordiv_int (by omega) (by rw [Int.fdiv_eq_ediv_of_nonneg i (by omega)];exact q) (.inl (PyProof.noPylong_of_log2 (log2_lt64 hc.1 hc.2)))
mutual
inductive Has (G:Addr→Prop) (H:Hp):V→PyData→Prop where
 | non:Has G H .non .none
 | bl (b:Bool):Has G H (.bl b) (.bool b)
 | int (i:Int):Has G H (.int i) (.int i)
 | str (x:Str) (hx:x.length≤1000) (ho:PyData.strOk x=true):Has G H (.str x) (.str x)
 | lst {a:Addr}{xs:List V}{ds:List PyData}:G a→H a=some (.lst xs)→xs.length≤1000→HasAll G H xs ds→Has G H (.ref a) (.list ds)
 | tup {a:Addr}{xs:List V}{ds:List PyData}:G a→H a=some (.tup xs)→xs.length≤1000→HasAll G H xs ds→Has G H (.ref a) (.tuple ds)
inductive HasAll (G:Addr→Prop) (H:Hp):List V→List PyData→Prop where
 | nil:HasAll G H [] []
 | cons {x:V}{xs:List V}{d:PyData}{ds:List PyData}:Has G H x d→HasAll G H xs ds→HasAll G H (x :: xs) (d :: ds)
end
noncomputable abbrev Any:Addr→Prop:=fun _=>True
noncomputable def isSeq:HO→Prop
 | .lst _=>True
 | .tup _=>True
 | _=>False
mutual
theorem Has.frameS {G G':Addr→Prop}{H H':Hp} (e:∀ a o,G a→isSeq o→H a=some o→G' a∧H' a=some o):∀ {v:V}{d:PyData},Has G H v d→Has G' H' v d
 | _,_,.non=>.non
 | _,_,.bl b=>.bl b
 | _,_,.int i=>.int i
 | _,_,.str x hx ho=>.str x hx ho
 | _,_,.lst (xs:=xs) g s z h=>.lst (e _ (.lst xs) g trivial s).1 (e _ (.lst xs) g trivial s).2 z (HasAll.frameS e h)
 | _,_,.tup (xs:=xs) g s z h=>.tup (e _ (.tup xs) g trivial s).1 (e _ (.tup xs) g trivial s).2 z (HasAll.frameS e h)
theorem HasAll.frameS {G G':Addr→Prop}{H H':Hp} (e:∀ a o,G a→isSeq o→H a=some o→G' a∧H' a=some o):∀ {vs:List V}{ds:List PyData},HasAll G H vs ds→HasAll G' H' vs ds
 | _,_,.nil=>.nil
 | _,_,.cons h t=>.cons (Has.frameS e h) (HasAll.frameS e t)
end
theorem Has.frame {G G':Addr→Prop}{H H':Hp}{v:V}{d:PyData} (h:Has G H v d) (e:∀ a o,G a→H a=some o→G' a∧H' a=some o):Has G' H' v d:=h.frameS fun a o g _ q=>e a o g q
theorem HasAll.frame {G G':Addr→Prop}{H H':Hp}{v:List V}{d:List PyData} (h:HasAll G H v d) (e:∀ a o,G a→H a=some o→G' a∧H' a=some o):HasAll G' H' v d:=h.frameS fun a o g _ q=>e a o g q
theorem Has.mono {G:Addr→Prop}{H H':Hp}{v:V}{d:PyData} (h:Has G H v d) (e:Same H H'):Has G H' v d:=h.frame fun a o g q=>⟨g,e a o q⟩
theorem HasAll.mono {G:Addr→Prop}{H H':Hp}{v:List V}{d:List PyData} (h:HasAll G H v d) (e:Same H H'):HasAll G H' v d:=h.frame fun a o g q=>⟨g,e a o q⟩
theorem Has.any {G:Addr→Prop}{H:Hp}{v:V}{d:PyData} (h:Has G H v d):Has Any H v d:=h.frame fun _ _ _ q=>⟨trivial,q⟩
theorem HasAll.any {G:Addr→Prop}{H:Hp}{v:List V}{d:List PyData} (h:HasAll G H v d):HasAll Any H v d:=h.frame fun _ _ _ q=>⟨trivial,q⟩
section
variable {G:Addr→Prop}{H:Hp}
theorem HasAll.length:∀ {xs:List V}{ds:List PyData},HasAll G H xs ds→xs.length=ds.length
 | _,_,.nil=>rfl
 | _,_,.cons _ t=>by rw [Zh,Zh,HasAll.length t]
theorem HasAll.get:∀ {xs:List V}{ds:List PyData}{i:Nat}{x:V},HasAll G H xs ds→xs[i]? = some x→∃ d,ds[i]? = some d∧Has G H x d
 | _,_,i,x,.nil,h=>by simp at h
 | _,_,0,x,.cons a t,h=>by simp at h;subst h;exact ⟨_,rfl,a⟩
 | _,_,i + 1,x,.cons a t,h=>by
  obtain ⟨d,e,q⟩:=HasAll.get (i:=i) t (by simpa using h);exact ⟨d,by simpa using e,q⟩
theorem HasAll.snoc:∀ {xs:List V}{ds:List PyData}{x:V}{d:PyData},HasAll G H xs ds→Has G H x d→HasAll G H (xs++[x]) (ds++[d])
 | _,_,_,_,.nil,h=>.cons h .nil
 | _,_,_,_,.cons a t,h=>.cons a (HasAll.snoc t h)
theorem Has.list_inv {v:V}{ds:List PyData} (h:Has G H v (.list ds)):∃ a xs,v=.ref a∧G a∧H a=some (.lst xs)∧xs.length≤1000∧HasAll G H xs ds:=by
 cases h with
 | lst g s z q=>exact ⟨_,_,rfl,g,s,z,q⟩
mutual
theorem Has.lay:∀ {v:V}{d:PyData},Has G H v d→d.canLay0=true
 | _,_,.non=>rfl
 | _,_,.bl b=>rfl
 | _,_,.int i=>rfl
 | _,_,.str x _ ho=>ho
 | _,_,.lst _ _ _ h=>HasAll.lay h
 | _,_,.tup _ _ _ h=>HasAll.lay h
theorem HasAll.lay:∀ {vs:List V}{ds:List PyData},HasAll G H vs ds→PyData.canLayAll0 ds=true
 | _,_,.nil=>rfl
 | _,_,.cons h t=>by
  show (PyData.canLay0 _ && PyData.canLayAll0 _)=true;rw [Has.lay h,HasAll.lay t];rfl
end
end
section
variable {X:Cx}{pins:List (Addr×Obj)}{σ : St}{H:Hp}{s:Shared}{G:Addr→Prop}
mutual
theorem Has.reads (I:Inv X pins σ H s):∀ {v:V}{d:PyData}{u:Value},Has G H v d→RelV v u→∃ as,Reads s.heap u d as
 | _,_,u,.non,r=>by cases (show u=Value.none from r);exact ⟨_,.none⟩
 | _,_,u,.bl b,r=>by cases (show u=Value.bool b from r);exact ⟨_,.bool b⟩
 | _,_,u,.int i,r=>by obtain ⟨t,rfl⟩:=(show ∃ t,u=Value.int i t from r);exact ⟨_,.int i t⟩
 | _,_,u,.str x _ _,r=>by obtain ⟨t,rfl⟩:=(show ∃ t,u=Value.str x t from r);exact ⟨_,.str x t⟩
 | _,_,u,.lst (a:=a) _ q _ h,r=>by
  cases (show u=Value.ref a from r);obtain ⟨_,its,n,rv,e⟩:=I.hok a _ q;obtain ⟨as,ra⟩:=HasAll.reads I h rv;exact ⟨_,.list e rfl rfl (by simpa using ra)⟩
 | _,_,u,.tup (a:=a) _ q _ h,r=>by
  cases (show u=Value.ref a from r);obtain ⟨_,its,rv,⟨o,e,c,n,d⟩⟩:=I.hok a _ q;obtain ⟨as,ra⟩:=HasAll.reads I h rv;exact ⟨_,.tuple e c d (by simpa using ra)⟩
theorem HasAll.reads (I:Inv X pins σ H s):∀ {vs:List V}{ds:List PyData}{us:List Value},HasAll G H vs ds→Vals vs us→∃ as,ReadsAll s.heap us ds as
 | _,_,_,.nil,.nil=>⟨_,.nil⟩
 | _,_,_,.cons h t,.cons r rr=>by
  obtain ⟨as,ra⟩:=Has.reads I h r;obtain ⟨bs,rb⟩:=HasAll.reads I t rr;exact ⟨_,.cons ra rb⟩
end
end
theorem Has.shaped {G:Addr→Prop}{H:Hp}{v:V}{d:PyData} (h:Has G H v d) (hd:d.depth≤64):SeqAt.shaped d=true:=by
 unfold SeqAt.shaped;rw [h.lay,decide_eq_true hd];rfl
noncomputable def rEqD:R2:=fun x y H Q=>∃ d e,Has Any H x d∧Has Any H y e∧d.depth≤64∧e.depth≤64∧Q (.bl (PyData.eqv d e)) H
theorem op_eqD {X:Cx} (hu:X.A.units + 64 < cLine):OpR X (compareOp .Eq) rEqD:=by
 intro pins s σ H x y u v Q I rx ry h;obtain ⟨d,e,hd,he,sd,se,q⟩:=h;obtain ⟨as,ra⟩:=hd.reads I rx;obtain ⟨bs,rb⟩:=he.reads I ry;exact eq_dataH ra rb (hd.shaped sd) (he.shaped se) hu ⟨.bl _,H,I,rfl,q⟩
section
variable {κ : Type} [DecidableEq κ]
noncomputable def dstep (acc:List κ) (x : κ):List κ:=if x∈acc then acc else acc++[x]
noncomputable def dl (l:List κ):List κ:=l.foldl dstep []
theorem dl_snoc (l:List κ) (x : κ):dl (l++[x])=dstep (dl l) x:=by unfold dl;rw [List.foldl_append];rfl
theorem zC1:∀ (l acc:List κ) (k : κ),k∈l.foldl dstep acc ↔ k∈acc∨k∈l
 | [],acc,k=>by simp
 | x :: r,acc,k=>by
  rw [List.foldl_cons,zC1 r];unfold dstep;by_cases h:x∈acc
  ·rw [if_pos h];constructor
   ·rintro (a | a)
    ·exact .inl a
    ·exact .inr (Zi _ a)
   ·rintro (a | a)
    ·exact .inl a
    ·rcases List.mem_cons.mp a with rfl | a
     ·exact .inl h
     ·exact .inr a
  ·rw [if_neg h];simp only [List.mem_append,Zy,Zz,or_false];constructor
   ·rintro ((a | a) | a)
    ·exact .inl a
    ·exact .inr (.inl a)
    ·exact .inr (.inr a)
   ·rintro (a | a | a)
    ·exact .inl (.inl a)
    ·exact .inl (.inr a)
    ·exact .inr a
theorem mem_dl {l:List κ}{k : κ}:k∈dl l ↔ k∈l:=by unfold dl;rw [zC1];simp
theorem zBd:∀ (l acc:List κ),(l.foldl dstep acc).length≤acc.length + l.length
 | [],acc=>Z5 _
 | x :: r,acc=>by
  rw [List.foldl_cons];refine Zp (zBd r _) ?_;unfold dstep;split
  ·rw [Zh];omega
  ·simp only [Zk,Zh,List.length_nil];omega
theorem dl_len_le (l:List κ):(dl l).length≤l.length:=by have:=zBd l [];simpa [dl] using this
theorem zBm:∀ (l acc:List κ),(∀ x∈l,x∉acc)→l.Nodup→(l.foldl dstep acc).length=acc.length + l.length
 | [],acc,_,_=>rfl
 | x :: r,acc,h,hn=>by
  obtain ⟨h1,h2⟩:=List.nodup_cons.mp hn;have hx:x∉acc:=h x Zj;rw [List.foldl_cons,show dstep acc x=acc++[x] from if_neg hx,zBm r _ (fun y hy m=>?_) h2]
  ·simp;omega
  ·rcases List.mem_append.mp m with m | m
   ·exact h y (Zi _ hy) m
   ·rw [List.mem_singleton.mp m] at hy;exact h1 hy
theorem zC2:∀ (l acc:List κ),((∃ x∈l,x∈acc)∨¬ l.Nodup)→(l.foldl dstep acc).length < acc.length + l.length
 | [],acc,h=>by
  rcases h with ⟨x,hx,_⟩ | h
  ·simp at hx
  ·exact absurd Y5 h
 | x :: r,acc,h=>by
  rw [List.foldl_cons];by_cases hx:x∈acc
  ·rw [show dstep acc x=acc from if_pos hx];have:=zBd r acc;simp only [Zh];omega
  ·rw [show dstep acc x=acc++[x] from if_neg hx];have ih:=zC2 r (acc++[x]) ?_
   ·simp only [Zk,Zh,List.length_nil] at *;omega
   ·rcases h with ⟨y,hy,ha⟩ | h
    ·rcases List.mem_cons.mp hy with rfl | hy
     ·exact absurd ha hx
     ·exact .inl ⟨y,hy,Zu _ ha⟩
    ·by_cases hr:x∈r
     ·exact .inl ⟨x,hr,by simp⟩
     ·exact .inr fun z=>h (List.nodup_cons.mpr ⟨hr,z⟩)
theorem dl_len_iff (l:List κ):decide ((dl l).length=l.length)=decide l.Nodup:=by
 by_cases h:l.Nodup
 ·have:=zBm l [] (fun _ _ z=>by simp at z) h;rw [decide_eq_true h,decide_eq_true (by simpa [dl] using this)]
 ·have:=zC2 l [] (.inr h);rw [decide_eq_false h,decide_eq_false (by simp [dl] at *;omega)]
variable {prog:Program}{w:World}{A:Around}{R:Result→Shared→Prop}{I:Addr}{fp wr:List Addr}{n:Nat}{P:Nat→Value→Prop}{St:Nat→Heap→Prop}
theorem SetOf_eqv {knd:KeyKind prog w κ}{h:Heap}{a:Addr}{S S' : κ→Bool}{m m':Nat} (x:h.SetOf knd a S m) (e:∀ k,S k=S' k) (em:m=m'):h.SetOf knd a S' m':=by
 have e':S=S':=funext e;subst e' em;exact x
theorem set_loopK (W:Walks prog w A.in1 I fp wr n P St) {D:Addr} (hD:D∉fp) {knd:KeyKind prog w κ}{ks:List κ} (hn:ks.length=n) (hval:∀ i v k,P i v→ks[i]? = some k→knd.is k v=true∧v.scannable=true) (hb:n + 1 < scanBound) :
  ∀ (j i:Nat) (z:Shared),n - i=j→i≤n→St i z.heap→z.heap.SetOf knd D (fun k=>decide (k∈ks.take i)) (dl (ks.take i)).length →
   (∀ h' tk,(∀ b o,b∉D :: wr→z.heap.get? b=some o→h'.get? b=some o)→h'.SetOf knd D (fun k=>decide (k∈ks)) (dl ks).length→R (.ok (.ret .none)) { z with heap:=h',toks:=tk }) →
   codeAny (model prog w) A (.builtin "set.update.loop" ⟨[.ref D,.ref I],[]⟩) R z:=by
 have hDw:D∉wr:=fun h=>hD (W.sub _ h);intro j
 induction j with
 | zero =>
  intro i z hj hi st hS hR;obtain rfl:i=n:=by omega
  refine codeAny_builtin PyProof.Rows.F.entry_set_update_loop ?_;rw [Around.under_plainId PyProof.Rows.F.plain_set_update_loop _];show wpAny _ A.in1 (pyNext (.ref I) >>= _) _ _ z;refine wpAny_bind (W.done z _ _ st fun h' tk kk=>?_);rw [List.take_of_length_le (Nat.le_of_eq hn)] at hS;obtain ⟨o,es,ep,t,ho,more⟩:=hS;exact wpAny_pure (hR h' tk (fun b o hb e=>kk b o (fun m=>hb (Zi _ m)) e) ⟨o,es,ep,t,kk D _ hDw ho,more⟩)
 | succ j ih =>
  intro i z hj hi st hS hR;have lt:i < n:=by omega
  refine codeAny_builtin PyProof.Rows.F.entry_set_update_loop ?_;rw [Around.under_plainId PyProof.Rows.F.plain_set_update_loop _];show wpAny _ A.in1 (pyNext (.ref I) >>= _) _ _ z;refine wpAny_bind (W.item i z _ _ lt st fun v h1 tk1 hP st1 k1=>?_);have hk:ks[i]? = some (ks[i]'(by omega)):=Z1 _;obtain ⟨hv,hs⟩:=hval i v _ hP hk;obtain ⟨o,es,ep,t,ho,more⟩:=hS;have hS1:h1.SetOf knd D (fun k=>decide (k∈ks.take i)) (dl (ks.take i)).length:=⟨o,es,ep,t,k1 D _ hDw ho,more⟩;show wpAny _ A.in1 (holding [v] (setAdd D v) >>= _) _ _ _;refine wpAny_bind (wpAny_holding ?_);unfold setAdd;refine wpAny_holding (wpAny_bind (knd.pyHash hv ?_));have room:(dl (ks.take i)).length + 1 < scanBound:=by
   have a1:=dl_len_le (ks.take i);have a2:(ks.take i).length≤i:=Zx _ _;omega
  refine wpAny_setAddHashed_of (knd:=knd) (s:={ z with heap:=h1,toks:=tk1 + 1 }) hv hs hS1 room fun h2 sb2 hS2=>?_;have et:ks.take (i + 1)=ks.take i++[ks[i]'(by omega)]:=by rw [Za,hk];rfl
  have hS3:h2.SetOf knd D (fun k=>decide (k∈ks.take (i + 1))) (dl (ks.take (i + 1))).length:=by
   refine SetOf_eqv hS2 (fun k=>?_) ?_
   ·rw [et,Yg];simp only [Bool.or_eq_true,decide_eq_true_eq,List.mem_append,List.mem_singleton]
   ·rw [et,dl_snoc];unfold dstep;by_cases q:ks[i]'(by omega)∈ks.take i
    ·rw [if_pos (by simpa using q),if_pos (mem_dl.mpr q)]
    ·rw [if_neg (by simpa using q),if_neg (fun z=>q (mem_dl.mp z)),Zk,List.length_singleton]
  refine wpAny_pure ⟨plainId_quiet PyProof.Rows.F.plain_set_update_loop _,ih (i + 1) _ (by omega) lt (W.frame _ h1 _ st1 fun b hb o e=>?_) hS3 fun h' tk kk hS'=>hR h' tk (fun b o hb e=>kk b o hb ?_) hS'⟩
  ·rw [sb2.2 b (fun q:b=D=>hD (by rw [← q];exact hb))];exact e
  ·rw [sb2.2 b (fun q:b=D=>hb (by rw [q];exact Zj))];exact k1 b o (fun m=>hb (Zi _ m)) e
end
end L2
namespace L2
open PySem PySem.Spec PyProof.Rows
noncomputable abbrev bareSet (b:Bool):Obj:={ cls:=.type "set",dict:=none,data:=.set #[] 0 (.fresh 0 0 b) }
section
variable {κ : Type} [DecidableEq κ] {prog:Program}{w:World}{A:Around}{E:Value→Shared→Prop}{z:Shared}
noncomputable def SetMade (knd:KeyKind prog w κ) (ks:List κ) (z:Shared) (r:Value) (z':Shared):Prop :=
 r=.none∧∃ h' tk,z'={ z with heap:=h',toks:=tk }∧h'.SetOf knd z.heap.objs.size (fun k=>decide (k∈ks)) (dl ks).length∧∀ b o,b < z.heap.objs.size→z.heap.get? b=some o→h'.get? b=some o
set_option maxHeartbeats 6400000 in
theorem call_setK {knd:KeyKind prog w κ}{l:Addr}{its:Array Value}{ks:List κ}{Q:Value→Shared→Prop} (hh:A.handled=none) (hl:z.heap.IsList l its) (hn:ks.length=its.size)
  (hv:∀ (i:Nat) (v:Value) (k : κ),its[i]? = some v→ks[i]? = some k→knd.is k v=true∧v.scannable=true) (hb:its.size + 1 < scanBound)
  (h:∀ z',SetMade knd ks z .none z'→Q (.ref z.heap.objs.size) z'):wpAny (model prog w) A (call (.type "set") [.ref l]) Q E z:=by
 obtain ⟨mc,mt,m0⟩:=PySem.F.called_set.mro;have m1:=PySem.F.called_set.made;have m2:=PySem.F.called_set.sub;refine wpAny_call (codeAny_of_tree ?_);show wpAny _ _ (callAny (.type "set") _) _ _ _;refine wpAny_pure ⟨Code.quiet_builtin _ (by decide +kernel),codeAny_builtin PySem.F.entry_type_call ?_⟩;rw [Around.under_plain (weight_type_call_type "set" [.ref l] []) rfl];have m3:=PySem.F.called_set.notType;have m4:=PySem.F.called_set.canCreate;have m5:=PySem.F.typeCall_set_1 (.ref l)
 repeat (any_goals (first | assumption | wp_step))
 refine codeAny_mono (code_set_new_1 (.ref l) (E:=E) (Q₁:=fun r z1=>∃ b:Bool,r=.ref z.heap.objs.size∧z1={ z with heap:=z.heap.push (bareSet b) }) fun b=>⟨b,rfl,rfl⟩) fun r z1 hr=>?_;cases r with
 | error e=>exact hr
 | ok fl =>
  cases fl with
  | next=>exact hr.elim
  | brk=>exact hr.elim
  | cont=>exact hr.elim
  | ret r =>
   obtain ⟨b,rfl,rfl⟩:=hr;have g0:(z.heap.push (bareSet b)).get? z.heap.objs.size=some (bareSet b):=Zb _ rfl;have ty:Shared.TypeIs { z with heap:=z.heap.push (bareSet b) } (.ref z.heap.objs.size) "set":=⟨_,g0,rfl⟩;have i1:=PySem.F.called_set.init.lookup;have i2:=PySem.F.called_set.init.bind (.ref z.heap.objs.size)
   repeat (any_goals (first | assumption | wp_step))
   refine codeAny_mono (codeAny_call_builtin (R:=wants (SetMade knd ks z) E) PySem.F.called_set.init.plain PySem.F.entry_set_init (check_set_init_1 ty ?_)) fun r2 z2 hr2=>?_
   ·obtain ⟨⟨oc,od,odt,osl⟩,ho,c1,nl,d1⟩:=hl;simp only at c1 d1;subst c1 d1;have ho1:(z.heap.push (bareSet b)).get? l=some { cls:=.type "list",dict:=od,data:=.seq its nl,slots:=osl }:=Z2 _ ho;have s1:=PySem.F.sub_list_set;have s2:=PySem.F.sub_list_frozenset;have s3:(Value.type "list" == Value.type "dict")=false:=by decide
    have hl1:(z.heap.push (bareSet b)).IsList l its:=⟨_,ho1,rfl,nl,rfl⟩;unfold Builtin.«set.__init__» noKeywords Builtin.Frozenset.updateFrom;generalize ePI:pyIter=PI
    wp_walk
    subst ePI;refine wpAny_pyIter_list hl1 ?_;refine wpAny_bind (wpAny_runValue ?_);have lt:l < z.heap.objs.size:=Z7 ho;have sz1:(z.heap.push (bareSet b)).objs.size=z.heap.objs.size + 1:=Ye _ _;have neI:l≠(z.heap.push (bareSet b)).objs.size:=by rw [sz1];exact Ze (Nat.lt_succ_of_lt lt)
    have nD:z.heap.objs.size∉[(z.heap.push (bareSet b)).objs.size,l]:=by
     rw [sz1];simp only [Zy,Zz,or_false,not_or];exact ⟨Ze (Yb _),Nat.ne_of_gt lt⟩
    refine set_loopK (Walks.list (by simp [hh]) _ l neI its) nD (knd:=knd) (ks:=ks) hn hv hb (its.size - 0) 0 _ (by omega) (Zn _) ⟨⟨_,Zb _ rfl,rfl,rfl⟩,hl1.push _⟩ ?_ fun h' tk kk hS=>?_
    ·refine SetOf_eqv ((PyProof.Rows.setObjOf_fresh (knd:=knd) b).setOf (Z2 _ g0) (by unfold scanBound;omega)) (fun k=>?_) rfl;simp
    ·show wpAny _ _ _ _ _ _;refine wpAny_pure ?_;show wpAny _ _ (ret Value.none) _ _ _;refine wpAny_pure ⟨rfl,h',tk,rfl,hS,fun c o hc e=>kk c o ?_ (Z2 _ (Z2 _ e))⟩;rw [sz1];simp only [Zy,Zz,or_false,not_or];exact ⟨Ze hc,Ze (Nat.lt_succ_of_lt hc)⟩
   ·cases r2 with
    | error e=>exact hr2
    | ok fl2 =>
     cases fl2 with
     | next=>exact hr2.elim
     | brk=>exact hr2.elim
     | cont=>exact hr2.elim
     | ret r =>
      have hs:=hr2;obtain ⟨rfl,h',tk,rfl,hS,kk⟩:=hr2
      repeat (any_goals (first | assumption | wp_step))
      exact h _ hs
end
noncomputable def SetS (P:Program) (w:World) (p:Addr) (ks:List Str):HO:=.ext fun h=>h.SetOf (strKind P w) p (fun k=>decide (k∈ks)) (dl ks).length
section
variable {X:Cx}
theorem strs_get:∀ {ks:List Str}{us:List Value}{i:Nat}{v:Value}{k:Str},Vals (ks.map V.str) us→us[i]? = some v→ks[i]? = some k→∃ t,v=Value.str k t
 | [],_,i,v,k,.nil,h,_=>by simp at h
 | b :: r,_,0,v,k,.cons a t,h,hk=>by
  simp at h hk;subst h hk;exact a
 | b :: r,_,i + 1,v,k,.cons a t,h,hk=>strs_get (ks:=r) (i:=i) t (by simpa using h) (by simpa using hk)
theorem zEh (hc:X.calm=true):CallR X (.type "set") (fun xs H Q=>∃ (p:Addr) (ks:List Str),xs=[.ref p]∧SqL X.K H p (ks.map V.str)∧ks.length≤4000∧∀ d,H d=none→Q (.ref d) (upd H d (SetS X.prog X.w d ks))):=by
 intro pins s σ H xs us Q I r h;obtain ⟨p,ks,rfl,hp,hz,q⟩:=h;obtain ⟨u,rfl,ru⟩:=v1 r;cases (show u=Value.ref p from ru);obtain ⟨its,rv,pl,_⟩:=I.list hp;have hlen:its.length=ks.length:=by rw [← rv.length,Z0]
 refine call_setK (knd:=strKind X.prog X.w) (ks:=ks) (I.ok.hd hc) pl.isList (by rw [Zf,hlen]) (fun i v k h1 h2=>?_) (by rw [Zf,hlen];unfold scanBound;omega) fun z' hs=>?_
 ·obtain ⟨t,rfl⟩:=strs_get rv (by simpa using h1) h2;exact ⟨strKind_is _ _ _ _,rfl⟩
 ·obtain ⟨_,h',tk,rfl,hS,kk⟩:=hs;refine ⟨.ref s.heap.objs.size,_,I.laid (t':=tk) (a:=s.heap.objs.size) (o:=SetS X.prog X.w s.heap.objs.size ks) (fun b o e=>kk b o (Z7 e) e) (Z5 _) ?_,rfl,q _ (I.hok.fresh (Z5 _))⟩;refine ⟨hS,?_,fun h1 h2 hs1 k12=>?_⟩
  ·obtain ⟨o,_,_,_,e,_⟩:=hS;exact ⟨o,e⟩
  ·obtain ⟨o,es,ep,t,e,more⟩:=hs1;exact ⟨o,es,ep,t,k12 o e,more⟩
theorem zCw:CallR X (.builtin "len") (fun xs H Q=>∃ (d:Addr) (ks:List Str),xs=[.ref d]∧H d=some (SetS X.prog X.w d ks)∧ks.length≤4000∧Q (.int (dl ks).length) H):=by
 intro pins s σ H xs us Q I r h;obtain ⟨d,ks,rfl,hd,hz,q⟩:=h;obtain ⟨u,rfl,ru⟩:=v1 r;cases (show u=Value.ref d from ru);obtain ⟨hS,_,_⟩:=I.hok d _ hd;obtain ⟨o,es,ep,t,e,hex,hdt,_,_,hb,hf,hn⟩:=hS;refine call_len_set e hex hdt hf ?_ ?_
 ·unfold scanBound at hb;omega
 ·rw [hn];exact ⟨.int _,H,I.tok _,⟨_,rfl⟩,q⟩
end
end L2
namespace L2
open PySem PySem.Spec PyProof.Rows
theorem ScOk.auto {X:Cx}{sc:Scope}{cl:List (Str×Addr)}{T:List Str} (h1:closureFor sc X.env=pure cl:=by rfl) (h2:(sc.names.all fun y=>y.2 != .cell)=true:=by rfl) (h3:sc.kind=.function:=by rfl)
  (h4:(sc.names.all fun x=>x.2 != .local || sc.names.lookup x.1 == some .local)=true:=by rfl)
  (h5:ClOk X cl:=by first | exact trivial | exact ⟨rfl,trivial⟩ | exact ⟨rfl,rfl,trivial⟩ | exact ⟨rfl,rfl,rfl,trivial⟩ | exact ⟨rfl,rfl,rfl,rfl,trivial⟩)
  (h6:(sc.names.all fun x=>x.2 != .free || ((cl.lookup x.1).isSome && (X.env.scope.names.lookup x.1 == some .cell || X.env.scope.names.lookup x.1 == some .free)))=true:=by rfl)
  (h7:(X.N.all fun x=>sc.names.lookup x != some .local)=true:=by rfl):ScOk X sc cl T where
 clos:=h1
 cell:=fun y hy=>by have:=List.all_eq_true.mp h2 y hy;simpa using this
 kind:=h3
 names:=fun x hx hl=>by
  have:=List.all_eq_true.mp h4 x hx;rw [hl] at this
  simpa using this
 cls:=h5
 has:=fun x hx hf=>by
  have:=List.all_eq_true.mp h6 x hx;rw [hf] at this
  simpa using this
 out:=fun x hx=>by have:=List.all_eq_true.mp h7 x hx;simpa using this
theorem comp_by {J:It}{n k:Nat}{σ : St}{H:Hp}{g:TG}{tt:TT}{te:TE}{Q:VK} (Pv:Nat→List V→Hp→Prop) (h0:Pv 0 [] H) (go:∀ i ys H,i < n→Pv i ys H→J.go i H) (stop:∀ ys H,Pv n ys H→J.stop n H)
  (hz:∀ i ys H,i≤n→Pv i ys H→ys.length≤sizeLine)
  (hs:∀ i ys H x H',i < n→Pv i ys H→J.yld i H x H'→∀ N:List V→Hp→Prop,(∀ ys H,Pv (i + 1) ys H→N ys H)→g x (σ++List.replicate k none) H' fun σ2 H2=>tt σ2 H2 fun b H3=>if b=true then te σ2 H3 fun y H4=>N (ys++[y]) H4 else N ys H3)
  (hd:∀ ys H,Pv n ys H→∀ p,H p=none→Q (.ref p) (upd H p (.lst ys))):CompGoal J k σ H g tt te Q:=by
 refine ⟨fun i m ys H=>m=n - i∧i≤n∧Pv i ys H,⟨n,by simp,Zn _,h0⟩,?_⟩;rintro i m ys H ⟨rfl,hi,p⟩;by_cases lt:i < n
 ·exact .inr ⟨go i ys H lt p,hz _ _ _ hi p,fun x H' y=>hs i ys H x H' lt p y (fun ys' H'=>∃ m',m' < n - i∧m'=n - (i + 1)∧i + 1≤n∧Pv (i + 1) ys' H') fun ys' H' q=>⟨n - (i + 1),by omega,rfl,lt,q⟩⟩
 ·obtain rfl:i=n:=by omega
  exact .inl ⟨stop _ _ p,hz _ _ _ hi p,hd _ _ p⟩
theorem comp_chars {x:Str}{k:Nat}{σ : St}{H:Hp}{g:TG}{tt:TT}{te:TE}{Q:VK} (p:Nat→Bool) (f:Nat→V) (hz:x.length≤sizeLine)
  (hs:∀ c (Ry:VK) (Rn:Hp→Prop),(p c=true→Ry (f c) H)→(p c=false→Rn H)→g (.str ⟨#[c]⟩) (σ++List.replicate k none) H fun σ2 H2=>tt σ2 H2 fun b H3=>if b=true then te σ2 H3 Ry else Rn H3)
  (hd:∀ q,H q=none→Q (.ref q) (upd H q (.lst ((x.cps.toList.filter p).map f)))):CompGoal (Its x) k σ H g tt te Q:=by
 have hlen:x.cps.toList.length=x.length:=by rw [Yf];rfl
 refine comp_by (J:=Its x) (n:=x.length) (fun i ys H'=>H'=H∧ys=((x.cps.toList.take i).filter p).map f) ⟨rfl,rfl⟩ (fun i ys H' lt _=>lt) (fun ys H' _=>Z5 _) (fun i ys H' hi q=>?_) ?_ ?_
 ·obtain ⟨_,rfl⟩:=q;rw [Z0];have a:=Zl p (x.cps.toList.take i);have b:=Zx i x.cps.toList;omega
 ·rintro i ys H' v H2 lt ⟨rfl,rfl⟩ ⟨rfl,c,hc,rfl⟩ N hN;have hc':x.cps.toList[i]? = some c:=by rw [Array.getElem?_toList];exact hc
  refine hs c _ _ (fun e=>hN _ _ ⟨rfl,?_⟩) (fun e=>hN _ _ ⟨rfl,?_⟩)
  ·rw [Za,hc',Yc];simp [e]
  ·rw [Za,hc',Yc];simp [e]
 ·rintro ys H' ⟨rfl,rfl⟩ q hq;rw [← hlen,Zd];exact hd q hq
theorem zAd {K:PySem.W.Frag}{a:Addr}{xs:List V}{k:Nat}{σ : St}{H:Hp}{g:TG}{tt:TT}{te:TE}{Q:VK} (Pv:Nat→List V→Hp→Prop) (h0:Pv 0 [] H) (hl:∀ i ys H,Pv i ys H→SqL K H a xs)
  (hz:∀ i ys H,i≤xs.length→Pv i ys H→ys.length≤sizeLine)
  (hs:∀ i x ys H,xs[i]? = some x→Pv i ys H→∀ N:List V→Hp→Prop,(∀ ys H,Pv (i + 1) ys H→N ys H)→g x (σ++List.replicate k none) H fun σ2 H2=>tt σ2 H2 fun b H3=>if b=true then te σ2 H3 fun y H4=>N (ys++[y]) H4 else N ys H3)
  (hd:∀ ys H,Pv xs.length ys H→∀ p,H p=none→Q (.ref p) (upd H p (.lst ys))):CompGoal (Itl K a) k σ H g tt te Q:=by
 refine comp_by (J:=Itl K a) (n:=xs.length) Pv h0 (fun i ys H lt p=>⟨xs,xs[i],hl i ys H p,Z1 lt⟩) (fun ys H p=>⟨xs,hl _ ys H p,Z5 _⟩) hz ?_ hd;rintro i ys H x H' lt p ⟨rfl,y⟩ N hN;exact hs i x ys _ (y xs (hl _ _ _ p)) p N hN
theorem pick {A B:St→Hp→Prop}{σ : St}{H:Hp}{i:Nat}{x:V} (h:A (σ.set i (some x)) H):gName i x σ H fun σ2 H2=>tYes σ2 H2 fun b H3=>if b=true then A σ2 H3 else B σ2 H3:=by
 show if true=true then A (σ.set i (some x)) H else B (σ.set i (some x)) H
 rw [if_pos rfl];exact h
theorem Fun.okC {P:Program}{w:World}{K:PySem.W.Frag}{mg:Str→Option Value}{base:Heap}{CX:CXT}{x qual:Str}{st:Stmt}{f:Addr}{fd:FuncData}{N ps:List Str}{k:Nat}{sp:Sp} (F:Fun K x qual st f fd) (S:FnScope N ps (defScope st)) (len:∀ vs H Q E,sp vs H Q E→vs.length=ps.length)
  (hbody:∀ (cdv:Value) (A:Around) (outer:List Env) (s:Shared) (H:Hp) (vs:List V) (Q:VK) (E:XK),Room k (A.deeper (envOfC qual (defScope st) s.heap.objs.size f cdv))→sp vs H Q E →
   ∃ t,PSs (cxOf CX P w K mg base N qual (defScope st) f cdv A outer s H E).nox (defBody st) t∧t { nx:=fun _ H'=>Q .non H',rt:=Q } (start N vs) H):FnOk P w K mg base CX (k + 1) f fd ps sp:=by
 obtain ⟨oc,od,kV,doc,pm,an,cdv,ct,osl,rfl,lk,hcd⟩:=F.ex;refine fn_of lk hcd S len fun A outer s H vs Q E hr hsp=>?_;obtain ⟨t,h,q⟩:=hbody cdv A outer s H vs Q E hr hsp;exact ⟨t,h.nox,q⟩
noncomputable def Calm (CX:CXT):Prop:=∀ o H s e s',CX o H s (fun _ _ _=>False) e s'→False
theorem passC {CX:CXT} (h:Calm CX) {X:Cx}:Passes CX X E0:=fun _ _ _ _ _ _ _ q=>(h _ _ _ _ _ q).elim
structure Def (K:PySem.W.Frag) (mg:Str→Option Value) (x:Str) (st:Stmt) (ps:List Str) (f:Addr) (fd:FuncData):Prop where
 fn:Fun K x x st f fd
 at_:mg x=some (.ref f)
 bind:Binds K fd ps []
theorem Same.new {H:Hp}{p:Addr}{o:HO} (h:H p=none):Same H (upd H p o):=fun b u e=>by rw [zA5 (zA3 e h)];exact e
end L2
namespace L2
open PySem PySem.Spec PyProof.Rows
section
variable {X:Cx}{pins:List (Addr×Obj)}{σ : St}{H:Hp}{s:Shared}
theorem Inv.adopt {T:Addr}{o:HO} (I:Inv X pins σ H s) (hn:H T=none) (h1:X.s₀.heap.objs.size≤T) (hL:T≠X.env.locals) (h2:∀ x c,X.env.cells.lookup x=some c→c≠T) (h3:∀ p∈X.pn++pins,p.1≠T)
  (new:ObjOk X.prog X.w (upd H T o) s.heap T o):Inv X pins σ (upd H T o) s:=by
 refine I.step (h':=s.heap) (g':=s.gens) (d':=s.drawn) (t':=s.toks) (ch:=[T]) (fun b hb=>?_) (fun b o _ _ _ e _=>e) (fun b o _ _ _ e _=>⟨o.slots,e⟩) (fun b o hc e n=>?_) (fun b o _ e=>⟨o,e⟩)
  (fun b xs e=>?_) (fun b o u e=>?_) (fun b ps e=>⟨#[],?_⟩) (fun m h=>h) (fun b u e=>?_) I.bare
 ·have e:b=T:=by simpa using hb
  subst e;exact ⟨.inr (Y7 h1),hL,h2,h3⟩
 ·rw [zA5 (fun z=>hc (by simp [z]))];exact n
 ·rw [zA5 (zA3 e hn)];exact e
 ·rw [zA5 (zA3 e hn)];exact e
 ·rw [zA5 (zA3 e hn),e];simp
 ·by_cases hb:b=T
  ·subst hb;rw [zA1] at e;cases e;exact new
  ·rw [zA5 hb] at e;exact (I.hok b u e).stay (fun c v _ q=>q) (fun c q=>by rw [zA5 (zA3 q hn)];exact q) fun c xs q=>by rw [zA5 (zA3 q hn)];exact q
theorem Inv.turns {h':Heap}{t':Nat}{ch:List Addr} (I:Inv X pins σ H s) (k:∀ b o,b∉ch→s.heap.get? b=some o→h'.get? b=some o) (hf:∀ b∈ch,FpOk X pins H b):Inv X pins σ H { s with heap:=h',toks:=t' }:=by
 have nit:∀ b u,H b=some u→b∉ch:=fun b u e z=>by rw [(hf b z).1] at e;cases e
 refine I.step (g':=s.gens) (d':=s.drawn) (ch:=ch) (fun b hb=>⟨(hf b hb).2.2.2.1.imp_right fun z=>Y7 z,(hf b hb).2.1,(hf b hb).2.2.2.2.1,(hf b hb).2.2.2.2.2⟩) (fun b o _ _ hc e _=>k b o hc e) (fun b o _ _ hc e _=>⟨o.slots,k b o hc e⟩) (fun _ _ _ _ n=>n)
  (fun b o hc e=>⟨o,k b o hc e⟩) (fun _ _ e=>e) (fun _ _ _ e=>e) (fun b ps e=>⟨#[],by rw [e];simp⟩) (fun m hm=>?_) (fun b u e=>?_) I.bare
 ·obtain ⟨o,es,ep,ho,r⟩:=hm;exact ⟨o,es,ep,k _ o (fun z=>(hf _ z).2.1 rfl) ho,r⟩
 ·refine (I.hok b u e).stay (fun c v hc q=>k c v ?_ q) (fun _ q=>q) fun _ _ q=>q;rcases hc with z | z
  ·rw [z];exact nit b u e
  ·exact nit c _ z
end
noncomputable def Itz (K:PySem.W.Frag) (a b:Addr):It :=
 ⟨fun i H=>∃ xs ys x y,SqL K H a xs∧SqL K H b ys∧xs[i]? = some x∧ys[i]? = some y,
  fun i H v H'=>∃ p x y,v=.ref p∧H p=none∧H'=upd H p (.tup [x,y])∧(∀ xs,SqL K H a xs→xs[i]? = some x)∧∀ ys,SqL K H b ys→ys[i]? = some y,
  fun i H=>∃ xs ys,SqL K H a xs∧SqL K H b ys∧(xs.length≤i∨ys.length≤i)⟩
theorem turn_zip {P:Program}{w:World}{K:PySem.W.Frag}{es:List Expr}{x1:_}{pos:Pos}{l1 l2 z TI TO i1 i2:Addr} (D:ZipApart z TI TO i1 i2 l1 l2) :
  Turn P w K (.Tuple es x1 pos) (Itz K l1 l2) [z,TO,i1,i2,TI] z (fun i h=>IsZip h z TI TO .none∧IsPair h TI (.ref i1) (.ref i2)∧(∃ a b,IsPair h TO a b)∧h.IsListIter i1 l1 i∧h.IsListIter i2 l2 i) where
 mem:=by simp
 obj:=fun i h st b hb=>by
  obtain ⟨h1,h2,⟨a,c,h3⟩,⟨o4,h4,_,d4⟩,⟨o5,h5,_,d5⟩⟩:=st;simp only [Zy,Zz,or_false] at hb;rcases hb with rfl | rfl | rfl | rfl | rfl
  ·exact ⟨_,h1,fun v q=>by cases (show Data.fields _=Data.cell v from q)⟩
  ·exact ⟨_,h3,fun v q=>by cases (show Data.seq _ _=Data.cell v from q)⟩
  ·exact ⟨_,h4,fun v q=>by rw [d4] at q;cases q⟩
  ·exact ⟨_,h5,fun v q=>by rw [d5] at q;cases q⟩
  ·exact ⟨_,h2,fun v q=>by cases (show Data.seq _ _=Data.cell v from q)⟩
 keep:=fun i h h' st k=>by
  obtain ⟨h1,h2,⟨a,c,h3⟩,h4,h5⟩:=st;exact ⟨k z (by simp) _ h1,k TI (by simp) _ h2,⟨a,c,k TO (by simp) _ h3⟩,h4.at fun o e=>k i1 (by simp) o e,h5.at fun o e=>k i2 (by simp) o e⟩
 item:=by
  intro X hP hw hK hc i pins s σ H E I hf st hg;subst hP hw hK;obtain ⟨h1,h2,⟨a,c,h3⟩,h4,h5⟩:=st;obtain ⟨xs,ys,x,y,qx,qy,ex,ey⟩:=hg;obtain ⟨its,rx,px,_⟩:=I.list qx;obtain ⟨jts,ry,py,_⟩:=I.list qy;obtain ⟨u,hu,ru⟩:=rx.get ex;obtain ⟨v,hv,rv⟩:=ry.get ey;refine wpAny_pyNext_zip_item D h1 h2 h3 h4 h5 px.isList py.isList (by simpa using hu) (by simpa using hv) fun h' a1 a2 a3 a4 a5 a6 a7=>?_;refine ⟨_,rfl,wpAny_letOwnedTupleGo_zip a1 fun h2' b1 sb=>?_⟩;have nz:s.heap.objs.size≠z:=fun e=>by have:=Z7 h1;rw [← e] at this;exact Y2 _ this
  have J:Inv X pins σ H { s with heap:=h2' }:=I.turns (t':=s.toks) (ch:=[z,TO,i1,i2,TI]) (fun b o hb e=>by
   simp only [Zy,Zz,or_false,not_or] at hb
   exact (sb.2 b hb.1).trans (a7 b o hb.1 hb.2.1 hb.2.2.1 hb.2.2.2.1 e)) hf
  have gT:h2'.get? s.heap.objs.size=some { cls:=.type "tuple",data:=.seq #[u,v] }:=(sb.2 _ nz).trans a5;have fT:H s.heap.objs.size=none:=I.hok.fresh (Z5 _)
  have J2:Inv X pins σ (upd H s.heap.objs.size (.tup [x,y])) { s with heap:=h2' }:=J.adopt fT I.sz (Nat.ne_of_gt I.lt) (fun n c e=>by
    obtain ⟨w',q⟩:=I.cell n c e
    exact Ze q.lt) (fun p hp=>Ze (Z7 (I.pin p hp).1)) ⟨by show 2≤sizeLine;decide,[u,v],.cons ru (.cons rv .nil),⟨_,gT,rfl,_,rfl⟩⟩
  have keepB:∀ b o,b≠z→h'.get? b=some o→h2'.get? b=some o:=fun b o hb e=>(sb.2 b hb).trans e;refine ⟨.ref s.heap.objs.size,_,J2,rfl,⟨_,x,y,rfl,fT,rfl,fun zs hz=>by rw [I.list_inj hz qx];exact ex,fun zs hz=>by rw [I.list_inj hz qy];exact ey⟩,⟨b1,keepB _ _ D.TIz (a7 _ _ D.TIz D.TITO D.TIi1 D.TIi2 h2),⟨_,_,keepB _ _ D.TOz a2⟩,a3.at fun o e=>keepB _ _ D.i1z e,a4.at fun o e=>keepB _ _ D.i2z e⟩,fun b hb=>?_⟩;have hb':=(hf b hb).1;have:b≠s.heap.objs.size:=by
   rintro rfl;obtain ⟨o,e⟩:∃ o,s.heap.get? s.heap.objs.size=some o:=by
    simp only [Zy,Zz,or_false] at hb;rcases hb with e | e | e | e | e <;> rw [e]
    ·exact ⟨_,h1⟩
    ·exact ⟨_,h3⟩
    ·obtain ⟨o,q,_⟩:=h4;exact ⟨o,q⟩
    ·obtain ⟨o,q,_⟩:=h5;exact ⟨o,q⟩
    ·exact ⟨_,h2⟩
   exact Y2 _ (Z7 e)
  rw [zA5 this];exact hb'
 done:=by
  intro X hP hw hK hc i pins s σ H E I hf st hg;subst hP hw hK;obtain ⟨h1,h2,⟨a,c,h3⟩,h4,h5⟩:=st;obtain ⟨xs,ys,qx,qy,hend⟩:=hg;obtain ⟨its,rx,px,_⟩:=I.list qx;obtain ⟨jts,ry,py,_⟩:=I.list qy;have e1:=rx.length;have e2:=ry.length;refine wpAny_pyNext_zip_end (I.ok.hd hc) D h1 h2 h3 h4 h5 px.isList py.isList ?_ fun h' kk=>⟨rfl,I.turns (t':=s.toks) (ch:=[z,TO,i1,i2,TI]) (fun b o hb e=>?_) hf⟩
  ·rcases hend with q | q
   ·exact .inl (by simp;omega)
   ·exact .inr (by simp;omega)
  ·simp only [Zy,Zz,or_false,not_or] at hb;exact kk b o hb.1 hb.2.1 hb.2.2.1 hb.2.2.2.1 e
 self:=fun _ _ _ _ _ st h=>wpAny_pyIter_zip st.1 h
noncomputable def iZip (K:PySem.W.Frag) (ta:TA):TI:=fun σ H R=>ta σ H fun vs H1=>∃ a b,vs=[.ref a,.ref b]∧(∃ xs,SqL K H1 a xs)∧(∃ ys,SqL K H1 b ys)∧R (Itz K a b) H1
section
variable {X:Cx}
theorem pi_zip {es:List Expr}{x1:_}{tp:Pos}{e1 e2:Expr}{ta:TA}{p pos:Pos} (hg:Gl X "zip") (hm:X.mg "zip" = none) (ha:PA X [e1,e2] ta) (hs:starEach [e1,e2] X.env=[(false,eval e1 X.env),(false,eval e2 X.env)]:=by rfl) (hs2:starEach [e2] X.env=[(false,eval e2 X.env)]:=by rfl) :
  PI X (.Tuple es x1 tp) (.Call (.Name "zip" p) [e1,e2] [] pos) (iZip X.K ta):=by
 intro pins s σ H R I h;refine Call_ (zDu I hg hm boot_zip (PyProof.Rows.callWith_type1 (thn (ha pos pins s σ H _ I h) fun us s1 ⟨vs,H1,I1,r1,q1⟩=>?_) (by rw [hs,hs2]) (by rw [hs2];rfl)));obtain ⟨a,b,rfl,⟨xs,qx⟩,⟨ys,qy⟩,q⟩:=q1;obtain ⟨u,v,rfl,ru,rv⟩:=v2 r1;cases (show u=Value.ref a from ru);cases (show v=Value.ref b from rv);obtain ⟨its,rx,px,_⟩:=I1.list qx;obtain ⟨jts,ry,py,_⟩:=I1.list qy;have la:a < s1.heap.objs.size:=by obtain ⟨_,e,_⟩:=px.isList;exact Z7 e
 have lb:b < s1.heap.objs.size:=by obtain ⟨_,e,_⟩:=py.isList;exact Z7 e
 refine call_zip_2 px.isList py.isList fun h' a1 a2 a3 a4 a5 a6 a7=>wpAny_pyIter_zip a1 ?_;have I2:Inv X pins σ H1 { s1 with heap:=h' }:=I1.kept (t':=s1.toks) a7;refine ⟨s1.heap.objs.size + 4,[s1.heap.objs.size + 4,s1.heap.objs.size + 3,s1.heap.objs.size,s1.heap.objs.size + 1,s1.heap.objs.size + 2],_,_,H1,rfl,I2,turn_zip (PyProof.Rows.zipApart_new la lb),⟨a1,a2,⟨_,_,a3⟩,a4,a5⟩,fun c hc=>?_,q⟩;have hc':s1.heap.objs.size≤c:=by
  simp only [Zy,Zz,or_false] at hc;rcases hc with e | e | e | e | e
  ·rw [e];exact Nat.le_add_right _ _
  ·rw [e];exact Nat.le_add_right _ _
  ·rw [e];exact Z5 _
  ·rw [e];exact Nat.le_add_right _ _
  ·rw [e];exact Nat.le_add_right _ _
 exact I1.fpOk hc' (I1.hok.fresh hc')
end
end L2
namespace L2
open PySem PySem.Spec PyProof.Rows
section
variable {X:Cx}{K:PySem.W.Frag}{o e:Expr}{es:List Expr}{to ta tl:TE}{t:TA}{name f:Str}{apos cpos pos:Pos}{T id:String}{r:V→List V→Hp→VK→Prop}{tg:Expr}
theorem zD4 (hK:X.K=K) {l:Expr} (hl:PE X l tl):PI X tg l (iList K tl):=by
 subst hK;exact zAg hl
theorem zBz (hK:X.K=K) (he:PE X e ta) (hb:attributeBase e f X.env (eval e X.env)=eval e X.env):PE X (.Attribute e f pos) (tFld K ta f):=by
 subst hK;exact zB7 he hb
theorem zCq (hK:X.K=K) {es:List Expr}{k:Nat}{t:TGs}{n:Nat} (hc:X.calm=true) (h:PGs X es t)
  (hn:(assignEach es X.env).length=n:=by rfl) (hst:(assignEach es X.env).findIdx? (·.1)=none:=by rfl):PG X (.Tuple es k pos) (gTup K n t):=by
 subst hK;exact pg_tup hc h hn hst
end
end L2
namespace L2
open PySem PySem.Spec PyProof.Rows
end L2
namespace L2
open PySem PySem.Spec PyProof.Rows
section
variable {X:Cx}
end
end L2
namespace L2
open PySem PySem.Spec PyProof.Rows
noncomputable def Kept (h h':Heap):Prop:=∀ b o,h.get? b=some o→h'.get? b=some o
theorem Kept.trans {a b c:Heap} (x:Kept a b) (y:Kept b c):Kept a c:=fun p o e=>y p o (x p o e)
theorem Kept.push (h:Heap) (o:Obj):Kept h (h.push o):=fun _ _ e=>Z2 _ e
theorem Kept.same {g h h':Heap}{a:Addr} (k:Kept g h) (ha:g.objs.size≤a) (sb:Heap.SameBut a h h'):Kept g h':=fun b o e =>
 (sb.2 b (Ze (Z9 (Z7 e) ha))).trans (k b o e)
theorem Kept.but {g h h':Heap}{a:Addr} (k:Kept g h) (ha:g.objs.size≤a) (sb:∀ b o,b∉[a]→h.get? b=some o→h'.get? b=some o):Kept g h':=fun b o e =>
 sb b o (fun z=>Ze (Z9 (Z7 e) ha) (List.mem_singleton.mp z)) (k b o e)
noncomputable def ltS (a b:Str):Prop:=a.cps.toList < b.cps.toList
noncomputable instance (a b:Str):Decidable (ltS a b):=inferInstanceAs (Decidable (a.cps.toList < b.cps.toList))
theorem ltS_trans {a b c:Str} (x:ltS a b) (y:ltS b c):ltS a c:=List.lt_trans x y
section
variable {P:Program}{w:World}{A:Around}{E:Value→Shared→Prop}{z:Shared}{g:Heap}{l q I S:Addr}{vs:List Value}{R:Result→Shared→Prop}
noncomputable def KeyEnd (z:Shared) (h:Heap) (k:Str) (u:Value) (y:Shared):Prop:=∃ (h':Heap) (tk':Nat) (t:Tok),u=.str k t∧y={ z with heap:=h',toks:=tk' }∧Kept h h'
theorem min_loop (ks:Nat→Str) (hh:A.handled=none) (hl:g.IsList l vs.toArray) (hI:g.objs.size≤I) (hS:g.objs.size≤S) (ne:S≠I)
  (turn:∀ i v,vs[i]? = some v→∀ (h:Heap) (tk:Nat),Kept g h→wpAny (model P w) A.in1 (call (.ref q) [v]) (KeyEnd z h (ks i)) (fun _ _=>False) { z with heap:=h,toks:=tk })
  (fin:∀ i v h tk,vs[i]? = some v→(∀ j,j < vs.length→¬ ltS (ks j) (ks i))→Kept g h→R (.ok (.ret v)) { z with heap:=h,toks:=tk }) :
  ∀ (r j i:Nat) (h:Heap) (tk:Nat) (b:Value) (t:Tok) (n:Nat),vs.length - (j + 1)=r→j + 1≤vs.length→Kept g h→h.get? S=some (seqObj "list" #[b,.str (ks i) t] n)→h.IsListIter I l (j + 1) →
   vs[i]? = some b→i≤j→(∀ k,k≤j→¬ ltS (ks k) (ks i))→codeAny (model P w) A (.builtin "min.loop" ⟨[.ref I,.ref q,.ref S],[]⟩) R { z with heap:=h,toks:=tk }:=by
 have nm:(toString "min"++toString ".loop" : String) = "min.loop":=by decide
 have hlI:l≠I:=by
  obtain ⟨o,e,_⟩:=hl;exact Ze (Z9 (Z7 e) hI)
 have W:=Walks.list (prog:=P) (w:=w) (A:=A.in1) hh I l hlI vs.toArray;have sz:vs.toArray.size=vs.length:=by simp
 have lst:∀ {h},Kept g h→h.IsList l vs.toArray:=fun {h} k=>by
  obtain ⟨o,e,r⟩:=hl;exact ⟨o,k _ _ e,r⟩
 intro r
 induction r with
 | zero =>
  intro j i h tk b t n hr hj k hs it hb hij best;have hin:j + 1=vs.length:=by omega
  refine codeAny_builtin PySem.F.entry_min_loop ?_;rw [Around.under_plainId PySem.F.plain_min_loop _];show wpAny _ A.in1 (seqItems? (Value.ref S) >>= _) _ _ _;refine wpAny_bind (wpAny_seqItems hs rfl ?_);show wpAny _ A.in1 (tryCatch (pyNext (Value.ref I)) _ >>= _) _ _ _;refine wpAny_bind (wpAny_tryCatch (W.done _ _ _ ⟨by rw [sz,← hin];exact it,lst k⟩ fun h1 tk1 k1=>?_));have e1:=k1 S _ (by simpa using ne) hs;show wpAny _ A.in1 (updateSeq S (fun _=>(#[]:Array Value)) >>= _) _ _ _;refine wpAny_bind (wpAny_updateSeq e1 rfl (wpAny_bind (wpAny_letGo (wpAny_pure ?_))));exact fin i b _ _ hb (fun k' hk=>best k' (by omega)) ((k.but hI k1).same hS (Heap.SameBut.update h1 S _))
 | succ r ih =>
  intro j i h tk b t n hr hj k hs it hb hij best;have hlt:j + 1 < vs.length:=by omega
  refine codeAny_builtin PySem.F.entry_min_loop ?_;rw [Around.under_plainId PySem.F.plain_min_loop _];show wpAny _ A.in1 (seqItems? (Value.ref S) >>= _) _ _ _;refine wpAny_bind (wpAny_seqItems hs rfl ?_);show wpAny _ A.in1 (tryCatch (pyNext (Value.ref I)) _ >>= _) _ _ _;refine wpAny_bind (wpAny_tryCatch (W.item (j + 1) _ _ _ (by rw [sz];exact hlt) ⟨it,lst k⟩ fun v h1 tk1 hp st k1=>?_));have hv:vs[j + 1]? = some v:=by simpa using hp
  have e1:=k1 S _ (by simpa using ne) hs;have kg:=k.but hI k1;show wpAny _ A.in1 (tryCatch (holding [v] (call (Value.ref q) [v])) _ >>= _) _ _ _;refine wpAny_bind (wpAny_tryCatch (wpAny_holding (wpAny_mono (turn (j + 1) v hv h1 tk1 kg) (fun u y he=>?_) fun _ _ f=>f.elim)));obtain ⟨h2,tk2,t2,rfl,rfl,k2⟩:=he;have e2:=k2 S _ e1;have it2:h2.IsListIter I l (j + 1 + 1):=st.1.at fun o e=>k2 _ _ e;have kg2:=kg.trans k2;show wpAny _ A.in1 (tryCatch (holding [v,Value.str (ks (j + 1)) t2] (richCompare .Lt (Value.str (ks (j + 1)) t2) (Value.str (ks i) t) >>= _)) _ >>= _) _ _ _;refine wpAny_bind (wpAny_tryCatch (wpAny_holding (wpAny_bind (show wpAny _ _ (compareOp .Lt (Value.str (ks (j + 1)) t2) (Value.str (ks i) t)) _ _ _ from lt_str ?_))));refine wpAny_bind (wpAny_holding (wpAny_truthy_bool ?_));refine wpAny_bind (wpAny_letGo (wpAny_pure ?_));by_cases c:ltS (ks (j + 1)) (ks i)
  ·have c':(ks (j + 1)).cps.toList < (ks i).cps.toList:=c;obtain ⟨n2,g2⟩:∃ n2,(h2.update S (Obj.mapSeq fun _=>#[v,Value.str (ks (j + 1)) t2])).get? S=some (seqObj "list" #[v,Value.str (ks (j + 1)) t2] n2):=⟨_,get?_update_seq e2 fun _=>#[v,Value.str (ks (j + 1)) t2]⟩;have s2:=Heap.SameBut.update h2 S (Obj.mapSeq fun _=>#[v,Value.str (ks (j + 1)) t2]);simp only [c',decide_true,if_true];refine wpAny_bind (wpAny_updateSeq e2 rfl (wpAny_bind (wpAny_letGo ?_)));rw [nm];refine wpAny_pure ⟨plainId_quiet PySem.F.plain_min_loop _,ih (j + 1) (j + 1) _ _ v t2 n2 (by omega) hlt (kg2.same hS s2) g2 (it2.at fun o e=>(s2.2 I (Ne.symm ne)).trans e) hv (Z5 _) fun k' hk=>?_⟩;by_cases e:k'=j + 1
   ·subst e;exact fun z=>List.lt_irrefl _ z
   ·exact fun z=>best k' (by omega) (ltS_trans z c)
  ·have c':¬ (ks (j + 1)).cps.toList < (ks i).cps.toList:=c;simp only [c',decide_false,Bool.false_eq_true,if_false];refine wpAny_bind (wpAny_letGo ?_);rw [nm];refine wpAny_pure ⟨plainId_quiet PySem.F.plain_min_loop _,ih (j + 1) i _ _ b t n (by omega) hlt kg2 e2 it2 hb (by omega) fun k' hk=>?_⟩;by_cases e:k'=j + 1
   ·subst e;exact c
   ·exact best k' (by omega)
theorem min_key {Q:Value→Shared→Prop} (ks:Nat→Str) (hh:A.handled=none) (hl:z.heap.IsList l vs.toArray) (h0:0 < vs.length)
  (turn:∀ i v,vs[i]? = some v→∀ (h:Heap) (tk:Nat),Kept z.heap h→wpAny (model P w) A.in1 (call (.ref q) [v]) (KeyEnd z h (ks i)) (fun _ _=>False) { z with heap:=h,toks:=tk })
  (fin:∀ i v h tk,vs[i]? = some v→(∀ j,j < vs.length→¬ ltS (ks j) (ks i))→Kept z.heap h→Q v { z with heap:=h,toks:=tk }) :
  wpAny (model P w) A (call (.builtin "min") [.ref l] [(Str.ofString "key",.ref q)]) Q E z:=by
 have nm:(toString "min"++toString ".loop" : String) = "min.loop":=by decide
 refine kmk_tree PySem.F.kind_min PySem.F.plain_min PySem.F.entry_min (kmk_min_key _ _) ?_;show wpAny _ A.in1 (Builtin.Builtins.bindParams "min" ["key", "default"] 0 ⟨[],[(Str.ofString "key",Value.ref q)]⟩ >>= _) _ _ z;refine wpAny_bind (wpAny_of_eq (show Builtin.Builtins.bindParams "min" ["key", "default"] 0 ⟨[],[(Str.ofString "key",Value.ref q)]⟩=pure [some (Value.ref q),none] from rfl) ?_);refine wpAny_bind (wpAny_pure (wpAny_bind (wpAny_pyIter_list hl (wpAny_bind (wpAny_newList ?_ (Zn _))))));rw [nm];refine wpAny_pure ⟨plainId_quiet PySem.F.plain_min_loop _,?_⟩
 let oI:Obj:={ cls:=.type "list_iterator",data:=.fields #[.ref l,.int 0 0] }
 have sz1:(z.heap.push oI).objs.size=z.heap.objs.size + 1:=Ye ..;have gI:((z.heap.push oI).push (seqObj "list" #[] 0)).get? z.heap.objs.size=some oI:=Z2 _ (Zb _ rfl);have gS:((z.heap.push oI).push (seqObj "list" #[] 0)).get? (z.heap.push oI).objs.size=some (seqObj "list" #[] 0):=Zb _ rfl;have kk:Kept z.heap ((z.heap.push oI).push (seqObj "list" #[] 0)):=(Kept.push _ _).trans (Kept.push _ _);have hI:z.heap.objs.size≤z.heap.objs.size:=Z5 _;have hS:z.heap.objs.size≤(z.heap.push oI).objs.size:=by rw [sz1];exact Nat.le_succ _
 have ne:(z.heap.push oI).objs.size≠z.heap.objs.size:=by rw [sz1];exact Nat.succ_ne_self _
 have hlI:l≠z.heap.objs.size:=by
  obtain ⟨o,e,_⟩:=hl;exact Ze (Z7 e)
 have W:=Walks.list (prog:=P) (w:=w) (A:=A.in1) hh z.heap.objs.size l hlI vs.toArray;have sz:vs.toArray.size=vs.length:=by simp
 have lst:∀ {h},Kept z.heap h→h.IsList l vs.toArray:=fun {h} k=>by
  obtain ⟨o,e,r⟩:=hl;exact ⟨o,k _ _ e,r⟩
 refine codeAny_builtin PySem.F.entry_min_loop ?_;rw [Around.under_plainId PySem.F.plain_min_loop _];show wpAny _ A.in1 (seqItems? (Value.ref (z.heap.push oI).objs.size) >>= _) _ _ _;refine wpAny_bind (wpAny_seqItems gS rfl ?_);show wpAny _ A.in1 (tryCatch (pyNext (Value.ref z.heap.objs.size)) _ >>= _) _ _ _;refine wpAny_bind (wpAny_tryCatch (W.item 0 _ _ _ (by rw [sz];exact h0) ⟨⟨_,gI,rfl,rfl⟩,lst kk⟩ fun v h1 tk1 hp st k1=>?_));have hv:vs[0]? = some v:=by simpa using hp
 have e1:=k1 _ _ (by simpa using ne) gS;have kg:=kk.but hI k1;show wpAny _ A.in1 (tryCatch (holding [v] (call (Value.ref q) [v])) _ >>= _) _ _ _;refine wpAny_bind (wpAny_tryCatch (wpAny_holding (wpAny_mono (turn 0 v hv h1 tk1 kg) (fun u y he=>?_) fun _ _ f=>f.elim)));obtain ⟨h2,tk2,t2,rfl,rfl,k2⟩:=he;have e2:=k2 _ _ e1;have s2:=Heap.SameBut.update h2 (z.heap.push oI).objs.size (Obj.mapSeq fun _=>#[v,Value.str (ks 0) t2]);obtain ⟨n2,g2⟩:∃ n2,(h2.update (z.heap.push oI).objs.size (Obj.mapSeq fun _=>#[v,Value.str (ks 0) t2])).get? (z.heap.push oI).objs.size=some (seqObj "list" #[v,Value.str (ks 0) t2] n2):=⟨_,get?_update_seq e2 fun _=>#[v,Value.str (ks 0) t2]⟩;show wpAny _ A.in1 (updateSeq (z.heap.push oI).objs.size (fun _=>#[v,Value.str (ks 0) t2]) >>= _) _ _ _;refine wpAny_bind (wpAny_updateSeq e2 rfl ?_);rw [nm];refine wpAny_pure ⟨plainId_quiet PySem.F.plain_min_loop _,min_loop ks hh hl hI hS ne turn fin _ 0 0 _ _ v t2 n2 rfl h0 ((kg.trans k2).same hS s2) g2 ((st.1.at fun o e=>k2 _ _ e).at fun o e=>(s2.2 _ (Ne.symm ne)).trans e) hv (Z5 _) fun k' hk=>?_⟩;have:k'=0:=by omega
 subst this;exact fun z=>List.lt_irrefl _ z
end
end L2
namespace L2
open PySem PySem.Spec PyProof.Rows
noncomputable def CodeO (c:Addr) (q:Str):HO:=.ext fun h=>h.CodeRec (.ref c) q
noncomputable def TabOk (H:Hp) (P:Addr) (pos:Pos) (q:Str):Prop:=H P=some (.tbl #[])∨∃ c,H P=some (.tbl #[rawInt pos.line,rawInt pos.col,.ref c])∧H c=some (CodeO c q)
noncomputable def GrownBut (P:Addr) (H H':Hp):Prop:=∀ b o,H b=some o→b≠P→H' b=some o
theorem TabOk.ne {H:Hp}{P:Addr}{pos:Pos}{q:Str} (T:TabOk H P pos q) {a:Addr}{o:HO} (e:H a=some o) (h:∀ ps,o≠.tbl ps):a≠P:=by
 rintro rfl;rcases T with z | ⟨c,z,_⟩ <;> rw [e] at z <;> exact h _ (Zg z)
theorem TabOk.stay {H H':Hp}{P:Addr}{pos:Pos}{q:Str} (T:TabOk H P pos q) (k:∀ b o,H b=some o→H' b=some o):TabOk H' P pos q:=by
 rcases T with z | ⟨c,z,y⟩
 ·exact .inl (k _ _ z)
 ·exact .inr ⟨c,k _ _ z,k _ _ y⟩
theorem TabOk.but {H H':Hp}{P:Addr}{pos:Pos}{q:Str}{p:Addr}{u:HO} (T:TabOk H P pos q) (hp:H p=some u) (h1:∀ ps,u≠.tbl ps) (h2:∀ f,u≠.ext f) (k:∀ b o,H b=some o→b≠p→H' b=some o):TabOk H' P pos q:=by
 have n1:=T.ne hp h1;rcases T with z | ⟨c,z,y⟩
 ·exact .inl (k _ _ z (Ne.symm n1))
 ·refine .inr ⟨c,k _ _ z (Ne.symm n1),k _ _ y ?_⟩;rintro rfl;rw [hp] at y;exact h2 _ (Zg y)
noncomputable def BltAt (mg:Str→Option Value) (base:Heap):Prop:=∃ (bm:Addr) (ob:Obj),mg "__builtins__" = some (.ref bm)∧bm≠builtinsNs∧bm≠mainGlobals∧base.get? bm=some ob∧ob.cls=.type "module"∧ob.dict=some builtinsNs∧ob.data=.plain
structure LamTxt (K:PySem.W.Frag) (mg:Str→Option Value) (base:Heap) (c P:Addr):Prop where
 hd:PySem.W.codeHdIn K c P=true
 blt:BltAt mg base
section
variable {X:Cx}{pins:List (Addr×Obj)}{σ : St}{H:Hp}{s:Shared}{A:Around}{E:Value→Shared→Prop}
theorem zCb {c:Addr}{q:Str}:∀ h1 h2:Heap,h1.CodeRec (.ref c) q→(∀ o,h1.get? c=some o→h2.get? c=some o)→h2.CodeRec (.ref c) q:=fun h1 h2 ⟨c',o,vs,t,e,ho,r⟩ k=>by
 cases e;exact ⟨c,o,vs,t,rfl,k o ho,r⟩
theorem lam_made {params:Arguments}{body:Expr}{scope:Scope}{pos:Pos}{c P:Addr}{q:Str}{Q:Value→Shared→Prop} (I:Inv X pins σ H s) (T:LamTxt X.K X.mg X.base c P) (hcode:X.env.code=.ref c) (hq:X.env.qual++"<lambda>" = q)
  (hcl:closureFor scope X.env=pure []) (hdef:defaultsOf params X.env=([],[])) (W:TabOk H P pos q)
  (h:∀ (H':Hp) (s':Shared) (f c':Addr) (pm ctv:Value),Inv X pins σ H' s'→s'.heap.get? f=some (PySem.W.kla_obj "<lambda>" q params body scope [] pm c' ctv)→s'.heap.CodeRec (.ref c') q→TabOk H' P pos q→GrownBut P H H'→Q (.ref f) s') :
  wpAny (model X.prog X.w) A (eval (.Lambda params body scope pos) X.env) Q E s:=by
 subst hq;refine PySem.W.kla_eval hdef ?_;obtain ⟨bm,ob,e1,e3,e4,e2,e5,e6,e7⟩:=T.blt;have hbP:bm≠P:=by
  rintro rfl;have:=(I.bs _ _ e2).2;rcases W with z | ⟨c',z,_⟩ <;> rw [this] at z <;> cases z
 have hb:s.heap.BuiltinsAt X.mg P:=⟨bm,ob,e1,e3,e4,hbP,I.bk _ _ e2,e5,e6,e7⟩;have hg:=I.mod.glob.keeps I.bk;have C:=PySem.W.codeHd_of_K I.kIn T.hd;have tab:∀ {ps},H P=some (.tbl ps)→s.heap.get? P=some (PySem.W.tabObj ps):=fun {ps} e=>I.hok P _ e;have hgP:mainGlobals≠P:=by
  rintro rfl;obtain ⟨o,es,ep,ho,hd,_⟩:=hg;rcases W with z | ⟨c',z,_⟩ <;> (rw [tab z] at ho;cases ho;cases hd)
 rcases W with z | ⟨c',z,y⟩
 ·refine PySem.W.kla_makeFunction hcl I.ok.glob hg hcode C (tab z) trivial rfl hgP hb fun c' ctv h' tk hx hge hlt hrec htb=>?_;have fc:H c'=none:=I.hok.fresh hge;have nP:c'≠P:=Ne.symm (zA3 z fc)
  let H':Hp:=upd (upd H P (.tbl #[rawInt pos.line,rawInt pos.col,.ref c'])) c' (CodeO c' (X.env.qual++"<lambda>"))
  have hP':H' P=some (.tbl #[rawInt pos.line,rawInt pos.col,.ref c']):=by show upd _ _ _ _=_;rw [zA5 (Ne.symm nP),zA1]
  have hc':H' c'=some (CodeO c' (X.env.qual++"<lambda>")):=zA1;have gr:∀ b o,H b=some o→b≠P→H' b=some o:=fun b o e nb=>by
   show upd _ _ _ _=_;rw [zA5 (zA3 e fc),zA5 nb];exact e
  have I1:Inv X pins σ H' { s with heap:=h',toks:=tk }:=by
   refine I.step (g':=s.gens) (d':=s.drawn) (ch:=[]) (fun _ m=>nomatch m) (fun b o _ _ _ e n=>hx b o (Ne.symm (zA3 z n)) e) (fun b o _ _ _ e n=>⟨o.slots,hx b o (Ne.symm (zA3 z n)) e⟩) (fun b o _ e n=>?_) (fun b o _ e=>?_)
    (fun b xs e=>gr b _ e fun k=>by subst k;rw [z] at e;cases e) (fun b o u e=>gr b _ e fun k=>by subst k;rw [z] at e;cases e) (fun b ps e=>?_) (fun m hm=>?_) (fun b u e=>?_) I.bare
   ·show upd _ _ _ _=_;rw [zA5 (Ze (Z9 (Z7 e) hge)),zA5 (Ne.symm (zA3 z n))];exact n
   ·by_cases k:b=P
    ·subst k;exact ⟨_,htb⟩
    ·exact ⟨o,hx b o k e⟩
   ·by_cases k:b=P
    ·subst k;rw [z] at e;cases e;exact ⟨#[rawInt pos.line,rawInt pos.col,.ref c'],by rw [hP'];rfl⟩
    ·exact ⟨#[],by rw [gr b _ e k];simp⟩
   ·exact hm.extBut hx fun k=>by have:=I.free;rw [k,z] at this;cases this
   ·by_cases k1:b=c'
    ·subst k1;rw [hc'] at e;cases e;obtain ⟨_,o,_,_,e',ho,_⟩:=id hrec;cases e';exact ⟨hrec,⟨o,ho⟩,zCb⟩
    ·by_cases k2:b=P
     ·subst k2;rw [hP'] at e;cases e;exact htb
     ·have e':H b=some u:=by
       have e2:upd (upd H P _) c' _ b=some u:=e
       rwa [zA5 k1,zA5 k2] at e2
      refine (I.hok b u e').stay (fun d v hd' r=>hx d v ?_ r) (fun d r=>gr d _ r ?_) fun d xs r=>gr d _ r ?_
      ·rcases hd' with k | k
       ·rw [k];exact k2
       ·rintro rfl;rw [z] at k;cases k
      ·rintro rfl;rw [z] at r;cases r
      ·rintro rfl;rw [z] at r;cases r
  have I2:Inv X pins σ H' { s with heap:=h'.push _,toks:=tk }:=I1.kept (t':=tk) (h':=h'.push (PySem.W.kla_obj "<lambda>" (X.env.qual++"<lambda>") params body scope [] ((X.mg "__name__").getD .none) c' ctv)) fun b u e=>Z2 _ e;refine h H' _ h'.objs.size c' ((X.mg "__name__").getD .none) ctv I2 (Zb _ rfl) ?_ (.inr ⟨c',hP',hc'⟩) gr;exact zCb h' _ hrec fun o e=>Z2 _ e
 ·refine PySem.W.kla_makeFunctionHit (cv:=.ref c') hcl I.ok.glob hg hcode C (tab z) trivial ?_ hb fun ctv h' tk kk sz=>?_
  ·simp [codeAmong,rawInt]
  ·have I2:Inv X pins σ H { s with heap:=h'.push _,toks:=tk }:=I.kept (t':=tk) (h':=h'.push (PySem.W.kla_obj "<lambda>" (X.env.qual++"<lambda>") params body scope [] ((X.mg "__name__").getD .none) c' ctv)) fun b u e=>Z2 _ (kk b u e);refine h H _ h'.objs.size c' ((X.mg "__name__").getD .none) ctv I2 (Zb _ rfl) ?_ (.inr ⟨c',z,y⟩) fun b o e _=>e;obtain ⟨hr,_,_⟩:=I.hok c' _ y;exact zCb s.heap _ hr fun o e=>Z2 _ (kk _ _ e)
end
structure LamSc (scope:Scope) (x:Str):Prop where
 co:scope.isCoroutine=false
 gen:scope.isGenerator=false
 kind:scope.kind=.function
 cell:∀ y∈scope.names,y.2≠.cell
 loc:scope.names.lookup x=some .local
section
variable {P:Program}{w:World}{A:Around}{z:Shared}
theorem lam_fld {f c':Addr}{nm q x fld k:Str}{params:Arguments}{p1 p2:Pos}{scope:Scope}{pm ctv v:Value} (ho:z.heap.get? f=some (PySem.W.kla_obj nm q params (.Attribute (.Name x p1) fld p2) scope [] pm c' ctv)) (hc:z.heap.CodeRec (.ref c') q)
  (hroom:A.depth < recursionLimit) (hlim:z.heap.NoLimit) (hb:bindArgs (PySem.W.kla_fn nm q params (.Attribute (.Name x p1) fld p2) scope [] pm (.ref c') ctv) ⟨[v],[]⟩=pure [(x,v)]) (S:LamSc scope x) (hx:(x == ("__debug__" : Str))=false)
  (hat:∀ env:Env,attributeBase (.Name x p1) fld env (eval (.Name x p1) env)=eval (.Name x p1) env)
  (hget:∀ (A':Around) (E':Value→Shared→Prop) (h:Heap) (tk:Nat),Kept z.heap h→wpAny (model P w) A' (getAttr v fld true) (fun u y=>∃ t tk',u=.str k t∧y={ z with heap:=h,toks:=tk' }) E' { z with heap:=h,toks:=tk }) :
  wpAny (model P w) A (call (.ref f) [v]) (KeyEnd z z.heap k) (fun _ _=>False) z:=by
 refine wpAny_call (PySem.W.kla_callFunE hroom ho rfl S.co S.gen rfl hc ?_);rw [hb];refine wpAny_pure (wpAny_newFunctionEnv S.cell (fun y hy=>by rw [List.mem_singleton.mp hy];exact S.loc) (fun h1 hns hsb=>?_) S.kind);have kk:Kept z.heap h1:=fun b o e=>(hsb.2 b (Ze (Z7 e))).trans (Z2 _ e);refine ⟨hlim.keeps kk,PySem.W.kla_codeExpr (attr_of (hat _) (wpAny_Name (wpAny_loadName_local S.kind S.loc hns (v:=v) (by simp) ?_) hx))⟩;refine thn (hget _ _ h1 _ kk) fun u y ⟨t,tk',eu,ey⟩=>?_;exact ⟨h1,tk',t,eu,ey,kk⟩
end
noncomputable def tMinKey (K:PySem.W.Frag) (P:Addr) (pos:Pos) (q fld:Str) (ta:TA):TE:=fun σ H Q=>ta σ H fun vs H1=>∃ (l:Addr) (xs:List V) (ks:List Str),vs=[.ref l]∧SqL K H1 l xs∧0 < xs.length∧TabOk H1 P pos q∧ks.length=xs.length ∧
 (∀ (i:Nat) (v:V) (k:Str),xs[i]? = some v→ks[i]? = some k→∃ a C dx fs,v=.ref a∧H1 a=some (.ins C dx fs)∧Cls K C∧NoAttr K C fld∧fs.lookup fld=some (.str k)) ∧
 ∀ (i:Nat) (v:V) (k:Str) (H2:Hp),xs[i]? = some v→ks[i]? = some k→(∀ y∈ks,¬ ltS y k)→TabOk H2 P pos q→GrownBut P H1 H2→Q v H2
section
variable {X:Cx}
theorem zDe {e:Expr}{ta:TA}{x fld q:Str}{params:Arguments}{p p1 p2 lpos kpos pos:Pos}{scope:Scope}{c P:Addr} (T:LamTxt X.K X.mg X.base c P) (hcode:X.env.code=.ref c) (hr:Room 2 X.A) (hcm:X.calm=true) (hg:Gl X "min") (hm:X.mg "min" = none) (ha:PA X [e] ta)
  (S:LamSc scope x) (hq:X.env.qual++"<lambda>" = q:=by rfl) (hcl:closureFor scope X.env=pure []:=by rfl) (hdef:defaultsOf params X.env=([],[]):=by rfl)
  (hb:∀ (pm cd ctv v:Value),bindArgs (PySem.W.kla_fn "<lambda>" q params (.Attribute (.Name x p1) fld p2) scope [] pm cd ctv) ⟨[v],[]⟩=pure [(x,v)]:=by intros;rfl) (hx:(x == ("__debug__" : Str))=false:=by decide)
  (hat:∀ env:Env,attributeBase (.Name x p1) fld env (eval (.Name x p1) env)=eval (.Name x p1) env:=by intros;rfl)
  (he:backTo pos (starEach [e] X.env)=(false,eval e X.env) :: backTo pos (starEach [] X.env):=by rfl) (hpl:(backTo pos (starEach [e] X.env)).any (·.1)=false:=by rfl) :
  PE X (.Call (.Name "min" p) [e] [⟨some "key",.Lambda params (.Attribute (.Name x p1) fld p2) scope lpos,kpos⟩] pos) (tMinKey X.K P lpos q fld ta):=by
 intro pins s σ H Q I h;refine wpAny_Call_Name_kw (zDu I hg hm PyProof.Rows.boot_min ?_);refine PyProof.Rows.callWith_kw (thn (ha pos pins s σ H _ I h) fun us s1 ⟨vs,H1,I1,r1,q1⟩=>?_) he hpl rfl rfl;obtain ⟨l,xs,ks,rfl,hl,h0,W,hlen,hat1,fin⟩:=q1;obtain ⟨u,rfl,ru⟩:=v1 r1;cases (show u=Value.ref l from ru);refine PyProof.Rows.evalAll_cons (wpAny_bind (lam_made I1 T hcode hq hcl hdef W fun H2 s2 f c' pm ctv I2 ho hrec W2 gr=>wpAny_bind (wpAny_standAt (wpAny_pure ?_))));refine PyProof.Rows.evalAll_nil ?_;have hlP:SqL X.K H2 l xs:=by
  rcases hl with (z | ⟨o,z⟩) | z
  ·exact .inl (.inl (gr _ _ z (W.ne z (fun _ k=>nomatch k))))
  ·exact .inl (.inr ⟨o,gr _ _ z (W.ne z (fun _ k=>nomatch k))⟩)
  ·exact .inr z
 obtain ⟨its,rv,pl,_⟩:=I2.list hlP;have il:=rv.length;refine min_key (vs:=its) (fun i=>ks.getD i Str.empty) (I2.ok.hd hcm) pl.isList (by omega) (fun i v hv h tk kk=>?_) fun i v h tk hv hbest kk=>?_
 ·have hi:i < its.length:=(List.getElem?_eq_some_iff.mp hv).1;obtain ⟨y,hy⟩:∃ y,xs[i]? = some y:=⟨_,Z1 (by omega)⟩;obtain ⟨k,hk⟩:∃ k,ks[i]? = some k:=⟨_,Z1 (by omega)⟩;obtain ⟨u,hu,ry⟩:=rv.get hy;rw [hv] at hu;cases hu;obtain ⟨a,C,dx,fs,rfl,ea,cc,nn,lf⟩:=hat1 i y k hy hk;cases (show v=Value.ref a from ry);have ek:ks.getD i Str.empty=k:=by simp [hk]
  show wpAny _ _ _ (KeyEnd s2 h (ks.getD i Str.empty)) _ _;rw [ek];have I3:Inv X pins σ H2 { s2 with heap:=h,toks:=tk }:=I2.kept (t':=tk) kk;have ea2:H2 a=some (.ins C dx fs):=gr _ _ ea (W.ne ea (fun _ k=>nomatch k));refine lam_fld (z:={ s2 with heap:=h,toks:=tk }) (kk _ _ ho) (zCb _ _ hrec fun o e=>kk _ _ e) hr.in1.depth I3.nolimit (hb _ _ _ _) S hx hat fun A' E' h2 tk2 k2=>?_;have I4:Inv X pins σ H2 { s2 with heap:=h2,toks:=tk2 }:=I3.kept (t':=tk2) k2;obtain ⟨mA,O,r,_,_,_⟩:=zDl I4.hok ea2;obtain ⟨w',hw,rw'⟩:=RelO.some_of (v:=V.str k) (o:=mA fld) (by rw [← lf];exact r fld);obtain ⟨t,rfl⟩:=rw';exact get_map I4.kIn O (cc.get fld) cc.hd nn hw rfl ⟨t,_,rfl,rfl⟩
 ·have hi:i < its.length:=(List.getElem?_eq_some_iff.mp hv).1;obtain ⟨y,hy⟩:∃ y,xs[i]? = some y:=⟨_,Z1 (by omega)⟩;obtain ⟨k,hk⟩:∃ k,ks[i]? = some k:=⟨_,Z1 (by omega)⟩;obtain ⟨u,hu,ry⟩:=rv.get hy;rw [hv] at hu;cases hu;have ek:ks.getD i Str.empty=k:=by simp [hk]
  refine ⟨y,H2,I2.kept (t':=tk) kk,ry,fin i y k H2 hy hk (fun y' hy'=>?_) W2 gr⟩;obtain ⟨j,hj,ej⟩:=Zo hy';have:=hbest j (by omega);rw [ek] at this;have e2:ks.getD j Str.empty=y':=by simp [Z1 hj,ej]
  rw [e2] at this;exact this
end
end L2
namespace L2
open PySem PySem.Spec PyProof.Rows
theorem blt_of {p:Program}{loose:List Str}{mean:ExcName→Option Value}{mg mb:Str→Option Value}{h:Heap} (T:PyProof.Rows.Top p loose mean mg mb h):BltAt mg h:=by
 obtain ⟨bm,ob,b1,b2,b3,b4,b5,b6⟩:=T.bmain;refine ⟨bm,ob,b1,b2,fun q=>?_,b3,b4,b5,b6⟩;obtain ⟨o,es,ep,e,hd,_⟩:=T.g;rw [q,e] at b3;cases b3;rw [hd] at b6;cases b6
end L2
namespace L2
open PySem PySem.Spec PyProof.Rows
section
variable {X:Cx}
end
noncomputable def Froze (H:Hp) (d:Addr) (kvs:List (Key×V)) (H':Hp):Prop:=∃ o,H'=upd H d (.frz o (.dK kvs))
theorem Froze.at {H H':Hp}{d:Addr}{kvs:List (Key×V)} (z:Froze H d kvs H'):Rd H' d (.dK kvs):=by
 obtain ⟨o,rfl⟩:=z;exact .inr ⟨o,zA1⟩
theorem Froze.ne {H H':Hp}{d:Addr}{kvs:List (Key×V)} (z:Froze H d kvs H') {b:Addr} (h:b≠d):H' b=H b:=by
 obtain ⟨o,rfl⟩:=z;exact zA5 h
section
variable {X:Cx}{pins:List (Addr×Obj)}{σ : St}{H:Hp}{s:Shared}{d:Addr}{kvs:List (Key×V)}
theorem upd_id {H:Hp}{a:Addr}{o:HO} (h:H a=some o):upd H a o=H:=by
 funext b;by_cases e:b=a
 ·subst e;rw [zA1,h]
 ·rw [zA5 e]
theorem Inv.freeze (I:Inv X pins σ H s) (r:Rd H d (.dK kvs)):∃ o es ep,o.data=.dict es ep∧s.heap.get? d=some o∧Inv X pins σ (upd H d (.frz o (.dK kvs))) s:=by
 rcases r with r | ⟨o,r⟩
 ·have ok:=I.hok d _ r;obtain ⟨_,_,_,_,o,es,ep,e,ex,dd,_⟩:=id ok;refine ⟨o,es,ep,dd,e,?_⟩;have tup:∀ b xs,H b=some (.tup xs)→b≠d:=fun b xs q z=>by subst z;rw [r] at q;cases q
  refine I.step (h':=s.heap) (g':=s.gens) (d':=s.drawn) (t':=s.toks) (ch:=[]) (fun _ m=>nomatch m) (fun b o _ _ _ e _=>e) (fun b o _ _ _ e _=>⟨o.slots,e⟩) (fun b o _ q n=>?_) (fun b o _ e=>⟨o,e⟩)
   (fun b xs q=>?_) (fun b o u q=>?_) (fun b ps q=>⟨#[],?_⟩) (fun m h=>h) (fun b u q=>?_) I.bare
  ·rw [zA5 (Ne.symm (zA3 r n))];exact n
  ·rw [zA5 (tup b xs q)];exact q
  ·rw [zA5 (fun z=>by subst z;rw [r] at q;cases q)];exact q
  ·rw [zA5 (fun z=>by subst z;rw [r] at q;cases q),q];simp
  ·by_cases hb:b=d
   ·subst hb;rw [zA1] at q;cases q;exact ⟨e,ok⟩
   ·rw [zA5 hb] at q;exact (I.hok b u q).stay (fun c v _ q=>q) (fun c q=>by rw [zA5 (fun z=>by subst z;rw [r] at q;cases q)];exact q) fun c xs q=>by rw [zA5 (tup c xs q)];exact q
 ·obtain ⟨e,_,_,_,_,o',es,ep,e',ex,dd,_⟩:=I.hok d _ r;rw [e] at e';cases e';exact ⟨o,es,ep,dd,e,by rw [upd_id r];exact I⟩
theorem Inv.dictAt {o:Obj}{es:Array DictEntry}{ep:Nat} (I:Inv X pins σ H s) (e:H d=some (.frz o (.dK kvs))) (hd:o.data=.dict es ep):∃ vs,KV kvs vs∧s.heap.DictAt (mixKind X.prog X.w) d vs ep∧(d == sysModules)=false:=by
 obtain ⟨g,_,lo,vs,kv,o',es',ep',g',ex,hd',r⟩:=I.hok d _ e;rw [g] at g';cases g';rw [hd] at hd';cases hd';exact ⟨vs,kv,⟨o,es,g,ex,hd,r⟩,lo⟩
end
theorem KV.get {κ : Type}:∀ {kvs:List (κ×V)}{vs:List (κ×Value)}{i:Nat}{k : κ}{x:V},KV kvs vs→kvs[i]? = some (k,x)→∃ u,vs[i]? = some (k,u)∧RelV x u
 | _,_,_,_,_,.nil,e=>by simp at e
 | _,_,0,k,x,.cons (b:=b) r _,e=>by
  simp at e;obtain ⟨k',u⟩:=b;subst e;obtain ⟨e1,e2⟩:=r;exact ⟨u,by simp at e1;simp [e1],e2⟩
 | _,_,i + 1,k,x,.cons _ t,e=>by
  obtain ⟨u,h1,h2⟩:=KV.get (i:=i) (k:=k) (x:=x) t (by simpa using e);exact ⟨u,by simpa using h1,h2⟩
theorem KV.len {κ : Type}{kvs:List (κ×V)}{vs:List (κ×Value)} (h:KV kvs vs):kvs.length=vs.length:=Paired.length h
theorem key_rel {k:Key}{v:Value} (h:keyIs k v=true):RelV (kV k) v:=by
 rcases zAq h with ⟨i,t,rfl,rfl⟩ | ⟨x,t,rfl,rfl⟩
 ·exact ⟨t,rfl⟩
 ·exact ⟨t,rfl⟩
noncomputable def Itk (d:Addr) (kvs:List (Key×V)) (o:Obj):It :=
 ⟨fun i H=>H d=some (.frz o (.dK kvs))∧i < kvs.length,fun i H v H'=>H'=H∧∃ k x,kvs[i]? = some (k,x)∧v=kV k,fun i H=>H d=some (.frz o (.dK kvs))∧kvs.length≤i⟩
theorem turn_keys {P:Program}{w:World}{K:PySem.W.Frag}{tg:Expr}{d it:Addr}{kvs:List (Key×V)}{o:Obj}{es:Array DictEntry}{ep:Nat} (hd:o.data=.dict es ep) :
  Turn P w K tg (Itk d kvs o) [it] it (fun i h=>h.IsKeyIter it d i kvs.length ep) where
 mem:=by simp
 obj:=fun i h st b hb=>by
  have e:b=it:=by simpa using hb
  subst e;obtain ⟨o,e,c,d⟩:=st;exact ⟨o,e,fun v z=>by rw [d] at z;cases z⟩
 keep:=fun i h h' st k=>st.at fun o e=>k it (by simp) o e
 item:=by
  intro X hP hw hK hc i pins s σ H E I hf st hg;subst hP hw hK;obtain ⟨ho,hi⟩:=hg;obtain ⟨vs,kv,da,lo⟩:=I.dictAt ho hd;obtain ⟨⟨k,x⟩,hk⟩:∃ p,kvs[i]? = some p:=⟨_,Z1 hi⟩;obtain ⟨u,hu,ru⟩:=kv.get hk;obtain ⟨f0,f1,f2,f3,f4,f5⟩:=hf it (by simp);have st0:s.heap.IsKeyIter it d i kvs.length ep:=st;rw [kv.len] at st0;refine wpAny_pyNext_dict_item st0 da hu fun key h' hkey st' sb=>?_;have I1:Inv X pins σ H { s with heap:=h' }:=I.turned (t':=s.toks) (fun b o hb e=>(sb.2 b hb).trans e) f0 f1 f3 f4 f5;obtain ⟨o2,e,c,d2⟩:=id st';exact ⟨key,rfl,go_of (s:={ s with heap:=h' }) e c d2 (by decide) ⟨kV k,H,I1,key_rel hkey,⟨rfl,k,x,hk,rfl⟩,by rw [kv.len];exact st',fun b hb=>(hf b hb).1⟩⟩
 done:=by
  intro X hP hw hK hc i pins s σ H E I hf st hg;subst hP hw hK;obtain ⟨ho,hi⟩:=hg;obtain ⟨vs,kv,da,lo⟩:=I.dictAt ho hd;obtain ⟨f0,f1,f2,f3,f4,f5⟩:=hf it (by simp);have st0:s.heap.IsKeyIter it d i kvs.length ep:=st;rw [kv.len] at st0;exact wpAny_pyNext_dict_end (I.ok.hd hc) st0 da (by have:=kv.len;simp;omega) fun h' eb=>⟨rfl,I.turned (t':=s.toks) (fun b o hb e=>eb b o hb e) f0 f1 f3 f4 f5⟩
 self:=fun _ _ _ _ _ st h=>wpAny_pyIter_keyiter st h
noncomputable def iKeys (tl:TE):TI:=fun σ H R=>tl σ H fun x H1=>∃ d kvs,x=.ref d∧Rd H1 d (.dK kvs)∧∀ o,R (Itk d kvs o) (upd H1 d (.frz o (.dK kvs)))
section
variable {X:Cx}{tg:Expr}
theorem pi_keys {l:Expr}{tl:TE} (hl:PE X l tl):PI X tg l (iKeys tl):=by
 intro pins s σ H R I h;refine thn (hl pins s σ H _ I h) fun v s1 ⟨x,H1,I1,r1,q1⟩=>?_;obtain ⟨d,kvs,rfl,rd,q⟩:=q1;obtain rfl:v=Value.ref d:=r1;obtain ⟨o,es,ep,hd,g,J⟩:=I1.freeze rd;obtain ⟨vs,kv,da,lo⟩:=J.dictAt zA1 hd;refine wpAny_pyIter_dict lo da ?_;have J2:=J.kept (t':=s1.toks) (h':=s1.heap.push { cls:=.type "dict_keyiterator",data:=.fields #[.ref d,.int 0 0,.int vs.length 0,.int ep 0] }) fun b u e=>Z2 _ e;refine ⟨s1.heap.objs.size,[s1.heap.objs.size],_,_,_,rfl,J2,turn_keys hd,⟨_,Zb _ rfl,rfl,by rw [kv.len];rfl⟩,fun c hc=>?_,q o⟩;have:c=s1.heap.objs.size:=by simpa using hc
 subst this;exact J.fpOk (Z5 _) (J.hok.fresh (Z5 _))
theorem zC9:CallR X (.type "list") (fun vs H Q=>∃ d kvs,vs=[.ref d]∧Rd H d (.dK kvs)∧X.calm=true∧∀ p,H p=none→Q (.ref p) (upd H p (.lst (kvs.map fun kv=>kV kv.1)))):=by
 intro pins s σ H vs us Q I rv h;obtain ⟨d,kvs,rfl,rd,hc,q⟩:=h;obtain ⟨u,rfl,ru⟩:=v1 rv;cases (show u=Value.ref d from ru);obtain ⟨hz,lo,ks,kv,dd⟩:=zEf I.hok rd;obtain ⟨o,es,ep,g,ex,hd,r⟩:=id dd;have da:s.heap.DictAt (mixKind X.prog X.w) d ks ep:=⟨o,es,g,ex,hd,r⟩;have kl:=kv.len;refine PySem.W.kdl_call (PySem.W.kdl_dict (knd:=mixKind X.prog X.w) (kvs:=ks) (ep:=ep) lo) (I.ok.hd hc) da (by omega) fun h' tk acc c' kk hS hacc=>?_;have fr:H s.heap.objs.size=none:=I.hok.fresh (Z5 _);refine ⟨.ref s.heap.objs.size,_,I.laid (t':=tk) (a:=s.heap.objs.size) (o:=.lst (kvs.map fun kv=>kV kv.1)) kk (Z5 _) ⟨by rw [Z0];exact hz,acc.toList,c',?_,by rw [Array.toArray_toList];exact hS⟩,rfl,q _ fr⟩;have ln:acc.toList.length=kvs.length:=by rw [Yf,kl];exact hacc.1
 have all:∀ (j:Nat) (v:Value),acc.toList[j]? = some v→∃ k x,kvs[j]? = some (k,x)∧RelV (kV k) v:=fun j v e=>by
  obtain ⟨k,x,e2,hk⟩:=hacc.2 j v (by rw [← Array.getElem?_toList];exact e);have hj:j < kvs.length:=by rw [← ln];exact (List.getElem?_eq_some_iff.mp e).1
  obtain ⟨⟨k',x'⟩,hk'⟩:∃ p,kvs[j]? = some p:=⟨_,Z1 hj⟩;obtain ⟨u',hu',_⟩:=kv.get hk';rw [e2] at hu';cases hu';exact ⟨k,x',hk',key_rel hk⟩
 clear hS hacc hz da dd kk kl kv rd q;generalize acc.toList=ys at ln all
 induction kvs generalizing ys with
 | nil =>
  cases ys with
  | nil=>exact .nil
  | cons a b=>cases ln
 | cons p t ih =>
  cases ys with
  | nil=>cases ln
  | cons a b =>
   refine .cons ?_ (ih b (by simpa using ln) fun j v e=>?_)
   ·obtain ⟨k,x,e,q⟩:=all 0 a rfl;simp at e;subst e;exact q
   ·obtain ⟨k,x,e2,q⟩:=all (j + 1) v (by simpa using e);exact ⟨k,x,by simpa using e2,q⟩
end
end L2
namespace L2
open PySem PySem.Spec PyProof.Rows
theorem lk_list_keys:typeLookup (.type "list") "keys" = pure none:=by rw [typeLookup_type,builtinLookup_eq_fast];kernel_rfl
theorem entry_dul:entryFor table "dict.update.loop" = some Builtin.«dict.update.loop»:=entryFor_of_tree (by kernel_rfl)
theorem zCd:plainId "dict.update.loop" = true:=by decide +kernel
section
variable {P:Program}{w:World}{A:Around}{E:Value→Shared→Prop}
theorem no_keys {s:Shared}{a:Addr}{o:Obj}{xs:Array Value}{k:Nat}{Q:Option Value→Shared→Prop} (hx:s.heap.get? a=some o) (hc:o.cls=.type "list") (hdat:o.data=.seq xs k) (hd:o.dict=none) (hA:A.handled=none)
  (h:∀ h' tk,Kept s.heap h'→Q none { s with heap:=h',toks:=tk }):wpAny (model P w) A (getAttr? (.ref a) "keys") Q E s:=by
 obtain ⟨c,dct,dat,sl⟩:=o;simp only at hc hdat hd;subst hc hdat hd;obtain ⟨hp,g,d,tk,os⟩:=s;have hT:∀ n,(⟨hp,g,d,n,os⟩:Shared).TypeIs (.ref a) "list":=fun _=>⟨_,hx,rfl⟩;have f1:=sub_AttributeError;have f3:=F.slot_list_getattribute.lookup;have f4:=F.slot_list_getattribute.bind (.ref a);have f5:=am_list_getattr_none;unfold getAttr? getAttrBy? getAttrBy
 repeat (any_goals (first | assumption | exact hT _ | ((with_reducible show wpAny _ _ (call (Value.builtin "list.__getattribute__") _ _) _ _ _);refine call_meets F.slot_list_getattribute (hT _) am_entry_list_getattribute (F.args_list_getattribute_2 _ _) (meets_getattribute_miss_list a xs k sl "keys" _ lk_list_keys (by decide) (by size_fits)) ⟨hx,hA,fun h' tk' e hx'=>?_⟩) | wp_step))
 obtain ⟨t',u',he⟩:=hx'.there;show wpAny _ _ (getattributeRaised _ _ _ _ _ _ _) _ _ _;unfold getattributeRaised hookOrError attributeErrorLeaves
 repeat (any_goals (first | assumption | wp_step))
 exact h _ _ hx'.of.keeps
theorem nodup_at {α : Type}{l:List α} (h:l.Nodup) {i j:Nat}{x : α} (a:l[i]? = some x) (b:l[j]? = some x):i=j:=by
 obtain ⟨h1,e1⟩:=List.getElem?_eq_some_iff.mp a;obtain ⟨h2,e2⟩:=List.getElem?_eq_some_iff.mp b;exact (List.getElem_inj h).mp (e1.trans e2.symm)
theorem pairs_loop {z:Shared}{g:Heap}{l I d:Addr}{its:List Value}{ps:List (Key×Value)}{R:Result→Shared→Prop} (hh:A.handled=none) (hl:g.IsList l its.toArray) (hI:g.objs.size≤I) (hd:g.objs.size≤d) (ne:d≠I) (hz:its.length≤sizeLine)
  (len:ps.length=its.length) (nd:(ps.map (·.1)).Nodup) (hp:∀ (i:Nat) (v:Value) (k:Key) (u:Value),its[i]? = some v→ps[i]? = some (k,u)→∃ (t:Addr) (y:Value),v=.ref t∧IsTup g t #[y,u]∧keyIs k y=true)
  (fin:∀ h tk,Kept g h→h.DictOf (mixKind P w) d ps→R (.ok (.ret .none)) { z with heap:=h,toks:=tk }) :
  ∀ (r i:Nat) (h:Heap) (tk:Nat),its.length - i=r→i≤its.length→Kept g h→h.DictOf (mixKind P w) d (ps.take i)→h.IsListIter I l i →
   codeAny (model P w) A (.builtin "dict.update.loop" ⟨[.ref d,.ref I,rawInt (i:Nat),.none],[]⟩) R { z with heap:=h,toks:=tk }:=by
 have hlI:l≠I:=by
  obtain ⟨o,e,_⟩:=hl;exact Ze (Z9 (Z7 e) hI)
 have W:=Walks.list (prog:=P) (w:=w) (A:=A.in1) hh I l hlI its.toArray;have sz:its.toArray.size=its.length:=by simp
 have lst:∀ {h},Kept g h→h.IsList l its.toArray:=fun {h} k=>by
  obtain ⟨o,e,r⟩:=hl;exact ⟨o,k _ _ e,r⟩
 have dk:∀ {h h':Heap}{q:List (Key×Value)},h.DictOf (mixKind P w) d q→(∀ b o,b∉[I]→h.get? b=some o→h'.get? b=some o)→h'.DictOf (mixKind P w) d q:=fun ⟨o,es,ep,e,r⟩ k=>⟨o,es,ep,k _ _ (by simpa using ne) e,r⟩;intro r
 induction r with
 | zero =>
  intro i h tk hr hi k hm it;have hin:i=its.length:=by omega
  subst hin;refine codeAny_builtin entry_dul ?_;rw [Around.under_plainId zCd _];show wpAny _ A.in1 (pyNext (Value.ref I) >>= _) _ _ _;refine wpAny_bind (W.done _ _ _ ⟨by rw [sz];exact it,lst k⟩ fun h1 tk1 k1=>?_);show wpAny _ A.in1 (Builtin.Dict.addKeywords d [] >>= _) _ _ _;refine wpAny_bind (wpAny_pure (wpAny_pure ?_));rw [← len,Zd] at hm;exact fin _ _ (k.but hI k1) (dk hm k1)
 | succ r ih =>
  intro i h tk hr hi k hm it;have hlt:i < its.length:=by omega
  refine codeAny_builtin entry_dul ?_;rw [Around.under_plainId zCd _];show wpAny _ A.in1 (pyNext (Value.ref I) >>= _) _ _ _;refine wpAny_bind (W.item i _ _ _ (by rw [sz];exact hlt) ⟨it,lst k⟩ fun v h1 tk1 hv st k1=>?_);have hv':its[i]? = some v:=by simpa using hv
  obtain ⟨⟨key,u⟩,hk⟩:∃ p,ps[i]? = some p:=⟨_,Z1 (by omega)⟩;obtain ⟨t,y,rfl,ht,hy⟩:=hp i v key u hv' hk;have kg:=k.but hI k1;have ht1:=ht.keeps kg;obtain ⟨o,ho,hc,n,hdt⟩:=id ht1;have hT:({ z with heap:=h1,toks:=tk1 }:Shared).TypeIs (.ref t) "tuple":=⟨o,ho,hc⟩;refine wpAny_bind (wpAny_holding (wpAny_bind (wpAny_tryCatch ?_)));unfold Builtin.Dict.pairItems;refine wpAny_bind (wpAny_typeOf hT ?_);rw [if_pos (by decide)];refine wpAny_bind (wpAny_seqItems ho hdt (wpAny_pure ?_));show wpAny _ A.in1 (holding [y,u] (dictSet d y u)) _ _ _;have hm1:=dk hm k1;have nk:key∉(ps.take i).map (·.1):=fun m=>by
   obtain ⟨q,hq,e⟩:=List.mem_map.mp m;obtain ⟨j,hj,ej⟩:=Zo hq;have hj':j < i:=by simp at hj;omega
   have e1:(ps.map (·.1))[j]? = some key:=by
    have:ps[j]? = some q:=by
     have:=Z1 hj;rw [List.getElem?_take_of_lt hj'] at this;rw [this,ej]
    simp [this,e]
   have e2:(ps.map (·.1))[i]? = some key:=by simp [hk]
   have:=nodup_at nd e1 e2;omega
  have st1:stored (ps.take i) key u=ps.take (i + 1):=by
   have hany:¬ ((ps.take i).any fun kv=>decide (kv.1=key))=true:=by
    rw [List.any_eq_true];rintro ⟨kv,h1,h2⟩;exact nk (List.mem_map.mpr ⟨kv,h1,of_decide_eq_true h2⟩)
   rw [stored,if_neg hany,Za,hk];rfl
  refine wpAny_holding (wpAny_dictSet_pairs (knd:=mixKind P w) (k:=key) hy hm1 (fun h2 hm2 sb=>?_) (by have:=Zx i ps;omega));rw [st1] at hm2;refine wpAny_pure ⟨plainId_quiet zCd _,?_⟩;have e3:((i:Nat):Int) + 1=((i + 1:Nat):Int):=by push_cast;rfl
  show codeAny _ A (.builtin "dict.update.loop" ⟨[.ref d,.ref I,rawInt (((i:Nat):Int) + 1),.none],[]⟩) _ _;rw [e3];exact ih (i + 1) h2 _ (by omega) (by omega) (kg.same hd sb) hm2 (st.1.at fun o e=>(sb.2 I (Ne.symm ne)).trans e)
theorem call_pairs {z:Shared}{l:Addr}{its:List Value}{ps:List (Key×Value)}{Q:Value→Shared→Prop} (hh:A.handled=none) (hl:PlainL z.heap l its.toArray) (hz:its.length≤sizeLine)
  (len:ps.length=its.length) (nd:(ps.map (·.1)).Nodup) (hp:∀ (i:Nat) (v:Value) (k:Key) (u:Value),its[i]? = some v→ps[i]? = some (k,u)→∃ (t:Addr) (y:Value),v=.ref t∧IsTup z.heap t #[y,u]∧keyIs k y=true)
  (fin:∀ h tk,Kept z.heap h→h.DictOf (mixKind P w) z.heap.objs.size ps→Q (.ref z.heap.objs.size) { z with heap:=h,toks:=tk }) :
  wpAny (model P w) A (call (.type "dict") [.ref l]) Q E z:=by
 refine callType_codes (Q₁:=fun obj s₁=>obj=.ref z.heap.objs.size∧s₁ = { z with heap:=z.heap.push { cls:=.type "dict",data:=.dict #[] } }) F.kt_called_dict (F.kt_typeCall_dict_1 _) F.entry_dict_init (kt_code_dict_new _ ⟨rfl,rfl⟩) ?_;rintro obj s₁ ⟨rfl,rfl⟩;have hnew:(z.heap.push { cls:=.type "dict",data:=.dict #[] }).DictOf (mixKind P w) z.heap.objs.size []:=Heap.DictOf.new z.heap;have k0:Kept z.heap (z.heap.push { cls:=.type "dict",data:=.dict #[] }):=Kept.push _ _;obtain ⟨ol,n,el,cl,dl,sl⟩:=id hl;refine ⟨hnew.typeIs,F.args_dict_init_2 _ _,?_⟩;unfold Builtin.«dict.__init__»;refine wpAny_bind ?_;unfold Builtin.Dict.selfAndRest;refine wpAny_bind (wpAny_notOrdered_dict hnew.typeIs ?_);show wpAny _ _ (pure (z.heap.objs.size,[Value.ref l])) _ _ _;refine wpAny_pure ?_;show wpAny _ _ (Builtin.Dict.updateFrom "dict.__init__" z.heap.objs.size (.ref l) [] .none) _ _ _;unfold Builtin.Dict.updateFrom;have hT:({ z with heap:=z.heap.push { cls:=.type "dict",data:=.dict #[] } }:Shared).TypeIs (.ref l) "list":=⟨ol,k0 _ _ el,cl⟩;refine wpAny_bind (wpAny_typeOf hT ?_);rw [if_pos (by decide)];refine wpAny_bind (no_keys (k0 _ _ el) cl sl dl hh fun h1 tk1 k1=>?_);simp only [Option.isNone_none,if_true];have hl1:h1.IsList l its.toArray:=by
  obtain ⟨o,e,r⟩:=hl.isList;exact ⟨o,k1 _ _ (k0 _ _ e),r⟩
 refine wpAny_bind (wpAny_rule (wpAny_bind (wpAny_pyIter_list hl1 (wpAny_pure ⟨plainId_quiet zCd _,?_⟩))));have sz1:z.heap.objs.size + 1≤h1.objs.size:=by
  have:=Z7 (k1 _ _ (Zb z.heap (o:={ cls:=.type "dict",data:=.dict #[] }) rfl));exact this
 refine pairs_loop (g:=z.heap) (z:=z) (A:=A.in1) hh hl.isList (I:=h1.objs.size) (d:=z.heap.objs.size) (by omega) (Z5 _) (Ze (by omega)) hz len nd hp (fun h tk kk hm=>⟨rfl,fin h tk kk hm⟩) _ 0 _ _ rfl (Zn _) ((k0.trans k1).trans (Kept.push _ _)) ?_ ⟨_,Zb _ rfl,rfl,rfl⟩;obtain ⟨o,es,ep,e,r⟩:=hnew;exact ⟨o,es,ep,Z2 _ (k1 _ _ e),r⟩
end
section
variable {X:Cx}
theorem zBe {K:PySem.W.Frag} (hK:X.K=K):CallR X (.type "dict") (fun vs H Q=>∃ (l:Addr) (ts:List Addr) (kvs:List (Key×V)),vs=[.ref l]∧SqL K H l (ts.map V.ref)∧X.calm=true∧(kvs.map (·.1)).Nodup∧kvs.length=ts.length ∧
  (∀ (i:Nat) (t:Addr) (k:Key) (v:V),ts[i]? = some t→kvs[i]? = some (k,v)→H t=some (.tup [kV k,v]))∧∀ p,H p=none→Q (.ref p) (upd H p (.dK kvs))):=by
 subst hK;intro pins s σ H vs us Q I rv h;obtain ⟨l,ts,kvs,rfl,hl,hc,nd,ln,ht,q⟩:=h;obtain ⟨u,rfl,ru⟩:=v1 rv;cases (show u=Value.ref l from ru);obtain ⟨its,rx,pl,hz⟩:=I.list hl;have il:=rx.length;simp only [Z0] at il hz;have one:∀ (i:Nat) (v:Value),its[i]? = some v→∃ (t:Addr) (k:Key) (x:V) (y u:Value),v=.ref t∧kvs[i]? = some (k,x)∧IsTup s.heap t #[y,u]∧keyIs k y=true∧RelV x u:=fun i v e=>by
  have hi:i < its.length:=(List.getElem?_eq_some_iff.mp e).1;obtain ⟨t,et⟩:∃ t,ts[i]? = some t:=⟨_,Z1 (by omega)⟩;obtain ⟨⟨k,x⟩,ek⟩:∃ p,kvs[i]? = some p:=⟨_,Z1 (by omega)⟩;obtain ⟨v',hv',r⟩:=rx.get (i:=i) (x:=.ref t) (by simp [et]);rw [e] at hv';cases hv';cases (show v=Value.ref t from r);obtain ⟨_,is,rr,it⟩:=I.hok t _ (ht i t k x et ek);obtain ⟨y,u,rfl,ry,ru⟩:=v2 rr;refine ⟨t,k,x,y,u,rfl,ek,it,?_,ru⟩;cases k with
  | inl n=>obtain ⟨tk,rfl⟩:=ry;exact keyIs_int n tk
  | inr z=>obtain ⟨tk,rfl⟩:=ry;exact keyIs_str z tk
 obtain ⟨ps,lp,hps⟩:∃ ps:List (Key×Value),ps.length=its.length∧∀ i,i < its.length→∃ (t:Addr) (k:Key) (x:V) (y u:Value),its[i]? = some (.ref t)∧kvs[i]? = some (k,x)∧IsTup s.heap t #[y,u]∧keyIs k y=true∧RelV x u∧ps[i]? = some (k,u):=by
  have:∀ i:Fin its.length,∃ p:Key×Value,∃ (t:Addr) (k:Key) (x:V) (y u:Value),its[i.1]? = some (.ref t)∧kvs[i.1]? = some (k,x)∧IsTup s.heap t #[y,u]∧keyIs k y=true∧RelV x u∧p=(k,u):=fun i=>by
   obtain ⟨v,hv⟩:∃ v,its[i.1]? = some v:=⟨_,Z1 i.2⟩;obtain ⟨t,k,x,y,u,rfl,h2,h3,h4,h5⟩:=one i.1 v hv;exact ⟨(k,u),t,k,x,y,u,hv,h2,h3,h4,h5,rfl⟩
  refine ⟨List.ofFn fun i=>(this i).choose,by simp,fun i hi=>?_⟩;obtain ⟨t,k,x,y,u,a1,a2,a3,a4,a5,a6⟩:=(this ⟨i,hi⟩).choose_spec;exact ⟨t,k,x,y,u,a1,a2,a3,a4,a5,by rw [List.getElem?_ofFn,dif_pos hi,a6]⟩
 have keys:ps.map (·.1)=kvs.map (·.1):=by
  refine List.ext_getElem? fun i=>?_;by_cases hi:i < its.length
  ·obtain ⟨t,k,x,y,u,a1,a2,a3,a4,a5,a6⟩:=hps i hi;simp [a2,a6]
  ·rw [List.getElem?_eq_none (by simp;omega),List.getElem?_eq_none (by simp;omega)]
 have kv:KV kvs ps:=by
  have:∀ (a:List (Key×V)) (b:List (Key×Value)),a.length=b.length→(∀ (i:Nat) (k:Key) (x:V) (k':Key) (u:Value),a[i]? = some (k,x)→b[i]? = some (k',u)→k=k'∧RelV x u)→KV a b:=by
   intro a
   induction a with
   | nil =>
    intro b hb _;cases b with
    | nil=>exact .nil
    | cons _ _=>cases hb
   | cons p t ih =>
    intro b hb hr;cases b with
    | nil=>cases hb
    | cons c d=>exact .cons (hr 0 p.1 p.2 c.1 c.2 rfl rfl) (ih d (by simpa using hb) fun i k x k' u h1 h2=>hr (i + 1) k x k' u (by simpa using h1) (by simpa using h2))
  refine this _ _ (by omega) fun i k x k' u h1 h2=>?_;obtain ⟨t,k2,x2,y,u2,a1,a2,a3,a4,a5,a6⟩:=hps i (by rw [← lp];exact (List.getElem?_eq_some_iff.mp h2).1);rw [h1] at a2;cases a2;rw [h2] at a6;cases a6;exact ⟨rfl,a5⟩
 have fr:H s.heap.objs.size=none:=I.hok.fresh (Z5 _);refine call_pairs (P:=X.prog) (w:=X.w) (ps:=ps) (I.ok.hd hc) pl (by omega) lp (by rw [keys];exact nd) (fun i v k u hv hk=>?_) fun h tk kk hm=>?_
 ·obtain ⟨t,k2,x2,y,u2,a1,a2,a3,a4,a5,a6⟩:=hps i (List.getElem?_eq_some_iff.mp hv).1;rw [hv] at a1;cases a1;rw [hk] at a6;cases a6;exact ⟨t,y,rfl,a3,a4⟩
 ·refine ⟨.ref s.heap.objs.size,_,I.laid (t':=tk) (a:=s.heap.objs.size) (o:=.dK kvs) kk (Z5 _) ⟨by omega,?_,ps,kv,hm⟩,rfl,q _ fr⟩;have:=I.big;exact beq_false_of_ne (Nat.ne_of_gt this)
end
end L2
namespace L2
open PySem PySem.Spec PyProof.Rows
section
variable {X:Cx}
theorem zC3 {K:PySem.W.Frag} (hK:X.K=K):CallR X (.builtin "isinstance") (fun xs H Q=>∃ x c t cv b,xs=[x,c]∧TyOf K H x t∧RelV c cv∧PySem.W.kitOne K t cv=some b∧Q (.bl b) H):=by
 subst hK;exact zAl
end
structure FunL (K:PySem.W.Frag) (x qual:Str) (st:Stmt) (f:Addr) (fd:FuncData) (c:Addr):Prop where
 ex:∃ (oc:Value) (od:Option Addr) (kV doc pm:Value) (an:Option Addr) (ct:Value) (osl:Array (Option Value)),
  fd=PySem.W.fnOf x qual (defArgs st) (defBody st) (defScope st) .none kV doc pm an (.ref c) ct∧K.lookup f=some ⟨oc,od,.func fd,osl⟩∧PySem.W.codeIn K (.ref c) qual=true
 kp:PySem.W.keepIn K (.ref f)=true
theorem FunL.fn {K:PySem.W.Frag}{x qual:Str}{st:Stmt}{f c:Addr}{fd:FuncData} (F:FunL K x qual st f fd c):Fun K x qual st f fd:=by
 obtain ⟨oc,od,kV,doc,pm,an,ct,osl,e,lk,hcd⟩:=F.ex;exact ⟨⟨oc,od,kV,doc,pm,an,.ref c,ct,osl,e,lk,hcd⟩,F.kp⟩
theorem FunL.okC {P:Program}{w:World}{K:PySem.W.Frag}{mg:Str→Option Value}{base:Heap}{CX:CXT}{x qual:Str}{st:Stmt}{f c:Addr}{fd:FuncData}{N ps:List Str}{k:Nat}{sp:Sp} (F:FunL K x qual st f fd c) (S:FnScope N ps (defScope st)) (len:∀ vs H Q E,sp vs H Q E→vs.length=ps.length)
  (hbody:∀ (A:Around) (outer:List Env) (s:Shared) (H:Hp) (vs:List V) (Q:VK) (E:XK),Room k (A.deeper (envOfC qual (defScope st) s.heap.objs.size f (.ref c)))→sp vs H Q E →
   ∃ t,PSs (cxOf CX P w K mg base N qual (defScope st) f (.ref c) A outer s H E).nox (defBody st) t∧t { nx:=fun _ H'=>Q .non H',rt:=Q } (start N vs) H):FnOk P w K mg base CX (k + 1) f fd ps sp:=by
 obtain ⟨oc,od,kV,doc,pm,an,ct,osl,rfl,lk,hcd⟩:=F.ex;refine fn_of lk hcd S len fun A outer s H vs Q E hr hsp=>?_;obtain ⟨t,h,q⟩:=hbody A outer s H vs Q E hr hsp;exact ⟨t,h.nox,q⟩
end L2
namespace L2
open PySem PySem.Spec PyProof.Rows
end L2
namespace L2
open PySem PySem.Spec PyProof.Rows
section
variable {X:Cx}
end
end L2
namespace L2
open PySem PySem.Spec PyProof.Rows
noncomputable abbrev OKey:=Option Str
noncomputable def okIs:OKey→Value→Bool
 | none,.none=>true
 | none,_=>false
 | some x,v=>Value.isStrOf x v
noncomputable def okH (w:World):OKey→Int
 | none=>0xFCA86420
 | some x=>hashStr w x
theorem zAw:∀ {k:OKey}{v:Value},okIs k v=true→(k=none∧v=Value.none)∨(∃ x t,k=some x∧v=Value.str x t)
 | none,v,h=>by
  cases v <;> first | exact .inl ⟨rfl,rfl⟩ | exact nomatch h
 | some x,v,h=>by
  obtain ⟨t,e⟩:=Value.isStrOf_shape (x:=x) (v:=v) h;exact .inr ⟨x,t,rfl,e⟩
theorem zCm {prog:Program}{w:World}{A:Around}{E:Value→Shared→Prop}{s:Shared}{Q:Int→Shared→Prop} (h:Q 0xFCA86420 { s with toks:=s.toks + 1 }) :
  wpAny (model prog w) A (pyHash .none) Q E s:=by
 have hT:s.TypeIs .none "NoneType":=rfl;have hv:[Value.none].any Value.onHeap=false:=rfl;show wpAny _ _ (pyHashByItsType .none) Q E s;unfold pyHashByItsType;refine wpAny_bind ?_;rw [cRoomFor,if_neg (by rw [hv];exact Z3)];refine wpAny_pure ?_;refine wpAny_bind (wpAny_specialOf hT F.slot_NoneType_hash.lookup ?_);show wpAny _ _ (if (some (Value.builtin "NoneType.__hash__") == some Value.none)=true then _ else _) Q E s;rw [if_neg (by rw [beq_builtin_none];exact Z3)];refine wpAny_bind (wpAny_specialOf hT F.slot_NoneType_hash.lookup ?_);show wpAny _ _ (callSpecialIfBoundUnlessNone? .none "__hash__" _ >>= _) Q E s
 refine wpAny_bind (wpAny_callSpecialIfBoundUnlessNone?_slot hT F.slot_NoneType_hash
  (wpAny_call_entry F.slot_NoneType_hash hT F.entry_NoneType_hash
   (show wpAny _ _ (do ret (← mkInt 0xFCA86420)) _ _ s from wpAny_ret_mkInt ?_) (F.args_NoneType_hash_1 _)))
 exact wpAny_pure h
noncomputable def optKind (prog:Program) (w:World):PySem.KeyKind prog w OKey where
 is:=okIs
 hash:=okH w
 inj:=fun v a b ha hb=>by
  rcases zAw ha with ⟨rfl,rfl⟩ | ⟨x,t,rfl,rfl⟩
  ·rcases zAw hb with ⟨rfl,e⟩ | ⟨y,u,rfl,e⟩
   ·rfl
   ·exact nomatch e
  ·rcases zAw hb with ⟨rfl,e⟩ | ⟨y,u,rfl,e⟩
   ·exact nomatch e
   ·injection e with e1 _;rw [e1]
 byValue:=fun k v h=>by
  rcases zAw h with ⟨rfl,rfl⟩ | ⟨x,t,rfl,rfl⟩ <;> rfl
 pyHash:=fun hv h=>by
  rcases zAw hv with ⟨rfl,rfl⟩ | ⟨x,t,rfl,rfl⟩
  ·exact zCm h
  ·exact wpAny_pyHash_str h
 eqBool:=fun hu hv h=>by
  rcases zAw hu with ⟨rfl,rfl⟩ | ⟨x,t,rfl,rfl⟩
  ·rcases zAw hv with ⟨rfl,rfl⟩ | ⟨y,u,rfl,rfl⟩
   ·rw [decide_eq_true rfl] at h;unfold eqBool;rw [if_pos (by rfl)];exact wpAny_bind (wpAny_rule (wpAny_pure h))
   ·rw [decide_eq_false (fun q=>nomatch q)] at h;exact SeqAt.EqAt.none_str y u _ _ _ _ h
  ·rcases zAw hv with ⟨rfl,rfl⟩ | ⟨y,u,rfl,rfl⟩
   ·rw [decide_eq_false (fun q=>nomatch q)] at h;exact SeqAt.EqAt.str_none x t _ _ _ _ h
   ·have e:decide ((some x:OKey)=some y)=decide (x=y):=by
     by_cases e:x=y
     ·subst e;simp
     ·rw [decide_eq_false e,decide_eq_false (fun q=>e (Zg q))]
    rw [e] at h;exact wpAny_eqBool_str h
 «strs»:=fun k x t v h=>by
  rcases zAw h with ⟨rfl,e⟩ | ⟨y,u,rfl,e⟩
  ·exact nomatch e
  ·injection e with e1 _;subst e1;cases v <;> rfl
noncomputable def DO (P:Program) (w:World) (a:Addr) (kvs:List (OKey×V)):HO:=.ext fun h=>kvs.length≤sizeLine∧(a == sysModules)=false∧∃ vs,KV kvs vs∧h.DictOf (optKind P w) a vs
section
variable {P:Program}{w:World}{H:Hp}{h:Heap}{a:Addr}{kvs:List (OKey×V)}
end
section
variable {X:Cx}{o i e value:Expr}{pos pos' tpos:Pos}{td ty tv tk:TE}
end
end L2
namespace L2
open PySem PySem.Spec PyProof.Rows
end L2
namespace L2.W
open PySem PySem.Spec PyProof.Rows
@[irreducible] noncomputable def PE (X:Cx) (e:Expr) (t:TE):Prop:=L2.PE X e t
theorem ePE : @L2.PE = @PE:=by unfold PE;rfl
@[irreducible] noncomputable def PT (X:Cx) (e:Expr) (t:TT):Prop:=L2.PT X e t
theorem ePT : @L2.PT = @PT:=by unfold PT;rfl
@[irreducible] noncomputable def PW (X:Cx) (e:Expr) (t:TT):Prop:=L2.PW X e t
theorem ePW : @L2.PW = @PW:=by unfold PW;rfl
@[irreducible] noncomputable def PA (X:Cx) (es:List Expr) (t:TA):Prop:=L2.PA X es t
theorem ePA : @L2.PA = @PA:=by unfold PA;rfl
@[irreducible] noncomputable def PS (X:Cx) (st:Stmt) (t:TS):Prop:=L2.PS X st t
theorem ePS : @L2.PS = @PS:=by unfold PS;rfl
@[irreducible] noncomputable def PSs (X:Cx) (st:List Stmt) (t:TS):Prop:=L2.PSs X st t
theorem ePSs : @L2.PSs = @PSs:=by unfold PSs;rfl
@[irreducible] noncomputable def PG (X:Cx) (g:Expr) (t:TG):Prop:=L2.PG X g t
theorem ePG : @L2.PG = @PG:=by unfold PG;rfl
@[irreducible] noncomputable def PGs (X:Cx) (ts:List Expr) (t:TGs):Prop:=L2.PGs X ts t
theorem ePGs : @L2.PGs = @PGs:=by unfold PGs;rfl
@[irreducible] noncomputable def PI (X:Cx) (tg iter:Expr) (wi:TI):Prop:=L2.PI X tg iter wi
theorem ePI : @L2.PI = @PI:=by unfold PI;rfl
@[irreducible] noncomputable def PFs (X:Cx) (ifs:List Expr) (t:TT):Prop:=L2.PFs X ifs t
theorem ePFs : @L2.PFs = @PFs:=by unfold PFs;rfl
noncomputable def zB1:=by have h:=@L2.zB1;rw [ePS,ePSs,ePT] at h;exact @h
noncomputable def zB7:=by have h:=@L2.zB7;rw [ePE] at h;exact @h
noncomputable def zAr:=by have h:=@L2.zAr;rw [ePE,ePT] at h;exact @h
noncomputable def ps_asg:=by have h:=@L2.ps_asg;rw [ePE,ePS,ePG] at h;exact @h
noncomputable def zAo:=by have h:=@L2.zAo;rw [ePE,ePA] at h;exact @h
noncomputable def zA7:=by have h:=@L2.zA7;rw [ePE,ePA] at h;exact @h
noncomputable def zAj:=by have h:=@L2.zAj;rw [ePE,ePS] at h;exact @h
noncomputable def fn_of:=by have h:=@L2.fn_of;rw [ePSs] at h;exact @h
noncomputable def zBo:=by have h:=@L2.zBo;rw [ePE,ePA] at h;exact @h
noncomputable def zBp:=by have h:=@L2.zBp;rw [ePE] at h;exact @h
noncomputable def pe_bm:=by have h:=@L2.pe_bm;rw [ePE,ePA] at h;exact @h
noncomputable def zE2:=by have h:=@L2.zE2;rw [ePT,ePW] at h;exact @h
noncomputable def zC8:=by have h:=@L2.zC8;rw [ePE] at h;exact @h
noncomputable def zAt:=by have h:=@L2.zAt;rw [ePE] at h;exact @h
noncomputable def pv:=by have h:=@L2.pv;rw [ePE] at h;exact @h
noncomputable def zBu:=by have h:=@L2.zBu;rw [ePE,ePS] at h;exact @h
noncomputable def zA6:=by have h:=@L2.zA6;rw [ePS,ePSs] at h;exact @h
noncomputable def zD5:=by have h:=@L2.zD5;rw [ePE] at h;exact @h
noncomputable def zBa:=by have h:=@L2.zBa;rw [ePE] at h;exact @h
noncomputable def zBy:=by have h:=@L2.zBy;rw [ePGs] at h;exact @h
noncomputable def pg_tup:=by have h:=@L2.pg_tup;rw [ePG,ePGs] at h;exact @h
noncomputable def zA2:=by have h:=@L2.zA2;rw [ePS,ePSs] at h;exact @h
noncomputable def bin:=by have h:=@L2.bin;rw [ePE] at h;exact @h
noncomputable def zE6:=by have h:=@L2.zE6;rw [ePE,ePT] at h;exact @h
noncomputable def zE8:=by have h:=@L2.zE8;rw [ePE] at h;exact @h
noncomputable def zAk:=by have h:=@L2.zAk;rw [ePSs] at h;exact @h
noncomputable def zBk:=by have h:=@L2.zBk;rw [ePE] at h;exact @h
noncomputable def zAu:=by have h:=@L2.zAu;rw [ePG,ePGs] at h;exact @h
noncomputable def zCc:=by have h:=@L2.zCc;rw [ePS,ePSs,ePT] at h;exact @h
noncomputable def pe_var:=by have h:=@L2.pe_var;rw [ePE] at h;exact @h
noncomputable def zA8:=by have h:=@L2.zA8;rw [ePG] at h;exact @h
noncomputable def zDc:=by have h:=@L2.zDc;rw [ePA,ePI] at h;exact @h
noncomputable def zE3:=by have h:=@L2.zE3;rw [ePE,ePT] at h;exact @h
noncomputable def zBg:=by have h:=@L2.zBg;rw [ePS,ePSs,ePG,ePI] at h;exact @h
noncomputable def zAp:=by have h:=@L2.zAp;rw [ePE,ePT] at h;exact @h
noncomputable def zAc:=by have h:=@L2.zAc;rw [ePE,ePA] at h;exact @h
noncomputable def pc_isN:=by have h:=@L2.pc_isN;rw [ePE] at h;exact @h
noncomputable def zDh:=by have h:=@L2.zDh;rw [ePE] at h;exact @h
noncomputable def zBt:=by have h:=@L2.zBt;rw [ePT,ePW] at h;exact @h
noncomputable def zDd:=by have h:=@L2.zDd;rw [ePE,ePA] at h;exact @h
noncomputable def zCy:=by have h:=@L2.zCy;rw [ePE] at h;exact @h
noncomputable def binT:=by have h:=@L2.binT;rw [ePE] at h;exact @h
noncomputable def zBq:=by have h:=@L2.zBq;rw [ePE] at h;exact @h
noncomputable def zAf:=by have h:=@L2.zAf;rw [ePSs] at h;exact @h
noncomputable def PW.pt:=by have h:=@L2.PW.pt;rw [ePT,ePW] at h;exact @h
noncomputable def zCr:=by have h:=@L2.zCr;rw [ePE,ePA] at h;exact @h
noncomputable def pw_and:=by have h:=@L2.pw_and;rw [ePT,ePW] at h;exact @h
noncomputable def zC6:=by have h:=@L2.zC6;rw [ePT] at h;exact @h
noncomputable def zAx:=by have h:=@L2.zAx;rw [ePE] at h;exact @h
noncomputable def zE7:=by have h:=@L2.zE7;rw [ePE] at h;exact @h
noncomputable def zA4:=by have h:=@L2.zA4;rw [ePA] at h;exact @h
noncomputable def zAa:=by have h:=@L2.zAa;rw [ePE] at h;exact @h
noncomputable def zAg:=by have h:=@L2.zAg;rw [ePE,ePI] at h;exact @h
noncomputable def PT.nox:=by have h:=@L2.PT.nox;rw [ePT] at h;exact @h
noncomputable def zBv:=by have h:=@L2.zBv;rw [ePE] at h;exact @h
noncomputable def zAh:=by have h:=@L2.zAh;rw [ePE,ePS] at h;exact @h
noncomputable def zCh:=by have h:=@L2.zCh;rw [ePE] at h;exact @h
noncomputable def zB4:=by have h:=@L2.zB4;rw [ePE] at h;exact @h
noncomputable def Fun.ok:=by have h:=@L2.Fun.ok;rw [ePSs] at h;exact @h
noncomputable def zAs:=by have h:=@L2.zAs;rw [ePT] at h;exact @h
noncomputable def pg_sub:=by have h:=@L2.pg_sub;rw [ePE,ePG] at h;exact @h
noncomputable def zDt:=by have h:=@L2.zDt;rw [ePE] at h;exact @h
noncomputable def zB2:=by have h:=@L2.zB2;rw [ePE,ePA] at h;exact @h
noncomputable def PSs.nox:=by have h:=@L2.PSs.nox;rw [ePSs] at h;exact @h
noncomputable def zA0:=by have h:=@L2.zA0;rw [ePE,ePA] at h;exact @h
noncomputable def PE.nox:=by have h:=@L2.PE.nox;rw [ePE] at h;exact @h
noncomputable def zBx:=by have h:=@L2.zBx;rw [ePE,ePS] at h;exact @h
noncomputable def zCo:=by have h:=@L2.zCo;rw [ePT,ePW] at h;exact @h
noncomputable def pc_din:=by have h:=@L2.pc_din;rw [ePE] at h;exact @h
noncomputable def zCg:=by have h:=@L2.zCg;rw [ePE] at h;exact @h
noncomputable def zCi:=by have h:=@L2.zCi;rw [ePE] at h;exact @h
noncomputable def zCp:=by have h:=@L2.zCp;rw [ePE,ePS] at h;exact @h
noncomputable def zB5:=by have h:=@L2.zB5;rw [ePE] at h;exact @h
noncomputable def zD8:=by have h:=@L2.zD8;rw [ePE,ePG,ePFs] at h;exact @h
noncomputable def zB3:=by have h:=@L2.zB3;rw [ePE,ePS,ePG,ePI,ePFs] at h;exact @h
noncomputable def zAn:=by have h:=@L2.zAn;rw [ePE,ePG,ePI,ePFs] at h;exact @h
noncomputable def zC7:=by have h:=@L2.zC7;rw [ePT,ePFs] at h;exact @h
noncomputable def zAy:=by have h:=@L2.zAy;rw [ePFs] at h;exact @h
noncomputable def pi_str:=by have h:=@L2.pi_str;rw [ePE,ePI] at h;exact @h
noncomputable def Fun.okC:=by have h:=@L2.Fun.okC;rw [ePSs] at h;exact @h
noncomputable def pi_zip:=by have h:=@L2.pi_zip;rw [ePA,ePI] at h;exact @h
noncomputable def zCq:=by have h:=@L2.zCq;rw [ePG,ePGs] at h;exact @h
noncomputable def zBz:=by have h:=@L2.zBz;rw [ePE] at h;exact @h
noncomputable def zD4:=by have h:=@L2.zD4;rw [ePE,ePI] at h;exact @h
noncomputable def zDe:=by have h:=@L2.zDe;rw [ePE,ePA] at h;exact @h
noncomputable def pi_keys:=by have h:=@L2.pi_keys;rw [ePE,ePI] at h;exact @h
noncomputable def FunL.okC:=by have h:=@L2.FunL.okC;rw [ePSs] at h;exact @h
end L2.W
namespace L2
open PySem PySem.Spec PyProof.Rows
noncomputable def XO (C a:Addr):HO:=.ext fun h=>∃ o vs,h.get? a=some o∧o.cls=.ref C∧o.data=.fields vs
section
variable {P:Program}{w:World}{H:Hp}{h:Heap}{a C:Addr}{o:HO}
theorem xo_ok {ob:Obj}{vs:Array Value} (e:h.get? a=some ob) (c:ob.cls=.ref C) (d:ob.data=.fields vs):ObjOk P w H h a (XO C a) :=
 ⟨⟨ob,vs,e,c,d⟩,⟨ob,e⟩,fun _ _ ⟨o,vs,e,c,d⟩ k=>⟨o,vs,k _ e,c,d⟩⟩
theorem xo_of (ok:HOk P w H h) (e:H a=some (XO C a)):∃ o vs,h.get? a=some o∧o.cls=.ref C∧o.data=.fields vs:=(show ObjOk P w H h a (XO C a) from ok a _ e).1
theorem ObjOk.ex (x:ObjOk P w H h a o):∃ ob,h.get? a=some ob:=by
 cases o with
 | lst xs=>obtain ⟨_,_,_,_,e⟩:=x;exact ⟨_,e⟩
 | tup xs=>obtain ⟨_,_,_,ob,e,_⟩:=x;exact ⟨_,e⟩
 | dK kvs=>obtain ⟨_,_,_,_,o,_,_,e,_⟩:=x;exact ⟨_,e⟩
 | dT kvs=>obtain ⟨_,_,_,_,o,_,_,e,_⟩:=x;exact ⟨_,e⟩
 | set S n=>obtain ⟨o,_,_,_,e,_⟩:=x;exact ⟨_,e⟩
 | ins C dx fs=>obtain ⟨_,_,_,e,_⟩:=x;exact ⟨_,e⟩
 | own y=>exact x
 | xd fs=>obtain ⟨_,⟨_,_,_,e,_⟩,_⟩:=x;exact ⟨_,e⟩
 | rng lo hi=>obtain ⟨_,_,_,e⟩:=x;exact ⟨_,e⟩
 | frz ob u=>exact ⟨_,x.1⟩
 | tbl ps=>exact ⟨_,x⟩
 | met f y=>exact ⟨_,x⟩
 | ext φ=>exact x.2.1
theorem HOk.noth (ok:HOk P w H h) (e:h.get? a=none):H a=none:=by
 cases q:H a with
 | none=>rfl
 | some u =>
  obtain ⟨ob,eb⟩:=(ok a u q).ex;rw [e] at eb;cases eb
end
noncomputable def Tr (G:Addr→Prop) (H:Hp) (h:Heap) (e:Addr):Prop:=∃ o vs a0 T oT ts,h.get? e=some o∧o.data=.fields vs∧vs[0]? = some a0∧vs[1]? = some (.ref T)∧G T∧H T=none∧h.get? T=some oT∧oT.data=.fields ts∧ts[3]? = some .none
noncomputable def Fresh (h:Heap) (e:Addr):Prop:=∃ o vs a0,h.get? e=some o∧o.data=.fields vs∧vs[0]? = some a0∧vs[1]? = some .none
theorem Tr.imp {G G':Addr→Prop}{H:Hp}{h:Heap}{e:Addr} (x:Tr G H h e) (f:∀ T,G T→G' T):Tr G' H h e :=
 let ⟨o,vs,a0,T,oT,ts,h1,h2,h3,h4,g,r⟩:=x
 ⟨o,vs,a0,T,oT,ts,h1,h2,h3,h4,f _ g,r⟩
noncomputable def CXM (P:Program) (w:World):CXT:=fun outer H s E u s'=>∃ e C H',u=.ref e∧s'.os=s.os∧AllBare s'.gens∧Un (frs outer) [] H H' s.heap s'.heap∧HOk P w H' s'.heap∧H' e=some (XO C e)∧Tr (fun T=>s.heap.get? T=none) H' s'.heap e∧E (.ref C) (some e) H'
theorem calmM {P:Program}{w:World}:Calm (CXM P w):=fun _ _ _ _ _ ⟨_,_,_,_,_,_,_,_,_,_,q⟩=>q
structure Mvd (l:List Env) (e T0:Addr) (cls a0 fl:Value) (h h':Heap):Prop where
 keep:∀ b o,h.get? b=some o→b≠e→b≠T0→b∉frs l→h'.get? b=some o
 slot:∀ b o,h.get? b=some o→b∈frs l→∃ sl,h'.get? b=some { o with slots:=sl }
 tr:∃ oe vs T oT ts,h'.get? e=some oe∧oe.cls=cls∧vs[0]? = some a0∧oe.data=.fields vs∧vs[1]? = some (.ref T)∧(T=T0∨h.get? T=none)∧T≠e∧h'.get? T=some oT∧oT.data=.fields ts∧ts[3]? = some fl
noncomputable abbrev bas (h:Heap) (l:List Env) (e T0:Addr):Heap:=PySem.W.hideAll h (e :: T0 :: frs l)
section
variable {base h h':Heap}{l:List Env}{e T0:Addr}{cls a0 fl:Value}
theorem moved (hl:h.FunFrames base l) (st:(bas h l e T0).StaysIn h') (ff:h'.FunFrames (bas h l e T0) l) (tr:h'.TracedAtW (bas h l e T0) e cls a0 fl) (up:h.UpToSlots h'):Mvd l e T0 cls a0 fl h h':=by
 refine ⟨fun b o q n1 n2 n3=>st b o (PySem.W.hideAll_get _ q ?_),fun b o q hb=>?_,?_⟩
 ·intro z;rcases List.mem_cons.mp z with z | z
  ·exact n1 z
  ·rcases List.mem_cons.mp z with z | z
   ·exact n2 z
   ·exact n3 z
 ·obtain ⟨_,o',ho,hn⟩:=hl.mem hb;rw [q] at ho;cases ho;exact up b o q hn
 ·obtain ⟨oe,vs,T,oT,ts,he,⟨hc,h0⟩,hd,h1,hn,hne,hT,hdT,h3⟩:=tr;refine ⟨oe,vs,T,oT,ts,he,hc,h0,hd,h1,?_,hne,hT,hdT,h3⟩;cases q:h.get? T with
  | none=>exact .inr rfl
  | some o =>
   refine .inl (Classical.byContradiction fun nT=>?_);have:(bas h l e T0).get? T=some o:=PySem.W.hideAll_get _ q fun z=>by
    rcases List.mem_cons.mp z with z | z
    ·exact hne z
    ·rcases List.mem_cons.mp z with z | z
     ·exact nT z
     ·obtain ⟨_,o',ho,hnf⟩:=ff.mem z;rw [hT] at ho;cases ho;exact hnf _ hdT
   rw [hn] at this;cases this
theorem fly_of (hl:h.FunFrames base l) {oe oT:Obj}{vs ts:Array Value} (he:h.get? e=some oe) (hd:oe.data=.fields vs) (h0:vs[0]? = some a0) (h1:vs[1]? = some (.ref T0)) (hne:T0≠e) (hT:h.get? T0=some oT) (hdT:oT.data=.fields ts) (h3:ts[3]? = some .none) :
  Heap.FlyingW (bas h l e T0) l e oe.cls a0 h :=
 ⟨fun b o q=>PySem.W.of_hideAll _ q,PySem.W.hideAll_none _ (.head _),PySem.W.funFrames_hide hl fun env he a ea=>.tail _ (.tail _ (List.mem_filterMap.mpr ⟨env,he,ea⟩)),oe,vs,T0,oT,ts,he,⟨rfl,h0⟩,hd,h1,PySem.W.hideAll_none _ (.tail _ (.head _)),hne,hT,hdT,h3⟩
end
section
variable {X:Cx}{pins:List (Addr×Obj)}{σ : St}{H:Hp}{s:Shared}{e C T0:Addr}{h':Heap}{cls a0 fl:Value}
theorem Mvd.ex (m:Mvd X.stack e T0 cls a0 fl s.heap h') (b:Addr) (o:Obj) (q:s.heap.get? b=some o) (h2:b≠T0):∃ o',h'.get? b=some o':=by
 obtain ⟨oe,_,_,_,_,he,_⟩:=m.tr;by_cases h1:b=e
 ·rw [h1];exact ⟨oe,he⟩
 ·by_cases h3:b∈frs X.stack
  ·obtain ⟨sl,z⟩:=m.slot b o q h3;exact ⟨_,z⟩
  ·exact ⟨o,m.keep b o q h1 h2 h3⟩
theorem Mvd.hok (m:Mvd X.stack e T0 (.ref C) a0 fl s.heap h') (I:Inv X pins σ H s) (he:H e=some (XO C e)) (hT:T0=e∨H T0=none):HOk X.prog X.w H h':=fun b u eb=>by
 by_cases h1:b=e
 ·subst h1;rw [he] at eb;cases eb;obtain ⟨oe,vs,_,_,_,h2,h3,_,h4,_⟩:=m.tr;exact xo_ok h2 h3 h4
 ·refine (I.hok b u eb).stay (fun c v hc q=>m.keep c v q ?_ ?_ ?_) (fun _ q=>q) fun _ _ q=>q
  ·rintro rfl;rcases hc with z | z
   ·exact h1 z.symm
   ·rw [he] at z;cases z
  ·rintro rfl;rcases hT with z | z
   ·subst z;rcases hc with z | z
    ·exact h1 z.symm
    ·rw [he] at z;cases z
   ·rcases hc with y | y
    ·rw [← y,z] at eb;cases eb
    ·rw [z] at y;cases y
  ·intro z;have:=I.stkFree c z;rcases hc with y | y
   ·rw [← y,this] at eb;cases eb
   ·rw [this] at y;cases y
theorem Inv.moved {t':Nat} (I:Inv X pins σ H s) (he:H e=some (XO C e)) (hT:H T0=none) (h0:X.s₀.heap.get? T0=none) (hp:∀ p∈X.pn++pins,p.1≠T0) {oT:Obj}{ts:Array Value} (eT:s.heap.get? T0=some oT) (dT:oT.data=.fields ts)
  (m:Mvd X.stack e T0 (.ref C) a0 fl s.heap h'):Inv X pins σ H { s with heap:=h',toks:=t' }:=by
 have nL:T0≠X.env.locals:=by
  rintro rfl;obtain ⟨_,⟨o,es,ep,ho,hd,_⟩,_⟩:=I.loc;rw [ho] at eT;cases eT;rw [hd] at dT;cases dT
 have nC:∀ x c,X.env.cells.lookup x=some c→c≠T0:=by
  rintro x c hc rfl;obtain ⟨v,o,ho,hd⟩:=I.cell x c hc;rw [ho] at eT;cases eT;rw [hd] at dT;cases dT
 have neS:∀ b,H b=none→b≠e:=fun b n z=>by rw [z,he] at n;cases n
 have sub:∀ b,b∈X.fs→b∈frs X.stack:=fun b hb=>by
  rcases I.ok.stk with z | ⟨z,hf⟩
  ·rw [z];exact hb
  ·rw [z];unfold frs;rw [Ya,hf];exact Zi _ hb
 refine I.step (g':=s.gens) (d':=s.drawn) (ch:=[T0]) (fun b hb=>?_) (fun b o n1 n2 n3 q n=>m.keep b o q (neS b n) (fun z=>n3 (by simp [z])) fun z=>(List.mem_cons.mp (I.stkSub b z)).elim n1 n2)
  (fun b o n1 n2 n3 q n=>m.slot b o q (sub b n2)) (fun b o _ _ n=>n) (fun b o n q=>m.ex b o q fun z=>n (by simp [z])) (fun _ _ q=>q) (fun _ _ _ q=>q) (fun b ps q=>⟨#[],by rw [q];simp⟩) (fun mm hm=>?_) (m.hok I he (.inr hT)) I.bare
 ·have:b=T0:=by simpa using hb
  subst this;exact ⟨.inr h0,nL,nC,hp⟩
 ·obtain ⟨o,es,ep,ho,hd,r⟩:=hm;by_cases z:X.env.locals∈frs X.stack
  ·obtain ⟨sl,q⟩:=m.slot _ _ ho z;exact ⟨_,es,ep,q,hd,r⟩
  ·exact ⟨o,es,ep,m.keep _ _ ho (neS _ I.free) (Ne.symm nL) z,hd,r⟩
theorem leave_cx {E:XK}{E':Value→Shared→Prop} (I:Inv X pins σ H s) (hx:X.ex=[]) (hs:X.stack=X.env :: X.outer) (hf:X.env.frame=some X.env.locals) (he:H e=some (XO C e)) (fl:Fresh s.heap e∨Tr (fun T=>X.s₀.heap.get? T=none) H s.heap e) (q:E (.ref C) (some e) H) :
  wpAny (model X.prog X.w) X.A (leaving X.env (.ref e)) (fun _ s''=>CXM X.prog X.w X.outer X.H₀ X.s₀ E (.ref e) s'') E' s:=by
 have hfr:X.A.frames=some (X.env :: X.outer):=by rw [← hs];exact I.ok.frames
 have hl:s.heap.FunFrames X.base (X.env :: X.outer):=by rw [← hs];exact I.stack
 obtain ⟨ox,vx,hox,hcx,hdx⟩:=xo_of I.hok he;have fin:∀ (T0:Addr) (h':Heap) (a0:Value),(T0=e∨(H T0=none∧X.s₀.heap.get? T0=none))→Mvd X.stack e T0 (.ref C) a0 .none s.heap h'→CXM X.prog X.w X.outer X.H₀ X.s₀ E (.ref e) { s with heap:=h' }:=by
  intro T0 h' a0 hT m;have hT1:T0=e∨H T0=none:=hT.imp_right fun z=>z.1;have back:∀ b o,X.s₀.heap.get? b=some o→∃ o',s.heap.get? b=some o':=fun b o z=>I.base.there b o z (by rw [hx];simp);have nT:∀ b o,X.s₀.heap.get? b=some o→H b=none→b≠T0:=fun b o z n y=>by
   rcases hT with w | ⟨_,w⟩
   ·rw [y,w,he] at n;cases n
   ·rw [y,w] at z;cases z
  have nE:∀ b,H b=none→b≠e:=fun b n z=>by rw [z,he] at n;cases n
  have nL:∀ b o,X.s₀.heap.get? b=some o→b≠X.env.locals:=fun b o z=>Ze (Z9 (Z7 z) I.ok.above);have inS:∀ b,b∈frs X.stack→b=X.env.locals∨b∈frs X.outer:=fun b z=>List.mem_cons.mp (I.stkSub b z);obtain ⟨oe,vs,T,oT,ts,h1,h2,h3,h4,h5,h6,h7,h8,h9,h10⟩:=m.tr;refine ⟨e,C,H,rfl,I.os,I.bare,⟨fun b o z n hb _=>?_,fun b o z n hb _=>?_,fun b o z n _=>I.base.free b o z n (by rw [hx];simp),fun b o z _=>?_,I.base.tups,I.base.frzs,I.base.tbls⟩,m.hok I he hT1,he,⟨oe,vs,a0,T,oT,ts,h1,h4,h3,h5,?_,?_,h8,h9,h10⟩,q⟩
  ·have n':=I.base.free b o z n (by rw [hx];simp);exact m.keep b o (I.base.keep b o z n hb (by rw [hx];simp)) (nE b n') (nT b o z n') fun y=>(inS b y).elim (nL b o z) hb
  ·obtain ⟨sl,z1⟩:=I.base.slot b o z n hb (by rw [hx];simp);obtain ⟨sl',z2⟩:=m.slot b _ z1 (by rw [hs];unfold frs;rw [Ya,hf];exact Zi _ hb);exact ⟨sl',z2⟩
  ·obtain ⟨o',z1⟩:=back b o z;by_cases y:b=T0
   ·rcases hT with w | ⟨_,w⟩
    ·rw [y,w];exact ⟨oe,h1⟩
    ·rw [y,w] at z;cases z
   ·exact m.ex b o' z1 y
  ·show X.s₀.heap.get? T=none;rcases h6 with z | z
   ·rcases hT with y | ⟨_,y⟩
    ·exact absurd (z.trans y) h7
    ·rw [z];exact y
   ·cases y:X.s₀.heap.get? T with
    | none=>rfl
    | some o =>
     obtain ⟨o',y1⟩:=back T o y;rw [z] at y1;cases y1
  ·rcases h6 with z | z
   ·rcases hT with y | ⟨y,_⟩
    ·exact absurd (z.trans y) h7
    ·rw [z];exact y
   ·exact I.hok.noth z
 rcases fl with ⟨oe,vs,a0,h1,h2,h3,h4⟩ | ⟨oe,vs,a0,T0,oT,ts,h1,h2,h3,h4,g,n,h5,h6,h7⟩
 ·rw [h1] at hox;cases hox;refine wpAny_leaving_firstW (base:=bas s.heap (X.env :: X.outer) e e) (a0:=a0) hfr (PySem.W.funFrames_hide hl fun env he a ea=>.tail _ (.tail _ (List.mem_filterMap.mpr ⟨env,he,ea⟩))) hf h1 (fun b o z=>PySem.W.of_hideAll _ z) (PySem.W.hideAll_none _ (.head _)) h2 h4 h3 fun h' hL=>?_;obtain ⟨k1,k2,k3,k4⟩:=hL;rw [hcx] at k3;refine fin e h' a0 (.inl rfl) ?_;rw [hs];exact L2.moved hl k1 k2 k3 k4
 ·rw [h1] at hox;cases hox;have hne:T0≠e:=fun z=>by rw [z,he] at n;cases n
  have F:=fly_of hl h1 h2 h3 h4 hne h5 h6 h7;rw [hcx] at F;refine wpAny_leaving_nextW hfr F.2.2.1 hf F.2.2.2 F.1 F.2.1 fun h' hL=>?_;obtain ⟨k1,k2,k3,k4⟩:=hL;have m:=L2.moved hl k1 k2 k3 k4;exact fin T0 h' a0 (.inr ⟨n,g⟩) (by rw [hs];exact m)
end
end L2
namespace L2
open PySem PySem.Spec PyProof.Rows
theorem exc_obj {K:PySem.W.Frag}{h:Heap}{C:Addr}{bmB:List Value}{newId:String} (X:K.In h) (q:PySem.W.excIn K C bmB newId=true) :
  ∃ bm N nm q bs hdct sn sub ab col dd k0 k1 k2 k3 k5 mN,h.get? C=some (excClassObj nm q C N bs bm hdct sn sub ab col dd k0 k1 k2 k3 k5 newId)∧h.Ns N mN∧mN "__init__" = none∧OwnTail h bmB bm:=by
 unfold PySem.W.excIn at q;split at q
 ·rename_i dd cd sl ho
  split at q
  ·rename_i C' bm k0 k1 k2 k3 n k5 hm hs
   simp only [Y0,beq_iff_eq,Bool.not_eq_true'] at q;obtain ⟨⟨⟨⟨⟨rfl,rfl⟩,hdel⟩,ht⟩,hok⟩,hni⟩:=q;obtain ⟨nm,bs,mro,ns,qn,hd,sn,sub,ab,col,del⟩:=cd;dsimp only at hm hdel hok hni;subst hm hdel;have hsl:sl = #[k0,k1,k2,k3,some (.builtin n),k5]:=by
    obtain ⟨l⟩:=sl;simp only at hs;rw [hs]
   subst hsl;exact ⟨bm,ns,nm,qn,bs,hd,sn,sub,ab,col,dd,k0,k1,k2,k3,k5,_,X _ _ ho,.of_isNs (PySem.W.isNs_of_in X hok),PySem.W.nsMap_none_of_in X hok hni,PySem.W.tail_of_in X ht⟩
  ·cases q
 ·cases q
section
variable {X:Cx}{pins:List (Addr×Obj)}{σ : St}{H H':Hp}{s:Shared}{e C:Addr}{h h':Heap}{o:HO}
theorem Un.born {fs ex:List Addr} (k:∀ b u,h.get? b=some u→h'.get? b=some u) (hp:h.get? e=none) (hn:H e=none):Un fs ex H (upd H e o) h h' where
 keep:=fun b u q _ _ _=>k b u q
 slot:=fun b u q _ _ _=>⟨u.slots,k b u q⟩
 free:=fun b u q n _=>by rw [zA5 (fun z=>by rw [z,hp] at q;cases q)];exact n
 there:=fun b u q _=>⟨u,k b u q⟩
 tups:=fun b xs q=>by rw [zA5 (zA3 q hn)];exact q
 frzs:=fun b u xs q=>by rw [zA5 (zA3 q hn)];exact q
 tbls:=fun b ps q=>⟨#[],by rw [zA5 (zA3 q hn),q];simp⟩
theorem HOk.born {P:Program}{w:World} (x:HOk P w H h) (k:∀ b u,h.get? b=some u→h'.get? b=some u) (hp:h.get? e=none) (new:ObjOk P w (upd H e o) h' e o):HOk P w (upd H e o) h':=fun b u q=>by
 have hn:=x.noth hp;by_cases hb:b=e
 ·subst hb;rw [zA1] at q;cases q;exact new
 ·rw [zA5 hb] at q;exact (x b u q).stay (fun c v _ q=>k c v q) (fun c q=>by rw [zA5 (zA3 q hn)];exact q) fun c xs q=>by rw [zA5 (zA3 q hn)];exact q
theorem Inv.born {t':Nat} (I:Inv X pins σ H s) (k:∀ b u,s.heap.get? b=some u→h'.get? b=some u) (hp:s.heap.get? e=none) (new:ObjOk X.prog X.w (upd H e o) h' e o):Inv X pins σ (upd H e o) { s with heap:=h',toks:=t' } :=
 I.un (Un.born k hp (I.hok.noth hp)) (I.hok.born k hp new)
theorem Inv.cx {s':Shared}{E:XK}{u:Value} (I:Inv X pins σ H s) (c:CXM X.prog X.w X.stack H s E u s') :
  ∃ e C H',u=.ref e∧Inv X pins σ H' s'∧H' e=some (XO C e)∧Tr (fun T=>s.heap.get? T=none) H' s'.heap e∧E (.ref C) (some e) H':=by
 obtain ⟨e,C,H',rfl,os,bare,un,hok,he,tr,q⟩:=c;exact ⟨e,C,H',rfl,I.call' (ch:=[]) os un hok bare (fun b z=>absurd z (by simp)),he,tr,q⟩
theorem Inv.back (I:Inv X pins σ H s) (hx:X.ex=[]) {T:Addr} (n:s.heap.get? T=none):X.s₀.heap.get? T=none:=by
 cases y:X.s₀.heap.get? T with
 | none=>rfl
 | some o =>
  obtain ⟨o',y1⟩:=I.base.there T o y (by rw [hx];simp);rw [n] at y1;cases y1
end
section
variable {P:Program}{w:World}{K:PySem.W.Frag}{mg:Str→Option Value}{base:Heap}{N:List Str}{qual:Str}{scope:Scope}{f:Addr}{cd:Value}{A:Around}{outer:List Env}{s:Shared}{H:Hp}{E:XK}
noncomputable abbrev cxM (P:Program) (w:World) (K:PySem.W.Frag) (mg:Str→Option Value) (base:Heap) (N:List Str) (qual:Str) (scope:Scope) (f:Addr) (cd:Value) (A:Around) (outer:List Env) (s:Shared) (H:Hp) (E:XK):Cx:=cxOf (CXM P w) P w K mg base N qual scope f cd A outer s H E
theorem xe_new {pins:List (Addr×Obj)}{σ : St}{H':Hp}{s':Shared}{e C:Addr} (I:Inv (cxM P w K mg base N qual scope f cd A outer s H E) pins σ H' s') (he:H' e=some (XO C e)) (fl:Fresh s'.heap e∨Tr (fun T=>s.heap.get? T=none) H' s'.heap e) (q:E (.ref C) (some e) H') :
  (cxM P w K mg base N qual scope f cd A outer s H E).xe (.ref e) s':=leave_cx I rfl rfl rfl he fl q
theorem pass_on:Passes (CXM P w) (cxM P w K mg base N qual scope f cd A outer s H E) (fun _=>E):=fun pins σ H1 s1 u s2 I c=>by
 obtain ⟨e,C,H',rfl,I',he,tr,q⟩:=I.cx c;exact xe_new I' he (.inr (tr.imp fun T n=>I.back rfl n)) q
end
section
variable {X:Cx}{x:Str}{np cpos pos:Pos}{a:Expr}{as:List Expr}{t:TA}{C:Addr}{W:St→Addr→Hp→Prop}
theorem zE4 (hc:PySem.W.excIn X.K C [.type "ValueError",.type "Exception",.type "BaseException",.type "object"] "ValueError.__new__" = true) (hg:Gl X x) (hm:X.mg x=some (.ref C)) (hcm:X.calm=true) (ha:PA X (a :: as) t)
  (hx:∀ pins σ H s e,Inv X pins σ H s→H e=some (XO C e)→Fresh s.heap e→W σ e H→X.xe (.ref e) s) (hdb:(x == ("__debug__" : Str))=false:=by decide)
  (he:starEach (a :: as) X.env=(false,eval a X.env) :: starEach as X.env:=by rfl) (hpl:(backTo cpos (starEach as X.env)).any (·.1)=false:=by rfl) :
  PS X (.Raise (some (.Call (.Name x np) (a :: as) [] cpos)) none pos) (fun _ σ H=>t σ H fun vs H1=>vs.length≤sizeLine∧∀ e,H1 e=none→W σ e (upd H1 e (XO C e))):=by
 intro pins s σ H D I h;obtain ⟨bm,N,nm,q,bs,hdct,sn,sub,ab,col,dd,k0,k1,k2,k3,k5,mN,hC,hN,hni,T⟩:=exc_obj I.ok.mod.kin hc;have hA:=ha cpos pins s σ H _ I h;refine wpAny_Raise_call_subU (C:=C) (nm:=nm) (q:=q) (N:=N) (bs:=bs) (bm:=bm) (hdct:=hdct) (sn:=sn) (sub:=sub) (ab:=ab) (col:=col) (dd:=dd) (k0:=k0) (k1:=k1) (k2:=k2) (k3:=k3) (k5:=k5)
  PySem.F.excBase_ValueError PySem.F.excBase_ValueError.hasB PySem.F.excBase_ValueError (mN:=mN) (T.hasType PySem.F.excBase_ValueError.hasBase) (I.ok.hd hcm) (by rw [he];show (false || (backTo cpos (starEach as X.env)).any (·.1))=false;rw [hpl];rfl) hni (zCt I hg hm ⟨rfl,?_⟩ hdb)
 rw [he] at hA ⊢;refine Calls.evalArgs_plain (thn hA fun us s2 ⟨vs,H2,I2,r,hz,k⟩=>⟨rfl,by rw [← r.length];exact hz,I2.bk _ _ hC,hN.keeps I2.bk,T.keeps I2.bk,fun h' e hm=>?_⟩);obtain ⟨tt,h1,h2,h3⟩:=hm.there;exact hx pins σ _ { s2 with heap:=h' } e (I2.born (t':=s2.toks) (o:=XO C e) hm.keeps hm.new (xo_ok h1 rfl rfl)) zA1 ⟨_,_,_,h1,rfl,rfl,rfl⟩ (k e (I2.hok.noth hm.new))
end
end L2
namespace L2
open PySem PySem.Spec PyProof.Rows
noncomputable abbrev TW:=St→Addr→Addr→Hp→Prop
noncomputable def Cx.tri (X:Cx) (pins:List (Addr×Obj)) (W:TW):Cx:={ X with
 pn:=X.pn++pins
 xe:=fun u s'=>∃ e C σ' H',u=.ref e∧Inv X pins σ' H' s'∧H' e=some (XO C e)∧Tr (fun T=>X.s₀.heap.get? T=none∧∀ p∈X.pn++pins,p.1≠T) H' s'.heap e∧W σ' e C H' }
noncomputable def Cx.hnd (X:Cx) (e:Addr):Cx:={ X with
 A:=X.A.mark (some (.ref e))
 calm:=false
 xe:=fun _ _=>False }
section
variable {X:Cx}{pins pins':List (Addr×Obj)}{σ : St}{H:Hp}{s:Shared}{W:TW}{e:Addr}
theorem Cx.Ok.tri (ok:X.Ok):(X.tri pins W).Ok:=⟨ok.mod,ok.kind,ok.glob,ok.blt,ok.above,ok.inj,ok.has,ok.cab,ok.hd,ok.frames,ok.stk,ok.exf,ok.bs,ok.bsz,ok.noex,ok.exfs,ok.funs,ok.frf⟩
theorem Cx.Ok.untri (ok:(X.tri pins W).Ok):X.Ok:=⟨ok.mod,ok.kind,ok.glob,ok.blt,ok.above,ok.inj,ok.has,ok.cab,ok.hd,ok.frames,ok.stk,ok.exf,ok.bs,ok.bsz,ok.noex,ok.exfs,ok.funs,ok.frf⟩
theorem Cx.Ok.hnd (ok:X.Ok):(X.hnd e).Ok:=⟨ok.mod,ok.kind,ok.glob,ok.blt,ok.above,ok.inj,ok.has,ok.cab,(fun z=>Bool.noConfusion (show false=true from z)),ok.frames,ok.stk,ok.exf,ok.bs,ok.bsz,ok.noex,ok.exfs,ok.funs,ok.frf⟩
theorem Inv.tri (I:Inv X pins σ H s):Inv (X.tri pins W) [] σ H s:=⟨I.ok.tri,I.os,I.bare,I.base,I.loc,I.cell,I.free,I.freeC,fun p hp=>I.pin p (by simpa [Cx.tri] using hp),I.hok,I.len⟩
theorem Inv.untri (I:Inv (X.tri pins W) pins' σ H s):Inv X pins σ H s:=⟨I.ok.untri,I.os,I.bare,I.base,I.loc,I.cell,I.free,I.freeC,fun p hp=>I.pin p (Zu _ hp),I.hok,I.len⟩
theorem Inv.hnd (I:Inv X pins σ H s):Inv (X.hnd e) pins σ H s:=⟨I.ok.hnd,I.os,I.bare,I.base,I.loc,I.cell,I.free,I.freeC,I.pin,I.hok,I.len⟩
theorem Inv.unhnd (ok:X.Ok) (I:Inv (X.hnd e) pins σ H s):Inv X pins σ H s:=⟨ok,I.os,I.bare,I.base,I.loc,I.cell,I.free,I.freeC,I.pin,I.hok,I.len⟩
theorem SP.untri {D:Ends}{f:Flow}{s':Shared} (h:SP (X.tri pins W) pins' D f s'):SP X pins D f s':=by
 cases f with
 | next=>obtain ⟨σ',H',I,q⟩:=h;exact ⟨σ',H',I.untri,q⟩
 | brk=>obtain ⟨σ',H',I,q⟩:=h;exact ⟨σ',H',I.untri,q⟩
 | cont=>obtain ⟨σ',H',I,q⟩:=h;exact ⟨σ',H',I.untri,q⟩
 | ret u=>obtain ⟨v,σ',H',I,r,q⟩:=h;exact ⟨v,σ',H',I.untri,r,q⟩
theorem pass_try (hx:X.ex=[]):Passes (CXM X.prog X.w) (X.tri pins W) (fun σ cls eo H'=>∃ e C,cls=.ref C∧eo=some e∧W σ e C H'):=fun pins' σ H1 s1 u s2 I c=>by
 obtain ⟨e,C,H',rfl,I',he,tr,e',C',h1,h2,q⟩:=I.cx c;cases h1;cases h2
 exact ⟨e,C,σ,H',rfl,I'.untri,he,tr.imp fun T n=>⟨I.back hx n,fun p hp z=>by
  have:=(I.pin p (Zu _ hp)).1;rw [z,n] at this
  cases this⟩,q⟩
end
noncomputable def Ends.but (D:Ends) (i:Nat):Ends:={ nx:=fun σ H=>D.nx (σ.set i none) H,rt:=D.rt,bk:=fun σ H=>D.bk (σ.set i none) H,ct:=fun σ H=>D.ct (σ.set i none) H }
section
variable {X:Cx}{x n:Str}{np hpos pos:Pos}{body suite:List Stmt}{b₀ : Stmt}{i:Nat}{B:Addr}{tb:TW→TS}{th:Addr→TS}
end
end L2
namespace L2
open PySem PySem.Spec PyProof.Rows PySem.W
section
variable {prog:Program}{w:World}{A:Around}{E:Value→Shared→Prop}{h:Heap}{g:Array GenState}{d:Drawn}{t:Nat}{os:OsState}{a:Addr}{o:Obj}
 {nm q:Str}{C N:Addr}{bs bm:List Value}{hdct:Bool}{sn:List Str}{sub:List Value}{ab:Bool}{col:Option Bool}{dd:Option Addr}{k0 k1 k2 k3 k5:Option Value}{newId:String}
end
section
variable {prog:Program}{w:World}{A:Around}{E:Value→Shared→Prop}{s:Shared}{K:Frag}{x C D:Addr}{ox:Obj}
end
section
variable {X:Cx}
end
end L2
namespace L2
open PySem PySem.Spec PyProof.Rows
theorem Fun.okX {P:Program}{w:World}{K:PySem.W.Frag}{mg:Str→Option Value}{base:Heap}{CX:CXT}{x qual:Str}{st:Stmt}{f:Addr}{fd:FuncData}{N ps:List Str}{k:Nat}{sp:Sp} (F:Fun K x qual st f fd) (S:FnScope N ps (defScope st)) (len:∀ vs H Q E,sp vs H Q E→vs.length=ps.length)
  (hbody:∀ (cdv:Value) (A:Around) (outer:List Env) (s:Shared) (H:Hp) (vs:List V) (Q:VK) (E:XK),Room k (A.deeper (envOfC qual (defScope st) s.heap.objs.size f cdv))→sp vs H Q E →
   ∃ t,PSs (cxOf CX P w K mg base N qual (defScope st) f cdv A outer s H E) (defBody st) t∧t { nx:=fun _ H'=>Q .non H',rt:=Q } (start N vs) H):FnOk P w K mg base CX (k + 1) f fd ps sp:=by
 obtain ⟨oc,od,kV,doc,pm,an,cdv,ct,osl,rfl,lk,hcd⟩:=F.ex;exact fn_of lk hcd S len fun A outer s H vs Q E hr hsp=>hbody cdv A outer s H vs Q E hr hsp
namespace W
noncomputable def zE4:=by have h:=@L2.zE4;rw [ePS,ePA] at h;exact @h
noncomputable def Fun.okX:=by have h:=@L2.Fun.okX;rw [ePSs] at h;exact @h
end W
end L2
namespace L2
open PySem PySem.Spec PyProof.Rows
noncomputable def Cx.re (X:Cx) (N':List Str):Cx:={ X with N:=N' }
noncomputable def hide:List Nat→St→St
 | [],σ=>σ
 | i :: is,σ=>hide is (σ.set i none)
theorem zEc:∀ (is:List Nat) (σ : St),(hide is σ).length = σ.length
 | [],_=>rfl
 | i :: is,σ=>by rw [hide,zEc is,List.length_set]
theorem zEd:∀ (is:List Nat) (σ : St) (i:Nat) (v:V),(hide is σ)[i]? = some (some v)→i∉is∧σ[i]? = some (some v)
 | [],_,_,_,h=>⟨by simp,h⟩
 | j :: is,σ,i,v,h=>by
  obtain ⟨h1,h2⟩:=zEd is _ i v h;have ne:j≠i:=by
   rintro rfl;rw [List.getElem?_set] at h2;simp only [if_true] at h2;split at h2 <;> cases h2
  rw [List.getElem?_set_ne ne] at h2;exact ⟨by simp [h1,Ne.symm ne],h2⟩
noncomputable def Ends.hid (D:Ends) (is:List Nat):Ends:={ nx:=fun σ H=>D.nx (hide is σ) H,rt:=D.rt,bk:=fun σ H=>D.bk (hide is σ) H,ct:=fun σ H=>D.ct (hide is σ) H }
noncomputable def sameN (N N':List Str) (is:List Nat):Prop:=N'.length=N.length∧∀ i,i < N.length→i∉is→N'[i]? = N[i]?
section
variable {X:Cx}{pins:List (Addr×Obj)}{σ : St}{H:Hp}{s:Shared}{N':List Str}{is:List Nat}{st:Stmt}{t:TS}
theorem Inv.re (h:sameN X.N N' is) (I:Inv X pins σ H s):Inv (X.re N') pins (hide is σ) H s :=
 ⟨⟨I.ok.mod,I.ok.kind,I.ok.glob,I.ok.blt,I.ok.above,I.ok.inj,I.ok.has,I.ok.cab,I.ok.hd,I.ok.frames,I.ok.stk,I.ok.exf,I.ok.bs,I.ok.bsz,I.ok.noex,I.ok.exfs,I.ok.funs,I.ok.frf⟩,I.os,I.bare,I.base,by
  obtain ⟨m,hn,hl⟩:=I.loc;refine ⟨m,hn,fun i x v e1 e2 e3=>?_⟩;obtain ⟨n,e2⟩:=zEd is σ i v e2;have il:i < X.N.length:=by rw [← h.1];exact (List.getElem?_eq_some_iff.mp e1).1
  exact hl i x v ((h.2 i il n).symm.trans e1) e2 e3,I.cell,I.free,I.freeC,I.pin,I.hok,by rw [zEc,I.len];exact h.1.symm⟩
theorem Inv.unre (ok:X.Ok) (h:sameN X.N N' is) (I:Inv (X.re N') pins σ H s):Inv X pins (hide is σ) H s :=
 ⟨ok,I.os,I.bare,I.base,by
  obtain ⟨m,hn,hl⟩:=I.loc;refine ⟨m,hn,fun i x v e1 e2 e3=>?_⟩;obtain ⟨n,e2⟩:=zEd is σ i v e2;have il:i < X.N.length:=(List.getElem?_eq_some_iff.mp e1).1
  exact hl i x v ((h.2 i il n).trans e1) e2 e3,I.cell,I.free,I.freeC,I.pin,I.hok,by rw [zEc,I.len];exact h.1⟩
theorem ps_re (N':List Str) (is:List Nat) (h:sameN X.N N' is) (hs:PS (X.re N') st t):PS X st (fun D σ H=>t (D.hid is) (hide is σ) H):=by
 intro pins s σ H D I hw;refine wpAny_mono (hs pins s (hide is σ) H (D.hid is) (I.re h) hw) (fun f s1 h1=>?_) (fun _ _ e=>e);cases f with
 | next=>obtain ⟨σ',H',J,q⟩:=h1;exact ⟨_,_,J.unre I.ok h,q⟩
 | brk=>obtain ⟨σ',H',J,q⟩:=h1;exact ⟨_,_,J.unre I.ok h,q⟩
 | cont=>obtain ⟨σ',H',J,q⟩:=h1;exact ⟨_,_,J.unre I.ok h,q⟩
 | ret u=>obtain ⟨v,σ',H',J,r,q⟩:=h1;exact ⟨v,_,_,J.unre I.ok h,r,q⟩
end
theorem FnOk.calm {P:Program}{w:World}{K:PySem.W.Frag}{mg:Str→Option Value}{base:Heap}{CX:CXT}{k:Nat}{f:Addr}{fd:FuncData}{ps:List Str}{sp:Sp} (hC:Calm CX) (F:FnOk P w K mg base CX k f fd ps sp):FnOk P w K mg base CX0 k f fd ps (fun vs H Q E=>sp vs H Q fun _ _ _=>False) :=
 ⟨fun vs H Q E h=>F.len vs H Q _ h,fun A outer s H args us vs Q E hr he hb hv h=>by
  have:=F.run A outer s H args us vs Q (fun _ _ _=>False) hr he hb hv h;refine codeAny_mono this fun r s' h'=>?_;cases r with
  | ok c =>
   cases c with
   | ret u=>exact h'
   | _=>exact h'
  | error e=>exact hC _ _ _ _ _ h'⟩
namespace W
noncomputable def ps_re:=by have h:=@L2.ps_re;rw [ePS] at h;exact @h
end W
end L2
namespace L2
open PySem PySem.Spec PyProof.Rows
structure TabM (H:Hp) (P:Addr) (q:Str):Prop where
 ex:∃ ps:Array Value,H P=some (.tbl ps)∧TriplesOk ps.toList∧∀ (pos:Pos) (v:Value),codeAmong pos ps.toList=some v→∃ a,v=.ref a∧H a=some (CodeO a q)
theorem TabM.ne {H:Hp}{P:Addr}{q:Str} (T:TabM H P q) {a:Addr}{o:HO} (e:H a=some o) (h:∀ ps,o≠.tbl ps):a≠P:=by
 rintro rfl;obtain ⟨ps,z,_⟩:=T.ex;rw [e] at z;exact h _ (Zg z)
theorem TabM.but {H H':Hp}{P P':Addr}{q:Str} (T:TabM H P q) (hn:P≠P') (h':∃ ps,H P'=some (.tbl ps)) (k:GrownBut P' H H'):TabM H' P q:=by
 obtain ⟨ps,z,t,c⟩:=T.ex;refine ⟨ps,k _ _ z hn,t,fun pos v e=>?_⟩;obtain ⟨a,e1,e2⟩:=c pos v e;refine ⟨a,e1,k _ _ e2 ?_⟩;rintro rfl;obtain ⟨ps',h'⟩:=h';rw [e2] at h';cases h'
theorem TabM.upd {H:Hp}{P:Addr}{q:Str}{p:Addr}{u o:HO} (T:TabM H P q) (hp:H p=some u) (h1:∀ ps,u≠.tbl ps) (h2:∀ f,u≠.ext f):TabM (L2.upd H p o) P q:=by
 have n1:=T.ne hp h1;obtain ⟨ps,z,t,c⟩:=T.ex;refine ⟨ps,by rw [zA5 (Ne.symm n1)];exact z,t,fun pos v e=>?_⟩;obtain ⟨a,e1,e2⟩:=c pos v e;refine ⟨a,e1,?_⟩;rw [zA5 ?_]
 ·exact e2
 ·rintro rfl;rw [hp] at e2;exact h2 _ (Zg e2)
section
variable {f c':Addr}{q:Str}{params:Arguments}{body:Expr}{scope:Scope}{cl:List (Str×Addr)}{N:List Str}{ws:List V}{h h':Heap}{H:Hp}
end
section
variable {CX:CXT}{P:Program}{w:World}{K:PySem.W.Frag}{mg:Str→Option Value}{base:Heap}{k:Nat}{f c':Addr}{q:Str}{params:Arguments}{body:Expr}{scope:Scope}{cl:List (Str×Addr)}{N:List Str}{ws:List V}
end
section
variable {X:Cx}{CX:CXT}{k:Nat}{f c':Addr}{q x:Str}{params:Arguments}{body:Expr}{scope:Scope}{cl:List (Str×Addr)}{N:List Str}{ws:List V}{sp:Hp→VK→XK→Prop}{E:St→XK}{i:Nat}{p pos:Pos}
end
section
variable {X:Cx}{pins:List (Addr×Obj)}{σ : St}{H:Hp}{s:Shared}{A:Around}{E:Value→Shared→Prop}
end
section
variable {X:Cx}{CX:CXT}{k:Nat}{fw c P:Addr}{fd:FuncData}{q x y:Str}{params:Arguments}{body:Expr}{scope:Scope}{N:List Str}{ix:List Nat}{sp:Addr→Addr→List (Str×Addr)→List V→Sp}{E:St→XK}{p lpos pos:Pos}
end
theorem FunL.okX {P:Program}{w:World}{K:PySem.W.Frag}{mg:Str→Option Value}{base:Heap}{CX:CXT}{x qual:Str}{st:Stmt}{f c:Addr}{fd:FuncData}{N ps:List Str}{k:Nat}{sp:Sp} (F:FunL K x qual st f fd c) (S:FnScope N ps (defScope st)) (len:∀ vs H Q E,sp vs H Q E→vs.length=ps.length)
  (hbody:∀ (A:Around) (outer:List Env) (s:Shared) (H:Hp) (vs:List V) (Q:VK) (E:XK),Room k (A.deeper (envOfC qual (defScope st) s.heap.objs.size f (.ref c)))→sp vs H Q E →
   ∃ t,PSs (cxOf CX P w K mg base N qual (defScope st) f (.ref c) A outer s H E) (defBody st) t∧t { nx:=fun _ H'=>Q .non H',rt:=Q } (start N vs) H):FnOk P w K mg base CX (k + 1) f fd ps sp:=by
 obtain ⟨oc,od,kV,doc,pm,an,ct,osl,rfl,lk,hcd⟩:=F.ex;exact fn_of lk hcd S len fun A outer s H vs Q E hr hsp=>hbody A outer s H vs Q E hr hsp
namespace W
noncomputable def FunL.okX:=by have h:=@L2.FunL.okX;rw [ePSs] at h;exact @h
end W
end L2
namespace PySem.SeqAt
open AutoSeq1 (wpAny_loadPart')
open MeetsSeq
section
variable {A:Around}{s:Shared}
end
end PySem.SeqAt
namespace L2
open PySem PySem.Spec PyProof.Rows
section
variable {X:Cx}{pins:List (Addr×Obj)}{σ : St}{H:Hp}{s:Shared}
end
end L2
namespace L2
open PySem PySem.Spec PyProof.Rows
noncomputable def OnlyTs (ts:List Addr) (H:Hp):Prop:=(∀ T∈ts,H T=some (.tbl #[]))∧∀ b,b∉ts→H b=none∨∃ o xs,H b=some (.frz o (.lst xs))
theorem law_callTs {P:Program}{w:World}{K:PySem.W.Frag}{mg mb:Str→Option Value}{CX:CXT}{k:Nat}{fa a:Addr}{ts:List Addr}{fd:FuncData}{x:Str}{sp:Sp}{s₁ : Shared}{vs:List Value}{ns:List Int}
  (KX:K.In s₁.heap) (hns:s₁.heap.Ns mainGlobals mg) (hb:s₁.heap.Ns builtinsNs mb) (hbb:∀ x:Str,x≠"__name__"→mb x=bootBuiltins x) (hlim:s₁.heap.NoLimit) (hg:s₁.gens = #[]) (hBl:BltAt mg s₁.heap) (hT:∀ T∈ts,s₁.heap.get? T=some (PySem.W.tabObj #[])) (hKT:∀ T∈ts,K.lookup T=none) (hCd:∀ T∈ts,∃ c,PySem.W.codeHdIn K c T=true)
  (ha:s₁.heap.get? a=some { cls:=.type "list",data:=.seq vs.toArray }) (hi:IntsAre vs ns) (hl:ns.length≤sizeLine) (hr:Room k callerA)
  (F:∀ base:Heap,K.In base→base.Ns mainGlobals mg→BltAt mg base→FnOk P w K mg base CX k fa fd [x] sp) (hbind:∀ (s:Shared) (u:Value),BindsTo s fd ⟨[u],[]⟩ [(x,u)])
  (hsp:∀ H:Hp,OnlyTs ts H→SqL K H a (ns.map V.int)→sp [.ref a] H (fun v _=>v=.bl true) fun _ _ _=>False)
  (hCX:∀ H e s',CX [] H s₁ (fun _ _ _=>False) e s'→False) :
  codeAny (model P w) callerA (.call (.ref fa) ⟨[.ref a],[]⟩) (fun r s'=>r=.ok (.ret (.bool true))∧OldK s₁.heap s'.heap∧s'.os=s₁.os∧AllBare s'.gens) s₁:=by
 have rv:=vals_ints hi;have lenV:=hi.length;have aT:a∉ts:=fun h=>by
  have:=hT a h;rw [ha] at this;cases this
 have core:∀ H:Hp,OnlyTs ts H→SqL K H a (ns.map V.int)→HOk P w H s₁.heap→(∀ b,H b≠none→b=a∨b∈ts)→(H a≠none→K.lookup a=none) →
   codeAny (model P w) callerA (.call (.ref fa) ⟨[.ref a],[]⟩) (fun r s'=>r=.ok (.ret (.bool true))∧OldK s₁.heap s'.heap∧s'.os=s₁.os∧AllBare s'.gens) s₁:=by
  intro H hO hS hok hA hK;have base_of:∀ {b:Addr}{o:Obj},s₁.heap.get? b=some o→H b=none→(hidT s₁.heap H).get? b=some o:=fun e n=>hidT_get e n;have noA:∀ {b:Addr}{o:Obj}{es:Array DictEntry}{ep:Nat},s₁.heap.get? b=some o→o.data=.dict es ep→H b=none:=fun {b o es ep} e d=>by
   cases q:H b with
   | none=>rfl
   | some u =>
    rcases hA b (by rw [q];simp) with e' | e'
    ·subst e';rw [ha] at e;cases e;have d':Data.seq vs.toArray _=Data.dict es ep:=d;cases d'
    ·rw [hT b e'] at e;cases e;cases d
  have nsK:∀ {b:Addr}{m:Str→Option Value},s₁.heap.Ns b m→(hidT s₁.heap H).Ns b m:=fun {b m} ⟨o,es,ep,e,d,r⟩=>⟨o,es,ep,base_of e (noA e d),d,r⟩
  have hKb:K.In (hidT s₁.heap H):=fun b o e=>base_of (KX b o e) (by
   cases q:H b with
   | none=>rfl
   | some u =>
    rcases hA b (by rw [q];simp) with e' | e'
    ·subst e';rw [hK (by rw [q];simp)] at e;cases e
    ·rw [hKT b e'] at e;cases e)
  have hBl2:BltAt mg (hidT s₁.heap H):=by
   obtain ⟨bm,ob,e1,e2,e3,e4,e5,e6,e7⟩:=hBl;refine ⟨bm,ob,e1,e2,e3,base_of e4 ?_,e5,e6,e7⟩;cases q:H bm with
   | none=>rfl
   | some u =>
    rcases hA bm (by rw [q];simp) with e' | e'
    ·subst e';rw [ha] at e4;cases e4;exact absurd (show Value.type "list" = Value.type "module" from e5) (by decide)
    ·rw [hT bm e'] at e4;cases e4;exact absurd (show Value.none=Value.type "module" from e5) (by decide)
  have hM:Mod K mg (hidT s₁.heap H):=⟨hKb,nsK hns,⟨mb,nsK hb,hbb⟩,let ⟨mc,h1,h2⟩:=hlim;⟨mc,nsK h1,h2⟩⟩;have e0:Env0 P w K mg (hidT s₁.heap H) callerA [] s₁ H:=⟨rfl,hM,fun b o e=>of_hidT e,Nat.le_of_eq (hidT_size _ _),trivial,fun b hb=>absurd (show b∈([]:List Addr) from hb) (by simp),hok,.of_eq hg⟩;refine codeAny_mono ((F _ hKb (nsK hns) hBl2).run callerA [] s₁ H ⟨[.ref a],[]⟩ [.ref a] [.ref a] _ _ hr e0 (hbind s₁ (.ref a)) (.cons rfl .nil) (hsp H hO hS)) fun r s' h=>?_;cases r with
  | error e=>exact (hCX H e s' h).elim
  | ok fl =>
   cases fl with
   | next=>exact False.elim h
   | brk=>exact False.elim h
   | cont=>exact False.elim h
   | ret u =>
    obtain ⟨v,H',os,bare,un,hok',r',q⟩:=h;have q':v=.bl true:=q;subst q';obtain rfl:u=Value.bool true:=r';have keep:∀ b o,b∉ts→s₁.heap.get? b=some o→s'.heap.get? b=some o:=fun b o nb e=>by
     cases q:H b with
     | none=>exact un.keep b o e q (by intro z;exact absurd (show b∈([]:List Addr) from z) (by simp)) (by simp)
     | some u =>
      rcases hO.2 b nb with z | ⟨ob,xs,z⟩
      ·rw [q] at z;cases z
      ·have z2:=un.frzs b ob _ z;obtain ⟨e1,_⟩:=hok b _ z;obtain ⟨e2,_⟩:=hok' b _ z2;rw [e] at e1;cases e1;exact e2
    have gT:∀ T∈ts,∃ more,s'.heap.get? T=some { cls:=.none,data:=.fields (#[]++more) }:=fun T hm=>by
     obtain ⟨more,eT⟩:=un.tbls T _ (hO.1 T hm);exact ⟨more,hok' T _ eT⟩
    refine ⟨rfl,⟨fun b o e=>?_,fun b o e=>?_⟩,os,bare⟩
    ·by_cases nb:b∈ts
     ·obtain ⟨more,g⟩:=gT b nb;rw [hT b nb] at e;cases e;obtain ⟨c,hc⟩:=hCd b nb;obtain ⟨oc,vsc,_,_,_,_,_,_,_,g1,g2,g3,g4,_⟩:=PySem.W.codeHd_of_K KX hc;exact .inr (.inl ⟨⟨c,oc,vsc,g1,g2,g3,g4⟩,rfl,#[],more,rfl,g⟩)
     ·exact .inl (keep b o nb e)
    ·by_cases nb:b∈ts
     ·obtain ⟨more,g⟩:=gT b nb;exact ⟨_,g⟩
     ·exact ⟨o,keep b o nb e⟩
 cases hk:K.lookup a with
 | some o =>
  have e:=KX a o hk;rw [ha] at e;cases e;refine core (fun b=>if b∈ts then some (.tbl #[]) else none) ⟨fun T hm=>if_pos hm,fun b nb=>.inl (if_neg nb)⟩ (.inr ⟨_,vs.toArray,_,hk,rfl,rfl,rfl,by rw [Zf,lenV];exact hl,by simpa using rv⟩) (fun b u z=>?_) (fun b z=>?_) fun z=>absurd (if_neg aT) z
  ·by_cases nb:b∈ts
   ·have z':=(if_pos nb).symm.trans z;cases z';exact hT b nb
   ·have z':=(if_neg nb).symm.trans z;cases z'
  ·by_cases nb:b∈ts
   ·exact .inr nb
   ·exact absurd (if_neg nb) z
 | none =>
  refine core (fun b=>if b∈ts then some (.tbl #[]) else if b=a then some (.frz { cls:=.type "list",data:=.seq vs.toArray } (.lst (ns.map V.int))) else none) ⟨fun T hm=>if_pos hm,fun b nb=>?_⟩ (.inl (.inr ⟨{ cls:=.type "list",data:=.seq vs.toArray },?_⟩)) (fun b u z=>?_) (fun b z=>?_) fun _=>hk
  ·by_cases hb:b=a
   ·exact .inr ⟨_,_,(if_neg nb).trans (if_pos hb)⟩
   ·exact .inl ((if_neg nb).trans (if_neg hb))
  ·exact (if_neg aT).trans (if_pos rfl)
  ·by_cases nb:b∈ts
   ·have z':=(if_pos nb).symm.trans z;cases z';exact hT b nb
   ·have z':=(if_neg nb).symm.trans z;by_cases hb:b=a
    ·have z2:=(if_pos hb).symm.trans z';cases z2;subst hb;exact ⟨ha,by rw [Z0];exact hl,vs,_,rv,ha⟩
    ·have z2:=(if_neg hb).symm.trans z';cases z2
  ·by_cases nb:b∈ts
   ·exact .inr nb
   ·by_cases hb:b=a
    ·exact .inl hb
    ·exact absurd ((if_neg nb).trans (if_neg hb)) z
end L2
namespace L2
open PySem PySem.Spec PyProof.Rows
section
variable {X:Cx}
theorem mt_lindex {K:PySem.W.Frag} (hK:X.K=K):MtR X "list.index" (fun x xs H Q=>∃ (l:Addr) (ks:List Str) (n:Str) (j:Nat),x=.ref l∧xs=[.str n]∧SqL K H l (ks.map V.str)∧ks[j]? = some n∧(∀ m,m < j→ks[m]?≠some n)∧Q (.int (j:Nat)) H):=by
 subst hK;intro pins s σ H x xs v us Q I rx rv h;obtain ⟨l,ks,n,j,rfl,rfl,hl,hj,hno,q⟩:=h;cases (show v=Value.ref l from rx);obtain ⟨u,rfl,ru⟩:=v1 rv;obtain ⟨its,r,pl,hz⟩:=I.list hl;obtain ⟨⟨cls,dd,data,sl⟩,ho,hc,n',hd⟩:=pl.isList;simp only at hc hd;subst hc hd;have jl:j < ks.length:=(List.getElem?_eq_some_iff.mp hj).1;have ln:=r.length;rw [Z0] at ln hz;have fs:(ks.map V.str).all flatV=true:=by
  rw [List.all_eq_true];intro x hx;obtain ⟨k,_,rfl⟩:=List.mem_map.mp hx;rfl
 have at_:∀ (i:Nat) (hi:i < its.toArray.size) (k:Str),ks[i]? = some k→eqU (.str n) its.toArray[i]=eqV (.str k) (.str n):=fun i hi k e=>by
  obtain ⟨w',hw,rw'⟩:=r.get (i:=i) (x:=.str k) (by rw [Z8,e];rfl);have:its.toArray[i]=w':=by
   have h1:its[i]? = some its.toArray[i]:=by simp
   rw [hw] at h1;exact (Zg h1).symm
  rw [this];exact eqU_of rw' rfl
 have szl:(sizeLine:Nat)=16777216:=sizeLine_eq;refine call_meets PySem.F.slot_list_index ⟨_,ho,rfl⟩ PySem.F.entry_list_index (PySem.F.args_list_index_2 _ _) (SeqAt.list_indexAt l its.toArray n' dd sl u (eqU (.str n)) j (by simp;omega) (by omega) ?_ ?_) ⟨ho,fun y hy=>zC5 ru rfl r fs y (by simpa using hy),?_⟩
 ·rw [at_ j (by simp;omega) n hj];simp [eqV]
 ·intro m hm lt;obtain ⟨k,hk⟩:∃ k,ks[m]? = some k:=⟨_,Z1 (by omega)⟩;rw [at_ m hm k hk];have:k≠n:=fun e=>hno m lt (by rw [hk,e]);simp [eqV,this]
 ·exact ⟨.int j,H,I.tok _,⟨_,rfl⟩,q⟩
end
end L2
namespace L2
open PySem PySem.Spec PyProof.Rows
section
variable {X:Cx}
end
namespace W
end W
end L2
namespace L2
open PySem PySem.Spec PyProof.Rows
noncomputable def Iti (d:Addr) (kvs:List (Key×V)) (o:Obj):It :=
 ⟨fun i H=>H d=some (.frz o (.dK kvs))∧i < kvs.length,
  fun i H v H'=>∃ p k x,v=.ref p∧H p=none∧H'=upd H p (.tup [kV k,x])∧kvs[i]? = some (k,x),
  fun i H=>H d=some (.frz o (.dK kvs))∧kvs.length≤i⟩
theorem turn_items {P:Program}{w:World}{K:PySem.W.Frag}{es':List Expr}{x1:_}{pos:Pos}{d it:Addr}{kvs:List (Key×V)}{o:Obj}{es:Array DictEntry}{ep:Nat} (hd:o.data=.dict es ep) :
  Turn P w K (.Tuple es' x1 pos) (Iti d kvs o) [it] it (fun i h=>∃ ok ov,IsItemIter h it d i kvs.length ep ok ov) where
 mem:=by simp
 obj:=fun i h st b hb=>by
  have e:b=it:=by simpa using hb
  subst e;obtain ⟨ok,ov,e⟩:=st;exact ⟨_,e,fun v z=>by cases (show Data.fields _=Data.cell v from z)⟩
 keep:=fun i h h' ⟨ok,ov,e⟩ k=>⟨ok,ov,k it (by simp) _ e⟩
 item:=by
  intro X hP hw hK hc i pins s σ H E I hf st hg;subst hP hw hK;obtain ⟨ho,hi⟩:=hg;obtain ⟨ok,ov,st0⟩:=st;obtain ⟨vs,kv,da,lo⟩:=I.dictAt ho hd;obtain ⟨⟨k,x⟩,hk⟩:∃ p,kvs[i]? = some p:=⟨_,Z1 hi⟩;obtain ⟨u,hu,ru⟩:=kv.get hk;rw [kv.len] at st0;refine wpAny_pyNext_items_item st0 da hu fun key h' hkey a1 a3 a4 a5=>?_;refine ⟨_,rfl,wpAny_letOwnedTupleGo_items a1 fun h2' b1 sb=>?_⟩;have ne:s.heap.objs.size≠it:=fun q=>by have:=Z7 st0;rw [← q] at this;exact Y2 _ this
  have J:Inv X pins σ H { s with heap:=h2' }:=I.turns (t':=s.toks) (ch:=[it]) (fun b o hb q=>by
   have hb':b≠it:=by simpa using hb
   exact (sb.2 b hb').trans (a5 b o hb' q)) hf
  have gT:h2'.get? s.heap.objs.size=some { cls:=.type "tuple",data:=.seq #[key,u] }:=(sb.2 _ ne).trans a3;have fT:H s.heap.objs.size=none:=I.hok.fresh (Z5 _)
  have J2:Inv X pins σ (upd H s.heap.objs.size (.tup [kV k,x])) { s with heap:=h2' }:=J.adopt fT I.sz (Nat.ne_of_gt I.lt) (fun n c q=>by
    obtain ⟨w',q⟩:=I.cell n c q
    exact Ze q.lt) (fun p hp=>Ze (Z7 (I.pin p hp).1)) ⟨by show 2≤sizeLine;decide,[key,u],.cons (key_rel hkey) (.cons ru .nil),⟨_,gT,rfl,_,rfl⟩⟩
  refine ⟨.ref s.heap.objs.size,_,J2,rfl,⟨_,k,x,rfl,fT,rfl,hk⟩,⟨key,u,by rw [kv.len];exact b1⟩,fun b hb=>?_⟩;have hb':=(hf b hb).1;have:b≠s.heap.objs.size:=by
   have e:b=it:=by simpa using hb
   rw [e];exact Ne.symm ne
  rw [zA5 this];exact hb'
 done:=by
  intro X hP hw hK hc i pins s σ H E I hf st hg;subst hP hw hK;obtain ⟨ho,hi⟩:=hg;obtain ⟨ok,ov,st0⟩:=st;obtain ⟨vs,kv,da,lo⟩:=I.dictAt ho hd;rw [kv.len] at st0;exact wpAny_pyNext_items_end (I.ok.hd hc) st0 da (by have:=kv.len;simp;omega) fun h' eb=>⟨rfl,I.turns (t':=s.toks) (ch:=[it]) (fun b o hb e=>eb b o (by simpa using hb) e) hf⟩
 self:=fun _ _ _ _ _ ⟨ok,ov,st⟩ h=>PySem.W.kcp_self st h
noncomputable def ViewI (v d:Addr):HO:=.ext fun h=>h.IsItemsView v d
noncomputable def iItems (tl:TE):TI:=fun σ H R=>tl σ H fun x H1=>∃ v d kvs,x=.ref v∧H1 v=some (ViewI v d)∧Rd H1 d (.dK kvs)∧∀ o,R (Iti d kvs o) (upd H1 d (.frz o (.dK kvs)))
noncomputable def tItems (td:TE):TE:=fun σ H Q=>td σ H fun x H1=>∃ d kvs,x=.ref d∧Rd H1 d (.dK kvs)∧∀ v,H1 v=none→Q (.ref v) (upd H1 v (ViewI v d))
section
variable {X:Cx}
theorem zCe {es':List Expr}{x1:_}{tp:Pos}{l:Expr}{tl:TE} (hl:PE X l tl):PI X (.Tuple es' x1 tp) l (iItems tl):=by
 intro pins s σ H R I h;refine thn (hl pins s σ H _ I h) fun v s1 ⟨x,H1,I1,r1,q1⟩=>?_;obtain ⟨a,d,kvs,rfl,hv,rd,q⟩:=q1;obtain rfl:v=Value.ref a:=r1;obtain ⟨o,es,ep,hd,g,J⟩:=I1.freeze rd;obtain ⟨vs,kv,da,lo⟩:=J.dictAt zA1 hd;obtain ⟨vw,_,_⟩:=I1.hok a _ hv;refine wpAny_pyIter_items (show s1.heap.IsItemsView a d from vw) da ?_;have J2:=J.kept (t':=s1.toks) (h':=s1.heap.push { cls:=.type "dict_itemiterator",data:=.fields #[.none,.bool false,.ref d,.int 0 0,.int vs.length 0,.int ep 0,.none,.none] }) fun b u e=>Z2 _ e;refine ⟨s1.heap.objs.size,[s1.heap.objs.size],_,_,_,rfl,J2,turn_items hd,⟨.none,.none,by rw [kv.len];exact Zb _ rfl⟩,fun c hc=>?_,q o⟩;have:c=s1.heap.objs.size:=by simpa using hc
 subst this;exact J.fpOk (Z5 _) (J.hok.fresh (Z5 _))
theorem zCf {o:Expr}{td:TE}{apos cpos:Pos} (ho:PE X o td) (hbase:attributeBase o "items" X.env (eval o X.env)=eval o X.env:=by rfl) (hline:(apos.endLine == cpos.line)=true:=by rfl) :
  PE X (.Call (.Attribute o "items" apos) [] [] cpos) (tItems td):=by
 intro pins s σ H Q I h;refine wpAny_Call_method0_late hbase hline (thn (ho pins s σ H _ I h) fun v s1 ⟨x,H1,I1,r1,d,kvs,ex,rd,q1⟩=>?_);subst ex;obtain rfl:v=Value.ref d:=r1;obtain ⟨t1,t2,lo⟩:=isD_at I1 (.inl ⟨kvs,rd⟩);obtain ⟨_,_,vs,kv,dd⟩:=zEf I1.hok rd;refine ⟨"dict", "dict.items",PySem.F.plainAttrs_dict,PySem.F.slot_dict_items,PySem.F.type_dict_items,t1,t2,Calls.callWith_builtin rfl (PySem.evalArgs_none ?_)⟩;refine call_meetsIn PySem.F.slot_dict_items t1 PySem.F.entry_dict_items (PySem.F.args_dict_items_1 _) (meets_dict_items (mixKind X.prog X.w) d lo) ⟨⟨vs,dd⟩,?_⟩;have fr:H1 s1.heap.objs.size=none:=I1.hok.fresh (Z5 _);refine ⟨.ref s1.heap.objs.size,_,I1.laid (t':=s1.toks) (a:=s1.heap.objs.size) (o:=ViewI s1.heap.objs.size d) (fun b u e=>Z2 _ e) (Z5 _) ⟨⟨_,Zb _ rfl,rfl,rfl⟩,⟨_,Zb _ rfl⟩,fun h1 h2 ⟨o',e,r⟩ k=>⟨o',k _ e,r⟩⟩,rfl,q1 _ fr⟩
end
namespace W
noncomputable def zCe:=by have h:=@L2.zCe;rw [ePE,ePI] at h;exact @h
noncomputable def zCf:=by have h:=@L2.zCf;rw [ePE] at h;exact @h
end W
end L2
namespace L2
open PySem PySem.Spec PyProof.Rows
section
variable {P:Program}{w:World}{A:Around}{E:Value→Shared→Prop}{s:Shared}
end
section
variable {P:Program}{w:World}{A:Around}{E:Value→Shared→Prop}{s:Shared}
end
end L2
namespace L2.W
open PySem PySem.Spec PyProof.Rows
end L2.W
namespace L2
open PySem PySem.Spec PyProof.Rows
section
variable {X:Cx}{CX:CXT}{k:Nat}{f C:Addr}{fd:FuncData}{ps:List Str}{sp:Sp}{dvs:List V}{ds:List Value}{E:St→XK}{x m:Str}{p pos apos:Pos}{e:Expr}{es:List Expr}{t:TA}
end
end L2
namespace L2.W
open PySem PySem.Spec PyProof.Rows
end L2.W
namespace L2
open PySem PySem.Spec PyProof.Rows
end L2
namespace L2.W
open PySem PySem.Spec PyProof.Rows
end L2.W
namespace L2
open PySem PySem.Spec PyProof.Rows
section
variable {prog:Program}{w:World}{A:Around}{R:Result→Shared→Prop}{I:Addr}{fp wr:List Addr}{G:Array GenState→Array GenState→Prop}{n:Nat}{P:Nat→Value→Prop}{St:Nat→Shared→Prop}
end
section
variable {prog:Program}{w:World}{A:Around}{E:Value→Shared→Prop}{s:Shared}
end
section
variable {X:Cx}
end
end L2
namespace L2
open PySem PySem.Spec PyProof.Rows
section
variable {X:Cx}
end
end L2
namespace L2
open PySem PySem.Spec PyProof.Rows
section
variable {X:Cx}{e:Expr}{es:List Expr}{te:TE}{t:TA}
end
end L2
namespace L2.W
open PySem PySem.Spec PyProof.Rows
end L2.W
namespace L2
open PySem PySem.Spec PyProof.Rows
section
variable {X:Cx}{CX:CXT}{k:Nat}{fw c P:Addr}{fd:FuncData}{q x y:Str}{params:Arguments}{body:Expr}{scope:Scope}{N:List Str}{ix:List Nat}{sp:Addr→Addr→List (Str×Addr)→List V→Sp}{E:St→XK}{p lpos pos:Pos}
end
namespace W
end W
end L2
namespace L2
open PySem PySem.Spec PyProof.Rows
structure MkN (K:PySem.W.Frag) (C:Addr):Prop where
 makes:PySem.W.makesIn K C=true
 init:PySem.W.findIn K (.ref C) "__init__" = some (some (.builtin "object.__init__"))
 kp:PySem.W.keepIn K (.ref C)=true
noncomputable def tMakeN (C:Addr):TE:=fun _ H Q=>∀ x dx,H x=none→H dx=none→dx≠x→Q (.ref x) (upd (upd H dx (.own x)) x (.ins C dx []))
theorem zC4 {X:Cx}{C:Addr}{x:Str}{p pos:Pos} (M:MkN X.K C) (hg:Gl X x) (hm:X.mg x=some (.ref C)) (hdb:(x == ("__debug__" : Str))=false:=by decide):PE X (.Call (.Name x p) [] [] pos) (tMakeN C):=by
 intro pins s σ H Q I h;refine wpAny_Call_Name_kw (zCt I hg hm ?_ hdb);refine PySem.W.callWith_K0 I.kIn M.kp (wpAny_call ?_);have q:=h (s.heap.objs.size + 1) s.heap.objs.size (I.hok.fresh (Nat.le_succ _)) (I.hok.fresh (Z5 _)) (Ze (Yb _));have I2:=Inv.made (C:=C) I;have Y:=PySem.W.makes_of (M:=model X.prog X.w) I.kIn M.makes;refine make_map0 I.kIn M.makes M.init (fun self=>PySem.W.Looks.of_pure (PySem.W.oi_bind self)) ?_;have e2:((s.heap.push PySem.W.emptyDict).push (PySem.W.instObj C s.heap.objs.size)).get? (s.heap.objs.size + 1)=some (PySem.W.instObj C s.heap.objs.size):=by
  have:=Zb (s.heap.push PySem.W.emptyDict) (o:=PySem.W.instObj C s.heap.objs.size) rfl
  rwa [Ye] at this
 have t1:PySem.W.Looks (model X.prog X.w) ((s.heap.push PySem.W.emptyDict).push (PySem.W.instObj C s.heap.objs.size)) (typeOf (.ref (s.heap.objs.size + 1))) (.ref C):=(PySem.W.Looks.ld e2).andThen .now;have t2:PySem.W.Looks (model X.prog X.w) ((s.heap.push PySem.W.emptyDict).push (PySem.W.instObj C s.heap.objs.size)) (isInstance (.ref (s.heap.objs.size + 1)) (.type "object")) true:=t1.andThen (Y.top.keeps fun b o e=>Z2 _ (Z2 _ e));refine codeAny_call_builtin PySem.W.oi_plain PySem.W.entry_oi (@PySem.W.check_slot (model X.prog X.w) _ _ _ "object.__init__" "object" "__init__" (.ref (s.heap.objs.size + 1)) [] [] _ PySem.W.oi_kind PySem.W.oi_split t2 (PySem.W.oi_args (.ref (s.heap.objs.size + 1))) ?_);rw [PySem.W.oi_run];exact wpAny_pure (And.intro rfl ⟨V.ref (s.heap.objs.size + 1),_,I2,rfl,q⟩)
section
variable {X:Cx}{x n:Str}{np hpos pos:Pos}{body suite:List Stmt}{b₀ : Stmt}{i:Nat}{B:Addr}{tb:TW→TS}{th:Addr→TS}
theorem ps_tryN (hx:X.ex=[]) (hs:X.stack=X.env :: X.outer) (hf:X.env.frame=some X.env.locals) (hg:Gl X x) (hm:X.mg x=some (.ref B))
  (hb:∀ pins W,PSs (X.tri pins W) body (tb W)) (hh:∀ e,PSs (X.hnd e) (b₀ :: suite) (th e)) (hdb:(x == ("__debug__" : Str))=false:=by decide) :
  PS X (.Try body [.ExceptHandler (some (.Name x np)) none (b₀ :: suite) hpos] [] [] pos) (fun D σ H=>∃ W:TW,tb W D σ H∧∀ σ' e C H',H' e=some (XO C e)→W σ' e C H'→PySem.W.exmOne X.K (.ref C) (.ref B)=some true∧th e D σ' H'):=by
 intro pins s σ H D I ⟨W,hbW,hW⟩;refine wpAny_Try_except (wpAny_mono (hb pins W [] s σ H D I.tri hbW) (fun f s1 h1=>?_) (fun u s1 h1=>?_))
 ·have h1:=h1.untri;cases f with
  | next =>
   obtain ⟨σ',H',I',q⟩:=h1;exact zAf pins s1 σ' H' D I' q
  | brk=>exact h1
  | cont=>exact h1
  | ret u=>exact h1
 ·obtain ⟨e,C,σ',H',rfl,I',he,tr,w⟩:=h1;obtain ⟨oe,vs,a0,T0,oT,ts,h1,h2,h3,h4,⟨g1,g2⟩,nT,h5,h6,h7⟩:=tr;obtain ⟨hK,hT⟩:=hW σ' e C H' he w;have hfr:X.A.frames=some (X.env :: X.outer):=by rw [← hs];exact I.ok.frames
  have hl':s1.heap.FunFrames X.base (X.env :: X.outer):=by rw [← hs];exact I'.stack
  obtain ⟨ox,vx,hox,hcx,hdx⟩:=xo_of I'.hok he;rw [h1] at hox;cases hox;have hne:T0≠e:=fun z=>by rw [z,he] at nT;cases nT
  have F:=fly_of hl' h1 h2 h3 h4 hne h5 h6 h7;rw [hcx] at F;have mv:∀ {h':Heap}{t':Nat},Heap.FlyingW (bas s1.heap (X.env :: X.outer) e T0) (X.env :: X.outer) e (.ref C) a0 h'→s1.heap.UpToSlots h'→Inv X pins σ' H' { s1 with heap:=h',toks:=t' }:=fun {h'}{t'} F up=>by
   have m:=L2.moved (fl:=.none) hl' F.1 F.2.2.1 F.2.2.2 up;rw [← hs] at m;exact I'.moved he nT g1 g2 h5 h6 m
  refine wpAny_looks_onW hfr hf F fun h₄ H4 up4=>?_;refine wpAny_landsW H4 fun h₅ F5 up5=>?_;have I5:=mv (t':=s1.toks) F5 (up4.trans up5);have I5h:=I5.hnd (e:=e);refine wpAny_handleBy_cons (codeAny_handlers_test (zCt I5h hg hm ?_ hdb)) (by intro q;cases q);obtain ⟨o5,ho5,hc5⟩:=F5.there;have LT:PySem.W.Looks (model X.prog X.w) h₅ (typeOf (.ref e)) (.ref C):=by
   rw [← hc5];exact (PySem.W.Looks.ld ho5).andThen .now
  refine PySem.W.exm_one I5.kIn LT hK _ _ _ _ (fun _ _ q=>q) ?_;refine codeAny_handlers_suite ?_;refine lands_againW F5 fun h₆ F6 up6=>?_;have I6:=(mv (t':=s1.toks) F6 ((up4.trans up5).trans up6)).hnd (e:=e);refine wpAny_mono (hh e pins _ _ H' D I6 hT) (fun f s8 h8=>?_) (fun _ _ z=>False.elim z);cases f with
  | next=>obtain ⟨σ8,H8,J,q⟩:=h8;exact ⟨_,_,J.unhnd I.ok,q⟩
  | brk=>obtain ⟨σ8,H8,J,q⟩:=h8;exact ⟨_,_,J.unhnd I.ok,q⟩
  | cont=>obtain ⟨σ8,H8,J,q⟩:=h8;exact ⟨_,_,J.unhnd I.ok,q⟩
  | ret u=>obtain ⟨v,σ8,H8,J,r,q⟩:=h8;exact ⟨v,_,_,J.unhnd I.ok,r,q⟩
end
section
variable {X:Cx}
theorem any_range:∀ (bs:List Bool),((List.range bs.length).any fun i=>(bs[i]?).getD false)=bs.any id
 | []=>rfl
 | b :: r=>by
  rw [Zh,List.range_succ_eq_map,Y9,List.any_map,Y9];have e:=any_range r;simp only [Function.comp_def,List.getElem?_cons_succ,List.getElem?_cons_zero,Option.getD_some,id] at *;rw [← e]
theorem call_any {K:PySem.W.Frag} (hK:X.K=K) (hc:X.calm=true):CallR X (.builtin "any") (fun xs H Q=>∃ (p:Addr) (bs:List Bool),xs=[.ref p]∧SqL K H p (bs.map V.bl)∧Q (.bl (bs.any id)) H):=by
 subst hK;intro pins s σ H xs us Q I r h;obtain ⟨p,bs,rfl,hp,q⟩:=h;obtain ⟨u,rfl,ru⟩:=v1 r;cases (show u=Value.ref p from ru);obtain ⟨its,rv,pl,hz⟩:=I.list hp;have hl:=pl.isList;have hlt:p < s.heap.objs.size:=by obtain ⟨_,e,_⟩:=hl;exact Z7 e
 have hlen:its.length=bs.length:=by rw [← rv.length,Z0]
 refine call_any_walk (wpAny_pyIter_list hl ?_)
 refine ⟨s.heap.objs.size,[s.heap.objs.size,p],[s.heap.objs.size],its.toArray.size,_,_,fun i=>(bs[i]?).getD false,rfl,Walks.list (A:=X.A.in1) (I.ok.hd hc) _ p (Ze hlt) its.toArray,
  ⟨⟨_,Zb _ rfl,rfl,rfl⟩,hl.push _⟩,fun i v s' Q' E' hP hQ=>?_,fun h' tk hk=>?_⟩
 ·obtain ⟨b,e,rfl⟩:=zDo rv (by simpa using hP);simp only [e,Option.getD_some] at hQ;exact wpAny_truthy_bool hQ
 ·rw [Zf,hlen,any_range];exact ⟨.bl _,H,I.kept (t':=tk) fun b o e=>hk b o (fun hm=>by rw [List.mem_singleton.mp hm] at e;exact Y2 _ (Z7 e)) (Z2 _ e),rfl,q⟩
end
namespace W
noncomputable def zC4:=by have h:=@L2.zC4;rw [ePE] at h;exact @h
noncomputable def ps_tryN:=by have h:=@L2.ps_tryN;rw [ePSs,ePS] at h;exact @h
end W
end L2
namespace L2
open PySem PySem.Spec PyProof.Rows
theorem for_keys {d:Addr}{kvs:List (Key×V)}{o:Obj}{g:TG}{tb:TS}{D:Ends}{σ : St}{H:Hp} (Pv:Nat→St→Hp→Prop) (h0:Pv 0 σ H) (hl:∀ i σ H,Pv i σ H→H d=some (.frz o (.dK kvs)))
  (hs:∀ i k x σ H,kvs[i]? = some (k,x)→Pv i σ H→g (kV k) σ H fun σ2 H2=>tb { D with nx:=Pv (i + 1),ct:=Pv (i + 1),bk:=D.nx } σ2 H2) (hd:∀ σ H,Pv kvs.length σ H→D.nx σ H) :
  ∃ W:Nat→Nat→St→Hp→Prop,(∃ m,W 0 m σ H)∧∀ i m σ H,W i m σ H →
   ((Itk d kvs o).stop i H∧D.nx σ H)∨((Itk d kvs o).go i H∧∃ N:St→Hp→Prop,(∀ σ' H',N σ' H'→∃ m',m' < m∧W (i + 1) m' σ' H')∧∀ x H',(Itk d kvs o).yld i H x H'→g x σ H' fun σ2 H2=>tb { D with nx:=N,ct:=N,bk:=D.nx } σ2 H2):=by
 refine ⟨fun i m σ H=>m=kvs.length - i∧i≤kvs.length∧Pv i σ H,⟨kvs.length,by simp,Zn _,h0⟩,?_⟩;rintro i m σ H ⟨rfl,hi,p⟩;have q:=hl i σ H p;by_cases hlt:i < kvs.length
 ·refine .inr ⟨⟨q,hlt⟩,Pv (i + 1),fun σ' H' p'=>⟨kvs.length - (i + 1),by omega,rfl,hlt,p'⟩,fun x H' y=>?_⟩;obtain ⟨rfl,k,z,hz,rfl⟩:=y;exact hs i k z σ _ hz p
 ·obtain rfl:i=kvs.length:=by omega
  exact .inl ⟨⟨q,Z5 _⟩,hd σ H p⟩
theorem zCv {d:Addr}{kvs:List (Key×V)}{o:Obj}{k:Nat}{σ : St}{H:Hp}{g:TG}{tt:TT}{te:TE}{Q:VK} (Pv:Nat→List V→Hp→Prop) (h0:Pv 0 [] H) (hl:∀ i ys H,Pv i ys H→H d=some (.frz o (.dK kvs)))
  (hz:∀ i ys H,i≤kvs.length→Pv i ys H→ys.length≤sizeLine)
  (hs:∀ i q x ys H p,kvs[i]? = some (q,x)→Pv i ys H→H p=none→∀ N:List V→Hp→Prop,(∀ ys H,Pv (i + 1) ys H→N ys H)→g (.ref p) (σ++List.replicate k none) (upd H p (.tup [kV q,x])) fun σ2 H2=>tt σ2 H2 fun b H3=>if b=true then te σ2 H3 fun y H4=>N (ys++[y]) H4 else N ys H3)
  (hd:∀ ys H,Pv kvs.length ys H→∀ p,H p=none→Q (.ref p) (upd H p (.lst ys))):CompGoal (Iti d kvs o) k σ H g tt te Q:=by
 refine comp_by (J:=Iti d kvs o) (n:=kvs.length) Pv h0 (fun i ys H lt p=>⟨hl i ys H p,lt⟩) (fun ys H p=>⟨hl _ ys H p,Z5 _⟩) hz ?_ hd;rintro i ys H x H' lt p ⟨t,q,z,rfl,ht,rfl,hz'⟩ N hN;exact hs i q z ys H t hz' p ht N hN
noncomputable def iKeysF (tl:TE):TI:=fun σ H R=>tl σ H fun x H1=>∃ d kvs o,x=.ref d∧H1 d=some (.frz o (.dK kvs))∧R (Itk d kvs o) H1
theorem zE5 {X:Cx}{tg l:Expr}{tl:TE} (hl:PE X l tl):PI X tg l (iKeysF tl):=by
 intro pins s σ H R I h;refine thn (hl pins s σ H _ I h) fun v s1 ⟨x,H1,I1,r1,q1⟩=>?_;obtain ⟨d,kvs,o0,rfl,hf,q⟩:=q1;obtain rfl:v=Value.ref d:=r1;obtain ⟨o,es,ep,hd,g,J⟩:=I1.freeze (.inr ⟨o0,hf⟩);obtain ⟨g0,_⟩:=I1.hok d _ hf;rw [g0] at g;cases g;rw [upd_id hf] at J;obtain ⟨vs,kv,da,lo⟩:=J.dictAt hf hd;refine wpAny_pyIter_dict lo da ?_;have J2:=J.kept (t':=s1.toks) (h':=s1.heap.push { cls:=.type "dict_keyiterator",data:=.fields #[.ref d,.int 0 0,.int vs.length 0,.int ep 0] }) fun b u e=>Z2 _ e;refine ⟨s1.heap.objs.size,[s1.heap.objs.size],_,_,_,rfl,J2,turn_keys hd,⟨_,Zb _ rfl,rfl,by rw [kv.len];rfl⟩,fun c hc=>?_,q⟩;have:c=s1.heap.objs.size:=by simpa using hc
 subst this;exact J.fpOk (Z5 _) (J.hok.fresh (Z5 _))
namespace W
noncomputable def zE5:=by have h:=@L2.zE5;rw [ePE,ePI] at h;exact @h
end W
end L2
namespace My
open PySem L2
noncomputable def top (i:Nat):Stmt:=PySem.Challenge.pw_cometorest_k57_rings_of_waiting.main.body.getD i (.Pass ⟨0,0,0,0⟩)
noncomputable abbrev sIsName:Stmt:=top 11
noncomputable abbrev sUnlike:Stmt:=top 12
noncomputable abbrev sPair:Stmt:=top 13
noncomputable abbrev sFields:Stmt:=top 14
noncomputable abbrev sCount:Stmt:=top 15
noncomputable abbrev sInit:Stmt:=inClass (top 16) 0
noncomputable abbrev sAreKinds:Stmt:=top 17
noncomputable abbrev sPlaced:Stmt:=top 18
noncomputable abbrev sInitKs:Stmt:=inClass (top 19) 0
noncomputable abbrev sOrder:Stmt:=inClass (top 19) 1
noncomputable abbrev sOf:Stmt:=inClass (top 19) 2
noncomputable abbrev sOwned:Stmt:=inClass (top 19) 3
noncomputable abbrev sAlSuits:Stmt:=inClass (top 22) 1
noncomputable abbrev sTtSuits:Stmt:=inClass (top 25) 0
noncomputable abbrev sOtherKinds:Stmt:=top 26
noncomputable abbrev sInitR:Stmt:=inClass (top 27) 0
noncomputable abbrev sInitH:Stmt:=inClass (top 29) 0
noncomputable abbrev sRuleSuits:Stmt:=top 30
noncomputable abbrev sCheck:Stmt:=top 31
noncomputable abbrev sWaitsP:Stmt:=top 33
noncomputable abbrev sNeverFree:Stmt:=top 34
noncomputable abbrev sRing:Stmt:=top 35
noncomputable abbrev sCellAt:Stmt:=top 37
noncomputable abbrev sMixed:Stmt:=top 38
noncomputable abbrev sDigits:Stmt:=top 39
noncomputable abbrev sNext:Stmt:=top 40
noncomputable abbrev sWaits:Stmt:=top 41
noncomputable abbrev sFar:Stmt:=top 42
noncomputable abbrev sRefused:Stmt:=top 43
noncomputable abbrev sLaw:Stmt:=top 44
noncomputable def letters:Str:="abcdefghijklmnopqrstuvwxyz"
structure Tops (K:PySem.W.Frag) (mg:Str→Option Value):Prop where
 isinst:mg "isinstance" = none
 len:mg "len" = none
 all:mg "all" = none
 set:mg "set" = none
 range:mg "range" = none
 str:mg "str" = none
 list:mg "list" = none
 tuple:mg "tuple" = none
 zip:mg "zip" = none
 dict:mg "dict" = none
 min:mg "min" = none
 any:mg "any" = none
 lets:∃ t,mg "LETTERS" = some (.str letters t)
 most:∃ t,mg "MOST_LETTERS" = some (.int 8 t)
 mostS:∃ t,mg "MOST_STATES" = some (.int 8 t)
noncomputable def charB (c:Nat):Bool:=decide (c∈letters.cps.toList)
noncomputable def nameB (x:Str):Bool:=decide (1≤x.length) && decide (x.length≤8) && x.cps.toList.all charB
noncomputable def spIsName (K:PySem.W.Frag):Sp:=fun vs H Q _=>(∃ x,vs=[.str x]∧x.length≤1000∧∀ H',Same H H'→Q (.bl (nameB x)) H') ∨
 ∃ v t,vs=[v]∧TyOf K H v t∧PySem.W.kitOne K t (.type "str")=some false∧Q (.bl false) H
section
variable {P:Program}{w:World}{K:PySem.W.Frag}{mg:Str→Option Value}{base:Heap}{CX:CXT}
theorem scIN:FnScope ["thing"] ["thing"] (defScope sIsName):=⟨rfl,rfl,rfl,by decide +kernel,rfl,by decide +kernel,by decide +kernel⟩
theorem ok_isName {f:Addr}{fd:FuncData} (F:Fun K "is_name" "is_name" sIsName f fd) (T:Tops K mg):FnOk P w K mg base CX 1 f fd ["thing"] (spIsName K):=by
 refine F.okC scIN (fun vs H Q E h=>?_) (fun cdv A outer s H vs Q E hr h=>?_)
 ·rcases h with ⟨x,rfl,_⟩ | ⟨v,t,rfl,_⟩ <;> rfl
 ·obtain ⟨tl,hlets⟩:=T.lets;obtain ⟨tm,hmost⟩:=T.most
  refine ⟨_,zA2 (zB1 (zAs (zAr (zA7 zAl rfl T.isinst PyProof.Rows.boot_isinstance (zA0 (pv 0) (zA0 (zBa (v:=.ty "str") rfl T.str PyProof.Rows.boot_str rfl) zA4))))) (zA6 (zAj zCh)) zAf)
   (zA6 (zAj (zC8 (zE7 op_le op_le zAa (zA7 call_len_str rfl T.len PySem.boot_len (zA0 (pv 0) zA4)) (zBk (v:=.int 8) rfl hmost ⟨_,rfl⟩))
    (zCy (zA7 (zBi rfl) rfl T.all PyProof.Rows.boot_all (zA0 (zAn (T:=["sign"]) rfl ScOk.auto (pi_str (pv 0)) (fun _ _ _ _=>zA8 (i:=1) (by decide +kernel:(["thing", "sign"]:List Str).Nodup) rfl (Or.inl rfl)) (fun _ _ _ _=>zAy)
     (fun _ _ _ _=>zBq op_in_str (pv 1) (zBk (v:=.str letters) rfl hlets ⟨_,rfl⟩) rfl)) zA4)))))),?_⟩
  rcases h with ⟨x,rfl,hx,k⟩ | ⟨v,t,rfl,ty,hk,k⟩
  ·refine ⟨_,rfl,_,_,_,_,_,rfl,.str x,rfl,rfl,_,rfl,iteF ?_⟩;have hz:x.length≤sizeLine:=Zt (small1000 hx);refine ⟨_,rfl,x,rfl,hz,_,_,rfl,rfl,_,rfl,?_⟩;refine ite2 (fun h1=>?_) (fun h1=>?_)
   ·refine ⟨_,_,rfl,rfl,_,rfl,?_⟩;refine ite2 (fun h2=>?_) (fun h2=>?_)
    ·refine ⟨_,rfl,x,rfl,comp_chars (fun _=>true) (fun c=>.bl (charB c)) hz (fun c Ry Rn q _=>?_) (fun d hd=>?_)⟩
     ·refine iteT (B:=Rn H) ⟨_,rfl,_,_,rfl,rfl,?_⟩;rw [PySem.StrLaws.found_one];exact q rfl
     ·refine ⟨d,x.cps.toList.map charB,rfl,SqL.of ?_,?_⟩
      ·rw [zA1,List.filter_eq_self.mpr (fun _ _=>rfl),Zv];rfl
      ·have e:nameB x=(x.cps.toList.map charB).all id:=by
        have a1:1≤x.length:=by have:=of_decide_eq_true h1;omega
        have a2:x.length≤8:=by have:=of_decide_eq_true h2;omega
        unfold nameB;rw [decide_eq_true a1,decide_eq_true a2,Yj];rfl
       rw [← e];exact k _ (Same.new hd)
    ·have a2:¬ x.length≤8:=fun z=>h2 (decide_eq_true (by omega));have e:nameB x=false:=by unfold nameB;rw [decide_eq_false a2];simp
     rw [← e];exact k _ (Same.refl _)
   ·have a1:¬ 1≤x.length:=fun z=>h1 (decide_eq_true (by omega));have e:nameB x=false:=by unfold nameB;rw [decide_eq_false a1];simp
    refine ⟨false,rfl,iteF ?_⟩;rw [← e];exact k _ (Same.refl _)
  ·exact ⟨_,rfl,_,_,_,_,_,rfl,ty,rfl,hk,_,rfl,iteT k⟩
end
noncomputable def spMixed:Sp:=fun vs H Q _=>∃ c k:Int,vs=[.int c,.int k]∧0≤k∧k≤1000000∧∀ n:Int,0≤n→n < 2147483629→Q (.int n) H
noncomputable def Src (H:Hp) (p:Addr) (k:Int):Prop:=∃ a c j:Int,H p=some (.lst [.int a,.int c,.int j])∧0≤j∧j≤k
noncomputable def spDigits:Sp:=fun vs H Q _=>∃ c:Int,vs=[.int c]∧∀ p H',H p=none→Src H' p 0→Same H H'→(∀ b,b≠p→H' b=H b)→Q (.ref p) H'
noncomputable def spNext:Sp:=fun vs H Q _=>∃ (p:Addr) (m k:Int),vs=[.ref p,.int m]∧Src H p k∧k≤999998∧0 < m∧m < 2 ^ 64 ∧
 ∀ (r:Int) (H':Hp),0≤r→r < m→Src H' p (k + 1)→(∀ b,b≠p→H' b=H b)→Q (.int r) H'
section
variable {P:Program}{w:World}{K:PySem.W.Frag}{mg:Str→Option Value}{base:Heap}{CX:CXT}
theorem scMx:FnScope ["_law_cell", "_law_k", "_law_number"] ["_law_cell", "_law_k"] (defScope sMixed):=⟨rfl,rfl,rfl,by decide +kernel,rfl,by decide +kernel,by decide +kernel⟩
theorem ok_mixed {f:Addr}{fd:FuncData} (F:Fun K "_law_mixed" "_law_mixed" sMixed f fd):FnOk P w K mg base CX 1 f fd ["_law_cell", "_law_k"] spMixed:=by
 refine F.okC scMx (fun vs H Q E h=>?_) (fun cdv A outer s H vs Q E hr h=>?_)
 ·obtain ⟨c,k,rfl,_⟩:=h;rfl
 ·obtain ⟨c,k,rfl,h0,h1,q⟩:=h
  refine ⟨_,zA2 (zAh (i:=2) scMx.nd rfl (Or.inl rfl) (zAt zD1 (zAt zDg (zAt zBw (zAt zBw (zAt zD1 (pv 0) zAa) (zAt zDg zAa (pv 1))) zAa) zAa) zAa))
   (zA2 (zAh (i:=2) scMx.nd rfl (Or.inl rfl) (zAt zD1 (zAt zDg (pv 2) (zAt zBw (zAt zEa (pv 2) zAa) zAa)) zAa))
   (zA2 (zAh (i:=2) scMx.nd rfl (Or.inl rfl) (zAt zD1 (zAt zDg (pv 2) (zAt zBw (zAt zBw (zAt zEa (pv 2) zAa) zAa) (pv 1))) zAa))
   (zA6 (zAj (zAt zD1 (zAt zDg (pv 2) (zAt zBw (zAt zEa (pv 2) zAa) zAa)) zAa))))),?_⟩
  have M:(0:Int) < 2147483629:=by decide
  have lo:∀ z:Int,0≤z % 2147483629:=fun z=>Int.emod_nonneg _ (by decide);have hi:∀ z:Int,z % 2147483629 < 2147483629:=fun z=>Yi _ M;have cm:∀ z y:Int,CMul (z % 2147483629) y:=fun z y=>by have:=lo z;have:=hi z;exact .inl ⟨by omega,by omega⟩
  refine ⟨_,rfl,_,_,rfl,rfl,M,_,rfl,_,_,rfl,rfl,.inl ⟨by decide,by decide⟩,_,_,rfl,rfl,_,_,rfl,rfl,_,_,rfl,rfl,.inr ⟨by decide,by decide⟩,_,_,rfl,rfl,M,?_⟩;refine ⟨_,rfl,_,rfl,_,_,rfl,rfl,⟨by decide,by decide⟩,_,_,rfl,rfl,_,_,rfl,rfl,cm _ _,_,_,rfl,rfl,M,?_⟩;refine ⟨_,rfl,_,rfl,_,_,rfl,rfl,⟨by decide,by decide⟩,_,_,rfl,rfl,_,rfl,_,_,rfl,rfl,_,_,rfl,rfl,cm _ _,_,_,rfl,rfl,M,?_⟩;refine ⟨_,rfl,_,rfl,_,_,rfl,rfl,⟨by decide,by decide⟩,_,_,rfl,rfl,_,_,rfl,rfl,cm _ _,_,_,rfl,rfl,M,?_⟩;exact q _ (lo _) (hi _)
theorem scDg:FnScope ["_law_cell"] ["_law_cell"] (defScope sDigits):=⟨rfl,rfl,rfl,by decide +kernel,rfl,by decide +kernel,by decide +kernel⟩
theorem ok_digits {f:Addr}{fd:FuncData} (F:Fun K "_law_digits" "_law_digits" sDigits f fd):FnOk P w K mg base CX 1 f fd ["_law_cell"] spDigits:=by
 refine F.okC scDg (fun vs H Q E h=>?_) (fun cdv A outer s H vs Q E hr h=>?_)
 ·obtain ⟨c,rfl,_⟩:=h;rfl
 ·obtain ⟨c,rfl,q⟩:=h;refine ⟨_,zA6 (zAj (zB2 (zA0 (zAt zDg (zAt zEa (pv 0) zAa) (zAt op_sub zAa (zAt zD1 (pv 0) zAa))) (zA0 (pv 0) (zA0 zAa zA4))))),?_⟩;have a1:0≤c % 2:=Int.emod_nonneg _ (by decide);have a2:c % 2 < 2:=Yi _ (by decide);refine ⟨_,rfl,_,_,rfl,rfl,⟨by decide,by decide⟩,_,rfl,_,_,rfl,rfl,(by show (0:Int) < 2;decide),_,_,rfl,rfl,_,_,rfl,rfl,.inr ⟨by omega,by omega⟩,_,rfl,(by show 3≤sizeLine;decide),fun p hp=>?_⟩;exact q p _ hp ⟨_,_,0,zA1,by decide,by decide⟩ (Same.new hp) fun b hb=>zA5 hb
theorem scNx:FnScope ["_law_source", "_law_many", "_law_found"] ["_law_source", "_law_many"] (defScope sNext):=⟨rfl,rfl,rfl,by decide +kernel,rfl,by decide +kernel,by decide +kernel⟩
theorem ok_next {f fm:Addr}{fd fdm:FuncData} (hC:Calm CX) (F:Fun K "_law_next" "_law_next" sNext f fd) (DM:Def K mg "_law_mixed" sMixed ["_law_cell", "_law_k"] fm fdm):FnOk P w K mg base CX 2 f fd ["_law_source", "_law_many"] spNext:=by
 have GM:FnOk P w K mg base CX 1 fm fdm ["_law_cell", "_law_k"] spMixed:=ok_mixed DM.fn;refine F.okC scNx (fun vs H Q E h=>?_) (fun cdv A outer s H vs Q E hr h=>?_)
 ·obtain ⟨p,m,k,rfl,_⟩:=h;rfl
 ·obtain ⟨p,m,k,rfl,⟨a,c,j,hp,j0,j1⟩,hk,m0,m1,q⟩:=h
  refine ⟨_,zA2 (zB1 (zAp op_gt (zBp zB9 (pv 0) zAa (fun _ _=>rfl)) zAa (nomark _))
    (zA2 (zAh (i:=2) scNx.nd rfl (Or.inl rfl) (zAt zD1 (zBp zB9 (pv 0) zAa (fun _ _=>rfl)) (pv 1)))
    (zA2 (ps_asg (zAt op_fdivB (zBp zB9 (pv 0) zAa (fun _ _=>rfl)) (pv 1)) (pg_sub (pv 0) zAa set_list))
    (zA6 (zAj (pv 2))))) zAf)
   (zA2 (ps_asg (zAt zBw (zBp zB9 (pv 0) zAa (fun _ _=>rfl)) zAa) (pg_sub (pv 0) zAa set_list))
   (zA6 (zAj (zAt zD1 (zAc GM hr rfl DM.at_ DM.fn.kp DM.bind .nil (passC hC) (zA0 (zBp zB9 (pv 0) zAa (fun _ _=>rfl)) (zA0 (zBp zB9 (pv 0) zAa (fun _ _=>rfl)) zA4))) (pv 1))))),?_⟩
  have S0:SqL K H p [.int a,.int c,.int j]:=SqL.of hp;refine ⟨_,rfl,p,_,_,_,rfl,rfl,S0,rfl,_,_,rfl,rfl,_,rfl,?_⟩;refine ite2 (fun h0=>?_) (fun h0=>?_)
  ·refine ⟨_,rfl,p,_,_,_,rfl,rfl,S0,rfl,_,rfl,_,_,rfl,rfl,m0,?_⟩;refine ⟨_,rfl,p,_,_,_,rfl,rfl,S0,rfl,_,rfl,_,_,rfl,rfl,⟨m0,m1⟩,?_⟩;refine ⟨_,rfl,p,_,_,0,rfl,rfl,hp,rfl,?_⟩;refine ⟨_,rfl,q _ _ (Int.emod_nonneg _ (by omega)) (Yi _ m0) ⟨_,_,j,zA1,j0,by omega⟩ fun b hb=>zA5 hb⟩
  ·refine ⟨_,rfl,p,_,_,_,rfl,rfl,S0,rfl,_,_,rfl,rfl,?_⟩;refine ⟨_,rfl,p,_,_,2,rfl,rfl,hp,rfl,?_⟩;have S1:SqL K (upd H p (.lst [.int a,.int c,.int (j + 1)])) p [.int a,.int c,.int (j + 1)]:=SqL.of zA1;refine ⟨_,rfl,p,_,_,_,rfl,rfl,S1,rfl,_,rfl,p,_,_,_,rfl,rfl,S1,rfl,c,j + 1,rfl,by omega,by omega,fun n n0 n1=>?_⟩;refine ⟨_,rfl,_,_,rfl,rfl,m0,?_⟩;exact q _ _ (Int.emod_nonneg _ (by omega)) (Yi _ m0) ⟨_,_,j + 1,zA1,by omega,by omega⟩ fun b hb=>zA5 hb
end
theorem Src.mono {H:Hp}{p:Addr}{k l:Int} (h:Src H p k) (hl:k≤l):Src H p l:=by
 obtain ⟨a,c,j,e,j0,j1⟩:=h;exact ⟨a,c,j,e,j0,by omega⟩
noncomputable def nameD:PyData→Bool
 | .str x=>nameB x
 | _=>false
noncomputable def strsOf:List PyData→List Str
 | .str x :: r=>x :: strsOf r
 | _ :: r=>strsOf r
 | []=>[]
noncomputable def unlikeB (ds:List PyData):Bool:=ds.all nameD && decide (strsOf ds).Nodup
noncomputable def pairB:PyData→Bool
 | .tuple [_,.list vs]=>decide (0 < vs.length) && unlikeB vs
 | _=>false
noncomputable def firstD:PyData→PyData
 | .tuple (d :: _)=>d
 | _=>.none
noncomputable def fieldsB:PyData→Bool
 | .list ds=>ds.all pairB && unlikeB (ds.map firstD)
 | _=>false
noncomputable def spNameD:Sp:=fun vs H Q _=>∃ v d,vs=[v]∧Has Any H v d∧∀ H',Same H H'→Q (.bl (nameD d)) H'
noncomputable def spUnlike:Sp:=fun vs H Q _=>∃ v ds,vs=[v]∧Has Any H v (.list ds)∧∀ H',Same H H'→Q (.bl (unlikeB ds)) H'
noncomputable def spPair:Sp:=fun vs H Q _=>∃ v d,vs=[v]∧Has Any H v d∧∀ H',Same H H'→Q (.bl (pairB d)) H'
noncomputable def spFields:Sp:=fun vs H Q _=>∃ v d,vs=[v]∧Has Any H v d∧∀ H',Same H H'→Q (.bl (fieldsB d)) H'
theorem strs_all {G:Addr→Prop}{H:Hp}:∀ {xs:List V}{ds:List PyData},HasAll G H xs ds→ds.all nameD=true→xs=(strsOf ds).map V.str∧(strsOf ds).length=ds.length
 | _,_,.nil,_=>⟨rfl,rfl⟩
 | _,_,.cons h t,e=>by
  rw [Y8,Y0] at e;obtain ⟨e1,e2⟩:=e;obtain ⟨q1,q2⟩:=strs_all t e2;cases h with
  | str x _ _=>exact ⟨by rw [q1];rfl,by rw [strsOf,Zh,Zh,q2]⟩
  | non=>cases e1
  | bl b=>cases e1
  | int i=>cases e1
  | lst _ _ _ _=>cases e1
  | tup _ _ _ _=>cases e1
section
variable {P:Program}{w:World}{K:PySem.W.Frag}{mg:Str→Option Value}{base:Heap}{CX:CXT}
theorem name_imp {vs:List V}{H:Hp}{Q:VK}{E:XK} (h:spNameD vs H Q E):spIsName K vs H Q E:=by
 obtain ⟨v,d,rfl,hd,q⟩:=h;cases hd with
 | str x hx ho=>exact .inl ⟨x,rfl,hx,q⟩
 | non=>exact .inr ⟨_,_,rfl,.non,rfl,q _ (Same.refl _)⟩
 | bl b=>exact .inr ⟨_,_,rfl,.bl b,rfl,q _ (Same.refl _)⟩
 | int i=>exact .inr ⟨_,_,rfl,.int i,rfl,q _ (Same.refl _)⟩
 | lst _ e _ _=>exact .inr ⟨_,_,rfl,.lst e,rfl,q _ (Same.refl _)⟩
 | tup _ e _ _=>exact .inr ⟨_,_,rfl,.tup e,rfl,q _ (Same.refl _)⟩
theorem zCk {f:Addr}{fd:FuncData} (F:Fun K "is_name" "is_name" sIsName f fd) (T:Tops K mg):FnOk P w K mg base CX 1 f fd ["thing"] spNameD:=(ok_isName F T).imp fun _ _ _ _ h=>name_imp h
theorem scUl:FnScope ["things"] ["things"] (defScope sUnlike):=⟨rfl,rfl,rfl,by decide +kernel,rfl,by decide +kernel,by decide +kernel⟩
theorem zC0 {f fn:Addr}{fd fdn:FuncData} (hC:Calm CX) (T:Tops K mg) (F:Fun K "are_unlike_names" "are_unlike_names" sUnlike f fd) (DN:Def K mg "is_name" sIsName ["thing"] fn fdn):FnOk P w K mg base CX 2 f fd ["things"] spUnlike:=by
 have GN:FnOk P w K mg base CX 1 fn fdn ["thing"] spNameD:=zCk DN.fn T;refine F.okC scUl (fun vs H Q E h=>?_) (fun cdv A outer s H vs Q E hr h=>?_)
 ·obtain ⟨v,ds,rfl,_⟩:=h;rfl
 ·obtain ⟨v,ds,rfl,hd,k⟩:=h;obtain ⟨a,xs,rfl,_,ha,hz,hx⟩:=hd.list_inv;have hzl:xs.length≤sizeLine:=Zt (small1000 hz)
  refine ⟨_,zA6 (zAj (zC8 (zA7 (zBi rfl) rfl T.all PyProof.Rows.boot_all (zA0 (zAn (T:=["thing"]) rfl ScOk.auto (zAg (pv 0)) (fun _ _ _ _=>zA8 (i:=1) (by decide +kernel:(["things", "thing"]:List Str).Nodup) rfl (Or.inl rfl)) (fun _ _ _ _=>zAy)
    (fun _ _ _ _=>zAc GN hr rfl DN.at_ DN.fn.kp DN.bind .nil (passC hC) (zA0 (pv 1) zA4))) zA4))
   (zCy (zBq op_eq (zA7 zCw rfl T.len PySem.boot_len (zA0 (zAo (zEh rfl) rfl T.set PyProof.Rows.boot_set (zA0 (pv 0) zA4)) zA4)) (zA7 zAe rfl T.len PySem.boot_len (zA0 (pv 0) zA4)) (nomark _))))),?_⟩
  refine ⟨_,rfl,a,rfl,⟨xs,SqL.of ha⟩,zAd (xs:=xs) (fun i ys H'=>Same H H'∧ys=(ds.take i).map fun d=>V.bl (nameD d)) ⟨Same.refl _,rfl⟩ (fun i ys H' p=>SqL.of (p.1 _ _ ha)) (fun i ys H' hi p=>?_) ?_ ?_⟩
  ·rw [p.2,Z0];have:=Zx i ds;omega
  ·rintro i x ys H' hi ⟨s1,rfl⟩ N hN;obtain ⟨d,hd',hv⟩:=hx.get hi;refine pick ?_;refine ⟨_,rfl,_,d,rfl,hv.mono s1,fun H2 s2=>hN _ _ ⟨s1.trans s2,?_⟩⟩;rw [Za,hd',Z6];rfl
  ·rintro ys H' ⟨s1,rfl⟩ p hp;have e:(ds.take xs.length).map (fun d=>V.bl (nameD d))=(ds.map nameD).map V.bl:=by
    rw [hx.length,Zd,Zv];rfl
   have s2:Same H (upd H' p (.lst ((ds.take xs.length).map fun d=>V.bl (nameD d)))):=s1.trans (Same.new hp);refine ⟨p,ds.map nameD,rfl,SqL.of (by rw [zA1,e]),_,rfl,?_⟩;have ea:(ds.map nameD).all id=ds.all nameD:=by rw [Yj];rfl
   rw [ea];cases eb:ds.all nameD with
   | false =>
    refine iteF ?_;have e0:unlikeB ds=false:=by unfold unlikeB;rw [eb];rfl
    rw [← e0];exact k _ s2
   | true =>
    refine iteT ?_;obtain ⟨q1,q2⟩:=strs_all hx eb;subst q1;have ha2:=s2 _ _ ha;have hz4:(strsOf ds).length≤4000:=by rw [Z0] at hz;omega
    refine ⟨_,rfl,a,strsOf ds,rfl,SqL.of ha2,hz4,fun d hd2=>?_⟩;refine ⟨d,strsOf ds,rfl,zA1,hz4,?_⟩;refine ⟨_,rfl,a,_,rfl,.inl (SqL.of ((Same.new hd2) _ _ ha2)),rfl,?_⟩;have e1:decide (V.int ((dl (strsOf ds)).length:Int)=V.int (((strsOf ds).map V.str).length:Int))=unlikeB ds:=by
     unfold unlikeB;rw [eb,Bool.true_and,← dl_len_iff,Z0];by_cases q:(dl (strsOf ds)).length=(strsOf ds).length
     ·rw [decide_eq_true q,q];simp
     ·rw [decide_eq_false q,decide_eq_false];intro z;injection z with z;omega
    rw [e1];exact k _ (s2.trans (Same.new hd2))
end
noncomputable def sizeD:PyData→Nat
 | .tuple [_,.list vs]=>vs.length
 | _=>0
noncomputable def countD (ds:List PyData):Int:=ds.foldl (fun m d=>m * (sizeD d:Int)) 1
noncomputable def spCount:Sp:=fun vs H Q _=>∃ v ds,vs=[v]∧Has Any H v (.list ds)∧ds.all pairB=true∧Q (.int (countD ds)) H
theorem zE9 {G:Addr→Prop}{H:Hp}{v:V}{d:PyData} (h:Has G H v d) (e:pairB d=true) :
  ∃ a x y n l vs ys,v=.ref a∧G a∧H a=some (.tup [x,y])∧d=.tuple [n,.list vs]∧Has G H x n∧y=.ref l∧G l∧H l=some (.lst ys)∧ys.length≤1000∧HasAll G H ys vs∧0 < vs.length∧unlikeB vs=true:=by
 cases h with
 | non=>cases e
 | bl b=>cases e
 | int i=>cases e
 | str x _ _=>cases e
 | lst _ _ _ _=>cases e
 | tup g s z q =>
  cases q with
  | nil=>cases e
  | cons h1 q =>
   cases q with
   | nil=>cases e
   | cons h2 q =>
    cases q with
    | cons _ _=>cases h2 <;> cases e
    | nil =>
     cases h2 with
     | non=>cases e
     | bl b=>cases e
     | int i=>cases e
     | str x _ _=>cases e
     | tup _ _ _ _=>cases e
     | lst g2 s2 z2 q2 =>
      have e':(decide _ && unlikeB _)=true:=e;rw [Y0] at e';exact ⟨_,_,_,_,_,_,_,rfl,g,s,rfl,h1,rfl,g2,s2,z2,q2,of_decide_eq_true e'.1,e'.2⟩
section
variable {P:Program}{w:World}{K:PySem.W.Frag}{mg:Str→Option Value}{base:Heap}{CX:CXT}
theorem scPr:FnScope ["thing", "values"] ["thing"] (defScope sPair):=⟨rfl,rfl,rfl,by decide +kernel,rfl,by decide +kernel,by decide +kernel⟩
theorem ok_pair {f fu fn:Addr}{fd fdu fdn:FuncData} (hC:Calm CX) (T:Tops K mg) (F:Fun K "is_pair_with_values" "is_pair_with_values" sPair f fd) (DN:Def K mg "is_name" sIsName ["thing"] fn fdn)
  (DU:Def K mg "are_unlike_names" sUnlike ["things"] fu fdu):FnOk P w K mg base CX 3 f fd ["thing"] spPair:=by
 have GU:FnOk P w K mg base CX 2 fu fdu ["things"] spUnlike:=zC0 hC T DU.fn DN;refine F.okC scPr (fun vs H Q E h=>?_) (fun cdv A outer s H vs Q E hr h=>?_)
 ·obtain ⟨v,d,rfl,_⟩:=h;rfl
 ·obtain ⟨v,d,rfl,hd,k⟩:=h
  refine ⟨_,zA2 (zB1 (PW.pt (zCo (zAs (zAr (zA7 zAl rfl T.isinst PyProof.Rows.boot_isinstance (zA0 (pv 0) (zA0 (zBa (v:=.ty "tuple") rfl T.tuple PyProof.Rows.boot_tuple rfl) zA4)))))
    (zBt (zAp op_ne (zA7 zAe rfl T.len PySem.boot_len (zA0 (pv 0) zA4)) zAa (nomark _))))) (zA6 (zAj zCh)) zAf)
   (zA2 (zAh (i:=1) scPr.nd rfl (Or.inl rfl) (zBp ix_tup (pv 0) zAa (fun _ _=>rfl)))
   (zA6 (zAj (zC8 (zA7 zAl rfl T.isinst PyProof.Rows.boot_isinstance (zA0 (pv 1) (zA0 (zBa (v:=.ty "list") rfl T.list PyProof.Rows.boot_list rfl) zA4)))
    (zC8 (zBq op_gt (zA7 zAe rfl T.len PySem.boot_len (zA0 (pv 1) zA4)) zAa (nomark _))
     (zCy (zAc GU hr rfl DU.at_ DU.fn.kp DU.bind .nil (passC hC) (zA0 (pv 1) zA4)))))))),?_⟩
  have k0:pairB d=false→Q (.bl false) H:=fun e=>by rw [← e];exact k _ (Same.refl _)
  refine ⟨_,rfl,?_⟩;cases hd with
  | non=>exact ⟨_,_,_,_,_,rfl,.non,rfl,rfl,_,rfl,iteT (iteT (k0 rfl))⟩
  | bl b=>exact ⟨_,_,_,_,_,rfl,(.bl b),rfl,rfl,_,rfl,iteT (iteT (k0 rfl))⟩
  | int i=>exact ⟨_,_,_,_,_,rfl,(.int i),rfl,rfl,_,rfl,iteT (iteT (k0 rfl))⟩
  | str x _ _=>exact ⟨_,_,_,_,_,rfl,(.str x),rfl,rfl,_,rfl,iteT (iteT (k0 rfl))⟩
  | lst _ e _ _=>exact ⟨_,_,_,_,_,rfl,(.lst e),rfl,rfl,_,rfl,iteT (iteT (k0 rfl))⟩
  | @tup a xs ds _ e z q =>
   refine ⟨_,_,_,_,_,rfl,.tup e,rfl,rfl,_,rfl,iteF ?_⟩;refine ⟨_,rfl,a,xs,rfl,.inr (SqT.of e),rfl,_,rfl,?_⟩;have hl:=q.length;by_cases h2:xs.length=2
   ·rw [decide_eq_true (show V.int (xs.length:Int)=V.int 2 by rw [h2];rfl)];refine iteF ?_;obtain ⟨d0,d1,rfl⟩:∃ d0 d1,ds=[d0,d1]:=by
     match ds,hl.symm.trans h2 with
     | [d0,d1],_=>exact ⟨d0,d1,rfl⟩
    cases q with
    | @cons x0 _ _ _ q0 q =>
     cases q with
     | @cons x1 _ _ _ q1 q =>
      cases q;refine ⟨_,rfl,a,_,_,x1,rfl,rfl,SqT.of e,rfl,?_⟩;refine ⟨_,rfl,?_⟩;cases q1 with
      | non=>exact ⟨_,_,_,_,_,rfl,.non,rfl,rfl,_,rfl,iteF (k0 rfl)⟩
      | bl b=>exact ⟨_,_,_,_,_,rfl,(.bl b),rfl,rfl,_,rfl,iteF (k0 rfl)⟩
      | int i=>exact ⟨_,_,_,_,_,rfl,(.int i),rfl,rfl,_,rfl,iteF (k0 rfl)⟩
      | str x _ _=>exact ⟨_,_,_,_,_,rfl,(.str x),rfl,rfl,_,rfl,iteF (k0 rfl)⟩
      | tup _ e1 _ _=>exact ⟨_,_,_,_,_,rfl,(.tup e1),rfl,rfl,_,rfl,iteF (k0 rfl)⟩
      | @lst l ys vs g1 e1 z1 q1 =>
       refine ⟨_,_,_,_,_,rfl,.lst e1,rfl,rfl,_,rfl,iteT ?_⟩;refine ⟨_,rfl,l,ys,rfl,.inl (SqL.of e1),_,_,rfl,rfl,_,rfl,?_⟩;refine ite2 (fun h0=>?_) (fun h0=>?_)
       ·refine ⟨_,rfl,_,vs,rfl,.lst g1 e1 z1 q1,fun H' s'=>?_⟩;have e0:pairB (.tuple [d0,.list vs])=unlikeB vs:=by
         show (decide (0 < vs.length) && unlikeB vs)=_;rw [decide_eq_true,Bool.true_and];have:=q1.length;have:=of_decide_eq_true h0;omega
        rw [← e0];exact k _ s'
       ·refine k0 ?_;show (decide (0 < vs.length) && unlikeB vs)=_;rw [decide_eq_false,Bool.false_and];have:=q1.length;intro z0;exact h0 (decide_eq_true (by omega))
   ·rw [decide_eq_false (show ¬ V.int (xs.length:Int)=V.int 2 by intro z0;injection z0 with z0;omega)];refine iteT (k0 ?_)
    match ds,hl with
    | [],_=>rfl
    | [_],_=>rfl
    | [_,_],hl=>exact absurd hl h2
    | _ :: d1 :: _ :: _,_=>cases d1 <;> rfl
end
theorem all_get {ds:List PyData}{f:PyData→Bool}{i:Nat}{d:PyData} (h:ds.all f=true) (e:ds[i]? = some d):f d=true:=List.all_eq_true.mp h d (Z4 e)
section
variable {P:Program}{w:World}{K:PySem.W.Frag}{mg:Str→Option Value}{base:Heap}{CX:CXT}
theorem scFd:FnScope ["things"] ["things"] (defScope sFields):=⟨rfl,rfl,rfl,by decide +kernel,rfl,by decide +kernel,by decide +kernel⟩
theorem ok_fields {f fp fu fn:Addr}{fd fdp fdu fdn:FuncData} (hC:Calm CX) (T:Tops K mg) (F:Fun K "are_fields" "are_fields" sFields f fd) (DN:Def K mg "is_name" sIsName ["thing"] fn fdn)
  (DU:Def K mg "are_unlike_names" sUnlike ["things"] fu fdu) (DP:Def K mg "is_pair_with_values" sPair ["thing"] fp fdp):FnOk P w K mg base CX 4 f fd ["things"] spFields:=by
 have GU:FnOk P w K mg base CX 2 fu fdu ["things"] spUnlike:=zC0 hC T DU.fn DN;have GP:FnOk P w K mg base CX 3 fp fdp ["thing"] spPair:=ok_pair hC T DP.fn DN DU;refine F.okC scFd (fun vs H Q E h=>?_) (fun cdv A outer s H vs Q E hr h=>?_)
 ·obtain ⟨v,d,rfl,_⟩:=h;rfl
 ·obtain ⟨v,d,rfl,hd,k⟩:=h;have hr2:=hr.mono (show 2≤3 by decide)
  refine ⟨_,zA2 (zB1 (PW.pt (zCo (zAs (zAr (zA7 zAl rfl T.isinst PyProof.Rows.boot_isinstance (zA0 (pv 0) (zA0 (zBa (v:=.ty "list") rfl T.list PyProof.Rows.boot_list rfl) zA4)))))
    (zBt (zAs (zAr (zA7 (zBi rfl) rfl T.all PyProof.Rows.boot_all (zA0 (zAn (T:=["thing"]) rfl ScOk.auto (zAg (pv 0)) (fun _ _ _ _=>zA8 (i:=1) (by decide +kernel:(["things", "thing"]:List Str).Nodup) rfl (Or.inl rfl)) (fun _ _ _ _=>zAy)
    (fun _ _ _ _=>zAc GP hr rfl DP.at_ DP.fn.kp DP.bind .nil (passC hC) (zA0 (pv 1) zA4))) zA4))))))) (zA6 (zAj zCh)) zAf)
   (zA6 (zAj (zAc GU hr2 rfl DU.at_ DU.fn.kp DU.bind .nil (passC hC) (zA0 (zAn (T:=["thing"]) rfl ScOk.auto (zAg (pv 0)) (fun _ _ _ _=>zA8 (i:=1) (by decide +kernel:(["things", "thing"]:List Str).Nodup) rfl (Or.inl rfl)) (fun _ _ _ _=>zAy)
    (fun _ _ _ _=>zBp (r:=rIxT K) ix_tup (pv 1) zAa (fun _ _=>rfl))) zA4)))),?_⟩
  have k0:fieldsB d=false→∀ H',Same H H'→Q (.bl false) H':=fun e H' s'=>by rw [← e];exact k _ s'
  refine ⟨_,rfl,?_⟩;cases hd with
  | non=>exact ⟨_,_,_,_,_,rfl,.non,rfl,rfl,_,rfl,iteT (iteT (k0 rfl _ (Same.refl _)))⟩
  | bl b=>exact ⟨_,_,_,_,_,rfl,(.bl b),rfl,rfl,_,rfl,iteT (iteT (k0 rfl _ (Same.refl _)))⟩
  | int i=>exact ⟨_,_,_,_,_,rfl,(.int i),rfl,rfl,_,rfl,iteT (iteT (k0 rfl _ (Same.refl _)))⟩
  | str x _ _=>exact ⟨_,_,_,_,_,rfl,(.str x),rfl,rfl,_,rfl,iteT (iteT (k0 rfl _ (Same.refl _)))⟩
  | tup _ e _ _=>exact ⟨_,_,_,_,_,rfl,(.tup e),rfl,rfl,_,rfl,iteT (iteT (k0 rfl _ (Same.refl _)))⟩
  | @lst a xs ds _ ha hz hx =>
   refine ⟨_,_,_,_,_,rfl,.lst ha,rfl,rfl,_,rfl,iteF ?_⟩;refine ⟨_,rfl,a,rfl,⟨xs,SqL.of ha⟩,zAd (xs:=xs) (fun i ys H'=>Same H H'∧ys=(ds.take i).map fun d=>V.bl (pairB d)) ⟨Same.refl _,rfl⟩ (fun i ys H' p=>SqL.of (p.1 _ _ ha)) (fun i ys H' hi p=>?_) ?_ ?_⟩
   ·rw [p.2,Z0];have:=Zx i ds;have:=small1000 hz;omega
   ·rintro i x ys H' hi ⟨s1,rfl⟩ N hN;obtain ⟨d,hd',hv⟩:=hx.get hi;refine pick ?_;refine ⟨_,rfl,_,d,rfl,hv.mono s1,fun H2 s2=>hN _ _ ⟨s1.trans s2,?_⟩⟩;rw [Za,hd',Z6];rfl
   ·rintro ys H' ⟨s1,rfl⟩ p hp;have e:(ds.take xs.length).map (fun d=>V.bl (pairB d))=(ds.map pairB).map V.bl:=by
     rw [hx.length,Zd,Zv];rfl
    have s2:Same H (upd H' p (.lst ((ds.take xs.length).map fun d=>V.bl (pairB d)))):=s1.trans (Same.new hp);refine ⟨p,ds.map pairB,rfl,SqL.of (by rw [zA1,e]),_,rfl,?_⟩;have ea:(ds.map pairB).all id=ds.all pairB:=by rw [Yj];rfl
    rw [ea];cases eb:ds.all pairB with
    | false =>
     refine iteT (k0 ?_ _ s2);show (ds.all pairB && _)=false;rw [eb];rfl
    | true =>
     refine iteF ?_;have ha2:=s2 _ _ ha;generalize upd H' p (.lst ((ds.take xs.length).map fun d=>V.bl (pairB d)))=H3 at s2 ha2 ⊢;refine ⟨_,rfl,a,rfl,⟨xs,SqL.of ha2⟩,zAd (xs:=xs) (fun i ys H'=>H'=H3∧HasAll Any H3 ys ((ds.take i).map firstD)) ⟨rfl,.nil⟩ (fun i ys H' p=>by rw [p.1];exact SqL.of ha2) (fun i ys H' hi p=>?_) ?_ ?_⟩
     ·have:=p.2.length;rw [Z0] at this;have:=Zx i ds;have:=small1000 hz;omega
     ·rintro i x ys H' hi ⟨rfl,hy⟩ N hN;obtain ⟨d,hd',hv⟩:=hx.get hi;obtain ⟨b,x0,y0,n,l,vs,zs,rfl,_,hb,rfl,hn,_⟩:=zE9 hv (all_get eb hd');refine pick ?_;refine ⟨_,rfl,b,_,_,x0,rfl,rfl,SqT.of (s2 _ _ hb),rfl,hN _ _ ⟨rfl,?_⟩⟩;rw [Za,hd',Z6];exact hy.snoc (hn.mono s2)
     ·rintro ys H' ⟨rfl,hy⟩ q hq;have s3:=s2.trans (Same.new (o:=.lst ys) hq);have hl:ys.length≤1000:=by
       have:=hy.length;rw [Z0] at this;have:=Zx xs.length ds;omega
      refine ⟨_,ds.map firstD,rfl,.lst trivial zA1 hl ?_,fun H4 s4=>?_⟩
      ·rw [hx.length,Zd] at hy;exact hy.mono (Same.new hq)
      ·have e1:fieldsB (.list ds)=unlikeB (ds.map firstD):=by
        show (ds.all pairB && unlikeB (ds.map firstD))=_;rw [eb];rfl
       rw [← e1];exact k _ (s3.trans s4)
theorem scCt:FnScope ["fields", "many", "field"] ["fields"] (defScope sCount):=⟨rfl,rfl,rfl,by decide +kernel,rfl,by decide +kernel,by decide +kernel⟩
theorem ok_count {f:Addr}{fd:FuncData} (T:Tops K mg) (F:Fun K "count_states" "count_states" sCount f fd):FnOk P w K mg base CX 1 f fd ["fields"] spCount:=by
 refine F.okC scCt (fun vs H Q E h=>?_) (fun cdv A outer s H vs Q E hr h=>?_)
 ·obtain ⟨v,ds,rfl,_⟩:=h;rfl
 ·obtain ⟨v,ds,rfl,hd,eb,k⟩:=h;obtain ⟨a,xs,rfl,_,ha,hz,hx⟩:=hd.list_inv
  refine ⟨_,zA2 (zAh (i:=1) scCt.nd rfl (Or.inl rfl) zAa)
   (zA2 (zBg PassesOwn.never rfl (zAg (pv 0)) (zA8 (i:=2) scCt.nd rfl (Or.inl rfl))
    (zA6 (zAh (i:=1) scCt.nd rfl (Or.inl rfl) (zAt zDg (pv 1) (zA7 zAe rfl T.len PySem.boot_len (zA0 (zBp ix_tup (pv 2) zAa (fun _ _=>rfl)) zA4))))))
   (zA6 (zAj (pv 1)))),?_⟩
  refine ⟨_,rfl,a,rfl,⟨xs,SqL.of ha⟩,zBh (K:=K) (a:=a) (xs:=xs) (fun i σ H2=>∃ u,σ = [some (.ref a),some (.int (countD (ds.take i))),u]∧H2=H) ⟨none,rfl,rfl⟩ (fun i σ H2 _ ⟨_,_,e⟩=>by rw [e];exact SqL.of ha) ?_ ?_⟩
  ·rintro i x σ H2 hi ⟨u,rfl,rfl⟩;obtain ⟨d,hd',hv⟩:=hx.get hi;obtain ⟨b,x0,y0,n,l,vs,zs,rfl,_,hb,rfl,hn,rfl,_,hl,hzl,hvs,_⟩:=zE9 hv (all_get eb hd');refine ⟨_,rfl,_,rfl,b,_,_,_,rfl,rfl,SqT.of hb,rfl,l,zs,rfl,.inl (SqL.of hl),_,_,rfl,rfl,.inr ⟨by omega,by omega⟩,⟨some (.ref b),?_,rfl⟩⟩;have e:countD (ds.take (i + 1))=countD (ds.take i) * (zs.length:Int):=by
    rw [Za,hd'];unfold countD;rw [List.foldl_append];show _ * ((sizeD (.tuple [n,.list vs]):Nat):Int)=_;rw [hvs.length];rfl
   rw [e];rfl
  ·rintro σ H2 ⟨u,rfl,rfl⟩;refine ⟨_,rfl,?_⟩;rw [hx.length,Zd];exact k
end
structure FunD (K:PySem.W.Frag) (x qual:Str) (st:Stmt) (dV:Value) (f:Addr) (fd:FuncData):Prop where
 ex:∃ (oc:Value) (od:Option Addr) (kV doc pm:Value) (an:Option Addr) (cdv ct:Value) (osl:Array (Option Value)),
  fd=PySem.W.fnOf x qual (defArgs st) (defBody st) (defScope st) dV kV doc pm an cdv ct∧K.lookup f=some ⟨oc,od,.func fd,osl⟩∧PySem.W.codeIn K cdv qual=true
theorem FunD.okC {P:Program}{w:World}{K:PySem.W.Frag}{mg:Str→Option Value}{base:Heap}{CX:CXT}{x qual:Str}{st:Stmt}{dV:Value}{f:Addr}{fd:FuncData}{N ps:List Str}{k:Nat}{sp:Sp} (F:FunD K x qual st dV f fd) (S:FnScope N ps (defScope st)) (len:∀ vs H Q E,sp vs H Q E→vs.length=ps.length)
  (hbody:∀ (cdv:Value) (A:Around) (outer:List Env) (s:Shared) (H:Hp) (vs:List V) (Q:VK) (E:XK),Room k (A.deeper (PyProof.Rows.envOfC qual (defScope st) s.heap.objs.size f cdv))→sp vs H Q E →
   ∃ t,PSs (cxOf CX P w K mg base N qual (defScope st) f cdv A outer s H E).nox (defBody st) t∧t { nx:=fun _ H'=>Q .non H',rt:=Q } (start N vs) H):FnOk P w K mg base CX (k + 1) f fd ps sp:=by
 obtain ⟨oc,od,kV,doc,pm,an,cdv,ct,osl,rfl,lk,hcd⟩:=F.ex;refine fn_of lk hcd S len fun A outer s H vs Q E hr hsp=>?_;obtain ⟨t,h,q⟩:=hbody cdv A outer s H vs Q E hr hsp;exact ⟨t,h.nox,q⟩
theorem fnf:¬ (("name" : Str) = "fields"):=by decide +kernel
theorem fno:¬ (("name" : Str) = "owner"):=by decide +kernel
noncomputable def kflds (n f o:V):List (Str×V):=putF "owner" o (putF "fields" f (putF "name" n []))
theorem zEb (n f o:V):(kflds n f o).lookup ("name" : Str)=some n:=by
 unfold kflds;rw [zA9,if_neg fno,zA9,if_neg fnf,zA9,if_pos rfl]
theorem zD6 (n f o:V):(kflds n f o).lookup ("owner" : Str)=some o:=by
 unfold kflds;rw [zA9,if_pos rfl]
structure KCls (K:PySem.W.Frag) (mg:Str→Option Value) (C fI:Addr):Prop where
 cl:Cls K C
 nN:NoAttr K C "name"
 nF:NoAttr K C "fields"
 nO:NoAttr K C "owner"
 mgC:mg "Kind" = some (.ref C)
 mkd:Mk K C fI
theorem name_any {G G':Addr→Prop}{H H':Hp}{v:V}{d:PyData} (h:Has G H v d) (e:nameD d=true):Has G' H' v d:=by
 cases h with
 | str x a b=>exact .str x a b
 | non=>cases e
 | bl b=>cases e
 | int i=>cases e
 | lst _ _ _ _=>cases e
 | tup _ _ _ _=>cases e
theorem names_any {G G':Addr→Prop}{H H':Hp}:∀ {xs:List V}{ds:List PyData},HasAll G H xs ds→ds.all nameD=true→HasAll G' H' xs ds
 | _,_,.nil,_=>.nil
 | _,_,.cons h t,e=>by
  rw [Y8,Y0] at e;exact .cons (name_any h e.1) (names_any t e.2)
theorem zDr {ds:List PyData} (h:unlikeB ds=true):ds.all nameD=true:=by
 have z:(ds.all nameD && decide (strsOf ds).Nodup)=true:=h;rw [Y0] at z;exact z.1
noncomputable def ownerD (n:Str):PyData→Bool
 | .none=>true
 | .str o=>nameB o && !decide (o=n)
 | _=>false
noncomputable def spInit (C:Addr):Sp:=fun vs H Q _=>∃ (p dx:Addr) (vf vo:V) (n:Str) (ds:List PyData) (od:PyData),vs=[.ref p,.str n,vf,vo]∧H p=some (.ins C dx [])∧n.length≤1000∧PyData.strOk n=true∧nameB n=true ∧
 Has Any H vf (.list ds)∧fieldsB (.list ds)=true∧Has Any H vo od∧ownerD n od=true∧countD ds≤8 ∧
 ∀ (H':Hp) (l:Addr),H' p=some (.ins C dx (kflds (.str n) (.ref l) vo))→Has (fun a=>H a=none) H' (.ref l) (.list ds)→(∀ b o,H b=some o→b≠p→H' b=some o)→Q .non H'
section
variable {P:Program}{w:World}{K:PySem.W.Frag}{mg:Str→Option Value}{base:Heap}{CX:CXT}
theorem scKi:FnScope ["self", "name", "fields", "owner"] ["self", "name", "fields", "owner"] (defScope sInit):=⟨rfl,rfl,rfl,by decide +kernel,rfl,by decide +kernel,by decide +kernel⟩
theorem k_both {R:Hp→Prop}{H1:Hp}{B:Prop} (t:∀ Hx,Same H1 Hx→R Hx) (h:(∀ Hx,Same H1 Hx→R Hx)→B):B:=h t
theorem ok_init {f C ff fc fp fu fn:Addr}{fd fdf fdc fdp fdu fdn:FuncData}{dV:Value} (hC:Calm CX) (T:Tops K mg) (F:FunD K "__init__" "Kind.__init__" sInit dV f fd) (KC:KCls K mg C f) (DN:Def K mg "is_name" sIsName ["thing"] fn fdn)
  (DU:Def K mg "are_unlike_names" sUnlike ["things"] fu fdu) (DP:Def K mg "is_pair_with_values" sPair ["thing"] fp fdp) (DF:Def K mg "are_fields" sFields ["things"] ff fdf) (DC:Def K mg "count_states" sCount ["fields"] fc fdc) :
  FnOk P w K mg base CX 5 f fd ["self", "name", "fields", "owner"] (spInit C):=by
 have GN:FnOk P w K mg base CX 1 fn fdn ["thing"] spNameD:=zCk DN.fn T;have GF:FnOk P w K mg base CX 4 ff fdf ["things"] spFields:=ok_fields hC T DF.fn DN DU DP;have GC:FnOk P w K mg base CX 1 fc fdc ["fields"] spCount:=ok_count T DC.fn;refine F.okC scKi (fun vs H Q E h=>?_) (fun cdv A outer s H vs Q E hr h=>?_)
 ·obtain ⟨p,dx,vf,vo,n,ds,od,rfl,_⟩:=h;rfl
 ·obtain ⟨p,dx,vf,vo,n,ds,od,rfl,hp,hn1,hn2,hn3,hf,hfb,ho,hob,hc8,k⟩:=h;have hr1:=hr.mono (show 1≤4 by decide);obtain ⟨tm,hmost⟩:=T.mostS
  refine ⟨_,zA2 (zB1 (zAs (zAr (zAc GN hr1 rfl DN.at_ DN.fn.kp DN.bind .nil (passC hC) (zA0 (pv 1) zA4)))) zAk zAf)
   (zA2 (zB1 (zAs (zAr (zAc GF hr rfl DF.at_ DF.fn.kp DF.bind .nil (passC hC) (zA0 (pv 2) zA4)))) zAk zAf)
   (zA2 (zB1 (PW.pt (pw_and (zC6 (zE8 (pv 3))) (zE2 (PW.pt (zCo (zAs (zAr (zAc GN hr1 rfl DN.at_ DN.fn.kp DN.bind .nil (passC hC) (zA0 (pv 3) zA4)))) (zBt (zAp op_eq (pv 3) (pv 1) (nomark _)))))))) zAk zAf)
   (zA2 (zB1 (zAp op_gt (zAc GC hr1 rfl DC.at_ DC.fn.kp DC.bind .nil (passC hC) (zA0 (pv 2) zA4)) (zBk (v:=.int 8) rfl hmost ⟨_,rfl⟩) (nomark _)) zAk zAf)
   (zA2 (zBu (pv 0) (pv 1) rfl)
   (zA2 (zBu (pv 0) (zAn (T:=["field"]) rfl ScOk.auto (zAg (pv 2)) (fun _ _ _ _=>zA8 (i:=4) (by decide +kernel:(["self", "name", "fields", "owner", "field"]:List Str).Nodup) rfl (Or.inl rfl)) (fun _ _ _ _=>zAy)
    (fun _ _ _ _=>zDd (zA0 (zBp (r:=rIxT K) ix_tup (pv 4) zAa (fun _ _=>rfl)) (zA0 (zAo (r:=fun xs H Q=>∃ p ys,xs=[.ref p]∧(SqL K H p ys∨SqT K H p ys)∧∀ l,H l=none→Q (.ref l) (upd H l (.lst ys))) zB0 rfl T.list PyProof.Rows.boot_list (zA0 (zBp (r:=rIxT K) ix_tup (pv 4) zAa (fun _ _=>rfl)) zA4)) zA4)))) rfl)
   (zA6 (zBu (pv 0) (pv 3) rfl))))))),?_⟩
  refine ⟨_,rfl,_,.str n,rfl,.str n hn1 hn2,fun H1 s1=>⟨_,rfl,?_⟩⟩;rw [show nameD (.str n)=true from hn3];refine iteF ⟨_,rfl,_,.list ds,rfl,hf.mono s1,fun H2 s2=>⟨_,rfl,?_⟩⟩;rw [hfb];have s12:=s1.trans s2;refine iteF ?_;have fb:ds.all pairB=true∧unlikeB (ds.map firstD)=true:=by
   have z:(ds.all pairB && unlikeB (ds.map firstD))=true:=hfb;rw [Y0] at z;exact z
  have sh:vo=V.non∨∃ o,vo=V.str o∧o.length≤1000∧PyData.strOk o=true∧nameB o=true∧¬ o=n:=by
   cases ho with
   | bl b=>cases hob
   | int i=>cases hob
   | lst _ _ _ _=>cases hob
   | tup _ _ _ _=>cases hob
   | non=>exact .inl rfl
   | str o o1 o2 =>
    have z:(nameB o && !decide (o=n))=true:=hob;rw [Y0] at z;exact .inr ⟨o,rfl,o1,o2,z.1,by simpa using z.2⟩
  refine' k_both (H1:=H) _ (fun k2=>_);rotate_left 2
  ·rcases sh with e | ⟨o,e,o1,o2,e1,e2⟩
   ·refine ⟨_,rfl,_,rfl,?_⟩;rw [decide_eq_true e];exact iteF (iteF (k2 H2 s12))
   ·refine ⟨_,rfl,_,rfl,?_⟩;rw [decide_eq_false (show ¬ vo=V.non by rw [e];intro z;cases z)];refine iteT ?_;refine ⟨_,rfl,vo,.str o,rfl,(by rw [e];exact .str o o1 o2),fun H3 s3=>⟨_,rfl,?_⟩⟩;rw [show nameD (.str o)=true from e1];refine iteF ⟨_,rfl,_,rfl,(by rw [e];rfl),_,rfl,?_⟩;rw [decide_eq_false (show ¬ vo=V.str n by rw [e];intro z;injection z with z;exact e2 z)];exact iteF (k2 H3 (s12.trans s3))
  ·intro H3 s3;refine ⟨_,rfl,_,ds,rfl,hf.mono s3,fb.1,_,_,rfl,rfl,_,rfl,?_⟩;refine ite2 (fun h=>absurd (of_decide_eq_true h) (by omega)) (fun _=>?_);refine ⟨_,rfl,_,rfl,p,C,dx,[],rfl,s3 _ _ hp,KC.cl,KC.nN,(by show 0 < 1000;decide),?_⟩;have fr:∀ (H':Hp) (o':HO),(∃ fs,H' p=some (.ins C dx fs))→∀ (a:Addr) (o:HO),Any a→isSeq o→H' a=some o→Any a∧(upd H' p o') a=some o:=by
    rintro H' o' ⟨fs,e⟩ a o _ hs q;refine ⟨trivial,?_⟩;rw [zA5]
    ·exact q
    ·rintro rfl;rw [e] at q;cases q;exact hs
   have hf4:Has Any (upd H3 p (.ins C dx (putF "name" (.str n) []))) vf (.list ds):=(hf.mono s3).frameS (fr _ _ ⟨_,s3 _ _ hp⟩);obtain ⟨a,xs,rfl,_,ha,hz,hx⟩:=hf4.list_inv;have hp4:(upd H3 p (.ins C dx (putF "name" (.str n) []))) p=some (.ins C dx (putF "name" (.str n) [])):=zA1;have k4:∀ b o,H b=some o→b≠p→(upd H3 p (.ins C dx (putF "name" (.str n) []))) b=some o:=fun b o e hb=>by rw [zA5 hb];exact s3 _ _ e
   have n4:∀ b,(upd H3 p (.ins C dx (putF "name" (.str n) []))) b=none→H b=none:=fun b e=>by
    cases q:H b with
    | none=>rfl
    | some o =>
     by_cases hb:b=p
     ·subst hb;rw [hp4] at e;cases e
     ·rw [k4 b o q hb] at e;cases e
   generalize upd H3 p (.ins C dx (putF "name" (.str n) []))=H4 at ha hx hp4 k4 n4 ⊢;refine ⟨_,rfl,a,rfl,⟨xs,SqL.of ha⟩,zAd (xs:=xs) (fun i ys H'=>Same H4 H'∧HasAll (fun a=>H a=none) H' ys (ds.take i)) ⟨Same.refl _,.nil⟩ (fun i ys H' q=>SqL.of (q.1 _ _ ha)) (fun i ys H' hi q=>?_) ?_ ?_⟩
   ·have:=q.2.length;have:=Zx i ds;have:=small1000 hz;have:=hx.length;omega
   ·rintro i x ys H' hi ⟨s5,hy⟩ N hN;obtain ⟨d,hd',hv⟩:=hx.get hi;obtain ⟨b,x0,y0,nd,l,vs,zs,rfl,_,hb,rfl,hnm,rfl,_,hl,hzl,hvs,_,hun⟩:=zE9 hv (all_get fb.1 hd');have hnn:nameD nd=true:=by
     have z:=List.all_eq_true.mp (zDr fb.2) nd (List.mem_map.mpr ⟨_,Z4 hd',rfl⟩);exact z
    refine pick ?_;refine ⟨_,rfl,b,_,_,x0,rfl,rfl,SqT.of (s5 _ _ hb),rfl,_,rfl,b,_,_,_,rfl,rfl,SqT.of (s5 _ _ hb),rfl,l,zs,rfl,.inl (SqL.of (s5 _ _ hl)),fun l2 hl2=>⟨by show 2≤sizeLine;decide,fun t ht=>hN _ _ ⟨?_,?_⟩⟩⟩
    ·exact (s5.trans (Same.new hl2)).trans (Same.new ht)
    ·rw [Za,hd'];have s6:Same H' (upd (upd H' l2 (.lst zs)) t (.tup [x0,.ref l2])):=(Same.new hl2).trans (Same.new ht);refine (hy.mono s6).snoc (.tup ?_ zA1 (by show 2≤1000;decide) (.cons (name_any hnm hnn) (.cons (.lst ?_ ?_ hzl (names_any hvs (zDr hun))) .nil)))
     ·exact n4 _ (s5.free ((Same.new (o:=.lst zs) hl2).free ht))
     ·exact n4 _ (s5.free hl2)
     ·exact (Same.new ht) _ _ zA1
   ·rintro ys H' ⟨s5,hy⟩ l hl;have ll:ys.length≤1000:=by
     have:=hy.length;have:=Zx xs.length ds;have:=hx.length;omega
    rw [hx.length,Zd] at hy;have hp5:(upd H' l (.lst ys)) p=some (.ins C dx (putF "name" (.str n) [])):=(Same.new hl) _ _ (s5 _ _ hp4);refine ⟨_,rfl,p,C,dx,_,rfl,hp5,KC.cl,KC.nF,(by show 1 < 1000;decide),?_⟩;refine ⟨_,rfl,_,rfl,p,C,dx,_,rfl,zA1,KC.cl,KC.nO,(by have:=zCa "fields" (V.ref l) (putF "name" (V.str n) []);have:(putF "name" (V.str n) []).length=1:=rfl;omega),?_⟩;refine k _ l zA1 ?_ fun b o e hb=>?_
    ·have h0:Has (fun a=>H a=none) (upd H' l (.lst ys)) (.ref l) (.list ds):=.lst (n4 _ (s5.free hl)) zA1 ll (hy.mono (Same.new hl));refine h0.frame fun b o g q=>⟨g,?_⟩;have hb:b≠p:=fun z=>by rw [z,hp] at g;cases g
     rw [zA5 hb,zA5 hb];exact q
    ·rw [zA5 hb,zA5 hb];exact (Same.new hl) _ _ (s5 _ _ (k4 b o e hb))
end
end My
namespace L2.W
open PySem My
noncomputable def nameOk (x:Str):Prop:=nameB x=true∧PyData.strOk x=true∧x.length≤8
structure ValsOk (vs:List Str):Prop where
 ne:0 < vs.length
 le:vs.length≤8
 nd:vs.Nodup
 ok:∀ x∈vs,nameOk x
noncomputable def manyOf (fs:List (Str×List Str)):Nat:=fs.foldl (fun m f=>m * f.2.length) 1
structure FieldsOk (fs:List (Str×List Str)):Prop where
 le:fs.length≤3
 nd:(fs.map (·.1)).Nodup
 ok:∀ f∈fs,nameOk f.1∧ValsOk f.2
 many:manyOf fs≤8
theorem pickT {K:PySem.W.Frag}{A B:St→Hp→Prop}{σ : St}{H:Hp}{i j:Nat}{p:Addr}{x y:V} (hp:SqT K H p [x,y]) (h:A ((σ.set i (some x)).set j (some y)) H) :
  gTup K 2 (gCons (gName i) (gCons (gName j) gNil)) (.ref p) σ H fun σ2 H2=>tYes σ2 H2 fun b H3=>if b=true then A σ2 H3 else B σ2 H3:=by
 refine ⟨p,[x,y],rfl,hp,rfl,x,[y],rfl,y,[],rfl,rfl,?_⟩;show if true=true then A ((σ.set i (some x)).set j (some y)) H else B ((σ.set i (some x)).set j (some y)) H
 rw [if_pos rfl];exact h
theorem zBl {G:Addr→Prop}{H:Hp}:∀ {ks:List Str},(∀ x∈ks,nameOk x)→HasAll G H (ks.map V.str) (ks.map .str)
 | [],_=>.nil
 | k :: r,h=>.cons (.str k (by have:=(h k Zj).2.2;omega) (h k Zj).2.1) (zBl fun x hx=>h x (Zi _ hx))
end L2.W
namespace L2.W
open PySem My
theorem zDs:∀ ks:List Str,strsOf (ks.map PyData.str)=ks
 | []=>rfl
 | k :: r=>by
  show k :: strsOf (r.map PyData.str)=k :: r;rw [zDs r]
theorem zD9 {ks:List Str} (h:∀ x∈ks,nameB x=true) (nd:ks.Nodup):unlikeB (ks.map PyData.str)=true:=by
 unfold unlikeB;rw [zDs,decide_eq_true nd,Bool.and_true,List.all_eq_true];intro d hd;obtain ⟨x,hx,rfl⟩:=List.mem_map.mp hd;exact h x hx
structure Row where
 name:Str
 fields:List (Str×List Str)
 owner:Option Str
structure RowsOk (rs:List Row):Prop where
 ne:0 < rs.length
 le:rs.length≤5
 nd:(rs.map (·.name)).Nodup
 ok:∀ r∈rs,nameOk r.name∧FieldsOk r.fields
 own:∀ (i:Nat) (r:Row) (o:Str),rs[i]? = some r→r.owner=some o→∃ (j:Nat) (r':Row),j < i∧rs[j]? = some r'∧r'.name=o
noncomputable def Ready (done:List Str) (r:Row):Prop:=r.name∉done∧∀ o,r.owner=some o→o∈done
noncomputable def Greedy (M:Row→Prop) (ord:List Str):Prop:=∀ (i:Nat) (n:Str),ord[i]? = some n→(∃ r,M r∧r.name=n∧Ready (ord.take i) r)∧∀ r,M r→Ready (ord.take i) r→¬ ltS r.name n
theorem Greedy.nil {M:Row→Prop}:Greedy M []:=fun i n h=>by simp at h
theorem Greedy.snoc {M:Row→Prop}{ord:List Str}{n:Str} (g:Greedy M ord) (h1:∃ r,M r∧r.name=n∧Ready ord r) (h2:∀ r,M r→Ready ord r→¬ ltS r.name n):Greedy M (ord++[n]):=by
 intro i m e;by_cases hi:i < ord.length
 ·have e':ord[i]? = some m:=by rwa [Zm hi] at e
  have t:(ord++[n]).take i=ord.take i:=List.take_append_of_le_length (Zt hi);rw [t];exact g i m e'
 ·have hi2:i=ord.length:=by
   have:=(List.getElem?_eq_some_iff.mp e).1;simp at this;omega
  subst hi2;have:n=m:=by simpa using e
  subst this;have t:(ord++[n]).take ord.length=ord:=by simp
  rw [t];exact ⟨h1,h2⟩
theorem Greedy.nodup {M:Row→Prop}{ord:List Str} (g:Greedy M ord):ord.Nodup:=by
 suffices h:∀ k,(ord.take k).Nodup by
  have:=h ord.length
  rwa [Zd] at this
 intro k
 induction k with
 | zero=>simp
 | succ k ih =>
  cases e:ord[k]? with
  | none=>rw [Za,e];simpa using ih
  | some n =>
   obtain ⟨⟨r,_,e1,r1⟩,_⟩:=g k n e;rw [Za,e];refine List.nodup_append.mpr ⟨ih,by simp,fun a ha b hb=>?_⟩;have:b=n:=by simpa using hb
   rw [this];rintro rfl;exact r1.1 (e1 ▸ ha)
theorem Greedy.mem {M:Row→Prop}{ord:List Str} (g:Greedy M ord) {n:Str} (h:n∈ord):∃ r,M r∧r.name=n:=by
 obtain ⟨i,hi,e⟩:=Zo h;obtain ⟨⟨r,m,e1,_⟩,_⟩:=g i n (by rw [Z1 hi,e]);exact ⟨r,m,e1⟩
theorem zDa {α : Type} [DecidableEq α]:∀ {a b:List α},a.Nodup→(∀ x∈a,x∈b)→a.length≤b.length
 | [],_,_,_=>Zn _
 | x :: r,b,nd,h=>by
  have hx:=h x Zj;obtain ⟨n1,n2⟩:=List.nodup_cons.mp nd;have:=zDa (a:=r) (b:=b.erase x) n2 fun y hy=>(List.mem_erase_of_ne (by rintro rfl;exact n1 hy)).mpr (h y (Zi _ hy));rw [List.length_erase_of_mem hx] at this;have:=List.length_pos_of_mem hx;simp;omega
theorem Greedy.le {rs:List Row}{ord:List Str} (g:Greedy (·∈rs) ord):ord.length≤rs.length:=by
 have:=zDa (b:=rs.map (·.name)) g.nodup fun n hn=>by
  obtain ⟨r,m,e⟩:=g.mem hn;exact List.mem_map.mpr ⟨r,m,e⟩
 rwa [Z0] at this
theorem progress {rs:List Row} (ok:RowsOk rs) {ord:List Str} (h:ord.length < rs.length):∃ r∈rs,Ready ord r:=by
 have ex:∃ (i:Nat) (r:Row),rs[i]? = some r∧r.name∉ord:=Classical.byContradiction fun hn=>by
  have:=zDa (b:=ord) ok.nd fun n hm=>by
   obtain ⟨r,hr,rfl⟩:=List.mem_map.mp hm;obtain ⟨i,hi,e⟩:=Zo hr;exact Classical.byContradiction fun k=>hn ⟨i,r,by rw [Z1 hi,e],k⟩
  rw [Z0] at this;omega
 obtain ⟨i,r,hi,hr⟩:=ex;revert r
 induction i using Nat.strongRecOn with
 | _ i ih =>
  intro r hi hr;by_cases c:∀ o,r.owner=some o→o∈ord
  ·exact ⟨r,Z4 hi,hr,c⟩
  ·have:∃ o,r.owner=some o∧o∉ord:=Classical.byContradiction fun k=>c fun o e=>Classical.byContradiction fun m=>k ⟨o,e,m⟩;obtain ⟨o,e,no⟩:=this;obtain ⟨j,r',hj,e1,e2⟩:=ok.own i r o hi e;exact ih j hj r' e1 (by rw [e2];exact no)
end L2.W
namespace L2.W
open PySem My
structure KIsi (K:PySem.W.Frag) (C:Addr):Prop where
 ha:PySem.W.findIn K (.ref C) "__class__" = some (some (.builtin "object.__class__"))
 hn:PySem.W.specialIn K (.builtin "object.__class__") "__get__" = some (some (.builtin "getset_descriptor.__get__"))
 htk:PySem.W.takesIn K (.builtin "object.__class__")=some true
 hm:PySem.W.mroIn K C (.type "object")=some true
 one:PySem.W.kitOne K (.ref C) (.ref C)=some true
noncomputable def ownV:Option Str→V
 | none=>.non
 | some o=>.str o
noncomputable def KindO (C:Addr) (H:Hp) (p:Addr) (r:Row):Prop:=∃ dx l,H p=some (.ins C dx (kflds (.str r.name) (.ref l) (ownV r.owner)))
noncomputable abbrev KL (C:Addr) (H:Hp):List Addr→List Row→Prop:=Paired fun p r=>KindO C H p r
theorem zAi {α β : Type}{R : α→β→Prop}:∀ {l:List α}{m:List β}{i:Nat}{a : α},Paired R l m→l[i]? = some a→∃ b,m[i]? = some b∧R a b
 | _,_,_,_,.nil,e=>by simp at e
 | _,_,0,a,.cons r _,e=>by
  simp at e;subst e;exact ⟨_,rfl,r⟩
 | _,_,i + 1,a,.cons _ t,e=>by
  obtain ⟨b,h1,h2⟩:=zAi (i:=i) (a:=a) t (by simpa using e);exact ⟨b,by simpa using h1,h2⟩
theorem KindO.mono {C:Addr}{H H':Hp}{p:Addr}{r:Row} (h:KindO C H p r) (k:∀ b o,H b=some o→(∃ C dx fs,o=.ins C dx fs)→H' b=some o):KindO C H' p r:=by
 obtain ⟨dx,l,e⟩:=h;exact ⟨dx,l,k _ _ e ⟨_,_,_,rfl⟩⟩
noncomputable def RowsP (rs:List Row):Prop:=∃ rs0,RowsOk rs0∧rs.Perm rs0
theorem RowsP.nd {rs:List Row} (h:RowsP rs):(rs.map (·.name)).Nodup:=by
 obtain ⟨r0,ok,p⟩:=h;exact (p.map _).nodup_iff.mpr ok.nd
theorem RowsP.le {rs:List Row} (h:RowsP rs):0 < rs.length∧rs.length≤5:=by
 obtain ⟨r0,ok,p⟩:=h;have:=p.length_eq;have:=ok.ne;have:=ok.le;omega
theorem RowsP.ok {rs:List Row} (h:RowsP rs):∀ r∈rs,nameOk r.name∧FieldsOk r.fields:=by
 obtain ⟨r0,ok,p⟩:=h;exact fun r hr=>ok.ok r (p.mem_iff.mp hr)
theorem RowsP.progress {rs:List Row} (h:RowsP rs) {ord:List Str} (hl:ord.length < rs.length):∃ r∈rs,Ready ord r:=by
 obtain ⟨r0,ok,p⟩:=h;obtain ⟨r,hr,q⟩:=L2.W.progress ok (ord:=ord) (by rw [← p.length_eq];exact hl);exact ⟨r,p.mem_iff.mpr hr,q⟩
noncomputable def spAreKinds (C:Addr):Sp:=fun vs H Q _=>∃ (l:Addr) (ps:List Addr) (rs:List Row),vs=[.ref l]∧H l=some (.lst (ps.map V.ref))∧KL C H ps rs∧RowsP rs∧∀ H',Same H H'→Q (.bl true) H'
section
variable {P:Program}{w:World}{K:PySem.W.Frag}{mg:Str→Option Value}{base:Heap}{CX:CXT}
theorem scAk:FnScope ["things"] ["things"] (defScope sAreKinds):=⟨rfl,rfl,rfl,by decide +kernel,rfl,by decide +kernel,by decide +kernel⟩
theorem ok_areKinds {f fu fn C fI:Addr}{fd fdu fdn:FuncData} (hC:Calm CX) (T:Tops K mg) (KC:KCls K mg C fI) (KI:KIsi K C) (F:Fun K "are_kinds" "are_kinds" sAreKinds f fd) (DN:Def K mg "is_name" sIsName ["thing"] fn fdn)
  (DU:Def K mg "are_unlike_names" sUnlike ["things"] fu fdu):FnOk P w K mg base CX 3 f fd ["things"] (spAreKinds C):=by
 have GU:FnOk P w K mg base CX 2 fu fdu ["things"] spUnlike:=zC0 hC T DU.fn DN;refine Fun.okC F scAk (fun vs H Q E h=>?_) (fun cdv A outer s H vs Q E hr h=>?_)
 ·obtain ⟨l,ps,rs,rfl,_⟩:=h;rfl
 ·obtain ⟨l,ps,rs,rfl,hl,hk,rp,k⟩:=h
  refine ⟨_,zA2 (zB1 (PW.pt (zCo (zAs (zAr (zA7 zAl rfl T.isinst PyProof.Rows.boot_isinstance (zA0 (pv 0) (zA0 (zBa (v:=.ty "list") rfl T.list PyProof.Rows.boot_list rfl) zA4)))))
    (zBt (zAp op_eq (zA7 zAe rfl T.len PySem.boot_len (zA0 (pv 0) zA4)) zAa (nomark _))))) (zA6 (zAj zCh)) zAf)
   (zA2 (zB1 (zAs (zAr (zA7 (zBi rfl) rfl T.all PyProof.Rows.boot_all (zA0 (zAn (T:=["thing"]) rfl ScOk.auto (zAg (pv 0)) (fun _ _ _ _=>zA8 (i:=1) (by decide +kernel:(["things", "thing"]:List Str).Nodup) rfl (Or.inl rfl)) (fun _ _ _ _=>zAy)
    (fun _ _ _ _=>zA7 (zC3 (K:=K) rfl) rfl T.isinst PyProof.Rows.boot_isinstance (zA0 (pv 1) (zA0 (zBk (v:=.ref C) rfl KC.mgC rfl) zA4)))) zA4)))) (zA6 (zAj zCh)) zAf)
   (zA6 (zAj (zAc GU hr rfl DU.at_ DU.fn.kp DU.bind .nil (passC hC) (zA0 (zAn (T:=["kind"]) rfl ScOk.auto (zAg (pv 0)) (fun _ _ _ _=>zA8 (i:=1) (by decide +kernel:(["things", "kind"]:List Str).Nodup) rfl (Or.inl rfl)) (fun _ _ _ _=>zAy)
    (fun _ _ _ _=>zBz (K:=K) rfl (pv 1) rfl)) zA4))))),?_⟩
  have len:ps.length=rs.length:=Paired.length hk;obtain ⟨l0,l5⟩:=rp.le;have small:∀ n:Nat,n≤1000→n≤sizeLine:=fun n h=>Zt (small1000 h);refine ⟨_,rfl,_,_,_,_,_,rfl,.lst hl,rfl,rfl,_,rfl,iteF ?_⟩;refine ⟨_,rfl,l,_,rfl,.inl (SqL.of hl),rfl,_,rfl,?_⟩;rw [decide_eq_false (show ¬ V.int ((ps.map V.ref).length:Int)=V.int 0 by intro z0;injection z0 with z0;rw [Z0] at z0;omega)];refine iteF ?_;refine ⟨_,rfl,l,rfl,⟨_,SqL.of hl⟩,zAd (xs:=ps.map V.ref) (fun i ys H'=>H=H'∧ys=(List.replicate i true).map V.bl) ⟨rfl,rfl⟩ (fun i ys H' p=>by rw [← p.1];exact SqL.of hl) (fun i ys H' hi p=>?_) ?_ ?_⟩
  ·rw [p.2,Z0,Y6];rw [Z0] at hi;exact small _ (by omega)
  ·rintro i x ys H' hi ⟨rfl,rfl⟩ N hN;rw [Z8] at hi;cases ep:ps[i]? with
   | none=>rw [ep] at hi;cases hi
   | some p =>
    rw [ep] at hi;cases hi;obtain ⟨r,er,dx,lf,e⟩:=zAi hk ep;refine pick ?_;refine ⟨_,rfl,_,_,_,_,_,rfl,.ins e KC.cl KI.ha KI.hn KI.htk KI.hm,rfl,KI.one,hN _ _ ⟨rfl,?_⟩⟩;rw [List.replicate_succ',Z6];rfl
  ·rintro ys H' ⟨rfl,rfl⟩ q hq;rw [Z0];have s1:Same H (upd H q (.lst ((List.replicate ps.length true).map V.bl))):=Same.new hq;refine ⟨q,List.replicate ps.length true,rfl,SqL.of zA1,_,rfl,?_⟩;have ea:(List.replicate ps.length true).all id=true:=by simp
   rw [ea];refine iteF ?_;generalize upd H q (.lst ((List.replicate ps.length true).map V.bl))=H2 at s1 ⊢;refine ⟨_,rfl,l,rfl,⟨_,SqL.of (s1 _ _ hl)⟩,zAd (xs:=ps.map V.ref) (fun i ys H'=>H2=H'∧ys=((rs.take i).map (·.name)).map V.str) ⟨rfl,rfl⟩ (fun i ys H' p=>by rw [← p.1];exact SqL.of (s1 _ _ hl)) (fun i ys H' hi p=>?_) ?_ ?_⟩
   ·rw [p.2,Z0,Z0];have:(rs.take i).length≤rs.length:=by rw [Zc];omega
    exact small _ (by omega)
   ·rintro i x ys H' hi ⟨rfl,rfl⟩ N hN;rw [Z8] at hi;cases ep:ps[i]? with
    | none=>rw [ep] at hi;cases hi
    | some p =>
     rw [ep] at hi;cases hi;obtain ⟨r,er,dx,lf,e⟩:=zAi hk ep;refine pick ?_;refine ⟨_,rfl,p,C,dx,_,_,rfl,s1 _ _ e,KC.cl,KC.nN,zEb _ _ _,hN _ _ ⟨rfl,?_⟩⟩;rw [Za,er,Z6,Z6];rfl
   ·rintro ys H' ⟨rfl,rfl⟩ q2 hq2;rw [Z0,len,Zd];refine ⟨_,(rs.map (·.name)).map PyData.str,rfl,.lst trivial zA1 (by rw [Z0,Z0];omega) (zBl fun x hx=>?_),fun H4 s4=>?_⟩
    ·obtain ⟨r,hr,rfl⟩:=List.mem_map.mp hx;exact (rp.ok r hr).1
    ·rw [zD9 (fun x hx=>?_) rp.nd]
     ·exact k _ (s1.trans ((Same.new hq2).trans s4))
     ·obtain ⟨r,hr,rfl⟩:=List.mem_map.mp hx;exact (rp.ok r hr).1.1
end
end L2.W
namespace L2.W
open PySem My
noncomputable def lamPos:Pos:=⟨63,31,63,53⟩
noncomputable def lamQ:Str:=(("placed_by_owners" : Str)++".<locals>.")++"<lambda>"
noncomputable def readyB (done:List Str) (r:Row):Bool:=decide (r.name∉done) && (match r.owner with | none=>true | some o=>decide (o∈done))
theorem readyB_iff {done:List Str}{r:Row}:readyB done r=true ↔ Ready done r:=by
 unfold readyB Ready;cases r.owner with
 | none=>simp
 | some o=>simp
noncomputable abbrev Placed (zs:List (Addr×Row)):List Str→List (Key×V)→Prop:=Paired fun n kv=>∃ q∈zs,kv=(Sum.inr n,V.ref q.1)∧q.2.name=n
theorem Placed.val {zs:List (Addr×Row)}:∀ {ord:List Str}{kvs:List (Key×V)},Placed zs ord kvs→∀ n:Str,(valV kvs (Sum.inr n)).isSome=decide (n∈ord)
 | _,_,.nil,n=>by simp [valV]
 | m :: ord,kv :: kvs,.cons r t,n=>by
  obtain ⟨q,_,rfl,e⟩:=r;by_cases c:m=n
  ·rw [zBf (by rw [c])];simp [c]
  ·rw [zB6 (by intro z;exact c (Sum.inr.inj z)),Placed.val t n];simp [Ne.symm c]
theorem Placed.get {zs:List (Addr×Row)}:∀ {ord:List Str}{kvs:List (Key×V)},Placed zs ord kvs→∀ n:Str,n∈ord→∃ q∈zs,valV kvs (Sum.inr n)=some (V.ref q.1)∧q.2.name=n
 | _,_,.nil,n,h=>by cases h
 | m :: ord,kv :: kvs,.cons r t,n,h=>by
  obtain ⟨q,hq,rfl,e⟩:=r;by_cases c:m=n
  ·exact ⟨q,hq,zBf (by rw [c]),e.trans c⟩
  ·rcases List.mem_cons.mp h with h | h
   ·exact absurd h.symm c
   ·obtain ⟨q',h1,h2,h3⟩:=Placed.get t n h;exact ⟨q',h1,by rw [zB6 (by intro z;exact c (Sum.inr.inj z))];exact h2,h3⟩
theorem zDf {α β : Type}{R : α→β→Prop}:∀ {l:List α}{m:List β}{a : α}{b : β},Paired R l m→R a b→Paired R (l++[a]) (m++[b])
 | _,_,_,_,.nil,r=>.cons r .nil
 | _,_,_,_,.cons r t,q=>.cons r (zDf t q)
theorem zD3 {kvs:List (Key×V)}{k:Key}{v:V} (h:(valV kvs k).isSome=false):putK kvs k v=kvs++[(k,v)]:=by
 unfold putK;rw [zD2,h];rfl
structure Zs (C:Addr) (H:Hp) (zs:List (Addr×Row)):Prop where
 at_:∀ q∈zs,KindO C H q.1 q.2
 nd:(zs.map fun q=>q.2.name).Nodup
 le:zs.length≤50
theorem Zs.mono {C:Addr}{H H':Hp}{zs:List (Addr×Row)} (z:Zs C H zs) (k:∀ b o,H b=some o→(∃ C dx fs,o=.ins C dx fs)→H' b=some o):Zs C H' zs:=⟨fun q hq=>(z.at_ q hq).mono k,z.nd,z.le⟩
noncomputable def spPlaced (C Pt:Addr):Sp:=fun vs H Q _=>∃ (l:Addr) (zs:List (Addr×Row)),vs=[.ref l]∧H l=some (.lst (zs.map fun q=>V.ref q.1))∧Zs C H zs∧TabOk H Pt lamPos lamQ ∧
 ∀ (d:Addr) (ord:List Str) (kvs:List (Key×V)) (H':Hp),H d=none→H' d=some (.dK kvs)→Placed zs ord kvs→Greedy (·∈zs.map (·.2)) ord→(∀ r∈zs.map (·.2),¬ Ready ord r)→TabOk H' Pt lamPos lamQ→GrownBut Pt H H'→Q (.ref d) H'
theorem _root_.L2.GrownBut.trans {P:Addr}{a b c:Hp} (x:GrownBut P a b) (y:GrownBut P b c):GrownBut P a c:=fun p o e n=>y p o (x p o e n) n
theorem _root_.L2.GrownBut.same {P:Addr}{a b:Hp} (x:Same a b):GrownBut P a b:=fun p o e _=>x p o e
theorem _root_.L2.TabOk.same {H H':Hp}{P:Addr}{pos:Pos}{q:Str} (T:TabOk H P pos q) (k:Same H H'):TabOk H' P pos q:=T.stay k
theorem _root_.L2.TabOk.upd {H:Hp}{P:Addr}{pos:Pos}{q:Str}{p:Addr}{u o:HO} (T:TabOk H P pos q) (hp:H p=some u) (h1:∀ ps,u≠.tbl ps) (h2:∀ f,u≠.ext f):TabOk (upd H p o) P pos q :=
 T.but hp h1 h2 fun b x e nb=>by rw [zA5 nb];exact e
theorem zBr {zs:List (Addr×Row)}{i:Nat}{q:Addr×Row} (p:Addr×Row→Bool) (h:zs[i]? = some q):(zs.take (i + 1)).filter p=if p q=true then (zs.take i).filter p++[q] else (zs.take i).filter p:=by
 rw [Za,h,Yc];cases e:p q <;> simp [e]
section
variable {P:Program}{w:World}{K:PySem.W.Frag}{mg:Str→Option Value}{base:Heap}{CX:CXT}
theorem scPl:FnScope ["kinds", "placed", "ready", "first"] ["kinds"] (defScope sPlaced):=⟨rfl,rfl,rfl,by decide +kernel,rfl,by decide +kernel,by decide +kernel⟩
theorem ok_placed {f C fI c Pt:Addr}{fd:FuncData} (hC:Calm CX) (T:Tops K mg) (KC:KCls K mg C fI) (LT:LamTxt K mg base c Pt) (F:FunL K "placed_by_owners" "placed_by_owners" sPlaced f fd c):FnOk P w K mg base CX 4 f fd ["kinds"] (spPlaced C Pt):=by
 refine FunL.okC F scPl (fun vs H Q E h=>?_) (fun A outer s H vs Q E hr h=>?_)
 ·obtain ⟨l,zs,rfl,_⟩:=h;rfl
 ·obtain ⟨l,zs,rfl,hl,hz,hT,k⟩:=h;have nd:=scPl.nd;have hr2:=hr.mono (show 2≤3 by decide);have hu:=hu_of hr
  refine ⟨_,zA2 (zAh (i:=1) nd rfl (Or.inr rfl) zCg)
   (zA2 (zB3 (T:=["kind"]) (i:=2) rfl ScOk.auto (zAg (pv 0)) (fun _ _ _ _=>zA8 (i:=4) (by decide +kernel:(["kinds", "placed", "ready", "first", "kind"]:List Str).Nodup) rfl (Or.inl rfl))
    (fun _ _ _ _=>zC7 (zC6 (pc_isN (zBz (K:=K) rfl (pv 4) rfl)))) (fun _ _ _ _=>pv 4) nd rfl rfl rfl)
   (zA2 (zCc PassesOwn.never (zE3 (pv 2) (fun _=>rfl))
    (zA2 (zAh (i:=3) nd rfl (Or.inl rfl) (zDe LT rfl hr2 rfl rfl T.min (zA0 (pv 2) zA4) (by exact ⟨rfl,rfl,rfl,by decide +kernel,rfl⟩)))
    (zA2 (zCp hu (pv 1) (zB7 (pv 3) rfl) (pv 3) rfl)
    (zA6 (zB3 (T:=["kind"]) (i:=2) rfl ScOk.auto (zAg (pv 0)) (fun _ _ _ _=>zA8 (i:=4) (by decide +kernel:(["kinds", "placed", "ready", "first", "kind"]:List Str).Nodup) rfl (Or.inl rfl))
     (fun _ _ _ _=>zC7 (PW.pt (pw_and (zC6 (zCi hu (zBz (K:=K) rfl (pv 4) rfl) (pv 1))) (zE2 (PW.pt (zCo (zC6 (pc_isN (zBz (K:=K) rfl (pv 4) rfl))) (zBt (zC6 (pc_din hu (zBz (K:=K) rfl (pv 4) rfl) (pv 1)))))))))) (fun _ _ _ _=>pv 4) nd rfl rfl rfl)))))
   (zA6 (zAj (pv 1))))),?_⟩
  have small:∀ n:Nat,n≤1000→n≤sizeLine:=fun n h=>Zt (small1000 h);have flen:∀ (p:Addr×Row→Bool) (i:Nat),((zs.take i).filter p).length≤50:=fun p i=>by
   have h1:=Zl p (zs.take i);have h2:(zs.take i).length≤zs.length:=by rw [Zc];omega
   have:=hz.le;omega
  intro d hd;have g0:Same H (upd H d (.dK [])):=Same.new hd;have e0:(upd H d (.dK [])) d=some (.dK []):=zA1;generalize upd H d (.dK [])=H0 at g0 e0 ⊢;refine ⟨_,rfl,l,rfl,⟨_,SqL.of (g0 _ _ hl)⟩,zAd (xs:=zs.map fun q=>V.ref q.1) (fun i ys H'=>H0=H'∧ys=((zs.take i).filter (fun q=>readyB [] q.2)).map fun q=>V.ref q.1) ⟨rfl,rfl⟩ (fun i ys H' p=>by rw [← p.1];exact SqL.of (g0 _ _ hl)) (fun i ys H' hi p=>?_) ?_ ?_⟩
  ·rw [p.2,Z0];exact small _ (Zp (flen _ i) (by decide))
  ·rintro i x ys H' hi ⟨rfl,rfl⟩ N hN;rw [Z8] at hi;cases ep:zs[i]? with
   | none=>rw [ep] at hi;cases hi
   | some q =>
    rw [ep] at hi;cases hi;obtain ⟨dx,lf,e⟩:=hz.at_ q (Z4 ep);refine ⟨_,rfl,q.1,C,dx,_,_,rfl,g0 _ _ e,KC.cl,KC.nO,zD6 _ _ _,_,rfl,?_⟩;cases eo:q.2.owner with
    | none =>
     refine iteT ⟨_,rfl,hN _ _ ⟨rfl,?_⟩⟩;rw [zBr _ ep,if_pos (by simp [readyB,eo]),Z6];rfl
    | some o =>
     refine iteF (hN _ _ ⟨rfl,?_⟩);rw [zBr _ ep,if_neg (by simp [readyB,eo])]
  ·rintro ys H' ⟨rfl,rfl⟩ lr hlr;rw [Z0,Zd];have g1:Same H (upd H0 lr (.lst ((zs.filter fun q=>readyB [] q.2).map fun q=>V.ref q.1))):=g0.trans (Same.new hlr);have e1:=(Same.new (o:=.lst ((zs.filter fun q=>readyB [] q.2).map fun q=>V.ref q.1)) hlr) _ _ e0
   refine ⟨fun m σ H2=>∃ ord kvs lr x,m=zs.length - ord.length∧σ = [some (.ref l),some (.ref d),some (.ref lr),x]∧H2 d=some (.dK kvs)∧Placed zs ord kvs∧Greedy (·∈zs.map (·.2)) ord ∧
    H2 lr=some (.lst ((zs.filter fun q=>readyB ord q.2).map fun q=>V.ref q.1))∧TabOk H2 Pt lamPos lamQ∧GrownBut Pt H H2,⟨_,[],[],lr,none,rfl,rfl,e1,.nil,.nil,zA1,hT.same g1,.same g1⟩,?_⟩
   clear g1 e1 hlr e0 g0;rintro m σ H2 ⟨ord,kvs,lr,x,rfl,rfl,hd2,hpl,hgr,hlr,hT2,hG⟩;have hk2:∀ q∈zs,∃ dx lf,H2 q.1=some (.ins C dx (kflds (.str q.2.name) (.ref lf) (ownV q.2.owner))):=fun q hq=>by
    obtain ⟨dx,lf,e⟩:=hz.at_ q hq;exact ⟨dx,lf,hG _ _ e (hT.ne e fun _ z=>nomatch z)⟩
   refine ⟨_,rfl,_,.inl ⟨_,SqL.of hlr,rfl⟩,?_⟩;generalize ets:(zs.filter fun q=>readyB ord q.2)=ts at hlr ⊢;have mts:∀ q,q∈ts ↔ q∈zs∧Ready ord q.2:=fun q=>by rw [← ets,List.mem_filter,readyB_iff]
   by_cases c:ts=[]
   ·subst c;refine iteF ⟨_,rfl,k d ord kvs H2 hd hd2 hpl hgr (fun r hr z=>?_) hT2 hG⟩;obtain ⟨q,hq,rfl⟩:=List.mem_map.mp hr;have:=(mts q).mpr ⟨hq,z⟩;cases this
   ·have pos:0 < ts.length:=List.length_pos_iff.mpr c;rw [show (!(ts.map fun q=>V.ref q.1).isEmpty)=true by cases ts with | nil=>exact absurd rfl c | cons _ _=>rfl];refine iteT ?_
    refine ⟨fun σ' H'=>∃ m',m' < zs.length - ord.length∧∃ ord kvs lr x,m'=zs.length - ord.length∧σ'=[some (.ref l),some (.ref d),some (.ref lr),x]∧H' d=some (.dK kvs)∧Placed zs ord kvs∧Greedy (·∈zs.map (·.2)) ord ∧
     H' lr=some (.lst ((zs.filter fun q=>readyB ord q.2).map fun q=>V.ref q.1))∧TabOk H' Pt lamPos lamQ∧GrownBut Pt H H',fun _ _ h=>h,?_⟩
    refine ⟨_,rfl,lr,_,ts.map (·.2.name),rfl,SqL.of hlr,(by rw [Z0];exact pos),hT2,(by rw [Z0,Z0]),fun i v kx hi hk=>?_,fun i v kx H3 hi hk hbest hT3 hG3=>?_⟩
    ·rw [Z8] at hi hk;cases ep:ts[i]? with
     | none=>rw [ep] at hi;cases hi
     | some q =>
      rw [ep] at hi hk;cases hi;cases hk;obtain ⟨dx,lf,e⟩:=hk2 q ((mts q).mp (Z4 ep)).1;exact ⟨q.1,C,dx,_,rfl,e,KC.cl,KC.nN,zEb _ _ _⟩
    ·rw [Z8] at hi hk;cases ep:ts[i]? with
     | none=>rw [ep] at hi;cases hi
     | some q =>
      rw [ep] at hi hk;cases hi;cases hk;obtain ⟨hq,hrd⟩:=(mts q).mp (Z4 ep);have hG3':=hG.trans hG3;have hk3:∀ q∈zs,∃ dx lf,H3 q.1=some (.ins C dx (kflds (.str q.2.name) (.ref lf) (ownV q.2.owner))):=fun q hq=>by
       obtain ⟨dx,lf,e⟩:=hz.at_ q hq;exact ⟨dx,lf,hG3' _ _ e (hT.ne e fun _ z=>nomatch z)⟩
      obtain ⟨dx,lf,e⟩:=hk3 q hq;have hd3:H3 d=some (.dK kvs):=hG3 _ _ hd2 (hT2.ne hd2 fun _ z=>nomatch z);have kl:kvs.length=ord.length:=(Paired.length hpl).symm;have ol:ord.length≤zs.length:=by have:=hgr.le;rwa [Z0] at this
      refine ⟨_,rfl,_,rfl,_,rfl,q.1,C,dx,_,_,rfl,e,KC.cl,KC.nN,zEb _ _ _,d,_,rfl,DPut.k (k:=Sum.inr q.2.name) hd3 (Nat.lt_of_le_of_lt (Zp (Nat.le_of_eq kl) (Zp ol hz.le)) (small1000 (by decide))),?_⟩;have vn:(valV kvs (Sum.inr q.2.name)).isSome=false:=by rw [hpl.val];simpa using hrd.1
      rw [zD3 vn];have hpl':Placed zs (ord++[q.2.name]) (kvs++[(Sum.inr q.2.name,V.ref q.1)]):=zDf hpl ⟨q,hq,rfl,rfl⟩;have hgr':Greedy (·∈zs.map (·.2)) (ord++[q.2.name]):=hgr.snoc ⟨q.2,List.mem_map.mpr ⟨q,hq,rfl⟩,rfl,hrd⟩ fun r hr hrr=>by
       obtain ⟨q',hq',rfl⟩:=List.mem_map.mp hr;exact hbest _ (List.mem_map.mpr ⟨q',(mts q').mpr ⟨hq',hrr⟩,rfl⟩)
      have ol':(ord++[q.2.name]).length≤zs.length:=by have:=hgr'.le;rwa [Z0] at this
      have lt:zs.length - (ord++[q.2.name]).length < zs.length - ord.length:=by
       rw [Zk] at ol' ⊢;simp at ol' ⊢;omega
      generalize ord++[q.2.name]=ord' at hpl' hgr' lt;have hd4:(upd H3 d (.dK (kvs++[(Sum.inr q.2.name,V.ref q.1)]))) d=some (.dK (kvs++[(Sum.inr q.2.name,V.ref q.1)])):=zA1;have hT4:TabOk (upd H3 d (.dK (kvs++[(Sum.inr q.2.name,V.ref q.1)]))) Pt lamPos lamQ:=hT3.upd hd3 (fun _ z=>nomatch z) (fun _ z=>nomatch z);have hG4:GrownBut Pt H (upd H3 d (.dK (kvs++[(Sum.inr q.2.name,V.ref q.1)]))):=fun b o e n=>by
       rw [zA5 (zA3 e hd)];exact hG3' b o e n
      generalize upd H3 d (.dK (kvs++[(Sum.inr q.2.name,V.ref q.1)]))=H4 at hd4 hT4 hG4 ⊢;generalize kvs++[(Sum.inr q.2.name,V.ref q.1)]=kvs' at hd4 hpl';clear hk2 hk3;have hk4:∀ q∈zs,∃ dx lf,H4 q.1=some (.ins C dx (kflds (.str q.2.name) (.ref lf) (ownV q.2.owner))):=fun q hq=>by
       obtain ⟨dx,lf,e⟩:=hz.at_ q hq;exact ⟨dx,lf,hG4 _ _ e (hT.ne e fun _ z=>nomatch z)⟩
      have hl4:=hG4 _ _ hl (hT.ne hl fun _ z=>nomatch z);refine ⟨_,rfl,l,rfl,⟨_,SqL.of hl4⟩,zAd (xs:=zs.map fun q=>V.ref q.1) (fun i ys H'=>H4=H'∧ys=((zs.take i).filter (fun q=>readyB ord' q.2)).map fun q=>V.ref q.1) ⟨rfl,rfl⟩ (fun i ys H' p=>by rw [← p.1];exact SqL.of hl4) (fun i ys H' hi p=>?_) ?_ ?_⟩
      ·rw [p.2,Z0];exact small _ (Zp (flen _ i) (by decide))
      ·rintro i x ys H' hi ⟨rfl,rfl⟩ N hN;rw [Z8] at hi;cases ep:zs[i]? with
       | none=>rw [ep] at hi;cases hi
       | some q =>
        rw [ep] at hi;cases hi;obtain ⟨dx,lf,e⟩:=hk4 q (Z4 ep);have no:readyB ord' q.2=false→((zs.take i).filter (fun q=>readyB ord' q.2)).map (fun q=>V.ref q.1)=((zs.take (i + 1)).filter (fun q=>readyB ord' q.2)).map fun q=>V.ref q.1:=fun z=>by rw [zBr _ ep,if_neg (by rw [z];simp)]
        have ye:readyB ord' q.2=true→((zs.take i).filter (fun q=>readyB ord' q.2)).map (fun q=>V.ref q.1)++[V.ref q.1]=((zs.take (i + 1)).filter (fun q=>readyB ord' q.2)).map fun q=>V.ref q.1:=fun z=>by rw [zBr _ ep,if_pos z,Z6];rfl
        refine ⟨_,rfl,q.1,C,dx,_,_,rfl,e,KC.cl,KC.nN,zEb _ _ _,_,rfl,d,_,rfl,DGet.k (k:=Sum.inr q.2.name) hd4,_,rfl,?_⟩;rw [hpl'.val];by_cases c1:q.2.name∈ord'
        ·rw [decide_eq_true c1];refine iteF (iteF (hN _ _ ⟨rfl,no ?_⟩));simp [readyB,c1]
        ·rw [decide_eq_false c1];refine iteT ⟨_,rfl,q.1,C,dx,_,_,rfl,e,KC.cl,KC.nO,zD6 _ _ _,_,rfl,?_⟩;cases eo:q.2.owner with
         | none =>
          refine iteT (iteT ⟨_,rfl,hN _ _ ⟨rfl,ye ?_⟩⟩);simp [readyB,c1,eo]
         | some o =>
          have ev:(kflds (.str q.2.name) (.ref lf) (ownV q.2.owner)).lookup ("owner" : Str)=some (.str o):=by rw [zD6,eo];rfl
          refine iteF ⟨_,rfl,q.1,C,dx,_,_,rfl,e,KC.cl,KC.nO,ev,_,rfl,d,_,rfl,DGet.k (k:=Sum.inr o) hd4,_,rfl,?_⟩;rw [hpl'.val];by_cases c2:o∈ord'
          ·rw [decide_eq_true c2];refine iteT ⟨_,rfl,hN _ _ ⟨rfl,ye ?_⟩⟩;simp [readyB,c1,eo,c2]
          ·rw [decide_eq_false c2];refine iteF (hN _ _ ⟨rfl,no ?_⟩);simp [readyB,c1,eo,c2]
      ·rintro ys H' ⟨rfl,rfl⟩ lr' hlr';rw [Z0,Zd];exact ⟨_,lt,ord',kvs',lr',_,rfl,rfl,(Same.new hlr') _ _ hd4,hpl',hgr',zA1,hT4.same (Same.new hlr'),hG4.trans (.same (Same.new hlr'))⟩
end
end L2.W
namespace L2.W
open PySem My
theorem call_len_dict {X:Cx}:CallR X (.builtin "len") (fun vs H Q=>∃ d kvs,vs=[.ref d]∧Rd H d (.dK kvs)∧Q (.int (kvs.length:Nat)) H):=by
 intro pins s σ H vs us Q I rv h;obtain ⟨d,kvs,rfl,rd,q⟩:=h;obtain ⟨u,rfl,ru⟩:=v1 rv;cases (show u=Value.ref d from ru);exact d_len I rd fun t s' I'=>⟨.int _,H,I',⟨t,rfl⟩,q⟩
structure KsCls (K:PySem.W.Frag) (mg:Str→Option Value) (CK fI fOr fOf fOw:Addr):Prop where
 cl:Cls K CK
 nB:NoAttr K CK "by_name"
 mgC:mg "Kinds" = some (.ref CK)
 mkd:Mk K CK fI
 mOr:Meth K CK "order" fOr
 mOf:Meth K CK "of" fOf
 mOw:Meth K CK "owned" fOw
noncomputable def ksF (d:V):List (Str×V):=putF "by_name" d []
theorem ks_by (d:V):(ksF d).lookup ("by_name" : Str)=some d:=by
 unfold ksF;rw [zA9,if_pos rfl]
theorem ks_no {m:Str} (d:V) (h:¬ m = "by_name"):(ksF d).lookup m=none:=by
 unfold ksF;rw [zA9,if_neg h];rfl
noncomputable def KindsAt (CK:Addr) (H:Hp) (p d:Addr) (kvs:List (Key×V)):Prop:=(∃ dx,H p=some (.ins CK dx (ksF (.ref d))))∧Rd H d (.dK kvs)
theorem KindsAt.mono {CK:Addr}{H H':Hp}{p d:Addr}{kvs:List (Key×V)} (h:KindsAt CK H p d kvs) (k:∀ b o,H b=some o→(∃ C dx fs,o=.ins C dx fs)∨(∃ kvs,o=.dK kvs)∨(∃ x u,o=.frz x u)→H' b=some o):KindsAt CK H' p d kvs:=by
 obtain ⟨⟨dx,e⟩,r⟩:=h;refine ⟨⟨dx,k _ _ e (.inl ⟨_,_,_,rfl⟩)⟩,?_⟩;rcases r with r | ⟨o,r⟩
 ·exact .inl (k _ _ r (.inr (.inl ⟨_,rfl⟩)))
 ·exact .inr ⟨o,k _ _ r (.inr (.inr ⟨_,_,rfl⟩))⟩
noncomputable def spInitKs (CK C Pt:Addr):Sp:=fun vs H Q _=>∃ (p dx l:Addr) (zs:List (Addr×Row)),vs=[.ref p,.ref l]∧H p=some (.ins CK dx [])∧H l=some (.lst (zs.map fun q=>V.ref q.1))∧Zs C H zs∧RowsP (zs.map (·.2))∧TabOk H Pt lamPos lamQ ∧
 ∀ (d:Addr) (ord:List Str) (kvs:List (Key×V)) (H':Hp),H' p=some (.ins CK dx (ksF (.ref d)))→H d=none→H' d=some (.dK kvs)→Placed zs ord kvs→Greedy (·∈zs.map (·.2)) ord→ord.length=zs.length→TabOk H' Pt lamPos lamQ →
  (∀ b o,H b=some o→b≠p→b≠Pt→H' b=some o)→Q .non H'
noncomputable def spOrder (CK:Addr):Sp:=fun vs H Q _=>∃ (p d:Addr) (kvs:List (Key×V)),vs=[.ref p]∧KindsAt CK H p d kvs∧∀ q,H q=none→Q (.ref q) (upd H q (.lst (kvs.map fun kv=>kV kv.1)))
noncomputable def spOf (CK:Addr):Sp:=fun vs H Q _=>∃ (p d:Addr) (kvs:List (Key×V)) (n:Str) (v:V),vs=[.ref p,.str n]∧nameOk n∧KindsAt CK H p d kvs∧valV kvs (Sum.inr n)=some v∧∀ H',Same H H'→Q v H'
section
variable {P:Program}{w:World}{K:PySem.W.Frag}{mg:Str→Option Value}{base:Heap}{CX:CXT}
theorem scKs:FnScope ["self", "kinds", "placed"] ["self", "kinds"] (defScope sInitKs):=⟨rfl,rfl,rfl,by decide +kernel,rfl,by decide +kernel,by decide +kernel⟩
theorem ok_initKs {f fI fa fp fu fn C CK fIk fOr fOf fOw c Pt:Addr}{fd fda fdp fdu fdn:FuncData} (hC:Calm CX) (T:Tops K mg) (KC:KCls K mg C fI) (KI:KIsi K C) (KS:KsCls K mg CK fIk fOr fOf fOw) (LT:LamTxt K mg base c Pt) (F:Fun K "__init__" "Kinds.__init__" sInitKs f fd)
  (DN:Def K mg "is_name" sIsName ["thing"] fn fdn) (DU:Def K mg "are_unlike_names" sUnlike ["things"] fu fdu) (DA:Def K mg "are_kinds" sAreKinds ["things"] fa fda) (DP:FunL K "placed_by_owners" "placed_by_owners" sPlaced fp fdp c) (DPa:mg "placed_by_owners" = some (.ref fp)) (DPb:Binds K fdp ["kinds"] []) :
  FnOk P w K mg base CX 5 f fd ["self", "kinds"] (spInitKs CK C Pt):=by
 have GA:FnOk P w K mg base CX 3 fa fda ["things"] (spAreKinds C):=ok_areKinds hC T KC KI DA.fn DN DU;have GP:FnOk P w K mg base CX 4 fp fdp ["kinds"] (spPlaced C Pt):=ok_placed hC T KC LT DP;refine Fun.okC F scKs (fun vs H Q E h=>?_) (fun cdv A outer s H vs Q E hr h=>?_)
 ·obtain ⟨p,dx,l,zs,rfl,_⟩:=h;rfl
 ·obtain ⟨p,dx,l,zs,rfl,hp,hl,hz,rp,hT,k⟩:=h;have nd:=scKs.nd;have hr3:=hr.mono (show 3≤4 by decide)
  refine ⟨_,zA2 (zB1 (zAs (zAr (zAc GA hr3 rfl DA.at_ DA.fn.kp DA.bind .nil (passC hC) (zA0 (pv 1) zA4)))) zAk zAf)
   (zA2 (zAh (i:=2) nd rfl (Or.inl rfl) (zAc GP hr rfl DPa DP.kp DPb .nil (passC hC) (zA0 (pv 1) zA4)))
   (zA2 (zB1 (zAp op_lt (zA7 call_len_dict rfl T.len PySem.boot_len (zA0 (pv 2) zA4)) (zA7 zAe rfl T.len PySem.boot_len (zA0 (pv 1) zA4)) (nomark _)) zAk zAf)
   (zA6 (zBu (pv 0) (pv 2) rfl)))),?_⟩
  have kl:KL C H (zs.map (·.1)) (zs.map (·.2)):=by
   have:=hz.at_;clear hl hz rp k
   induction zs with
   | nil=>exact .nil
   | cons q t ih=>exact .cons (this q Zj) (ih fun q' h=>this q' (Zi _ h))
  refine ⟨_,rfl,l,zs.map (·.1),zs.map (·.2),rfl,(by rw [Zv];exact hl),kl,rp,fun H1 s1=>⟨_,rfl,iteF ?_⟩⟩;refine ⟨_,rfl,l,zs,rfl,s1 _ _ hl,hz.mono fun b o e _=>s1 _ _ e,hT.same s1,fun d ord kvs H2 hd hd2 hpl hgr hno hT2 hG=>?_⟩;have nT:∀ {b:Addr}{o:HO},H b=some o→(∀ ps,o≠.tbl ps)→H2 b=some o:=fun e h=>hG _ _ (s1 _ _ e) (hT.ne e h);have full:ord.length=zs.length:=by
   have a:=hgr.le;rw [Z0] at a;refine Nat.le_antisymm a (Nat.le_of_not_lt fun lt=>?_);obtain ⟨r,hr,q⟩:=rp.progress (ord:=ord) (by rw [Z0];exact lt);exact hno r hr q
  have hp2:=nT hp fun _ z=>nomatch z;have hl2:=nT hl fun _ z=>nomatch z;refine ⟨_,rfl,d,kvs,rfl,.inl hd2,_,rfl,l,_,rfl,.inl (SqL.of hl2),_,_,rfl,rfl,_,rfl,?_⟩;have kvl:kvs.length=ord.length:=(Paired.length hpl).symm;refine ite2 (fun h=>absurd (of_decide_eq_true h) (by rw [Z0];omega)) (fun _=>?_);refine ⟨_,rfl,_,rfl,p,CK,dx,[],rfl,hp2,KS.cl,KS.nB,(by show 0 < 1000;decide),?_⟩;have dp:d≠p:=Ne.symm (zA3 (s1 _ _ hp) hd);refine k d ord kvs _ zA1 ?_ (by rw [zA5 dp];exact hd2) hpl hgr full (hT2.upd hp2 (fun _ z=>nomatch z) (fun _ z=>nomatch z)) fun b o e n1 n2=>?_
  ·exact s1.free hd
  ·rw [zA5 n1];exact hG _ _ (s1 _ _ e) n2
theorem scOr:FnScope ["self"] ["self"] (defScope sOrder):=⟨rfl,rfl,rfl,by decide +kernel,rfl,by decide +kernel,by decide +kernel⟩
theorem ok_order {f CK fIk fOr fOf fOw:Addr}{fd:FuncData} (T:Tops K mg) (KS:KsCls K mg CK fIk fOr fOf fOw) (F:Fun K "order" "Kinds.order" sOrder f fd):FnOk P w K mg base CX 1 f fd ["self"] (spOrder CK):=by
 refine Fun.okC F scOr (fun vs H Q E h=>?_) (fun cdv A outer s H vs Q E hr h=>?_)
 ·obtain ⟨p,d,kvs,rfl,_⟩:=h;rfl
 ·obtain ⟨p,d,kvs,rfl,⟨⟨dx,hp⟩,rd⟩,k⟩:=h;refine ⟨_,zA6 (zAj (zAo zC9 rfl T.list PyProof.Rows.boot_list (zA0 (zB7 (pv 0) rfl) zA4))),?_⟩;exact ⟨_,rfl,p,CK,dx,_,_,rfl,hp,KS.cl,KS.nB,ks_by _,d,kvs,rfl,rd,rfl,fun q hq=>k q hq⟩
theorem scOf:FnScope ["self", "name"] ["self", "name"] (defScope sOf):=⟨rfl,rfl,rfl,by decide +kernel,rfl,by decide +kernel,by decide +kernel⟩
theorem zE0 {H H':Hp}{d:Addr}{u:HO} (s:Same H H') (r:Rd H d u):Rd H' d u:=by
 rcases r with r | ⟨o,r⟩
 ·exact .inl (s _ _ r)
 ·exact .inr ⟨o,s _ _ r⟩
theorem ok_of {f fn CK fIk fOr fOf fOw:Addr}{fd fdn:FuncData} (hC:Calm CX) (T:Tops K mg) (KS:KsCls K mg CK fIk fOr fOf fOw) (F:Fun K "of" "Kinds.of" sOf f fd) (DN:Def K mg "is_name" sIsName ["thing"] fn fdn):FnOk P w K mg base CX 2 f fd ["self", "name"] (spOf CK):=by
 have GN:FnOk P w K mg base CX 1 fn fdn ["thing"] spNameD:=zCk DN.fn T;refine Fun.okC F scOf (fun vs H Q E h=>?_) (fun cdv A outer s H vs Q E hr h=>?_)
 ·obtain ⟨p,d,kvs,n,v,rfl,_⟩:=h;rfl
 ·obtain ⟨p,d,kvs,n,v,rfl,nn,⟨⟨dx,hp⟩,rd⟩,hv,k⟩:=h;have hu:=hu_of hr
  refine ⟨_,zA2 (zB1 (PW.pt (zCo (zAs (zAr (zAc GN hr rfl DN.at_ DN.fn.kp DN.bind .nil (passC hC) (zA0 (pv 1) zA4)))) (zBt (zC6 (zCi hu (pv 1) (zB7 (pv 0) rfl)))))) zAk zAf)
   (zA6 (zAj (zB5 hu (zB7 (pv 0) rfl) (pv 1) (fun _ _=>rfl)))),?_⟩
  refine ⟨_,rfl,_,.str n,rfl,.str n (Zp nn.2.2 (by decide)) nn.2.1,fun H1 s1=>⟨_,rfl,?_⟩⟩;rw [show nameD (.str n)=true from nn.1];refine iteF ⟨_,rfl,_,rfl,p,CK,dx,_,_,rfl,s1 _ _ hp,KS.cl,KS.nB,ks_by _,d,_,rfl,.inl ⟨kvs,Sum.inr n,zE0 s1 rd,rfl,rfl⟩,_,rfl,?_⟩;rw [hv];refine iteF ?_;exact ⟨_,rfl,p,CK,dx,_,_,rfl,s1 _ _ hp,KS.cl,KS.nB,ks_by _,_,rfl,d,v,rfl,.inl ⟨kvs,Sum.inr n,zE0 s1 rd,rfl,hv.symm⟩,k _ s1⟩
end
end L2.W
namespace L2.W
open PySem My
structure RCls (K:PySem.W.Frag) (mg:Str→Option Value) (CR fR CH fH CT fT CA fA CC CD:Addr):Prop where
 r:Cls K CR
 rI:KIsi K CR
 rk:NoAttr K CR "kind"
 rc:NoAttr K CR "change"
 rd:NoAttr K CR "condition"
 rb:NoAttr K CR "behind"
 rm:mg "Rule" = some (.ref CR)
 rM:Mk K CR fR
 h:Cls K CH
 hI:KIsi K CH
 hn:NoAttr K CH "name"
 hr:NoAttr K CH "rules"
 hm:mg "Hand" = some (.ref CH)
 hM:Mk K CH fH
 t:Cls K CT
 tI:KIsi K CT
 tm:mg "ToTake" = some (.ref CT)
 tM:MkN K CT
 ts:Meth K CT "suits" fT
 a:Cls K CA
 aI:KIsi K CA
 am:mg "Always" = some (.ref CA)
 aM:MkN K CA
 as:Meth K CA "suits" fA
 cm:mg "Change" = some (.ref CC)
 ck:PySem.W.kitOne K (.ref CT) (.ref CC)=some true
 dm:mg "Condition" = some (.ref CD)
 dk:PySem.W.kitOne K (.ref CA) (.ref CD)=some true
 tne:CT≠CH
 ane:CA≠CH
noncomputable def rF (k c d b:V):List (Str×V):=putF "behind" b (putF "condition" d (putF "change" c (putF "kind" k [])))
noncomputable def hF (n r:V):List (Str×V):=putF "rules" r (putF "name" n [])
theorem zE1 (k c d b:V):(rF k c d b).lookup ("kind" : Str)=some k:=by
 unfold rF;rw [zA9,if_neg (by decide +kernel),zA9,if_neg (by decide +kernel),zA9,if_neg (by decide +kernel),zA9,if_pos rfl]
theorem rF_change (k c d b:V):(rF k c d b).lookup ("change" : Str)=some c:=by
 unfold rF;rw [zA9,if_neg (by decide +kernel),zA9,if_neg (by decide +kernel),zA9,if_pos rfl]
theorem rF_cond (k c d b:V):(rF k c d b).lookup ("condition" : Str)=some d:=by
 unfold rF;rw [zA9,if_neg (by decide +kernel),zA9,if_pos rfl]
theorem rF_behind (k c d b:V):(rF k c d b).lookup ("behind" : Str)=some b:=by
 unfold rF;rw [zA9,if_pos rfl]
theorem hF_name (n r:V):(hF n r).lookup ("name" : Str)=some n:=by
 unfold hF;rw [zA9,if_neg (by decide +kernel),zA9,if_pos rfl]
theorem zD7 (n r:V):(hF n r).lookup ("rules" : Str)=some r:=by
 unfold hF;rw [zA9,if_pos rfl]
noncomputable abbrev Ru:=Str×List Str
structure RuOk (x:Ru):Prop where
 n:nameOk x.1
 b:∀ y∈x.2,nameOk y
 nd:x.2.Nodup
 no:x.1∉x.2
 le:x.2.length≤50
noncomputable def RuAt (CR CT CA:Addr) (H:Hp) (v:V) (x:Ru):Prop:=∃ p dx t dt a da l,v=.ref p∧H p=some (.ins CR dx (rF (.str x.1) (.ref t) (.ref a) (.ref l)))∧H t=some (.ins CT dt [])∧H a=some (.ins CA da [])∧H l=some (.lst (x.2.map V.str))
theorem RuAt.mono {CR CT CA:Addr}{H H':Hp}{v:V}{x:Ru} (h:RuAt CR CT CA H v x) (s:Same H H'):RuAt CR CT CA H' v x:=by
 obtain ⟨p,dx,t,dt,a,da,l,e,h1,h2,h3,h4⟩:=h;exact ⟨p,dx,t,dt,a,da,l,e,s _ _ h1,s _ _ h2,s _ _ h3,s _ _ h4⟩
noncomputable def HaAt (CR CH CT CA:Addr) (H:Hp) (v:V) (x:Str×List Ru):Prop:=∃ p dx l vs,v=.ref p∧H p=some (.ins CH dx (hF (.str x.1) (.ref l)))∧H l=some (.lst vs)∧Paired (RuAt CR CT CA H) vs x.2
theorem zAb {α β : Type}{R R' : α→β→Prop}{a:List α}{b:List β} (h:Paired R a b) (f:∀ x y,R x y→R' x y):Paired R' a b:=by
 induction h with
 | nil=>exact .nil
 | cons r _ ih=>exact .cons (f _ _ r) ih
theorem HaAt.mono {CR CH CT CA:Addr}{H H':Hp}{v:V}{x:Str×List Ru} (h:HaAt CR CH CT CA H v x) (s:Same H H'):HaAt CR CH CT CA H' v x:=by
 obtain ⟨p,dx,l,vs,e,h1,h2,h3⟩:=h;exact ⟨p,dx,l,vs,e,s _ _ h1,s _ _ h2,zAb h3 fun _ _ r=>r.mono s⟩
theorem RuAt.but {CR CH CT CA p dx:Addr}{H H':Hp}{v:V}{x:Ru} (h:RuAt CR CT CA H v x) (n1:CT≠CH) (n2:CA≠CH) (hp:H p=some (.ins CH dx [])) (g:∀ b o,H b=some o→b≠p→H' b=some o):RuAt CR CT CA H' v x:=by
 obtain ⟨q,dx',t,dt,a,da,l,e,h1,h2,h3,h4⟩:=h;refine ⟨q,dx',t,dt,a,da,l,e,g _ _ h1 ?_,g _ _ h2 ?_,g _ _ h3 ?_,g _ _ h4 ?_⟩ <;> rintro rfl
 ·rw [hp] at h1;have h1:=Zg h1;injection h1 with _ _ h1;have:=zE1 (.str x.1) (.ref t) (.ref a) (.ref l);rw [← h1] at this;cases this
 ·rw [hp] at h2;cases h2;exact n1 rfl
 ·rw [hp] at h3;cases h3;exact n2 rfl
 ·rw [hp] at h4;cases h4
noncomputable def spOther:Sp:=fun vs H Q _=>∃ (l:Addr) (x:Ru),vs=[.str x.1,.ref l]∧H l=some (.lst (x.2.map V.str))∧RuOk x∧∀ H',Same H H'→Q (.bl true) H'
noncomputable def spRule (CR CT CA:Addr):Sp:=fun vs H Q _=>∃ (p dx t dt a da l:Addr) (x:Ru),vs=[.ref p,.str x.1,.ref t,.ref a,.ref l]∧H p=some (.ins CR dx [])∧H t=some (.ins CT dt [])∧H a=some (.ins CA da [])∧H l=some (.lst (x.2.map V.str))∧RuOk x∧p≠t∧p≠a∧p≠l ∧
 ∀ (H':Hp),RuAt CR CT CA H' (.ref p) x→(∀ b o,H b=some o→b≠p→H' b=some o)→Q .non H'
noncomputable def spHand (CR CH CT CA:Addr):Sp:=fun vs H Q _=>∃ (p dx l:Addr) (n:Str) (rs:List V) (xs:List Ru),vs=[.ref p,.str n,.ref l]∧H p=some (.ins CH dx [])∧nameOk n∧H l=some (.lst rs)∧Paired (RuAt CR CT CA H) rs xs∧xs.length≤100 ∧
 ∀ (H':Hp),HaAt CR CH CT CA H' (.ref p) (n,xs)→(∀ b o,H b=some o→b≠p→H' b=some o)→Q .non H'
theorem zBc {n:Str}:∀ ks:List Str,inV (.str n) (ks.map V.str)=decide (n∈ks)
 | []=>by simp [inV]
 | k :: r=>by
  have:=zBc (n:=n) r;unfold inV at this ⊢;rw [Zq,Y9,this];by_cases c:k=n
  ·subst c;simp [eqV]
  ·have h1:eqV (.str k) (.str n)=false:=by
    unfold eqV;simp [c]
   rw [h1];simp [Ne.symm c]
theorem flats (ks:List Str):(ks.map V.str).all flatV=true:=by
 rw [List.all_eq_true];intro x hx;obtain ⟨k,_,rfl⟩:=List.mem_map.mp hx;rfl
section
variable {P:Program}{w:World}{K:PySem.W.Frag}{mg:Str→Option Value}{base:Heap}{CX:CXT}
theorem scOk:FnScope ["kind", "things"] ["kind", "things"] (defScope sOtherKinds):=⟨rfl,rfl,rfl,by decide +kernel,rfl,by decide +kernel,by decide +kernel⟩
theorem ok_other {f fu fn:Addr}{fd fdu fdn:FuncData} (hC:Calm CX) (T:Tops K mg) (F:Fun K "are_other_kinds" "are_other_kinds" sOtherKinds f fd) (DN:Def K mg "is_name" sIsName ["thing"] fn fdn) (DU:Def K mg "are_unlike_names" sUnlike ["things"] fu fdu):FnOk P w K mg base CX 3 f fd ["kind", "things"] spOther:=by
 have GU:FnOk P w K mg base CX 2 fu fdu ["things"] spUnlike:=zC0 hC T DU.fn DN;refine Fun.okC F scOk (fun vs H Q E h=>?_) (fun cdv A outer s H vs Q E hr h=>?_)
 ·obtain ⟨l,x,rfl,_⟩:=h;rfl
 ·obtain ⟨l,x,rfl,hl,ok,k⟩:=h;refine ⟨_,zA6 (zAj (zC8 (zA7 zAl rfl T.isinst PyProof.Rows.boot_isinstance (zA0 (pv 1) (zA0 (zBa (v:=.ty "list") rfl T.list PyProof.Rows.boot_list rfl) zA4))) (zC8 (zAc GU hr rfl DU.at_ DU.fn.kp DU.bind .nil (passC hC) (zA0 (pv 1) zA4)) (zCy (zBq zB8 (pv 0) (pv 1) rfl))))),?_⟩;have le:=ok.le;refine ⟨_,rfl,_,_,_,_,_,rfl,.lst hl,rfl,rfl,_,rfl,iteT ?_⟩;refine ⟨_,rfl,_,x.2.map .str,rfl,.lst trivial hl (by rw [Z0];omega) (zBl ok.b),fun H1 s1=>⟨_,rfl,?_⟩⟩;rw [zD9 (fun y hy=>(ok.b y hy).1) ok.nd];refine iteT ⟨_,rfl,_,rfl,l,_,rfl,.inl (SqL.of (s1 _ _ hl)),rfl,flats _,?_⟩;rw [zBc,decide_eq_false ok.no];exact k H1 s1
theorem scRu:FnScope ["self", "kind", "change", "condition", "behind"] ["self", "kind", "change", "condition", "behind"] (defScope sInitR):=⟨rfl,rfl,rfl,by decide +kernel,rfl,by decide +kernel,by decide +kernel⟩
theorem ok_rule {f fu fn fo CR fR CH fH CT fT CA fA CC CD:Addr}{fd fdu fdn fdo:FuncData} (hC:Calm CX) (T:Tops K mg) (R:RCls K mg CR fR CH fH CT fT CA fA CC CD) (F:Fun K "__init__" "Rule.__init__" sInitR f fd) (DN:Def K mg "is_name" sIsName ["thing"] fn fdn) (DU:Def K mg "are_unlike_names" sUnlike ["things"] fu fdu) (DO:Def K mg "are_other_kinds" sOtherKinds ["kind", "things"] fo fdo):FnOk P w K mg base CX 4 f fd ["self", "kind", "change", "condition", "behind"] (spRule CR CT CA):=by
 have GN:FnOk P w K mg base CX 1 fn fdn ["thing"] spNameD:=zCk DN.fn T;have GO:FnOk P w K mg base CX 3 fo fdo ["kind", "things"] spOther:=ok_other hC T DO.fn DN DU;refine Fun.okC F scRu (fun vs H Q E h=>?_) (fun cdv A outer s H vs Q E hr h=>?_)
 ·obtain ⟨p,dx,t,dt,a,da,l,x,rfl,_⟩:=h;rfl
 ·obtain ⟨p,dx,t,dt,a,da,l,x,rfl,hp,ht,ha,hl,ok,npt,npa,npl,k⟩:=h;have hr1:=hr.mono (show 1≤3 by decide)
  refine ⟨_,zA2 (zB1 (zAs (zAr (zAc GN hr1 rfl DN.at_ DN.fn.kp DN.bind .nil (passC hC) (zA0 (pv 1) zA4))))
     zAk zAf)
     (zA2 (zB1 (zAs (zAr (zA7 zAl rfl T.isinst PyProof.Rows.boot_isinstance (zA0 (pv 2) (zA0 (zBk (v:=.ref CC) rfl R.cm rfl) zA4)))))
     zAk zAf)
     (zA2 (zB1 (zAs (zAr (zA7 zAl rfl T.isinst PyProof.Rows.boot_isinstance (zA0 (pv 3) (zA0 (zBk (v:=.ref CD) rfl R.dm rfl) zA4)))))
     zAk zAf)
     (zA2 (zB1 (zAs (zAr (zAc GO hr rfl DO.at_ DO.fn.kp DO.bind .nil (passC hC) (zA0 (pv 1) (zA0 (pv 4) zA4)))))
     zAk zAf)
     (zA2 (zBu (pv 0) (pv 1) rfl)
     (zA2 (zBu (pv 0) (pv 2) rfl)
     (zA2 (zBu (pv 0) (pv 3) rfl)
     (zA6 (zBu (pv 0) (zAo zB0 rfl T.list PyProof.Rows.boot_list (zA0 (pv 4) zA4)) rfl)))))))),?_⟩
  refine ⟨_,rfl,_,.str x.1,rfl,.str _ (Zp ok.n.2.2 (by decide)) ok.n.2.1,fun H1 s1=>⟨_,rfl,?_⟩⟩;rw [show nameD (.str x.1)=true from ok.n.1];refine iteF ⟨_,rfl,_,_,_,_,_,rfl,.ins (s1 _ _ ht) R.t R.tI.ha R.tI.hn R.tI.htk R.tI.hm,rfl,R.ck,_,rfl,iteF ?_⟩;refine ⟨_,rfl,_,_,_,_,_,rfl,.ins (s1 _ _ ha) R.a R.aI.ha R.aI.hn R.aI.htk R.aI.hm,rfl,R.dk,_,rfl,iteF ?_⟩;refine ⟨_,rfl,_,rfl,l,x,rfl,s1 _ _ hl,ok,fun H2 s2=>⟨_,rfl,iteF ?_⟩⟩;have s12:=s1.trans s2;refine ⟨_,rfl,_,rfl,p,CR,dx,[],rfl,s12 _ _ hp,R.r,R.rk,(by show 0 < 1000;decide),?_⟩;refine ⟨_,rfl,_,rfl,p,CR,dx,_,rfl,zA1,R.r,R.rc,(by show 1 < 1000;decide),?_⟩;refine ⟨_,rfl,_,rfl,p,CR,dx,_,rfl,zA1,R.r,R.rd,(by show 2 < 1000;decide),?_⟩;have fr:∀ b o,H b=some o→b≠p→(upd (upd (upd H2 p (.ins CR dx (putF "kind" (.str x.1) []))) p (.ins CR dx (putF "change" (.ref t) (putF "kind" (.str x.1) [])))) p (.ins CR dx (putF "condition" (.ref a) (putF "change" (.ref t) (putF "kind" (.str x.1) []))))) b=some o:=fun b o e nb=>by rw [zA5 nb,zA5 nb,zA5 nb];exact s12 _ _ e
  have hp5:(upd (upd (upd H2 p (.ins CR dx (putF "kind" (.str x.1) []))) p (.ins CR dx (putF "change" (.ref t) (putF "kind" (.str x.1) [])))) p (.ins CR dx (putF "condition" (.ref a) (putF "change" (.ref t) (putF "kind" (.str x.1) []))))) p=some (.ins CR dx (putF "condition" (.ref a) (putF "change" (.ref t) (putF "kind" (.str x.1) [])))):=zA1;generalize upd (upd (upd H2 p (.ins CR dx (putF "kind" (.str x.1) []))) p (.ins CR dx (putF "change" (.ref t) (putF "kind" (.str x.1) [])))) p (.ins CR dx (putF "condition" (.ref a) (putF "change" (.ref t) (putF "kind" (.str x.1) []))))=H5 at fr hp5 ⊢;refine ⟨_,rfl,l,_,rfl,.inl (SqL.of (fr _ _ hl (Ne.symm npl))),fun l2 h2=>?_⟩;have n2:l2≠p:=Ne.symm (zA3 hp5 h2);refine ⟨_,rfl,p,CR,dx,_,rfl,(Same.new h2) _ _ hp5,R.r,R.rb,(by show 3 < 1000;decide),?_⟩;have keep:∀ b o,H b=some o→b≠p→(upd (upd H5 l2 (.lst (x.2.map V.str))) p (.ins CR dx (rF (.str x.1) (.ref t) (.ref a) (.ref l2)))) b=some o:=fun b o e nb=>by rw [zA5 nb];exact (Same.new h2) _ _ (fr b o e nb)
  exact k _ ⟨p,dx,t,dt,a,da,l2,rfl,zA1,keep _ _ ht (Ne.symm npt),keep _ _ ha (Ne.symm npa),by rw [zA5 n2];exact zA1⟩ keep
theorem scHd:FnScope ["self", "name", "rules"] ["self", "name", "rules"] (defScope sInitH):=⟨rfl,rfl,rfl,by decide +kernel,rfl,by decide +kernel,by decide +kernel⟩
theorem all_true (n:Nat):(List.replicate n true).all id=true:=by
 induction n with
 | zero=>rfl
 | succ n ih=>rw [List.replicate_succ,Y8,ih];rfl
theorem ok_hand {f fn CR fR CH fH CT fT CA fA CC CD:Addr}{fd fdn:FuncData} (hC:Calm CX) (T:Tops K mg) (R:RCls K mg CR fR CH fH CT fT CA fA CC CD) (F:Fun K "__init__" "Hand.__init__" sInitH f fd) (DN:Def K mg "is_name" sIsName ["thing"] fn fdn):FnOk P w K mg base CX 2 f fd ["self", "name", "rules"] (spHand CR CH CT CA):=by
 have GN:FnOk P w K mg base CX 1 fn fdn ["thing"] spNameD:=zCk DN.fn T;refine Fun.okC F scHd (fun vs H Q E h=>?_) (fun cdv A outer s H vs Q E hr h=>?_)
 ·obtain ⟨p,dx,l,n,rs,xs,rfl,_⟩:=h;rfl
 ·obtain ⟨p,dx,l,n,rs,xs,rfl,hp,nn,hl,hrs,xle,k⟩:=h
  refine ⟨_,zA2 (zB1 (zAs (zAr (zAc GN hr rfl DN.at_ DN.fn.kp DN.bind .nil (passC hC) (zA0 (pv 1) zA4))))
     zAk zAf)
     (zA2 (zB1 (PW.pt (zCo (zAs (zAr (zA7 zAl rfl T.isinst PyProof.Rows.boot_isinstance (zA0 (pv 2) (zA0 (zBa (v:=.ty "list") rfl T.list PyProof.Rows.boot_list rfl) zA4))))) (zBt (zAs (zAr (zA7 (zBi rfl) rfl T.all PyProof.Rows.boot_all (zA0 (zAn (T:=["rule"]) rfl ScOk.auto (zAg (pv 2)) (fun _ _ _ _=>zA8 (i:=3) (by decide +kernel:(["self", "name", "rules", "rule"]:List Str).Nodup) rfl (Or.inl rfl)) (fun _ _ _ _=>zAy) (fun _ _ _ _=>(zA7 (zC3 (K:=K) rfl) rfl T.isinst PyProof.Rows.boot_isinstance (zA0 (pv 3) (zA0 (zBk (v:=.ref CR) rfl R.rm rfl) zA4))))) zA4)))))))
     zAk zAf)
     (zA2 (zBu (pv 0) (pv 1) rfl)
     (zA6 (zBu (pv 0) (zAo zB0 rfl T.list PyProof.Rows.boot_list (zA0 (pv 2) zA4)) rfl)))),?_⟩
  have rl:=Paired.length hrs;refine ⟨_,rfl,_,.str n,rfl,.str _ (Zp nn.2.2 (by decide)) nn.2.1,fun H1 s1=>⟨_,rfl,?_⟩⟩;rw [show nameD (.str n)=true from nn.1];refine iteF ⟨_,rfl,_,_,_,_,_,rfl,.lst (s1 _ _ hl),rfl,rfl,_,rfl,iteF ?_⟩;have small:∀ n:Nat,n≤1000→n≤sizeLine:=fun n h=>Zt (small1000 h);refine ⟨_,rfl,l,rfl,⟨_,SqL.of (s1 _ _ hl)⟩,zAd (xs:=rs) (fun i ys H'=>H1=H'∧ys=List.replicate i (V.bl true)) ⟨rfl,rfl⟩ (fun i ys H' p=>by rw [← p.1];exact SqL.of (s1 _ _ hl)) (fun i ys H' hi p=>?_) ?_ ?_⟩
  ·rw [p.2,Y6];exact small _ (by omega)
  ·rintro i v ys H' hi ⟨rfl,rfl⟩ N hN;obtain ⟨x,ex,hx⟩:=zAi hrs hi;obtain ⟨q,dx',t,dt,a,da,l',rfl,h1,h2,h3,h4⟩:=hx.mono s1;refine pick ?_;exact ⟨_,rfl,_,_,_,_,_,rfl,.ins h1 R.r R.rI.ha R.rI.hn R.rI.htk R.rI.hm,rfl,R.rI.one,hN _ _ ⟨rfl,by rw [List.replicate_succ']⟩⟩
  ·rintro ys H' ⟨rfl,rfl⟩ c hc;refine ⟨c,List.replicate rs.length true,rfl,SqL.of (by rw [zA1,List.map_replicate]),_,rfl,?_⟩;rw [all_true];refine iteF ?_;have s2:Same H (upd H1 c (.lst (List.replicate rs.length (V.bl true)))):=s1.trans (Same.new hc);generalize upd H1 c (.lst (List.replicate rs.length (V.bl true)))=H2 at s2 ⊢;refine ⟨_,rfl,_,rfl,p,CH,dx,[],rfl,s2 _ _ hp,R.h,R.hn,(by show 0 < 1000;decide),?_⟩;have npl:l≠p:=by rintro rfl;rw [hp] at hl;cases hl
   refine ⟨_,rfl,l,_,rfl,.inl (SqL.of (by rw [zA5 npl];exact s2 _ _ hl)),fun l2 h2=>?_⟩;have n2:l2≠p:=Ne.symm (zA3 (zA1 (H:=H2)) h2);refine ⟨_,rfl,p,CH,dx,_,rfl,(Same.new h2) _ _ zA1,R.h,R.hr,(by show 1 < 1000;decide),?_⟩;have keep:∀ b o,H b=some o→b≠p→(upd (upd (upd H2 p (.ins CH dx (putF "name" (.str n) []))) l2 (.lst rs)) p (.ins CH dx (hF (.str n) (.ref l2)))) b=some o:=fun b o e nb=>by rw [zA5 nb];exact (Same.new h2) _ _ (by rw [zA5 nb];exact s2 _ _ e)
   exact k _ ⟨p,dx,l2,rs,rfl,zA1,by rw [zA5 n2];exact zA1,zAb hrs fun v x r=>r.but R.tne R.ane hp keep⟩ keep
end
end L2.W
namespace L2.W
open PySem My
noncomputable def spTrue2:Sp:=fun vs H Q _=>∃ a b,vs=[a,b]∧Q (.bl true) H
noncomputable def spTrue3:Sp:=fun vs H Q _=>∃ a b c,vs=[a,b,c]∧Q (.bl true) H
noncomputable def ordB (ord:List Str) (x:Ru):Bool:=(x.1 :: x.2).all fun y=>decide (y∈ord)
structure KOrd (CK:Addr) (H:Hp) (kq d:Addr) (kvs:List (Key×V)) (ord:List Str):Prop where
 ka:KindsAt CK H kq d kvs
 ks:kvs.map (·.1)=ord.map Sum.inr
 le:ord.length≤5
theorem KOrd.mono {CK:Addr}{H H':Hp}{kq d:Addr}{kvs:List (Key×V)}{ord:List Str} (h:KOrd CK H kq d kvs ord) (s:Same H H'):KOrd CK H' kq d kvs ord:=⟨h.ka.mono fun b o e _=>s _ _ e,h.ks,h.le⟩
theorem KOrd.list {CK:Addr}{H:Hp}{kq d:Addr}{kvs:List (Key×V)}{ord:List Str} (h:KOrd CK H kq d kvs ord):(kvs.map fun kv=>kV kv.1)=ord.map V.str:=by
 have:=congrArg (List.map kV) h.ks;rw [Zv,Zv] at this;exact this
theorem zDq {k:Str}:∀ {kvs:List (Key×V)},(Sum.inr k:Key)∈kvs.map (·.1)→∃ v,valV kvs (Sum.inr k)=some v
 | [],h=>by cases h
 | p :: r,h=>by
  by_cases c:p.1=Sum.inr k
  ·exact ⟨_,zBf c⟩
  ·rw [zB6 c];rcases List.mem_cons.mp h with e | h
   ·exact absurd e.symm c
   ·exact zDq h
theorem KOrd.val {CK:Addr}{H:Hp}{kq d:Addr}{kvs:List (Key×V)}{ord:List Str} (h:KOrd CK H kq d kvs ord) {k:Str} (hk:k∈ord):∃ v,valV kvs (Sum.inr k)=some v:=zDq (by rw [h.ks];exact List.mem_map.mpr ⟨k,hk,rfl⟩)
noncomputable def spSuits (CK CR CT CA:Addr):Sp:=fun vs H Q _=>∃ (kq d:Addr) (kvs:List (Key×V)) (ord:List Str) (v:V) (x:Ru),vs=[.ref kq,v]∧KOrd CK H kq d kvs ord∧RuAt CR CT CA H v x∧RuOk x∧∀ H',Same H H'→Q (.bl (ordB ord x)) H'
section
variable {P:Program}{w:World}{K:PySem.W.Frag}{mg:Str→Option Value}{base:Heap}{CX:CXT}
theorem scTs:FnScope ["self", "kind"] ["self", "kind"] (defScope sTtSuits):=⟨rfl,rfl,rfl,by decide +kernel,rfl,by decide +kernel,by decide +kernel⟩
theorem ok_tsuits {f:Addr}{fd:FuncData} (F:Fun K "suits" "ToTake.suits" sTtSuits f fd):FnOk P w K mg base CX 1 f fd ["self", "kind"] spTrue2:=by
 refine Fun.okC F scTs (fun vs H Q E h=>?_) (fun cdv A outer s H vs Q E hr h=>?_)
 ·obtain ⟨a,b,rfl,_⟩:=h;rfl
 ·obtain ⟨a,b,rfl,k⟩:=h;exact ⟨_,zA6 (zAj zCh),k⟩
theorem scAs:FnScope ["self", "kinds", "kind"] ["self", "kinds", "kind"] (defScope sAlSuits):=⟨rfl,rfl,rfl,by decide +kernel,rfl,by decide +kernel,by decide +kernel⟩
theorem ok_asuits {f:Addr}{fd:FuncData} (F:Fun K "suits" "Always.suits" sAlSuits f fd):FnOk P w K mg base CX 1 f fd ["self", "kinds", "kind"] spTrue3:=by
 refine Fun.okC F scAs (fun vs H Q E h=>?_) (fun cdv A outer s H vs Q E hr h=>?_)
 ·obtain ⟨a,b,c,rfl,_⟩:=h;rfl
 ·obtain ⟨a,b,c,rfl,k⟩:=h;exact ⟨_,zA6 (zAj zCh),k⟩
theorem scRs:FnScope ["kinds", "rule", "kind"] ["kinds", "rule"] (defScope sRuleSuits):=⟨rfl,rfl,rfl,by decide +kernel,rfl,by decide +kernel,by decide +kernel⟩
noncomputable abbrev nRs:List Str:=["kinds", "rule", "?"]
theorem sameRs:sameN ["kinds", "rule", "kind"] nRs [2]:=by unfold sameN;decide +kernel
theorem ok_suits {f fn CK fIk fOr fOf fOw CR fR CH fH CT fT CA fA CC CD:Addr}{fd fdn fdr fdo fdt fda:FuncData} (hC:Calm CX) (T:Tops K mg) (R:RCls K mg CR fR CH fH CT fT CA fA CC CD) (KS:KsCls K mg CK fIk fOr fOf fOw) (F:Fun K "rule_suits" "rule_suits" sRuleSuits f fd) (DN:Def K mg "is_name" sIsName ["thing"] fn fdn)
  (Fo:Fun K "order" "Kinds.order" sOrder fOr fdr) (bOr:Binds K fdr ["self"] []) (Fg:Fun K "of" "Kinds.of" sOf fOf fdo) (bOf:Binds K fdo ["self", "name"] []) (Ft:Fun K "suits" "ToTake.suits" sTtSuits fT fdt) (bT:Binds K fdt ["self", "kind"] []) (Fa:Fun K "suits" "Always.suits" sAlSuits fA fda) (bA:Binds K fda ["self", "kinds", "kind"] []) :
  FnOk P w K mg base CX 3 f fd ["kinds", "rule"] (spSuits CK CR CT CA):=by
 have GR:FnOk P w K mg base CX 1 fOr fdr ["self"] (spOrder CK):=ok_order T KS Fo;have GO:FnOk P w K mg base CX 2 fOf fdo ["self", "name"] (spOf CK):=ok_of hC T KS Fg DN;have GT:FnOk P w K mg base CX 1 fT fdt ["self", "kind"] spTrue2:=ok_tsuits Ft;have GA:FnOk P w K mg base CX 1 fA fda ["self", "kinds", "kind"] spTrue3:=ok_asuits Fa;refine Fun.okC F scRs (fun vs H Q E h=>?_) (fun cdv A outer s H vs Q E hr h=>?_)
 ·obtain ⟨kq,d,kvs,ord,v,x,rfl,_⟩:=h;rfl
 ·obtain ⟨kq,d,kvs,ord,v,x,rfl,ko,hv,ok,k⟩:=h;have nd:=scRs.nd;have hr1:=hr.mono (show 1≤2 by decide)
  refine ⟨_,zA2 (ps_re nRs [2] sameRs (zB1 (zAs (zAr (zA7 (zBi rfl) rfl T.all PyProof.Rows.boot_all (zA0 (zAn (T:=["kind"]) rfl ScOk.auto (zAg (zAt op_cat (zB2 (zA0 (zB7 (pv 1) rfl) zA4)) (zB7 (pv 1) rfl))) (fun _ _ _ _=>zA8 (i:=3) (by decide +kernel:(["kinds", "rule", "?", "kind"]:List Str).Nodup) rfl (Or.inl rfl)) (fun _ _ _ _=>zAy) (fun _ _ _ _=>(zBq (r:=rIn K false) zCj (pv 3) (zD5 (pv 0) KS.cl KS.mOr GR hr1 bOr .nil (passC hC)) rfl))) zA4))))
     (zA6 (zAj zCh)) zAf))
     (zA2 (zAh (i:=2) nd rfl (Or.inl rfl) (zCr (pv 0) KS.cl KS.mOf GO hr bOf .nil (passC hC) (zA0 (zB7 (pv 1) rfl) zA4)))
     (zA6 (zAj (zC8 (zCr (zB7 (pv 1) rfl) R.t R.ts GT hr1 bT .nil (passC hC) (zA0 (pv 2) zA4)) (zCy (zCr (zB7 (pv 1) rfl) R.a R.as GA hr1 bA .nil (passC hC) (zA0 (pv 0) (zA0 (pv 2) zA4)))))))),?_⟩
  obtain ⟨p,dx,t,dt,a,da,l,rfl,h1,h2,h3,h4⟩:=hv;have small:∀ n:Nat,n≤1000→n≤sizeLine:=fun n h=>Zt (small1000 h);have le:=ok.le;refine ⟨_,rfl,p,CR,dx,_,_,rfl,h1,R.r,R.rk,zE1 _ _ _ _,small 1 (by decide),fun l1 hl1=>?_⟩;have w1:Same H (upd H l1 (.lst [.str x.1])):=Same.new hl1;have x1:(upd H l1 (.lst [.str x.1])) l1=some (.lst [.str x.1]):=zA1;generalize upd H l1 (.lst [.str x.1])=H1 at w1 x1 ⊢;refine ⟨_,rfl,p,CR,dx,_,_,rfl,w1 _ _ h1,R.r,R.rb,rF_behind _ _ _ _,l1,l,_,_,rfl,rfl,x1,w1 _ _ h4,by rw [Z0];show 1 + _≤_;exact small _ (by omega),fun l2 hl2=>?_⟩;rw [show ([.str x.1]++x.2.map V.str:List V)=(x.1 :: x.2).map V.str from rfl];have w2:Same H1 (upd H1 l2 (.lst ((x.1 :: x.2).map V.str))):=Same.new hl2;have x2:(upd H1 l2 (.lst ((x.1 :: x.2).map V.str))) l2=some (.lst ((x.1 :: x.2).map V.str)):=zA1;generalize upd H1 l2 (.lst ((x.1 :: x.2).map V.str))=H2 at w2 x2 ⊢;have w12:=w1.trans w2;refine ⟨l2,rfl,⟨_,SqL.of x2⟩,zAd (xs:=(x.1 :: x.2).map V.str) (fun i ys H'=>Same H2 H'∧ys=(((x.1 :: x.2).take i).map fun y=>decide (y∈ord)).map V.bl) ⟨Same.refl _,rfl⟩ (fun i ys H' p=>SqL.of (p.1 _ _ x2)) (fun i ys H' hi p=>?_) ?_ ?_⟩
  ·rw [p.2,Z0,Z0,Zc,Zh];exact small _ (by omega)
  ·rintro i v ys H' hi ⟨s',rfl⟩ N hN;rw [Z8] at hi;obtain ⟨y,ey,rfl⟩:=Option.map_eq_some_iff.mp hi;have ko':=(ko.mono w12).mono s';refine pick ?_;obtain ⟨⟨dxk,hkq⟩,rdk⟩:=id ko'.ka;refine ⟨_,rfl,_,rfl,kq,dxk,_,rfl,hkq,ks_no _ (by decide +kernel),kq,d,kvs,rfl,ko'.ka,fun q hq=>?_⟩;rw [ko'.list];refine ⟨q,_,rfl,.inl (SqL.of zA1),rfl,flats _,hN _ _ ⟨s'.trans (Same.new hq),?_⟩⟩;rw [zBc,Za,ey,Z6,Z6];rfl
  ·rintro ys H3 ⟨s3,rfl⟩ c hc;rw [show ((x.1 :: x.2).map V.str).length=(x.1 :: x.2).length from Z0 ..,Zd];have s4:Same H (upd H3 c (.lst (((x.1 :: x.2).map fun y=>decide (y∈ord)).map V.bl))):=w12.trans (s3.trans (Same.new hc));refine ⟨c,_,rfl,SqL.of zA1,_,rfl,?_⟩;generalize upd H3 c (.lst (((x.1 :: x.2).map fun y=>decide (y∈ord)).map V.bl))=H4 at s4 ⊢;rw [show ((x.1 :: x.2).map fun y=>decide (y∈ord)).all id=ordB ord x by unfold ordB;rw [Yj];rfl];cases eb:ordB ord x with
   | false =>
    refine iteT ?_;rw [← eb];exact k _ s4
   | true =>
    refine iteF ?_;dsimp only [Ends.hid,hide,List.set,start];have ko4:=ko.mono s4;have hx1:x.1∈ord:=of_decide_eq_true (List.all_eq_true.mp eb x.1 Zj);obtain ⟨v,hv⟩:=ko4.val hx1;obtain ⟨⟨dxk,hkq⟩,rdk⟩:=id ko4.ka;refine ⟨_,rfl,kq,dxk,_,rfl,hkq,ks_no _ (by decide +kernel),_,rfl,p,CR,dx,_,_,rfl,s4 _ _ h1,R.r,R.rk,zE1 _ _ _ _,kq,d,kvs,x.1,v,rfl,ok.n,ko4.ka,hv,fun H5 s5=>?_⟩;have s45:=s4.trans s5;dsimp only [gName,List.set];refine ⟨_,rfl,p,CR,dx,_,_,rfl,s45 _ _ h1,R.r,R.rc,rF_change _ _ _ _,t,dt,[],rfl,s45 _ _ h2,rfl,_,rfl,_,_,rfl,_,rfl,iteT ?_⟩;refine ⟨_,rfl,p,CR,dx,_,_,rfl,s45 _ _ h1,R.r,R.rd,rF_cond _ _ _ _,a,da,[],rfl,s45 _ _ h3,rfl,_,rfl,_,rfl,_,_,_,rfl,?_⟩;rw [← eb];exact k _ s45
end
end L2.W
namespace L2.W
open PySem My
structure XTop (K:PySem.W.Frag) (mg:Str→Option Value) (x:Str) (CN:Addr):Prop where
 at_:mg x=some (.ref CN)
 cl:PySem.W.excIn K CN [.type "ValueError",.type "Exception",.type "BaseException",.type "object"] "ValueError.__new__" = true
noncomputable def Refused (C1:Addr) (H:Hp) (E:XK):Prop:=∀ (e:Addr) (H':Hp),H e=none→H' e=some (XO C1 e)→Same H H'→E (.ref C1) (some e) H'
noncomputable def handB (ord:List Str) (h:Str×List Ru):Bool:=h.2.all (ordB ord)
noncomputable def spCheck (CK CR CH CT CA CN:Addr):Sp:=fun vs H Q E=>∃ (kq d lh:Addr) (kvs:List (Key×V)) (ord:List Str) (hv:List V) (hs:List (Str×List Ru)),vs=[.ref kq,.ref lh]∧KOrd CK H kq d kvs ord∧H lh=some (.lst hv)∧Paired (HaAt CR CH CT CA H) hv hs∧(hs.map (·.1)).Nodup∧hs.length≤10∧(∀ h∈hs,nameOk h.1∧h.2.length≤100∧∀ x∈h.2,RuOk x) ∧
 (hs.all (handB ord)=true→∀ H',Same H H'→Q .non H')∧(hs.all (handB ord)=false→Refused CN H E)
theorem scCk:FnScope ["kinds", "hands", "hand"] ["kinds", "hands"] (defScope sCheck):=⟨rfl,rfl,rfl,by decide +kernel,rfl,by decide +kernel,by decide +kernel⟩
noncomputable abbrev nCk:List Str:=["kinds", "hands", "?"]
theorem sameCk:sameN ["kinds", "hands", "hand"] nCk [2]:=by unfold sameN;decide +kernel
section
variable {P:Program}{w:World}{K:PySem.W.Frag}{mg:Str→Option Value}{base:Heap}
theorem ok_check {f fu fn fs CK CN CR fR CH fH CT fT CA fA CC CD:Addr}{fd fdu fdn fds:FuncData} (T:Tops K mg) (XN:XTop K mg "NoRule" CN) (R:RCls K mg CR fR CH fH CT fT CA fA CC CD) (F:Fun K "check" "check" sCheck f fd) (DN:Def K mg "is_name" sIsName ["thing"] fn fdn) (DU:Def K mg "are_unlike_names" sUnlike ["things"] fu fdu) (DS:Def K mg "rule_suits" sRuleSuits ["kinds", "rule"] fs fds)
  (GS:FnOk P w K mg base (CXM P w) 3 fs fds ["kinds", "rule"] (spSuits CK CR CT CA)):FnOk P w K mg base (CXM P w) 4 f fd ["kinds", "hands"] (spCheck CK CR CH CT CA CN):=by
 have GU:FnOk P w K mg base (CXM P w) 2 fu fdu ["things"] spUnlike:=zC0 calmM T DU.fn DN;have hC:Calm (CXM P w):=calmM;refine Fun.okX F scCk (fun vs H Q E h=>?_) (fun cdv A outer s H vs Q E hr h=>?_)
 ·obtain ⟨kq,d,lh,kvs,ord,hv,hs,rfl,_⟩:=h;rfl
 ·obtain ⟨kq,d,lh,kvs,ord,hv,hs,rfl,ko,hlh,hhs,hnd,hle,hok,ky,kn⟩:=h;have nd:=scCk.nd;have hr2:=hr.mono (show 2≤3 by decide)
  refine ⟨_,zA2 (ps_re nCk [2] sameCk (zB1 (PW.pt (zCo (zAs (zAr (zA7 zAl rfl T.isinst PyProof.Rows.boot_isinstance (zA0 (pv 1) (zA0 (zBa (v:=.ty "list") rfl T.list PyProof.Rows.boot_list rfl) zA4))))) (zBt (zAs (zAr (zA7 (zBi rfl) rfl T.all PyProof.Rows.boot_all (zA0 (zAn (T:=["hand"]) rfl ScOk.auto (zAg (pv 1)) (fun _ _ _ _=>zA8 (i:=3) (by decide +kernel:(["kinds", "hands", "?", "hand"]:List Str).Nodup) rfl (Or.inl rfl)) (fun _ _ _ _=>zAy) (fun _ _ _ _=>(zA7 (zC3 (K:=K) rfl) rfl T.isinst PyProof.Rows.boot_isinstance (zA0 (pv 3) (zA0 (zBk (v:=.ref CH) rfl R.hm rfl) zA4))))) zA4)))))))
     zAk zAf))
     (zA2 (ps_re nCk [2] sameCk (zB1 (zAs (zAr (zAc GU hr2 rfl DU.at_ DU.fn.kp DU.bind .nil (passC hC) (zA0 (zAn (T:=["hand"]) rfl ScOk.auto (zAg (pv 1)) (fun _ _ _ _=>zA8 (i:=3) (by decide +kernel:(["kinds", "hands", "?", "hand"]:List Str).Nodup) rfl (Or.inl rfl)) (fun _ _ _ _=>zAy) (fun _ _ _ _=>(zBz (K:=K) rfl (pv 3) rfl))) zA4))))
     zAk zAf))
     (zA6 (zBg PassesOwn.leaving rfl (zAg (pv 1)) (zA8 (i:=2) nd rfl (Or.inl rfl))
     (zA6 (zB1 (zAs (zAr (zA7 (zBi rfl) rfl T.all PyProof.Rows.boot_all (zA0 (zAn (T:=["rule"]) rfl ScOk.auto (zAg (zB7 (pv 2) rfl)) (fun _ _ _ _=>zA8 (i:=3) (by decide +kernel:(["kinds", "hands", "hand", "rule"]:List Str).Nodup) rfl (Or.inl rfl)) (fun _ _ _ _=>zAy) (fun _ _ _ _=>(zAc GS hr rfl DS.at_ DS.fn.kp DS.bind .nil (passC hC) (zA0 (pv 0) (zA0 (pv 3) zA4))))) zA4))))
     (zA6 (zE4 (C:=CN) (W:=fun _ e H'=>E (.ref CN) (some e) H') XN.cl rfl XN.at_ rfl (zA0 zBv zA4) (fun pins σ H s e I he fr w=>xe_new I he (.inl fr) w))) zAf))))),?_⟩
  have small:∀ n:Nat,n≤1000→n≤sizeLine:=fun n h=>Zt (small1000 h);have hl:=Paired.length hhs;refine ⟨_,rfl,_,_,_,_,_,rfl,.lst hlh,rfl,rfl,_,rfl,iteF ?_⟩;refine ⟨_,rfl,lh,rfl,⟨_,SqL.of hlh⟩,zAd (xs:=hv) (fun i ys H'=>H=H'∧ys=List.replicate i (V.bl true)) ⟨rfl,rfl⟩ (fun i ys H' p=>by rw [← p.1];exact SqL.of hlh) (fun i ys H' hi p=>?_) ?_ ?_⟩
  ·rw [p.2,Y6];exact small _ (by omega)
  ·rintro i v ys H' hi ⟨rfl,rfl⟩ N hN;obtain ⟨x,ex,p,dx,l,vs,rfl,h1,h2,h3⟩:=zAi hhs hi;refine pick ?_;exact ⟨_,rfl,_,_,_,_,_,rfl,.ins h1 R.h R.hI.ha R.hI.hn R.hI.htk R.hI.hm,rfl,R.hI.one,hN _ _ ⟨rfl,by rw [List.replicate_succ']⟩⟩
  ·rintro ys H' ⟨rfl,rfl⟩ c hc;refine ⟨c,List.replicate hv.length true,rfl,SqL.of (by rw [zA1,List.map_replicate]),_,rfl,?_⟩;rw [all_true];refine iteF ?_;have s1:Same H (upd H c (.lst (List.replicate hv.length (V.bl true)))):=Same.new hc;generalize upd H c (.lst (List.replicate hv.length (V.bl true)))=H1 at s1 ⊢;dsimp only [Ends.hid,hide,List.set,start];have hh1:=zAb hhs fun _ _ r=>r.mono s1;refine ⟨_,rfl,lh,rfl,⟨_,SqL.of (s1 _ _ hlh)⟩,zAd (xs:=hv) (fun i ys H'=>H1=H'∧ys=((hs.take i).map (·.1)).map V.str) ⟨rfl,rfl⟩ (fun i ys H' p=>by rw [← p.1];exact SqL.of (s1 _ _ hlh)) (fun i ys H' hi p=>?_) ?_ ?_⟩
   ·rw [p.2,Z0,Z0,Zc];exact small _ (by omega)
   ·rintro i v ys H' hi ⟨rfl,rfl⟩ N hN;obtain ⟨x,ex,p,dx,l,vs,rfl,h1,h2,h3⟩:=zAi hh1 hi;refine pick ?_;refine ⟨_,rfl,p,CH,dx,_,_,rfl,h1,R.h,R.hn,hF_name _ _,hN _ _ ⟨rfl,?_⟩⟩;rw [Za,ex,Z6,Z6];rfl
   ·rintro ys H' ⟨rfl,rfl⟩ c2 hc2;rw [hl,Zd];have s2:Same H (upd H1 c2 (.lst ((hs.map (·.1)).map V.str))):=s1.trans (Same.new hc2);have e2:(upd H1 c2 (.lst ((hs.map (·.1)).map V.str))) c2=some (.lst ((hs.map (·.1)).map V.str)):=zA1;generalize upd H1 c2 (.lst ((hs.map (·.1)).map V.str))=H2 at s2 e2 ⊢;have nms:∀ y∈hs.map (·.1),nameOk y:=fun y hy=>by
     obtain ⟨h,hm,rfl⟩:=List.mem_map.mp hy;exact (hok h hm).1
    refine ⟨_,_,rfl,.lst trivial e2 (by rw [Z0,Z0];omega) (zBl nms),fun H3 s3=>⟨_,rfl,?_⟩⟩;rw [zD9 (fun y hy=>(nms y hy).1) hnd];refine iteF ?_;dsimp only [Ends.hid,hide,List.set,start];have s03:=s2.trans s3
    refine ⟨_,rfl,lh,rfl,⟨_,SqL.of (s03 _ _ hlh)⟩,zBh (K:=K) (a:=lh) (xs:=hv) (fun i σ H'=>∃ x2:Option V,σ = [some (.ref kq),some (.ref lh),x2]∧Same H3 H'∧(hs.take i).all (handB ord)=true)
     ⟨_,rfl,Same.refl _,rfl⟩ (fun i σ H' _ hz=>by obtain ⟨_,_,q,_⟩:=hz;exact SqL.of ((s03.trans q) _ _ hlh)) ?_ ?_⟩
    ·rintro i v σ H4 hi ⟨x2,rfl,s4,done⟩;have s04:=s03.trans s4;obtain ⟨h,eh,p,dx,l,vs,rfl,h1,h2,h3⟩:=zAi (zAb hhs fun _ _ r=>r.mono s04) hi;obtain ⟨_,le100,rok⟩:=hok h (Z4 eh);have vl:=Paired.length h3;dsimp only [gName,List.set];refine ⟨_,rfl,p,CH,dx,_,_,rfl,h1,R.h,R.hr,zD7 _ _,l,rfl,⟨_,SqL.of h2⟩,zAd (xs:=vs) (fun i ys H'=>Same H4 H'∧ys=((h.2.take i).map (ordB ord)).map V.bl) ⟨Same.refl _,rfl⟩ (fun i ys H' p=>SqL.of (p.1 _ _ h2)) (fun i ys H' hi p=>?_) ?_ ?_⟩
     ·rw [p.2,Z0,Z0,Zc];exact small _ (by omega)
     ·rintro j v ys H' hj ⟨s',rfl⟩ N hN;obtain ⟨x,ex,hx⟩:=zAi h3 hj;refine pick ?_;refine ⟨_,rfl,_,rfl,kq,d,kvs,ord,v,x,rfl,ko.mono (s04.trans s'),hx.mono s',rok x (Z4 ex),fun H5 s5=>hN _ _ ⟨s'.trans s5,?_⟩⟩;rw [Za,ex,Z6,Z6];rfl
     ·rintro ys H5 ⟨s5,rfl⟩ c3 hc3;rw [vl,Zd];have s6:Same H4 (upd H5 c3 (.lst ((h.2.map (ordB ord)).map V.bl))):=s5.trans (Same.new hc3);refine ⟨c3,_,rfl,SqL.of zA1,_,rfl,?_⟩;generalize upd H5 c3 (.lst ((h.2.map (ordB ord)).map V.bl))=H6 at s6 ⊢;rw [show (h.2.map (ordB ord)).all id=handB ord h by unfold handB;rw [Yj];rfl];cases eb:handB ord h with
      | true =>
       refine iteF ⟨_,rfl,s4.trans s6,?_⟩;rw [Za,eh,List.all_append,done];show (true && (handB ord h && true))=true;rw [eb];rfl
      | false =>
       have bad:hs.all (handB ord)=false:=List.all_eq_false.mpr ⟨h,Z4 eh,by rw [eb];decide⟩;have s06:=s04.trans s6;exact iteT ⟨Zt (small1000 (by decide)),fun e he=>kn bad e _ (s06.free he) zA1 (s06.trans (Same.new he))⟩
    ·rintro σ H4 ⟨x2,rfl,s4,done⟩;rw [hl,Zd] at done;exact ky done _ (s03.trans s4)
end
end L2.W
namespace L2.W
open PySem My
noncomputable def dOf (ls:List (Str×Addr)):List (Key×V):=ls.map fun x=>(Sum.inr x.1,.ref x.2)
theorem dOf_keys (ls:List (Str×Addr)):(dOf ls).map (·.1)=(ls.map (·.1)).map Sum.inr:=by unfold dOf;rw [Zv,Zv];rfl
theorem zEg {k:Str}{a:Addr}:∀ {ls:List (Str×Addr)},(ls.map (·.1)).Nodup→(k,a)∈ls→valV (dOf ls) (Sum.inr k)=some (.ref a)
 | [],_,h=>by cases h
 | x :: t,nd,h=>by
  rw [Zq,Yh] at nd;rw [show dOf (x :: t)=(Sum.inr x.1,.ref x.2) :: dOf t from rfl];rcases List.mem_cons.mp h with e | h
  ·rw [← e];exact zBf rfl
  ·have ne:¬ x.1=k:=fun z=>nd.1 (List.mem_map.mpr ⟨_,h,z.symm⟩);rw [zB6 (fun z=>ne (Sum.inr.inj z))];exact zEg nd.2 h
theorem dOf_none {k:Str}:∀ {ls:List (Str×Addr)},k∉ls.map (·.1)→valV (dOf ls) (Sum.inr k)=none
 | [],_=>rfl
 | x :: t,h=>by
  rw [Zq,Zy,not_or] at h;rw [show dOf (x :: t)=(Sum.inr x.1,.ref x.2) :: dOf t from rfl,zB6 (fun z=>h.1 (Sum.inr.inj z).symm)];exact dOf_none h.2
theorem dOf_put {k:Str}{a:Addr}{ls:List (Str×Addr)} (h:k∉ls.map (·.1)):putK (dOf ls) (Sum.inr k) (.ref a)=dOf (ls++[(k,a)]):=by
 rw [L2.zD3 _ (dOf_none h)];unfold dOf;rw [Z6];rfl
structure WAt (H:Hp) (d:Addr) (ls:List (Str×Addr)) (W:Str→List Str):Prop where
 hd:H d=some (.dK (dOf ls))
 nk:(ls.map (·.1)).Nodup
 na:(ls.map (·.2)).Nodup
 hl:∀ x∈ls,H x.2=some (.lst ((W x.1).map V.str))
theorem WAt.mono {H H':Hp}{d:Addr}{ls:List (Str×Addr)}{W:Str→List Str} (h:WAt H d ls W) (k:∀ b o,H b=some o→(∃ kvs,o=.dK kvs)∨(∃ xs,o=.lst xs)→H' b=some o):WAt H' d ls W:=⟨k _ _ h.hd (.inl ⟨_,rfl⟩),h.nk,h.na,fun x hx=>k _ _ (h.hl x hx) (.inr ⟨_,rfl⟩)⟩
theorem WAt.same {H H':Hp}{d:Addr}{ls:List (Str×Addr)}{W:Str→List Str} (h:WAt H d ls W) (s:Same H H'):WAt H' d ls W:=h.mono fun b o e _=>s _ _ e
theorem WAt.add {H:Hp}{d a:Addr}{ls:List (Str×Addr)}{W:Str→List Str}{k:Str} (h:WAt H d ls W) (hk:k∉ls.map (·.1)) (ha:H a=some (.lst ((W k).map V.str))) (na:a∉ls.map (·.2)):WAt (upd H d (.dK (dOf (ls++[(k,a)])))) d (ls++[(k,a)]) W:=by
 have nd:∀ {b:Addr}{xs:List V},H b=some (.lst xs)→b≠d:=fun {b xs} e z=>by rw [z,h.hd] at e;cases e
 refine ⟨zA1,?_,?_,fun x hx=>?_⟩
 ·rw [Z6,List.nodup_append];exact ⟨h.nk,List.pairwise_singleton _ _,fun x hx y hy e=>by rw [List.mem_singleton.mp hy] at e;have e':x=k:=e;exact hk (e' ▸ hx)⟩
 ·rw [Z6,List.nodup_append];exact ⟨h.na,List.pairwise_singleton _ _,fun x hx y hy e=>by rw [List.mem_singleton.mp hy] at e;have e':x=a:=e;exact na (e' ▸ hx)⟩
 ·rcases List.mem_append.mp hx with hx | hx
  ·have:=h.hl x hx;rw [zA5 (nd this)];exact this
  ·rw [List.mem_singleton.mp hx,zA5 (nd ha)];exact ha
theorem inj_snd {ls:List (Str×Addr)} (h:(ls.map (·.2)).Nodup):∀ {x y:Str×Addr},x∈ls→y∈ls→x.2=y.2→x=y:=by
 induction ls with
 | nil=>intro x y hx;cases hx
 | cons z t ih =>
  rw [Zq,Yh] at h;intro x y hx hy e;rcases List.mem_cons.mp hx with hx | hx
  ·rcases List.mem_cons.mp hy with hy | hy
   ·rw [hx,hy]
   ·exact absurd (List.mem_map.mpr ⟨y,hy,by rw [← e,hx]⟩) h.1
  ·rcases List.mem_cons.mp hy with hy | hy
   ·exact absurd (List.mem_map.mpr ⟨x,hx,by rw [e,hy]⟩) h.1
   ·exact ih h.2 hx hy e
theorem inj_fst {ls:List (Str×Addr)} (h:(ls.map (·.1)).Nodup):∀ {x y:Str×Addr},x∈ls→y∈ls→x.1=y.1→x=y:=by
 induction ls with
 | nil=>intro x y hx;cases hx
 | cons z t ih =>
  rw [Zq,Yh] at h;intro x y hx hy e;rcases List.mem_cons.mp hx with hx | hx
  ·rcases List.mem_cons.mp hy with hy | hy
   ·rw [hx,hy]
   ·exact absurd (List.mem_map.mpr ⟨y,hy,by rw [← e,hx]⟩) h.1
  ·rcases List.mem_cons.mp hy with hy | hy
   ·exact absurd (List.mem_map.mpr ⟨x,hx,by rw [e,hy]⟩) h.1
   ·exact ih h.2 hx hy e
theorem WAt.grow {H:Hp}{d a:Addr}{ls:List (Str×Addr)}{W W':Str→List Str}{k:Str} (h:WAt H d ls W) (hk:(k,a)∈ls) (e1:∀ y,y≠k→W' y=W y):WAt (upd H a (.lst ((W' k).map V.str))) d ls W':=by
 have ha:=h.hl _ hk;refine ⟨?_,h.nk,h.na,fun x hx=>?_⟩
 ·rw [zA5 (fun z=>by rw [← z,h.hd] at ha;cases ha)];exact h.hd
 ·by_cases c:x.2=a
  ·have:=inj_snd h.na hx hk c;rw [this];exact zA1
  ·rw [zA5 c,e1 x.1 (fun z=>c (by rw [inj_fst h.nk hx hk z]))];exact h.hl x hx
theorem WAt.get {H:Hp}{d:Addr}{ls:List (Str×Addr)}{W:Str→List Str} (h:WAt H d ls W) {k:Str} (hk:k∈ls.map (·.1)):∃ a,(k,a)∈ls∧DGet H d (.str k) (some (.ref a))∧H a=some (.lst ((W k).map V.str)):=by
 obtain ⟨⟨k',a⟩,hx,rfl⟩:=List.mem_map.mp hk;exact ⟨a,hx,.inl ⟨_,Sum.inr k',.inl h.hd,rfl,(zEg h.nk hx).symm⟩,h.hl _ hx⟩
noncomputable def wt (ow:Str→Option Str) (rs:List Ru) (k:Str):List Str:=(ow k).toList++(rs.filter fun x=>decide (x.1=k)).flatMap (·.2)
theorem zDx (ow:Str→Option Str) (rs:List Ru) (x:Ru) (k:Str):wt ow (rs++[x]) k=if k=x.1 then wt ow rs k++x.2 else wt ow rs k:=by
 unfold wt;rw [Yc,List.flatMap_append];by_cases c:k=x.1
 ·rw [if_pos c,List.append_assoc]
  congr 2
  rw [show List.filter (fun x=>decide (x.1=k)) [x]=[x] by simp [c]];simp
 ·rw [if_neg c,show List.filter (fun x=>decide (x.1=k)) [x]=[] by simp [Ne.symm c]];simp
theorem wt_len (ow:Str→Option Str) (k:Str):∀ (rs:List Ru),(∀ x∈rs,x.2.length≤50)→(wt ow rs k).length≤1 + 50 * rs.length:=by
 intro rs h;unfold wt;rw [Zk];have h1:(ow k).toList.length≤1:=by cases ow k <;> simp
 have h2:∀ (l:List Ru),(∀ x∈l,x.2.length≤50)→(l.flatMap (·.2)).length≤50 * l.length:=by
  intro l
  induction l with
  | nil=>intro _;exact Z5 _
  | cons a t ih =>
   intro hh;rw [List.flatMap_cons,Zk,Zh];have:=ih fun x hx=>hh x (Zi _ hx);have:=hh a Zj;omega
 have h3:=h2 (rs.filter fun x=>decide (x.1=k)) fun x hx=>h x (List.mem_filter.mp hx).1;have h4:=Zl (fun x:Ru=>decide (x.1=k)) rs;omega
theorem zEe {α : Type}{n:Nat}:∀ (l:List (α×List Ru)),(∀ h∈l,h.2.length≤n)→(l.flatMap (·.2)).length≤n * l.length
 | [],_=>Zn _
 | a :: t,h=>by
  rw [List.flatMap_cons,Zk,Zh,Nat.mul_succ];have h1:=zEe t fun x hx=>h x (Zi _ hx);have h2:=h a Zj;omega
theorem iteBT {c:Bool}{A B:Prop} (h:c=true) (x:A):if c=true then A else B:=by rw [if_pos h];exact x
theorem iteBF {c:Bool}{A B:Prop} (h:c=false) (x:B):if c=true then A else B:=by rw [if_neg (by rw [h];exact Z3)];exact x
theorem k_addr {R F:Addr→Hp→Prop}{B:Prop} (t:∀ l Hx,F l Hx→R l Hx) (h:(∀ l Hx,F l Hx→R l Hx)→B):B:=h t
structure KOwn (CK C:Addr) (H:Hp) (kq d:Addr) (kvs:List (Key×V)) (ord:List Str) (ow:Str→Option Str):Prop where
 ko:KOrd CK H kq d kvs ord
 nk:ord.Nodup
 nm:∀ k∈ord,nameOk k
 ow:∀ k∈ord,∃ q dx lf,valV kvs (Sum.inr k)=some (.ref q)∧H q=some (.ins C dx (kflds (.str k) (.ref lf) (ownV (ow k))))
theorem KOwn.mono {CK C:Addr}{H H':Hp}{kq d:Addr}{kvs:List (Key×V)}{ord:List Str}{ow:Str→Option Str} (h:KOwn CK C H kq d kvs ord ow) (s:Same H H'):KOwn CK C H' kq d kvs ord ow:=⟨h.ko.mono s,h.nk,h.nm,fun k hk=>by obtain ⟨q,dx,lf,e1,e2⟩:=h.ow k hk;exact ⟨q,dx,lf,e1,s _ _ e2⟩⟩
noncomputable def spWaits (CK C CR CH CT CA:Addr):Sp:=fun vs H Q _=>∃ (kq d lh:Addr) (kvs:List (Key×V)) (ord:List Str) (ow:Str→Option Str) (hv:List V) (hs:List (Str×List Ru)),vs=[.ref kq,.ref lh]∧KOwn CK C H kq d kvs ord ow∧H lh=some (.lst hv)∧Paired (HaAt CR CH CT CA H) hv hs∧hs.length≤10∧(∀ h∈hs,h.2.length≤100∧∀ x∈h.2,x.1∈ord∧x.2.length≤50) ∧
 ∀ (d2:Addr) (ls:List (Str×Addr)) (H':Hp),H d2=none→WAt H' d2 ls (wt ow (hs.flatMap (·.2)))→ls.map (·.1)=ord→Same H H'→Q (.ref d2) H'
section
variable {P:Program}{w:World}{K:PySem.W.Frag}{mg:Str→Option Value}{base:Heap}{CX:CXT}
theorem scWa:FnScope ["kinds", "hands", "found", "kind", "owner", "hand", "rule"] ["kinds", "hands"] (defScope sWaitsP):=⟨rfl,rfl,rfl,by decide +kernel,rfl,by decide +kernel,by decide +kernel⟩
set_option maxHeartbeats 1000000 in
theorem ok_waits {f fn C fI CK fIk fOr fOf fOw CR fR CH fH CT fT CA fA CC CD:Addr}{fd fdn fdr fdo:FuncData} (hC:Calm CX) (T:Tops K mg) (KC:KCls K mg C fI) (R:RCls K mg CR fR CH fH CT fT CA fA CC CD) (KS:KsCls K mg CK fIk fOr fOf fOw) (F:Fun K "waits" "waits" sWaitsP f fd) (DN:Def K mg "is_name" sIsName ["thing"] fn fdn)
  (Fo:Fun K "order" "Kinds.order" sOrder fOr fdr) (bOr:Binds K fdr ["self"] []) (Fg:Fun K "of" "Kinds.of" sOf fOf fdo) (bOf:Binds K fdo ["self", "name"] []):FnOk P w K mg base CX 3 f fd ["kinds", "hands"] (spWaits CK C CR CH CT CA):=by
 have GR:FnOk P w K mg base CX 1 fOr fdr ["self"] (spOrder CK):=ok_order T KS Fo;have GO:FnOk P w K mg base CX 2 fOf fdo ["self", "name"] (spOf CK):=ok_of hC T KS Fg DN;refine Fun.okC F scWa (fun vs H Q E h=>?_) (fun cdv A outer s H vs Q E hr h=>?_)
 ·obtain ⟨kq,d,lh,kvs,ord,ow,hv,hs,rfl,_⟩:=h;rfl
 ·obtain ⟨kq,d,lh,kvs,ord,ow,hv,hs,rfl,kw,hlh,hhs,hle,hok,k⟩:=h;have nd:=scWa.nd;have hu:=hu_of hr;have hr1:=hr.mono (show 1≤2 by decide)
  refine ⟨_,zA2 (zAh (i:=2) nd rfl (Or.inl rfl) zCg)
     (zA2 (zBg PassesOwn.never rfl (zAg (zD5 (pv 0) KS.cl KS.mOr GR hr1 bOr .nil (passC hC))) (zA8 (i:=3) nd rfl (Or.inl rfl))
     (zA2 (zAh (i:=4) nd rfl (Or.inl rfl) (zB7 (zCr (pv 0) KS.cl KS.mOf GO hr bOf .nil (passC hC) (zA0 (pv 3) zA4)) rfl))
     (zA6 (zCp hu (pv 2) (pv 3) (zE6 (zC6 (pc_isN (pv 4))) (zB2 zA4) (zB2 (zA0 (pv 4) zA4))) rfl))))
     (zA2 (zBg PassesOwn.never rfl (zAg (pv 1)) (zA8 (i:=5) nd rfl (Or.inl rfl))
     (zA6 (zBg PassesOwn.never rfl (zAg (zB7 (pv 5) rfl)) (zA8 (i:=6) nd rfl (Or.inl rfl))
     (zA6 (zBx (pe_bm PySem.F.plainAttrs_list PySem.F.slot_list_extend PySem.F.type_list_extend mt_extend (zB5 hu (pv 2) (zB7 (pv 6) rfl) (fun _ _=>rfl)) (zA0 (zB7 (pv 6) rfl) zA4)))))))
     (zA6 (zAj (pv 2))))),?_⟩
  have small:∀ n:Nat,n≤1000→n≤sizeLine:=fun n h=>Zt (small1000 h);have big:(200000:Nat)≤sizeLine:=by rw [sizeLine_eq];decide
  refine fun d2 hd2=>?_;have s1:Same H (upd H d2 (.dK [])):=Same.new hd2;have W1:WAt (upd H d2 (.dK [])) d2 [] (fun k=>(ow k).toList):=⟨zA1,Y5,Y5,fun x hx=>nomatch hx⟩;generalize upd H d2 (.dK [])=H1 at s1 W1 ⊢;have kw1:=kw.mono s1;obtain ⟨⟨dxk,hkq⟩,rdk⟩:=id kw1.ko.ka;refine ⟨_,rfl,kq,dxk,_,rfl,hkq,ks_no _ (by decide +kernel),kq,d,kvs,rfl,kw1.ko.ka,fun lo hlo=>?_⟩;rw [kw1.ko.list];have s2:Same H1 (upd H1 lo (.lst (ord.map V.str))):=Same.new hlo;have x2:(upd H1 lo (.lst (ord.map V.str))) lo=some (.lst (ord.map V.str)):=zA1;have nlo:H lo=none:=s1.free hlo;have nld:lo≠d2:=Ne.symm (zA3 W1.hd hlo);have W2:=W1.same s2;generalize upd H1 lo (.lst (ord.map V.str))=H2 at s2 x2 W2 ⊢;have s02:=s1.trans s2;have o5:=kw.ko.le
  refine ⟨lo,rfl,⟨_,SqL.of x2⟩,zBh (K:=K) (a:=lo) (xs:=ord.map V.str) (fun i σ H'=>∃ (x3 x4:Option V) (ls:List (Str×Addr)),σ = [some (.ref kq),some (.ref lh),some (.ref d2),x3,x4,none,none]∧WAt H' d2 ls (fun k=>(ow k).toList)∧ls.map (·.1)=ord.take i∧Same H H'∧H' lo=some (.lst (ord.map V.str))∧∀ x∈ls,H x.2=none)
   ⟨_,_,[],rfl,W2,rfl,s02,x2,fun x hx=>nomatch hx⟩ (fun i σ H' _ hz=>by obtain ⟨_,_,_,_,_,_,_,q,_⟩:=hz;exact SqL.of q) ?_ ?_⟩
  ·rintro i v σ H3 hi ⟨x3,x4,ls,rfl,W3,els,s3,xlo,fr⟩;rw [Z8] at hi;obtain ⟨kk,ek,rfl⟩:=Option.map_eq_some_iff.mp hi;have mk:=Z4 ek;have kw3:=kw.mono s3;obtain ⟨⟨dxk,hkq⟩,rdk⟩:=id kw3.ko.ka;obtain ⟨q,dq,lf,hv,hq⟩:=kw3.ow kk mk;have nik:kk∉ls.map (·.1):=by
    rw [els];intro hm;obtain ⟨j,hj,ej⟩:=Zo hm;rw [Zc] at hj;rw [List.getElem_take] at ej;have il:=(List.getElem?_eq_some_iff.mp ek).1;have:=List.pairwise_iff_getElem.mp kw.nk j i (by omega) il (by omega);rw [ej,(List.getElem?_eq_some_iff.mp ek).2] at this;exact this rfl
   have ll:ls.length≤5:=by
    have:=congrArg List.length els;rw [Z0,Zc] at this;omega
   dsimp only [gName,List.set];refine ⟨_,rfl,kq,dxk,_,rfl,hkq,ks_no _ (by decide +kernel),_,rfl,kq,d,kvs,kk,.ref q,rfl,kw.nm kk mk,kw3.ko.ka,hv,fun H4 s4=>?_⟩;refine ⟨q,C,dq,_,_,rfl,s4 _ _ hq,KC.cl,KC.nO,zD6 _ _ _,?_⟩;dsimp only [gName,List.set];refine ⟨_,rfl,_,rfl,?_⟩;refine' k_addr (F:=fun l Hx=>Hx l=some (.lst ((ow kk).toList.map V.str))∧Same H4 Hx∧H4 l=none) _ (fun kf=>_);rotate_left 2
   ·by_cases eo:ow kk≠none
    ·obtain ⟨o,eo⟩:=Option.ne_none_iff_exists'.mp eo;refine iteBF (by rw [eo];simp [ownV]) ⟨_,rfl,small 1 (by decide),fun l hl=>?_⟩;have xl:(upd H4 l (.lst [ownV (ow kk)])) l=some (.lst ((ow kk).toList.map V.str)):=by rw [eo];exact zA1
     have sl:Same H4 (upd H4 l (.lst [ownV (ow kk)])):=Same.new hl;generalize upd H4 l (.lst [ownV (ow kk)])=H5 at xl sl ⊢;exact kf l H5 ⟨xl,sl,hl⟩
    ·have eo:ow kk=none:=Classical.byContradiction eo;exact iteBT (by rw [eo];simp [ownV]) ⟨Zn _,fun l hl=>kf l (upd H4 l (.lst [])) ⟨by rw [eo];exact zA1,Same.new hl,hl⟩⟩
   ·rintro l H5 ⟨xl,s5,hl⟩;have s35:=s4.trans s5;have W5:=W3.same s35;have s05:=s3.trans s35;have hlH:H l=none:=(s3.trans s4).free hl;have nll:l∉ls.map (·.2):=fun hm=>by
     obtain ⟨x,hx,e⟩:=List.mem_map.mp hm;have:=(W3.same s4).hl x hx;rw [e,hl] at this;cases this
    refine ⟨_,rfl,_,rfl,d2,_,rfl,.inl ⟨_,Sum.inr kk,W5.hd,rfl,?_,rfl⟩,?_⟩
    ·unfold dOf;rw [Z0];omega
    ·rw [dOf_put nik];refine ⟨_,_,_,rfl,W5.add nik xl nll,?_,?_,?_,?_⟩
     ·rw [Z6,els,Za,ek];rfl
     ·intro b o e;rw [zA5 (fun z=>by rw [z,hd2] at e;cases e)];exact s05 _ _ e
     ·rw [zA5 nld];exact s35 _ _ xlo
     ·intro x hx;rcases List.mem_append.mp hx with hx | hx
      ·exact fr x hx
      ·rw [List.mem_singleton.mp hx];exact hlH
  ·rintro σ H3 ⟨x3,x4,ls,rfl,W3,els,s3,xlo,fr⟩;rw [Z0,Zd] at els;have hl:=Paired.length hhs
   refine ⟨_,rfl,lh,rfl,⟨_,SqL.of (s3 _ _ hlh)⟩,zBh (K:=K) (a:=lh) (xs:=hv) (fun i σ H'=>∃ (x3 x4 x5 x6:Option V),σ = [some (.ref kq),some (.ref lh),some (.ref d2),x3,x4,x5,x6]∧WAt H' d2 ls (wt ow ((hs.take i).flatMap (·.2)))∧Same H H')
    ⟨_,_,_,_,rfl,(show wt ow []=fun k=>(ow k).toList by funext k;unfold wt;simp) ▸ W3,s3⟩ (fun i σ H' _ hz=>by obtain ⟨_,_,_,_,_,_,q⟩:=hz;exact SqL.of (q _ _ hlh)) ?_ ?_⟩
   ·rintro i v σ H4 hi ⟨x3,x4,x5,x6,rfl,W4,s4⟩;obtain ⟨h,eh,ph,dh,lr,vs,rfl,h1,h2,h3⟩:=zAi (zAb hhs fun _ _ r=>r.mono s4) hi;obtain ⟨_,eh',_,_,lr0,vs0,e0,g1,g2,g3⟩:=zAi hhs hi;have il:=(List.getElem?_eq_some_iff.mp eh).1;obtain ⟨le100,rok⟩:=hok h (Z4 eh);have vl:=Paired.length h3;cases e0;have q1:=s4 _ _ g1;rw [h1] at q1;rw [eh] at eh';cases eh';have elr:lr=lr0:=by
     have q2:=Zg q1;injection q2 with _ _ q2;have a1:=zD7 (.str h.1) (.ref lr);have a2:=zD7 (.str h.1) (.ref lr0);rw [q2,a2] at a1;exact (V.ref.inj (Zg a1)).symm
    subst elr;have q3:=s4 _ _ g2;rw [h2] at q3;cases q3;dsimp only [gName,List.set]
    refine ⟨_,rfl,ph,CH,dh,_,_,rfl,h1,R.h,R.hr,zD7 _ _,lr,rfl,⟨_,SqL.of h2⟩,zBh (K:=K) (a:=lr) (xs:=vs) (fun j σ H'=>∃ (x3 x4 x6:Option V),σ = [some (.ref kq),some (.ref lh),some (.ref d2),x3,x4,some (.ref ph),x6]∧WAt H' d2 ls (wt ow ((hs.take i).flatMap (·.2)++h.2.take j))∧Same H H')
     ⟨_,_,_,rfl,by rw [List.take_zero,List.append_nil];exact W4,s4⟩ (fun j σ H' _ hz=>by obtain ⟨_,_,_,_,_,q⟩:=hz;exact SqL.of (q _ _ g2)) ?_ ?_⟩
    ·rintro j v σ H5 hj ⟨x3,x4,x6,rfl,W5,s5⟩;obtain ⟨x,ex,p,dx,t,dt,a,da,l,rfl,r1,r2,r3,r4⟩:=zAi (zAb g3 fun _ _ r=>r.mono s5) hj;obtain ⟨xo,x50⟩:=rok x (Z4 ex);obtain ⟨aa,ma,dg,ha⟩:=W5.get (by rw [els];exact xo);dsimp only [gName,List.set]
     have wl:=wt_len ow x.1 ((hs.take i).flatMap (·.2)++h.2.take j) (fun y hy=>by
      rcases List.mem_append.mp hy with hy | hy
      ·obtain ⟨h',mh,my⟩:=List.mem_flatMap.mp hy;exact ((hok h' (Y1 mh)).2 y my).2
      ·exact (rok y (Y1 hy)).2)
     have fl:=zEe (n:=100) (hs.take i) fun h' mh=>(hok h' (Y1 mh)).1;rw [Zk,Zc] at wl;rw [Zc] at fl;refine ⟨_,rfl,_,rfl,p,CR,dx,_,_,rfl,r1,R.r,R.rk,zE1 _ _ _ _,d2,_,rfl,dg,.inl ⟨rfl,_,SqL.of ha⟩,_,rfl,p,CR,dx,_,_,rfl,r1,R.r,R.rb,rF_behind _ _ _ _,aa,l,_,_,rfl,rfl,ha,r4,?_,?_⟩
     ·rw [Z0,Z0];omega
     ·rw [← Z6];have e1:wt ow ((hs.take i).flatMap (·.2)++h.2.take j) x.1++x.2=wt ow ((hs.take i).flatMap (·.2)++h.2.take (j + 1)) x.1:=by
       rw [Za,ex,← List.append_assoc];show _=wt ow (_++[x]) x.1;rw [zDx,if_pos rfl]
      rw [e1];refine ⟨_,_,_,rfl,W5.grow ma fun y ny=>?_,fun b o e=>?_⟩
      ·rw [Za,ex,← List.append_assoc];show wt ow (_++[x]) y=_;rw [zDx,if_neg ny]
      ·rw [zA5 (fun z=>by rw [z,fr _ ma] at e;cases e)];exact s5 _ _ e
    ·rintro σ H5 ⟨x3,x4,x6,rfl,W5,s5⟩;rw [vl,Zd] at W5;refine ⟨_,_,_,_,rfl,?_,s5⟩;rw [Za,eh,List.flatMap_append];have:(Option.toList (some h)).flatMap (fun x:Str×List Ru=>x.2)=h.2:=by simp
     rw [this];exact W5
   ·rintro σ H4 ⟨x3,x4,x5,x6,rfl,W4,s4⟩;rw [hl,Zd] at W4;exact ⟨_,rfl,k d2 ls H4 hd2 W4 els s4⟩
end
end L2.W
namespace L2.W
open PySem My
noncomputable def Clo (keys:List Str) (W:Str→List Str) (T:List Str):Prop:=∀ k∈T,k∈keys∧∃ o∈W k,o∈T
noncomputable def stepF (W:Str→List Str) (L:List Str):List Str:=L.filter fun k=>(W k).any fun o=>decide (o∈L)
theorem clo_step {keys L T:List Str}{W:Str→List Str} (c:Clo keys W T) (h:∀ k∈T,k∈L):∀ k∈T,k∈stepF W L:=fun k hk=>by
 obtain ⟨_,o,ho,hT⟩:=c k hk;exact List.mem_filter.mpr ⟨h k hk,List.any_eq_true.mpr ⟨o,ho,decide_eq_true (h o hT)⟩⟩
theorem step_full {L:List Str}{W:Str→List Str} (h:L.length=(stepF W L).length):L=stepF W L∧∀ k∈L,∃ o∈W k,o∈L:=by
 have e:stepF W L=L:=List.filter_eq_self.mpr (List.length_filter_eq_length_iff.mp h.symm);refine ⟨e.symm,fun k hk=>?_⟩;rw [← e] at hk;obtain ⟨o,ho,h2⟩:=List.any_eq_true.mp (List.mem_filter.mp hk).2;exact ⟨o,ho,of_decide_eq_true h2⟩
noncomputable def spNever:Sp:=fun vs H Q _=>∃ (d:Addr) (ls:List (Str×Addr)) (W:Str→List Str),vs=[.ref d]∧WAt H d ls W∧ls.length≤5∧(∀ k,(W k).length≤100000) ∧
 ∀ (l:Addr) (S:List Str) (H':Hp),H l=none→H' l=some (.lst (S.map V.str))→Same H H'→S.Sublist (ls.map (·.1))→(∀ k∈S,∃ o∈W k,o∈S)→(∀ T,Clo (ls.map (·.1)) W T→∀ k∈T,k∈S)→Q (.ref l) H'
theorem zAz {L:List Str}{i:Nat}{x:Str} (p:Str→Bool) (h:L[i]? = some x):(L.take (i + 1)).filter p=if p x=true then (L.take i).filter p++[x] else (L.take i).filter p:=by
 rw [Za,h,Yc];cases e:p x <;> simp [e]
section
variable {P:Program}{w:World}{K:PySem.W.Frag}{mg:Str→Option Value}{base:Heap}{CX:CXT}
theorem scNf:FnScope ["waiting", "left", "still"] ["waiting"] (defScope sNeverFree):=⟨rfl,rfl,rfl,by decide +kernel,rfl,by decide +kernel,by decide +kernel⟩
theorem ndNf:(["waiting", "left", "still", "kind", "other"]:List Str).Nodup:=by decide +kernel
theorem ok_never {f:Addr}{fd:FuncData} (T:Tops K mg) (F:Fun K "never_free" "never_free" sNeverFree f fd):FnOk P w K mg base CX 1 f fd ["waiting"] spNever:=by
 refine Fun.okC F scNf (fun vs H Q E h=>?_) (fun cdv A outer s H vs Q E hr h=>?_)
 ·obtain ⟨d,ls,W,rfl,_⟩:=h;rfl
 ·obtain ⟨d,ls,W,rfl,WH,l5,wle,k⟩:=h;have nd:=scNf.nd;have hu:=hu_of hr
  refine ⟨_,zA2 (zAh (i:=1) nd rfl (Or.inr rfl) (zB2 zA4))
     (zA2 (zAh (i:=2) nd rfl (Or.inl rfl) (zAo zC9 rfl T.list PyProof.Rows.boot_list (zA0 (pv 0) zA4)))
     (zA2 (zCc PassesOwn.never (zAp op_ne (zA7 zAe rfl T.len PySem.boot_len (zA0 (pv 1) zA4)) (zA7 zAe rfl T.len PySem.boot_len (zA0 (pv 2) zA4)) (nomark _))
     (zA2 (zAh (i:=1) nd rfl (Or.inr rfl) (pv 2))
     (zA6 (zB3 (T:=["kind"]) (i:=2) rfl ScOk.auto (zAg (pv 1)) (fun _ _ _ _=>zA8 (i:=3) (by decide +kernel:(["waiting", "left", "still", "kind"]:List Str).Nodup) rfl (Or.inl rfl)) (fun _ _ _ _=>zC7 (zAr (zA7 (call_any (K:=K) rfl rfl) rfl T.any PyProof.Rows.boot_any (zA0 (zAn (T:=["other"]) rfl ScOk.auto (zD4 (K:=K) rfl (zB5 hu (pv 0) (pv 3) (fun _ _=>rfl))) (fun _ _ _ _=>zA8 (i:=4) ndNf rfl (Or.inl rfl)) (fun _ _ _ _=>zAy) (fun _ _ _ _=>zBq (r:=rIn K false) zCj (pv 4) (pv 1) rfl)) zA4)))) (fun _ _ _ _=>(pv 3)) nd rfl rfl rfl))))
     (zA6 (zAj (pv 1))))),?_⟩
  have small:∀ n:Nat,n≤1000→n≤sizeLine:=fun n h=>Zt (small1000 h);have big:(200000:Nat)≤sizeLine:=by rw [sizeLine_eq];decide
  refine ⟨Zn _,fun a ha=>?_⟩;have s1:Same H (upd H a (.lst [])):=Same.new ha;have x1:(upd H a (.lst [])) a=some (.lst []):=zA1;generalize upd H a (.lst [])=H1 at s1 x1 ⊢;refine ⟨_,rfl,d,_,rfl,.inl (s1 _ _ WH.hd),rfl,fun b hb=>?_⟩;rw [show ((dOf ls).map fun kv=>kV kv.1)=(ls.map (·.1)).map V.str by unfold dOf;rw [Zv,Zv];rfl];have s2:Same H1 (upd H1 b (.lst ((ls.map (·.1)).map V.str))):=Same.new hb;have x2:(upd H1 b (.lst ((ls.map (·.1)).map V.str))) b=some (.lst ((ls.map (·.1)).map V.str)):=zA1;have nb:H b=none:=s1.free hb;generalize upd H1 b (.lst ((ls.map (·.1)).map V.str))=H2 at s2 x2 ⊢;have s02:=s1.trans s2;have x1':=s2 _ _ x1;have kl:(ls.map (·.1)).length≤5:=by rw [Z0];exact l5
  generalize ek:ls.map (·.1)=keys at x2 kl k ⊢
  refine ⟨fun m σ H'=>∃ (a b:Addr) (L S:List Str),σ = [some (.ref d),some (.ref a),some (.ref b)]∧H a=none∧H b=none∧H' a=some (.lst (L.map V.str))∧H' b=some (.lst (S.map V.str))∧Same H H'∧L.Sublist keys∧S.Sublist keys∧(∀ T,Clo keys W T→∀ k∈T,k∈S)∧((L=[]∧S=keys∧m=keys.length + 1)∨(S=stepF W L∧m=L.length)),
   ⟨keys.length + 1,a,b,[],keys,rfl,ha,nb,x1',x2,s02,List.nil_sublist _,List.Sublist.refl _,fun T c k hk=>(c k hk).1,.inl ⟨rfl,rfl,rfl⟩⟩,?_⟩
  rintro m σ H3 ⟨a,b,L,S,rfl,ha,hb,xa,xb,s3,sL,sS,cS,st⟩;refine ⟨_,rfl,a,_,rfl,.inl (SqL.of xa),_,rfl,b,_,rfl,.inl (SqL.of xb),rfl,_,rfl,?_⟩;rw [Z0,Z0];have Sle:=sS.length_le;have Lle:=sL.length_le;by_cases ce:L.length=S.length
  ·rw [show (!decide (V.int (L.length:Int)=V.int (S.length:Int)))=false by rw [ce];simp];refine iteF ?_;have fin:L=S∧∀ k∈L,∃ o∈W k,o∈L:=by
    rcases st with ⟨e1,e2,_⟩ | ⟨e,_⟩
    ·rw [e1] at ce ⊢;have:S=[]:=List.length_eq_zero_iff.mp ce.symm;exact ⟨this.symm,fun k hk=>nomatch hk⟩
    ·rw [e] at ce ⊢;exact step_full ce
   exact ⟨_,rfl,k a L H3 ha xa s3 sL fin.2 fun T c=>by rw [fin.1];exact cS T c⟩
  ·rw [show (!decide (V.int (L.length:Int)=V.int (S.length:Int)))=true by
    rw [decide_eq_false (fun z=>ce (by have:=V.int.inj z;omega))];rfl]
   refine iteT ⟨fun σ' H'=>∃ m',m' < m∧∃ (a b:Addr) (L S:List Str),σ'=[some (.ref d),some (.ref a),some (.ref b)]∧H a=none∧H b=none∧H' a=some (.lst (L.map V.str))∧H' b=some (.lst (S.map V.str))∧Same H H'∧L.Sublist keys∧S.Sublist keys∧(∀ T,Clo keys W T→∀ k∈T,k∈S)∧((L=[]∧S=keys∧m'=keys.length + 1)∨(S=stepF W L∧m'=L.length)),fun σ' H' z=>z,?_⟩;have lt:S.length < m:=by
    rcases st with ⟨e1,e2,e3⟩ | ⟨e,e3⟩
    ·omega
    ·have:=Zl (fun k=>(W k).any fun o=>decide (o∈L)) L;have:S.length≤L.length:=by rw [e];exact this
     omega
   dsimp only [gName,List.set];refine ⟨_,rfl,?_⟩;dsimp only [gName,List.set];refine ⟨_,rfl,b,rfl,⟨_,SqL.of xb⟩,zAd (xs:=S.map V.str) (fun i ys H'=>Same H3 H'∧ys=((S.take i).filter fun k=>(W k).any fun o=>decide (o∈S)).map V.str) ⟨Same.refl _,rfl⟩ (fun i ys H' p=>SqL.of (p.1 _ _ xb)) (fun i ys H' hi p=>?_) ?_ ?_⟩
   ·rw [p.2,Z0];have h1:=Zl (fun k=>(W k).any fun o=>decide (o∈S)) (S.take i);rw [Zc] at h1;exact small _ (by omega)
   ·rintro i v ys H4 hi ⟨s4,rfl⟩ N hN;rw [Z8] at hi;obtain ⟨kk,ekk,rfl⟩:=Option.map_eq_some_iff.mp hi;obtain ⟨aa,ma,dg,haa⟩:=(WH.same (s3.trans s4)).get (k:=kk) (by rw [ek];exact sS.subset (Z4 ekk));refine ⟨_,rfl,_,rfl,d,_,rfl,dg,aa,rfl,⟨_,SqL.of haa⟩,zAd (xs:=(W kk).map V.str) (fun j zz H'=>H4=H'∧zz=(((W kk).take j).map fun o=>decide (o∈S)).map V.bl) ⟨rfl,rfl⟩ (fun j zz H' p=>by rw [← p.1];exact SqL.of haa) (fun j zz H' hj p=>?_) ?_ ?_⟩
    ·rw [p.2,Z0,Z0,Zc];have:=wle kk;omega
    ·rintro j v zz H' hj ⟨rfl,rfl⟩ N2 hN2;rw [Z8] at hj;obtain ⟨o,eo,rfl⟩:=Option.map_eq_some_iff.mp hj;refine pick ?_;refine ⟨_,rfl,_,rfl,b,_,rfl,.inl (SqL.of (s4 _ _ xb)),rfl,flats _,hN2 _ _ ⟨rfl,?_⟩⟩;rw [zBc,Za,eo,Z6,Z6];rfl
    ·rintro zz H' ⟨rfl,rfl⟩ c hc;rw [Z0,Zd];refine ⟨c,_,rfl,SqL.of zA1,_,rfl,?_⟩;have e1:((W kk).map fun o=>decide (o∈S)).any id=(W kk).any fun o=>decide (o∈S):=by rw [List.any_map];rfl
     rw [e1];have sn:=zAz (fun k=>(W k).any fun o=>decide (o∈S)) ekk;cases eb:(W kk).any fun o=>decide (o∈S) with
     | true =>
      refine iteT ⟨_,rfl,hN _ _ ⟨s4.trans (Same.new hc),?_⟩⟩;rw [sn,if_pos eb,Z6];rfl
     | false =>
      refine iteF (hN _ _ ⟨s4.trans (Same.new hc),?_⟩);rw [sn,if_neg (by rw [eb];exact Z3)]
   ·rintro ys H4 ⟨s4,rfl⟩ c hc;rw [Z0,Zd];have s5:Same H3 (upd H4 c (.lst ((stepF W S).map V.str))):=s4.trans (Same.new hc);exact ⟨S.length,lt,b,c,S,stepF W S,rfl,hb,(s3.trans s4).free hc,s5 _ _ xb,zA1,s3.trans s5,sS,(List.filter_sublist).trans sS,fun T cc=>clo_step cc (cS T cc),.inr ⟨rfl,rfl⟩⟩
end
end L2.W
namespace L2.W
open PySem My
structure IsRing (W:Str→List Str) (R:List Str):Prop where
 ne:R≠[]
 nd:R.Nodup
 ch:∀ (i:Nat) (x y:Str),R[i]? = some x→R[i + 1]? = some y→y∈W x
 lo:∀ x y,R.getLast? = some x→R.head? = some y→y∈W x
noncomputable def spRing (CK C CR CH CT CA CN:Addr):Sp:=fun vs H Q E=>∃ (kq d lh:Addr) (kvs:List (Key×V)) (ord:List Str) (ow:Str→Option Str) (hv:List V) (hs:List (Str×List Ru)),vs=[.ref kq,.ref lh]∧KOwn CK C H kq d kvs ord ow∧H lh=some (.lst hv)∧Paired (HaAt CR CH CT CA H) hv hs∧(hs.map (·.1)).Nodup∧hs.length≤10∧(∀ h∈hs,nameOk h.1∧h.2.length≤100∧∀ x∈h.2,RuOk x) ∧
 (hs.all (handB ord)=true→(∀ T,Clo ord (wt ow (hs.flatMap (·.2))) T→T=[])→∀ H',Same H H'→Q .non H') ∧
 (hs.all (handB ord)=true→∀ (l:Addr) (R:List Str) (H':Hp),H l=none→H' l=some (.lst (R.map V.str))→Same H H'→IsRing (wt ow (hs.flatMap (·.2))) R→(∀ k∈R,k∈ord)→Q (.ref l) H') ∧
 (hs.all (handB ord)=false→Refused CN H E)
theorem scRg:FnScope ["kinds", "hands", "waiting", "left", "passed", "here"] ["kinds", "hands"] (defScope sRing):=⟨rfl,rfl,rfl,by decide +kernel,rfl,by decide +kernel,by decide +kernel⟩
theorem zCl {xs:List V}{j:Nat} (h:j≤xs.length):cutV xs (some (j:Int)) none=xs.drop j:=by
 have n:¬ ((j:Int) < 0):=by omega
 unfold cutV HT.sIx;simp [n,Nat.min_eq_left h];rw [List.take_of_length_le (by rw [Zw];omega)]
theorem zDy {a b:List Str} (h:a.Nodup) (s:∀ x∈a,x∈b):a.length≤b.length:=zDa h s
section
variable {P:Program}{w:World}{K:PySem.W.Frag}{mg:Str→Option Value}{base:Heap}
theorem ok_ring {f fk fw fn CK C CN CR CH CT CA:Addr}{fd fdk fdw fdn:FuncData} (T:Tops K mg) (F:Fun K "ring" "ring" sRing f fd) (DK:Def K mg "check" sCheck ["kinds", "hands"] fk fdk) (GK:FnOk P w K mg base (CXM P w) 4 fk fdk ["kinds", "hands"] (spCheck CK CR CH CT CA CN))
  (DW:Def K mg "waits" sWaitsP ["kinds", "hands"] fw fdw) (GW:FnOk P w K mg base (CXM P w) 3 fw fdw ["kinds", "hands"] (spWaits CK C CR CH CT CA)) (DN:Def K mg "never_free" sNeverFree ["waiting"] fn fdn):FnOk P w K mg base (CXM P w) 5 f fd ["kinds", "hands"] (spRing CK C CR CH CT CA CN):=by
 have GN:FnOk P w K mg base (CXM P w) 1 fn fdn ["waiting"] spNever:=ok_never T DN.fn;have hC:Calm (CXM P w):=calmM;refine Fun.okX F scRg (fun vs H Q E h=>?_) (fun cdv A outer s H vs Q E hr h=>?_)
 ·obtain ⟨kq,d,lh,kvs,ord,ow,hv,hs,rfl,_⟩:=h;rfl
 ·obtain ⟨kq,d,lh,kvs,ord,ow,hv,hs,rfl,kw,hlh,hhs,hnd,hle,hok,k1,k2,k3⟩:=h;have nd:=scRg.nd;have hu:=hu_of hr;have hr1:=hr.mono (show 1≤4 by decide);have hr3:=hr.mono (show 3≤4 by decide)
  refine ⟨_,zA2 (zBx (zAc GK hr rfl DK.at_ DK.fn.kp DK.bind .nil pass_on (zA0 (pv 0) (zA0 (pv 1) zA4))))
     (zA2 (zAh (i:=2) nd rfl (Or.inl rfl) (zAc GW hr3 rfl DW.at_ DW.fn.kp DW.bind .nil (passC hC) (zA0 (pv 0) (zA0 (pv 1) zA4))))
     (zA2 (zAh (i:=3) nd rfl (Or.inr rfl) (zAc GN hr1 rfl DN.at_ DN.fn.kp DN.bind .nil (passC hC) (zA0 (pv 2) zA4)))
     (zA2 (zB1 (zAp op_eq (zA7 zAe rfl T.len PySem.boot_len (zA0 (pv 3) zA4)) zAa (nomark _))
     (zA6 (zAj zDt)) zAf)
     (zA2 (zAh (i:=4) nd rfl (Or.inl rfl) (zB2 zA4))
     (zA2 (zAh (i:=5) nd rfl (Or.inl rfl) (zBp zB9 (pv 3) zAa (fun _ _=>rfl)))
     (zA2 (zCc PassesOwn.leaving (zAp zB8 (pv 5) (pv 4) rfl)
     (zA2 (zBx (pe_bm PySem.F.plainAttrs_list PySem.F.slot_list_append PySem.F.type_list_append mt_append (pv 4) (zA0 (pv 5) zA4)))
     (zA6 (zAh (i:=5) nd rfl (Or.inl rfl) (zBp zB9 (zAn (T:=["other"]) rfl ScOk.auto (zAg (zB5 hu (pv 2) (pv 5) (fun _ _=>rfl))) (fun _ _ _ _=>zA8 (i:=6) (by decide +kernel:(["kinds", "hands", "waiting", "left", "passed", "here", "other"]:List Str).Nodup) rfl (Or.inl rfl)) (fun _ _ _ _=>zC7 (zAp (r:=rIn K false) zCj (pv 6) (pv 3) rfl)) (fun _ _ _ _=>(pv 6))) zAa (fun _ _=>rfl))))))
     (zA6 (zAj (zAx zBj (pv 4) (zB4 (pe_bm PySem.F.plainAttrs_list PySem.F.slot_list_index PySem.F.type_list_index (mt_lindex rfl) (pv 4) (zA0 (pv 5) zA4))) zBn))))))))),?_⟩
  have small:∀ n:Nat,n≤1000→n≤sizeLine:=fun n h=>Zt (small1000 h);have big:(200000:Nat)≤sizeLine:=by rw [sizeLine_eq];decide
  refine ⟨_,rfl,_,rfl,kq,d,lh,kvs,ord,hv,hs,rfl,kw.ko,hlh,hhs,hnd,hle,hok,fun good H1 s1=>?_,fun bad=>?_⟩
  ·have inO:∀ h∈hs,∀ x∈h.2,x.1∈ord:=fun h hm x hx=>by
    have h1:=List.all_eq_true.mp good h hm;have h2:=List.all_eq_true.mp h1 x hx;exact of_decide_eq_true (List.all_eq_true.mp h2 x.1 Zj)
   refine ⟨_,rfl,_,rfl,kq,d,lh,kvs,ord,ow,hv,hs,rfl,kw.mono s1,s1 _ _ hlh,zAb hhs fun _ _ r=>r.mono s1,hle,fun h hm=>⟨(hok h hm).2.1,fun x hx=>⟨inO h hm x hx,((hok h hm).2.2 x hx).le⟩⟩,fun d2 ls H2 hd2 W2 els s2=>?_⟩;dsimp only [gName,List.set];have o5:=kw.ko.le;have lsl:ls.length≤5:=by have:=congrArg List.length els;rw [Z0] at this;omega
   have wle:∀ k,(wt ow (hs.flatMap (·.2)) k).length≤100000:=fun k=>by
    have:=wt_len ow k (hs.flatMap (·.2)) fun x hx=>by
     obtain ⟨h,hm,hx⟩:=List.mem_flatMap.mp hx;exact ((hok h hm).2.2 x hx).le
    have:=zEe (n:=100) hs fun h hm=>(hok h hm).2.1;omega
   refine ⟨_,rfl,d2,ls,_,rfl,W2,lsl,wle,fun lf S H3 hlf xlf s3 sub clo tot=>?_⟩;rw [els] at sub tot;have s12:=s1.trans s2;have s13:=s12.trans s3;have W3:=W2.same s3;have hlfH:=s12.free hlf;dsimp only [gName,List.set];refine ⟨_,rfl,lf,_,rfl,.inl (SqL.of xlf),rfl,_,rfl,?_⟩;cases S with
   | nil =>
    refine iteT (k1 good (fun T c=>?_) H3 s13);cases T with
    | nil=>rfl
    | cons k t=>cases tot _ c k Zj
   | cons x0 S0 =>
    refine iteBF (decide_eq_false fun z=>by have h:=V.int.inj z;rw [Z0,Zh] at h;omega) ⟨Zn _,fun a ha=>?_⟩;have s4:Same H3 (upd H3 a (.lst [])):=Same.new ha;have x4:(upd H3 a (.lst [])) a=some (.lst ([].map V.str)):=zA1;have haH:=s13.free ha;have nad:a≠d2:=Ne.symm (zA3 W3.hd ha);have nal:∀ x∈ls,x.2≠a:=fun x hx=>zA3 (W3.hl x hx) ha;have naf:lf≠a:=zA3 xlf ha;have W4:=W3.same s4;have xf4:=s4 _ _ xlf;generalize upd H3 a (.lst [])=H4 at s4 x4 W4 xf4 ⊢;have s14:=s13.trans s4;have Sle:=sub.length_le;have Snd:(x0 :: S0).Nodup:=sub.nodup kw.nk;generalize eS:x0 :: S0=S at sub tot clo xf4 Sle Snd ⊢;have mx:x0∈S:=by rw [← eS];exact Zj
    have ix0:(S.map V.str)[0]? = some (.str x0):=by rw [← eS];rfl
    refine ⟨_,rfl,lf,_,((0:Nat):Int),_,rfl,rfl,SqL.of xf4,zCx ix0,?_⟩;dsimp only [gName,List.set]
    refine ⟨fun m σ H'=>∃ (ps:List Str) (here:Str),σ = [some (.ref kq),some (.ref lh),some (.ref d2),some (.ref lf),some (.ref a),some (.str here)]∧H' a=some (.lst (ps.map V.str))∧WAt H' d2 ls (wt ow (hs.flatMap (·.2)))∧H' lf=some (.lst (S.map V.str))∧Same H H'∧ps.Nodup∧(∀ x∈ps,x∈S)∧here∈S∧(∀ (i:Nat) (x y:Str),ps[i]? = some x→ps[i + 1]? = some y→y∈wt ow (hs.flatMap (·.2)) x)∧(∀ x,ps.getLast? = some x→here∈wt ow (hs.flatMap (·.2)) x)∧m + ps.length=S.length + 1,
     ⟨S.length + 1,[],x0,rfl,x4,W4,xf4,s14,Y5,(fun x hx=>nomatch hx),mx,(fun i x y e=>by simp at e),(fun x e=>by simp at e),rfl⟩,?_⟩
    rintro m σ H5 ⟨ps,here,rfl,xa,W5,xf,s5,pnd,psub,hin,pch,pla,pm⟩;refine ⟨_,rfl,_,rfl,a,_,rfl,.inl (SqL.of xa),rfl,flats _,_,rfl,?_⟩;show if (!inV (.str here) (ps.map V.str))=true then _ else _
    rw [zBc];have pl:=zDy pnd psub;by_cases ch:here∈ps
    ·rw [decide_eq_true ch];refine iteF ?_;obtain ⟨j,hj,ej,hno⟩:∃ j,j < ps.length∧ps[j]? = some here∧∀ m,m < j→ps[m]?≠some here:=by
      obtain ⟨j,hj,ej⟩:=Zo ch;refine ⟨j,hj,by rw [Z1 hj,ej],fun m hm e=>?_⟩;have ml:m < ps.length:=by omega
      have:=List.pairwise_iff_getElem.mp pnd m j ml hj hm;rw [Z1 ml] at e;exact this (by rw [Zg e,ej])
     refine ⟨_,rfl,_,rfl,.inl ⟨rfl,_,SqL.of xa⟩,_,rfl,a,ps,here,j,rfl,rfl,SqL.of xa,ej,hno,_,rfl,a,_,rfl,SqL.of xa,fun l hl=>?_⟩;rw [zCl (by rw [Z0];omega),← List.map_drop];have sl:Same H5 (upd H5 l (.lst ((ps.drop j).map V.str))):=Same.new hl;refine k2 good l (ps.drop j) _ (s5.free hl) zA1 (s5.trans sl) ⟨?_,(List.drop_sublist j ps).nodup pnd,fun i x y e1 e2=>?_,fun x y e1 e2=>?_⟩ fun x hx=>sub.subset (psub x (List.mem_of_mem_drop hx))
     ·intro z;have:=congrArg List.length z;rw [Zw] at this;simp at this;omega
     ·rw [List.getElem?_drop] at e1 e2;exact pch (j + i) x y e1 (by rw [← e2];congr 1)
     ·rw [List.getLast?_drop,if_neg (by omega)] at e1;rw [List.head?_drop,ej] at e2;rw [← Zg e2];exact pla x e1
    ·rw [decide_eq_false ch];have pl2:=zDy (List.nodup_cons.mpr ⟨ch,pnd⟩) fun x hx=>by
      rcases List.mem_cons.mp hx with e | hx
      ·rw [e];exact hin
      ·exact psub x hx
     rw [Zh] at pl2;refine iteT ⟨fun σ' H'=>∃ m',m' < m∧∃ (ps:List Str) (here:Str),σ'=[some (.ref kq),some (.ref lh),some (.ref d2),some (.ref lf),some (.ref a),some (.str here)]∧H' a=some (.lst (ps.map V.str))∧WAt H' d2 ls (wt ow (hs.flatMap (·.2)))∧H' lf=some (.lst (S.map V.str))∧Same H H'∧ps.Nodup∧(∀ x∈ps,x∈S)∧here∈S∧(∀ (i:Nat) (x y:Str),ps[i]? = some x→ps[i + 1]? = some y→y∈wt ow (hs.flatMap (·.2)) x)∧(∀ x,ps.getLast? = some x→here∈wt ow (hs.flatMap (·.2)) x)∧m' + ps.length=S.length + 1,fun σ' H' z=>z,?_⟩;refine ⟨_,rfl,.inl ⟨rfl,_,SqL.of xa⟩,_,rfl,a,_,_,rfl,rfl,xa,by rw [Z0];omega,?_⟩;have e6:ps.map V.str++[V.str here]=(ps++[here]).map V.str:=by rw [Z6];rfl
     rw [e6];have xa6:(upd H5 a (.lst ((ps++[here]).map V.str))) a=some (.lst ((ps++[here]).map V.str)):=zA1;have o6:∀ b,b≠a→(upd H5 a (.lst ((ps++[here]).map V.str))) b=H5 b:=fun b hb=>zA5 hb;generalize upd H5 a (.lst ((ps++[here]).map V.str))=H6 at xa6 o6 ⊢;have W6:WAt H6 d2 ls (wt ow (hs.flatMap (·.2))):=⟨by rw [o6 _ (Ne.symm nad)];exact W5.hd,W5.nk,W5.na,fun x hx=>by rw [o6 _ (nal x hx)];exact W5.hl x hx⟩;have xf6:H6 lf=some (.lst (S.map V.str)):=by rw [o6 _ naf];exact xf
     have s6:Same H H6:=fun b o e=>by rw [o6 _ (fun z=>by rw [z,haH] at e;cases e)];exact s5 _ _ e
     obtain ⟨aa,ma,dg,haa⟩:=W6.get (k:=here) (by rw [els];exact sub.subset hin);refine ⟨_,rfl,_,rfl,d2,_,rfl,dg,aa,rfl,⟨_,SqL.of haa⟩,zAd (xs:=(wt ow (hs.flatMap (·.2)) here).map V.str) (fun i ys H'=>H6=H'∧ys=(((wt ow (hs.flatMap (·.2)) here).take i).filter fun o=>decide (o∈S)).map V.str) ⟨rfl,rfl⟩ (fun i ys H' p=>by rw [← p.1];exact SqL.of haa) (fun i ys H' hi p=>?_) ?_ ?_⟩
     ·rw [p.2,Z0];have h1:=Zl (fun o=>decide (o∈S)) ((wt ow (hs.flatMap (·.2)) here).take i);rw [Zc] at h1;have:=wle here;omega
     ·rintro i v ys H' hi ⟨rfl,rfl⟩ N hN;rw [Z8] at hi;obtain ⟨o,eo,rfl⟩:=Option.map_eq_some_iff.mp hi;refine ⟨_,rfl,_,rfl,lf,_,rfl,.inl (SqL.of xf6),rfl,flats _,_,rfl,?_⟩;show if inV (.str o) (S.map V.str)=true then _ else _
      rw [zBc];have sn:=zAz (fun o=>decide (o∈S)) eo;by_cases co:o∈S
      ·rw [decide_eq_true co];refine iteT ⟨_,rfl,hN _ _ ⟨rfl,?_⟩⟩;rw [sn,if_pos (decide_eq_true co),Z6];rfl
      ·rw [decide_eq_false co];refine iteF (hN _ _ ⟨rfl,?_⟩);rw [sn,if_neg (by rw [decide_eq_false co];exact Z3)]
     ·rintro ys H' ⟨rfl,rfl⟩ c hc;rw [Z0,Zd];obtain ⟨o1,ho1,hoS⟩:=clo here hin;obtain ⟨nx,rest,enx⟩:∃ nx rest,((wt ow (hs.flatMap (·.2)) here).filter fun o=>decide (o∈S))=nx :: rest:=by
       cases e:((wt ow (hs.flatMap (·.2)) here).filter fun o=>decide (o∈S)) with
       | nil =>
        have:o1∈((wt ow (hs.flatMap (·.2)) here).filter fun o=>decide (o∈S)):=List.mem_filter.mpr ⟨ho1,decide_eq_true hoS⟩;rw [e] at this;cases this
       | cons a b=>exact ⟨a,b,rfl⟩
      have mnx:nx∈wt ow (hs.flatMap (·.2)) here∧nx∈S:=by
       have:nx∈((wt ow (hs.flatMap (·.2)) here).filter fun o=>decide (o∈S)):=by rw [enx];exact Zj
       have:=List.mem_filter.mp this;exact ⟨this.1,of_decide_eq_true this.2⟩
      rw [enx];refine ⟨c,_,((0:Nat):Int),_,rfl,rfl,SqL.of zA1,zCx rfl,?_⟩;have s7:Same H6 (upd H6 c (.lst ((nx :: rest).map V.str))):=Same.new hc;refine ⟨m - 1,by omega,ps++[here],nx,rfl,s7 _ _ xa6,W6.same s7,s7 _ _ xf6,s6.trans s7,?_,?_,mnx.2,?_,?_,?_⟩
      ·rw [List.nodup_append];exact ⟨pnd,List.pairwise_singleton _ _,fun x hx y hy e=>by rw [List.mem_singleton.mp hy] at e;exact ch (e ▸ hx)⟩
      ·intro x hx;rcases List.mem_append.mp hx with hx | hx
       ·exact psub x hx
       ·rw [List.mem_singleton.mp hx];exact hin
      ·intro i x y e1 e2;have il:=(List.getElem?_eq_some_iff.mp e2).1;rw [Zk,List.length_singleton] at il;by_cases ci:i + 1 < ps.length
       ·rw [Zm (by omega)] at e1;rw [Zm ci] at e2;exact pch i x y e1 e2
       ·have ei:i + 1=ps.length:=by omega
        rw [Zm (by omega)] at e1;rw [Y3 (by omega),show i + 1 - ps.length=0 by omega] at e2;have ey:here=y:=Zg e2;rw [← ey];refine pla x ?_;rw [List.getLast?_eq_getElem?,show ps.length - 1=i by omega];exact e1
      ·intro x e;rw [List.getLast?_append] at e;have ex:here=x:=Zg e;rw [← ex];exact mnx.1
      ·rw [Zk,List.length_singleton];omega
  ·exact fun e H' h1 h2 h3=>k3 bad e H' h1 h2 h3
end
end L2.W
namespace L2.W
open PySem My
noncomputable def oOf (ns:List Str) (ow:Str→Option Str):List (Key×V):=ns.map fun n=>(Sum.inr n,ownV (ow n))
noncomputable def LRu (H:Hp) (v:V) (x:Ru):Prop:=∃ t l,v=.ref t∧H t=some (.tup [.str x.1,.ref l])∧H l=some (.lst (x.2.map V.str))
theorem LRu.mono {H H':Hp}{v:V}{x:Ru} (h:LRu H v x) (k:∀ b o,H b=some o→isSeq o→H' b=some o):LRu H' v x:=by
 obtain ⟨t,l,e,h1,h2⟩:=h;exact ⟨t,l,e,k _ _ h1 trivial,k _ _ h2 trivial⟩
theorem dOf_set {k:Str}{a:Addr}{ls:List (Str×Addr)} (h:k∈ls.map (·.1)):putK (dOf ls) (Sum.inr k) (.ref a)=dOf (ls.map fun x=>if x.1=k then (k,a) else x):=by
 unfold putK;have e1:((dOf ls).any fun kv=>decide (kv.1=Sum.inr k))=true:=by
  obtain ⟨x,hx,e⟩:=List.mem_map.mp h;exact List.any_eq_true.mpr ⟨(Sum.inr x.1,.ref x.2),List.mem_map.mpr ⟨x,hx,rfl⟩,by simpa using e⟩
 rw [if_pos e1];unfold dOf;rw [Zv,Zv];refine List.map_congr_left fun x _=>?_;show (if (Sum.inr x.1:Key)=Sum.inr k then _ else _)=_;by_cases c:x.1=k
 ·rw [if_pos (by rw [c])];show _=(fun x:Str×Addr=>((Sum.inr x.1:Key),V.ref x.2)) (if x.1=k then (k,a) else x);rw [if_pos c];show ((Sum.inr x.1:Key),V.ref a)=(Sum.inr k,V.ref a);rw [c]
 ·rw [if_neg (fun z=>c (Sum.inr.inj z))];show _=(fun x:Str×Addr=>((Sum.inr x.1:Key),V.ref x.2)) (if x.1=k then (k,a) else x);rw [if_neg c]
theorem WAt.put {H:Hp}{d a:Addr}{ls:List (Str×Addr)}{W W':Str→List Str}{k:Str} (h:WAt H d ls W) (ha:H a=some (.lst ((W' k).map V.str))) (na:a∉ls.map (·.2)) (e1:∀ y,y≠k→W' y=W y):WAt (upd H d (.dK (dOf (ls.map fun x=>if x.1=k then (k,a) else x)))) d (ls.map fun x=>if x.1=k then (k,a) else x) W':=by
 have nd:∀ {b:Addr}{xs:List V},H b=some (.lst xs)→b≠d:=fun {b xs} e z=>by rw [z,h.hd] at e;cases e
 have ef:(ls.map fun x=>if x.1=k then (k,a) else x).map (·.1)=ls.map (·.1):=by
  rw [Zv];refine List.map_congr_left fun x _=>?_;show (if x.1=k then (k,a) else x).1=x.1;by_cases c:x.1=k
  ·rw [if_pos c,c]
  ·rw [if_neg c]
 refine ⟨zA1,by rw [ef];exact h.nk,?_,fun x hx=>?_⟩
 ·have key:∀ {l:List (Str×Addr)},(l.map (·.1)).Nodup→(l.map (·.2)).Nodup→a∉l.map (·.2)→((l.map fun x=>if x.1=k then (k,a) else x).map (·.2)).Nodup:=by
   intro l
   induction l with
   | nil=>intro _ _ _;exact Y5
   | cons z t ih =>
    intro n1 n2 n3;rw [Zq,Yh] at n1 n2;rw [Zq,Zy,not_or] at n3;rw [Zq,Zq,Yh];refine ⟨fun hm=>?_,ih n1.2 n2.2 n3.2⟩;obtain ⟨y,hy,ey⟩:=List.mem_map.mp hm;obtain ⟨x,hx,rfl⟩:=List.mem_map.mp hy;by_cases cz:z.1=k
    ·rw [if_pos cz] at ey;by_cases cx:x.1=k
     ·exact n1.1 (List.mem_map.mpr ⟨x,hx,by rw [cx,cz]⟩)
     ·rw [if_neg cx] at ey;exact n3.2 (List.mem_map.mpr ⟨x,hx,ey⟩)
    ·rw [if_neg cz] at ey;by_cases cx:x.1=k
     ·rw [if_pos cx] at ey;exact n3.1 ey
     ·rw [if_neg cx] at ey;exact n2.1 (List.mem_map.mpr ⟨x,hx,ey⟩)
  exact key h.nk h.na na
 ·obtain ⟨y,hy,rfl⟩:=List.mem_map.mp hx;by_cases c:y.1=k
  ·rw [if_pos c,zA5 (nd ha)];exact ha
  ·rw [if_neg c,zA5 (nd (h.hl y hy)),e1 _ c];exact h.hl y hy
theorem zBb {α β : Type}{R : α→β→Prop}{a b:List α}{c d:List β} (h:Paired R a c) (h2:Paired R b d):Paired R (a++b) (c++d):=by
 induction h with
 | nil=>exact h2
 | cons r _ ih=>exact .cons r ih
noncomputable def spLWaits:Sp:=fun vs H Q _=>∃ (od lr:Addr) (ns:List Str) (ow:Str→Option Str) (rv:List V) (rs:List Ru),vs=[.ref od,.ref lr]∧Rd H od (.dK (oOf ns ow))∧ns.Nodup∧ns.length≤5∧H lr=some (.lst rv)∧Paired (LRu H) rv rs∧rs.length≤100∧(∀ x∈rs,x.1∈ns∧x.2.length≤50) ∧
 ∀ (d2:Addr) (ls:List (Str×Addr)) (H':Hp),H d2=none→WAt H' d2 ls (wt ow rs)→ls.map (·.1)=ns→(∀ x∈ls,H x.2=none)→(∀ b o,H b=some o→b≠od→H' b=some o)→Q (.ref d2) H'
section
variable {P:Program}{w:World}{K:PySem.W.Frag}{mg:Str→Option Value}{base:Heap}{CX:CXT}
theorem scLw:FnScope ["_law_owners", "_law_rules", "_law_found", "_law_kind", "_law_behind"] ["_law_owners", "_law_rules"] (defScope sWaits):=⟨rfl,rfl,rfl,by decide +kernel,rfl,by decide +kernel,by decide +kernel⟩
theorem ndLw:(["_law_owners", "_law_rules", "_law_found", "_law_kind", "_law_behind", "_law_name", "_law_owner", "_law_one"]:List Str).Nodup:=by decide +kernel
theorem ndLw2:(["_law_owners", "_law_rules", "_law_found", "_law_kind", "_law_behind", "_law_name", "_law_owner"]:List Str).Nodup:=by decide +kernel
theorem ok_lwaits {f:Addr}{fd:FuncData} (T:Tops K mg) (F:Fun K "_law_waits" "_law_waits" sWaits f fd):FnOk P w K mg base CX 1 f fd ["_law_owners", "_law_rules"] spLWaits:=by
 refine Fun.okC F scLw (fun vs H Q E h=>?_) (fun cdv A outer s H vs Q E hr h=>?_)
 ·obtain ⟨od,lr,ns,ow,rv,rs,rfl,_⟩:=h;rfl
 ·obtain ⟨od,lr,ns,ow,rv,rs,rfl,rd,nnd,n5,hlr,hrs,rle,rok,k⟩:=h;have nd:=scLw.nd;have hu:=hu_of hr
  refine ⟨_,zA2 (zAh (i:=2) nd rfl (Or.inl rfl) (zAo (zBe (K:=K) rfl) rfl T.dict PyProof.Rows.boot_dict (zA0 (zAn (T:=["_law_name", "_law_owner"]) rfl ScOk.auto (zCe (zCf (pv 0))) (fun _ _ _ _=>zCq (K:=K) (n:=2) rfl rfl (zAu (zA8 (i:=5) ndLw2 rfl (Or.inl rfl)) (zAu (zA8 (i:=6) ndLw2 rfl (Or.inl rfl)) zBy))) (fun _ _ _ _=>zAy) (fun _ _ _ _=>zDd (zA0 (pv 5) (zA0 (zAn (T:=["_law_one"]) rfl ScOk.auto (zD4 (K:=K) rfl (zB2 (zA0 (pv 6) zA4))) (fun _ _ _ _=>zA8 (i:=7) ndLw rfl (Or.inl rfl)) (fun _ _ _ _=>zC7 (zC6 (zE8 (pv 7)))) (fun _ _ _ _=>pv 7)) zA4)))) zA4)))
     (zA2 (zBg PassesOwn.never rfl (zAg (pv 1)) (pg_tup rfl (zAu (zA8 (i:=3) nd rfl (Or.inl rfl)) (zAu (zA8 (i:=4) nd rfl (Or.inl rfl)) zBy)))
     (zA6 (zCp hu (pv 2) (pv 3) (zAt op_cat (zB5 hu (pv 2) (pv 3) (fun _ _=>rfl)) (pv 4)) rfl)))
     (zA6 (zAj (pv 2)))),?_⟩
  have small:∀ n:Nat,n≤1000→n≤sizeLine:=fun n h=>Zt (small1000 h);have big:(200000:Nat)≤sizeLine:=by rw [sizeLine_eq];decide
  refine ⟨_,rfl,od,_,rfl,rd,fun vw hvw=>⟨vw,od,_,rfl,zA1,zE0 (Same.new hvw) rd,fun o=>?_⟩⟩;have rdv:H vw=none:=hvw;have nvo:vw≠od:=fun z=>by rcases rd with e | ⟨_,e⟩ <;> rw [← z,hvw] at e <;> cases e
  have g0:∀ b o',H b=some o'→b≠od→(upd (upd H vw (ViewI vw od)) od (.frz o (.dK (oOf ns ow)))) b=some o':=fun b o' e nb=>by rw [zA5 nb];exact (Same.new hvw) _ _ e
  have f0:(upd (upd H vw (ViewI vw od)) od (.frz o (.dK (oOf ns ow)))) od=some (.frz o (.dK (oOf ns ow))):=zA1;have fr0:∀ b,(upd (upd H vw (ViewI vw od)) od (.frz o (.dK (oOf ns ow)))) b=none→H b=none:=fun b hb=>by
   cases z:H b with
   | none=>rfl
   | some o' =>
    by_cases c:b=od
    ·rw [c,f0] at hb;cases hb
    ·rw [g0 b o' z c] at hb;cases hb
  generalize upd (upd H vw (ViewI vw od)) od (.frz o (.dK (oOf ns ow)))=F0 at g0 f0 fr0 ⊢;have ol:(oOf ns ow).length=ns.length:=by unfold oOf;rw [Z0]
  refine zCv (fun i ys H'=>Same F0 H'∧∃ (ts:List Addr) (ls:List (Str×Addr)),ys=ts.map V.ref∧Paired (fun t x=>H' t=some (.tup [.str x.1,.ref x.2])) ts ls∧ls.map (·.1)=ns.take i∧(ls.map (·.2)).Nodup∧∀ x∈ls,H' x.2=some (.lst ((ow x.1).toList.map V.str))∧H x.2=none)
   ⟨Same.refl _,[],[],rfl,.nil,rfl,Y5,fun x hx=>nomatch hx⟩ (fun i ys H' p=>p.1 _ _ f0) (fun i ys H' hi p=>?_) ?_ ?_
  ·obtain ⟨_,ts,ls,rfl,hp,e,_⟩:=p;have:=congrArg List.length e;rw [Z0,Zc] at this;rw [Z0,Paired.length hp];exact small _ (by omega)
  ·rintro i q x ys H1 p hq ⟨s1,ts,ls,rfl,hp,els,na,hls⟩ hpn N hN;unfold oOf at hq;rw [Z8] at hq;obtain ⟨n,en,eq⟩:=Option.map_eq_some_iff.mp hq;cases eq;refine pickT (SqT.of zA1) ?_;have s2:Same H1 (upd H1 p (.tup [kV (Sum.inr n),ownV (ow n)])):=Same.new hpn;generalize upd H1 p (.tup [kV (Sum.inr n),ownV (ow n)])=H2 at s2 ⊢;refine ⟨_,rfl,_,rfl,small 1 (by decide),fun l1 hl1=>?_⟩;have s3:Same H2 (upd H2 l1 (.lst [ownV (ow n)])):=Same.new hl1;have x3:(upd H2 l1 (.lst [ownV (ow n)])) l1=some (.lst [ownV (ow n)]):=zA1;generalize upd H2 l1 (.lst [ownV (ow n)])=H3 at s3 x3 ⊢;have s13:=s2.trans s3;refine ⟨l1,rfl,⟨_,SqL.of x3⟩,zAd (xs:=[ownV (ow n)]) (fun j zz H'=>H3=H'∧zz=if j=0 then [] else (ow n).toList.map V.str) ⟨rfl,rfl⟩ (fun j zz H' p=>by rw [← p.1];exact SqL.of x3) (fun j zz H' hj p=>?_) ?_ ?_⟩
   ·rw [p.2];split
    ·exact Zn _
    ·rw [Z0];have:(ow n).toList.length≤1:=by cases ow n <;> simp
     exact small _ (by omega)
   ·rintro j v zz H' hj ⟨rfl,rfl⟩ N2 hN2
    match j,hj with
    | 0,hj =>
     cases hj;refine ⟨_,rfl,_,rfl,?_⟩;cases eo:ow n with
     | none=>exact iteBF (by simp [ownV]) (hN2 _ _ ⟨rfl,by rw [eo];rfl⟩)
     | some o'=>exact iteBT (by simp [ownV]) ⟨_,rfl,hN2 _ _ ⟨rfl,by rw [eo];rfl⟩⟩
    | j + 1,hj=>simp at hj
   ·rintro zz H' ⟨rfl,rfl⟩ c hc;have s4:Same H3 (upd H3 c (.lst ((ow n).toList.map V.str))):=Same.new hc;have x4:(upd H3 c (.lst ((ow n).toList.map V.str))) c=some (.lst ((ow n).toList.map V.str)):=zA1;rw [show (if [ownV (ow n)].length=0 then [] else (ow n).toList.map V.str)=(ow n).toList.map V.str from rfl];generalize upd H3 c (.lst ((ow n).toList.map V.str))=H4 at s4 x4 ⊢;refine ⟨small 2 (by decide),fun t ht=>hN _ _ ⟨s1.trans (s13.trans (s4.trans (Same.new ht))),ts++[t],ls++[(n,c)],by rw [Z6];rfl,?_,?_,?_,fun x hx=>?_⟩⟩
    ·have s5:Same H1 (upd H4 t (.tup [.str n,.ref c])):=s13.trans (s4.trans (Same.new ht));exact zBb (zAb hp fun _ _ e=>s5 _ _ e) (.cons zA1 .nil)
    ·rw [Z6,els,Za,en];rfl
    ·rw [Z6,List.nodup_append];refine ⟨na,List.pairwise_singleton _ _,fun x hx y hy e=>?_⟩;rw [List.mem_singleton.mp hy] at e;have e':x=c:=e;obtain ⟨z,hz,ez⟩:=List.mem_map.mp hx;have:=s13 _ _ (hls z hz).1;rw [ez,e',hc] at this;cases this
    ·have s5:Same H1 (upd H4 t (.tup [.str n,.ref c])):=s13.trans (s4.trans (Same.new ht));rcases List.mem_append.mp hx with hx | hx
     ·exact ⟨s5 _ _ (hls x hx).1,(hls x hx).2⟩
     ·rw [List.mem_singleton.mp hx];exact ⟨(Same.new ht) _ _ x4,fr0 _ ((s1.trans s13).free hc)⟩
  ·rintro ys H1 ⟨s1,ts,ls,rfl,hp,els,na,hls⟩ c hc;rw [ol,Zd] at els;have s2:Same H1 (upd H1 c (.lst (ts.map V.ref))):=Same.new hc;have x2:(upd H1 c (.lst (ts.map V.ref))) c=some (.lst (ts.map V.ref)):=zA1;generalize upd H1 c (.lst (ts.map V.ref))=H2 at s2 x2 ⊢;refine ⟨c,ts,dOf ls,rfl,SqL.of x2,rfl,?_,?_,fun i t q v e1 e2=>?_,fun d2 hd2=>?_⟩
   ·rw [dOf_keys,els];exact List.Pairwise.map _ (fun a b n z=>n (Sum.inr.inj z)) nnd
   ·unfold dOf;rw [Z0,Paired.length hp]
   ·unfold dOf at e2;rw [Z8] at e2;obtain ⟨x,ex,eq⟩:=Option.map_eq_some_iff.mp e2;cases eq;obtain ⟨y,ey,hy⟩:=zAi hp e1;rw [ex] at ey;cases ey;exact s2 _ _ hy
   ·have s3:Same H2 (upd H2 d2 (.dK (dOf ls))):=Same.new hd2;have x3:(upd H2 d2 (.dK (dOf ls))) d2=some (.dK (dOf ls)):=zA1;have hd2H:=fr0 _ ((s1.trans s2).free hd2);generalize upd H2 d2 (.dK (dOf ls))=H3 at s3 x3 ⊢;have s03:=s1.trans (s2.trans s3);have W3:WAt H3 d2 ls (wt ow []):=⟨x3,by rw [els];exact nnd,na,fun x hx=>by rw [show wt ow [] x.1=(ow x.1).toList by unfold wt;simp];exact s3 _ _ (s2 _ _ (hls x hx).1)⟩
    have hr3:∀ {H4:Hp},(∀ b o',H b=some o'→b≠od→H4 b=some o')→Paired (LRu H4) rv rs:=fun {H4} g=>zAb hrs fun _ _ r=>r.mono fun b o' e hs=>g b o' e (fun z=>by
     rcases rd with e' | ⟨_,e'⟩ <;> rw [← z,e] at e' <;> cases e' <;> exact hs)
    have hlr3:∀ {H4:Hp},(∀ b o',H b=some o'→b≠od→H4 b=some o')→H4 lr=some (.lst rv):=fun {H4} g=>g _ _ hlr (fun z=>by
     rcases rd with e' | ⟨_,e'⟩ <;> rw [← z,hlr] at e' <;> cases e')
    have g3:∀ b o',H b=some o'→b≠od→H3 b=some o':=fun b o' e nb=>s03 _ _ (g0 b o' e nb);have rl:=Paired.length hrs;dsimp only [gName,List.set]
    refine ⟨_,rfl,lr,rfl,⟨_,SqL.of (hlr3 g3)⟩,zBh (K:=K) (a:=lr) (xs:=rv) (fun i σ H'=>∃ (x3 x4:Option V) (ls:List (Str×Addr)),σ = [some (.ref od),some (.ref lr),some (.ref d2),x3,x4]∧WAt H' d2 ls (wt ow (rs.take i))∧ls.map (·.1)=ns∧(∀ x∈ls,H x.2=none)∧(∀ b o',H b=some o'→b≠od→H' b=some o')∧H' od=some (.frz o (.dK (oOf ns ow))))
     ⟨_,_,ls,rfl,W3,els,fun x hx=>(hls x hx).2,g3,s03 _ _ f0⟩ (fun i σ H' _ hz=>by obtain ⟨_,_,_,_,_,_,_,q,_⟩:=hz;exact SqL.of (hlr3 q)) ?_ ?_⟩
    ·rintro i v σ H4 hi ⟨x3,x4,ls,rfl,W4,els,fr,g4,g4o⟩;obtain ⟨x,ex,t,lb,rfl,ht,hlb⟩:=zAi (hr3 g4) hi;obtain ⟨xn,x50⟩:=rok x (Z4 ex);obtain ⟨aa,ma,dg,haa⟩:=W4.get (by rw [els];exact xn);have wl:=wt_len ow x.1 (rs.take i) fun y hy=>(rok y (Y1 hy)).2;rw [Zc] at wl;refine ⟨t,_,rfl,SqT.of ht,rfl,_,_,rfl,_,_,rfl,rfl,?_⟩;dsimp only [gName,List.set];refine ⟨_,rfl,_,rfl,d2,_,rfl,dg,_,rfl,aa,lb,_,_,rfl,rfl,haa,hlb,by rw [Z0,Z0];omega,fun l hl=>?_⟩;have e1:wt ow (rs.take (i + 1)) x.1=wt ow (rs.take i) x.1++x.2:=by
      rw [Za,ex];show wt ow (_++[x]) x.1=_;rw [zDx,if_pos rfl]
     rw [← Z6,← e1];have s5:Same H4 (upd H4 l (.lst ((wt ow (rs.take (i + 1)) x.1).map V.str))):=Same.new hl;have x5:(upd H4 l (.lst ((wt ow (rs.take (i + 1)) x.1).map V.str))) l=some (.lst ((wt ow (rs.take (i + 1)) x.1).map V.str)):=zA1;have hlH:H l=none:=by
      cases z:H l with
      | none=>rfl
      | some o' =>
       by_cases c:l=od
       ·rw [c,g4o] at hl;cases hl
       ·rw [g4 l o' z c] at hl;cases hl
     have nll:l∉ls.map (·.2):=fun hm=>by
      obtain ⟨y,hy,e⟩:=List.mem_map.mp hm;have:=W4.hl y hy;rw [e,hl] at this;cases this
     generalize upd H4 l (.lst ((wt ow (rs.take (i + 1)) x.1).map V.str))=H5 at s5 x5 ⊢;have W5:=W4.same s5;have ll:ls.length=ns.length:=by rw [← els,Z0]
     refine ⟨_,rfl,_,rfl,d2,_,rfl,.inl ⟨_,Sum.inr x.1,W5.hd,rfl,by unfold dOf;rw [Z0];omega,rfl⟩,?_⟩;rw [dOf_set (by rw [els];exact xn)];have W6:=W5.put (W':=wt ow (rs.take (i + 1))) (k:=x.1) x5 nll fun y ny=>by
      rw [Za,ex];show wt ow (_++[x]) y=_;rw [zDx,if_neg ny]
     refine ⟨_,_,_,rfl,W6,?_,fun y hy=>?_,fun b o' e nb=>?_,by rw [zA5 (fun z=>by have:=W5.hd;rw [← z,s5 _ _ g4o] at this;cases this)];exact s5 _ _ g4o⟩
     ·rw [← els,Zv];refine List.map_congr_left fun y _=>?_;show (if y.1=x.1 then (x.1,l) else y).1=y.1;by_cases c:y.1=x.1
      ·rw [if_pos c,c]
      ·rw [if_neg c]
     ·obtain ⟨z,hz,rfl⟩:=List.mem_map.mp hy;by_cases c:z.1=x.1
      ·rw [if_pos c];exact hlH
      ·rw [if_neg c];exact fr z hz
     ·rw [zA5 (fun z=>by rw [z,hd2H] at e;cases e)];exact s5 _ _ (g4 b o' e nb)
    ·rintro σ H4 ⟨x3,x4,ls,rfl,W4,els,fr,g4,g4o⟩;rw [rl,Zd] at W4;exact ⟨_,rfl,k d2 ls H4 hd2H W4 els fr g4⟩
end
end L2.W
namespace L2.W
open PySem My
inductive Rch (W:Str→List Str):Str→Str→Prop where
 | one {k o:Str} (h:o∈W k):Rch W k o
 | more {k m o:Str} (h:Rch W k m) (h2:o∈W m):Rch W k o
noncomputable def Pth (W:Str→List Str):Nat→Str→Str→Prop
 | 0,k,o=>o∈W k
 | n + 1,k,o=>∃ m,Pth W n k m∧o∈W m
noncomputable def dist (ns l:List Str):Nat:=(ns.filter fun y=>decide (y∈l)).length
theorem dist_mono {ns l l':List Str} (h:∀ x∈l,x∈l'):dist ns l≤dist ns l':=by
 unfold dist
 induction ns with
 | nil=>exact Z5 _
 | cons a t ih =>
  rw [List.filter_cons,List.filter_cons];by_cases c:a∈l
  ·rw [if_pos (decide_eq_true c),if_pos (decide_eq_true (h a c)),Zh,Zh];omega
  ·rw [if_neg (by rw [decide_eq_false c];exact Z3)];split
   ·rw [Zh];omega
   ·exact ih
theorem dist_le (ns l:List Str):dist ns l≤ns.length:=Zl _ _
theorem dist_new {ns l l':List Str}{o:Str} (h:∀ x∈l,x∈l') (ho:o∈ns) (h1:o∉l) (h2:o∈l'):dist ns l + 1≤dist ns l':=by
 unfold dist
 induction ns with
 | nil=>cases ho
 | cons a t ih =>
  rw [List.filter_cons,List.filter_cons];rcases List.mem_cons.mp ho with e | ho
  ·rw [if_neg (by rw [← e,decide_eq_false h1];exact Z3),if_pos (by rw [← e];exact decide_eq_true h2),Zh];have:=dist_mono (ns:=t) h;unfold dist at this;omega
  ·have:=ih ho;by_cases c:a∈l
   ·rw [if_pos (decide_eq_true c),if_pos (decide_eq_true (h a c)),Zh,Zh];omega
   ·rw [if_neg (by rw [decide_eq_false c];exact Z3)];split
    ·rw [Zh];omega
    ·exact this
structure Far1 (W:Str→List Str) (ns:List Str) (k:Str) (l:List Str):Prop where
 up:∀ o∈W k,o∈l
 so:∀ o∈l,Rch W k o
 cl:∀ o∈l,o∈ns
 le:l.length≤10000 * (1 + dist ns l)
theorem Far1.ext {W:Str→List Str}{ns:List Str}{k:Str}{l:List Str} (h:Far1 W ns k l) {one:Str} (h1:one∈l) (wc:∀ o∈W one,o∈ns) (wl:(W one).length≤10000):Far1 W ns k (l++(W one).filter fun o=>!decide (o∈l)):=by
 refine ⟨fun o ho=>Zu _ (h.up o ho),fun o ho=>?_,fun o ho=>?_,?_⟩
 ·rcases List.mem_append.mp ho with ho | ho
  ·exact h.so o ho
  ·exact .more (h.so one h1) (List.mem_filter.mp ho).1
 ·rcases List.mem_append.mp ho with ho | ho
  ·exact h.cl o ho
  ·exact wc o (List.mem_filter.mp ho).1
 ·have hl:=h.le;rw [Zk];cases e:(W one).filter fun o=>!decide (o∈l) with
  | nil=>rw [List.append_nil];simpa using hl
  | cons a t =>
   have ma:a∈(W one).filter fun o=>!decide (o∈l):=by rw [e];exact Zj
   obtain ⟨m1,m2⟩:=List.mem_filter.mp ma;have na:a∉l:=by simpa using m2
   have d1:=dist_new (ns:=ns) (l:=l) (l':=l++a :: t) (fun x hx=>Zu _ hx) (wc a m1) na (Zr _ Zj);have d2:=Zl (fun o=>!decide (o∈l)) (W one);rw [e] at d2;have:10000 * (1 + dist ns l) + 10000≤10000 * (1 + dist ns (l++a :: t)):=by omega
   omega
theorem Far1.le5 {W:Str→List Str}{ns:List Str}{k:Str}{l:List Str} (h:Far1 W ns k l) (hn:ns.length≤5):l.length≤60000:=by
 have h1:=h.le;have h2:=dist_le ns l;have:10000 * (1 + dist ns l)≤10000 * 6:=Nat.mul_le_mul_left _ (by omega);omega
noncomputable def spFar:Sp:=fun vs H Q _=>∃ (d:Addr) (ls:List (Str×Addr)) (ns:List Str) (W:Str→List Str),vs=[.ref d]∧WAt H d ls W∧ls.map (·.1)=ns∧ns.length≤5∧(∀ k∈ns,(∀ o∈W k,o∈ns)∧(W k).length≤10000) ∧
 ∀ (d3:Addr) (ls3:List (Str×Addr)) (F:Str→List Str) (H':Hp),H d3=none→WAt H' d3 ls3 F→ls3.map (·.1)=ns→(∀ k∈ns,Far1 W ns k (F k)∧∀ n,n≤ns.length→∀ o,Pth W n k o→o∈F k)→Rd H' d (.dK (dOf ls))→(∀ b o,H b=some o→b≠d→H' b=some o)→Q (.ref d3) H'
section
variable {P:Program}{w:World}{K:PySem.W.Frag}{mg:Str→Option Value}{base:Heap}{CX:CXT}
theorem scFa:FnScope ["_law_waits_here", "_law_found", "_law_turn", "_law_kind", "_law_one"] ["_law_waits_here"] (defScope sFar):=⟨rfl,rfl,rfl,by decide +kernel,rfl,by decide +kernel,by decide +kernel⟩
noncomputable abbrev nFa:List Str:=["_law_waits_here", "_law_found", "_law_turn", "?", "_law_one"]
theorem sameFa:sameN ["_law_waits_here", "_law_found", "_law_turn", "_law_kind", "_law_one"] nFa [3]:=by unfold sameN;decide +kernel
theorem ndFa:(nFa:List Str).Nodup:=by decide +kernel
theorem ndFa2:(nFa++(["_law_kind", "_law_some"]:List Str)).Nodup:=by decide +kernel
set_option maxHeartbeats 1000000 in
theorem ok_far {f:Addr}{fd:FuncData} (T:Tops K mg) (F:Fun K "_law_far" "_law_far" sFar f fd):FnOk P w K mg base CX 1 f fd ["_law_waits_here"] spFar:=by
 refine Fun.okC F scFa (fun vs H Q E h=>?_) (fun cdv A outer s H vs Q E hr h=>?_)
 ·obtain ⟨d,ls,ns,W,rfl,_⟩:=h;rfl
 ·obtain ⟨d,ls,ns,W,rfl,WH,els,n5,wok,k⟩:=h;have nd:=scFa.nd;have hu:=hu_of hr
  refine ⟨_,zA2 (ps_re nFa [3] sameFa (zAh (i:=1) ndFa rfl (Or.inr rfl) (zAo (zBe (K:=K) rfl) rfl T.dict PyProof.Rows.boot_dict (zA0 (zAn (T:=["_law_kind", "_law_some"]) rfl ScOk.auto (zCe (zCf (pv 0))) (fun _ _ _ _=>zCq (K:=K) (n:=2) rfl rfl (zAu (zA8 (i:=5) ndFa2 rfl (Or.inl rfl)) (zAu (zA8 (i:=6) ndFa2 rfl (Or.inl rfl)) zBy))) (fun _ _ _ _=>zAy) (fun _ _ _ _=>zDd (zA0 (pv 5) (zA0 (zAo (r:=fun xs H Q=>∃ p ys,xs=[.ref p]∧(SqL K H p ys∨SqT K H p ys)∧∀ l,H l=none→Q (.ref l) (upd H l (.lst ys))) zB0 rfl T.list PyProof.Rows.boot_list (zA0 (pv 6) zA4)) zA4)))) zA4))))
     (zA2 (zBg PassesOwn.never rfl (pi_keys (pv 0)) (zA8 (i:=2) nd rfl (Or.inl rfl))
     (zA6 (zBg PassesOwn.never rfl (zE5 (pv 0)) (zA8 (i:=3) nd rfl (Or.inr rfl))
     (zA6 (zBg PassesOwn.never rfl (zAg (zAo zB0 rfl T.list PyProof.Rows.boot_list (zA0 (zB5 hu (pv 1) (pv 3) (fun _ _=>rfl)) zA4))) (zA8 (i:=4) nd rfl (Or.inl rfl))
     (zA6 (zBx (pe_bm PySem.F.plainAttrs_list PySem.F.slot_list_extend PySem.F.type_list_extend mt_extend (zB5 hu (pv 1) (pv 3) (fun _ _=>rfl)) (zA0 (zAn (T:=["_law_other"]) rfl ScOk.auto (zAg (zB5 hu (pv 0) (pv 4) (fun _ _=>rfl))) (fun _ _ _ _=>zA8 (i:=5) (by decide +kernel:(["_law_waits_here", "_law_found", "_law_turn", "_law_kind", "_law_one", "_law_other"]:List Str).Nodup) rfl (Or.inl rfl)) (fun _ _ _ _=>zC7 (zAp (r:=rIn K true) zB8 (pv 5) (zB5 hu (pv 1) (pv 3) (fun _ _=>rfl)) rfl)) (fun _ _ _ _=>(pv 5))) zA4)))))))))
     (zA6 (zAj (pv 1)))),?_⟩
  have small:∀ n:Nat,n≤1000→n≤sizeLine:=fun n h=>Zt (small1000 h);have big:(200000:Nat)≤sizeLine:=by rw [sizeLine_eq];decide
  refine ⟨_,rfl,d,_,rfl,.inl WH.hd,fun vw hvw=>⟨vw,d,_,rfl,zA1,.inl ((Same.new hvw) _ _ WH.hd),fun o=>?_⟩⟩;have g0:∀ b o',H b=some o'→b≠d→(upd (upd H vw (ViewI vw d)) d (.frz o (.dK (dOf ls)))) b=some o':=fun b o' e nb=>by rw [zA5 nb];exact (Same.new hvw) _ _ e
  have f0:(upd (upd H vw (ViewI vw d)) d (.frz o (.dK (dOf ls)))) d=some (.frz o (.dK (dOf ls))):=zA1;have fresh:∀ {Hx:Hp},(∀ b o',H b=some o'→b≠d→Hx b=some o')→(∃ u,Hx d=some u)→∀ {b:Addr},Hx b=none→H b=none:=fun {Hx} g hd' {b} hb=>by
   cases z:H b with
   | none=>rfl
   | some o' =>
    by_cases c:b=d
    ·obtain ⟨u,hu'⟩:=hd';rw [c,hu'] at hb;cases hb
    ·rw [g b o' z c] at hb;cases hb
  generalize upd (upd H vw (ViewI vw d)) d (.frz o (.dK (dOf ls)))=F0 at g0 f0 ⊢;have ol:(dOf ls).length=ns.length:=by unfold dOf;rw [← els,Z0,Z0]
  have nld:∀ x∈ls,x.2≠d:=fun x hx z=>by have:=WH.hl x hx;rw [z,WH.hd] at this;cases this
  have key:∀ {i:Nat}{q:Key}{x:V},(dOf ls)[i]? = some (q,x)→∃ y,ls[i]? = some y∧q=Sum.inr y.1∧x=.ref y.2∧ns[i]? = some y.1:=fun {i q x} e=>by
   unfold dOf at e;rw [Z8] at e;obtain ⟨y,ey,eq⟩:=Option.map_eq_some_iff.mp e;cases eq;exact ⟨y,ey,rfl,rfl,by rw [← els,Z8,ey];rfl⟩
  refine zCv (fun i ys H'=>Same F0 H'∧∃ (ts:List Addr) (l3:List (Str×Addr)),ys=ts.map V.ref∧Paired (fun t x=>H' t=some (.tup [.str x.1,.ref x.2])) ts l3∧l3.map (·.1)=ns.take i∧(l3.map (·.2)).Nodup∧∀ x∈l3,H' x.2=some (.lst ((W x.1).map V.str))∧H x.2=none)
   ⟨Same.refl _,[],[],rfl,.nil,rfl,Y5,fun x hx=>nomatch hx⟩ (fun i ys H' p=>p.1 _ _ f0) (fun i ys H' hi p=>?_) ?_ ?_
  ·obtain ⟨_,ts,l3,rfl,hp,e,_⟩:=p;have:=congrArg List.length e;rw [Z0,Zc] at this;rw [Z0,Paired.length hp];exact small _ (by omega)
  ·rintro i q x ys H1 p hq ⟨s1,ts,l3,rfl,hp,e3,na,h3⟩ hpn N hN;obtain ⟨y,ey,rfl,rfl,en⟩:=key hq;refine pickT (SqT.of zA1) ?_;have s2:Same H1 (upd H1 p (.tup [kV (Sum.inr y.1),.ref y.2])):=Same.new hpn;generalize upd H1 p (.tup [kV (Sum.inr y.1),.ref y.2])=H2 at s2 ⊢;have my:=Z4 ey;have hy2:=s2 _ _ (s1 _ _ (g0 _ _ (WH.hl y my) (nld y my)));refine ⟨_,rfl,_,rfl,y.2,_,rfl,.inl (SqL.of hy2),fun c hc=>?_⟩;have s4:Same H2 (upd H2 c (.lst ((W y.1).map V.str))):=Same.new hc;have x4:(upd H2 c (.lst ((W y.1).map V.str))) c=some (.lst ((W y.1).map V.str)):=zA1;generalize upd H2 c (.lst ((W y.1).map V.str))=H4 at s4 x4 ⊢;refine ⟨small 2 (by decide),fun t ht=>?_⟩;have s5:Same H1 (upd H4 t (.tup [.str y.1,.ref c])):=s2.trans (s4.trans (Same.new ht));refine hN _ _ ⟨s1.trans s5,ts++[t],l3++[(y.1,c)],by rw [Z6];rfl,zBb (zAb hp fun _ _ e=>s5 _ _ e) (.cons zA1 .nil),?_,?_,fun x hx=>?_⟩
   ·rw [Z6,e3,Za,en];rfl
   ·rw [Z6,List.nodup_append];refine ⟨na,List.pairwise_singleton _ _,fun x hx z hz e=>?_⟩;rw [List.mem_singleton.mp hz] at e;have e':x=c:=e;obtain ⟨z',hz',ez⟩:=List.mem_map.mp hx;have:=s2 _ _ (h3 z' hz').1;rw [ez,e',hc] at this;cases this
   ·rcases List.mem_append.mp hx with hx | hx
    ·exact ⟨s5 _ _ (h3 x hx).1,(h3 x hx).2⟩
    ·rw [List.mem_singleton.mp hx];exact ⟨(Same.new ht) _ _ x4,fresh g0 ⟨_,f0⟩ ((s1.trans s2).free hc)⟩
  ·rintro ys H1 ⟨s1,ts,l3,rfl,hp,e3,na,h3⟩ c hc;rw [ol,Zd] at e3;have s2:Same H1 (upd H1 c (.lst (ts.map V.ref))):=Same.new hc;have x2:(upd H1 c (.lst (ts.map V.ref))) c=some (.lst (ts.map V.ref)):=zA1;generalize upd H1 c (.lst (ts.map V.ref))=H2 at s2 x2 ⊢;refine ⟨c,ts,dOf l3,rfl,SqL.of x2,rfl,?_,?_,fun i t q v e1 e2=>?_,fun d3 hd3=>?_⟩
   ·rw [dOf_keys,e3,← els];exact List.Pairwise.map _ (fun a b n z=>n (Sum.inr.inj z)) WH.nk
   ·unfold dOf;rw [Z0,Paired.length hp]
   ·unfold dOf at e2;rw [Z8] at e2;obtain ⟨x,ex,eq⟩:=Option.map_eq_some_iff.mp e2;cases eq;obtain ⟨y,ey,hy⟩:=zAi hp e1;rw [ex] at ey;cases ey;exact s2 _ _ hy
   ·have s3:Same H2 (upd H2 d3 (.dK (dOf l3))):=Same.new hd3;have x3:(upd H2 d3 (.dK (dOf l3))) d3=some (.dK (dOf l3)):=zA1;have hd3H:H d3=none:=fresh g0 ⟨_,f0⟩ ((s1.trans s2).free hd3);generalize upd H2 d3 (.dK (dOf l3))=H3 at s3 x3 ⊢;have s03:=s1.trans (s2.trans s3);have W3:WAt H3 d3 l3 W:=⟨x3,by rw [e3,← els];exact WH.nk,na,fun x hx=>s3 _ _ (s2 _ _ (h3 x hx).1)⟩;have g3:∀ b o',H b=some o'→b≠d→H3 b=some o':=fun b o' e nb=>s03 _ _ (g0 b o' e nb);have fr3:∀ x∈l3,H x.2=none:=fun x hx=>(h3 x hx).2;dsimp only [gName,List.set,Ends.hid,hide,start];have nkn:ns.Nodup:=by rw [← els];exact WH.nk
    have ndd:d3≠d:=fun z=>by rw [z,WH.hd] at hd3H;cases hd3H
    have nl3:∀ x∈l3,x.2≠d:=fun x hx z=>by have:=fr3 x hx;rw [z,WH.hd] at this;cases this
    refine ⟨_,rfl,d,_,rfl,.inr ⟨_,s03 _ _ f0⟩,fun o2=>?_⟩;have f4:(upd H3 d (.frz o2 (.dK (dOf ls)))) d=some (.frz o2 (.dK (dOf ls))):=zA1;have W4:WAt (upd H3 d (.frz o2 (.dK (dOf ls)))) d3 l3 W:=⟨by rw [zA5 ndd];exact W3.hd,W3.nk,W3.na,fun x hx=>by rw [zA5 (nl3 x hx)];exact W3.hl x hx⟩;have g4:∀ b o',H b=some o'→b≠d→(upd H3 d (.frz o2 (.dK (dOf ls)))) b=some o':=fun b o' e nb=>by rw [zA5 nb];exact g3 b o' e nb
    generalize upd H3 d (.frz o2 (.dK (dOf ls)))=H4 at f4 W4 g4 ⊢;refine for_keys (fun i σ H'=>∃ (x2 x3 x4:Option V) (F:Str→List Str),σ = [some (.ref d),some (.ref d3),x2,x3,x4]∧WAt H' d3 l3 F∧H' d=some (.frz o2 (.dK (dOf ls)))∧(∀ b o',H b=some o'→b≠d→H' b=some o')∧∀ k∈ns,Far1 W ns k (F k)∧∀ n,n≤i→∀ o,Pth W n k o→o∈F k)
     ⟨_,_,_,W,rfl,W4,f4,g4,fun k hk=>⟨⟨fun o h=>h,fun o h=>.one h,(wok k hk).1,by have:=(wok k hk).2;omega⟩,fun n hn o h=>by have e:n=0:=Nat.le_zero.mp hn;rw [e] at h;exact h⟩⟩ (fun i σ H' hz=>by obtain ⟨_,_,_,_,_,_,q,_⟩:=hz;exact q) ?_ ?_
    ·rintro i q x σ H5 hq ⟨x2,x3,x4,F,rfl,W5,f5,g5,far⟩;obtain ⟨y,ey,rfl,rfl,en⟩:=key hq;dsimp only [gName,List.set];refine ⟨_,rfl,d,_,o2,rfl,f5,?_⟩;refine for_keys (fun j σ H'=>∃ (x3 x4:Option V) (F:Str→List Str),σ = [some (.ref d),some (.ref d3),some (kV (Sum.inr y.1)),x3,x4]∧WAt H' d3 l3 F∧H' d=some (.frz o2 (.dK (dOf ls)))∧(∀ b o',H b=some o'→b≠d→H' b=some o')∧∀ t k,ns[t]? = some k→Far1 W ns k (F k)∧∀ n,n≤(if t < j then i + 1 else i)→∀ o,Pth W n k o→o∈F k)
      ⟨_,_,F,rfl,W5,f5,g5,fun t k e=>far k (Z4 e)⟩ (fun j σ H' hz=>by obtain ⟨_,_,_,_,_,q,_⟩:=hz;exact q) ?_ ?_
     ·rintro j q x σ H6 hq6 ⟨x3,x4,F,rfl,W6,f6,g6,far6⟩;obtain ⟨kk,ekk,rfl,rfl,en6⟩:=key hq6;have mk:kk.1∈ns:=Z4 en6;obtain ⟨aa,ma,dg,haa⟩:=W6.get (k:=kk.1) (by rw [e3];exact mk);dsimp only [gName,List.set];refine ⟨_,rfl,_,rfl,d3,_,rfl,dg,aa,_,rfl,.inl (SqL.of haa),fun lc hlc=>?_⟩;obtain ⟨fk,ck⟩:=far6 j kk.1 en6;have c7:(upd H6 lc (.lst ((F kk.1).map V.str))) lc=some (.lst ((F kk.1).map V.str)):=zA1;have s7:Same H6 (upd H6 lc (.lst ((F kk.1).map V.str))):=Same.new hlc;have W7:=W6.same s7;have nlc:lc∉l3.map (·.2):=fun hm=>by
       obtain ⟨y',hy',e⟩:=List.mem_map.mp hm;have:=W6.hl y' hy';rw [e,hlc] at this;cases this
      have nld3:lc≠d3:=fun z=>by have:=W6.hd;rw [← z,hlc] at this;cases this
      generalize upd H6 lc (.lst ((F kk.1).map V.str))=H7 at c7 s7 W7 ⊢
      refine ⟨lc,rfl,⟨_,SqL.of c7⟩,zBh (K:=K) (a:=lc) (xs:=(F kk.1).map V.str) (fun m σ H'=>∃ (x4:Option V) (G:Str→List Str),σ = [some (.ref d),some (.ref d3),some (kV (Sum.inr y.1)),some (kV (Sum.inr kk.1)),x4]∧WAt H' d3 l3 G∧H' d=some (.frz o2 (.dK (dOf ls)))∧(∀ b o',H b=some o'→b≠d→H' b=some o')∧H' lc=some (.lst ((F kk.1).map V.str))∧(∀ z,z≠kk.1→G z=F z)∧Far1 W ns kk.1 (G kk.1)∧(∀ o∈F kk.1,o∈G kk.1)∧∀ t one,t < m→(F kk.1)[t]? = some one→∀ o∈W one,o∈G kk.1)
       ⟨_,F,rfl,W7,s7 _ _ f6,fun b o' e nb=>s7 _ _ (g6 b o' e nb),c7,fun z _=>rfl,fk,fun o h=>h,fun t one ht=>absurd ht (Nat.not_lt_zero _)⟩ (fun m σ H' _ hz=>by obtain ⟨_,_,_,_,_,_,q,_⟩:=hz;exact SqL.of q) ?_ ?_⟩
      ·rintro m v σ H8 hm ⟨x4,G,rfl,W8,f8,g8,c8,eG,fG,upG,dG⟩;rw [Z8] at hm;obtain ⟨one,eone,rfl⟩:=Option.map_eq_some_iff.mp hm;have m1:one∈F kk.1:=Z4 eone;have mn:one∈ns:=fk.cl one m1;obtain ⟨a8,ma8,dg8,ha8⟩:=W8.get (k:=kk.1) (by rw [e3];exact mk);obtain ⟨yo,hyo,eyo⟩:=List.mem_map.mp (show one∈ls.map (·.1) by rw [els];exact mn);have hW8:H8 yo.2=some (.lst ((W one).map V.str)):=by rw [← eyo];exact g8 _ _ (WH.hl yo hyo) (nld yo hyo)
       have dgW:DGet H8 d (.str one) (some (.ref yo.2)):=.inl ⟨_,Sum.inr one,.inr ⟨_,f8⟩,rfl,(zEg WH.nk (by rw [← eyo];exact hyo)).symm⟩;have wl:=(wok one mn).2;have gl:=fG.le5 n5;dsimp only [gName,List.set];refine ⟨_,rfl,_,rfl,d3,_,rfl,dg8,.inl ⟨rfl,_,SqL.of ha8⟩,_,rfl,_,rfl,d,_,rfl,dgW,yo.2,rfl,⟨_,SqL.of hW8⟩,zAd (xs:=(W one).map V.str) (fun i ys H'=>H8=H'∧ys=(((W one).take i).filter fun o=>!decide (o∈G kk.1)).map V.str) ⟨rfl,rfl⟩ (fun i ys H' p=>by rw [← p.1];exact SqL.of hW8) (fun i ys H' hi p=>?_) ?_ ?_⟩
       ·rw [p.2,Z0];have h1:=Zl (fun o=>!decide (o∈G kk.1)) ((W one).take i);rw [Zc] at h1;omega
       ·rintro i v ys H' hi ⟨rfl,rfl⟩ N hN;rw [Z8] at hi;obtain ⟨o,eo,rfl⟩:=Option.map_eq_some_iff.mp hi;refine ⟨_,rfl,_,rfl,_,rfl,d3,_,rfl,dg8,a8,_,rfl,.inl (SqL.of ha8),rfl,flats _,_,rfl,?_⟩;show if (!inV (.str o) ((G kk.1).map V.str))=true then _ else _
        rw [zBc];have sn:=zAz (fun o=>!decide (o∈G kk.1)) eo;cases eb : !decide (o∈G kk.1) with
        | true =>
         refine iteT ⟨_,rfl,hN _ _ ⟨rfl,?_⟩⟩;rw [sn,if_pos eb,Z6];rfl
        | false =>
         refine iteF (hN _ _ ⟨rfl,?_⟩);rw [sn,if_neg (by rw [eb];exact Z3)]
       ·rintro ys H' ⟨rfl,rfl⟩ c hc;rw [Z0,Zd];have fl:=Zl (fun o=>!decide (o∈G kk.1)) (W one);have s9:Same H8 (upd H8 c (.lst (((W one).filter fun o=>!decide (o∈G kk.1)).map V.str))):=Same.new hc;have x9:(upd H8 c (.lst (((W one).filter fun o=>!decide (o∈G kk.1)).map V.str))) c=some (.lst (((W one).filter fun o=>!decide (o∈G kk.1)).map V.str)):=zA1;generalize upd H8 c (.lst (((W one).filter fun o=>!decide (o∈G kk.1)).map V.str))=H9 at s9 x9 ⊢;refine ⟨a8,c,_,_,rfl,rfl,s9 _ _ ha8,x9,by rw [Z0,Z0];omega,?_⟩;rw [← Z6];obtain ⟨G',eg,eN⟩:∃ G':Str→List Str,G' kk.1=(G kk.1++(W one).filter fun o=>!decide (o∈G kk.1))∧∀ z,z≠kk.1→G' z=G z:=⟨fun z=>if z=kk.1 then G kk.1++(W one).filter fun o=>!decide (o∈G kk.1) else G z,if_pos rfl,fun z nz=>if_neg nz⟩;have W10:=(W8.same s9).grow (W':=G') ma8 eN;rw [eg] at W10;have f8e:=fG.ext (upG one m1) (wok one mn).1 wl;have na8:a8∈l3.map (·.2):=List.mem_map.mpr ⟨_,ma8,rfl⟩;refine ⟨_,_,rfl,W10,?_,fun b o' e nb=>?_,?_,fun z nz=>?_,by rw [eg];exact f8e,fun o ho=>by rw [eg];exact Zu _ (upG o ho),fun t one' ht et o ho=>?_⟩
        ·rw [zA5 (fun z=>nl3 _ ma8 z.symm)];exact s9 _ _ f8
        ·rw [zA5 (fun z=>by rw [z,fr3 _ ma8] at e;cases e)];exact s9 _ _ (g8 b o' e nb)
        ·rw [zA5 (fun z:lc=a8=>nlc (by rw [z];exact na8))];exact s9 _ _ c8
        ·rw [eN z nz];exact eG z nz
        ·rw [eg];by_cases ct:t < m
         ·exact Zu _ (dG t one' ct et o ho)
         ·have:t=m:=by omega
          rw [this,eone] at et;cases et;by_cases co:o∈G kk.1
          ·exact Zu _ co
          ·exact Zr _ (List.mem_filter.mpr ⟨ho,by simp [co]⟩)
      ·rintro σ H8 ⟨x4,G,rfl,W8,f8,g8,c8,eG,fG,upG,dG⟩;refine ⟨_,_,G,rfl,W8,f8,g8,fun t k' et=>?_⟩;by_cases ck':k'=kk.1
       ·subst ck';have tj:t=j:=by
         have il:=(List.getElem?_eq_some_iff.mp et);have jl:=(List.getElem?_eq_some_iff.mp en6);refine Classical.byContradiction fun ne=>?_;rcases Nat.lt_or_gt_of_ne ne with lt | gt
         ·exact List.pairwise_iff_getElem.mp nkn t j il.1 jl.1 lt (by rw [il.2,jl.2])
         ·exact List.pairwise_iff_getElem.mp nkn j t jl.1 il.1 gt (by rw [il.2,jl.2])
        subst tj;refine ⟨fG,fun n hn o ho=>?_⟩;rw [if_pos (Yb _)] at hn;rw [if_neg (Y2 _)] at ck;by_cases cn:n≤i
        ·exact upG o (ck n cn o ho)
        ·have:n=i + 1:=by omega
         subst this;obtain ⟨mid,hmid,hom⟩:=ho;obtain ⟨t',ht',et'⟩:=Zo (ck i (Z5 _) mid hmid);exact dG t' mid (by rw [Z0];exact ht') (by rw [Z1 ht',et']) o hom
       ·rw [eG k' ck'];obtain ⟨h1,h2⟩:=far6 t k' et;refine ⟨h1,fun n hn=>h2 n ?_⟩;have tj:t≠j:=fun z=>ck' (by rw [z,en6] at et;exact (Zg et).symm);by_cases lt:t < j
        ·rw [if_pos (by omega)] at hn;rw [if_pos lt];exact hn
        ·rw [if_neg (by omega)] at hn;rw [if_neg lt];exact hn
     ·rintro σ H6 ⟨x3,x4,F,rfl,W6,f6,g6,far6⟩;refine ⟨_,_,_,F,rfl,W6,f6,g6,fun k hk=>?_⟩;obtain ⟨t,ht,et⟩:=Zo hk;have:=far6 t k (by rw [Z1 ht,et]);rw [ol,if_pos ht] at this;exact this
    ·rintro σ H5 ⟨x2,x3,x4,F,rfl,W5,f5,g5,far⟩;rw [ol] at far;exact ⟨_,rfl,k d3 l3 F H5 hd3H W5 e3 far (.inr ⟨_,f5⟩) g5⟩
end
end L2.W
namespace L2.W
open PySem My
theorem ring_path {W:Str→List Str}{R:List Str} (h:IsRing W R) {x:Str} (hx:R.head? = some x):Pth W (R.length - 1) x x:=by
 have ne:=List.length_pos_iff.mpr h.ne;have x0:R[0]? = some x:=by rw [← List.head?_eq_getElem?];exact hx
 have step:∀ i y,R[i + 1]? = some y→Pth W i x y:=by
  intro i
  induction i with
  | zero=>exact fun y e=>h.ch 0 x y x0 e
  | succ i ih =>
   intro y e;have il:=(List.getElem?_eq_some_iff.mp e).1;obtain ⟨m,em⟩:∃ m,R[i + 1]? = some m:=⟨_,Z1 (by omega)⟩;exact ⟨m,ih m em,h.ch (i + 1) m y em e⟩
 by_cases c:R.length=1
 ·rw [c];refine h.lo x x ?_ hx;rw [List.getLast?_eq_getElem?,c];exact x0
 ·obtain ⟨z,ez⟩:∃ z,R[R.length - 1]? = some z:=⟨_,Z1 (by omega)⟩;have e1:R.length - 1=R.length - 2 + 1:=by omega
  rw [e1];refine ⟨z,step _ z (by rw [← e1];exact ez),h.lo z x ?_ hx⟩;rw [List.getLast?_eq_getElem?];exact ez
theorem Rch.first {W:Str→List Str}{y x:Str} (h:Rch W y x):∃ o∈W y,o=x∨Rch W o x:=by
 induction h with
 | one h=>exact ⟨_,h,.inl rfl⟩
 | more _ h2 ih =>
  obtain ⟨o,ho,e | r⟩:=ih
  ·rw [← e] at h2;exact ⟨o,ho,.inr (.one h2)⟩
  ·exact ⟨o,ho,.inr (.more r h2)⟩
open Classical in
theorem rch_clo {W:Str→List Str}{ns:List Str}{x:Str} (wc:∀ k∈ns,∀ o∈W k,o∈ns) (hx:x∈ns) (h:Rch W x x):∃ T,Clo ns W T∧T≠[]:=by
 refine ⟨ns.filter fun y=>decide (Rch W x y∧Rch W y x),fun y hy=>?_,fun z=>?_⟩
 ·obtain ⟨m1,m2⟩:=List.mem_filter.mp hy;obtain ⟨r1,r2⟩:=of_decide_eq_true m2;obtain ⟨o,ho,e⟩:=r2.first
  refine ⟨m1,o,ho,List.mem_filter.mpr ⟨wc y m1 o ho,decide_eq_true ⟨.more r1 ho,?_⟩⟩⟩;rcases e with e | e
  ·rw [e];exact h
  ·exact e
 ·have:x∈ns.filter fun y=>decide (Rch W x y∧Rch W y x):=List.mem_filter.mpr ⟨hx,decide_eq_true ⟨h,h⟩⟩;rw [z] at this;cases this
structure RefN (K:PySem.W.Frag) (mg:Str→Option Value) (CN:Addr):Prop where
 no:XTop K mg "NoRule" CN
 exm:PySem.W.exmOne K (.ref CN) (.ref CN)=some true
noncomputable def spRefu (CK C:Addr):Sp:=fun vs H Q _=>∃ (kq d:Addr) (kvs:List (Key×V)) (ord:List Str) (ow:Str→Option Str),vs=[.ref kq]∧KOwn CK C H kq d kvs ord ow∧("zed" : Str)∉ord∧∀ H',Same H H'→Q (.bl true) H'
theorem zed_ok:nameOk "zed":=by refine ⟨?_,?_,?_⟩ <;> decide +kernel
theorem one_ok:nameOk "one":=by refine ⟨?_,?_,?_⟩ <;> decide +kernel
theorem two_ok:nameOk "two":=by refine ⟨?_,?_,?_⟩ <;> decide +kernel
theorem zAv {H:Hp}{x dx C:Addr}{fs:List (Str×V)} (h1:H x=none) (h2:H dx=none) (ne:dx≠x):Same H (upd (upd H dx (.own x)) x (.ins C dx fs)):=fun b o e=>by rw [zA5 (zA3 e h1),zA5 (zA3 e h2)];exact e
section
variable {P:Program}{w:World}{K:PySem.W.Frag}{mg:Str→Option Value}{base:Heap}
theorem scRf:FnScope ["_law_kinds", "_law_word"] ["_law_kinds"] (defScope sRefused):=⟨rfl,rfl,rfl,by decide +kernel,rfl,by decide +kernel,by decide +kernel⟩
theorem ok_refu {f fg CK C CN CR fR CH fH CT fT CA fA CC CD:Addr}{fd fdg fdr fdh:FuncData} (R:RCls K mg CR fR CH fH CT fT CA fA CC CD) (N:RefN K mg CN) (F:Fun K "_law_refused" "_law_refused" sRefused f fd) (DG:Def K mg "ring" sRing ["kinds", "hands"] fg fdg) (GG:FnOk P w K mg base (CXM P w) 5 fg fdg ["kinds", "hands"] (spRing CK C CR CH CT CA CN))
  (GR:FnOk P w K mg base (CXM P w) 4 fR fdr ["self", "kind", "change", "condition", "behind"] (spRule CR CT CA)) (bR:Binds K fdr ["self", "kind", "change", "condition", "behind"] []) (GH:FnOk P w K mg base (CXM P w) 2 fH fdh ["self", "name", "rules"] (spHand CR CH CT CA)) (bH:Binds K fdh ["self", "name", "rules"] []):FnOk P w K mg base (CXM P w) 6 f fd ["_law_kinds"] (spRefu CK C):=by
 have hC:Calm (CXM P w):=calmM;refine Fun.okX F scRf (fun vs H Q E h=>?_) (fun cdv A outer s H vs Q E hr h=>?_)
 ·obtain ⟨kq,d,kvs,ord,ow,rfl,_⟩:=h;rfl
 ·obtain ⟨kq,d,kvs,ord,ow,rfl,kw,nz,k⟩:=h;have nd:=scRf.nd;have hr3:=hr.mono (show 3≤5 by decide)
  refine ⟨_,zA2 (zAh (i:=1) nd rfl (Or.inl rfl) zCh)
     (zA2 (ps_tryN (B:=CN) rfl rfl rfl rfl N.no.at_ (fun pins W=>zA6 (zBx (zAc GG hr rfl DG.at_ DG.fn.kp DG.bind .nil (pass_try rfl) (zA0 (pv 0) (zA0 (zB2 (zA0 (zBo R.hM GH hr3 rfl R.hm bH .nil (passC hC) (zA0 zBv (zA0 (zB2 (zA0 (zBo R.rM GR hr rfl R.rm bR .nil (passC hC) (zA0 zBv (zA0 (zC4 R.tM rfl R.tm) (zA0 (zC4 R.aM rfl R.am) (zA0 (zB2 zA4) zA4))))) zA4)) zA4))) zA4)) zA4))))) (fun e=>zA6 (zAh (i:=1) nd rfl (Or.inl rfl) zCh)))
     (zA6 (zAj (pv 1)))),?_⟩
  have small:∀ n:Nat,n≤1000→n≤sizeLine:=fun n h=>Zt (small1000 h);refine ⟨fun σ' e C' H'=>C'=CN∧σ'=[some (.ref kq),some (.bl false)]∧Same H H',?_,?_⟩
  ·refine ⟨_,rfl,fun t dt ht hdt net a da ha hda nea=>?_⟩;have s1:Same H (upd (upd H dt (.own t)) t (.ins CT dt [])):=zAv ht hdt net;have x1:(upd (upd H dt (.own t)) t (.ins CT dt [])) t=some (.ins CT dt []):=zA1;generalize upd (upd H dt (.own t)) t (.ins CT dt [])=H1 at s1 x1 ha hda ⊢;have s2:Same H1 (upd (upd H1 da (.own a)) a (.ins CA da [])):=zAv ha hda nea;have x2:(upd (upd H1 da (.own a)) a (.ins CA da [])) a=some (.ins CA da []):=zA1;generalize upd (upd H1 da (.own a)) a (.ins CA da [])=H2 at s2 x2 ⊢;refine ⟨Zn _,fun l hl=>?_⟩;have s3:Same H2 (upd H2 l (.lst [])):=Same.new hl;have x3:(upd H2 l (.lst [])) l=some (.lst []):=zA1;generalize upd H2 l (.lst [])=H3 at s3 x3 ⊢;refine fun p dp hp hdp nep=>?_;have s4:Same H3 (upd (upd H3 dp (.own p)) p (.ins CR dp [])):=zAv hp hdp nep;have x4:(upd (upd H3 dp (.own p)) p (.ins CR dp [])) p=some (.ins CR dp []):=zA1;have t3:=s3 _ _ (s2 _ _ x1);have a3:=s3 _ _ x2;generalize upd (upd H3 dp (.own p)) p (.ins CR dp [])=H4 at s4 x4 ⊢;have zok:RuOk ("zed",[]):=⟨zed_ok,(fun y hy=>nomatch hy),Y5,(fun h=>nomatch h),Zn _⟩;refine ⟨p,dp,t,dt,a,da,l,("zed",[]),rfl,x4,s4 _ _ t3,s4 _ _ a3,s4 _ _ x3,zok,Ne.symm (zA3 t3 hp),Ne.symm (zA3 a3 hp),Ne.symm (zA3 x3 hp),fun H5 ru5 k5=>⟨rfl,?_⟩⟩;have s35:Same H3 H5:=fun b o e=>k5 b o (s4 _ _ e) (zA3 e hp);have s05:Same H H5:=s1.trans (s2.trans (s3.trans s35));refine ⟨small 1 (by decide),fun lr hlr=>?_⟩;have s6:Same H5 (upd H5 lr (.lst [.ref p])):=Same.new hlr;have x6:(upd H5 lr (.lst [.ref p])) lr=some (.lst [.ref p]):=zA1;generalize upd H5 lr (.lst [.ref p])=H6 at s6 x6 ⊢;have ru6:=ru5.mono s6;refine fun h dh hh hdh neh=>?_;have s7:Same H6 (upd (upd H6 dh (.own h)) h (.ins CH dh [])):=zAv hh hdh neh;have x7:(upd (upd H6 dh (.own h)) h (.ins CH dh [])) h=some (.ins CH dh []):=zA1;generalize upd (upd H6 dh (.own h)) h (.ins CH dh [])=H7 at s7 x7 ⊢;refine ⟨h,dh,lr, "one",[.ref p],[("zed",[])],rfl,x7,one_ok,s7 _ _ x6,.cons (ru6.mono s7) .nil,by decide,fun H8 ha8 k8=>⟨rfl,?_⟩⟩;have s68:Same H6 H8:=fun b o e=>k8 b o (s7 _ _ e) (zA3 e hh);have s08:=s05.trans (s6.trans s68);refine ⟨small 1 (by decide),fun lh hlh=>?_⟩;have s9:Same H8 (upd H8 lh (.lst [.ref h])):=Same.new hlh;have x9:(upd H8 lh (.lst [.ref h])) lh=some (.lst [.ref h]):=zA1;generalize upd H8 lh (.lst [.ref h])=H9 at s9 x9 ⊢;have s09:=s08.trans s9;have bad:([("one",[("zed",[])])]:List (Str×List Ru)).all (handB ord)=false:=by
    have e1:ordB ord ("zed",[])=false:=by
     unfold ordB;rw [Y8,decide_eq_false nz];rfl
    show ((ordB ord ("zed",[]) && true) && true)=false;rw [e1];rfl
   refine ⟨kq,d,lh,kvs,ord,ow,[.ref h],[("one",[("zed",[])])],rfl,kw.mono s09,x9,.cons (ha8.mono s9) .nil,List.pairwise_singleton _ _,by decide,fun z hz=>?_,fun g=>absurd (bad.symm.trans g) Z3,fun g=>absurd (bad.symm.trans g) Z3,fun _ e H' _ _ s'=>⟨e,CN,rfl,rfl,rfl,rfl,s09.trans s'⟩⟩;rw [List.mem_singleton.mp hz];exact ⟨one_ok,by decide,fun x hx=>by rw [List.mem_singleton.mp hx];exact zok⟩
  ·rintro σ' e C' H' he ⟨rfl,rfl,s0⟩;exact ⟨N.exm,_,rfl,k H' s0⟩
end
end L2.W
namespace L2.W
open PySem My
noncomputable def spCellAt (K:PySem.W.Frag):Sp:=fun vs H Q _=>∃ (a:Addr) (ns:List Int),vs=[.ref a,.int 0]∧SqL K H a (ns.map V.int)∧∀ z:Int,Q (.int z) H
theorem for_zip {K:PySem.W.Frag}{a b:Addr}{xs ys:List V}{g:TG}{tb:TS}{D:Ends}{σ : St}{H:Hp} (hn:xs.length=ys.length) (Pv:Nat→St→Hp→Prop) (h0:Pv 0 σ H) (hl:∀ i σ H,Pv i σ H→SqL K H a xs∧SqL K H b ys)
  (hs:∀ i x y σ H p,xs[i]? = some x→ys[i]? = some y→Pv i σ H→H p=none→g (.ref p) σ (upd H p (.tup [x,y])) fun σ2 H2=>tb { D with nx:=Pv (i + 1),ct:=Pv (i + 1),bk:=D.nx } σ2 H2) (hd:∀ σ H,Pv xs.length σ H→D.nx σ H) :
  ∃ W:Nat→Nat→St→Hp→Prop,(∃ m,W 0 m σ H)∧∀ i m σ H,W i m σ H →
   ((Itz K a b).stop i H∧D.nx σ H)∨((Itz K a b).go i H∧∃ N:St→Hp→Prop,(∀ σ' H',N σ' H'→∃ m',m' < m∧W (i + 1) m' σ' H')∧∀ x H',(Itz K a b).yld i H x H'→g x σ H' fun σ2 H2=>tb { D with nx:=N,ct:=N,bk:=D.nx } σ2 H2):=by
 refine ⟨fun i m σ H=>m=xs.length - i∧i≤xs.length∧Pv i σ H,⟨xs.length,by simp,Zn _,h0⟩,?_⟩;rintro i m σ H ⟨rfl,hi,p⟩;obtain ⟨q1,q2⟩:=hl i σ H p;by_cases hlt:i < xs.length
 ·refine .inr ⟨⟨xs,ys,_,_,q1,q2,Z1 hlt,Z1 (by omega)⟩,Pv (i + 1),fun σ' H' p'=>⟨xs.length - (i + 1),by omega,rfl,hlt,p'⟩,fun x H' y=>?_⟩;obtain ⟨t,u,v,rfl,ht,rfl,h1,h2⟩:=y;exact hs i u v σ H t (h1 xs q1) (h2 ys q2) p ht
 ·obtain rfl:i=xs.length:=by omega
  exact .inl ⟨⟨xs,ys,q1,q2,.inl (Z5 _)⟩,hd σ H p⟩
section
variable {P:Program}{w:World}{K:PySem.W.Frag}{mg:Str→Option Value}{base:Heap}{CX:CXT}
theorem scCa:FnScope ["_law_script", "_law_k"] ["_law_script", "_law_k"] (defScope sCellAt):=⟨rfl,rfl,rfl,by decide +kernel,rfl,by decide +kernel,by decide +kernel⟩
theorem ok_cellAt {f:Addr}{fd:FuncData} (T:Tops K mg) (F:Fun K "_law_cell_at" "_law_cell_at" sCellAt f fd):FnOk P w K mg base CX 1 f fd ["_law_script", "_law_k"] (spCellAt K):=by
 refine Fun.okC F scCa (fun vs H Q E h=>?_) (fun cdv A outer s H vs Q E hr h=>?_)
 ·obtain ⟨a,ns,rfl,_⟩:=h;rfl
 ·obtain ⟨a,ns,rfl,ha,k⟩:=h
  refine ⟨_,zA2 (zB1 (zAp op_lt (pv 1) (zA7 zAe rfl T.len PySem.boot_len (zA0 (pv 0) zA4)) (nomark _))
     (zA6 (zAj (zBp zB9 (pv 0) (pv 1) (fun _ _=>rfl)))) zAf)
     (zA6 (zAj zAa)),?_⟩
  refine ⟨_,rfl,_,rfl,a,_,rfl,.inl ha,_,_,rfl,rfl,_,rfl,?_⟩;refine ite2 (fun c=>?_) (fun c=>k 0);have c':=of_decide_eq_true c;cases ns with
  | nil=>exact absurd c' (by decide)
  | cons z t=>exact ⟨_,rfl,_,rfl,a,_,((0:Nat):Int),_,rfl,rfl,ha,zCx rfl,k z⟩
end
end L2.W
namespace L2.W
open PySem My
noncomputable def w5:List Str:=["box", "a", "lid", "boxes", "b"]
theorem w5_ok:∀ x∈w5,nameOk x:=by
 have:∀ x∈w5,nameB x=true∧PyData.strOk x=true∧x.length≤8:=by decide +kernel
 exact this
theorem w5_nd:w5.Nodup:=by decide +kernel
theorem w5_zed:("zed" : Str)∉w5:=by decide +kernel
noncomputable def spLaw57 (K:PySem.W.Frag) (Pt:Addr):Sp:=fun vs H Q _=>∃ (a:Addr) (ns:List Int),vs=[.ref a]∧SqL K H a (ns.map V.int)∧ns.length≤63∧TabOk H Pt lamPos lamQ∧∀ H',Q (.bl true) H'
structure Asks57 (P:Program) (w:World) (K:PySem.W.Frag) (mg:Str→Option Value) (base:Heap) (C fI CK fIk fOr fOf fOw CR fR CH fH CT fT CA fA CC CD CN fc fd fn fw ff fg fx Pt:Addr) (dI dIk dR dH dc dd dn dw df dg dx:FuncData):Prop where
 T:Tops K mg
 KC:KCls K mg C fI
 KS:KsCls K mg CK fIk fOr fOf fOw
 R:RCls K mg CR fR CH fH CT fT CA fA CC CD
 GK:FnOk P w K mg base (CXM P w) 5 fI dI ["self", "name", "fields", "owner"] (spInit C)
 bK:Binds K dI ["self", "name", "fields", "owner"] []
 GI:FnOk P w K mg base (CXM P w) 5 fIk dIk ["self", "kinds"] (spInitKs CK C Pt)
 bI:Binds K dIk ["self", "kinds"] []
 GR:FnOk P w K mg base (CXM P w) 4 fR dR ["self", "kind", "change", "condition", "behind"] (spRule CR CT CA)
 bR:Binds K dR ["self", "kind", "change", "condition", "behind"] []
 GH:FnOk P w K mg base (CXM P w) 2 fH dH ["self", "name", "rules"] (spHand CR CH CT CA)
 bH:Binds K dH ["self", "name", "rules"] []
 Dc:Def K mg "_law_cell_at" sCellAt ["_law_script", "_law_k"] fc dc
 Gc:FnOk P w K mg base (CXM P w) 1 fc dc ["_law_script", "_law_k"] (spCellAt K)
 Dd:Def K mg "_law_digits" sDigits ["_law_cell"] fd dd
 Gd:FnOk P w K mg base (CXM P w) 1 fd dd ["_law_cell"] spDigits
 Dn:Def K mg "_law_next" sNext ["_law_source", "_law_many"] fn dn
 Gn:FnOk P w K mg base (CXM P w) 2 fn dn ["_law_source", "_law_many"] spNext
 Dw:Def K mg "_law_waits" sWaits ["_law_owners", "_law_rules"] fw dw
 Gw:FnOk P w K mg base (CXM P w) 1 fw dw ["_law_owners", "_law_rules"] spLWaits
 Df:Def K mg "_law_far" sFar ["_law_waits_here"] ff df
 Gf:FnOk P w K mg base (CXM P w) 1 ff df ["_law_waits_here"] spFar
 Dg:Def K mg "ring" sRing ["kinds", "hands"] fg dg
 Gg:FnOk P w K mg base (CXM P w) 5 fg dg ["kinds", "hands"] (spRing CK C CR CH CT CA CN)
 Dx:Def K mg "_law_refused" sRefused ["_law_kinds"] fx dx
 Gx:FnOk P w K mg base (CXM P w) 6 fx dx ["_law_kinds"] (spRefu CK C)
theorem ord_perm {rt:List Row}{ord:List Str} (g:Greedy (·∈rt) ord) (h:ord.length=rt.length) (nd:(rt.map (·.name)).Nodup):ord.Perm (rt.map (·.name)):=by
 refine (List.perm_ext_iff_of_nodup g.nodup nd).mpr fun n=>⟨fun hn=>?_,fun hn=>?_⟩
 ·obtain ⟨r,m,e⟩:=g.mem hn;exact List.mem_map.mpr ⟨r,m,e⟩
 ·refine Classical.byContradiction fun hno=>?_;have:=zDa (a:=n :: ord) (b:=rt.map (·.name)) (List.nodup_cons.mpr ⟨hno,g.nodup⟩) fun x hx=>by
   rcases List.mem_cons.mp hx with e | hx
   ·rw [e];exact hn
   ·obtain ⟨r',m',e⟩:=g.mem hx;exact List.mem_map.mpr ⟨r',m',e⟩
  rw [Zh,Z0] at this;omega
theorem _root_.My.Src.nw {H:Hp}{p b:Addr}{k:Int} (S:Src H p k) (h:H b=none):b≠p:=by obtain ⟨_,_,_,e,_⟩:=S;exact Ne.symm (zA3 e h)
theorem _root_.My.Src.up {H H':Hp}{p:Addr}{k:Int} (S:Src H p k) (s:Same H H'):Src H' p k:=by obtain ⟨a,c,i,e,r⟩:=S;exact ⟨a,c,i,s _ _ e,r⟩
theorem _root_.My.Src.look {H H':Hp}{q:Addr}{k:Int} (S:Src H q k) (h:∀ o,H q=some o→H' q=some o):Src H' q k:=by obtain ⟨a,c,i,e,r⟩:=S;exact ⟨a,c,i,h _ e,r⟩
theorem zDb {zs:List (Addr×Row)}:∀ {ord:List Str}{kvs:List (Key×V)},Placed zs ord kvs→kvs.map (·.1)=ord.map Sum.inr
 | _,_,.nil=>rfl
 | _,_,.cons r t=>by
  obtain ⟨_,_,e,_⟩:=r;rw [Zq,Zq,zDb t,e]
theorem cut_takeA {xs:List V}{j:Nat}:cutV xs none (some (j:Int))=xs.take j:=by
 have n:¬ ((j:Int) < 0):=by omega
 unfold cutV HT.sIx;simp [n]
theorem KOwn.keep {CK C:Addr}{H H':Hp}{kq d:Addr}{kvs:List (Key×V)}{ord:List Str}{ow:Str→Option Str} (h:KOwn CK C H kq d kvs ord ow) (s:∀ b o,H b=some o→(∃ C dx fs,o=.ins C dx fs)∨(∃ kvs,o=.dK kvs)∨(∃ x u,o=.frz x u)→H' b=some o):KOwn CK C H' kq d kvs ord ow:=⟨⟨h.ko.ka.mono s,h.ko.ks,h.ko.le⟩,h.nk,h.nm,fun k hk=>by obtain ⟨q,dx,lf,e1,e2⟩:=h.ow k hk;exact ⟨q,dx,lf,e1,s _ _ e2 (.inl ⟨_,_,_,rfl⟩)⟩⟩
structure Bs (CK C:Addr) (H:Hp) (Pt q ln od kq d lc:Addr) (kk:Int) (ns:List Str) (ow:Str→Option Str) (o:Obj) (kvs:List (Key×V)) (ord:List Str) (ms:List Int) (H':Hp):Prop where
 S:Src H' q kk
 kw:KOwn CK C H' kq d kvs ord ow
 xn:H' ln=some (.lst (ns.map V.str))
 xo:H' od=some (.frz o (.dK (oOf ns ow)))
 FH:∀ b o',H b=some o'→b≠Pt→H' b=some o'
 xc:H' lc=some (.lst (ms.map V.int))
theorem Bs.but {CK C:Addr}{H:Hp}{Pt q ln od kq d lc x:Addr}{kk:Int}{ns:List Str}{ow:Str→Option Str}{o:Obj}{kvs:List (Key×V)}{ord:List Str}{ms:List Int}{H1 H2:Hp}{xs:List V} (h:Bs CK C H Pt q ln od kq d lc kk ns ow o kvs ord ms H1) (hx:H1 x=some (.lst xs)) (hH:H x=none) (n1:q≠x) (n2:ln≠x) (n3:lc≠x) (g:∀ b o',H1 b=some o'→b≠x→H2 b=some o'):Bs CK C H Pt q ln od kq d lc kk ns ow o kvs ord ms H2:=by
 have no:∀ {b:Addr}{o':HO},H1 b=some o'→(∀ ys,o'≠.lst ys)→b≠x:=fun {b o'} e hn z=>by rw [z,hx] at e;exact hn _ (Zg e).symm
 refine ⟨h.S.look fun o' e=>g _ _ e n1,h.kw.keep fun b o' e hs=>g _ _ e (no e (by rcases hs with ⟨_,_,_,rfl⟩ | ⟨_,rfl⟩ | ⟨_,_,rfl⟩ <;> exact fun _ z=>nomatch z)),g _ _ h.xn n2,g _ _ h.xo (no h.xo fun _ z=>nomatch z),fun b o' e n=>g _ _ (h.FH b o' e n) (fun z=>by rw [z,hH] at e;cases e),g _ _ h.xc n3⟩
theorem Bs.same {CK C:Addr}{H:Hp}{Pt q ln od kq d lc:Addr}{kk:Int}{ns:List Str}{ow:Str→Option Str}{o:Obj}{kvs:List (Key×V)}{ord:List Str}{ms:List Int}{H1 H2:Hp} (h:Bs CK C H Pt q ln od kq d lc kk ns ow o kvs ord ms H1) (g:Same H1 H2):Bs CK C H Pt q ln od kq d lc kk ns ow o kvs ord ms H2:=⟨h.S.up g,h.kw.mono g,g _ _ h.xn,g _ _ h.xo,fun b o' e n=>g _ _ (h.FH b o' e n),g _ _ h.xc⟩
noncomputable def LRn (lr:Addr) (H:Hp) (v:V) (x:Ru):Prop:=∃ t l,v=.ref t∧H t=some (.tup [.str x.1,.ref l])∧H l=some (.lst (x.2.map V.str))∧l≠lr
theorem src_strs {H:Hp}{q l:Addr}{k:Int}{bs:List Str} (S:Src H q k) (h:H l=some (.lst (bs.map V.str))):l≠q:=fun z=>by
 obtain ⟨a,c,j,e,_⟩:=S;rw [z,e] at h;have h:=Zg h;injection h with h;cases bs with
 | nil=>cases h
 | cons b t =>
  rw [Zq] at h;injection h with h _;cases h
theorem RuAt.butQ {CR CT CA q:Addr}{H H':Hp}{v:V}{x:Ru}{k:Int} (h:RuAt CR CT CA H v x) (S:Src H q k) (g:∀ b o,H b=some o→b≠q→H' b=some o):RuAt CR CT CA H' v x:=by
 obtain ⟨p,dx,t,dt,a,da,l,e,h1,h2,h3,h4⟩:=h;have no:∀ {b:Addr}{o:HO},H b=some o→(∀ ys,o≠.lst ys)→b≠q:=fun {b o} e hn z=>by
  obtain ⟨_,_,_,e',_⟩:=S;rw [z,e'] at e;exact hn _ (Zg e).symm
 exact ⟨p,dx,t,dt,a,da,l,e,g _ _ h1 (no h1 fun _ z=>nomatch z),g _ _ h2 (no h2 fun _ z=>nomatch z),g _ _ h3 (no h3 fun _ z=>nomatch z),g _ _ h4 (src_strs S h4)⟩
theorem LRu.butQ {q:Addr}{H H':Hp}{v:V}{x:Ru}{k:Int} (h:LRu H v x) (S:Src H q k) (g:∀ b o,H b=some o→b≠q→H' b=some o):LRu H' v x:=by
 obtain ⟨t,l,e,h1,h2⟩:=h;refine ⟨t,l,e,g _ _ h1 (fun z=>?_),g _ _ h2 (src_strs S h2)⟩;obtain ⟨_,_,_,e',_⟩:=S;rw [z,e'] at h1;cases h1
theorem zCz {α β : Type}{R : α→β→Prop}:∀ (n:Nat) {a:List α}{c:List β},Paired R a c→Paired R (a.take n) (c.take n)
 | 0,_,_,_=>.nil
 | _ + 1,_,_,.nil=>.nil
 | n + 1,_,_,.cons r t=>.cons r (zCz n t)
theorem zD0 {α β : Type}{R : α→β→Prop}:∀ (n:Nat) {a:List α}{c:List β},Paired R a c→Paired R (a.drop n) (c.drop n)
 | 0,_,_,h=>h
 | _ + 1,_,_,.nil=>.nil
 | n + 1,_,_,.cons _ t=>zD0 n t
theorem KOwn.keep2 {CK C:Addr}{H H':Hp}{kq d:Addr}{kvs:List (Key×V)}{ord:List Str}{ow:Str→Option Str} (h:KOwn CK C H kq d kvs ord ow) (s:∀ b o,H b=some o→(∀ x u,o≠.frz x u)→H' b=some o) (r:Rd H d (.dK kvs)→Rd H' d (.dK kvs)):KOwn CK C H' kq d kvs ord ow:=⟨⟨⟨by obtain ⟨⟨dx,e⟩,_⟩:=h.ko.ka;exact ⟨dx,s _ _ e fun _ _ z=>nomatch z⟩,r h.ko.ka.2⟩,h.ko.ks,h.ko.le⟩,h.nk,h.nm,fun k hk=>by obtain ⟨q,dx,lf,e1,e2⟩:=h.ow k hk;exact ⟨q,dx,lf,e1,s _ _ e2 fun _ _ z=>nomatch z⟩⟩
theorem RuAt.keep {CR CT CA:Addr}{H H':Hp}{v:V}{x:Ru} (h:RuAt CR CT CA H v x) (s:∀ b o,H b=some o→(∀ x u,o≠.frz x u)→H' b=some o):RuAt CR CT CA H' v x:=by
 obtain ⟨p,dx,t,dt,a,da,l,e,h1,h2,h3,h4⟩:=h;exact ⟨p,dx,t,dt,a,da,l,e,s _ _ h1 (fun _ _ z=>nomatch z),s _ _ h2 (fun _ _ z=>nomatch z),s _ _ h3 (fun _ _ z=>nomatch z),s _ _ h4 (fun _ _ z=>nomatch z)⟩
theorem HaAt.keep {CR CH CT CA:Addr}{H H':Hp}{v:V}{x:Str×List Ru} (h:HaAt CR CH CT CA H v x) (s:∀ b o,H b=some o→(∀ x u,o≠.frz x u)→H' b=some o):HaAt CR CH CT CA H' v x:=by
 obtain ⟨p,dx,l,vs,e,h1,h2,h3⟩:=h;exact ⟨p,dx,l,vs,e,s _ _ h1 (fun _ _ z=>nomatch z),s _ _ h2 (fun _ _ z=>nomatch z),zAb h3 fun _ _ r=>r.keep s⟩
theorem oOf_val {ow:Str→Option Str}{k:Key}{v:V}:∀ {l:List Str},valV (oOf l ow) k=some v→∃ o,v=ownV o
 | [],h=>by cases h
 | x :: t,h=>by
  rw [show oOf (x :: t) ow=(Sum.inr x,ownV (ow x)) :: oOf t ow from rfl] at h;by_cases c:(Sum.inr x:Key)=k
  ·rw [zBf c] at h;exact ⟨_,(Zg h).symm⟩
  ·rw [zB6 c] at h;exact oOf_val h
theorem eqv_nil {L:List Str} (h:L≠[]):PyData.eqv (.list (L.map .str)) (.list [])=false:=by
 cases L with
 | nil=>exact absurd rfl h
 | cons a t=>rfl
theorem zDm:∀ ks:List Str,PyData.depthAll (ks.map PyData.str)≤1
 | []=>by decide
 | k :: r=>by
  have:=zDm r;show max (PyData.depth (.str k)) (PyData.depthAll (r.map PyData.str))≤1;have h1:PyData.depth (.str k)≤1:=by first | decide | (show 0≤1;decide) | (show 1≤1;decide) | simp [PyData.depth]
  omega
theorem zDw (ks:List Str):PyData.depth (.list (ks.map PyData.str))≤64:=by
 have:=zDm ks;show PyData.depthAll (ks.map PyData.str) + 1≤64;omega
structure ROk (ns:List Str) (x:Ru):Prop where
 a:x.1∈ns
 b:∀ y∈x.2,y∈ns
 c:x.2.Nodup
 d:x.1∉x.2
 e:x.2.length≤5
theorem cut_ints (ns:List Int) (lo hi:Option Int):∃ ms:List Int,cutV (ns.map V.int) lo hi=ms.map V.int∧ms.length≤ns.length:=by
 unfold cutV;rw [← List.map_drop,← Yk];exact ⟨_,rfl,by rw [Zc,Zw];omega⟩
theorem zDn {xs:List V}{j:Nat} (h:j≤xs.length):cutV xs none (some (j:Int))=xs.take j:=by
 have n:¬ ((j:Int) < 0):=by omega
 unfold cutV HT.sIx;simp [n,Nat.min_eq_left h]
section
variable {P:Program}{w:World}{K:PySem.W.Frag}{mg:Str→Option Value}{base:Heap}
noncomputable abbrev nL57:List Str:=["_law_script", "_law_source", "_law_names", "_law_owners", "_law_k", "_law_kinds", "_law_rules", "_law_cell", "_law_drawn", "_law_kind", "_law_others", "_law_at", "_law_made", "_law_hands", "_law_waits_here", "_law_far_here", "_law_told", "_law_one", "_law_other"]
noncomputable abbrev nM57:List Str:=["_law_script", "_law_source", "_law_names", "_law_owners", "_law_k", "_law_kinds", "_law_rules", "_law_cell", "_law_drawn", "?", "_law_others", "_law_at", "_law_made", "_law_hands", "_law_waits_here", "_law_far_here", "_law_told", "_law_one", "_law_other"]
theorem scL57:FnScope nL57 ["_law_script"] (defScope sLaw):=⟨rfl,rfl,rfl,by decide +kernel,rfl,by decide +kernel,by decide +kernel⟩
theorem sameM:sameN nL57 nM57 [9]:=by unfold sameN;decide +kernel
theorem ndM:(nM57:List Str).Nodup:=by decide +kernel
theorem ndK2:(nL57++(["_law_name", "_law_owner"]:List Str)).Nodup:=by decide +kernel
theorem ndK1:(nL57++(["_law_name"]:List Str)).Nodup:=by decide +kernel
set_option maxHeartbeats 4000000 in
theorem ok_law57 {f C fI CK fIk fOr fOf fOw CR fR CH fH CT fT CA fA CC CD CN fc fd fn fw ff fg fx Pt:Addr}{fdl dI dIk dR dH dc dd dn dw df dg dx:FuncData} (F:Fun K "law" "law" sLaw f fdl) (A:Asks57 P w K mg base C fI CK fIk fOr fOf fOw CR fR CH fH CT fT CA fA CC CD CN fc fd fn fw ff fg fx Pt dI dIk dR dH dc dd dn dw df dg dx):FnOk P w K mg base (CXM P w) 8 f fdl ["_law_script"] (spLaw57 K Pt):=by
 have T:=A.T;have R:=A.R;have hC:Calm (CXM P w):=calmM;refine Fun.okC F scL57 (fun vs H Q E h=>?_) (fun cdv Ar outer s H vs Q E hr h=>?_)
 ·obtain ⟨a,ns,rfl,_⟩:=h;rfl
 ·obtain ⟨a,nums,rfl,hS,hlen,hT,k⟩:=h;have hr1:=hr.mono (show 1≤7 by decide);have hr2:=hr.mono (show 2≤7 by decide);have hr3:=hr.mono (show 3≤7 by decide);have hr5:=hr.mono (show 5≤7 by decide);have hr6:=hr.mono (show 6≤7 by decide);have hu:=hu_of hr;have nd:=scL57.nd
  refine ⟨_,zA2 (zAh (i:=1) nd rfl (Or.inl rfl) (zAc A.Gd hr1 rfl A.Dd.at_ A.Dd.fn.kp A.Dd.bind .nil (passC hC) (zA0 (zAc A.Gc hr1 rfl A.Dc.at_ A.Dc.fn.kp A.Dc.bind .nil (passC hC) (zA0 (pv 0) (zA0 zAa zA4))) zA4)))
     (zA2 (zAh (i:=2) nd rfl (Or.inl rfl) (zAx zBj (zB2 (zA0 zBv (zA0 zBv (zA0 zBv (zA0 zBv (zA0 zBv zA4)))))) zBn (zB4 (zAt zBw zAa (zAc A.Gn hr2 rfl A.Dn.at_ A.Dn.fn.kp A.Dn.bind .nil (passC hC) (zA0 (pv 1) (zA0 zAa zA4)))))))
     (zA2 (zAh (i:=3) nd rfl (Or.inl rfl) zCg)
     (zA2 (zBg PassesOwn.never rfl (zDc rfl T.range (zA0 (zA7 zAe rfl T.len PySem.boot_len (zA0 (pv 2) zA4)) zA4)) (zA8 (i:=4) nd rfl (Or.inl rfl))
     (zA6 (zCp hu (pv 3) (zBp zB9 (pv 2) (pv 4) (fun _ _=>rfl)) (zBp zB9 (zAt op_cat (zB2 (zA0 zDt (zA0 zDt zA4))) (zAx zBj (pv 2) zBn (zB4 (pv 4)))) (zAc A.Gn hr2 rfl A.Dn.at_ A.Dn.fn.kp A.Dn.bind .nil (passC hC) (zA0 (pv 1) (zA0 (zAt zBw (pv 4) zAa) zA4))) (fun _ _=>rfl)) rfl)))
     (zA2 (zAh (i:=5) nd rfl (Or.inl rfl) (zBo A.KS.mkd A.GI hr6 rfl A.KS.mgC A.bI .nil (passC hC) (zA0 (zAn (T:=["_law_name", "_law_owner"]) rfl ScOk.auto (zCe (zCf (pv 3))) (fun _ _ _ _=>zCq (K:=K) (n:=2) rfl rfl (zAu (zA8 (i:=19) ndK2 rfl (Or.inl rfl)) (zAu (zA8 (i:=20) ndK2 rfl (Or.inl rfl)) zBy))) (fun _ _ _ _=>zAy) (fun _ _ _ _=>zBo A.KC.mkd A.GK hr6 rfl A.KC.mgC A.bK .nil (passC hC) (zA0 (pv 19) (zA0 (zB2 zA4) (zA0 (pv 20) zA4))))) zA4)))
     (zA2 (zAh (i:=6) nd rfl (Or.inl rfl) (zB2 zA4))
     (zA2 (zBg PassesOwn.never rfl (zAg (zAx zBj (pv 0) (zB4 zAa) (zB4 (zAt zBw zAa (zAc A.Gn hr2 rfl A.Dn.at_ A.Dn.fn.kp A.Dn.bind .nil (passC hC) (zA0 (pv 1) (zA0 zAa zA4))))))) (zA8 (i:=7) nd rfl (Or.inl rfl))
     (zA2 (zAh (i:=8) nd rfl (Or.inl rfl) (zAc A.Gd hr1 rfl A.Dd.at_ A.Dd.fn.kp A.Dd.bind .nil (passC hC) (zA0 (pv 7) zA4)))
     (zA2 (zAh (i:=9) nd rfl (Or.inr rfl) (zBp zB9 (pv 2) (zAc A.Gn hr2 rfl A.Dn.at_ A.Dn.fn.kp A.Dn.bind .nil (passC hC) (zA0 (pv 8) (zA0 (zA7 zAe rfl T.len PySem.boot_len (zA0 (pv 2) zA4)) zA4))) (fun _ _=>rfl)))
     (zA2 (zB3 (T:=["_law_name"]) (i:=10) rfl ScOk.auto (zAg (pv 2)) (fun _ _ _ _=>zA8 (i:=19) (by decide +kernel:(["_law_script", "_law_source", "_law_names", "_law_owners", "_law_k", "_law_kinds", "_law_rules", "_law_cell", "_law_drawn", "_law_kind", "_law_others", "_law_at", "_law_made", "_law_hands", "_law_waits_here", "_law_far_here", "_law_told", "_law_one", "_law_other", "_law_name"]:List Str).Nodup) rfl (Or.inl rfl)) (fun _ _ _ _=>zC7 (zAp op_ne (pv 19) (pv 9) (nomark _))) (fun _ _ _ _=>(pv 19)) nd rfl rfl rfl)
     (zA2 (zAh (i:=11) nd rfl (Or.inl rfl) (zAc A.Gn hr2 rfl A.Dn.at_ A.Dn.fn.kp A.Dn.bind .nil (passC hC) (zA0 (pv 8) (zA0 (zAt zBw (zA7 zAe rfl T.len PySem.boot_len (zA0 (pv 10) zA4)) zAa) zA4))))
     (zA6 (zBx (pe_bm PySem.F.plainAttrs_list PySem.F.slot_list_append PySem.F.type_list_append mt_append (pv 6) (zA0 (zDd (zA0 (pv 9) (zA0 (zAx zBj (zAx zBj (pv 10) (zB4 (pv 11)) zBn) zBn (zB4 (zAc A.Gn hr2 rfl A.Dn.at_ A.Dn.fn.kp A.Dn.bind .nil (passC hC) (zA0 (pv 8) (zA0 zAa zA4))))) zA4))) zA4)))))))))
     (zA2 (ps_re nM57 [9] sameM (zB3 (T:=["_law_kind", "_law_behind"]) (i:=12) rfl ScOk.auto (zAg (pv 6)) (fun _ _ _ _=>zCq (K:=K) (n:=2) rfl rfl (zAu (zA8 (i:=19) (by decide +kernel:(["_law_script", "_law_source", "_law_names", "_law_owners", "_law_k", "_law_kinds", "_law_rules", "_law_cell", "_law_drawn", "?", "_law_others", "_law_at", "_law_made", "_law_hands", "_law_waits_here", "_law_far_here", "_law_told", "_law_one", "_law_other", "_law_kind", "_law_behind"]:List Str).Nodup) rfl (Or.inl rfl)) (zAu (zA8 (i:=20) (by decide +kernel:(["_law_script", "_law_source", "_law_names", "_law_owners", "_law_k", "_law_kinds", "_law_rules", "_law_cell", "_law_drawn", "?", "_law_others", "_law_at", "_law_made", "_law_hands", "_law_waits_here", "_law_far_here", "_law_told", "_law_one", "_law_other", "_law_kind", "_law_behind"]:List Str).Nodup) rfl (Or.inl rfl)) zBy))) (fun _ _ _ _=>zAy) (fun _ _ _ _=>(zBo R.rM A.GR hr5 rfl R.rm A.bR .nil (passC hC) (zA0 (pv 19) (zA0 (zC4 R.tM rfl R.tm) (zA0 (zC4 R.aM rfl R.am) (zA0 (zAo (r:=fun xs H Q=>∃ p ys,xs=[.ref p]∧(SqL K H p ys∨SqT K H p ys)∧∀ l,H l=none→Q (.ref l) (upd H l (.lst ys))) zB0 rfl T.list PyProof.Rows.boot_list (zA0 (pv 20) zA4)) zA4)))))) ndM rfl rfl rfl))
     (zA2 (zAh (i:=11) nd rfl (Or.inl rfl) (zAc A.Gn hr2 rfl A.Dn.at_ A.Dn.fn.kp A.Dn.bind .nil (passC hC) (zA0 (pv 1) (zA0 (zAt zBw (zA7 zAe rfl T.len PySem.boot_len (zA0 (pv 12) zA4)) zAa) zA4))))
     (zA2 (zAh (i:=13) nd rfl (Or.inl rfl) (zB2 (zA0 (zBo R.hM A.GH hr3 rfl R.hm A.bH .nil (passC hC) (zA0 zBv (zA0 (zAx zBj (pv 12) zBn (zB4 (pv 11))) zA4))) (zA0 (zBo R.hM A.GH hr3 rfl R.hm A.bH .nil (passC hC) (zA0 zBv (zA0 (zAx zBj (pv 12) (zB4 (pv 11)) zBn) zA4))) zA4))))
     (zA2 (zAh (i:=14) nd rfl (Or.inl rfl) (zAc A.Gw hr1 rfl A.Dw.at_ A.Dw.fn.kp A.Dw.bind .nil (passC hC) (zA0 (pv 3) (zA0 (pv 6) zA4))))
     (zA2 (zAh (i:=15) nd rfl (Or.inr rfl) (zAc A.Gf hr1 rfl A.Df.at_ A.Df.fn.kp A.Df.bind .nil (passC hC) (zA0 (pv 14) zA4)))
     (zA2 (zAh (i:=16) nd rfl (Or.inl rfl) (zAc A.Gg hr5 rfl A.Dg.at_ A.Dg.fn.kp A.Dg.bind .nil (passC hC) (zA0 (pv 5) (zA0 (pv 13) zA4))))
     (zA2 (zB1 (zAp (op_eqD hr.units) (zAn (T:=["_law_name"]) rfl ScOk.auto (zAg (pv 2)) (fun _ _ _ _=>zA8 (i:=19) (by decide +kernel:(["_law_script", "_law_source", "_law_names", "_law_owners", "_law_k", "_law_kinds", "_law_rules", "_law_cell", "_law_drawn", "_law_kind", "_law_others", "_law_at", "_law_made", "_law_hands", "_law_waits_here", "_law_far_here", "_law_told", "_law_one", "_law_other", "_law_name"]:List Str).Nodup) rfl (Or.inl rfl)) (fun _ _ _ _=>zC7 (zAp (r:=rIn K false) zCj (pv 19) (zB5 hu (pv 15) (pv 19) (fun _ _=>rfl)) rfl)) (fun _ _ _ _=>(pv 19))) (zB2 zA4) (nomark _))
     (zA6 (zAj (zC8 (zBq op_isN (pv 16) zDt (nomark _)) (zCy (zAc A.Gx hr6 rfl A.Dx.at_ A.Dx.fn.kp A.Dx.bind .nil (passC hC) (zA0 (pv 5) zA4)))))) zAf)
     (zA2 (zB1 (PW.pt (zCo (zAs (zAr (zA7 zAl rfl T.isinst PyProof.Rows.boot_isinstance (zA0 (pv 16) (zA0 (zBa (v:=.ty "list") rfl T.list PyProof.Rows.boot_list rfl) zA4))))) (zCo (zAp (op_eqD hr.units) (pv 16) (zB2 zA4) (nomark _)) (zBt (zAp op_ne (zA7 zAe rfl T.len PySem.boot_len (zA0 (pv 16) zA4)) (zA7 call_len_dict rfl T.len PySem.boot_len (zA0 (zAo (zBe (K:=K) rfl) rfl T.dict PyProof.Rows.boot_dict (zA0 (zAn (T:=["_law_name"]) rfl ScOk.auto (zAg (pv 16)) (fun _ _ _ _=>zA8 (i:=19) ndK1 rfl (Or.inl rfl)) (fun _ _ _ _=>zAy) (fun _ _ _ _=>zDd (zA0 (pv 19) (zA0 zAa zA4)))) zA4)) zA4)) (nomark _))))))
     (zA6 (zAj zCh)) zAf)
     (zA2 (zBg PassesOwn.never rfl (pi_zip rfl T.zip (zA0 (pv 16) (zA0 (zAt op_cat (zAx zBj (pv 16) (zB4 zAa) zBn) (zAx zBj (pv 16) zBn (zB4 zAa))) zA4))) (pg_tup rfl (zAu (zA8 (i:=17) nd rfl (Or.inl rfl)) (zAu (zA8 (i:=18) nd rfl (Or.inl rfl)) zBy)))
     (zA6 (zB1 (PW.pt (zCo (zAp zB8 (pv 17) (pv 2) rfl) (zBt (zAp zB8 (pv 18) (zB5 hu (pv 14) (pv 17) (fun _ _=>rfl)) rfl))))
     (zA6 (zAj zCh)) zAf)))
     (zA6 (zAj (zAc A.Gx hr6 rfl A.Dx.at_ A.Dx.fn.kp A.Dx.bind .nil (passC hC) (zA0 (pv 5) zA4))))))))))))))))))),?_⟩
  have small:∀ n:Nat,n≤1000→n≤sizeLine:=fun n h=>Zt (small1000 h);have big:(200000:Nat)≤sizeLine:=by rw [sizeLine_eq];decide
  refine ⟨_,rfl,a,nums,rfl,hS,fun z0=>⟨z0,rfl,fun q H1 hq S1 s1 k1=>?_⟩⟩;have FH1:∀ b o,H b=some o→b≠Pt→H1 b=some o:=fun b o e _=>s1 _ _ e;have hSk:∀ {Hx:Hp},(∀ b o,H b=some o→b≠Pt→Hx b=some o)→SqL K Hx a (nums.map V.int):=fun {Hx} g=>by
   rcases hS with (e | ⟨o,e⟩) | e
   ·exact .inl (.inl (g _ _ e (hT.ne e fun _ z=>nomatch z)))
   ·exact .inl (.inr ⟨o,g _ _ e (hT.ne e fun _ z=>nomatch z)⟩)
   ·exact .inr e
  have hqH:∀ {b:Addr}{o:HO},H b=some o→b≠q:=fun e=>zA3 e hq;have hT1:=hT.same s1;refine ⟨small 5 (by decide),fun l0 hl0=>?_⟩;rw [show ([.str "box",.str "a",.str "lid",.str "boxes",.str "b"]:List V)=w5.map V.str from rfl];have s2:Same H1 (upd H1 l0 (.lst (w5.map V.str))):=Same.new hl0;have x2:(upd H1 l0 (.lst (w5.map V.str))) l0=some (.lst (w5.map V.str)):=zA1;have nl0:l0≠q:=S1.nw hl0;generalize upd H1 l0 (.lst (w5.map V.str))=H2 at s2 x2 ⊢;have hT2:=hT1.same s2;refine ⟨_,rfl,q,_,_,rfl,S1.up s2,by decide,by decide,by decide,fun r0 H3 a0 a1 S3 k3=>⟨_,_,rfl,rfl,_,rfl,?_⟩⟩;obtain ⟨n0,rfl⟩:∃ j:Nat,r0=(j:Int):=⟨r0.toNat,by omega⟩;have g3:∀ b o,H2 b=some o→b≠q→H3 b=some o:=fun b o e nb=>by rw [k3 b nb];exact e
  have qtab:∀ {Hx Hy:Hp}{j:Int},Src Hx q j→TabOk Hx Pt lamPos lamQ→(∀ b o,Hx b=some o→b≠q→Hy b=some o)→TabOk Hy Pt lamPos lamQ:=fun {Hx Hy j} S T g=>by
   obtain ⟨_,_,_,e,_⟩:=S;exact T.but e (fun _ z=>nomatch z) (fun _ z=>nomatch z) g
  have hT3:=qtab (S1.up s2) hT2 g3;have FH3:∀ b o,H b=some o→b≠Pt→H3 b=some o:=fun b o e n=>g3 _ _ (s2 _ _ (FH1 b o e n)) (hqH e);refine ⟨l0,_,rfl,SqL.of (g3 _ _ x2 nl0),fun ln hln=>?_⟩;rw [show ((1:Int) + (n0:Int))=((n0 + 1:Nat):Int) by push_cast;omega,zDn (by show n0 + 1≤5;omega),← Yk];obtain ⟨ns,ens⟩:∃ ns,ns=w5.take (n0 + 1):=⟨_,rfl⟩;rw [← ens];have nsl:ns.length=n0 + 1:=by rw [ens,Zc];show min (n0 + 1) 5=_;omega
  have nsub:∀ x∈ns,x∈w5:=fun x hx=>Y1 (ens ▸ hx);have nsok:∀ x∈ns,nameOk x:=fun x hx=>w5_ok x (nsub x hx);have nsnd:ns.Nodup:=by rw [ens];exact (List.take_sublist _ _).nodup w5_nd
  have nz:("zed" : Str)∉ns:=fun h=>w5_zed (nsub _ h);clear ens;have s4:Same H3 (upd H3 ln (.lst (ns.map V.str))):=Same.new hln;have x4:(upd H3 ln (.lst (ns.map V.str))) ln=some (.lst (ns.map V.str)):=zA1;have nln:ln≠q:=S3.nw hln;generalize upd H3 ln (.lst (ns.map V.str))=H4 at s4 x4 ⊢;have S4:=S3.up s4;have hT4:=hT3.same s4;have FH4:∀ b o,H b=some o→b≠Pt→H4 b=some o:=fun b o e n=>s4 _ _ (FH3 b o e n);refine fun od hod=>?_;have s5:Same H4 (upd H4 od (.dK [])):=Same.new hod;have x5:(upd H4 od (.dK [])) od=some (.dK []):=zA1;have nod:od≠q:=S4.nw hod;have hodH:H od=none:=by
   cases z:H od with
   | none=>rfl
   | some o =>
    by_cases c:od=Pt
    ·exfalso;have hT4':=hT4;rcases hT4' with e | ⟨_,e,_⟩ <;> rw [← c,hod] at e <;> cases e
    ·rw [FH4 od o z c] at hod;cases hod
  have nodl:ln≠od:=zA3 x4 hod;generalize upd H4 od (.dK [])=H5 at s5 x5 ⊢;have S5:=S4.up s5;have hT5:=hT4.same s5;have FH5:∀ b o,H b=some o→b≠Pt→H5 b=some o:=fun b o e n=>s5 _ _ (FH4 b o e n);have x45:=s5 _ _ x4;clear k1 k3 x2 hl0 hln hod s1 s2 s4 s5 g3;dsimp only [gName,List.set,start];have key:∀ {i:Nat}{x:Str},ns[i]? = some x→x∉ns.take i:=fun {i x} e hm=>by
   obtain ⟨j,hj,ej⟩:=Zo hm;rw [Zc] at hj;rw [List.getElem_take] at ej;have il:=(List.getElem?_eq_some_iff.mp e).1;have:=List.pairwise_iff_getElem.mp nsnd j i (by omega) il (by omega);rw [ej,(List.getElem?_eq_some_iff.mp e).2] at this;exact this rfl
  refine ⟨_,rfl,ln,_,rfl,.inl (SqL.of x45),?_⟩;rw [Z0]
  refine ⟨ns.length,rfl,by omega,by omega,for_range (n:=ns.length) (fun i σ H'=>∃ (x4:Option V) (ow:Str→Option Str),σ = [some (.ref a),some (.ref q),some (.ref ln),some (.ref od),x4,none,none,none,none,none,none,none,none,none,none,none,none,none,none]∧H' od=some (.dK (oOf (ns.take i) ow))∧(∀ j x o,j < i→ns[j]? = some x→ow x=some o→∃ j',j' < j∧ns[j']? = some o)∧Src H' q (1 + (i:Int))∧TabOk H' Pt lamPos lamQ∧(∀ b o,H b=some o→b≠Pt→H' b=some o)∧H' ln=some (.lst (ns.map V.str)))
   ⟨_,fun _=>none,rfl,x5,(fun j x o h=>absurd h (Nat.not_lt_zero _)),S5.mono (by omega),hT5,FH5,x45⟩ ?_ ?_⟩
  ·rintro i σ H6 hi ⟨x4',ow,rfl,xo,own,S6,hT6,FH6,xn⟩;obtain ⟨x,ex⟩:∃ x,ns[i]? = some x:=⟨_,Z1 hi⟩;rw [show ((0:Int) + (i:Int))=(i:Int) by omega];dsimp only [gName,List.set];refine ⟨small 2 (by decide),fun l1 hl1=>?_⟩;have s7:Same H6 (upd H6 l1 (.lst [.non,.non])):=Same.new hl1;have x7:(upd H6 l1 (.lst [.non,.non])) l1=some (.lst [.non,.non]):=zA1;generalize upd H6 l1 (.lst [.non,.non])=H7 at s7 x7 ⊢;refine ⟨_,rfl,_,rfl,_,rfl,ln,_,rfl,SqL.of (s7 _ _ xn),fun l2 hl2=>?_⟩;rw [zDn (by rw [Z0];omega),← Yk];have s8:Same H7 (upd H7 l2 (.lst ((ns.take i).map V.str))):=Same.new hl2;have x8:(upd H7 l2 (.lst ((ns.take i).map V.str))) l2=some (.lst ((ns.take i).map V.str)):=zA1;generalize upd H7 l2 (.lst ((ns.take i).map V.str))=H8 at s8 x8 ⊢;have tl:(ns.take i).length=i:=by rw [Zc];omega
   refine ⟨l1,l2,_,_,rfl,rfl,s8 _ _ x7,x8,by rw [Z0,tl];show 2 + i≤_;exact small _ (by omega),fun l3 hl3=>?_⟩;have s9:Same H8 (upd H8 l3 (.lst ([.non,.non]++(ns.take i).map V.str))):=Same.new hl3;have x9:(upd H8 l3 (.lst ([.non,.non]++(ns.take i).map V.str))) l3=some (.lst ([.non,.non]++(ns.take i).map V.str)):=zA1;have s68:=s7.trans s8;have nl3:l3≠q:=(S6.up s68).nw hl3;generalize upd H8 l3 (.lst ([.non,.non]++(ns.take i).map V.str))=H9 at s9 x9 ⊢;have s69:=s68.trans s9;refine ⟨_,rfl,_,rfl,_,_,rfl,rfl,q,_,_,rfl,S6.up s69,by omega,by omega,by omega,fun r Hb b0 b1 Sb kb=>?_⟩;obtain ⟨j,rfl⟩:∃ j:Nat,r=(j:Int):=⟨r.toNat,by omega⟩;have gb:∀ b o,H6 b=some o→b≠q→Hb b=some o:=fun b o e nb=>by rw [kb b nb];exact s69 _ _ e
   obtain ⟨o,eo,ho⟩:∃ o:Option Str,([.non,.non]++(ns.take i).map V.str:List V)[j]? = some (ownV o)∧∀ y,o=some y→∃ j',j' < i∧ns[j']? = some y:=by
    match j,b1 with
    | 0,_=>exact ⟨none,rfl,fun y h=>nomatch h⟩
    | 1,_=>exact ⟨none,rfl,fun y h=>nomatch h⟩
    | j + 2,b1 =>
     have lt:j < i:=by omega
     refine ⟨some (ns[j]'(by omega)),?_,fun y h=>⟨j,lt,by rw [Z1 (by omega)];exact h⟩⟩;show ((ns.take i).map V.str)[j]? = _;rw [Z8,List.getElem?_take,if_pos lt,Z1 (by omega)];rfl
   refine ⟨l3,_,(j:Int),_,rfl,rfl,SqL.of (by rw [kb _ nl3];exact x9),zCx eo,?_⟩;refine ⟨_,rfl,_,rfl,_,rfl,ln,_,(i:Int),_,rfl,rfl,SqL.of (gb _ _ xn nln),zCx (by rw [Z8,ex];rfl),od,_,rfl,.inl ⟨_,Sum.inr x,gb _ _ xo nod,rfl,?_,rfl⟩,?_⟩
   ·unfold oOf;rw [Z0,tl];exact Z9 (show i < 1000 by omega) (small 1000 (by decide))
   ·obtain ⟨ow',e1,e2⟩:∃ ow':Str→Option Str,ow' x=o∧∀ y,y≠x→ow' y=ow y:=⟨fun y=>if y=x then o else ow y,if_pos rfl,fun y h=>if_neg h⟩;have kx:=key ex;have eq:putK (oOf (ns.take i) ow) (Sum.inr x) (ownV o)=oOf (ns.take (i + 1)) ow':=by
     rw [L2.zD3]
     ·unfold oOf;rw [Za,ex,Z6]
      congr 1
      ·refine List.map_congr_left fun y hy=>?_;rw [e2 y (fun z=>kx (z ▸ hy))]
      ·show _=[((Sum.inr x:Key),ownV (ow' x))];rw [e1]
     ·have:∀ (l:List Str),x∉l→valV (oOf l ow) (Sum.inr x)=none:=by
       intro l
       induction l with
       | nil=>intro _;rfl
       | cons y t ih =>
        intro hh;rw [Zy,not_or] at hh;rw [show oOf (y :: t) ow=(Sum.inr y,ownV (ow y)) :: oOf t ow from rfl,zB6 (fun z=>hh.1 (Sum.inr.inj z).symm)];exact ih hh.2
      exact this _ kx
    rw [eq];refine ⟨_,ow',rfl,zA1,fun j' y o' hj' ey eo'=>?_,?_,?_,fun b o' e n=>?_,?_⟩
    ·by_cases c:j'=i
     ·rw [c,ex] at ey;cases ey;rw [e1] at eo';rw [c];exact ho _ eo'
     ·refine own j' y o' (by omega) ey ?_;rw [← e2 y (fun z=>?_)]
      ·exact eo'
      ·have hm:y∈ns.take i:=List.mem_iff_getElem?.mpr ⟨j',by rw [List.getElem?_take,if_pos (by omega)];exact ey⟩;exact kx (z ▸ hm)
    ·exact (Sb.look fun o' e=>by rw [zA5 (Ne.symm nod)];exact e).mono (by push_cast;omega)
    ·have hTb:=qtab S6 hT6 gb;exact hTb.but (gb _ _ xo nod) (fun _ z=>nomatch z) (fun _ z=>nomatch z) fun b o' e nb=>by rw [zA5 nb];exact e
    ·rw [zA5 (fun z=>by rw [z,hodH] at e;cases e)];exact gb _ _ (FH6 b o' e n) (hqH e)
    ·rw [zA5 nodl];exact gb _ _ xn nln
  ·rintro σ H6 ⟨x4',ow,rfl,xo,own,S6,hT6,FH6,xn⟩;rw [Zd] at xo;clear x4 x5 x45 hT1 hT2 hT3 hT4 hT5 FH1 FH3 FH4 FH5 S1 S3 S4 S5;obtain ⟨rws,erw⟩:∃ rws:List Row,rws=ns.map fun n=>⟨n,[],ow n⟩:=⟨_,rfl⟩;have rwl:rws.length=ns.length:=by rw [erw,Z0]
   have rwn:rws.map (·.name)=ns:=by
    rw [erw,Zv];exact List.map_id _
   have rwg:∀ {i:Nat}{r:Row},rws[i]? = some r→∃ n,ns[i]? = some n∧r=⟨n,[],ow n⟩:=fun {i r} e=>by
    rw [erw,Z8] at e;obtain ⟨n,en,e⟩:=Option.map_eq_some_iff.mp e;exact ⟨n,en,e.symm⟩
   have rok:RowsOk rws:=by
    refine ⟨by omega,by omega,by rw [rwn];exact nsnd,fun r hr=>?_,fun i r o e eo=>?_⟩
    ·obtain ⟨i,hi,ei⟩:=Zo hr;obtain ⟨n,en,rfl⟩:=rwg (i:=i) (by rw [Z1 hi,ei]);exact ⟨nsok n (Z4 en),show FieldsOk [] from ⟨by decide,Y5,(fun f h=>nomatch h),by decide⟩⟩
    ·obtain ⟨n,en,rfl⟩:=rwg e;have il:=(List.getElem?_eq_some_iff.mp en).1;obtain ⟨j,hj,ej⟩:=own i n o il en eo;exact ⟨j,⟨o,[],ow o⟩,hj,by rw [erw,Z8,ej];rfl,rfl⟩
   have ownn:∀ n∈ns,∀ o,ow n=some o→nameOk o∧o≠n:=fun n hn o eo=>by
    obtain ⟨i,hi,ei⟩:=Zo hn;obtain ⟨j,hj,ej⟩:=own i n o hi (by rw [Z1 hi,ei]) eo;have jl:=(List.getElem?_eq_some_iff.mp ej);refine ⟨nsok o (Z4 ej),fun z=>?_⟩;exact List.pairwise_iff_getElem.mp nsnd j i jl.1 hi hj (by rw [jl.2,ei,z])
   have ownI:∀ n∈ns,∀ o,ow n=some o→o∈ns:=fun n hn o eo=>by
    obtain ⟨i,hi,ei⟩:=Zo hn;obtain ⟨j,hj,ej⟩:=own i n o hi (by rw [Z1 hi,ei]) eo;exact Z4 ej
   refine ⟨_,rfl,od,_,rfl,.inl xo,fun vw hvw=>⟨vw,od,_,rfl,zA1,.inl ((Same.new hvw) _ _ xo),fun o=>?_⟩⟩;have g0:∀ b o',H6 b=some o'→b≠od→(upd (upd H6 vw (ViewI vw od)) od (.frz o (.dK (oOf ns ow)))) b=some o':=fun b o' e nb=>by rw [zA5 nb];exact (Same.new hvw) _ _ e
   have f0:(upd (upd H6 vw (ViewI vw od)) od (.frz o (.dK (oOf ns ow)))) od=some (.frz o (.dK (oOf ns ow))):=zA1;have fr0:∀ b,(upd (upd H6 vw (ViewI vw od)) od (.frz o (.dK (oOf ns ow)))) b=none→H6 b=none:=fun b hb=>by
    cases z:H6 b with
    | none=>rfl
    | some o' =>
     by_cases c:b=od
     ·rw [c,f0] at hb;cases hb
     ·rw [g0 b o' z c] at hb;cases hb
   generalize upd (upd H6 vw (ViewI vw od)) od (.frz o (.dK (oOf ns ow)))=F0 at g0 f0 fr0 ⊢;have ol:(oOf ns ow).length=ns.length:=by unfold oOf;rw [Z0]
   refine zCv (fun i ys H'=>Same F0 H'∧∃ zs:List (Addr×Row),ys=zs.map (fun z=>V.ref z.1)∧zs.map (·.2)=rws.take i∧∀ z∈zs,KindO C H' z.1 z.2)
    ⟨Same.refl _,[],rfl,rfl,fun z hz=>nomatch hz⟩ (fun i ys H' p=>p.1 _ _ f0) (fun i ys H' hi p=>?_) ?_ ?_
   ·obtain ⟨_,zs,rfl,e,_⟩:=p;have:=congrArg List.length e;rw [Z0,Zc] at this;rw [Z0];exact small _ (by omega)
   ·rintro i q' x ys H7 p hq' ⟨s7,zs,rfl,ezs,hzs⟩ hpn N hN;unfold oOf at hq';rw [Z8] at hq';obtain ⟨n,en,eq⟩:=Option.map_eq_some_iff.mp hq';cases eq;have mn:=Z4 en;have nn:=nsok n mn;refine pickT (SqT.of zA1) ?_;have s8:Same H7 (upd H7 p (.tup [kV (Sum.inr n),ownV (ow n)])):=Same.new hpn;generalize upd H7 p (.tup [kV (Sum.inr n),ownV (ow n)])=H8 at s8 ⊢;refine ⟨_,rfl,Zn _,fun lf hlf=>?_⟩;have s9:Same H8 (upd H8 lf (.lst [])):=Same.new hlf;have x9:(upd H8 lf (.lst [])) lf=some (.lst []):=zA1;generalize upd H8 lf (.lst [])=H9 at s9 x9 ⊢;refine ⟨_,rfl,fun px dx hpx hdx nex=>?_⟩;have s10:Same H9 (upd (upd H9 dx (.own px)) px (.ins C dx [])):=zAv hpx hdx nex;have x10:(upd (upd H9 dx (.own px)) px (.ins C dx [])) px=some (.ins C dx []):=zA1;generalize upd (upd H9 dx (.own px)) px (.ins C dx [])=H10 at s10 x10 ⊢;obtain ⟨od',hod',eod⟩:∃ d,Has Any H10 (ownV (ow n)) d∧ownerD n d=true:=by
     cases eo:ow n with
     | none=>exact ⟨.none,.non,rfl⟩
     | some o' =>
      obtain ⟨h1,h2⟩:=ownn n mn o' eo;refine ⟨.str o',.str _ (Zp h1.2.2 (by decide)) h1.2.1,?_⟩;show (nameB o' && !decide (o'=n))=true;rw [h1.1,decide_eq_false h2];rfl
    refine ⟨px,dx,.ref lf,ownV (ow n),n,[],od',rfl,x10,Zp nn.2.2 (by decide),nn.2.1,nn.1,.lst trivial (s10 _ _ x9) (by decide) .nil,by decide,hod',eod,by decide,fun H11 l e11 _ fr11=>⟨rfl,hN _ _ ⟨?_,zs++[(px,⟨n,[],ow n⟩)],by rw [Z6];rfl,?_,fun z hz=>?_⟩⟩⟩
    ·exact s7.trans (s8.trans (s9.trans fun b o' e=>fr11 b o' (s10 _ _ e) (zA3 e hpx)))
    ·rw [Z6,ezs,Za,erw,Z8,en];rfl
    ·have s711:Same H7 H11:=s8.trans (s9.trans fun b o' e=>fr11 b o' (s10 _ _ e) (zA3 e hpx));rcases List.mem_append.mp hz with hz | hz
     ·exact (hzs z hz).mono fun b o' e _=>s711 _ _ e
     ·rw [List.mem_singleton.mp hz];exact ⟨dx,l,e11⟩
   ·rintro ys H7 ⟨s7,zs,rfl,ezs,hzs⟩ c hc;rw [ol,← rwl,Zd] at ezs;have s8:Same H7 (upd H7 c (.lst (zs.map fun z=>V.ref z.1))):=Same.new hc;have x8:(upd H7 c (.lst (zs.map fun z=>V.ref z.1))) c=some (.lst (zs.map fun z=>V.ref z.1)):=zA1;generalize upd H7 c (.lst (zs.map fun z=>V.ref z.1))=H8 at s8 x8 ⊢;refine fun kq dk hkq hdk nek=>?_;have s9:Same H8 (upd (upd H8 dk (.own kq)) kq (.ins CK dk [])):=zAv hkq hdk nek;have x9:(upd (upd H8 dk (.own kq)) kq (.ins CK dk [])) kq=some (.ins CK dk []):=zA1;generalize upd (upd H8 dk (.own kq)) kq (.ins CK dk [])=H9 at s9 x9 ⊢;have s09:=s7.trans (s8.trans s9);have g9:∀ b o',H6 b=some o'→b≠od→H9 b=some o':=fun b o' e nb=>s09 _ _ (g0 b o' e nb);have hT9:TabOk H9 Pt lamPos lamQ:=hT6.but xo (fun _ z=>nomatch z) (fun _ z=>nomatch z) g9;have zl:zs.length=ns.length:=by
     have:=congrArg List.length ezs;rw [Z0] at this;omega
    have zz9:Zs C H9 zs:=⟨fun z hz=>(hzs z hz).mono fun b o' e _=>s9 _ _ (s8 _ _ e),by
     have:(zs.map fun z=>z.2.name)=ns:=by rw [← rwn,← ezs,Zv];rfl
     rw [this];exact nsnd,by omega⟩
    refine ⟨kq,dk,c,zs,rfl,x9,s9 _ _ x8,zz9,⟨rws,rok,by rw [ezs]⟩,hT9,fun d ord kvs H10 e10 hd10 x10 pl gr lno hT10 fr10=>⟨rfl,?_⟩⟩;rw [ezs] at gr;have ordp:ord.Perm ns:=by
     have:=ord_perm gr (by omega) (by rw [rwn];exact nsnd)
     rwa [rwn] at this
    have g10:∀ b o',H6 b=some o'→b≠od→b≠Pt→H10 b=some o':=fun b o' e nb np=>by
     refine fr10 b o' (g9 b o' e nb) (fun z=>?_) np;have:F0 b=some o':=g0 b o' e nb;have:=s8 _ _ (s7 _ _ this);rw [z,hkq] at this;cases this
    have kw10:KOwn CK C H10 kq d kvs ord ow:=by
     refine ⟨⟨⟨⟨dk,e10⟩,.inl x10⟩,zDb pl,by rw [lno];omega⟩,gr.nodup,fun k hk=>nsok k (ordp.mem_iff.mp hk),fun k hk=>?_⟩;obtain ⟨z,hz,hv,en⟩:=pl.get k hk;obtain ⟨dx,lf,ez⟩:=zz9.at_ z hz;have mz:z.2∈rws:=by rw [← ezs];exact List.mem_map.mpr ⟨z,hz,rfl⟩
     obtain ⟨i,hi,ei⟩:=Zo mz;obtain ⟨n,_,e2⟩:=rwg (i:=i) (by rw [Z1 hi,ei]);have en':n=k:=by rw [e2] at en;exact en
     rw [e2,en'] at ez;refine ⟨z.1,dx,lf,hv,fr10 _ _ ez (fun z'=>?_) (hT9.ne ez fun _ z=>nomatch z)⟩;rw [z',x9] at ez;cases ez
    have S10:Src H10 q (1 + (ns.length:Int)):=S6.look fun o' e=>g10 _ _ e (Ne.symm nod) (by
     obtain ⟨_,_,_,e',_⟩:=S6
     exact hT6.ne e' fun _ z=>nomatch z)
    have FH10:∀ b o',H b=some o'→b≠Pt→H10 b=some o':=fun b o' e n=>g10 b o' (FH6 b o' e n) (fun z=>by rw [z,hodH] at e;cases e) n;have xn10:H10 ln=some (.lst (ns.map V.str)):=g10 _ _ xn nodl (hT6.ne xn fun _ z=>nomatch z);have xo10:H10 od=some (.frz o (.dK (oOf ns ow))):=by
     refine fr10 _ _ (s09 _ _ f0) (fun z=>?_) (hT9.ne (s09 _ _ f0) fun _ z=>nomatch z);have:=s8 _ _ (s7 _ _ f0);rw [z,hkq] at this;cases this
    clear g10 g9 s09 s9 s8 s7 x8 x9 hzs zz9 pl gr lno hT6 hT9 fr10 e10 hd10 x10 xo xn S6 FH6 own rwg rok erw rwl rwn ezs zl hkq hdk hc g0 f0 fr0 hvw;dsimp only [gName,List.set];refine ⟨Zn _,fun lr hlr=>?_⟩;have nlr:lr≠q:=S10.nw hlr;have ss:Same H10 (upd H10 lr (.lst [])):=Same.new hlr;have xr:(upd H10 lr (.lst [])) lr=some (.lst []):=zA1;have nlr2:ln≠lr:=zA3 xn10 hlr;have nlr3:od≠lr:=zA3 xo10 hlr;have hlrH:H lr=none:=by
     cases z:H lr with
     | none=>rfl
     | some o' =>
      by_cases c:lr=Pt
      ·exfalso;rcases hT10 with e | ⟨_,e,_⟩ <;> rw [← c,hlr] at e <;> cases e
      ·rw [FH10 lr o' z c] at hlr;cases hlr
    have kw11:=kw10.mono ss;have S11:=S10.up ss;have FH11:∀ b o',H b=some o'→b≠Pt→(upd H10 lr (.lst [])) b=some o':=fun b o' e n=>ss _ _ (FH10 b o' e n);have xn11:=ss _ _ xn10;have xo11:=ss _ _ xo10;generalize upd H10 lr (.lst [])=H11 at ss xr kw11 S11 FH11 xn11 xo11 ⊢;clear hT10 kw10 S10 FH10 xn10 xo10 hlr ss;dsimp only [gName,List.set];refine ⟨_,rfl,_,rfl,_,rfl,q,_,_,rfl,S11,by omega,by decide,by decide,fun r H12 _ _ S12 k12=>⟨_,_,rfl,rfl,_,rfl,?_⟩⟩;have g12:∀ b o',H11 b=some o'→b≠q→H12 b=some o':=fun b o' e nb=>by rw [k12 b nb];exact e
    have FH12:∀ b o',H b=some o'→b≠Pt→H12 b=some o':=fun b o' e n=>g12 _ _ (FH11 b o' e n) (hqH e);have q11:∃ xs,H11 q=some (.lst xs):=by obtain ⟨_,_,_,e,_⟩:=S11;exact ⟨_,e⟩
    obtain ⟨xs11,e11⟩:=q11;have kw12:KOwn CK C H12 kq d kvs ord ow:=kw11.keep fun b o' e hs=>g12 _ _ e (fun z=>by rw [z,e11] at e;cases e;rcases hs with ⟨_,_,_,h⟩ | ⟨_,h⟩ | ⟨_,_,h⟩ <;> cases h);have xo12:H12 od=some (.frz o (.dK (oOf ns ow))):=g12 _ _ xo11 nod;have xn12:=g12 _ _ xn11 nln;have xr12:=g12 _ _ xr nlr;refine ⟨a,_,rfl,hSk FH12,fun lc hlc=>?_⟩;obtain ⟨ms,ems,hms⟩:=cut_ints nums (some 1) (some (1 + r));rw [ems];have s13:Same H12 (upd H12 lc (.lst (ms.map V.int))):=Same.new hlc;have x13:(upd H12 lc (.lst (ms.map V.int))) lc=some (.lst (ms.map V.int)):=zA1;have nlc:lc≠lr:=Ne.symm (zA3 xr12 hlc);have bs13:Bs CK C H Pt q ln od kq d lc (1 + (ns.length:Int) + 1) ns ow o kvs ord ms (upd H12 lc (.lst (ms.map V.int))):=⟨S12.up s13,kw12.mono s13,s13 _ _ xn12,s13 _ _ xo12,fun b o' e n=>s13 _ _ (FH12 b o' e n),x13⟩;have xr13:=s13 _ _ xr12;generalize upd H12 lc (.lst (ms.map V.int))=H13 at s13 x13 bs13 xr13 ⊢;clear s13 x13 xr12 xn12 xo12 kw12 e11 FH12 g12 k12 S12 xr kw11 S11 FH11 xn11 xo11 hlc
    refine ⟨lc,rfl,⟨_,SqL.of bs13.xc⟩,zBh (K:=K) (a:=lc) (xs:=ms.map V.int) (fun i σ H'=>∃ (x7 x8 x9 x10 x11:Option V) (rv:List V) (rs:List Ru),σ = [some (.ref a),some (.ref q),some (.ref ln),some (.ref od),x4',some (.ref kq),some (.ref lr),x7,x8,x9,x10,x11,none,none,none,none,none,none,none]∧H' lr=some (.lst rv)∧Paired (LRn lr H') rv rs∧(∀ x∈rs,ROk ns x)∧rs.length=i∧Bs CK C H Pt q ln od kq d lc (1 + (ns.length:Int) + 1) ns ow o kvs ord ms H')
     ⟨_,_,_,_,_,[],[],rfl,xr13,.nil,(fun x hx=>nomatch hx),rfl,bs13⟩ (fun i σ H' _ hz=>by obtain ⟨_,_,_,_,_,_,_,_,_,_,_,_,q'⟩:=hz;exact SqL.of q'.xc) ?_ ?_⟩
    ·rintro i y σ H14 hi ⟨x7,x8,x9,x10,x11,rv,rs,rfl,xr,hrs,rok,rlen,bs⟩;have il:=(List.getElem?_eq_some_iff.mp hi).1;rw [Z0] at il;obtain ⟨z,rfl⟩:∃ z,y=V.int z:=by
      rw [Z8] at hi;cases e:ms[i]? with
      | none=>rw [e] at hi;cases hi
      | some z=>rw [e] at hi;exact ⟨z,(Zg hi).symm⟩
     dsimp only [gName,List.set];refine ⟨_,rfl,z,rfl,fun q2 H15 hq2 S15 s15 k15=>?_⟩;have nq2:∀ {b:Addr}{o':HO},H14 b=some o'→b≠q2:=fun e=>zA3 e hq2;dsimp only [gName,List.set];refine ⟨_,rfl,_,rfl,_,rfl,ln,_,rfl,.inl (SqL.of (s15 _ _ bs.xn)),q2,_,_,rfl,S15,by decide,by rw [Z0];omega,by rw [Z0];omega,fun r1 H16 b0 b1 S16 k16=>?_⟩;rw [Z0] at b1;have s16:Same H14 H16:=fun b o' e=>by rw [k16 b (nq2 e)];exact s15 _ _ e
     obtain ⟨j1,rfl⟩:∃ j:Nat,r1=(j:Int):=⟨r1.toNat,by omega⟩;obtain ⟨kd,ekd⟩:∃ x,ns[j1]? = some x:=⟨_,Z1 (by omega)⟩;have mkd:=Z4 ekd;refine ⟨ln,_,(j1:Int),_,rfl,rfl,SqL.of (s16 _ _ bs.xn),zCx (by rw [Z8,ekd];rfl),?_⟩;dsimp only [gName,List.set];refine ⟨_,rfl,ln,rfl,⟨_,SqL.of (s16 _ _ bs.xn)⟩,zAd (xs:=ns.map V.str) (fun i ys H'=>H16=H'∧ys=((ns.take i).filter fun x=>!decide (x=kd)).map V.str) ⟨rfl,rfl⟩ (fun i ys H' p=>by rw [← p.1];exact SqL.of (s16 _ _ bs.xn)) (fun i ys H' hi p=>?_) ?_ ?_⟩
     ·rw [p.2,Z0];have h1:=Zl (fun x=>!decide (x=kd)) (ns.take i);rw [Zc] at h1;exact small _ (by omega)
     ·rintro t v ys H' ht ⟨rfl,rfl⟩ N hN;rw [Z8] at ht;obtain ⟨x,ex,rfl⟩:=Option.map_eq_some_iff.mp ht;refine ⟨_,rfl,_,rfl,rfl,_,rfl,?_⟩;have sn:=zAz (fun x=>!decide (x=kd)) ex;by_cases cx:x=kd
      ·rw [show (!decide (V.str x=V.str kd))=false by rw [cx];simp];refine iteF (hN _ _ ⟨rfl,?_⟩);rw [sn,if_neg (by simp [cx])]
      ·rw [show (!decide (V.str x=V.str kd))=true by rw [decide_eq_false (fun z=>cx (V.str.inj z))];rfl];refine iteT ⟨_,rfl,hN _ _ ⟨rfl,?_⟩⟩;rw [sn,if_pos (by simp [cx]),Z6];rfl
     ·rintro ys H' ⟨rfl,rfl⟩ lo hlo;rw [Z0,Zd];obtain ⟨os,eos⟩:∃ os,os=ns.filter fun x=>!decide (x=kd):=⟨_,rfl⟩;rw [← eos];have osm:∀ x∈os,x∈ns∧x≠kd:=fun x hx=>by
       rw [eos] at hx;have:=List.mem_filter.mp hx;exact ⟨this.1,by simpa using this.2⟩
      have osn:os.Nodup:=by rw [eos];exact (List.filter_sublist).nodup nsnd
      have osl:os.length≤5:=by
       have:=Zl (fun x=>!decide (x=kd)) ns;rw [← eos] at this;omega
      clear eos;have s17:Same H16 (upd H16 lo (.lst (os.map V.str))):=Same.new hlo;have x17:(upd H16 lo (.lst (os.map V.str))) lo=some (.lst (os.map V.str)):=zA1;have nlo:lo≠q2:=S16.nw hlo;generalize upd H16 lo (.lst (os.map V.str))=H17 at s17 x17 ⊢;dsimp only [gName,List.set];refine ⟨_,rfl,_,rfl,lo,_,rfl,.inl (SqL.of x17),_,_,rfl,rfl,q2,_,_,rfl,S16.up s17,by decide,by rw [Z0];omega,by rw [Z0];omega,fun r2 H18 c0 c1 S18 k18=>?_⟩;rw [Z0] at c1;have s18:Same H14 H18:=fun b o' e=>by rw [k18 b (nq2 e)];exact s17 _ _ (s16 _ _ e)
      have x18:H18 lo=some (.lst (os.map V.str)):=by rw [k18 _ nlo];exact x17
      obtain ⟨j2,rfl⟩:∃ j:Nat,r2=(j:Int):=⟨r2.toNat,by omega⟩;dsimp only [gName,List.set];refine ⟨_,rfl,.inl ⟨rfl,_,SqL.of (s18 _ _ xr)⟩,_,rfl,_,rfl,_,rfl,_,rfl,lo,_,rfl,SqL.of x18,fun l1 hl1=>?_⟩;rw [zCl (by rw [Z0];omega),← List.map_drop];have s19:Same H18 (upd H18 l1 (.lst ((os.drop j2).map V.str))):=Same.new hl1;have x19:(upd H18 l1 (.lst ((os.drop j2).map V.str))) l1=some (.lst ((os.drop j2).map V.str)):=zA1;have nl1:l1≠q2:=S18.nw hl1;generalize upd H18 l1 (.lst ((os.drop j2).map V.str))=H19 at s19 x19 ⊢;refine ⟨_,rfl,q2,_,_,rfl,S18.up s19,by decide,by decide,by decide,fun r3 H20 d0 d1 S20 k20=>⟨_,rfl,?_⟩⟩;have s20:Same H14 H20:=fun b o' e=>by rw [k20 b (nq2 e)];exact s19 _ _ (s18 _ _ e)
      have x20:H20 l1=some (.lst ((os.drop j2).map V.str)):=by rw [k20 _ nl1];exact x19
      obtain ⟨j3,rfl⟩:∃ j:Nat,r3=(j:Int):=⟨r3.toNat,by omega⟩;refine ⟨l1,_,rfl,SqL.of x20,fun l2 hl2=>?_⟩;rw [cut_takeA,← Yk];obtain ⟨bh,ebh⟩:∃ bh,bh=(os.drop j2).take j3:=⟨_,rfl⟩;rw [← ebh];have bsub:bh.Sublist os:=by rw [ebh];exact (List.take_sublist _ _).trans (List.drop_sublist _ _)
      clear ebh;have rk:ROk ns (kd,bh):=⟨mkd,fun y hy=>(osm y (bsub.subset hy)).1,bsub.nodup osn,fun h=>(osm kd (bsub.subset h)).2 rfl,Zp bsub.length_le osl⟩;have s21:Same H20 (upd H20 l2 (.lst (bh.map V.str))):=Same.new hl2;have x21:(upd H20 l2 (.lst (bh.map V.str))) l2=some (.lst (bh.map V.str)):=zA1;generalize upd H20 l2 (.lst (bh.map V.str))=H21 at s21 x21 ⊢;refine ⟨small 2 (by decide),fun t ht=>?_⟩;have s22:Same H21 (upd H21 t (.tup [.str kd,.ref l2])):=Same.new ht;have x22:(upd H21 t (.tup [.str kd,.ref l2])) t=some (.tup [.str kd,.ref l2]):=zA1;generalize upd H21 t (.tup [.str kd,.ref l2])=H22 at s22 x22 ⊢;have s1422:=s20.trans (s21.trans s22);have rvl:rv.length=i:=by rw [Paired.length hrs];exact rlen
      refine ⟨lr,rv,_,rfl,rfl,s1422 _ _ xr,Z9 (show rv.length < 1000 by omega) (small 1000 (by decide)),?_⟩;have nl2:l2≠lr:=fun z=>by rw [z,s20 _ _ xr] at hl2;cases hl2
      have o23:∀ b,b≠lr→(upd H22 lr (.lst (rv++[.ref t]))) b=H22 b:=fun b hb=>zA5 hb;have keepU:∀ b o',H22 b=some o'→b≠lr→(upd H22 lr (.lst (rv++[.ref t]))) b=some o':=fun b o' e nb=>by rw [o23 b nb];exact e
      have bs22:=bs.same s1422;refine ⟨_,_,_,_,_,rv++[.ref t],rs++[(kd,bh)],rfl,zA1,?_,fun x hx=>?_,by rw [Zk,rlen];rfl,bs22.but (s1422 _ _ xr) hlrH (Ne.symm nlr) nlr2 nlc keepU⟩
      ·refine zBb (zAb hrs fun v x hx=>?_) (.cons ⟨t,l2,rfl,keepU _ _ x22 (fun z=>?_),keepU _ _ (s22 _ _ x21) nl2,nl2⟩ .nil)
       ·obtain ⟨t',l',e,h1,h2,h3⟩:=hx;refine ⟨t',l',e,keepU _ _ (s1422 _ _ h1) (fun z=>?_),keepU _ _ (s1422 _ _ h2) h3,h3⟩;rw [z,xr] at h1;cases h1
       ·rw [z,s21 _ _ (s20 _ _ xr)] at ht;cases ht
      ·rcases List.mem_append.mp hx with hx | hx
       ·exact rok x hx
       ·rw [List.mem_singleton.mp hx];exact rk
    ·rintro σ H14 ⟨x7,x8,x9,x10,x11,rv,rs,rfl,xr,hrs',rok,rlen,bs⟩;have hrs:Paired (LRu H14) rv rs:=zAb hrs' fun v x ⟨t,l,e,h1,h2,_⟩=>⟨t,l,e,h1,h2⟩;rw [Z0] at rlen;have rl63:rs.length≤63:=by omega
     have rvl:=Paired.length hrs;have ruok:∀ x∈rs,RuOk x:=fun x hx=>⟨nsok _ (rok x hx).a,fun y hy=>nsok y ((rok x hx).b y hy),(rok x hx).c,(rok x hx).d,by have:=(rok x hx).e;omega⟩;dsimp only [gName,List.set,hide];refine ⟨_,rfl,lr,rfl,⟨_,SqL.of xr⟩,zAd (xs:=rv) (fun i ys H'=>Same H14 H'∧Paired (RuAt CR CT CA H') ys (rs.take i)) ⟨Same.refl _,.nil⟩ (fun i ys H' p=>SqL.of (p.1 _ _ xr)) (fun i ys H' hi p=>?_) ?_ ?_⟩
     ·rw [Paired.length p.2,Zc];exact small _ (by omega)
     ·rintro i v ys H15 hi ⟨s15,hys⟩ N hN;obtain ⟨x,ex,t,l,rfl,h1,h2⟩:=zAi hrs hi;refine pickT (SqT.of (s15 _ _ h1)) ?_;refine ⟨_,rfl,fun t2 dt ht2 hdt net=>?_⟩;have s16:Same H15 (upd (upd H15 dt (.own t2)) t2 (.ins CT dt [])):=zAv ht2 hdt net;have x16:(upd (upd H15 dt (.own t2)) t2 (.ins CT dt [])) t2=some (.ins CT dt []):=zA1;generalize upd (upd H15 dt (.own t2)) t2 (.ins CT dt [])=H16 at s16 x16 ⊢;refine fun a2 da ha2 hda nea=>?_;have s17:Same H16 (upd (upd H16 da (.own a2)) a2 (.ins CA da [])):=zAv ha2 hda nea;have x17:(upd (upd H16 da (.own a2)) a2 (.ins CA da [])) a2=some (.ins CA da []):=zA1;generalize upd (upd H16 da (.own a2)) a2 (.ins CA da [])=H17 at s17 x17 ⊢;refine ⟨_,rfl,l,_,rfl,.inl (SqL.of (s17 _ _ (s16 _ _ (s15 _ _ h2)))),fun lb hlb=>?_⟩;have s18:Same H17 (upd H17 lb (.lst (x.2.map V.str))):=Same.new hlb;have x18:(upd H17 lb (.lst (x.2.map V.str))) lb=some (.lst (x.2.map V.str)):=zA1;generalize upd H17 lb (.lst (x.2.map V.str))=H18 at s18 x18 ⊢;refine fun p dp hp hdp nep=>?_;have s19:Same H18 (upd (upd H18 dp (.own p)) p (.ins CR dp [])):=zAv hp hdp nep;have x19:(upd (upd H18 dp (.own p)) p (.ins CR dp [])) p=some (.ins CR dp []):=zA1;have t18:=s18 _ _ (s17 _ _ x16);have a18:=s18 _ _ x17;generalize upd (upd H18 dp (.own p)) p (.ins CR dp [])=H19 at s19 x19 ⊢;refine ⟨p,dp,t2,dt,a2,da,lb,x,rfl,x19,s19 _ _ t18,s19 _ _ a18,s19 _ _ x18,ruok x (Z4 ex),Ne.symm (zA3 t18 hp),Ne.symm (zA3 a18 hp),Ne.symm (zA3 x18 hp),fun H20 ru20 k20=>⟨rfl,hN _ _ ?_⟩⟩;have s1520:Same H15 H20:=s16.trans (s17.trans (s18.trans fun b o' e=>k20 b o' (s19 _ _ e) (zA3 e hp)));refine ⟨s15.trans s1520,?_⟩;rw [Za,ex];exact zBb (zAb hys fun _ _ r=>r.mono s1520) (.cons ru20 .nil)
     ·rintro mv H15 ⟨s15,hmv⟩ lm hlm;rw [rvl,Zd] at hmv;have s16:Same H15 (upd H15 lm (.lst mv)):=Same.new hlm;have x16:(upd H15 lm (.lst mv)) lm=some (.lst mv):=zA1;generalize upd H15 lm (.lst mv)=H16 at s16 x16 ⊢;have s1416:=s15.trans s16;have hm16:=zAb hmv fun _ _ r=>r.mono s16;have bs16:=bs.same s1416;have hr16:=zAb hrs fun _ _ r=>r.mono fun b o' e _=>s1416 _ _ e;have xr16:=s1416 _ _ xr;have mvl:=Paired.length hmv;have nlm:lm≠q:=(bs.same s15).S.nw hlm;clear bs hrs xr hmv s15 s16 hrs' bs13 xr13 s1416;dsimp only [gName,List.set,Ends.hid,hide];refine ⟨_,rfl,_,rfl,lm,_,rfl,.inl (SqL.of x16),_,_,rfl,rfl,q,_,_,rfl,bs16.S,by omega,by omega,by omega,fun r17 H17 c0 c1 S17 k17=>?_⟩;have g17:∀ b o',H16 b=some o'→b≠q→H17 b=some o':=fun b o' e nb=>by rw [k17 b nb];exact e
      obtain ⟨j,rfl⟩:∃ j:Nat,r17=(j:Int):=⟨r17.toNat,by omega⟩;have S16:=bs16.S
      have kw17:KOwn CK C H17 kq d kvs ord ow:=bs16.kw.keep fun b o' e hs=>g17 _ _ e (fun z=>by
       obtain ⟨_,_,_,e',_⟩:=S16
       rw [z,e'] at e;cases e;rcases hs with ⟨_,_,_,h⟩ | ⟨_,h⟩ | ⟨_,_,h⟩ <;> cases h)
      have xn17:=g17 _ _ bs16.xn nln;have xo17:=g17 _ _ bs16.xo nod;have xr17:=g17 _ _ xr16 nlr;have xm17:=g17 _ _ x16 nlm;have hr17:=zAb hr16 fun _ _ r=>r.butQ S16 g17;have hm17:=zAb hm16 fun _ _ r=>r.butQ S16 g17;clear bs16 hr16 hm16 x16 xr16 g17 k17 S16 S17;dsimp only [gName,List.set];refine ⟨_,rfl,_,rfl,_,rfl,lm,_,rfl,SqL.of xm17,fun l1 hl1=>?_⟩;rw [zDn (by omega)];have s18:Same H17 (upd H17 l1 (.lst (mv.take j))):=Same.new hl1;have x18:(upd H17 l1 (.lst (mv.take j))) l1=some (.lst (mv.take j)):=zA1;generalize upd H17 l1 (.lst (mv.take j))=H18 at s18 x18 ⊢;refine fun h1 d1 hh1 hd1 ne1=>?_;have s19:Same H18 (upd (upd H18 d1 (.own h1)) h1 (.ins CH d1 [])):=zAv hh1 hd1 ne1;have x19:(upd (upd H18 d1 (.own h1)) h1 (.ins CH d1 [])) h1=some (.ins CH d1 []):=zA1;generalize upd (upd H18 d1 (.own h1)) h1 (.ins CH d1 [])=H19 at s19 x19 ⊢;refine ⟨h1,d1,l1, "one",mv.take j,rs.take j,rfl,x19,one_ok,s19 _ _ x18,zCz j (zAb hm17 fun _ _ r=>(r.mono s18).mono s19),by rw [Zc];omega,fun H20 ha20 k20=>⟨rfl,?_⟩⟩;have s1720:Same H17 H20:=s18.trans fun b o' e=>k20 b o' (s19 _ _ e) (zA3 e hh1);refine ⟨_,rfl,_,rfl,_,rfl,lm,_,rfl,SqL.of (s1720 _ _ xm17),fun l2 hl2=>?_⟩;rw [zCl (by omega)];have s21:Same H20 (upd H20 l2 (.lst (mv.drop j))):=Same.new hl2;have x21:(upd H20 l2 (.lst (mv.drop j))) l2=some (.lst (mv.drop j)):=zA1;generalize upd H20 l2 (.lst (mv.drop j))=H21 at s21 x21 ⊢;refine fun h2 d2' hh2 hd2 ne2=>?_;have s22:Same H21 (upd (upd H21 d2' (.own h2)) h2 (.ins CH d2' [])):=zAv hh2 hd2 ne2;have x22:(upd (upd H21 d2' (.own h2)) h2 (.ins CH d2' [])) h2=some (.ins CH d2' []):=zA1;generalize upd (upd H21 d2' (.own h2)) h2 (.ins CH d2' [])=H22 at s22 x22 ⊢;refine ⟨h2,d2',l2, "two",mv.drop j,rs.drop j,rfl,x22,two_ok,s22 _ _ x21,zD0 j (zAb hm17 fun _ _ r=>((r.mono s1720).mono s21).mono s22),by rw [Zw];omega,fun H23 ha23 k23=>⟨rfl,?_⟩⟩;have s2023:Same H20 H23:=s21.trans fun b o' e=>k23 b o' (s22 _ _ e) (zA3 e hh2);refine ⟨small 2 (by decide),fun lh hlh=>?_⟩;have s24:Same H23 (upd H23 lh (.lst [.ref h1,.ref h2])):=Same.new hlh;have x24:(upd H23 lh (.lst [.ref h1,.ref h2])) lh=some (.lst [.ref h1,.ref h2]):=zA1;generalize upd H23 lh (.lst [.ref h1,.ref h2])=H24 at s24 x24 ⊢;have s1724:=s1720.trans (s2023.trans s24);have hh24:Paired (HaAt CR CH CT CA H24) [.ref h1,.ref h2] [("one",rs.take j),("two",rs.drop j)]:=.cons ((ha20.mono s2023).mono s24) (.cons (ha23.mono s24) .nil);have kw24:=kw17.mono s1724;have xn24:=s1724 _ _ xn17;have xo24:=s1724 _ _ xo17;have xr24:=s1724 _ _ xr17;have hr24:=zAb hr17 fun _ _ r=>r.mono fun b o' e _=>s1724 _ _ e;clear s1724 s24 s2023 x21 x22 s21 s22 ha20 ha23 k20 k23 x19 x18 s18 s19 s1720 hm17 hr17 xm17 xr17 xo17 xn17 kw17;dsimp only [gName,List.set];have wcl:∀ k∈ns,(∀ o∈wt ow rs k,o∈ns)∧(wt ow rs k).length≤10000:=fun k hk=>by
       refine ⟨fun o ho=>?_,?_⟩
       ·unfold wt at ho;rcases List.mem_append.mp ho with ho | ho
        ·exact ownI k hk o (Option.mem_toList.mp ho)
        ·obtain ⟨x,hx,hxo⟩:=List.mem_flatMap.mp ho;exact (rok x (List.mem_filter.mp hx).1).b o hxo
       ·have:=wt_len ow k rs fun x hx=>(ruok x hx).le;omega
      refine ⟨_,rfl,_,rfl,od,lr,ns,ow,rv,rs,rfl,.inr ⟨_,xo24⟩,nsnd,by omega,xr24,hr24,by omega,fun x hx=>⟨(rok x hx).a,(ruok x hx).le⟩,fun d2 ls H25 hd2 W25 els fr25 g25=>?_⟩;have nood:∀ {b:Addr}{o':HO},H24 b=some o'→(∀ x u,o'≠.frz x u)→b≠od:=fun {b o'} e hn z=>by rw [z,xo24] at e;exact hn _ _ (Zg e).symm
      have ordl:ord.length=ns.length:=ordp.length_eq;have ndo:d≠od:=fun z=>by
       obtain ⟨k0,hk0⟩:∃ k,k∈ord:=by
        cases eo:ord with
        | nil=>rw [eo] at ordl;simp at ordl;omega
        | cons k t=>exact ⟨k,Zj⟩
       obtain ⟨q0,_,_,hv0,_⟩:=kw24.ow k0 hk0;have rd:=kw24.ko.ka.2;rw [z] at rd;rcases rd with e | ⟨x,e⟩ <;> rw [xo24] at e <;> cases e
       obtain ⟨o',eo'⟩:=oOf_val hv0;cases o' <;> cases eo'
      have h24d2:H24 d2=none:=hd2;dsimp only [gName,List.set];refine ⟨_,rfl,d2,ls,ns,wt ow rs,rfl,W25,els,by omega,wcl,fun d3 l3 FF H26 hd3 W26 e3 far rd26 g26=>?_⟩;have f26:∀ b o',H24 b=some o'→(∀ x u,o'≠.frz x u)→H26 b=some o':=fun b o' e hn=>g26 _ _ (g25 _ _ e (nood e hn)) (zA3 e hd2);have kw26:KOwn CK C H26 kq d kvs ord ow:=kw24.keep2 f26 fun rd=>by
       rcases rd with e | ⟨x,e⟩
       ·exact .inl (g26 _ _ (g25 _ _ e ndo) (zA3 e hd2))
       ·exact .inr ⟨x,g26 _ _ (g25 _ _ e ndo) (zA3 e hd2)⟩
      have hh26:=zAb hh24 fun _ _ r=>r.keep f26;have x26:=f26 _ _ x24 fun _ _ z=>nomatch z;have xn26:=f26 _ _ xn24 fun _ _ z=>nomatch z;have WW:∀ {Hx:Hp},Same H26 Hx→∀ k∈ns,∃ al,Hx al=some (.lst ((wt ow rs k).map V.str))∧DGet Hx d2 (.str k) (some (.ref al)):=fun {Hx} sx k hk=>by
       obtain ⟨x,hx,ex⟩:=List.mem_map.mp (show k∈ls.map (·.1) by rw [els];exact hk);refine ⟨x.2,?_,.inl ⟨_,Sum.inr k,zE0 sx rd26,rfl,(zEg W25.nk (by rw [← ex];exact hx)).symm⟩⟩;rw [← ex];refine sx _ _ (g26 _ _ (W25.hl x hx) (fun z=>?_));have:=W25.hl x hx;rw [z,W25.hd] at this;cases this
      clear g26 rd26 g25 fr25 W25 kw24 hh24 x24 xn24 xo24 xr24 hr24;dsimp only [gName,List.set];have inO:∀ x∈rs,ordB ord x=true:=fun x hx=>List.all_eq_true.mpr fun y hy=>by
       refine decide_eq_true (ordp.mem_iff.mpr ?_);rcases List.mem_cons.mp hy with e | hy
       ·rw [e];exact (rok x hx).a
       ·exact (rok x hx).b y hy
      have good:([("one",rs.take j),("two",rs.drop j)]:List (Str×List Ru)).all (handB ord)=true:=by
       show (handB ord ("one",rs.take j) && (handB ord ("two",rs.drop j) && true))=true;rw [show handB ord ("one",rs.take j)=true from List.all_eq_true.mpr fun x hx=>inO x (Y1 hx),show handB ord ("two",rs.drop j)=true from List.all_eq_true.mpr fun x hx=>inO x (List.mem_of_mem_drop hx)];rfl
      have flat:([("one",rs.take j),("two",rs.drop j)]:List (Str×List Ru)).flatMap (·.2)=rs:=by
       show rs.take j++(rs.drop j++[])=rs;rw [List.append_nil,List.take_append_drop]
      refine ⟨_,rfl,_,rfl,kq,d,lh,kvs,ord,ow,_,_,rfl,kw26,x26,hh26,(show (["one", "two"]:List Str).Nodup by decide +kernel),(show 2≤10 by decide),fun h hm=>?_,fun _ noT H27 s27=>?_,fun _ lt Rg H27 hlt xlt s27 ring rin=>?_,fun bad=>absurd (good.symm.trans bad) (by decide)⟩
      ·simp only [Zy,Zz,or_false] at hm;rcases hm with rfl | rfl
       ·exact ⟨one_ok,by show (rs.take j).length≤100;rw [Zc];omega,fun x hx=>ruok x (Y1 hx)⟩
       ·exact ⟨two_ok,by show (rs.drop j).length≤100;rw [Zw];omega,fun x hx=>ruok x (List.mem_of_mem_drop hx)⟩
      ·rw [flat] at noT;have none0:(ns.filter fun n=>decide (n∈FF n))=[]:=List.filter_eq_nil_iff.mpr fun n hn e=>by
        have hF:n∈FF n:=of_decide_eq_true e;obtain ⟨Tc,c1,c2⟩:=rch_clo (fun k hk=>(wcl k hk).1) hn ((far n hn).1.so n hF);exact c2 (noT Tc fun k hk=>⟨ordp.mem_iff.mpr (c1 k hk).1,(c1 k hk).2⟩)
       dsimp only [gName,List.set];refine ⟨_,rfl,ln,rfl,⟨_,SqL.of (s27 _ _ xn26)⟩,zAd (xs:=ns.map V.str) (fun i ys H'=>H27=H'∧ys=((ns.take i).filter fun n=>decide (n∈FF n)).map V.str) ⟨rfl,rfl⟩ (fun i ys H' p=>by rw [← p.1];exact SqL.of (s27 _ _ xn26)) (fun i ys H' hi p=>?_) ?_ ?_⟩
       ·rw [p.2,Z0];have h1:=Zl (fun n=>decide (n∈FF n)) (ns.take i);rw [Zc] at h1;exact small _ (by omega)
       ·rintro t v ys H' ht ⟨rfl,rfl⟩ N hN;rw [Z8] at ht;obtain ⟨n,en,rfl⟩:=Option.map_eq_some_iff.mp ht;obtain ⟨aa,ma,dg,haa⟩:=(W26.same s27).get (k:=n) (by rw [e3];exact Z4 en);refine ⟨_,rfl,_,rfl,_,rfl,d3,_,rfl,dg,aa,_,rfl,.inl (SqL.of haa),rfl,flats _,_,rfl,?_⟩;show if inV (.str n) ((FF n).map V.str)=true then _ else _
        rw [zBc];have sn:=zAz (fun n=>decide (n∈FF n)) en;cases eb:decide (n∈FF n) with
        | true =>
         refine iteT ⟨_,rfl,hN _ _ ⟨rfl,?_⟩⟩;rw [sn,if_pos eb,Z6];rfl
        | false =>
         refine iteF (hN _ _ ⟨rfl,?_⟩);rw [sn,if_neg (by rw [eb];exact Z3)]
       ·rintro ys H' ⟨rfl,rfl⟩ c hc;rw [Z0,Zd,none0];have s28:Same H27 (upd H27 c (.lst ([].map V.str))):=Same.new hc;have x28:(upd H27 c (.lst ([].map V.str))) c=some (.lst []):=zA1;generalize upd H27 c (.lst ([].map V.str))=H28 at s28 x28 ⊢;refine ⟨Zn _,fun c2 hc2=>⟨.list [],.list [],.lst trivial ((Same.new hc2) _ _ x28) (by decide) .nil,.lst trivial zA1 (by decide) .nil,by decide,by decide,_,rfl,?_⟩⟩;have s29:Same H26 (upd H28 c2 (.lst [])):=s27.trans (s28.trans (Same.new hc2));generalize upd H28 c2 (.lst [])=H29 at s29 ⊢;refine iteBT (by decide) ⟨_,rfl,?_⟩;refine ⟨rfl,_,rfl,iteT ⟨_,rfl,kq,d,kvs,ord,ow,rfl,kw26.mono s29,fun h=>nz (ordp.mem_iff.mp h),fun H30 s30=>?_⟩⟩;exact k _
      ·rw [flat] at ring;have Rne:=List.length_pos_iff.mpr ring.ne;obtain ⟨x0,ex0⟩:∃ x,Rg.head? = some x:=by
        cases e:Rg with
        | nil=>rw [e] at Rne;simp at Rne
        | cons x t=>exact ⟨x,rfl⟩
       have mx0:x0∈Rg:=List.mem_of_head? ex0;have RN:∀ x∈Rg,x∈ns:=fun x hx=>ordp.mem_iff.mp (rin x hx);have Rl:=zDy ring.nd RN;have far0:x0∈FF x0:=(far x0 (RN x0 mx0)).2 (Rg.length - 1) (by omega) x0 (ring_path ring ex0);dsimp only [gName,List.set];refine ⟨_,rfl,ln,rfl,⟨_,SqL.of (s27 _ _ xn26)⟩,zAd (xs:=ns.map V.str) (fun i ys H'=>H27=H'∧ys=((ns.take i).filter fun n=>decide (n∈FF n)).map V.str) ⟨rfl,rfl⟩ (fun i ys H' p=>by rw [← p.1];exact SqL.of (s27 _ _ xn26)) (fun i ys H' hi p=>?_) ?_ ?_⟩
       ·rw [p.2,Z0];have h1:=Zl (fun n=>decide (n∈FF n)) (ns.take i);rw [Zc] at h1;exact small _ (by omega)
       ·rintro t v ys H' ht ⟨rfl,rfl⟩ N hN;rw [Z8] at ht;obtain ⟨n,en,rfl⟩:=Option.map_eq_some_iff.mp ht;obtain ⟨aa,ma,dg,haa⟩:=(W26.same s27).get (k:=n) (by rw [e3];exact Z4 en);refine ⟨_,rfl,_,rfl,_,rfl,d3,_,rfl,dg,aa,_,rfl,.inl (SqL.of haa),rfl,flats _,_,rfl,?_⟩;show if inV (.str n) ((FF n).map V.str)=true then _ else _
        rw [zBc];have sn:=zAz (fun n=>decide (n∈FF n)) en;cases eb:decide (n∈FF n) with
        | true =>
         refine iteT ⟨_,rfl,hN _ _ ⟨rfl,?_⟩⟩;rw [sn,if_pos eb,Z6];rfl
        | false =>
         refine iteF (hN _ _ ⟨rfl,?_⟩);rw [sn,if_neg (by rw [eb];exact Z3)]
       ·rintro ys H' ⟨rfl,rfl⟩ c hc;rw [Z0,Zd];obtain ⟨L,eL⟩:∃ L,L=ns.filter fun n=>decide (n∈FF n):=⟨_,rfl⟩;rw [← eL];have Lne:L≠[]:=fun z=>by
         have:x0∈ns.filter fun n=>decide (n∈FF n):=List.mem_filter.mpr ⟨RN x0 mx0,decide_eq_true far0⟩;rw [← eL,z] at this;cases this
        have Lle:L.length≤5:=by
         have:=Zl (fun n=>decide (n∈FF n)) ns;rw [← eL] at this;omega
        have Lok:∀ x∈L,nameOk x:=fun x hx=>by rw [eL] at hx;exact nsok x (List.mem_filter.mp hx).1
        clear eL;have s28:Same H27 (upd H27 c (.lst (L.map V.str))):=Same.new hc;have x28:(upd H27 c (.lst (L.map V.str))) c=some (.lst (L.map V.str)):=zA1;generalize upd H27 c (.lst (L.map V.str))=H28 at s28 x28 ⊢;refine ⟨Zn _,fun c2 hc2=>⟨.list (L.map .str),.list [],.lst trivial ((Same.new hc2) _ _ x28) (by rw [Z0];omega) (zBl Lok),.lst trivial zA1 (by decide) .nil,zDw L,by decide,_,rfl,?_⟩⟩;have s29:Same H27 (upd H28 c2 (.lst [])):=s28.trans (Same.new hc2);generalize upd H28 c2 (.lst [])=H29 at s29 ⊢;refine iteBF (eqv_nil Lne) ?_;have xlt9:=s29 _ _ xlt;have nmR:∀ x∈Rg,nameOk x:=fun x hx=>nsok x (RN x hx);refine ⟨_,rfl,_,_,_,_,_,rfl,.lst xlt9,rfl,rfl,_,rfl,iteF ?_⟩;refine ⟨_,rfl,Zn _,fun c3 hc3=>?_⟩;have s30:Same H29 (upd H29 c3 (.lst [])):=Same.new hc3;have x30:(upd H29 c3 (.lst [])) c3=some (.lst []):=zA1;generalize upd H29 c3 (.lst [])=H30 at s30 x30 ⊢;refine ⟨.list (Rg.map .str),.list [],.lst trivial (s30 _ _ xlt9) (by rw [Z0];omega) (zBl nmR),.lst trivial x30 (by decide) .nil,zDw Rg,by decide,_,rfl,iteBF (eqv_nil ring.ne) ?_⟩;have xlt30:=s30 _ _ xlt9;refine ⟨_,rfl,lt,_,rfl,.inl (SqL.of xlt30),_,rfl,lt,rfl,⟨_,SqL.of xlt30⟩,zAd (xs:=Rg.map V.str) (fun i ys H'=>Same H30 H'∧∃ ts:List Addr,ys=ts.map V.ref∧Paired (fun t x=>H' t=some (.tup [.str x,.int 1])) ts (Rg.take i)) ⟨Same.refl _,[],rfl,.nil⟩ (fun i ys H' p=>SqL.of (p.1 _ _ xlt30)) (fun i ys H' hi p=>?_) ?_ ?_⟩
        ·obtain ⟨_,ts,rfl,hp⟩:=p;rw [Z0,Paired.length hp,Zc];exact small _ (by omega)
        ·rintro i v ys H31 hi ⟨s31,ts,rfl,hp⟩ N hN;rw [Z8] at hi;obtain ⟨x,ex,rfl⟩:=Option.map_eq_some_iff.mp hi;refine pick ?_;refine ⟨_,rfl,small 2 (by decide),fun t ht=>hN _ _ ⟨s31.trans (Same.new ht),ts++[t],by rw [Z6];rfl,?_⟩⟩;rw [Za,ex];exact zBb (zAb hp fun _ _ e=>(Same.new ht) _ _ e) (.cons zA1 .nil)
        ·rintro ys H31 ⟨s31,ts,rfl,hp⟩ c4 hc4;rw [Z0,Zd] at hp;have s32:Same H31 (upd H31 c4 (.lst (ts.map V.ref))):=Same.new hc4;have x32:(upd H31 c4 (.lst (ts.map V.ref))) c4=some (.lst (ts.map V.ref)):=zA1;generalize upd H31 c4 (.lst (ts.map V.ref))=H32 at s32 x32 ⊢;refine ⟨c4,ts,Rg.map fun x=>((Sum.inr x:Key),V.int 1),rfl,SqL.of x32,rfl,?_,by rw [Z0,Paired.length hp],fun i t k' v e1 e2=>?_,fun d5 hd5=>?_⟩
         ·rw [Zv];exact List.Pairwise.map _ (fun a b n z=>n (Sum.inr.inj z)) ring.nd
         ·rw [Z8] at e2;obtain ⟨x,ex,eq⟩:=Option.map_eq_some_iff.mp e2;cases eq;obtain ⟨y',ey,hy⟩:=zAi hp e1;rw [ex] at ey;cases ey;exact s32 _ _ hy
         ·have s33:Same H32 (upd H32 d5 (.dK (Rg.map fun x=>((Sum.inr x:Key),V.int 1)))):=Same.new hd5;have x33:(upd H32 d5 (.dK (Rg.map fun x=>((Sum.inr x:Key),V.int 1)))) d5=some (.dK (Rg.map fun x=>((Sum.inr x:Key),V.int 1))):=zA1;generalize upd H32 d5 (.dK (Rg.map fun x=>((Sum.inr x:Key),V.int 1)))=H33 at s33 x33 ⊢;refine ⟨d5,_,rfl,.inl x33,rfl,_,rfl,?_⟩;rw [Z0,Z0];refine iteBF (by simp) ?_;have s2733:Same H27 H33:=s29.trans (s30.trans (s31.trans (s32.trans s33)));have xlt33:=s2733 _ _ xlt;refine ⟨_,rfl,_,rfl,_,rfl,lt,_,rfl,SqL.of xlt33,fun m1 hm1=>?_⟩;rw [show cutV (Rg.map V.str) (some 1) none=(Rg.map V.str).drop 1 from zCl (j:=1) (by rw [Z0];omega),← List.map_drop];have s34:Same H33 (upd H33 m1 (.lst ((Rg.drop 1).map V.str))):=Same.new hm1;have x34:(upd H33 m1 (.lst ((Rg.drop 1).map V.str))) m1=some (.lst ((Rg.drop 1).map V.str)):=zA1;generalize upd H33 m1 (.lst ((Rg.drop 1).map V.str))=H34 at s34 x34 ⊢;refine ⟨_,rfl,_,rfl,lt,_,rfl,SqL.of (s34 _ _ xlt33),fun m2 hm2=>?_⟩;rw [show cutV (Rg.map V.str) none (some 1)=(Rg.map V.str).take 1 from cut_takeA (j:=1),← Yk];have s35:Same H34 (upd H34 m2 (.lst ((Rg.take 1).map V.str))):=Same.new hm2;have x35:(upd H34 m2 (.lst ((Rg.take 1).map V.str))) m2=some (.lst ((Rg.take 1).map V.str)):=zA1;generalize upd H34 m2 (.lst ((Rg.take 1).map V.str))=H35 at s35 x35 ⊢;refine ⟨m1,m2,_,_,rfl,rfl,s35 _ _ x34,x35,by rw [Z0,Z0,Zw,Zc];exact small _ (by omega),fun m3 hm3=>?_⟩;rw [← Z6];have s36:Same H35 (upd H35 m3 (.lst ((Rg.drop 1++Rg.take 1).map V.str))):=Same.new hm3;have x36:(upd H35 m3 (.lst ((Rg.drop 1++Rg.take 1).map V.str))) m3=some (.lst ((Rg.drop 1++Rg.take 1).map V.str)):=zA1;generalize upd H35 m3 (.lst ((Rg.drop 1++Rg.take 1).map V.str))=H36 at s36 x36 ⊢;have s2736:=s2733.trans (s34.trans (s35.trans s36));have s2636:=s27.trans s2736
          refine ⟨lt,m3,rfl,⟨_,SqL.of (s2736 _ _ xlt)⟩,⟨_,SqL.of x36⟩,for_zip (K:=K) (a:=lt) (b:=m3) (xs:=Rg.map V.str) (ys:=(Rg.drop 1++Rg.take 1).map V.str) (by rw [Z0,Z0,Zk,Zw,Zc];omega) (fun i σ H'=>∃ x17 x18:Option V,σ = [some (.ref a),some (.ref q),some (.ref ln),some (.ref od),x4',some (.ref kq),some (.ref lr),x7,x8,none,x10,some (V.int (j:Int)),some (.ref lm),some (.ref lh),some (.ref d2),some (.ref d3),some (.ref lt),x17,x18]∧Same H36 H')
           ⟨_,_,rfl,Same.refl _⟩ (fun i σ H' p=>by obtain ⟨_,_,_,s'⟩:=p;exact ⟨SqL.of (s' _ _ (s2736 _ _ xlt)),SqL.of (s' _ _ x36)⟩) ?_ ?_⟩
          ·rintro i u v σ H37 p hi hv ⟨x17,x18,rfl,s37⟩ hpn;rw [Z8] at hi hv;obtain ⟨x,ex,rfl⟩:=Option.map_eq_some_iff.mp hi;obtain ⟨y',ey,rfl⟩:=Option.map_eq_some_iff.mp hv;have mx:x∈ns:=RN x (Z4 ex);have il:=(List.getElem?_eq_some_iff.mp ex).1;have nxt:y'∈wt ow rs x:=by
            by_cases ci:i + 1 < Rg.length
            ·refine ring.ch i x y' ex ?_;rw [Zm (by rw [Zw];omega),List.getElem?_drop] at ey;rw [← ey]
             congr 1
             omega
            ·refine ring.lo x y' ?_ ?_
             ·rw [List.getLast?_eq_getElem?,show Rg.length - 1=i by omega];exact ex
             ·rw [Y3 (by rw [Zw];omega),Zw,show i - (Rg.length - 1)=0 by omega,List.getElem?_take,if_pos (by decide)] at ey;rw [List.head?_eq_getElem?];exact ey
           refine ⟨p,_,rfl,SqT.of zA1,rfl,_,_,rfl,_,_,rfl,rfl,?_⟩;have s38:Same H37 (upd H37 p (.tup [.str x,.str y'])):=Same.new hpn;generalize upd H37 p (.tup [.str x,.str y'])=H38 at s38 ⊢;have s2638:=s2636.trans (s37.trans s38);obtain ⟨al,hal,dgal⟩:=WW s2638 x mx;dsimp only [gName,List.set];refine ⟨_,rfl,_,rfl,ln,_,rfl,.inl (SqL.of (s2638 _ _ xn26)),rfl,flats _,_,rfl,?_⟩;show if (!inV (.str x) (ns.map V.str))=true then _ else _
           rw [zBc,decide_eq_true mx];refine iteF ⟨_,rfl,_,rfl,_,rfl,d2,_,rfl,dgal,al,_,rfl,.inl (SqL.of hal),rfl,flats _,_,rfl,?_⟩;show if (!inV (.str y') ((wt ow rs x).map V.str))=true then _ else _
           rw [zBc,decide_eq_true nxt];exact iteF ⟨_,_,rfl,s37.trans s38⟩
          ·rintro σ H37 ⟨x17,x18,rfl,s37⟩;exact ⟨_,rfl,kq,d,kvs,ord,ow,rfl,kw26.mono (s2636.trans s37),fun h=>nz (ordp.mem_iff.mp h),fun H38 s38=>k _⟩
end
end L2.W
namespace L2.W
open PySem My
theorem len1 {α : Type}{us:List α} (h:us.length=1):∃ a,us=[a]:=List.length_eq_one_iff.mp h
theorem len2 {α : Type}{us:List α} (h:us.length=2):∃ a0 a1,us=[a0,a1]:=by
 cases us with
 | nil=>cases h
 | cons a0 r=>obtain ⟨a1,rfl⟩:=len1 (show r.length=1 from Nat.succ.inj h);exact ⟨a0,a1,rfl⟩
theorem len3 {α : Type}{us:List α} (h:us.length=3):∃ a0 a1 a2,us=[a0,a1,a2]:=by
 cases us with
 | nil=>cases h
 | cons a0 r=>obtain ⟨a1,a2,rfl⟩:=len2 (show r.length=2 from Nat.succ.inj h);exact ⟨a0,a1,a2,rfl⟩
theorem len4 {α : Type}{us:List α} (h:us.length=4):∃ a0 a1 a2 a3,us=[a0,a1,a2,a3]:=by
 cases us with
 | nil=>cases h
 | cons a0 r=>obtain ⟨a1,a2,a3,rfl⟩:=len3 (show r.length=3 from Nat.succ.inj h);exact ⟨a0,a1,a2,a3,rfl⟩
theorem len5 {α : Type}{us:List α} (h:us.length=5):∃ a0 a1 a2 a3 a4,us=[a0,a1,a2,a3,a4]:=by
 cases us with
 | nil=>cases h
 | cons a0 r=>obtain ⟨a1,a2,a3,a4,rfl⟩:=len4 (show r.length=4 from Nat.succ.inj h);exact ⟨a0,a1,a2,a3,a4,rfl⟩
structure DL (K:PySem.W.Frag) (x:Str) (st:Stmt) (f:Addr) (fd:FuncData):Prop where
 a:PySem.W.nsIn K mainGlobals x=some (some (.ref f))
 F:Fun K x x st f fd
structure ML (K:PySem.W.Frag) (C:Addr) (x q:Str) (st:Stmt) (f:Addr) (fd:FuncData):Prop where
 a:PySem.W.findIn K (.ref C) x=some (some (.ref f))
 i:PySem.W.isFn K (.ref f)=true
 F:Fun K x q st f fd
theorem mkD {K:PySem.W.Frag}{h:Heap}{mg:Str→Option Value}{x:Str}{st:Stmt}{f:Addr}{fd:FuncData}{ps:List Str} (X:K.In h) (G:h.Ns mainGlobals mg) (D:DL K x st f fd) (hb:∀ (kV doc pm:Value) (an:Option Addr) (cdv ct:Value) (us:List Value),us.length=ps.length→bindArgs (PySem.W.fnOf x x (defArgs st) (defBody st) (defScope st) .none kV doc pm an cdv ct) ⟨us,[]⟩=pure (ps.zip us)):Def K mg x st ps f fd:=⟨D.F,PySem.W.mg_of X G D.a,D.F.binds hb⟩
theorem zBs {K:PySem.W.Frag}{x:Str}{st:Stmt}{f:Addr}{oc:Value}{od an:Option Addr}{osl:Array (Option Value)}{kV doc pm cdv ct:Value} (a:PySem.W.nsIn K mainGlobals x=some (some (.ref f))) (l:K.lookup f=some ⟨oc,od,.func (PySem.W.fnOf x x (defArgs st) (defBody st) (defScope st) .none kV doc pm an cdv ct),osl⟩)
  (c:PySem.W.codeIn K cdv x=true) (k:PySem.W.keepIn K (.ref f)=true):DL K x st f (PySem.W.fnOf x x (defArgs st) (defBody st) (defScope st) .none kV doc pm an cdv ct):=⟨a,fun_mk l c k⟩
theorem ml_mk {K:PySem.W.Frag}{C:Addr}{x q:Str}{st:Stmt}{f:Addr}{oc:Value}{od an:Option Addr}{osl:Array (Option Value)}{kV doc pm cdv ct:Value} (a:PySem.W.findIn K (.ref C) x=some (some (.ref f))) (i:PySem.W.isFn K (.ref f)=true) (l:K.lookup f=some ⟨oc,od,.func (PySem.W.fnOf x q (defArgs st) (defBody st) (defScope st) .none kV doc pm an cdv ct),osl⟩)
  (c:PySem.W.codeIn K cdv q=true) (k:PySem.W.keepIn K (.ref f)=true):ML K C x q st f (PySem.W.fnOf x q (defArgs st) (defBody st) (defScope st) .none kV doc pm an cdv ct):=⟨a,i,fun_mk l c k⟩
theorem all_mk {l:PySem.W.OpenLaw}{w:World}{K:PySem.W.Frag}{h:Heap}{mg:Str→Option Value}{fx:Addr} (X:K.In h) (G:h.Ns mainGlobals mg) (hfa:mg "law" = some (.ref fx))
  {fN fU fP fF fCt fA fOk fRs fCk fWa fNf fRg fca fm fd fn flw flf flx fIk fOr fOf fOw fRu fHa fTs fAs:Addr}{ts:List Addr}{dN dU dP dF dCt dA dOk dRs dCk dWa dNf dRg dca dm dd dn dlw dlf dlx dIk dOr dOf dOw dRu dHa dTs dAs:FuncData}{C CK CR CH CT CA CC CD CN fI TD c Pt:Addr}{ocI kVI dcI pmI cdI ctI:Value}{odI anI:Option Addr}{slI:Array (Option Value)}{ocT:Value}{odT:Option Addr}{slT:Array (Option Value)}{nT:Nat}{t0 t1 t2:Tok}
  {fp:Addr}{ocp kVp dcp pmp ctp:Value}{odp anp:Option Addr}{slp:Array (Option Value)}
  {fL:Addr}{ocL kVL dcL pmL ctL cdL:Value}{odL anL:Option Addr}{slL:Array (Option Value)}
  (aC:PySem.W.nsIn K mainGlobals "Kind" = some (some (.ref C)))
  (aCK:PySem.W.nsIn K mainGlobals "Kinds" = some (some (.ref CK)))
  (aCR:PySem.W.nsIn K mainGlobals "Rule" = some (some (.ref CR)))
  (aCH:PySem.W.nsIn K mainGlobals "Hand" = some (some (.ref CH)))
  (aCT:PySem.W.nsIn K mainGlobals "ToTake" = some (some (.ref CT)))
  (aCA:PySem.W.nsIn K mainGlobals "Always" = some (some (.ref CA)))
  (aCC:PySem.W.nsIn K mainGlobals "Change" = some (some (.ref CC)))
  (aCD:PySem.W.nsIn K mainGlobals "Condition" = some (some (.ref CD)))
  (aCN:PySem.W.nsIn K mainGlobals "NoRule" = some (some (.ref CN)))
  (xN:DL K "is_name" sIsName fN dN)
  (xU:DL K "are_unlike_names" sUnlike fU dU)
  (xP:DL K "is_pair_with_values" sPair fP dP)
  (xF:DL K "are_fields" sFields fF dF)
  (xCt:DL K "count_states" sCount fCt dCt)
  (xA:DL K "are_kinds" sAreKinds fA dA)
  (xOk:DL K "are_other_kinds" sOtherKinds fOk dOk)
  (xRs:DL K "rule_suits" sRuleSuits fRs dRs)
  (xCk:DL K "check" sCheck fCk dCk)
  (xWa:DL K "waits" sWaitsP fWa dWa)
  (xNf:DL K "never_free" sNeverFree fNf dNf)
  (xRg:DL K "ring" sRing fRg dRg)
  (xca:DL K "_law_cell_at" sCellAt fca dca)
  (xm:DL K "_law_mixed" sMixed fm dm)
  (xd:DL K "_law_digits" sDigits fd dd)
  (xn:DL K "_law_next" sNext fn dn)
  (xlw:DL K "_law_waits" sWaits flw dlw)
  (xlf:DL K "_law_far" sFar flf dlf)
  (xlx:DL K "_law_refused" sRefused flx dlx)
  (xIk:ML K CK "__init__" "Kinds.__init__" sInitKs fIk dIk)
  (xOr:ML K CK "order" "Kinds.order" sOrder fOr dOr)
  (xOf:ML K CK "of" "Kinds.of" sOf fOf dOf)
  (xOw:ML K CK "owned" "Kinds.owned" sOwned fOw dOw)
  (xRu:ML K CR "__init__" "Rule.__init__" sInitR fRu dRu)
  (xHa:ML K CH "__init__" "Hand.__init__" sInitH fHa dHa)
  (xTs:ML K CT "suits" "ToTake.suits" sTtSuits fTs dTs)
  (xAs:ML K CA "suits" "Always.suits" sAlSuits fAs dAs)
  (xap:PySem.W.nsIn K mainGlobals "placed_by_owners" = some (some (.ref fp))) (xlp:K.lookup fp=some ⟨ocp,odp,.func (PySem.W.fnOf "placed_by_owners" "placed_by_owners" (defArgs sPlaced) (defBody sPlaced) (defScope sPlaced) .none kVp dcp pmp anp (.ref c) ctp),slp⟩) (xcp:PySem.W.codeIn K (.ref c) "placed_by_owners" = true) (xkp:PySem.W.keepIn K (.ref fp)=true)
  (xaL:PySem.W.nsIn K mainGlobals "law" = some (some (.ref fL))) (xlL:K.lookup fL=some ⟨ocL,odL,.func (PySem.W.fnOf "law" "law" (defArgs sLaw) (defBody sLaw) (defScope sLaw) .none kVL dcL pmL anL cdL ctL),slL⟩) (xcL:PySem.W.codeIn K cdL "law" = true) (xkL:PySem.W.keepIn K (.ref fL)=true)
  (aI:PySem.W.findIn K (.ref C) "__init__" = some (some (.ref fI))) (iI:PySem.W.isFn K (.ref fI)=true)
  (lI:K.lookup fI=some ⟨ocI,odI,.func (PySem.W.fnOf "__init__" "Kind.__init__" (defArgs sInit) (defBody sInit) (defScope sInit) (.ref TD) kVI dcI pmI anI cdI ctI),slI⟩) (cI:PySem.W.codeIn K cdI "Kind.__init__" = true)
  (lT:K.lookup TD=some ⟨ocT,odT,.seq #[.none] nT,slT⟩)
  (kpg:PySem.W.plainGet K C Str.empty=true) (khd:PySem.W.hasDictIn K C=true) (kpo:PySem.W.plainOver K C=true) (ksa:PySem.W.findIn K (.ref C) "__setattr__" = some (some (.builtin "object.__setattr__"))) (kmk:PySem.W.makesIn K C=true) (kkc:PySem.W.keepIn K (.ref C)=true) (kno0:PySem.W.findIn K (.ref C) "name" = some none) (kno1:PySem.W.findIn K (.ref C) "fields" = some none) (kno2:PySem.W.findIn K (.ref C) "owner" = some none)
  (gpg:PySem.W.plainGet K CK Str.empty=true) (ghd:PySem.W.hasDictIn K CK=true) (gpo:PySem.W.plainOver K CK=true) (gsa:PySem.W.findIn K (.ref CK) "__setattr__" = some (some (.builtin "object.__setattr__"))) (gmk:PySem.W.makesIn K CK=true) (gkc:PySem.W.keepIn K (.ref CK)=true) (gno0:PySem.W.findIn K (.ref CK) "by_name" = some none)
  (rpg:PySem.W.plainGet K CR Str.empty=true) (rhd:PySem.W.hasDictIn K CR=true) (rpo:PySem.W.plainOver K CR=true) (rsa:PySem.W.findIn K (.ref CR) "__setattr__" = some (some (.builtin "object.__setattr__"))) (rmk:PySem.W.makesIn K CR=true) (rkc:PySem.W.keepIn K (.ref CR)=true) (rno0:PySem.W.findIn K (.ref CR) "kind" = some none) (rno1:PySem.W.findIn K (.ref CR) "change" = some none) (rno2:PySem.W.findIn K (.ref CR) "condition" = some none) (rno3:PySem.W.findIn K (.ref CR) "behind" = some none)
  (hpg:PySem.W.plainGet K CH Str.empty=true) (hhd:PySem.W.hasDictIn K CH=true) (hpo:PySem.W.plainOver K CH=true) (hsa:PySem.W.findIn K (.ref CH) "__setattr__" = some (some (.builtin "object.__setattr__"))) (hmk:PySem.W.makesIn K CH=true) (hkc:PySem.W.keepIn K (.ref CH)=true) (hno0:PySem.W.findIn K (.ref CH) "name" = some none) (hno1:PySem.W.findIn K (.ref CH) "rules" = some none)
  (tpg:PySem.W.plainGet K CT Str.empty=true) (thd:PySem.W.hasDictIn K CT=true) (tpo:PySem.W.plainOver K CT=true) (tsa:PySem.W.findIn K (.ref CT) "__setattr__" = some (some (.builtin "object.__setattr__"))) (tmk:PySem.W.makesIn K CT=true) (tkc:PySem.W.keepIn K (.ref CT)=true)
  (apg:PySem.W.plainGet K CA Str.empty=true) (ahd:PySem.W.hasDictIn K CA=true) (apo:PySem.W.plainOver K CA=true) (asa:PySem.W.findIn K (.ref CA) "__setattr__" = some (some (.builtin "object.__setattr__"))) (amk:PySem.W.makesIn K CA=true) (akc:PySem.W.keepIn K (.ref CA)=true)
  (hn:PySem.W.specialIn K (.builtin "object.__class__") "__get__" = some (some (.builtin "getset_descriptor.__get__"))) (htk:PySem.W.takesIn K (.builtin "object.__class__")=some true)
  (iha:PySem.W.findIn K (.ref C) "__class__" = some (some (.builtin "object.__class__"))) (ihm:PySem.W.mroIn K C (.type "object")=some true) (ihki:PySem.W.kitOne K (.ref C) (.ref C)=some true)
  (irha:PySem.W.findIn K (.ref CR) "__class__" = some (some (.builtin "object.__class__"))) (irhm:PySem.W.mroIn K CR (.type "object")=some true) (irhki:PySem.W.kitOne K (.ref CR) (.ref CR)=some true)
  (ihha:PySem.W.findIn K (.ref CH) "__class__" = some (some (.builtin "object.__class__"))) (ihhm:PySem.W.mroIn K CH (.type "object")=some true) (ihhki:PySem.W.kitOne K (.ref CH) (.ref CH)=some true)
  (itha:PySem.W.findIn K (.ref CT) "__class__" = some (some (.builtin "object.__class__"))) (ithm:PySem.W.mroIn K CT (.type "object")=some true) (ithki:PySem.W.kitOne K (.ref CT) (.ref CT)=some true)
  (iaha:PySem.W.findIn K (.ref CA) "__class__" = some (some (.builtin "object.__class__"))) (iahm:PySem.W.mroIn K CA (.type "object")=some true) (iahki:PySem.W.kitOne K (.ref CA) (.ref CA)=some true)
  (hts:ts=[Pt])
  (hcdp:PySem.W.codeHdIn K c Pt=true) (houtp:K.lookup Pt=none)
  (hneCTCH:CT≠CH)
  (hneCACH:CA≠CH)
  (c0:PySem.W.nsIn K mainGlobals "LETTERS" = some (some (.str letters t0)))
  (c1:PySem.W.nsIn K mainGlobals "MOST_LETTERS" = some (some (.int 8 t1)))
  (c2:PySem.W.nsIn K mainGlobals "MOST_STATES" = some (some (.int 8 t2)))
  (xexN:PySem.W.excIn K CN [.type "ValueError",.type "Exception",.type "BaseException",.type "object"] "ValueError.__new__" = true)
  (xemN:PySem.W.exmOne K (.ref CN) (.ref CN)=some true)
  (xck:PySem.W.kitOne K (.ref CT) (.ref CC)=some true)
  (xdk:PySem.W.kitOne K (.ref CA) (.ref CD)=some true)
  (tin:PySem.W.findIn K (.ref CT) "__init__" = some (some (.builtin "object.__init__")))
  (ain:PySem.W.findIn K (.ref CA) "__init__" = some (some (.builtin "object.__init__")))
  (z_isinstance:PySem.W.nsIn K mainGlobals "isinstance" = some none)
  (z_len:PySem.W.nsIn K mainGlobals "len" = some none)
  (z_all:PySem.W.nsIn K mainGlobals "all" = some none)
  (z_set:PySem.W.nsIn K mainGlobals "set" = some none)
  (z_range:PySem.W.nsIn K mainGlobals "range" = some none)
  (z_str:PySem.W.nsIn K mainGlobals "str" = some none)
  (z_list:PySem.W.nsIn K mainGlobals "list" = some none)
  (z_tuple:PySem.W.nsIn K mainGlobals "tuple" = some none)
  (z_zip:PySem.W.nsIn K mainGlobals "zip" = some none)
  (z_dict:PySem.W.nsIn K mainGlobals "dict" = some none)
  (z_min:PySem.W.nsIn K mainGlobals "min" = some none)
  (z_any:PySem.W.nsIn K mainGlobals "any" = some none) :
  ∃ fd:FuncData,(∀ (s:Shared) (v:Value),BindsTo s fd ⟨[v],[]⟩ [("_law_script",v)])∧(∀ T∈ts,(K).lookup T=none∧∃ c,PySem.W.codeHdIn (K) c T=true)∧∃ Pt:Addr,Pt∈ts∧∀ base:Heap,(K).In base→base.Ns mainGlobals mg→BltAt mg base→FnOk l.prog w (K) mg base CX0 8 fx fd ["_law_script"] (spLaw57 K Pt):=by
 have e:=hfa.symm.trans (PySem.W.mg_of X G xaL);cases e;have T:Tops K mg:=⟨PySem.W.mg_none_of X G z_isinstance,PySem.W.mg_none_of X G z_len,PySem.W.mg_none_of X G z_all,PySem.W.mg_none_of X G z_set,PySem.W.mg_none_of X G z_range,PySem.W.mg_none_of X G z_str,PySem.W.mg_none_of X G z_list,PySem.W.mg_none_of X G z_tuple,PySem.W.mg_none_of X G z_zip,PySem.W.mg_none_of X G z_dict,PySem.W.mg_none_of X G z_min,PySem.W.mg_none_of X G z_any,⟨_,PySem.W.mg_of X G c0⟩,⟨_,PySem.W.mg_of X G c1⟩,⟨_,PySem.W.mg_of X G c2⟩⟩;have DN:=mkD X G xN (ps:=["thing"]) fun _ _ _ _ _ _ us hl=>by obtain ⟨z0,rfl⟩:=len1 hl;rfl
 have DU:=mkD X G xU (ps:=["things"]) fun _ _ _ _ _ _ us hl=>by obtain ⟨z0,rfl⟩:=len1 hl;rfl
 have DP:=mkD X G xP (ps:=["thing"]) fun _ _ _ _ _ _ us hl=>by obtain ⟨z0,rfl⟩:=len1 hl;rfl
 have DF:=mkD X G xF (ps:=["things"]) fun _ _ _ _ _ _ us hl=>by obtain ⟨z0,rfl⟩:=len1 hl;rfl
 have DCt:=mkD X G xCt (ps:=["fields"]) fun _ _ _ _ _ _ us hl=>by obtain ⟨z0,rfl⟩:=len1 hl;rfl
 have DA:=mkD X G xA (ps:=["things"]) fun _ _ _ _ _ _ us hl=>by obtain ⟨z0,rfl⟩:=len1 hl;rfl
 have DOk:=mkD X G xOk (ps:=["kind", "things"]) fun _ _ _ _ _ _ us hl=>by obtain ⟨z0,z1,rfl⟩:=len2 hl;rfl
 have DRs:=mkD X G xRs (ps:=["kinds", "rule"]) fun _ _ _ _ _ _ us hl=>by obtain ⟨z0,z1,rfl⟩:=len2 hl;rfl
 have DCk:=mkD X G xCk (ps:=["kinds", "hands"]) fun _ _ _ _ _ _ us hl=>by obtain ⟨z0,z1,rfl⟩:=len2 hl;rfl
 have DWa:=mkD X G xWa (ps:=["kinds", "hands"]) fun _ _ _ _ _ _ us hl=>by obtain ⟨z0,z1,rfl⟩:=len2 hl;rfl
 have DNf:=mkD X G xNf (ps:=["waiting"]) fun _ _ _ _ _ _ us hl=>by obtain ⟨z0,rfl⟩:=len1 hl;rfl
 have DRg:=mkD X G xRg (ps:=["kinds", "hands"]) fun _ _ _ _ _ _ us hl=>by obtain ⟨z0,z1,rfl⟩:=len2 hl;rfl
 have Dca:=mkD X G xca (ps:=["_law_script", "_law_k"]) fun _ _ _ _ _ _ us hl=>by obtain ⟨z0,z1,rfl⟩:=len2 hl;rfl
 have Dm:=mkD X G xm (ps:=["_law_cell", "_law_k"]) fun _ _ _ _ _ _ us hl=>by obtain ⟨z0,z1,rfl⟩:=len2 hl;rfl
 have Dd:=mkD X G xd (ps:=["_law_cell"]) fun _ _ _ _ _ _ us hl=>by obtain ⟨z0,rfl⟩:=len1 hl;rfl
 have Dn:=mkD X G xn (ps:=["_law_source", "_law_many"]) fun _ _ _ _ _ _ us hl=>by obtain ⟨z0,z1,rfl⟩:=len2 hl;rfl
 have Dlw:=mkD X G xlw (ps:=["_law_owners", "_law_rules"]) fun _ _ _ _ _ _ us hl=>by obtain ⟨z0,z1,rfl⟩:=len2 hl;rfl
 have Dlf:=mkD X G xlf (ps:=["_law_waits_here"]) fun _ _ _ _ _ _ us hl=>by obtain ⟨z0,rfl⟩:=len1 hl;rfl
 have Dlx:=mkD X G xlx (ps:=["_law_kinds"]) fun _ _ _ _ _ _ us hl=>by obtain ⟨z0,rfl⟩:=len1 hl;rfl
 obtain ⟨xaIk,xiIk,FIk⟩:=xIk;have bIk:=FIk.binds (ps:=["self", "kinds"]) fun _ _ _ _ _ _ us hl=>by obtain ⟨z0,z1,rfl⟩:=len2 hl;rfl
 obtain ⟨xaOr,xiOr,FOr⟩:=xOr;have bOr:=FOr.binds (ps:=["self"]) fun _ _ _ _ _ _ us hl=>by obtain ⟨z0,rfl⟩:=len1 hl;rfl
 obtain ⟨xaOf,xiOf,FOf⟩:=xOf;have bOf:=FOf.binds (ps:=["self", "name"]) fun _ _ _ _ _ _ us hl=>by obtain ⟨z0,z1,rfl⟩:=len2 hl;rfl
 obtain ⟨xaOw,xiOw,FOw⟩:=xOw;obtain ⟨xaRu,xiRu,FRu⟩:=xRu;have bRu:=FRu.binds (ps:=["self", "kind", "change", "condition", "behind"]) fun _ _ _ _ _ _ us hl=>by obtain ⟨z0,z1,z2,z3,z4,rfl⟩:=len5 hl;rfl
 obtain ⟨xaHa,xiHa,FHa⟩:=xHa;have bHa:=FHa.binds (ps:=["self", "name", "rules"]) fun _ _ _ _ _ _ us hl=>by obtain ⟨z0,z1,z2,rfl⟩:=len3 hl;rfl
 obtain ⟨xaTs,xiTs,FTs⟩:=xTs;have bTs:=FTs.binds (ps:=["self", "kind"]) fun _ _ _ _ _ _ us hl=>by obtain ⟨z0,z1,rfl⟩:=len2 hl;rfl
 obtain ⟨xaAs,xiAs,FAs⟩:=xAs;have bAs:=FAs.binds (ps:=["self", "kinds", "kind"]) fun _ _ _ _ _ _ us hl=>by obtain ⟨z0,z1,z2,rfl⟩:=len3 hl;rfl
 have Fp:FunL K "placed_by_owners" "placed_by_owners" sPlaced fp _ c:=⟨⟨ocp,odp,kVp,dcp,pmp,anp,ctp,slp,rfl,xlp,xcp⟩,xkp⟩;have bp:=Fp.fn.binds (ps:=["kinds"]) fun _ _ _ _ _ _ us hl=>by obtain ⟨z0,rfl⟩:=len1 hl;rfl
 have FL:=fun_mk (st:=sLaw) xlL xcL xkL;have FI:FunD K "__init__" "Kind.__init__" sInit (.ref TD) fI _:=⟨⟨ocI,odI,kVI,dcI,pmI,anI,cdI,ctI,slI,rfl,lI,cI⟩⟩;have bK:Binds K (PySem.W.fnOf "__init__" "Kind.__init__" (defArgs sInit) (defBody sInit) (defScope sInit) (.ref TD) kVI dcI pmI anI cdI ctI) ["self", "name", "fields", "owner"] []:=by
  intro s us hK hl;rw [List.append_nil] at hl ⊢;obtain ⟨a,n,f,o,rfl⟩:=len4 hl;exact PySem.W.binds_K hK rfl lT rfl (by rfl) (by rfl)
 have KC:KCls K mg C fI:=⟨⟨kpg,khd,kpo,ksa⟩,kno0,kno1,kno2,PySem.W.mg_of X G aC,⟨kmk,aI,iI,kkc⟩⟩;have KS:KsCls K mg CK fIk fOr fOf fOw:=⟨⟨gpg,ghd,gpo,gsa⟩,gno0,PySem.W.mg_of X G aCK,⟨gmk,xaIk,xiIk,gkc⟩,⟨xaOr,xiOr,FOr.kp⟩,⟨xaOf,xiOf,FOf.kp⟩,⟨xaOw,xiOw,FOw.kp⟩⟩;have R:RCls K mg CR fRu CH fHa CT fTs CA fAs CC CD:=⟨⟨rpg,rhd,rpo,rsa⟩,⟨irha,hn,htk,irhm,irhki⟩,rno0,rno1,rno2,rno3,PySem.W.mg_of X G aCR,⟨rmk,xaRu,xiRu,rkc⟩,⟨hpg,hhd,hpo,hsa⟩,⟨ihha,hn,htk,ihhm,ihhki⟩,hno0,hno1,PySem.W.mg_of X G aCH,⟨hmk,xaHa,xiHa,hkc⟩,⟨tpg,thd,tpo,tsa⟩,⟨itha,hn,htk,ithm,ithki⟩,PySem.W.mg_of X G aCT,⟨tmk,tin,tkc⟩,⟨xaTs,xiTs,FTs.kp⟩,⟨apg,ahd,apo,asa⟩,⟨iaha,hn,htk,iahm,iahki⟩,PySem.W.mg_of X G aCA,⟨amk,ain,akc⟩,⟨xaAs,xiAs,FAs.kp⟩,PySem.W.mg_of X G aCC,xck,PySem.W.mg_of X G aCD,xdk,hneCTCH,hneCACH⟩;have XN:XTop K mg "NoRule" CN:=⟨PySem.W.mg_of X G aCN,xexN⟩;subst hts;refine ⟨PySem.W.fnOf "law" "law" (defArgs sLaw) (defBody sLaw) (defScope sLaw) .none kVL dcL pmL anL cdL ctL,fun s v=>.of_eq rfl,fun T hT=>?_,Pt,.head _,fun base _ _ bl=>?_⟩
 ·simp only [Zy,Zz,or_false] at hT;rcases hT with rfl
  ·exact ⟨houtp,c,hcdp⟩
 ·have Lp:LamTxt K mg base c Pt:=⟨hcdp,bl⟩;have hC:Calm (CXM l.prog w):=calmM;have GK:=ok_init (P:=l.prog) (w:=w) (base:=base) hC T FI KC DN DU DP DF DCt;have GIk:=ok_initKs (P:=l.prog) (w:=w) (base:=base) hC T KC ⟨iha,hn,htk,ihm,ihki⟩ KS Lp FIk DN DU DA Fp (PySem.W.mg_of X G xap) bp;have GRu:=ok_rule (P:=l.prog) (w:=w) (base:=base) hC T R FRu DN DU DOk;have GHa:=ok_hand (P:=l.prog) (w:=w) (base:=base) hC T R FHa DN;have GRs:=ok_suits (P:=l.prog) (w:=w) (base:=base) hC T R KS DRs.fn DN FOr bOr FOf bOf FTs bTs FAs bAs;have GCk:=ok_check (P:=l.prog) (w:=w) (base:=base) T XN R DCk.fn DN DU DRs GRs;have GWa:=ok_waits (P:=l.prog) (w:=w) (base:=base) hC T KC R KS DWa.fn DN FOr bOr FOf bOf;have GRg:=ok_ring (P:=l.prog) (w:=w) (base:=base) T DRg.fn DCk GCk DWa GWa DNf;have Glx:=ok_refu (P:=l.prog) (w:=w) (base:=base) R ⟨XN,xemN⟩ Dlx.fn DRg GRg GRu bRu GHa bHa;exact (ok_law57 FL ⟨T,KC,KS,R,GK,bK,GIk,bIk,GRu,bRu,GHa,bHa,Dca,ok_cellAt T Dca.fn,Dd,ok_digits Dd.fn,Dn,ok_next hC Dn.fn Dm,Dlw,ok_lwaits T Dlw.fn,Dlf,ok_far T Dlf.fn,DRg,GRg,Dlx,Glx⟩).calm calmM
theorem walk {l:PySem.W.OpenLaw}{q:Program}{loose:List Str}{XP:(Str→Option Value)→Heap→Prop}{YP:World→Heap→Prop}{d:DefRec}{K:Params→PySem.W.Frag}{ts:List Addr} (hn:l.most=some 63) (hdf:d.params.defaults=[])
  (hY:∀ (w:World) (h:Heap),YP w h→(K w.params).In h∧∀ T∈ts,h.get? T=some (PySem.W.tabObj #[]))
  (F:∀ (w:World) (mg:Str→Option Value) (fa:Addr) (h:Heap),(K w.params).In h→h.Ns mainGlobals mg→mg d.name=some (.ref fa) →
   ∃ fd:FuncData,(∀ (s:Shared) (v:Value),BindsTo s fd ⟨[v],[]⟩ [("_law_script",v)])∧(∀ T∈ts,(K w.params).lookup T=none∧∃ c,PySem.W.codeHdIn (K w.params) c T=true)∧∃ Pt:Addr,Pt∈ts∧∀ base:Heap,(K w.params).In base→base.Ns mainGlobals mg→BltAt mg base→FnOk l.prog w (K w.params) mg base CX0 8 fa fd ["_law_script"] (spLaw57 (K w.params) Pt)) :
  PySem.W.WalkO q loose XP YP l.row.toRowW d [] (fun f vs=>PySem.call f vs):=by
 refine Att.attach_call hn hdf fun w s₀ s₁ mg mb fa o pm cd doc a vs ns G Y ho hd hcd hmg hobj hints hlen hg=>?_;obtain ⟨KX,hT⟩:=hY w _ Y;obtain ⟨fd,hb,hall,Pt,m0,hF⟩:=F w mg fa _ KX G.T.g hmg;exact law_callTs KX G.T.g G.T.b G.T.builtins G.T.nolimit hg (blt_of G.T) hT (fun T h=>(hall T h).1) (fun T h=>(hall T h).2) hobj hints (Zp hlen (by decide)) ⟨rfl,by decide,by decide⟩ hF hb (fun H hO hS=>⟨a,ns,rfl,hS,hlen,.inl (hO.1 Pt m0),fun _=>rfl⟩) fun _ _ _ z=>z
end L2.W
theorem PySem.W.Fast.tw6251317502740842836:True:=trivial
theorem PySem.W.Fast.tw3975160831742665225:True:=trivial
theorem PySem.W.Fast.tw10809223089658742863:True:=trivial
theorem PySem.W.Fast.tw10540424993909303444:True:=trivial
theorem PySem.W.Fast.tw1179390958353263660:True:=trivial
theorem PySem.W.Fast.tw13141973633052174372:True:=trivial
theorem PySem.W.Fast.tw15805062283855450537:True:=trivial
theorem PySem.W.Fast.tw3352171422696147434:True:=trivial
theorem PySem.W.Fast.tw16334979721762595390:True:=trivial
theorem PySem.W.Fast.tw17765288978634916122:True:=trivial
theorem PySem.W.Fast.tw11395548452984898678:True:=trivial
theorem PySem.W.Fast.tw1057044432865073808:True:=trivial
theorem PySem.W.Fast.tw16464065044090152932:True:=trivial
theorem PySem.W.Fast.tw1811491327089157966:True:=trivial
theorem PySem.W.Fast.tw15000918125466171313:True:=trivial
theorem PySem.W.Fast.tw16355236970225101697:True:=trivial
theorem PySem.W.Fast.tw9230548399184474536:True:=trivial
theorem PySem.W.Fast.tw3091687364797222776:True:=trivial
theorem PySem.W.Fast.tw6281458100046717023:True:=trivial
theorem PySem.W.Fast.tw1355126213679382254:True:=trivial
theorem PySem.W.Fast.tw4888992273779560149:True:=trivial
theorem PySem.W.Fast.tw7994532684924456152:True:=trivial
theorem PySem.W.Fast.tw12535916514040794018:True:=trivial
theorem PySem.W.Fast.tw15616577168201845444:True:=trivial
theorem PySem.W.Fast.tw2950921007809606987:True:=trivial
theorem PySem.W.Fast.tw7639110267581394894:True:=trivial
theorem PySem.W.Fast.tw5526133570399079639:True:=trivial
theorem PySem.W.Fast.tw10037311578453730990:True:=trivial
theorem PySem.W.Fast.tw4515587396389233028:True:=trivial
theorem PySem.W.Fast.tw11315541093026992579:True:=trivial
theorem PySem.W.Fast.tw2033658717178930393:True:=trivial
theorem PySem.W.Fast.tw15174880549951520991:True:=trivial
theorem PySem.W.Fast.tw10986255392398971772:True:=trivial
theorem PySem.W.Fast.tw9802578195902295715:True:=trivial
theorem PySem.W.Fast.tw12921596134959713055:True:=trivial
theorem PySem.W.Fast.tw7370561557522931615:True:=trivial
theorem PySem.W.Fast.tw5326031769868140001:True:=trivial
theorem PySem.W.Fast.tw9436809410474393489:True:=trivial
theorem PySem.W.Fast.tw8408710649878946439:True:=trivial
theorem PySem.W.Fast.tw11862690226138396700:True:=trivial
theorem PySem.W.Fast.tw5815010405396772149:True:=trivial
theorem PySem.W.Fast.tw2577866300240906934:True:=trivial
theorem PySem.W.Fast.tw2584291717204024067:True:=trivial
theorem PySem.W.Fast.tw936793366353008736:True:=trivial
theorem PySem.W.Fast.tw13301647646266511227:True:=trivial
theorem PySem.W.Fast.tw17512423957343142016:True:=trivial
theorem PySem.W.Fast.tw12085990008260283243:True:=trivial
theorem PySem.W.Fast.tw933115302156813740:True:=trivial
theorem PySem.W.Fast.tw12946448150119044138:True:=trivial
theorem PySem.W.Fast.tw7968350900440434762:True:=trivial
theorem PySem.W.Fast.tw10697317222412826512:True:=trivial
theorem PySem.W.Fast.tw16433418166706487625:True:=trivial
theorem PySem.W.Fast.tw10754256280370928371:True:=trivial
theorem PySem.W.Fast.tw9451913986860124215:True:=trivial
theorem PySem.W.Fast.tw12382968171211901896:True:=trivial
theorem PySem.W.Fast.tw14475107742364690848:True:=trivial
theorem PySem.W.Fast.tw4054357590944774004:True:=trivial
theorem PySem.W.Fast.tw1290586719227945354:True:=trivial
theorem PySem.W.Fast.tw11345974695629050379:True:=trivial
theorem PySem.W.Fast.tw4405365621384112886:True:=trivial
theorem PySem.W.Fast.tw11083437821926648013:True:=trivial
theorem PySem.W.Fast.tw2635763024748517115:True:=trivial
theorem PySem.W.Fast.tw12660108029147427424:True:=trivial
theorem PySem.W.Fast.tw17271954808937761547:True:=trivial
theorem PySem.W.Fast.tw3118193920330448063:True:=trivial
theorem PySem.W.Fast.tw18163530081143472149:True:=trivial
theorem PySem.W.Fast.tw9328136203819557817:True:=trivial
theorem PySem.W.Fast.tw7674807514635311743:True:=trivial
theorem PySem.W.Fast.tw4804991303096830913:True:=trivial
theorem PySem.W.Fast.tw5411735394672999559:True:=trivial
theorem PySem.W.Fast.tw14347571569794881812:True:=trivial
theorem PySem.W.Fast.tw16052474789445958343:True:=trivial
theorem PySem.W.Fast.tw15392404092905848636:True:=trivial
theorem PySem.W.Fast.tw7054174394324886753:True:=trivial
theorem PySem.W.Fast.tw5930302303621004405:True:=trivial
theorem PySem.W.Fast.tw13015068041635004985:True:=trivial
theorem PySem.W.Fast.tw1713152291453387208:True:=trivial
theorem PySem.W.Fast.tw1604900248687589987:True:=trivial
theorem PySem.W.Fast.tw8561770079030695481:True:=trivial
theorem PySem.W.Fast.tw1401518406261291156:True:=trivial
theorem PySem.W.Fast.tw7376114575548053450:True:=trivial
theorem PySem.W.Fast.tw8446347136655219077:True:=trivial
open PySem PySem.W PyProof.Rows
set_option maxRecDepth 100000 in
set_option maxHeartbeats 0 in
theorem PySem.Challenge.cw_cometorest_k57_rings_of_waiting_holds : PySem.Challenge.rw_cometorest_k57_rings_of_waiting.Holds := by
 w_on;o_law;k_head;(case hw=>w_witness2)
 k_fill
 refine L2.W.walk (l:=PySem.Challenge.rw_cometorest_k57_rings_of_waiting) rfl rfl (fun w h Y=>⟨PySem.W.km_in_of Y,PySem.W.km_tabs_of Y⟩) ?F
 case F =>
  intro w mg fa h KX G hmg;refine' L2.W.all_mk KX G hmg ?aC ?aCK ?aCR ?aCH ?aCT ?aCA ?aCC ?aCD ?aCN ?xN ?xU ?xP ?xF ?xCt ?xA ?xOk ?xRs ?xCk ?xWa ?xNf ?xRg ?xca ?xm ?xd ?xn ?xlw ?xlf ?xlx ?xIk ?xOr ?xOf ?xOw ?xRu ?xHa ?xTs ?xAs ?xap ?xlp ?xcp ?xkp ?xaL ?xlL ?xcL ?xkL ?aI ?iI ?lI ?cI ?lT ?kpg ?khd ?kpo ?ksa ?kmk ?kkc ?kno0 ?kno1 ?kno2 ?gpg ?ghd ?gpo ?gsa ?gmk ?gkc ?gno0 ?rpg ?rhd ?rpo ?rsa ?rmk ?rkc ?rno0 ?rno1 ?rno2 ?rno3 ?hpg ?hhd ?hpo ?hsa ?hmk ?hkc ?hno0 ?hno1 ?tpg ?thd ?tpo ?tsa ?tmk ?tkc ?apg ?ahd ?apo ?asa ?amk ?akc ?hn ?htk ?iha ?ihm ?ihki ?irha ?irhm ?irhki ?ihha ?ihhm ?ihhki ?itha ?ithm ?ithki ?iaha ?iahm ?iahki ?hts ?hcdp ?houtp ?hneCTCH ?hneCACH ?c0 ?c1 ?c2 ?xexN ?xemN ?xck ?xdk ?tin ?ain ?z_isinstance ?z_len ?z_all ?z_set ?z_range ?z_str ?z_list ?z_tuple ?z_zip ?z_dict ?z_min ?z_any
  (case aC=>k_is)
  (case aCK=>k_is)
  (case aCR=>k_is)
  (case aCH=>k_is)
  (case aCT=>k_is)
  (case aCA=>k_is)
  (case aCC=>k_is)
  (case aCD=>k_is)
  (case aCN=>k_is)
  (case xN=>apply L2.W.zBs;iterate 4 k_is)
  (case xU=>apply L2.W.zBs;iterate 4 k_is)
  (case xP=>apply L2.W.zBs;iterate 4 k_is)
  (case xF=>apply L2.W.zBs;iterate 4 k_is)
  (case xCt=>apply L2.W.zBs;iterate 4 k_is)
  (case xA=>apply L2.W.zBs;iterate 4 k_is)
  (case xOk=>apply L2.W.zBs;iterate 4 k_is)
  (case xRs=>apply L2.W.zBs;iterate 4 k_is)
  (case xCk=>apply L2.W.zBs;iterate 4 k_is)
  (case xWa=>apply L2.W.zBs;iterate 4 k_is)
  (case xNf=>apply L2.W.zBs;iterate 4 k_is)
  (case xRg=>apply L2.W.zBs;iterate 4 k_is)
  (case xca=>apply L2.W.zBs;iterate 4 k_is)
  (case xm=>apply L2.W.zBs;iterate 4 k_is)
  (case xd=>apply L2.W.zBs;iterate 4 k_is)
  (case xn=>apply L2.W.zBs;iterate 4 k_is)
  (case xlw=>apply L2.W.zBs;iterate 4 k_is)
  (case xlf=>apply L2.W.zBs;iterate 4 k_is)
  (case xlx=>apply L2.W.zBs;iterate 4 k_is)
  (case xIk=>apply L2.W.ml_mk;iterate 5 k_is)
  (case xOr=>apply L2.W.ml_mk;iterate 5 k_is)
  (case xOf=>apply L2.W.ml_mk;iterate 5 k_is)
  (case xOw=>apply L2.W.ml_mk;iterate 5 k_is)
  (case xRu=>apply L2.W.ml_mk;iterate 5 k_is)
  (case xHa=>apply L2.W.ml_mk;iterate 5 k_is)
  (case xTs=>apply L2.W.ml_mk;iterate 5 k_is)
  (case xAs=>apply L2.W.ml_mk;iterate 5 k_is)
  (case xap=>k_is)
  (case xlp=>k_is)
  (case xcp=>k_is)
  (case xkp=>k_is)
  (case xaL=>k_is)
  (case xlL=>k_is)
  (case xcL=>k_is)
  (case xkL=>k_is)
  (case aI=>k_is)
  (case iI=>k_is)
  (case lI=>k_is)
  (case cI=>k_is)
  (case lT=>k_is)
  (case kpg=>k_is)
  (case khd=>k_is)
  (case kpo=>k_is)
  (case ksa=>k_is)
  (case kmk=>k_is)
  (case kkc=>k_is)
  (case kno0=>k_is)
  (case kno1=>k_is)
  (case kno2=>k_is)
  (case gpg=>k_is)
  (case ghd=>k_is)
  (case gpo=>k_is)
  (case gsa=>k_is)
  (case gmk=>k_is)
  (case gkc=>k_is)
  (case gno0=>k_is)
  (case rpg=>k_is)
  (case rhd=>k_is)
  (case rpo=>k_is)
  (case rsa=>k_is)
  (case rmk=>k_is)
  (case rkc=>k_is)
  (case rno0=>k_is)
  (case rno1=>k_is)
  (case rno2=>k_is)
  (case rno3=>k_is)
  (case hpg=>k_is)
  (case hhd=>k_is)
  (case hpo=>k_is)
  (case hsa=>k_is)
  (case hmk=>k_is)
  (case hkc=>k_is)
  (case hno0=>k_is)
  (case hno1=>k_is)
  (case tpg=>k_is)
  (case thd=>k_is)
  (case tpo=>k_is)
  (case tsa=>k_is)
  (case tmk=>k_is)
  (case tkc=>k_is)
  (case apg=>k_is)
  (case ahd=>k_is)
  (case apo=>k_is)
  (case asa=>k_is)
  (case amk=>k_is)
  (case akc=>k_is)
  (case hn=>k_is)
  (case htk=>k_is)
  (case iha=>k_is)
  (case ihm=>k_is)
  (case ihki=>first | k_is | rfl | kernel_rfl | decide +kernel)
  (case irha=>k_is)
  (case irhm=>k_is)
  (case irhki=>first | k_is | rfl | kernel_rfl | decide +kernel)
  (case ihha=>k_is)
  (case ihhm=>k_is)
  (case ihhki=>first | k_is | rfl | kernel_rfl | decide +kernel)
  (case itha=>k_is)
  (case ithm=>k_is)
  (case ithki=>first | k_is | rfl | kernel_rfl | decide +kernel)
  (case iaha=>k_is)
  (case iahm=>k_is)
  (case iahki=>first | k_is | rfl | kernel_rfl | decide +kernel)
  (case hts=>rfl)
  (case hcdp=>first | k_is | rfl | kernel_rfl | decide +kernel)
  (case houtp=>first | k_is | rfl | kernel_rfl | decide +kernel)
  (case hneCTCH=>decide)
  (case hneCACH=>decide)
  (case c0=>k_is)
  (case c1=>k_is)
  (case c2=>k_is)
  (case xexN=>first | k_is | rfl | kernel_rfl | decide +kernel)
  (case xemN=>first | k_is | rfl | kernel_rfl | decide +kernel)
  (case xck=>first | k_is | rfl | kernel_rfl | decide +kernel)
  (case xdk=>first | k_is | rfl | kernel_rfl | decide +kernel)
  (case tin=>first | k_is | rfl | kernel_rfl | decide +kernel)
  (case ain=>first | k_is | rfl | kernel_rfl | decide +kernel)
  (case z_isinstance=>k_is)
  (case z_len=>k_is)
  (case z_all=>k_is)
  (case z_set=>k_is)
  (case z_range=>k_is)
  (case z_str=>k_is)
  (case z_list=>k_is)
  (case z_tuple=>k_is)
  (case z_zip=>k_is)
  (case z_dict=>k_is)
  (case z_min=>k_is)
  (case z_any=>k_is)
