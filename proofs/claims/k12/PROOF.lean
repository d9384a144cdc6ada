import PyProof.Rows.All
import Wide.All
import OpenK.AllK
import Wide.FinOn
import Lean
import PyProof.EqAt
import PyProof.EqKinds
import PyProof.TupleCall
import PySem.Challenge.RW_cometorest_k12_what_makes_no_wishes
import KE.KMinKey
import KE.KLam
import KE.KNestM
import KE.KDictList
import PyProof.EnumMake
import PyProof.EnumFor
import PyProof.EnumStmt
import PyProof.AttrMissHeap
import KE.KDictOf
import PyProof.StrLawsChain
import PyProof.StrLawsTight
import PyProof.Rows.StrItems
import PyProof.Rows.StrSplitCount
import PyProof.FString
import KE.KIntText
import KE.KTryMore
import PyProof.NsDelKeeps
import PyProof.ExcClass3
import PyProof.ExcBaseAll.ValueError
import PyProof.ExcAttrAll.ValueError
import PyProof.NeKinds
import PyProof.FactsAll.dict
import KE.KDictSum
import PyProof.DictItems
import KE.KPairComp
import KE.KxWritten
import PyProof.SumAny
set_option Elab.async false
set_option linter.all false
set_option maxRecDepth 100000
abbrev Z0:=@List.length_map
abbrev Z1:=@List.getElem?_eq_getElem
abbrev Z2:=@PySem.Heap.get?_push_of_some
abbrev Z3:=@List.mem_of_getElem?
abbrev Z4:=@List.getElem?_map
abbrev Z5:=@Nat.le_refl
abbrev Z6:=@List.mem_cons_of_mem
abbrev Z7:=@List.length_append
abbrev Z8:=@List.map_cons
abbrev Z9:=@PySem.Heap.lt_size
abbrev Za:=@List.map_append
abbrev Zb:=@List.mem_cons_self
abbrev Zc:=@List.size_toArray
abbrev Zd:=@List.take_add_one
abbrev Ze:=@PySem.Heap.get?_push_size
abbrev Zf:=@Nat.lt_of_lt_of_le
abbrev Zg:=@Nat.ne_of_lt
abbrev Zh:=@List.take_length
abbrev Zi:=@Bool.false_ne_true
abbrev Zj:=@List.length_cons
abbrev Zk:=@Option.some.inj
abbrev Zl:=@Nat.le_trans
abbrev Zm:=@Nat.le_of_lt
abbrev Zn:=@List.map_map
abbrev Zo:=@Nat.zero_le
abbrev Zp:=@List.not_mem_nil
abbrev Zq:=@List.getElem?_append_left
abbrev Zr:=@List.length_take
abbrev Zt:=@List.length_take_le
abbrev Zu:=@List.getElem_of_mem
abbrev Zv:=@Bool.and_eq_true
abbrev Zw:=@List.mem_cons
abbrev Zx:=@List.mem_append_right
abbrev Zy:=@List.length_take_le'
abbrev Zz:=@List.getElem?_append_right
abbrev Y0:=@Nat.lt_irrefl
abbrev Y1:=@List.flatMap_cons
abbrev Y2:=@List.lookup_cons
abbrev Y3:=@Array.length_toList
abbrev Y4:=@Bool.and_false
abbrev Y5:=@List.foldl_cons
abbrev Y6:=@List.replicate_succ
abbrev Y7:=@List.length_range
abbrev Y8:=@List.length_replicate
abbrev Y9:=@PySem.Heap.size_push
abbrev Ya:=@List.filterMap_cons
abbrev Yb:=@Nat.lt_succ_self
abbrev Yc:=@List.all_eq_true
abbrev Yd:=@List.getElem?_take_of_lt
abbrev Ye:=@Nat.lt_succ_of_lt
abbrev Yf:=@List.getElem?_inj
abbrev Yg:=@List.find?_cons
abbrev Yh:=@List.sum_cons
abbrev Yi:=@Nat.lt_of_le_of_lt
abbrev Yj:=@Array.getElem?_toList
abbrev Yk:=@PySem.Heap.get?_none_of_le
abbrev Yl:=@List.mem_append_left
abbrev Ym:=@Int.toNat_natCast
abbrev Yn:=@List.all_cons
abbrev Yo:=@List.length_drop
abbrev Yp:=@Option.getD_some
abbrev Yq:=@Nat.le_succ
abbrev Yr:=@PySem.Heap.get?_update_other
abbrev Ys:=@Nat.succ_mul
abbrev Yt:=@List.all_map
abbrev Yu:=@List.filter_append
abbrev Yv:=@List.nodup_cons
abbrev Yw:=@List.length_filter_le
abbrev Yx:=@List.getElem?_eq_none
abbrev Yy:=@List.flatten_cons
abbrev Yz:=@List.getElem_take
abbrev X0:=@List.getElem?_set_ne
abbrev Xa:=@List.nodup_nil
abbrev Xb:=@Nat.mod_lt
abbrev Xc:=@List.mem_of_mem_take
abbrev Xd:=@Nat.ne_of_gt
abbrev Xe:=@List.any_cons
abbrev Xf:=@List.map_take
abbrev Xg:=@Bool.eq_iff_iff
abbrev Xh:=@List.length_nil
abbrev Xi:=@Bool.false_eq_true
abbrev Xj:=@List.filterMap_map
abbrev Xk:=@Int.emod_lt_of_pos
abbrev Xl:=@List.reverse_cons
abbrev Xm:=@Bool.true_and
abbrev Xn:=@Nat.add_assoc
namespace L2
open PySem PySem.Spec PyProof.Rows
noncomputable abbrev Key:=Sum Int Str
noncomputable def keyIs:Key→Value→Bool
 | .inl k,v=>Value.isInt k v
 | .inr x,v=>Value.isStrOf x v
noncomputable def keyH (w:World):Key→Int
 | .inl k=>hashInt k
 | .inr x=>hashStr w x
theorem zAz:∀ {k:Key}{v:Value},keyIs k v=true→(∃ i t,k=Sum.inl i∧v=Value.int i t)∨(∃ x t,k=Sum.inr x∧v=Value.str x t)
 | .inl i,v,h=>by
  obtain ⟨t,e⟩:=Value.isInt_shape (k:=i) (v:=v) h;exact .inl ⟨i,t,rfl,e⟩
 | .inr x,v,h=>by
  obtain ⟨t,e⟩:=Value.isStrOf_shape (x:=x) (v:=v) h;exact .inr ⟨x,t,rfl,e⟩
theorem keyIs_int (i:Int) (t:Tok):keyIs (.inl i) (.int i t)=true:=by simp [keyIs,Value.isInt]
theorem keyIs_str (x:Str) (t:Tok):keyIs (.inr x) (.str x t)=true:=by simp [keyIs,Value.isStrOf]
theorem key_ll (a b:Int):decide ((Sum.inl a:Key)=Sum.inl b)=(a == b):=by
 by_cases e:a=b
 ·subst e;simp
 ·have h:¬ (Sum.inl a:Key)=Sum.inl b:=fun q=>e (Sum.inl.inj q);rw [decide_eq_false h];exact (beq_eq_false_iff_ne.mpr e).symm
theorem key_rr (a b:Str):decide ((Sum.inr a:Key)=Sum.inr b)=decide (a=b):=by
 by_cases e:a=b
 ·subst e;simp
 ·have h:¬ (Sum.inr a:Key)=Sum.inr b:=fun q=>e (Sum.inr.inj q);rw [decide_eq_false h,decide_eq_false e]
theorem key_lr (a:Int) (b:Str):decide ((Sum.inl a:Key)=Sum.inr b)=false:=decide_eq_false (fun q=>nomatch q)
theorem key_rl (a:Str) (b:Int):decide ((Sum.inr a:Key)=Sum.inl b)=false:=decide_eq_false (fun q=>nomatch q)
noncomputable def mixKind (prog:Program) (w:World):PySem.KeyKind prog w Key where
 is:=keyIs
 hash:=keyH w
 inj:=fun v a b ha hb=>by
  rcases zAz ha with ⟨i,t,rfl,rfl⟩ | ⟨x,t,rfl,rfl⟩
  ·rcases zAz hb with ⟨j,u,rfl,e⟩ | ⟨y,u,rfl,e⟩
   ·injection e with e1 _;rw [e1]
   ·exact nomatch e
  ·rcases zAz hb with ⟨j,u,rfl,e⟩ | ⟨y,u,rfl,e⟩
   ·exact nomatch e
   ·injection e with e1 _;rw [e1]
 byValue:=fun k v h=>by
  rcases zAz h with ⟨i,t,rfl,rfl⟩ | ⟨x,t,rfl,rfl⟩ <;> rfl
 pyHash:=fun hv h=>by
  rcases zAz hv with ⟨i,t,rfl,rfl⟩ | ⟨x,t,rfl,rfl⟩
  ·exact wpAny_pyHash_int h
  ·exact wpAny_pyHash_str h
 eqBool:=fun hu hv h=>by
  rcases zAz hu with ⟨i,t,rfl,rfl⟩ | ⟨x,t,rfl,rfl⟩
  ·rcases zAz hv with ⟨j,u,rfl,rfl⟩ | ⟨y,u,rfl,rfl⟩
   ·rw [key_ll] at h;exact wpAny_eqBool_int h
   ·rw [key_lr] at h;exact SeqAt.EqAt.int_str i t y u _ _ _ _ h
  ·rcases zAz hv with ⟨j,u,rfl,rfl⟩ | ⟨y,u,rfl,rfl⟩
   ·rw [key_rl] at h;exact SeqAt.EqAt.str_int x t j u _ _ _ _ h
   ·rw [key_rr] at h;exact wpAny_eqBool_str h
 «strs»:=fun k x t v h=>by
  rcases zAz h with ⟨i,u,rfl,e⟩ | ⟨y,u,rfl,e⟩
  ·exact nomatch e
  ·injection e with e1 _;subst e1;cases v <;> rfl
theorem mixKind_int (prog:Program) (w:World) (i:Int) (t:Tok):(mixKind prog w).is (.inl i) (.int i t)=true:=keyIs_int i t
theorem mixKind_str (prog:Program) (w:World) (x:Str) (t:Tok):(mixKind prog w).is (.inr x) (.str x t)=true:=keyIs_str x t
end L2
namespace L2
open PySem PySem.Spec PyProof.Rows
inductive V where
 | non | bl (b:Bool) | int (i:Int) | str (x:Str) | byt (b:Array UInt8) | flt (b:UInt64) | ref (a:Addr) | ty (n:String)
 deriving DecidableEq
noncomputable def RelV:V→Value→Prop
 | .non,u=>u=Value.none
 | .bl b,u=>u=Value.bool b
 | .int i,u=>∃ t,u=Value.int i t
 | .str x,u=>∃ t,u=Value.str x t
 | .byt b,u=>∃ t,u=Value.bytes b t
 | .flt b,u=>∃ t,u=Value.float b t
 | .ref a,u=>u=Value.ref a
 | .ty n,u=>u=Value.type n
noncomputable abbrev Vals:List V→List Value→Prop:=Paired RelV
theorem Vals.length {xs:List V}{us:List Value} (r:Vals xs us):xs.length=us.length:=Paired.length r
theorem Vals.get:∀ {xs:List V}{us:List Value}{i:Nat}{x:V},Vals xs us→xs[i]? = some x→∃ u,us[i]? = some u∧RelV x u
 | _,_,_,_,.nil,e=>by simp at e
 | _,_,0,_,.cons r _,e=>by simp at e;subst e;exact ⟨_,rfl,r⟩
 | _,_,i + 1,x,.cons _ t,e=>by
  obtain ⟨u,h1,h2⟩:=Vals.get (i:=i) (x:=x) t (by simpa using e);exact ⟨u,by simpa using h1,h2⟩
theorem Vals.set {x:V}{u:Value} (r:RelV x u):∀ {xs:List V}{us:List Value} (i:Nat),Vals xs us→Vals (xs.set i x) (us.set i u)
 | _,_,_,.nil=>.nil
 | _,_,0,.cons _ t=>.cons r t
 | _,_,i + 1,.cons q t=>.cons q (Vals.set r i t)
theorem Vals.append:∀ {xs ys:List V}{us ws:List Value},Vals xs us→Vals ys ws→Vals (xs++ys) (us++ws)
 | _,_,_,_,.nil,s=>s
 | _,_,_,_,.cons r t,s=>.cons r (Vals.append t s)
theorem Vals.take:∀ {xs:List V}{us:List Value} (n:Nat),Vals xs us→Vals (xs.take n) (us.take n)
 | _,_,0,_=>.nil
 | _,_,_ + 1,.nil=>.nil
 | _,_,n + 1,.cons r t=>.cons r (Vals.take n t)
theorem Vals.drop:∀ {xs:List V}{us:List Value} (n:Nat),Vals xs us→Vals (xs.drop n) (us.drop n)
 | _,_,0,r=>r
 | _,_,_ + 1,.nil=>.nil
 | _,_,n + 1,.cons _ t=>Vals.drop n t
noncomputable def RelO:Option V→Option Value→Prop
 | some v,some u=>RelV v u
 | none,none=>True
 | _,_=>False
noncomputable def KV {κ : Type}:List (κ×V)→List (κ×Value)→Prop:=Paired fun (p : κ×V) (q : κ×Value)=>p.1=q.1∧RelV p.2 q.2
noncomputable def kV:Key→V
 | .inl i=>.int i
 | .inr x=>.str x
inductive HO where
 | lst (xs:List V)
 | tup (xs:List V)
 | dK (kvs:List (Key×V)) | dT (kvs:List (List Key×V))
 | set (S:Int→Bool) (n:Nat)
 | ins (C dx:Addr) (fs:List (Str×V))
 | own (x:Addr)
 | xd (fs:List (Str×V))
 | met (f x:Addr)
 | rng (lo hi:Int)
 | frz (o:Obj) (u:HO)
 | tbl (ps:Array Value)
 | ext (φ : Heap→Prop)
noncomputable abbrev Hp:=Addr→Option HO
noncomputable def upd (H:Hp) (a:Addr) (o:HO):Hp:=fun b=>if b=a then some o else H b
theorem zA1 {H:Hp}{a:Addr}{o:HO}:upd H a o a=some o:=by unfold upd;rw [if_pos rfl]
theorem zA8 {H:Hp}{a b:Addr}{o:HO} (h:b≠a):upd H a o b=H b:=by unfold upd;rw [if_neg h]
theorem upd_upd {H:Hp}{a:Addr}{o u:HO}:upd (upd H a o) a u=upd H a u:=by
 funext b;unfold upd;split <;> rfl
theorem zBe {H:Hp}{a b:Addr}{o u:HO} (h:H a=some o) (h':H b=some u) (d:o≠u):a≠b:=by
 intro e;subst e;rw [h] at h';exact d (Zk h')
theorem zA5 {H:Hp}{a b:Addr}{o:HO} (h:H a=some o) (h':H b=none):a≠b:=by
 intro e;subst e;rw [h] at h';cases h'
section
variable (P:Program) (w:World)
noncomputable def ObjOk (H:Hp) (h:Heap) (a:Addr):HO→Prop
 | .lst xs=>xs.length≤sizeLine∧∃ (its:List Value) (n:Nat),Vals xs its∧h.get? a=some { cls:=.type "list",data:=.seq its.toArray n }
 | .tup xs=>xs.length≤sizeLine∧∃ its:List Value,Vals xs its∧IsTup h a its.toArray
 | .dK kvs=>kvs.length≤sizeLine∧(a == sysModules)=false∧∃ vs,KV kvs vs∧h.DictOf (mixKind P w) a vs
 | .dT kvs=>kvs.length≤sizeLine∧(a == sysModules)=false∧∃ xs:List (List Key×Addr×Value),
   Paired (fun (p:List Key×V) (q:List Key×Addr×Value)=>p.1=q.1∧H q.2.1=some (.tup (p.1.map kV))∧RelV p.2 q.2.2) kvs xs ∧
   ∃ o es ep,h.get? a=some o∧o.ExactDict∧o.data=.dict es ep∧es.toList=xs.map (entryOfKey (tupleKind (mixKind P w)))∧(xs.map (·.1)).Nodup
 | .set S n=>h.SetOf (intKind P w) a S n
 | .ins C dx fs=>H dx=some (.own a)∧fs.length≤1000∧dx≠a∧h.get? a=some (PySem.W.instObj C dx) ∧
   ∃ mA,h.Ns1 dx mA∧(∀ f,RelO (fs.lookup f) (mA f))∧PySem.Within mA (fs.map (·.1))
 | .own _=>∃ o,h.get? a=some o
 | .xd fs=>∃ mA,h.Ns1 a mA∧∀ f,RelO (fs.lookup f) (mA f)
 | .rng lo hi=>∃ t u v,h.get? a=some { cls:=.type "range",data:=.fields #[.int lo t,.int hi u,.int 1 v] }
 | .frz o u=>h.get? a=some o∧ObjOk H h a u
 | .tbl ps=>h.get? a=some { cls:=.none,data:=.fields ps }
 | .met f x=>h.get? a=some (PySem.W.methodObj (.ref f) (.ref x))
 | .ext φ=>φ h∧(∃ o,h.get? a=some o)∧∀ h1 h2:Heap,φ h1→(∀ o,h1.get? a=some o→h2.get? a=some o)→φ h2
noncomputable def HOk (H:Hp) (h:Heap):Prop:=∀ a o,H a=some o→ObjOk P w H h a o
end
section
variable {P:Program}{w:World}{H H':Hp}{h h':Heap}{a:Addr}{o:HO}
theorem ObjOk.lt (x:ObjOk P w H h a o):a < h.objs.size:=by
 cases o with
 | lst xs=>obtain ⟨_,_,_,_,e⟩:=x;exact Z9 e
 | tup xs=>obtain ⟨_,_,_,p⟩:=x;exact p.lt
 | dK kvs=>obtain ⟨_,_,_,_,o,_,_,e,_⟩:=x;exact Z9 e
 | dT kvs=>obtain ⟨_,_,_,_,o,_,_,e,_⟩:=x;exact Z9 e
 | set S n=>obtain ⟨o,_,_,_,e,_⟩:=x;exact Z9 e
 | ins C dx fs=>obtain ⟨_,_,_,e,_⟩:=x;exact Z9 e
 | own y=>obtain ⟨_,e⟩:=x;exact Z9 e
 | xd fs=>obtain ⟨_,⟨_,_,_,e,_⟩,_⟩:=x;exact Z9 e
 | rng lo hi=>obtain ⟨_,_,_,e⟩:=x;exact Z9 e
 | frz ob u=>obtain ⟨e,_⟩:=x;exact Z9 e
 | tbl ps=>exact Z9 (show h.get? a=some _ from x)
 | met f y=>exact Z9 (show h.get? a=some _ from x)
 | ext φ=>obtain ⟨_,⟨_,e⟩,_⟩:=x;exact Z9 e
theorem Paired.mapP {α β : Type}{F G : α→β→Prop}:∀ {l₁ : List α}{l₂ : List β},Paired F l₁ l₂→(∀ a b,F a b→G a b)→Paired G l₁ l₂
 | _,_,.nil,_=>.nil
 | _,_,.cons r t,f=>.cons (f _ _ r) (Paired.mapP t f)
theorem ObjOk.stay (x:ObjOk P w H h a o) (k:∀ b u,(b=a∨H b=some (.own a))→h.get? b=some u→h'.get? b=some u)
  (ho:∀ b,H b=some (.own a)→H' b=some (.own a)) (ht:∀ b xs,H b=some (.tup xs)→H' b=some (.tup xs)):ObjOk P w H' h' a o:=by
 induction o with
 | lst xs=>obtain ⟨z,its,n,r,e⟩:=x;exact ⟨z,its,n,r,k _ _ (.inl rfl) e⟩
 | tup xs=>obtain ⟨z,its,r,ob,e,c⟩:=x;exact ⟨z,its,r,ob,k _ _ (.inl rfl) e,c⟩
 | dK kvs=>obtain ⟨z,y,vs,r,ob,es,ep,e,c⟩:=x;exact ⟨z,y,vs,r,ob,es,ep,k _ _ (.inl rfl) e,c⟩
 | dT kvs =>
  obtain ⟨z,y,xs,r,ob,es,ep,e,c⟩:=x;exact ⟨z,y,xs,Paired.mapP r fun p q z=>⟨z.1,ht _ _ z.2.1,z.2.2⟩,ob,es,ep,k _ _ (.inl rfl) e,c⟩
 | set S n=>obtain ⟨ob,es,ep,t,e,c⟩:=x;exact ⟨ob,es,ep,t,k _ _ (.inl rfl) e,c⟩
 | ins C dx fs =>
  obtain ⟨d,z,ne,e,mA,⟨od,es,ep,e2,c⟩,r⟩:=x;exact ⟨ho _ d,z,ne,k _ _ (.inl rfl) e,mA,⟨od,es,ep,k _ _ (.inr d) e2,c⟩,r⟩
 | own y=>obtain ⟨ob,e⟩:=x;exact ⟨ob,k _ _ (.inl rfl) e⟩
 | xd fs=>obtain ⟨mA,⟨od,es,ep,e,c⟩,r⟩:=x;exact ⟨mA,⟨od,es,ep,k _ _ (.inl rfl) e,c⟩,r⟩
 | rng lo hi=>obtain ⟨t,u,v,e⟩:=x;exact ⟨t,u,v,k _ _ (.inl rfl) e⟩
 | frz ob u ih=>obtain ⟨e,q⟩:=x;exact ⟨k _ _ (.inl rfl) e,ih q⟩
 | tbl ps =>
  have e:h.get? a=some { cls:=.none,data:=.fields ps }:=x;show h'.get? a=some { cls:=.none,data:=.fields ps };exact k a _ (.inl rfl) e
 | met f y =>
  have e:h.get? a=some (PySem.W.methodObj (.ref f) (.ref y)):=x;show h'.get? a=some (PySem.W.methodObj (.ref f) (.ref y));exact k a _ (.inl rfl) e
 | ext φ=>obtain ⟨p,⟨o,e⟩,st⟩:=x;exact ⟨st _ _ p fun o q=>k _ _ (.inl rfl) q,⟨o,k _ _ (.inl rfl) e⟩,st⟩
theorem HOk.lt (x:HOk P w H h) (e:H a=some o):a < h.objs.size:=(x a o e).lt
theorem HOk.fresh (x:HOk P w H h) (e:h.objs.size≤a):H a=none:=by
 cases q:H a with
 | none=>rfl
 | some u=>exact absurd (Zf (x.lt q) e) (Y0 _)
theorem HOk.kept (x:HOk P w H h) (k:∀ b u,h.get? b=some u→h'.get? b=some u):HOk P w H h':=fun a o e =>
 (x a o e).stay (fun b u _ q=>k b u q) (fun _ q=>q) fun _ _ q=>q
theorem HOk.laid (x:HOk P w H h) (k:∀ b u,h.get? b=some u→h'.get? b=some u) (hp:h.objs.size≤a) (new:ObjOk P w (upd H a o) h' a o):HOk P w (upd H a o) h':=fun b u e=>by
 have hn:=x.fresh hp;by_cases hb:b=a
 ·subst hb;rw [zA1] at e;cases e;exact new
 ·rw [zA8 hb] at e;exact (x b u e).stay (fun c v _ q=>k c v q) (fun c q=>by rw [zA8 (zA5 q hn)];exact q) fun c xs q=>by rw [zA8 (zA5 q hn)];exact q
end
noncomputable def Rd (H:Hp) (a:Addr) (u:HO):Prop:=H a=some u∨∃ o,H a=some (.frz o u)
theorem Rd.ok {P:Program}{w:World}{H:Hp}{h:Heap}{a:Addr}{u:HO} (r:Rd H a u) (x:HOk P w H h):ObjOk P w H h a u:=by
 rcases r with r | ⟨o,r⟩
 ·exact x a u r
 ·obtain ⟨_,q⟩:=x a _ r;exact q
noncomputable def Mut:Option HO→Prop
 | some (.lst _)=>True
 | some (.dK _)=>True
 | some (.dT _)=>True
 | some (.set _ _)=>True
 | some (.ins _ _ _)=>True
 | some (.ext _)=>True
 | _=>False
section
variable {P:Program}{w:World}{H:Hp}{h h':Heap}{x e:Addr}{o':HO}
theorem HOk.write (ok:HOk P w H h) (mu:Mut (H x)) (he:e=x∨H e=some (.own x)) (k:∀ b u,b≠e→h.get? b=some u→h'.get? b=some u) (heo:∃ u,h'.get? e=some u)
  (new:ObjOk P w (upd H x o') h' x o'):HOk P w (upd H x o') h':=fun b u q=>by
 have nown:∀ c y,H c=some (.own y)→c≠x:=fun c y r z=>by subst z;rw [r] at mu;exact mu
 have ntup:∀ c xs,H c=some (.tup xs)→c≠x:=fun c xs r z=>by subst z;rw [r] at mu;exact mu
 by_cases hb:b=x
 ·subst hb;rw [zA1] at q;cases q;exact new
 ·rw [zA8 hb] at q;by_cases hbe:b=e
  ·have q':H b=some (.own x):=by
    rcases he with z | z
    ·exact absurd (hbe.trans z) hb
    ·rw [hbe];exact z
   rw [q] at q';cases q';obtain ⟨v,hv⟩:=heo;exact ⟨v,by rw [hbe];exact hv⟩
  ·refine (ok b u q).stay (fun c v hc r=>k c v ?_ r) (fun c r=>by rw [zA8 (nown c b r)];exact r) fun c xs r=>by rw [zA8 (ntup c xs r)];exact r
   rcases hc with rfl | hc
   ·exact hbe
   ·rintro rfl;rcases he with z | z
    ·exact nown c b hc z
    ·rw [hc] at z;cases z;exact hb rfl
end
structure Un (fs ex:List Addr) (H H':Hp) (h h':Heap):Prop where
 keep:∀ b o,h.get? b=some o→H b=none→b∉fs→b∉ex→h'.get? b=some o
 slot:∀ b o,h.get? b=some o→H b=none→b∈fs→b∉ex→∃ sl,h'.get? b=some { o with slots:=sl }
 free:∀ b o,h.get? b=some o→H b=none→b∉ex→H' b=none
 there:∀ b o,h.get? b=some o→b∉ex→∃ o',h'.get? b=some o'
 tups:∀ b xs,H b=some (.tup xs)→H' b=some (.tup xs)
 frzs:∀ b o u,H b=some (.frz o u)→H' b=some (.frz o u)
 tbls:∀ b ps,H b=some (.tbl ps)→∃ more,H' b=some (.tbl (ps++more))
section
variable {fs fs' ex ex':List Addr}{H H1 H2:Hp}{h h1 h2 h':Heap}{a x e:Addr}{o:HO}
theorem Un.any (u:Un fs ex H H1 h h1) {b:Addr}{ob:Obj} (q:h.get? b=some ob) (n:H b=none) (hx:b∉ex):∃ sl,h1.get? b=some { ob with slots:=sl }:=by
 by_cases hb:b∈fs
 ·exact u.slot b ob q n hb hx
 ·exact ⟨ob.slots,u.keep b ob q n hb hx⟩
theorem Un.trans (a:Un fs ex H H1 h h1) (b:Un fs ex H1 H2 h1 h2):Un fs ex H H2 h h2 where
 keep:=fun c ob q n hc hx=>b.keep c ob (a.keep c ob q n hc hx) (a.free c ob q n hx) hc hx
 slot:=fun c ob q n hc hx=>by
  obtain ⟨sl,e1⟩:=a.slot c ob q n hc hx;obtain ⟨sl',e2⟩:=b.slot c _ e1 (a.free c ob q n hx) hc hx;exact ⟨sl',e2⟩
 free:=fun c ob q n hx=>by
  obtain ⟨o',e1⟩:=a.there c ob q hx;exact b.free c o' e1 (a.free c ob q n hx) hx
 there:=fun c ob q hx=>by
  obtain ⟨o',e1⟩:=a.there c ob q hx;exact b.there c o' e1 hx
 tups:=fun c xs q=>b.tups c xs (a.tups c xs q)
 frzs:=fun c ob xs q=>b.frzs c ob xs (a.frzs c ob xs q)
 tbls:=fun c ps q=>by
  obtain ⟨m1,e1⟩:=a.tbls c ps q;obtain ⟨m2,e2⟩:=b.tbls c _ e1;exact ⟨m1++m2,by rw [e2,Array.append_assoc]⟩
theorem Un.kept (k:∀ b u,h.get? b=some u→h'.get? b=some u):Un fs ex H H h h' :=
 ⟨fun b ob q _ _ _=>k b ob q,fun b ob q _ _ _=>⟨ob.slots,k b ob q⟩,fun _ _ _ n _=>n,fun b ob q _=>⟨ob,k b ob q⟩,fun _ _ q=>q,fun _ _ _ q=>q,fun _ ps q=>⟨#[],by rw [q];simp⟩⟩
theorem Un.refl:Un fs ex H H h h:=Un.kept fun _ _ q=>q
theorem Un.laid (k:∀ b u,h.get? b=some u→h'.get? b=some u) (hp:h.objs.size≤a) (hn:H a=none):Un fs ex H (upd H a o) h h' where
 keep:=fun b u q _ _ _=>k b u q
 slot:=fun b u q _ _ _=>⟨u.slots,k b u q⟩
 free:=fun b u q n _=>by rw [zA8 (Zg (Zf (Z9 q) hp))];exact n
 there:=fun b u q _=>⟨u,k b u q⟩
 tups:=fun b xs q=>by rw [zA8 (zA5 q hn)];exact q
 frzs:=fun b u xs q=>by rw [zA8 (zA5 q hn)];exact q
 tbls:=fun b ps q=>⟨#[],by rw [zA8 (zA5 q hn),q];simp⟩
theorem Un.write (mu:Mut (H x)) (he:e=x∨H e=some (.own x)) (k:∀ b u,b≠e→h.get? b=some u→h'.get? b=some u) (heo:∃ u,h'.get? e=some u):Un fs ex H (upd H x o) h h':=by
 have hx:∀ b,H b=none→b≠x:=fun b n z=>by subst z;rw [n] at mu;exact mu
 have hb:∀ b,H b=none→b≠e:=fun b n z=>by
  subst z;rcases he with r | r
  ·exact hx b n r
  ·rw [n] at r;cases r
 have hm:∀ b u,H b=some u→¬ Mut (some u)→b≠x:=fun b u q nm z=>by subst z;rw [q] at mu;exact nm mu
 refine ⟨fun b u q n _ _=>k b u (hb b n) q,fun b u q n _ _=>⟨u.slots,k b u (hb b n) q⟩,fun b u q n _=>by rw [zA8 (hx b n)];exact n,fun b u q _=>?_,
  fun b xs q=>by rw [zA8 (hm b _ q fun z=>z)];exact q,fun b u xs q=>by rw [zA8 (hm b _ q fun z=>z)];exact q,fun b ps q=>⟨#[],by rw [zA8 (hm b _ q fun z=>z),q];simp⟩⟩
 by_cases hbe:b=e
 ·subst hbe;exact heo
 ·exact ⟨u,k b u hbe q⟩
end
noncomputable def trk (h:Heap) (H:Hp):List Addr:=(List.range h.objs.size).filter fun a=>(H a).isSome
noncomputable def hidT (h:Heap) (H:Hp):Heap:=PySem.W.hideAll h (trk h H)
theorem hidT_size (h:Heap) (H:Hp):(hidT h H).objs.size=h.objs.size:=PySem.W.hideAll_size _ _
theorem hidT_get {h:Heap}{H:Hp}{b:Addr}{o:Obj} (e:h.get? b=some o) (n:H b=none):(hidT h H).get? b=some o :=
 PySem.W.hideAll_get _ e fun hm=>by
  have q:(H b).isSome=true:=(List.mem_filter.mp hm).2;rw [n] at q;simp at q
theorem of_hidT {h:Heap}{H:Hp}{b:Addr}{o:Obj} (e:(hidT h H).get? b=some o):h.get? b=some o∧H b=none:=by
 have e':h.get? b=some o:=PySem.W.of_hideAll (trk h H) e;refine ⟨e',?_⟩;cases q:H b with
 | none=>rfl
 | some x =>
  have hm:b∈trk h H:=List.mem_filter.mpr ⟨List.mem_range.mpr (Z9 e'),by simp [q]⟩;have z:(hidT h H).get? b=none:=PySem.W.hideAll_none (trk h H) hm;rw [z] at e;cases e
noncomputable def allNews (g h:Heap) (L:Addr):List (Addr×Obj):=(List.range h.objs.size).filterMap fun a=>if a=L∨(g.get? a).isSome=true then none else (h.get? a).map fun o=>(a,o)
noncomputable def rest (g h:Heap) (L d:Addr):List (Addr×Obj):=(allNews g h L).filter fun p=>decide (p.1≠d)
end L2
namespace L2
open PySem PySem.Spec PyProof.Rows
structure Mod (K:PySem.W.Frag) (mg:Str→Option Value) (base:Heap):Prop where
 kin:K.In base
 glob:base.Ns mainGlobals mg
 blt:∃ mb,base.Ns builtinsNs mb∧∀ x:Str,x≠"__name__"→mb x=bootBuiltins x
 nolimit:base.NoLimit
structure Cx where
 prog:Program
 w:World
 K:PySem.W.Frag
 mg:Str→Option Value
 base:Heap
 A:Around
 N:List Str
 s₀ : Shared
 H₀ : Hp
 env:Env
 outer:List Env
 stack:List Env
 ex:List Addr
 fn:Str→Bool
 calm:Bool
 pn:List (Addr×Obj)
 xe:Value→Shared→Prop
noncomputable def frs (l:List Env):List Addr:=l.filterMap (·.frame)
noncomputable abbrev Cx.fs (X:Cx):List Addr:=frs X.outer
noncomputable def Vis (sc:Scope) (x:Str):Prop:=sc.names.lookup x=some .local∨sc.names.lookup x=some .cell∨sc.names.lookup x=some .free
noncomputable def Loc (sc:Scope) (x:Str):Prop:=sc.names.lookup x=some .local∨sc.names.lookup x=some .cell
noncomputable def Look (env:Env) (h:Heap) (m:Str→Option Value) (x:Str) (u:Value):Prop :=
 (env.kindOf x=some .local∧m x=some u)∨((env.kindOf x=some .cell∨env.kindOf x=some .free)∧∃ c,env.cells.lookup x=some c∧h.IsCell c (some u))
structure Cx.Ok (X:Cx):Prop where
 mod:Mod X.K X.mg X.base
 kind:X.env.scope.kind=.function
 glob:X.env.globals=mainGlobals
 blt:X.env.builtins=builtinsNs
 above:X.s₀.heap.objs.size≤X.env.locals
 inj:∀ x y c,X.env.cells.lookup x=some c→X.env.cells.lookup y=some c→x=y
 has:∀ x,(X.env.kindOf x=some .cell∨X.env.kindOf x=some .free)→∃ c,X.env.cells.lookup x=some c
 cab:∀ x c,X.fn x=true→X.env.cells.lookup x=some c→X.s₀.heap.objs.size≤c
 hd:X.calm=true→X.A.handled=none
 frames:X.A.frames=some X.stack
 stk:X.stack=X.outer∨(X.stack=X.env :: X.outer∧X.env.frame=some X.env.locals)
 exf:∀ b∈X.ex,b≠X.env.locals∧∀ x c,X.env.cells.lookup x=some c→c≠b
 bs:∀ b o,X.base.get? b=some o→X.s₀.heap.get? b=some o∧X.H₀ b=none
 bsz:X.base.objs.size≤X.s₀.heap.objs.size
 noex:∀ b o,X.base.get? b=some o→b∉X.ex
 exfs:∀ b∈X.ex,b∉X.fs
 funs:X.s₀.heap.FunFrames X.base X.outer
 frf:∀ b∈X.fs,X.H₀ b=none
structure Inv (X:Cx) (pins:List (Addr×Obj)) (σ : List (Option V)) (H:Hp) (s:Shared):Prop where
 ok:X.Ok
 os:s.os=X.s₀.os
 bare:AllBare s.gens
 base:Un X.fs X.ex X.H₀ H X.s₀.heap s.heap
 loc:∃ m,s.heap.Ns X.env.locals m∧∀ (i:Nat) (x:Str) (v:V),X.N[i]? = some x→σ[i]? = some (some v)→Vis X.env.scope x→∃ u,RelV v u∧Look X.env s.heap m x u
 cell:∀ x c,X.env.cells.lookup x=some c→∃ v,s.heap.IsCell c v
 free:H X.env.locals=none
 freeC:∀ x c,X.env.cells.lookup x=some c→H c=none
 pin:∀ p∈X.pn++pins,s.heap.get? p.1=some p.2∧H p.1=none∧p.1≠X.env.locals∧p.1∉X.fs∧∀ v,p.2.data≠.cell v
 hok:HOk X.prog X.w H s.heap
 len : σ.length=X.N.length
section
variable {X:Cx}{pins:List (Addr×Obj)}{σ : List (Option V)}{H H':Hp}{s:Shared}{h':Heap}
theorem Cx.Ok.nofr (ok:X.Ok) {b:Addr}{o:Obj} (e:X.base.get? b=some o):b∉X.fs:=fun hb=>by
 have:=(ok.funs.mem hb).1;rw [e] at this;cases this
theorem Inv.bs (I:Inv X pins σ H s):∀ b o,X.base.get? b=some o→s.heap.get? b=some o∧H b=none:=fun b o e =>
 ⟨I.base.keep b o (I.ok.bs b o e).1 (I.ok.bs b o e).2 (I.ok.nofr e) (I.ok.noex b o e),I.base.free b o (I.ok.bs b o e).1 (I.ok.bs b o e).2 (I.ok.noex b o e)⟩
theorem Inv.bk (I:Inv X pins σ H s):∀ b o,X.base.get? b=some o→s.heap.get? b=some o:=fun b o e=>(I.bs b o e).1
theorem Inv.mod (I:Inv X pins σ H s):Mod X.K X.mg X.base:=I.ok.mod
theorem Inv.kIn (I:Inv X pins σ H s):X.K.In s.heap:=I.ok.mod.kin.keeps I.bk
theorem Inv.nolimit (I:Inv X pins σ H s):s.heap.NoLimit:=I.ok.mod.nolimit.keeps I.bk
theorem Inv.lt (I:Inv X pins σ H s):X.env.locals < s.heap.objs.size:=let ⟨_,hn,_⟩:=I.loc;hn.lt
theorem Inv.sz (I:Inv X pins σ H s):X.s₀.heap.objs.size≤s.heap.objs.size:=Zl I.ok.above (Zm I.lt)
theorem Inv.nofs (I:Inv X pins σ H s) {a:Addr} (h:s.heap.objs.size≤a):a∉X.fs:=fun hb=>by
 obtain ⟨_,o,ho,_⟩:=I.ok.funs.mem hb;exact absurd (Zf (Z9 ho) (Zl I.sz h)) (Y0 _)
theorem Inv.cne (I:Inv X pins σ H s):∀ x c,X.env.cells.lookup x=some c→c≠X.env.locals:=fun x c e z=>by
 obtain ⟨v,o,ho,hd⟩:=I.cell x c e;obtain ⟨m,⟨o',es,ep,ho',hd',_⟩,_⟩:=I.loc;rw [z,ho'] at ho;cases ho;rw [hd'] at hd;cases hd
theorem Inv.funs (I:Inv X pins σ H s):s.heap.FunFrames X.base X.outer:=by
 have all:∀ (l:List Env),(∀ b∈frs l,b∈X.fs)→X.s₀.heap.FunFrames X.base l→s.heap.FunFrames X.base l:=by
  intro l
  induction l with
  | nil=>intro _ _;trivial
  | cons env r ih =>
   intro hs hl;obtain ⟨hk,⟨L,o,hf,hn,ho,hd⟩,hr⟩:=hl;have hL:L∈X.fs:=hs L (by unfold frs;rw [Ya,hf];exact Zb);obtain ⟨sl,e⟩:=I.base.slot L o ho (I.ok.frf L hL) hL fun z=>I.ok.exfs L z hL;exact ⟨hk,⟨L,_,hf,hn,e,hd⟩,ih (fun b hb=>hs b (by unfold frs;rw [Ya,hf];exact Z6 _ hb)) hr⟩
 exact all X.outer (fun _ hb=>hb) I.ok.funs
theorem Inv.stack (I:Inv X pins σ H s):s.heap.FunFrames X.base X.stack:=by
 rcases I.ok.stk with e | ⟨e,hf⟩
 ·rw [e];exact I.funs
 ·rw [e];obtain ⟨m,hn,_⟩:=I.loc;refine .cons (by rw [I.ok.kind];decide) hf hn ?_ I.funs;exact Yk (Zl I.ok.bsz I.ok.above)
theorem Inv.stkSub (I:Inv X pins σ H s):∀ b∈frs X.stack,b∈X.env.locals :: X.fs:=fun b hb=>by
 rcases I.ok.stk with e | ⟨e,hf⟩
 ·rw [e] at hb;exact Z6 _ hb
 ·rw [e] at hb;unfold frs at hb;rw [Ya,hf] at hb;exact hb
theorem Inv.stkFree (I:Inv X pins σ H s):∀ b∈frs X.stack,H b=none:=fun b hb=>by
 rcases List.mem_cons.mp (I.stkSub b hb) with e | hb
 ·rw [e];exact I.free
 ·obtain ⟨_,o,ho,_⟩:=I.ok.funs.mem hb;exact I.base.free b o ho (I.ok.frf b hb) fun z=>I.ok.exfs b z hb
theorem Inv.step {g':Array GenState}{t':Nat}{d':Drawn}{ch:List Addr} (I:Inv X pins σ H s)
  (hch:∀ b∈ch,(b∈X.ex∨X.s₀.heap.get? b=none)∧b≠X.env.locals∧(∀ x c,X.env.cells.lookup x=some c→c≠b)∧∀ p∈X.pn++pins,p.1≠b)
  (keep:∀ b o,b≠X.env.locals→b∉X.fs→b∉ch→s.heap.get? b=some o→H b=none→h'.get? b=some o)
  (slot:∀ b o,b≠X.env.locals→b∈X.fs→b∉ch→s.heap.get? b=some o→H b=none→∃ sl,h'.get? b=some { o with slots:=sl }) (free:∀ b o,b∉ch→s.heap.get? b=some o→H b=none→H' b=none)
  (there:∀ b o,b∉ch→s.heap.get? b=some o→∃ o',h'.get? b=some o')
  (tups:∀ b xs,H b=some (.tup xs)→H' b=some (.tup xs)) (frzs:∀ b o u,H b=some (.frz o u)→H' b=some (.frz o u)) (tbls:∀ b ps,H b=some (.tbl ps)→∃ more,H' b=some (.tbl (ps++more)))
  (ns:∀ m,s.heap.Ns X.env.locals m→h'.Ns X.env.locals m) (hok:HOk X.prog X.w H' h') (hg:AllBare g') :
  Inv X pins σ H' { s with heap:=h',gens:=g',drawn:=d',toks:=t' }:=by
 have neL:∀ b o,X.s₀.heap.get? b=some o→b≠X.env.locals:=fun b o e=>Zg (Zf (Z9 e) I.ok.above);have neC:∀ b o,X.s₀.heap.get? b=some o→b∉X.ex→b∉ch:=fun b o e hx hb=>by
  rcases (hch b hb).1 with z | z
  ·exact hx z
  ·rw [z] at e;cases e
 have cellK:∀ x c,X.env.cells.lookup x=some c→∀ v,s.heap.IsCell c v→h'.IsCell c v:=fun x c e v ⟨o,ho,hd⟩=>by
  have nch:c∉ch:=fun z=>(hch c z).2.2.1 x c e rfl;by_cases hc:c∈X.fs
  ·obtain ⟨sl,q⟩:=slot c o (I.cne x c e) hc nch ho (I.freeC x c e);exact ⟨_,q,hd⟩
  ·exact ⟨o,keep c o (I.cne x c e) hc nch ho (I.freeC x c e),hd⟩
 refine ⟨I.ok,I.os,hg,⟨fun b o e n hb hx=>?_,fun b o e n hb hx=>?_,fun b o e n hx=>?_,fun b o e hx=>?_,fun b xs e=>tups b xs (I.base.tups b xs e),fun b o xs e=>frzs b o xs (I.base.frzs b o xs e),fun b ps e=>?_⟩,?_,fun x c e=>?_,?_,fun x c e=>?_,fun p hp=>?_,hok,I.len⟩
 ·exact keep b o (neL b o e) hb (neC b o e hx) (I.base.keep b o e n hb hx) (I.base.free b o e n hx)
 ·obtain ⟨sl,e1⟩:=I.base.slot b o e n hb hx;obtain ⟨sl',e2⟩:=slot b _ (neL b o e) hb (neC b o e hx) e1 (I.base.free b o e n hx);exact ⟨sl',e2⟩
 ·obtain ⟨o',e1⟩:=I.base.there b o e hx;exact free b o' (neC b o e hx) e1 (I.base.free b o e n hx)
 ·obtain ⟨o',e1⟩:=I.base.there b o e hx;exact there b o' (neC b o e hx) e1
 ·obtain ⟨m1,e1⟩:=I.base.tbls b ps e;obtain ⟨m2,e2⟩:=tbls b _ e1;exact ⟨m1++m2,by rw [e2,Array.append_assoc]⟩
 ·obtain ⟨m,hn,hl⟩:=I.loc;refine ⟨m,ns m hn,fun i x v e1 e2 e3=>?_⟩;obtain ⟨u,r,l⟩:=hl i x v e1 e2 e3;refine ⟨u,r,?_⟩;rcases l with l | ⟨k,c,e,z⟩
  ·exact .inl l
  ·exact .inr ⟨k,c,e,cellK x c e _ z⟩
 ·obtain ⟨v,z⟩:=I.cell x c e;exact ⟨v,cellK x c e v z⟩
 ·obtain ⟨m,⟨o,_,_,ho,_⟩,_⟩:=I.loc;exact free _ o (fun z=>(hch _ z).2.1 rfl) ho I.free
 ·obtain ⟨v,o,ho,hd⟩:=I.cell x c e;exact free c o (fun z=>(hch c z).2.2.1 x c e rfl) ho (I.freeC x c e)
 ·obtain ⟨e,n,ne,nf,d⟩:=I.pin p hp;have nch:p.1∉ch:=fun z=>(hch p.1 z).2.2.2 p hp rfl;exact ⟨keep p.1 p.2 ne nf nch e n,free p.1 p.2 nch e n,ne,nf,d⟩
theorem Inv.un {t':Nat} (I:Inv X pins σ H s) (u:Un X.fs [] H H' s.heap h') (hok:HOk X.prog X.w H' h'):Inv X pins σ H' { s with heap:=h',toks:=t' }:=by
 obtain ⟨m,⟨o,es,ep,ho,r⟩,_⟩:=id I.loc;obtain ⟨sl,hL⟩:=u.any ho I.free (by simp)
 exact I.step (g':=s.gens) (d':=s.drawn) (ch:=[]) (fun _ z=>nomatch z) (fun b o _ hb _ e n=>u.keep b o e n hb (by simp)) (fun b o _ hb _ e n=>u.slot b o e n hb (by simp)) (fun b o _ e n=>u.free b o e n (by simp)) (fun b o _ e=>u.there b o e (by simp)) u.tups u.frzs u.tbls (fun m' hm=>by
  obtain ⟨o',es',ep',ho',r'⟩:=hm;rw [ho] at ho';cases ho'
  exact ⟨_,es',ep',hL,r'⟩) hok I.bare
theorem Inv.call {g':Array GenState}{t':Nat}{d':Drawn}{ch:List Addr} (I:Inv X pins σ H s) (u:Un (frs X.stack) ch H H' s.heap h') (hok:HOk X.prog X.w H' h') (hg:AllBare g')
  (hch:∀ b∈ch,(b∈X.ex∨X.s₀.heap.objs.size≤b)∧b≠X.env.locals∧(∀ x c,X.env.cells.lookup x=some c→c≠b)∧∀ p∈X.pn++pins,p.1≠b) :
  Inv X pins σ H' { s with heap:=h',gens:=g',drawn:=d',toks:=t' }:=by
 obtain ⟨m,⟨o,es,ep,ho,r⟩,_⟩:=id I.loc;obtain ⟨sl,hL⟩:=u.any ho I.free fun z=>(hch _ z).2.1 rfl
 exact I.step (ch:=ch) (fun b hb=>⟨(hch b hb).1.imp_right fun z=>Yk z,(hch b hb).2⟩) (fun b o hL hb hc e n=>u.keep b o e n (fun z=>(List.mem_cons.mp (I.stkSub b z)).elim hL hb) hc) (fun b o _ _ hc e n=>u.any e n hc) (fun b o hc e n=>u.free b o e n hc) (fun b o hc e=>u.there b o e hc) u.tups u.frzs u.tbls (fun m' hm=>by
  obtain ⟨o',es',ep',ho',r'⟩:=hm;rw [ho] at ho';cases ho'
  exact ⟨_,es',ep',hL,r'⟩) hok hg
theorem Inv.turned {t':Nat}{it:Addr} (I:Inv X pins σ H s) (k:∀ b o,b≠it→s.heap.get? b=some o→h'.get? b=some o) (hn:H it=none) (hL:it≠X.env.locals)
  (h1:it∈X.ex∨X.s₀.heap.objs.size≤it) (h2:∀ x c,X.env.cells.lookup x=some c→c≠it) (h3:∀ p∈X.pn++pins,p.1≠it):Inv X pins σ H { s with heap:=h',toks:=t' }:=by
 have nit:∀ b u,H b=some u→b≠it:=fun b u e z=>by rw [z,hn] at e;cases e
 refine I.step (g':=s.gens) (d':=s.drawn) (ch:=[it]) (fun b hb=>?_) (fun b o _ _ hc e _=>k b o (fun z=>hc (by simp [z])) e) (fun b o _ _ hc e _=>⟨o.slots,k b o (fun z=>hc (by simp [z])) e⟩) (fun _ _ _ _ n=>n)
  (fun b o hc e=>⟨o,k b o (fun z=>hc (by simp [z])) e⟩) (fun _ _ e=>e) (fun _ _ _ e=>e) (fun b ps e=>⟨#[],by rw [e];simp⟩) (fun m hm=>?_) (fun b u e=>?_) I.bare
 ·have e:b=it:=by simpa using hb
  subst e;exact ⟨h1.imp_right fun z=>Yk z,hL,h2,h3⟩
 ·obtain ⟨o,es,ep,ho,r⟩:=hm;exact ⟨o,es,ep,k _ o (Ne.symm hL) ho,r⟩
 ·refine (I.hok b u e).stay (fun c v hc q=>k c v ?_ q) (fun _ q=>q) fun _ _ q=>q;rcases hc with z | z
  ·rw [z];exact nit b u e
  ·exact nit c _ z
theorem Inv.tok (I:Inv X pins σ H s) (t:Nat):Inv X pins σ H { s with toks:=t }:=I.un (h':=s.heap) (t':=t) Un.refl I.hok
theorem Inv.kept {t':Nat} (I:Inv X pins σ H s) (k:∀ b u,s.heap.get? b=some u→h'.get? b=some u):Inv X pins σ H { s with heap:=h',toks:=t' }:=I.un (Un.kept k) (I.hok.kept k)
theorem Inv.laid {a:Addr}{o:HO}{t':Nat} (I:Inv X pins σ H s) (k:∀ b u,s.heap.get? b=some u→h'.get? b=some u) (hp:s.heap.objs.size≤a) (new:ObjOk X.prog X.w (upd H a o) h' a o) :
  Inv X pins σ (upd H a o) { s with heap:=h',toks:=t' }:=I.un (Un.laid k hp (I.hok.fresh hp)) (I.hok.laid k hp new)
theorem Inv.write {x e:Addr}{o:HO}{t':Nat} (I:Inv X pins σ H s) (mu:Mut (H x)) (he:e=x∨H e=some (.own x)) (k:∀ b u,b≠e→s.heap.get? b=some u→h'.get? b=some u) (heo:∃ u,h'.get? e=some u)
  (new:ObjOk X.prog X.w (upd H x o) h' x o):Inv X pins σ (upd H x o) { s with heap:=h',toks:=t' }:=I.un (Un.write mu he k heo) (I.hok.write mu he k heo new)
theorem Inv.pins_of {pins':List (Addr×Obj)} (I:Inv X pins σ H s) (h:∀ p∈pins',s.heap.get? p.1=some p.2∧H p.1=none∧p.1≠X.env.locals∧p.1∉X.fs∧∀ v,p.2.data≠.cell v):Inv X pins' σ H s :=
 ⟨I.ok,I.os,I.bare,I.base,I.loc,I.cell,I.free,I.freeC,fun p hp=>(List.mem_append.mp hp).elim (fun z=>I.pin p (Yl _ z)) (h p),I.hok,I.len⟩
theorem zGg {N:List Str} (hN:N.Nodup) {i j:Nat}{x:Str} (a:N[i]? = some x) (b:N[j]? = some x):i=j:=by
 obtain ⟨h1,e1⟩:=List.getElem?_eq_some_iff.mp a;obtain ⟨h2,e2⟩:=List.getElem?_eq_some_iff.mp b;exact (List.getElem_inj hN).mp (e1.trans e2.symm)
theorem store_ok2 {M:Model}{A:Around}{E:Value→Shared→Prop}{i:Nat}{x:Str}{v:V}{u:Value}{Q:Unit→Shared→Prop} (I:Inv X pins σ H s) (hN:X.N.Nodup) (hi:X.N[i]? = some x) (hx:Loc X.env.scope x) (r:RelV v u)
  (h:∀ s',Inv X pins (σ.set i (some v)) H s'→(∃ a,Heap.SameBut a s.heap s'.heap∧(a=X.env.locals∨X.env.cells.lookup x=some a))→Q () s') (hf:X.fn x=true∨X.env.scope.names.lookup x=some .local:=by first | exact .inl rfl | exact .inr rfl | assumption):wpAny M A (storeName X.env x u) Q E s:=by
 obtain ⟨m,hn,hl⟩:=id I.loc;have hcls:(X.env.scope.kind == .class || (X.env.scope.kind == .module && X.env.locals != X.env.globals))=false:=by rw [I.ok.kind];rfl
 have hiσ : i < σ.length:=by rw [I.len];exact (List.getElem?_eq_some_iff.mp hi).1
 have cne:=I.cne;have tracked:∀ {a:Addr}{h':Heap},(∃ o,s.heap.get? a=some o∧H a=none)→Heap.SameBut a s.heap h'→HOk X.prog X.w H h':=fun {a h'} ha hs b ob e=>by
  obtain ⟨_,_,hfree⟩:=ha;refine (I.hok b ob e).stay (fun c w' hc q=>(hs.2 c ?_).trans q) (fun _ q=>q) fun _ _ q=>q;rintro rfl;rcases hc with rfl | hc
  ·rw [hfree] at e;cases e
  ·rw [hfree] at hc;cases hc
 rcases hx with hk | hk
 ·refine wpAny_storeName_local hk hn (fun h' hn' hs=>?_) hcls;obtain ⟨oL,_,_,hoL,_⟩:=id hn;refine h _ ⟨I.ok,I.os,I.bare,⟨fun b o e n hb hx=>?_,fun b o e n hb hx=>?_,I.base.free,fun b o e hx=>?_,I.base.tups,I.base.frzs,I.base.tbls⟩,⟨_,hn',fun j y v' e1 e2 e3=>?_⟩,fun y c e=>?_,I.free,I.freeC,fun p hp=>?_,tracked ⟨oL,hoL,I.free⟩ hs,by simpa using I.len⟩ ⟨_,hs,.inl rfl⟩
  ·exact (hs.2 b (Zg (Zf (Z9 e) I.ok.above))).trans (I.base.keep b o e n hb hx)
  ·obtain ⟨sl,e1⟩:=I.base.slot b o e n hb hx;exact ⟨sl,(hs.2 b (Zg (Zf (Z9 e) I.ok.above))).trans e1⟩
  ·obtain ⟨o',e1⟩:=I.base.there b o e hx;exact ⟨o',(hs.2 b (Zg (Zf (Z9 e) I.ok.above))).trans e1⟩
  ·by_cases hj:j=i
   ·subst hj;rw [hi] at e1;cases e1;rw [List.getElem?_set_self hiσ] at e2;cases e2;exact ⟨u,r,.inl ⟨hk,by simp⟩⟩
   ·rw [X0 (Ne.symm hj)] at e2;obtain ⟨u',r',q⟩:=hl j y v' e1 e2 e3;refine ⟨u',r',?_⟩;rcases q with ⟨k,e⟩ | ⟨k,c,e,z⟩
    ·refine .inl ⟨k,?_⟩;have:y≠x:=fun e=>hj (zGg hN e1 (e ▸ hi));simp [this,e]
    ·exact .inr ⟨k,c,e,z.sameBut hs (cne y c e)⟩
  ·obtain ⟨w',z⟩:=I.cell y c e;exact ⟨w',z.sameBut hs (cne y c e)⟩
  ·obtain ⟨e,n,ne,nf,d⟩:=I.pin p hp;exact ⟨(hs.2 p.1 ne).trans e,n,ne,nf,d⟩
 ·have hfn:X.fn x=true:=by
   rcases hf with z | z
   ·exact z
   ·rw [z] at hk;cases hk
  obtain ⟨c,hc⟩:=I.ok.has x (.inl hk);obtain ⟨w',z⟩:=I.cell x c hc;refine wpAny_storeName_cell I.ok.kind hk hc z (fun h' hc' hs=>?_);obtain ⟨oc,hoc,hocd⟩:=id z;refine h { s with heap:=h' } ⟨I.ok,I.os,I.bare,⟨fun b o e n hb hx=>?_,fun b o e n hb hx=>?_,I.base.free,fun b o e hx=>?_,I.base.tups,I.base.frzs,I.base.tbls⟩,⟨m,hn.sameBut hs (Ne.symm (cne x c hc)),fun j y v' e1 e2 e3=>?_⟩,fun y c' e=>?_,I.free,I.freeC,fun p hp=>?_,tracked ⟨oc,hoc,I.freeC x c hc⟩ hs,by simpa using I.len⟩ ⟨c,hs,.inr hc⟩
  ·exact (hs.2 b (Zg (Zf (Z9 e) (I.ok.cab x c hfn hc)))).trans (I.base.keep b o e n hb hx)
  ·obtain ⟨sl,e1⟩:=I.base.slot b o e n hb hx;exact ⟨sl,(hs.2 b (Zg (Zf (Z9 e) (I.ok.cab x c hfn hc)))).trans e1⟩
  ·obtain ⟨o',e1⟩:=I.base.there b o e hx;exact ⟨o',(hs.2 b (Zg (Zf (Z9 e) (I.ok.cab x c hfn hc)))).trans e1⟩
  ·by_cases hj:j=i
   ·subst hj;rw [hi] at e1;cases e1;rw [List.getElem?_set_self hiσ] at e2;cases e2;exact ⟨u,r,.inr ⟨.inl hk,c,hc,hc'⟩⟩
   ·rw [X0 (Ne.symm hj)] at e2;obtain ⟨u',r',q⟩:=hl j y v' e1 e2 e3;refine ⟨u',r',?_⟩;rcases q with q | ⟨k,c',e,z'⟩
    ·exact .inl q
    ·refine .inr ⟨k,c',e,z'.sameBut hs ?_⟩;rintro rfl;exact hj (zGg hN e1 (I.ok.inj _ _ _ e hc ▸ hi))
  ·by_cases hcc:c'=c
   ·subst hcc;exact ⟨_,hc'⟩
   ·obtain ⟨w2,z2⟩:=I.cell y c' e;exact ⟨w2,z2.sameBut hs hcc⟩
  ·obtain ⟨e,n,ne,nf,d⟩:=I.pin p hp;refine ⟨(hs.2 p.1 ?_).trans e,n,ne,nf,d⟩;intro q;rw [q,hoc] at e;have q':oc=p.2:=Zk e;exact d w' (by rw [← q'];exact hocd)
theorem zFx {M:Model}{A:Around}{E:Value→Shared→Prop}{i:Nat}{x:Str}{v:V}{u:Value}{Q:Unit→Shared→Prop} (I:Inv X pins σ H s) (hN:X.N.Nodup) (hi:X.N[i]? = some x) (hx:Loc X.env.scope x) (r:RelV v u)
  (h:∀ s',Inv X pins (σ.set i (some v)) H s'→Q () s') (hf:X.fn x=true∨X.env.scope.names.lookup x=some .local:=by first | exact .inl rfl | exact .inr rfl | assumption):wpAny M A (storeName X.env x u) Q E s :=
 store_ok2 I hN hi hx r (fun s' I' _=>h s' I') hf
theorem Inv.call' {s':Shared}{ch:List Addr} (I:Inv X pins σ H s) (ho:s'.os=s.os) (u:Un (frs X.stack) ch H H' s.heap s'.heap) (hok:HOk X.prog X.w H' s'.heap) (hg:AllBare s'.gens)
  (hch:∀ b∈ch,(b∈X.ex∨X.s₀.heap.objs.size≤b)∧b≠X.env.locals∧(∀ x c,X.env.cells.lookup x=some c→c≠b)∧∀ p∈X.pn++pins,p.1≠b):Inv X pins σ H' s':=by
 obtain ⟨h',g',d',t',o'⟩:=s';have e:o'=s.os:=ho;subst e;exact I.call (g':=g') (t':=t') (d':=d') u hok hg hch
end
noncomputable abbrev XK:=Value→Option Addr→Hp→Prop
noncomputable abbrev St:=List (Option V)
noncomputable abbrev VK:=V→Hp→Prop
noncomputable abbrev TE:=St→Hp→VK→Prop
noncomputable abbrev TT:=St→Hp→(Bool→Hp→Prop)→Prop
noncomputable abbrev TA:=St→Hp→(List V→Hp→Prop)→Prop
structure Ends where
 nx:St→Hp→Prop
 rt:VK
 bk:St→Hp→Prop:=fun _ _=>False
 ct:St→Hp→Prop:=fun _ _=>False
noncomputable abbrev TS:=Ends→St→Hp→Prop
noncomputable def EP (X:Cx) (pins:List (Addr×Obj)) (σ : St) (Q:VK) (u:Value) (s':Shared):Prop:=∃ v H',Inv X pins σ H' s'∧RelV v u∧Q v H'
noncomputable def TP (X:Cx) (pins:List (Addr×Obj)) (σ : St) (Q:Bool→Hp→Prop) (b:Bool) (s':Shared):Prop:=∃ H',Inv X pins σ H' s'∧Q b H'
noncomputable def AP (X:Cx) (pins:List (Addr×Obj)) (σ : St) (Q:List V→Hp→Prop) (us:List Value) (s':Shared):Prop:=∃ vs H',Inv X pins σ H' s'∧Vals vs us∧Q vs H'
noncomputable def SP (X:Cx) (pins:List (Addr×Obj)) (D:Ends) (f:Flow) (s':Shared):Prop :=
 match f with
 | .next=>∃ σ' H',Inv X pins σ' H' s'∧D.nx σ' H'
 | .brk=>∃ σ' H',Inv X pins σ' H' s'∧D.bk σ' H'
 | .cont=>∃ σ' H',Inv X pins σ' H' s'∧D.ct σ' H'
 | .ret u=>∃ v σ' H',Inv X pins σ' H' s'∧RelV v u∧D.rt v H'
noncomputable def PE (X:Cx) (e:Expr) (t:TE):Prop :=
 ∀ (pins:List (Addr×Obj)) (s:Shared) (σ : St) (H:Hp) (Q:VK),Inv X pins σ H s→t σ H Q→wpAny (model X.prog X.w) X.A (eval e X.env) (EP X pins σ Q) X.xe s
noncomputable def PT (X:Cx) (e:Expr) (t:TT):Prop :=
 ∀ (pins:List (Addr×Obj)) (s:Shared) (σ : St) (H:Hp) (Q:Bool→Hp→Prop),Inv X pins σ H s→t σ H Q→wpAny (model X.prog X.w) X.A (isTrue e X.env (eval e X.env)) (TP X pins σ Q) X.xe s
noncomputable def PW (X:Cx) (e:Expr) (t:TT):Prop :=
 ∀ (whole:Sem Value) (pins:List (Addr×Obj)) (s:Shared) (σ : St) (H:Hp) (Q:Bool→Hp→Prop),Inv X pins σ H s→t σ H Q→wpAny (model X.prog X.w) X.A (isTrue e X.env whole) (TP X pins σ Q) X.xe s
theorem PW.pt {X:Cx}{e:Expr}{t:TT} (h:PW X e t):PT X e t:=h _
noncomputable def PA (X:Cx) (es:List Expr) (t:TA):Prop :=
 ∀ (pos:Pos) (pins:List (Addr×Obj)) (s:Shared) (σ : St) (H:Hp) (Q:List V→Hp→Prop),Inv X pins σ H s→t σ H Q→wpAny (model X.prog X.w) X.A (spliced (backTo pos (starEach es X.env))) (AP X pins σ Q) X.xe s
noncomputable def PS (X:Cx) (st:Stmt) (t:TS):Prop :=
 ∀ (pins:List (Addr×Obj)) (s:Shared) (σ : St) (H:Hp) (D:Ends),Inv X pins σ H s→t D σ H→wpAny (model X.prog X.w) X.A (exec st X.env) (SP X pins D) X.xe s
noncomputable def PSs (X:Cx) (st:List Stmt) (t:TS):Prop :=
 ∀ (pins:List (Addr×Obj)) (s:Shared) (σ : St) (H:Hp) (D:Ends),Inv X pins σ H s→t D σ H→wpAny (model X.prog X.w) X.A (execs st X.env) (SP X pins D) X.xe s
theorem thn {α : Type}{t:Sem α}{Q Q' : α→Shared→Prop}{M:Model}{A:Around}{E:Value→Shared→Prop}{s:Shared} (h:wpAny M A t Q E s) (hQ:∀ a s,Q a s→Q' a s):wpAny M A t Q' E s:=wpAny_mono h hQ fun _ _ x=>x
end L2
namespace L2
open PySem PySem.Spec PyProof.Rows
section
variable {X:Cx}
theorem bin {a b:Expr}{ta tb:TE} (ha:PE X a ta) (hb:PE X b tb) {pins:List (Addr×Obj)}{s:Shared}{σ : St}{H:Hp}{R:V→V→Hp→Prop} (I:Inv X pins σ H s) (h:ta σ H fun x H1=>tb σ H1 fun y H2=>R x y H2)
  {α : Type}{Q : α→Shared→Prop}{f:Value→Value→Sem α}
  (hf:∀ v u s2 x y H2,Inv X pins σ H2 s2→RelV x v→RelV y u→R x y H2→wpAny (model X.prog X.w) X.A (f v u) Q X.xe s2) :
  wpAny (model X.prog X.w) X.A (eval a X.env) (fun v s₁=>wpAny (model X.prog X.w) X.A (eval b X.env) (fun u s₂=>wpAny (model X.prog X.w) X.A (f v u) Q X.xe s₂) X.xe s₁) X.xe s:=by
 refine thn (ha pins s σ H _ I h) fun v s1 ⟨x,H1,I1,r1,q1⟩=>?_;refine thn (hb pins s1 σ H1 _ I1 q1) fun u s2 ⟨y,H2,I2,r2,q2⟩=>?_;exact hf v u s2 x y H2 I2 r1 r2 q2
noncomputable def tVar (i:Nat):TE:=fun σ H Q=>∃ v,σ[i]? = some (some v)∧Q v H
noncomputable def tC (v:V):TE:=fun _ H Q=>Q v H
theorem pe_var {i:Nat}{x:Str}{pos:Pos} (hN:X.N[i]? = some x) (hv:Vis X.env.scope x) (hd:(x == ("__debug__" : Str))=false:=by decide) (hcd:(x == ("__classdict__" : Str))=false:=by decide):PE X (.Name x pos) (tVar i):=by
 intro pins s σ H Q I h;obtain ⟨v,e,h⟩:=h;obtain ⟨m,hn,hl⟩:=I.loc;obtain ⟨u,r,l⟩:=hl i x v hN e hv;have fin:EP X pins σ Q u s:=⟨v,H,I,r,h⟩;rcases l with ⟨hk,hm⟩ | ⟨hk,c,hc,hcell⟩
 ·exact wpAny_Name (wpAny_loadName_local I.ok.kind hk hn hm fin) hd
 ·rcases hk with hk | hk
  ·exact wpAny_Name (wpAny_loadName_cell I.ok.kind hk hc hcell fin) hd
  ·exact wpAny_Name (wpAny_loadName_free I.ok.kind hk hc hcell fin hcd) hd
theorem zA4 {i j pos}:PE X (.Constant (.int i) j pos) (tC (.int i)):=fun _ _ _ H _ I h=>wpAny_Constant_int ⟨.int i,H,I.tok _,⟨_,rfl⟩,h⟩
theorem zBo {b j pos}:PE X (.Constant (.bool b) j pos) (tC (.bl b)):=fun _ _ _ H _ I h=>Constant_bool ⟨.bl b,H,I,rfl,h⟩
theorem zBk {j pos}:PE X (.Constant .none j pos) (tC .non):=fun _ _ _ H _ I h=>Constant_none ⟨.non,H,I,rfl,h⟩
theorem zBa {x j pos}:PE X (.Constant (.str x) j pos) (tC (.str x)):=fun _ _ _ H _ I h=>Calls.Constant_str ⟨.str x,H,I.tok _,⟨_,rfl⟩,h⟩
noncomputable def Gl (X:Cx) (x:Str):Prop:=X.env.kindOf x=some .globalImplicit
theorem zEx {E:Value→Shared→Prop}{pins:List (Addr×Obj)}{s:Shared}{σ : St}{H:Hp}{x:Str}{u:Value}{pos:Pos}{Q:Value→Shared→Prop} (I:Inv X pins σ H s) (hg:Gl X x) (hm:X.mg x=some u) (h:Q u s)
  (hd:(x == ("__debug__" : Str))=false:=by decide):wpAny (model X.prog X.w) X.A (eval (.Name x pos) X.env) Q E s :=
 Calls.Name_function_global I.ok.kind hg (Calls.loadGlobal_global (by rw [I.ok.glob];exact I.mod.glob.keeps I.bk) hm h) hd
theorem zEy {E:Value→Shared→Prop}{pins:List (Addr×Obj)}{s:Shared}{σ : St}{H:Hp}{x:Str}{u:Value}{pos:Pos}{Q:Value→Shared→Prop} (I:Inv X pins σ H s) (hg:Gl X x) (hm:X.mg x=none) (hv:bootBuiltins x=some u) (h:Q u s)
  (hn:x≠"__name__":=by decide) (hd:(x == ("__debug__" : Str))=false:=by decide):wpAny (model X.prog X.w) X.A (eval (.Name x pos) X.env) Q E s:=by
 obtain ⟨mb,h1,h2⟩:=I.mod.blt;exact Calls.Name_function_global I.ok.kind hg (Calls.loadGlobal_builtin (by rw [I.ok.glob];exact I.mod.glob.keeps I.bk) hm (by rw [I.ok.blt];exact h1.keeps I.bk) ((h2 x hn).trans hv) h) hd
theorem zB7 {x:Str}{v:V}{u:Value}{pos:Pos} (hg:Gl X x) (hm:X.mg x=some u) (r:RelV v u) (hd:(x == ("__debug__" : Str))=false:=by decide):PE X (.Name x pos) (tC v) :=
 fun _ _ _ H _ I h=>zEx I hg hm ⟨v,H,I,r,h⟩ hd
theorem zB9 {x:Str}{v:V}{u:Value}{pos:Pos} (hg:Gl X x) (hm:X.mg x=none) (hv:bootBuiltins x=some u) (r:RelV v u) (hn:x≠"__name__":=by decide) (hd:(x == ("__debug__" : Str))=false:=by decide):PE X (.Name x pos) (tC v) :=
 fun _ _ _ H _ I h=>zEy I hg hm hv ⟨v,H,I,r,h⟩ hn hd
variable {a b:Expr}{ta tb:TE}{pos:Pos}
noncomputable def PC (X:Cx) (op:CmpOp) (a b:Expr) (t:TE):Prop :=
 ∀ (pins:List (Addr×Obj)) (s:Shared) (σ : St) (H:Hp) (Q:VK),Inv X pins σ H s→t σ H Q →
  wpAny (model X.prog X.w) X.A (eval a X.env) (fun v s₁=>wpAny (model X.prog X.w) X.A (eval b X.env) (fun u s₂=>wpAny (model X.prog X.w) X.A (compareOp op v u) (EP X pins σ Q) X.xe s₂) X.xe s₁) X.xe s
theorem nobehind (b:Expr) {op:CmpOp} (h:op≠.In) (h2:op≠.NotIn):behindInMarks op b=false:=by
 have e1:(op == CmpOp.In)=false:=by cases op <;> first | rfl | exact absurd rfl h
 have e2:(op == CmpOp.NotIn)=false:=by cases op <;> first | rfl | exact absurd rfl h2
 cases b <;> simp [behindInMarks,e1,e2]
noncomputable def tIsN (ta:TE):TE:=fun σ H Q=>ta σ H fun x H1=>Q (.bl (decide (x=.non))) H1
noncomputable def tNotN (ta:TE):TE:=fun σ H Q=>ta σ H fun x H1=>Q (.bl (!decide (x=.non))) H1
theorem RelV.none_iff {x:V}{v:Value} (r:RelV x v):(v == Value.none)=decide (x=.non):=by
 cases x with
 | non=>cases r;rfl
 | bl _=>cases r;rfl
 | int _=>obtain ⟨t,rfl⟩:=r;rfl
 | str _=>obtain ⟨t,rfl⟩:=r;rfl
 | byt _=>obtain ⟨t,rfl⟩:=r;rfl
 | flt _=>obtain ⟨t,rfl⟩:=r;rfl
 | ref _=>cases r;rfl
 | ty _=>cases r;rfl
theorem zEt {j pos'} (ha:PE X a ta):PC X .Is a (.Constant .none j pos') (tIsN ta):=by
 intro pins s σ H Q I h;refine thn (ha pins s σ H _ I h) fun v s1 ⟨x,H1,I1,r1,q1⟩=>?_;exact Constant_none (is_none_gen ⟨.bl _,H1,I1,by rw [r1.none_iff];rfl,q1⟩)
theorem zG8 {j pos'} (ha:PE X a ta):PC X .IsNot a (.Constant .none j pos') (tNotN ta):=by
 intro pins s σ H Q I h;refine thn (ha pins s σ H _ I h) fun v s1 ⟨x,H1,I1,r1,q1⟩=>?_;exact Constant_none (isnot_none_gen ⟨.bl _,H1,I1,by rw [r1.none_iff];rfl,q1⟩)
noncomputable def tB (t:TE):TT:=fun σ H Q=>t σ H fun x H1=>∃ c,x=.bl c∧Q c H1
theorem zCa {op:CmpOp}{t:TE} (h:PC X op a b t) (h1:behindInMarks op b=false:=by first | exact nobehind _ (by decide) (by decide) | rfl):PT X (.Compare a [op] [b] pos) (tB t):=by
 intro pins s σ H Q I hw;refine wpAny_isTrue_Compare1 (thn (h pins s σ H _ I hw) fun v s1 h1=>thn h1 fun u s2 h2=>thn h2 fun c s3 ⟨x,H1,I1,r1,q1⟩=>?_) h1;obtain ⟨d,rfl,q⟩:=q1;cases r1;exact wpAny_truthy_bool ⟨H1,I1,q⟩
theorem zAy {e:Expr}{t:TE} (h:PE X e t) (he:∀ whole,isTrue e X.env whole=(do let v ← whole;standAt e.pos;holding [v] (truthy v)):=by intro _;rfl):PT X e (tB t):=by
 intro pins s σ H Q I hw;refine isTrue_plain (thn (h pins s σ H _ I hw) fun v s1 ⟨x,H1,I1,r1,q1⟩=>?_) (he _);obtain ⟨d,rfl,q⟩:=q1;cases r1;exact wpAny_truthy_bool ⟨H1,I1,q⟩
variable {tA tB':TT}{rest:List Expr}
noncomputable def tAnd (t u:TT):TT:=fun σ H Q=>t σ H fun c H1=>if c=true then u σ H1 Q else Q false H1
noncomputable def tOr (t u:TT):TT:=fun σ H Q=>t σ H fun c H1=>if c=true then Q true H1 else u σ H1 Q
noncomputable def tNot (t:TT):TT:=fun σ H Q=>t σ H fun c H1=>Q (!c) H1
theorem zD0 (ha:PT X a tA):PW X (.BoolOp .And [a] pos) tA:=by
 intro wh pins s σ H Q I h;refine isTrue_and (thn (ha pins s σ H Q I h) fun c s1 e=>?_);cases c with
 | true=>exact isTrue_and_nil e
 | false=>exact e
theorem zBm (ha:PT X a tA):PW X (.BoolOp .Or [a] pos) tA:=by
 intro wh pins s σ H Q I h;refine isTrue_or (thn (ha pins s σ H Q I h) fun c s1 e=>?_);cases c with
 | false=>exact isTrue_or_nil e
 | true=>exact e
theorem zEl (ha:PT X a tA) (hb:PW X (.BoolOp .And (b :: rest) pos) tB'):PW X (.BoolOp .And (a :: b :: rest) pos) (tAnd tA tB'):=by
 intro wh pins s σ H Q I h;refine isTrue_and (thn (ha pins s σ H _ I h) fun c s1 ⟨H1,I1,q1⟩=>?_);cases c with
 | true=>exact hb wh pins s1 σ H1 Q I1 q1
 | false=>exact ⟨H1,I1,q1⟩
theorem zCz (ha:PT X a tA) (hb:PW X (.BoolOp .Or (b :: rest) pos) tB'):PW X (.BoolOp .Or (a :: b :: rest) pos) (tOr tA tB'):=by
 intro wh pins s σ H Q I h;refine isTrue_or (thn (ha pins s σ H _ I h) fun c s1 ⟨H1,I1,q1⟩=>?_);cases c with
 | true=>exact ⟨H1,I1,q1⟩
 | false=>exact hb wh pins s1 σ H1 Q I1 q1
theorem zAw (ha:PT X a tA):PT X (.UnaryOp .Not a pos) (tNot tA):=by
 intro pins s σ H Q I h;exact isTrue_not (ha pins s σ H (fun c H1=>Q (!c) H1) I h)
noncomputable def tAndV (ta tb:TE):TE:=fun σ H Q=>ta σ H fun x H1=>∃ c,x=.bl c∧if c=true then tb σ H1 Q else Q (.bl false) H1
noncomputable def tNotV (ta:TE):TE:=fun σ H Q=>ta σ H fun x H1=>∃ c,x=.bl c∧Q (.bl (!c)) H1
theorem zCe {op}{t:TE} (h:PE X a t):PE X (.BoolOp op [a] pos) t:=fun pins s σ H Q I hw=>BoolOp_one (h pins s σ H Q I hw)
theorem zBs (ha:PE X a ta) (hb:PE X (.BoolOp .And (b :: rest) pos) tb):PE X (.BoolOp .And (a :: b :: rest) pos) (tAndV ta tb):=by
 intro pins s σ H Q I h;refine BoolOp_and (thn (ha pins s σ H _ I h) fun v s1 ⟨x,H1,I1,r1,q1⟩=>?_);obtain ⟨c,rfl,q1⟩:=q1;cases r1;refine wpAny_truthy_bool ?_;cases c with
 | true=>exact hb pins s1 σ H1 Q I1 q1
 | false=>exact ⟨.bl false,H1,I1,rfl,q1⟩
theorem pe_not (ha:PE X a ta):PE X (.UnaryOp .Not a pos) (tNotV ta):=by
 intro pins s σ H Q I h;refine UnaryOp_ (thn (ha pins s σ H _ I h) fun v s1 ⟨x,H1,I1,r1,q1⟩=>?_);obtain ⟨c,rfl,q1⟩:=q1;cases r1;exact not_of (wpAny_truthy_bool ⟨.bl (!c),H1,I1,rfl,q1⟩)
noncomputable def tIf (t:TT) (ta tb:TE):TE:=fun σ H Q=>t σ H fun c H1=>if c=true then ta σ H1 Q else tb σ H1 Q
theorem zCr {c:Expr} (hc:PT X c tA) (ha:PE X a ta) (hb:PE X b tb):PE X (.IfExp c a b pos) (tIf tA ta tb):=by
 intro pins s σ H Q I h;refine wpAny_IfExp (thn (hc pins s σ H _ I h) fun d s1 ⟨H1,I1,q1⟩=>?_);cases d with
 | true=>exact ha pins s1 σ H1 Q I1 q1
 | false=>exact hb pins s1 σ H1 Q I1 q1
end
end L2
namespace L2
open PySem PySem.Spec PyProof.Rows
noncomputable def SqL (K:PySem.W.Frag) (H:Hp) (a:Addr) (xs:List V):Prop :=
 Rd H a (.lst xs) ∨
  ∃ (o:Obj) (its:Array Value) (n:Nat),K.lookup a=some o∧o.cls=.type "list"∧o.dict=none∧o.data=.seq its n∧its.size≤sizeLine∧Vals xs its.toList
noncomputable def SqT (K:PySem.W.Frag) (H:Hp) (a:Addr) (xs:List V):Prop :=
 Rd H a (.tup xs) ∨
  ∃ (o:Obj) (its:Array Value) (n:Nat),K.lookup a=some o∧o.cls=.type "tuple"∧o.data=.seq its n∧its.size≤sizeLine∧Vals xs its.toList
noncomputable def absV:Value→Option V
 | .none=>some .non
 | .bool b=>some (.bl b)
 | .int i _=>some (.int i)
 | .str x _=>some (.str x)
 | .bytes b _=>some (.byt b)
 | .float b _=>some (.flt b)
 | .ref a=>some (.ref a)
 | .type n=>some (.ty n)
 | _=>none
theorem RelV.abs {x:V}{u:Value} (r:RelV x u):absV u=some x:=by
 cases x with
 | non=>cases r;rfl
 | bl _=>cases r;rfl
 | int _=>obtain ⟨t,rfl⟩:=r;rfl
 | str _=>obtain ⟨t,rfl⟩:=r;rfl
 | byt _=>obtain ⟨t,rfl⟩:=r;rfl
 | flt _=>obtain ⟨t,rfl⟩:=r;rfl
 | ref _=>cases r;rfl
 | ty _=>cases r;rfl
theorem RelV.inj {x y:V}{u:Value} (r:RelV x u) (q:RelV y u):x=y:=Zk (r.abs.symm.trans q.abs)
theorem Vals.inj:∀ {xs ys:List V}{us:List Value},Vals xs us→Vals ys us→xs=ys
 | _,_,_,.nil,.nil=>rfl
 | _,_,_,.cons r t,.cons r' t'=>by rw [r.inj r',Vals.inj t t']
section
variable {X:Cx}{pins:List (Addr×Obj)}{σ : St}{H:Hp}{s:Shared}{a:Addr}{xs ys:List V}
theorem SqL.of {K:PySem.W.Frag} (h:H a=some (.lst xs)):SqL K H a xs:=.inl (.inl h)
theorem SqT.of {K:PySem.W.Frag} (h:H a=some (.tup xs)):SqT K H a xs:=.inl (.inl h)
theorem Inv.list (I:Inv X pins σ H s) (h:SqL X.K H a xs):∃ its:List Value,Vals xs its∧PlainL s.heap a its.toArray∧xs.length≤sizeLine:=by
 rcases h with h | ⟨o,its,n,hk,hc,hd,hs,hz,r⟩
 ·obtain ⟨z,its,n,r,e⟩:=h.ok I.hok;exact ⟨its,r,⟨_,n,e,rfl,rfl,rfl⟩,z⟩
 ·refine ⟨its.toList,r,⟨o,n,I.kIn a o hk,hc,hd,by simpa using hs⟩,?_⟩;have e:=r.length;simp only [Y3] at e;omega
theorem Inv.tuple (I:Inv X pins σ H s) (h:SqT X.K H a xs):∃ its:List Value,Vals xs its∧IsTup s.heap a its.toArray∧xs.length≤sizeLine:=by
 rcases h with h | ⟨o,its,n,hk,hc,hs,hz,r⟩
 ·obtain ⟨z,its,r,p⟩:=h.ok I.hok;exact ⟨its,r,p,z⟩
 ·refine ⟨its.toList,r,⟨o,I.kIn a o hk,hc,n,by simpa using hs⟩,?_⟩;have e:=r.length;simp only [Y3] at e;omega
theorem Inv.list_inj (I:Inv X pins σ H s) (h:SqL X.K H a xs) (h':SqL X.K H a ys):xs=ys:=by
 obtain ⟨its,r,⟨o,n,e,_,_,d⟩,_⟩:=I.list h;obtain ⟨its',r',⟨o',n',e',_,_,d'⟩,_⟩:=I.list h';rw [e] at e';cases e';rw [d] at d';injection d' with d1 _;have:its=its':=by simpa using congrArg Array.toList d1
 subst this;exact r.inj r'
end
noncomputable abbrev Cx.wish (X:Cx) (E:Value→Shared→Prop):Cx:={ X with xe:=E }
noncomputable abbrev Cx.nox (X:Cx):Cx:=X.wish fun _ _=>False
theorem Cx.Ok.wish {X:Cx} (ok:X.Ok) (E:Value→Shared→Prop):(X.wish E).Ok :=
 ⟨ok.mod,ok.kind,ok.glob,ok.blt,ok.above,ok.inj,ok.has,ok.cab,ok.hd,ok.frames,ok.stk,ok.exf,ok.bs,ok.bsz,ok.noex,ok.exfs,ok.funs,ok.frf⟩
theorem Cx.Ok.unwish {X:Cx}{E:Value→Shared→Prop} (ok:(X.wish E).Ok):X.Ok :=
 ⟨ok.mod,ok.kind,ok.glob,ok.blt,ok.above,ok.inj,ok.has,ok.cab,ok.hd,ok.frames,ok.stk,ok.exf,ok.bs,ok.bsz,ok.noex,ok.exfs,ok.funs,ok.frf⟩
section
variable {X:Cx}{pins:List (Addr×Obj)}{σ : St}{H:Hp}{s:Shared}{E:Value→Shared→Prop}
theorem Inv.wish (I:Inv X pins σ H s) (E:Value→Shared→Prop):Inv (X.wish E) pins σ H s:=⟨I.ok.wish E,I.os,I.bare,I.base,I.loc,I.cell,I.free,I.freeC,I.pin,I.hok,I.len⟩
theorem Inv.unwish (I:Inv (X.wish E) pins σ H s):Inv X pins σ H s:=⟨I.ok.unwish,I.os,I.bare,I.base,I.loc,I.cell,I.free,I.freeC,I.pin,I.hok,I.len⟩
theorem SP.unwish {D:Ends}{f:Flow}{s':Shared} (h:SP (X.wish E) pins D f s'):SP X pins D f s':=by
 cases f with
 | next=>obtain ⟨σ',H',I,q⟩:=h;exact ⟨σ',H',I.unwish,q⟩
 | brk=>obtain ⟨σ',H',I,q⟩:=h;exact ⟨σ',H',I.unwish,q⟩
 | cont=>obtain ⟨σ',H',I,q⟩:=h;exact ⟨σ',H',I.unwish,q⟩
 | ret u=>obtain ⟨v,σ',H',I,r,q⟩:=h;exact ⟨v,σ',H',I.unwish,r,q⟩
theorem PE.nox {e:Expr}{t:TE} (h:PE X.nox e t):PE X e t:=fun pins s σ H Q I hw =>
 wpAny_mono (h pins s σ H Q (I.wish _) hw) (fun _ _ ⟨v,H',I',r,q⟩=>⟨v,H',I'.unwish,r,q⟩) fun _ _ z=>False.elim z
theorem PT.nox {e:Expr}{t:TT} (h:PT X.nox e t):PT X e t:=fun pins s σ H Q I hw =>
 wpAny_mono (h pins s σ H Q (I.wish _) hw) (fun _ _ ⟨H',I',q⟩=>⟨H',I'.unwish,q⟩) fun _ _ z=>False.elim z
theorem PSs.nox {st:List Stmt}{t:TS} (h:PSs X.nox st t):PSs X st t:=fun pins s σ H D I hw =>
 wpAny_mono (h pins s σ H D (I.wish _) hw) (fun _ _ q=>q.unwish) fun _ _ z=>False.elim z
end
section
variable {X:Cx}{st:Stmt}{rest:List Stmt}{t u:TS}{e:Expr}{te:TE}{pos:Pos}
noncomputable def tNext:TS:=fun D σ H=>D.nx σ H
noncomputable def tSeq (t u:TS):TS:=fun D σ H=>t { D with nx:=u D } σ H
theorem zAd:PSs X [] tNext:=fun _ _ σ H _ I h=>wpAny_execs_nil ⟨σ,H,I,h⟩
theorem zA3 (h1:PS X st t) (h2:PSs X rest u):PSs X (st :: rest) (tSeq t u):=by
 intro pins s σ H D I h;refine wpAny_execs_cons (thn (h1 pins s σ H { D with nx:=u D } I h) fun f s1 q=>?_);cases f with
 | next =>
  obtain ⟨σ',H',I',q⟩:=q;exact h2 pins s1 σ' H' D I' q
 | ret v=>exact q
 | brk=>exact q
 | cont=>exact q
theorem zA6 (h1:PS X st t):PSs X [st] t:=by
 intro pins s σ H D I h;refine wpAny_execs_cons (thn (h1 pins s σ H D I h) fun f s1 q=>?_);cases f with
 | next=>exact wpAny_execs_nil q
 | ret v=>exact q
 | brk=>exact q
 | cont=>exact q
theorem Inv.quiet {pins:List (Addr×Obj)}{σ : St}{H:Hp}{s:Shared} (I:Inv X pins σ H s):interactive X.env=false:=by simp [interactive,I.ok.kind]
noncomputable def tDrop (te:TE):TS:=fun D σ H=>te σ H fun _ H1=>D.nx σ H1
theorem zBx (he:PE X e te) (hs:swapsWith e none pos.line X.env=pure false:=by rfl):PS X (.Expr e pos) (tDrop te):=by
 intro pins s σ H D I h;exact wpAny_Expr_any (thn (he pins s σ H _ I h) fun v s1 ⟨x,H1,I1,r1,q1⟩=>⟨σ,H1,I1,q1⟩) I.quiet hs
noncomputable def tRet (te:TE):TS:=fun D σ H=>te σ H D.rt
theorem zAc (he:PE X e te):PS X (.Return (some e) pos) (tRet te):=by
 intro pins s σ H D I h;exact wpAny_Return_some (thn (he pins s σ H _ I h) fun v s1 ⟨x,H1,I1,r1,q1⟩=>⟨x,σ,H1,I1,r1,q1⟩)
noncomputable def tIfS (c:TT) (t u:TS):TS:=fun D σ H=>c σ H fun b H1=>if b=true then t D σ H1 else u D σ H1
theorem zAx {c:Expr}{a b:List Stmt}{tc:TT} (hc:PT X c tc) (ha:PSs X a t) (hb:PSs X b u):PS X (.If c a b pos) (tIfS tc t u):=by
 intro pins s σ H D I h;refine wpAny_If (thn (hc pins s σ H _ I h) fun d s1 ⟨H1,I1,q1⟩=>?_);cases d with
 | true=>exact ha pins s1 σ H1 D I1 q1
 | false=>exact hb pins s1 σ H1 D I1 q1
noncomputable def tNever:TS:=fun _ _ _=>False
theorem zAo {sts:List Stmt}:PSs X sts tNever:=fun _ _ _ _ _ _ h=>h.elim
end
noncomputable abbrev TG:=V→St→Hp→(St→Hp→Prop)→Prop
noncomputable abbrev TGs:=List V→St→Hp→(St→Hp→Prop)→Prop
noncomputable def PG (X:Cx) (target:Expr) (t:TG):Prop :=
 ∀ (pins:List (Addr×Obj)) (s:Shared) (σ : St) (H:Hp) (v:V) (u:Value) (Q:St→Hp→Prop),Inv X pins σ H s→RelV v u→t v σ H Q →
  wpAny (model X.prog X.w) X.A (assign target X.env u) (fun _ s'=>∃ σ' H',Inv X pins σ' H' s'∧Q σ' H') X.xe s
noncomputable def PGs (X:Cx) (ts:List Expr) (t:TGs):Prop :=
 ∀ (pins:List (Addr×Obj)) (s:Shared) (σ : St) (H:Hp) (vs:List V) (us:List Value) (Q:St→Hp→Prop),Inv X pins σ H s→Vals vs us→t vs σ H Q →
  wpAny (model X.prog X.w) X.A (assignInOrder ((assignEach ts X.env).map (·.2)) us) (fun _ s'=>∃ σ' H',Inv X pins σ' H' s'∧Q σ' H') X.xe s
noncomputable abbrev TSet:=V→V→V→Hp→(Hp→Prop)→Prop
noncomputable def PSet (X:Cx) (t:TSet):Prop :=
 ∀ (pins:List (Addr×Obj)) (s:Shared) (σ : St) (H:Hp) (o i v:V) (ov iv u:Value) (Q:Hp→Prop),Inv X pins σ H s→RelV o ov→RelV i iv→RelV v u→t o i v H Q →
  wpAny (model X.prog X.w) X.A (setItem ov iv u) (fun _ s'=>∃ H',Inv X pins σ H' s'∧Q H') X.xe s
section
variable {X:Cx}{pos:Pos}
noncomputable def gName (i:Nat):TG:=fun v σ H Q=>Q (σ.set i (some v)) H
theorem zAa {i:Nat}{x:Str} (hN:X.N.Nodup) (hi:X.N[i]? = some x) (hx:Loc X.env.scope x) (hf:X.fn x=true∨X.env.scope.names.lookup x=some .local:=by first | exact .inl rfl | exact .inr rfl | assumption):PG X (.Name x pos) (gName i):=by
 intro pins s σ H v u Q I r h;exact wpAny_assign_Name (zFx I hN hi hx r (fun s' I'=>⟨_,H,I',h⟩) hf)
noncomputable def gNil:TGs:=fun vs σ H Q=>vs=[]∧Q σ H
noncomputable def gCons (t:TG) (u:TGs):TGs:=fun vs σ H Q=>∃ v r,vs=v :: r∧t v σ H fun σ' H'=>u r σ' H' Q
theorem zBc:PGs X [] gNil:=by
 intro pins s σ H vs us Q I r h;obtain ⟨e,h⟩:=h;subst e;cases r;exact assignInOrder_nil ⟨σ,H,I,h⟩
theorem zAf {e:Expr}{es:List Expr}{t:TG}{u:TGs} (h1:PG X e t) (h2:PGs X es u)
  (hs:(assignEach (e :: es) X.env).map (·.2)=assign e X.env :: (assignEach es X.env).map (·.2):=by rfl):PGs X (e :: es) (gCons t u):=by
 intro pins s σ H vs us Q I r h;obtain ⟨v,vr,e1,h⟩:=h;subst e1;cases r with
 | cons r rr =>
  rw [hs];refine assignInOrder_cons (thn (h1 pins s σ H _ _ _ I r h) fun _ s1 ⟨σ1,H1,I1,q1⟩=>?_);exact h2 pins s1 σ1 H1 _ _ Q I1 rr q1
noncomputable def gTup (K:PySem.W.Frag) (n:Nat) (t:TGs):TG:=fun v σ H Q=>∃ a xs,v=.ref a∧SqT K H a xs∧xs.length=n∧t xs σ H Q
theorem zCb {es:List Expr}{k:Nat}{t:TGs}{n:Nat} (hc:X.calm=true) (h:PGs X es t)
  (hn:(assignEach es X.env).length=n:=by rfl) (hst:(assignEach es X.env).findIdx? (·.1)=none:=by rfl):PG X (.Tuple es k pos) (gTup X.K n t):=by
 intro pins s σ H v u Q I r hw;obtain ⟨a,xs,e1,hq,hl,hw⟩:=hw;subst e1;cases r;obtain ⟨its,rv,ht,hz⟩:=I.tuple hq;refine assign_Tuple_tuple (I.ok.hd hc) ht (by simp [hn,← hl,rv.length]) hst fun h' hx=>?_;have I1:Inv X pins σ H { s with heap:=h' }:=I.kept (t':=s.toks) fun b o e=>hx b o (Zg (Z9 e)) e;exact h pins _ σ H xs _ Q I1 (by simpa using rv) hw
noncomputable def gSub (to ti:TE) (t:TSet):TG:=fun v σ H Q=>to σ H fun o H1=>ti σ H1 fun i H2=>t o i v H2 fun H3=>Q σ H3
theorem pg_sub {o i:Expr}{to ti:TE}{t:TSet} (ho:PE X o to) (hi:PE X i ti) (hs:PSet X t)
  (ha:∀ v,assign (.Subscript o i pos) X.env v=(do
   let ov ← holding [v] (eval o X.env)
   let iv ← holding [v,ov] (eval i X.env)
   standAt pos
   holding [v,ov,iv] (setItem ov iv v)
   release [v,ov,iv] []):=by intro _;rfl):PG X (.Subscript o i pos) (gSub to ti t):=by
 intro pins s σ H v u Q I r h;rw [ha];refine wpAny_bind (wpAny_holding (thn (ho pins s σ H _ I h) fun ov s1 ⟨x,H1,I1,r1,q1⟩=>?_));refine wpAny_bind (wpAny_holding (thn (hi pins s1 σ H1 _ I1 q1) fun iv s2 ⟨y,H2,I2,r2,q2⟩=>?_));refine wpAny_bind (wpAny_standAt (wpAny_bind (wpAny_holding (thn (hs pins s2 σ H2 x y v ov iv u _ I2 r1 r2 r q2) fun _ s3 ⟨H3,I3,q3⟩=>?_))));exact wpAny_release ⟨σ,H3,I3,q3⟩
noncomputable def tAsg (te:TE) (g:TG):TS:=fun D σ H=>te σ H fun x H1=>g x σ H1 D.nx
theorem zEm {tg e:Expr}{te:TE}{g:TG} (he:PE X e te) (hg:PG X tg g) (hs:swapsWithSole [tg] e pos.line X.env=pure false:=by rfl) (hw:swappedStores [tg] e X.env=pure none:=by rfl)
  (h1:(assignEach [tg] X.env).map (·.2)=[assign tg X.env]:=by rfl):PS X (.Assign [tg] e pos) (tAsg te g):=by
 intro pins s σ H D I h;refine wpAny_Assign_stores (thn (he pins s σ H _ I h) fun v s1 ⟨x,H1,I1,r1,q1⟩=>?_) hs hw;rw [h1];exact thn (hg pins s1 σ H1 x v _ I1 r1 q1) fun _ s2 q=>q
theorem zAb {i:Nat}{x:Str}{e:Expr}{te:TE}{pos':Pos} (hN:X.N.Nodup) (hi:X.N[i]? = some x) (hx:Loc X.env.scope x) (he:PE X e te) (hs:swapsWith e (some (.Name x pos')) pos.line X.env=pure false:=by rfl) (hf:X.fn x=true∨X.env.scope.names.lookup x=some .local:=by first | exact .inl rfl | exact .inr rfl | assumption) :
  PS X (.Assign [.Name x pos'] e pos) (tAsg te (gName i)):=by
 intro pins s σ H D I h;refine wpAny_Assign_Name (thn (he pins s σ H _ I h) fun v s1 ⟨y,H1,I1,r1,q1⟩=>?_) hs;exact zFx I1 hN hi hx r1 (fun s2 I2=>⟨_,H1,I2,q1⟩) hf
end
section
variable {X:Cx}{pos:Pos}
noncomputable def tWhile (c:TT) (tb:TS):TS:=fun D σ H=>∃ W:Nat→St→Hp→Prop,(∃ m,W m σ H)∧∀ m σ H,W m σ H →
 c σ H fun b H1=>if b=true then ∃ N:St→Hp→Prop,(∀ σ' H',N σ' H'→∃ m',m' < m∧W m' σ' H')∧tb { D with nx:=N,ct:=N,bk:=D.nx } σ H1 else D.nx σ H1
theorem zEe {c:Expr}{body:List Stmt}{tc:TT}{tb:TS} (hp:PassesOwn (model X.prog X.w) X.A X.env X.xe) (hc:PT X c tc) (hb:PSs X body tb):PS X (.While c body [] pos) (tWhile tc tb):=by
 intro pins s σ H D I h;obtain ⟨W,⟨m0,w0⟩,turn⟩:=h;refine wpAny_While (codeAny_whileLoop (fun n s'=>∃ σ' H',Inv X pins σ' H' s'∧W n σ' H') ?_ m0 ⟨σ,H,I,w0⟩);rintro n s1 ⟨σ1,H1,I1,w1⟩;refine wpAny_passesOwn hp (thn (hc pins s1 σ1 H1 _ I1 (turn n σ1 H1 w1)) fun b s2 ⟨H2,I2,q2⟩=>?_);cases b with
 | true =>
  obtain ⟨N,hN,q2⟩:=q2;rw [if_pos rfl];refine wpAny_passesOwn hp (thn (hb pins s2 σ1 H2 _ I2 q2) fun f s3 q3=>?_);cases f with
  | next =>
   obtain ⟨σ3,H3,I3,n3⟩:=q3;obtain ⟨m',hm,w3⟩:=hN σ3 H3 n3;exact ⟨m',hm,σ3,H3,I3,w3⟩
  | cont =>
   obtain ⟨σ3,H3,I3,n3⟩:=q3;obtain ⟨m',hm,w3⟩:=hN σ3 H3 n3;exact ⟨m',hm,σ3,H3,I3,w3⟩
  | brk=>exact q3
  | ret v=>exact q3
 | false =>
  rw [if_neg Zi];exact wpAny_execs_nil ⟨σ1,H2,I2,q2⟩
end
structure It where
 go:Nat→Hp→Prop
 yld:Nat→Hp→V→Hp→Prop
 stop:Nat→Hp→Prop
noncomputable def FpOk (X:Cx) (pins:List (Addr×Obj)) (H:Hp) (b:Addr):Prop :=
 H b=none∧b≠X.env.locals∧b∉X.fs∧(b∈X.ex∨X.s₀.heap.objs.size≤b)∧(∀ x c,X.env.cells.lookup x=some c→c≠b)∧∀ p∈X.pn++pins,p.1≠b
theorem Inv.fpOk {X:Cx}{pins:List (Addr×Obj)}{σ : St}{H H':Hp}{s:Shared}{b:Addr} (I:Inv X pins σ H s) (hb:s.heap.objs.size≤b) (hn:H' b=none):FpOk X pins H' b:=by
 refine ⟨hn,Xd (Zf I.lt hb),I.nofs hb,.inr (Zl I.sz hb),fun x c e z=>?_,fun p hp z=>?_⟩
 ·obtain ⟨v,q⟩:=I.cell x c e;exact absurd (Zf q.lt (by rw [z];exact hb)) (Y0 _)
 ·exact absurd (Zf (Z9 (I.pin p hp).1) (by rw [z];exact hb)) (Y0 _)
structure Turn (P:Program) (w:World) (K:PySem.W.Frag) (tg:Expr) (J:It) (fp:List Addr) (it:Addr) (tn:Nat→Heap→Prop):Prop where
 mem:it∈fp
 obj:∀ i h,tn i h→∀ b∈fp,∃ o,h.get? b=some o∧∀ v,o.data≠.cell v
 keep:∀ i h h',tn i h→(∀ b∈fp,∀ o,h.get? b=some o→h'.get? b=some o)→tn i h'
 item:∀ (X:Cx),X.prog=P→X.w=w→X.K=K→X.calm=true→∀ (i:Nat) (pins:List (Addr×Obj)) (s:Shared) (σ : St) (H:Hp) (E:Value→Shared→Prop),Inv X pins σ H s→(∀ b∈fp,FpOk X pins H b)→tn i s.heap→J.go i H →
  wpAny (model P w) X.A (pyNext (.ref it)) (fun r s1=>∃ u,r=some u ∧
   wpAny (model P w) X.A (letOwnedTupleGo tg (.ref it) u) (fun _ s2=>∃ x H',Inv X pins σ H' s2∧RelV x u∧J.yld i H x H'∧tn (i + 1) s2.heap∧∀ b∈fp,H' b=none) E s1) E s
 done:∀ (X:Cx),X.prog=P→X.w=w→X.K=K→X.calm=true→∀ (i:Nat) (pins:List (Addr×Obj)) (s:Shared) (σ : St) (H:Hp) (E:Value→Shared→Prop),Inv X pins σ H s→(∀ b∈fp,FpOk X pins H b)→tn i s.heap→J.stop i H →
  wpAny (model P w) X.A (pyNext (.ref it)) (fun r s1=>r=none∧Inv X pins σ H s1) E s
 self:∀ (A:Around) (i:Nat) (s:Shared) (Q:Value→Shared→Prop) (E:Value→Shared→Prop),tn i s.heap→Q (.ref it) s→wpAny (model P w) A (pyIter (.ref it)) Q E s
noncomputable abbrev TI:=St→Hp→(It→Hp→Prop)→Prop
noncomputable def PIE (X:Cx) (pins:List (Addr×Obj)) (σ : St) (tg:Expr) (R:It→Hp→Prop) (itv:Value) (s2:Shared):Prop :=
 ∃ (it:Addr) (fp:List Addr) (tn:Nat→Heap→Prop) (J:It) (H':Hp),itv=.ref it∧Inv X pins σ H' s2∧Turn X.prog X.w X.K tg J fp it tn∧tn 0 s2.heap∧(∀ b∈fp,FpOk X pins H' b)∧R J H'
noncomputable def PI (X:Cx) (tg iter:Expr) (wi:TI):Prop :=
 ∀ (pins:List (Addr×Obj)) (s:Shared) (σ : St) (H:Hp) (R:It→Hp→Prop),Inv X pins σ H s→wi σ H R →
  wpAny (model X.prog X.w) X.A (eval iter X.env) (fun v s1=>wpAny (model X.prog X.w) X.A (pyIter v) (PIE X pins σ tg R) X.xe s1) X.xe s
theorem go_of {M:Model}{A:Around}{E:Value→Shared→Prop}{s:Shared}{tg:Expr}{it:Addr}{u:Value}{o:Obj}{n:String}{vs:Array Value}{Q:Unit→Shared→Prop} (ho:s.heap.get? it=some o) (hc:o.cls=.type n) (hd:o.data=.fields vs)
  (hn:["enumerate", "zip", "dict_itemiterator", "dict_reverseitemiterator", "odict_iterator", "itertools.zip_longest", "itertools.pairwise"].contains n=false) (hQ:Q () s):wpAny M A (letOwnedTupleGo tg (.ref it) u) Q E s:=by
 unfold letOwnedTupleGo
 cases tg <;> first
  | exact wpAny_pure hQ
  | (cases u <;> first
    | exact wpAny_pure hQ
    | (refine wpAny_bind (wpAny_load ho ?_)
       rw [hc,hd];show wpAny M A (if (["enumerate", "zip", "dict_itemiterator", "dict_reverseitemiterator", "odict_iterator", "itertools.zip_longest", "itertools.pairwise"].contains n && vs[0]? == some (rawInt _))=true then _ else _) Q E s;rw [if_neg (by intro h;rw [hn,Bool.false_and] at h;cases h)]
       exact wpAny_pure hQ))
noncomputable def Itl (K:PySem.W.Frag) (a:Addr):It :=
 ⟨fun i H=>∃ xs x,SqL K H a xs∧xs[i]? = some x,fun i H x H'=>H'=H∧∀ xs,SqL K H a xs→xs[i]? = some x,fun i H=>∃ xs,SqL K H a xs∧xs.length≤i⟩
noncomputable def Itr (lo:Int) (n:Nat):It:=⟨fun i _=>i < n,fun i H x H'=>H'=H∧x=.int (lo + i),fun i _=>n≤i⟩
theorem turn_list {P:Program}{w:World}{K:PySem.W.Frag}{tg:Expr} (a it:Addr):Turn P w K tg (Itl K a) [it] it (fun i h=>h.IsListIter it a i) where
 mem:=by simp
 obj:=fun i h st b hb=>by
  have e:b=it:=by simpa using hb
  subst e;obtain ⟨o,e,c,d⟩:=st;exact ⟨o,e,fun v z=>by rw [d] at z;cases z⟩
 keep:=fun i h h' st k=>st.at fun o e=>k it (by simp) o e
 item:=by
  intro X hP hw hK hc i pins s σ H E I hf st hg;subst hP hw hK;obtain ⟨xs,x,hq,hx⟩:=hg;obtain ⟨its,rv,p,hz⟩:=I.list hq;obtain ⟨u,hu,ru⟩:=rv.get hx;obtain ⟨f0,f1,f2,f3,f4,f5⟩:=hf it (by simp);refine wpAny_pyNext_list_item st p.isList (x:=u) (by simpa using hu) fun h' st' sb=>?_;have I1:Inv X pins σ H { s with heap:=h' }:=I.turned (t':=s.toks) (fun b o hb e=>(sb.2 b hb).trans e) f0 f1 f3 f4 f5;obtain ⟨o,e,c,d⟩:=id st';exact ⟨u,rfl,go_of (s:={ s with heap:=h' }) e c d (by decide) ⟨x,H,I1,ru,⟨rfl,fun ys hy=>by rw [I.list_inj hy hq];exact hx⟩,st',fun b hb=>(hf b hb).1⟩⟩
 done:=by
  intro X hP hw hK hc i pins s σ H E I hf st hg;subst hP hw hK;obtain ⟨xs,hq,hx⟩:=hg;obtain ⟨its,rv,p,hz⟩:=I.list hq;obtain ⟨f0,f1,f2,f3,f4,f5⟩:=hf it (by simp);have hl:=rv.length;exact wpAny_pyNext_list_end (I.ok.hd hc) st p.isList (by simp;omega) fun h' eb=>⟨rfl,I.turned (t':=s.toks) (fun b o hb e=>eb b o hb e) f0 f1 f3 f4 f5⟩
 self:=fun _ _ _ _ _ st h=>wpAny_pyIter_listiter st h
theorem turn_range {P:Program}{w:World}{K:PySem.W.Frag}{tg:Expr} (it:Addr) (lo:Int) (n:Nat):Turn P w K tg (Itr lo n) [it] it (fun i h=>IsRangeIter h it (lo + (i:Nat) * 1) ((n:Int) - (i:Nat)) 1) where
 mem:=by simp
 obj:=fun i h st b hb=>by
  have e:b=it:=by simpa using hb
  subst e
  exact ⟨_,st,fun v z=>by
   have z':Data.fields _=Data.cell v:=z
   cases z'⟩
 keep:=fun i h h' st k=>k it (by simp) _ st
 item:=by
  intro X hP hw hK hc i pins s σ H E I hf st hg;subst hP hw hK;obtain ⟨f0,f1,f2,f3,f4,f5⟩:=hf it (by simp);have W:=Walks.range (prog:=X.prog) (w:=X.w) (I.ok.hd hc) it lo 1 n;refine W.item i s _ _ hg st fun v h' tk hv st' kk=>?_;obtain ⟨t,rfl⟩:=hv;have I1:Inv X pins σ H { s with heap:=h',toks:=tk }:=I.turned (fun b o hb e=>kk b o (by simpa using hb) e) f0 f1 f3 f4 f5;refine ⟨_,rfl,go_of (s:={ s with heap:=h',toks:=tk }) (n:="range_iterator") st' rfl rfl (by decide) ⟨.int (lo + i),H,I1,⟨t,?_⟩,⟨rfl,rfl⟩,st',fun b hb=>(hf b hb).1⟩⟩;rw [Int.mul_one]
 done:=by
  intro X hP hw hK hc i pins s σ H E I hf st hg;subst hP hw hK;obtain ⟨f0,f1,f2,f3,f4,f5⟩:=hf it (by simp);exact wpAny_pyNext_range_end (I.ok.hd hc) st (by have:n≤i:=hg;omega) fun h' eb=>⟨rfl,I.turned (t':=s.toks) (fun b o hb e=>eb b o hb e) f0 f1 f3 f4 f5⟩
 self:=fun _ _ _ _ _ st h=>wpAny_pyIter_rangeiter st h
end L2
namespace L2
open PySem PySem.Spec PyProof.Rows
section
variable {X:Cx}{tg:Expr}
noncomputable def iList (K:PySem.W.Frag) (tl:TE):TI:=fun σ H R=>tl σ H fun x H1=>∃ a,x=.ref a∧(∃ xs,SqL K H1 a xs)∧R (Itl K a) H1
theorem zAh {l:Expr}{tl:TE} (hl:PE X l tl):PI X tg l (iList X.K tl):=by
 intro pins s σ H R I h;refine thn (hl pins s σ H _ I h) fun v s1 ⟨x,H1,I1,r1,q1⟩=>?_;obtain ⟨a,e,⟨xs,hq⟩,q⟩:=q1;subst e;cases r1;obtain ⟨its,rv,p,hz⟩:=I1.list hq;refine wpAny_pyIter_list p.isList ?_;refine ⟨s1.heap.objs.size,[s1.heap.objs.size],_,_,H1,rfl,I1.kept (t':=s1.toks) fun b o e=>Z2 _ e,turn_list a _,⟨_,Ze _ rfl,rfl,rfl⟩,fun b hb=>?_,q⟩;have e:b=s1.heap.objs.size:=by simpa using hb
 subst e;exact I1.fpOk (Z5 _) (I1.hok.fresh (Z5 _))
theorem range_it {pins:List (Addr×Obj)}{σ : St}{H:Hp}{s:Shared}{R:It→Hp→Prop}{E:Value→Shared→Prop}{lo hi:Int}{t u v:Tok}{tk:Nat} (I:Inv X pins σ H s) (h1 : -(2 ^ 62)≤lo) (h2:lo < 2 ^ 62) (h3 : -(2 ^ 62)≤hi) (h4:hi < 2 ^ 62)
  (q:R (Itr lo (hi - lo).toNat) H):wpAny (model X.prog X.w) X.A (pyIter (.ref s.heap.objs.size)) (PIE X pins σ tg R) E { s with heap:=s.heap.push { cls:=.type "range",data:=.fields #[.int lo t,.int hi u,.int 1 v] },toks:=tk }:=by
 refine wpAny_pyIter_range (IsRange.new ..) (small_one h1 h2 h3 h4) ?_;have I1:Inv X pins σ H { s with heap:=s.heap.push { cls:=.type "range",data:=.fields #[.int lo t,.int hi u,.int 1 v] },toks:=tk }:=I.kept fun b o e=>Z2 _ e
 refine ⟨(s.heap.push { cls:=.type "range",data:=.fields #[.int lo t,.int hi u,.int 1 v] }).objs.size,[(s.heap.push { cls:=.type "range",data:=.fields #[.int lo t,.int hi u,.int 1 v] }).objs.size],_,_,H,rfl,
  I1.kept (t':=tk) fun b o e=>Z2 _ e,turn_range _ lo (hi - lo).toNat,?_,fun b hb=>?_,q⟩
 ·have e1:lo + ((0:Nat):Int) * 1=lo:=by simp
  have e2:(((hi - lo).toNat:Nat):Int) - ((0:Nat):Int)=Builtin.Range.rangeSize lo hi 1:=by rw [rangeSize_one];split <;> omega
  show IsRangeIter _ _ (lo + ((0:Nat):Int) * 1) ((((hi - lo).toNat:Nat):Int) - ((0:Nat):Int)) 1;rw [e1,e2];exact Ze _ rfl
 ·have e:b=(s.heap.push { cls:=.type "range",data:=.fields #[.int lo t,.int hi u,.int 1 v] }).objs.size:=by simpa using hb
  subst e;exact I1.fpOk (Z5 _) (I1.hok.fresh (Z5 _))
noncomputable def iRng1 (ta:TA):TI:=fun σ H R=>ta σ H fun vs H1=>∃ j:Int,vs=[.int j]∧-(2 ^ 62)≤j∧j < 2 ^ 62∧R (Itr 0 j.toNat) H1
theorem zCd {a:Expr}{ta:TA}{p pos:Pos} (hg:Gl X "range") (hm:X.mg "range" = none) (ha:PA X [a] ta) (hs:starEach [a] X.env=[(false,eval a X.env)]:=by rfl):PI X tg (.Call (.Name "range" p) [a] [] pos) (iRng1 ta):=by
 intro pins s σ H R I h;refine Call_ (zEy I hg hm boot_range (PyProof.Rows.callWith_type1 (thn (ha pos pins s σ H _ I h) fun us s1 ⟨vs,H1,I1,r1,q1⟩=>?_) hs rfl));obtain ⟨j,e,q1,q2,q⟩:=q1;subst e;cases r1 with
 | cons r rr =>
  cases rr;obtain ⟨t,rfl⟩:=r;exact call_range_1 (range_it I1 (by omega) (by omega) q1 q2 (by simpa using q))
noncomputable def tFor (wi:TI) (g:TG) (tb:TS):TS:=fun D σ H=>wi σ H fun J H1=>∃ W:Nat→Nat→St→Hp→Prop,(∃ m,W 0 m σ H1)∧∀ i m σ H,W i m σ H →
 (J.stop i H∧D.nx σ H)∨(J.go i H∧∃ N:St→Hp→Prop,(∀ σ' H',N σ' H'→∃ m',m' < m∧W (i + 1) m' σ' H')∧∀ x H',J.yld i H x H'→g x σ H' fun σ2 H2=>tb { D with nx:=N,ct:=N,bk:=D.nx } σ2 H2)
noncomputable def pinsAt (fp:List Addr) (h:Heap):List (Addr×Obj):=fp.filterMap fun b=>(h.get? b).map fun o=>(b,o)
theorem zDx {fp:List Addr}{h:Heap}{b:Addr}{o:Obj} (hb:b∈fp) (e:h.get? b=some o):(b,o)∈pinsAt fp h:=List.mem_filterMap.mpr ⟨b,hb,by rw [e];rfl⟩
theorem of_pinsAt {fp:List Addr}{h:Heap}{p:Addr×Obj} (hp:p∈pinsAt fp h):p.1∈fp∧h.get? p.1=some p.2:=by
 obtain ⟨b,hb,e⟩:=List.mem_filterMap.mp hp;cases q:h.get? b with
 | none=>rw [q] at e;cases e
 | some o =>
  rw [q] at e;have e':(b,o)=p:=Zk e;subst e';exact ⟨hb,q⟩
theorem Inv.pinned {pins:List (Addr×Obj)}{σ : St}{H:Hp}{s:Shared}{fp:List Addr} (I:Inv X pins σ H s) (hf:∀ b∈fp,FpOk X pins H b) (ho:∀ b∈fp,∃ o,s.heap.get? b=some o∧∀ v,o.data≠.cell v):Inv X (pins++pinsAt fp s.heap) σ H s :=
 I.pins_of fun p hp=>(List.mem_append.mp hp).elim (fun z=>I.pin p (Zx _ z)) fun z=>by
  obtain ⟨hb,e⟩:=of_pinsAt z;obtain ⟨f0,f1,f2,_⟩:=hf p.1 hb;obtain ⟨o,e',d⟩:=ho p.1 hb;rw [e] at e';cases e';exact ⟨e,f0,f1,f2,d⟩
theorem Inv.unpinned {pins pl:List (Addr×Obj)}{σ : St}{H:Hp}{s:Shared} (I:Inv X (pins++pl) σ H s):Inv X pins σ H s:=I.pins_of fun p hp=>I.pin p (Zx _ (Yl _ hp))
theorem zBj {iter:Expr}{body:List Stmt}{wi:TI}{g:TG}{tb:TS}{pos:Pos} (hp:PassesOwn (model X.prog X.w) X.A X.env X.xe) (hc:X.calm=true) (hi:PI X tg iter wi) (hg:PG X tg g) (hb:PSs X body tb)
  (hs:∀ x,foldedSetIterable iter X.env x=pure x:=by intro _;rfl):PS X (.For tg iter body [] pos) (tFor wi g tb):=by
 intro pins s σ H D I h;refine wpAny_For (thn (hi pins s σ H _ I h) fun v s1 h1=>thn h1 fun itv s2 h2=>?_) hs;obtain ⟨it,fp,tn,J,H2,e,I2,T,st2,f2,W,⟨m0,w0⟩,turn⟩:=h2;subst e;have stat:∀ {H':Hp},(∀ b∈fp,H' b=none)→∀ b∈fp,FpOk X pins H' b:=fun hn b hb=>⟨hn b hb,(f2 b hb).2⟩;refine codeAny_forLoop_any (fun n s'=>∃ i σ' H',Inv X pins σ' H' s'∧tn i s'.heap∧(∀ b∈fp,H' b=none)∧W i n σ' H') ?_ m0 ⟨0,σ,H2,I2,st2,fun b hb=>(f2 b hb).1,w0⟩;rintro n s3 ⟨i,σ3,H3,I3,st3,fr3,w3⟩;rcases turn i n σ3 H3 w3 with ⟨stop,qn⟩ | ⟨go,N,hN,step⟩
 ·refine wpAny_passesOwn hp (thn (T.done X rfl rfl rfl hc i pins s3 σ3 H3 X.xe I3 (stat fr3) st3 stop) fun r s4 ⟨hr,I4⟩=>?_);subst hr;exact wpAny_execs_nil ⟨σ3,H3,I4,qn⟩
 ·refine wpAny_passesOwn hp (thn (T.item X rfl rfl rfl hc i pins s3 σ3 H3 X.xe I3 (stat fr3) st3 go) fun r s4 ⟨u,hr,h4⟩=>?_);subst hr;refine wpAny_passesOwn hp (thn h4 fun _ s5 ⟨x,H5,I5,r5,y5,st5,fr5⟩=>?_);have I5':=I5.pinned (stat fr5) (T.obj _ _ st5);refine wpAny_passesOwn hp (thn (hg _ s5 σ3 H5 x u _ I5' r5 (step x H5 y5)) fun _ s6 ⟨σ6,H6,I6,q6⟩=>?_);refine wpAny_passesOwn hp (thn (hb _ s6 σ6 H6 _ I6 q6) fun f s7 q7=>?_);have again:∀ {σ7:St}{H7:Hp},Inv X (pins++pinsAt fp s5.heap) σ7 H7 s7→N σ7 H7→∃ m,m < n∧∃ i σ' H',Inv X pins σ' H' s7∧tn i s7.heap∧(∀ b∈fp,H' b=none)∧W i m σ' H':=fun {σ7 H7} I7 n7=>by
   obtain ⟨m',hm,w7⟩:=hN σ7 H7 n7;refine ⟨m',hm,i + 1,σ7,H7,I7.unpinned,T.keep _ _ _ st5 fun b hb o e=>(I7.pin (b,o) (Zx _ (Zx _ (zDx hb e)))).1,fun b hb=>?_,w7⟩;obtain ⟨o,e,d⟩:=T.obj _ _ st5 b hb;exact (I7.pin (b,o) (Zx _ (Zx _ (zDx hb e)))).2.1
  cases f with
  | next=>obtain ⟨σ7,H7,I7,n7⟩:=q7;exact again I7 n7
  | cont=>obtain ⟨σ7,H7,I7,n7⟩:=q7;exact again I7 n7
  | brk=>obtain ⟨σ7,H7,I7,q7⟩:=q7;exact ⟨σ7,H7,I7.unpinned,q7⟩
  | ret v=>obtain ⟨x7,σ7,H7,I7,r7,q7⟩:=q7;exact ⟨x7,σ7,H7,I7.unpinned,r7,q7⟩
end
theorem zBf {K:PySem.W.Frag}{a:Addr}{xs:List V}{g:TG}{tb:TS}{D:Ends}{σ : St}{H:Hp} (Pv:Nat→St→Hp→Prop) (h0:Pv 0 σ H) (hl:∀ i σ H,i≤xs.length→Pv i σ H→SqL K H a xs)
  (hs:∀ i x σ H,xs[i]? = some x→Pv i σ H→g x σ H fun σ2 H2=>tb { D with nx:=Pv (i + 1),ct:=Pv (i + 1),bk:=D.nx } σ2 H2) (hd:∀ σ H,Pv xs.length σ H→D.nx σ H) :
  ∃ W:Nat→Nat→St→Hp→Prop,(∃ m,W 0 m σ H)∧∀ i m σ H,W i m σ H →
   ((Itl K a).stop i H∧D.nx σ H)∨((Itl K a).go i H∧∃ N:St→Hp→Prop,(∀ σ' H',N σ' H'→∃ m',m' < m∧W (i + 1) m' σ' H')∧∀ x H',(Itl K a).yld i H x H'→g x σ H' fun σ2 H2=>tb { D with nx:=N,ct:=N,bk:=D.nx } σ2 H2):=by
 refine ⟨fun i m σ H=>m=xs.length - i∧i≤xs.length∧Pv i σ H,⟨xs.length,by simp,Zo _,h0⟩,?_⟩;rintro i m σ H ⟨rfl,hi,p⟩;have q:=hl i σ H hi p;by_cases hlt:i < xs.length
 ·refine .inr ⟨⟨xs,xs[i],q,by simp [hlt]⟩,Pv (i + 1),fun σ' H' p'=>⟨xs.length - (i + 1),by omega,rfl,hlt,p'⟩,fun x H' y=>?_⟩;obtain ⟨e,y⟩:=y;subst e;exact hs i x σ _ (y xs q) p
 ·have e:i=xs.length:=by omega
  subst e;exact .inl ⟨⟨xs,q,Z5 _⟩,hd σ H p⟩
theorem for_range {lo:Int}{n:Nat}{g:TG}{tb:TS}{D:Ends}{σ : St}{H:Hp} (Pv:Nat→St→Hp→Prop) (h0:Pv 0 σ H)
  (hs:∀ i σ H,i < n→Pv i σ H→g (.int (lo + i)) σ H fun σ2 H2=>tb { D with nx:=Pv (i + 1),ct:=Pv (i + 1),bk:=D.nx } σ2 H2) (hd:∀ σ H,Pv n σ H→D.nx σ H) :
  ∃ W:Nat→Nat→St→Hp→Prop,(∃ m,W 0 m σ H)∧∀ i m σ H,W i m σ H →
   ((Itr lo n).stop i H∧D.nx σ H)∨((Itr lo n).go i H∧∃ N:St→Hp→Prop,(∀ σ' H',N σ' H'→∃ m',m' < m∧W (i + 1) m' σ' H')∧∀ x H',(Itr lo n).yld i H x H'→g x σ H' fun σ2 H2=>tb { D with nx:=N,ct:=N,bk:=D.nx } σ2 H2):=by
 refine ⟨fun i m σ H=>m=n - i∧i≤n∧Pv i σ H,⟨n,by simp,Zo _,h0⟩,?_⟩;rintro i m σ H ⟨rfl,hi,p⟩;by_cases hlt:i < n
 ·refine .inr ⟨hlt,Pv (i + 1),fun σ' H' p'=>⟨n - (i + 1),by omega,rfl,hlt,p'⟩,fun x H' y=>?_⟩;obtain ⟨e,y⟩:=y;subst e y;exact hs i σ _ hlt p
 ·have e:i=n:=by omega
  subst e;exact .inl ⟨Z5 _,hd σ H p⟩
end L2
namespace L2
open PySem PySem.Spec PyProof.Rows
noncomputable abbrev R2:=V→V→Hp→VK→Prop
noncomputable def OpR (X:Cx) (f:Value→Value→Sem Value) (r:R2):Prop :=
 ∀ (pins:List (Addr×Obj)) (s:Shared) (σ : St) (H:Hp) (x y:V) (v u:Value) (Q:VK),Inv X pins σ H s→RelV x v→RelV y u→r x y H Q →
  wpAny (model X.prog X.w) X.A (f v u) (EP X pins σ Q) X.xe s
noncomputable def UnR (X:Cx) (f:Value→Sem Value) (r:V→Hp→VK→Prop):Prop :=
 ∀ (pins:List (Addr×Obj)) (s:Shared) (σ : St) (H:Hp) (x:V) (v:Value) (Q:VK),Inv X pins σ H s→RelV x v→r x H Q →
  wpAny (model X.prog X.w) X.A (f v) (EP X pins σ Q) X.xe s
noncomputable def CallR (X:Cx) (f:Value) (r:List V→Hp→VK→Prop):Prop :=
 ∀ (pins:List (Addr×Obj)) (s:Shared) (σ : St) (H:Hp) (xs:List V) (us:List Value) (Q:VK),Inv X pins σ H s→Vals xs us→r xs H Q →
  wpAny (model X.prog X.w) X.A (call f us) (EP X pins σ Q) X.xe s
noncomputable def TruR (X:Cx) (r:V→Hp→(Bool→Hp→Prop)→Prop):Prop :=
 ∀ (pins:List (Addr×Obj)) (s:Shared) (σ : St) (H:Hp) (x:V) (v:Value) (Q:Bool→Hp→Prop),Inv X pins σ H s→RelV x v→r x H Q →
  wpAny (model X.prog X.w) X.A (truthy v) (TP X pins σ Q) X.xe s
noncomputable def tOp (r:R2) (ta tb:TE):TE:=fun σ H Q=>ta σ H fun x H1=>tb σ H1 fun y H2=>r x y H2 Q
noncomputable def tUn (r:V→Hp→VK→Prop) (ta:TE):TE:=fun σ H Q=>ta σ H fun x H1=>r x H1 Q
noncomputable def rI (C:Int→Int→Prop) (g:Int→Int→V):R2:=fun x y H Q=>∃ i j,x=.int i∧y=.int j∧C i j∧Q (g i j) H
noncomputable def rI0 (g:Int→Int→V):R2:=fun x y H Q=>∃ i j,x=.int i∧y=.int j∧Q (g i j) H
noncomputable def rU (g:Int→V):V→Hp→VK→Prop:=fun x H Q=>∃ i,x=.int i∧Q (g i) H
section
variable {X:Cx}{a b c:Expr}{ta tb tc:TE}{pos:Pos}
theorem binT (ha:PE X a ta) (hb:PE X b tb) {pins:List (Addr×Obj)}{s:Shared}{σ : St}{H:Hp}{R:V→V→Hp→Prop} (I:Inv X pins σ H s)
  (h:ta σ H fun x H1=>tb σ H1 fun y H2=>R x y H2) {Q:Value→Shared→Prop}{f:Value→Value→Sem Value}
  (hf:∀ v u s2 x y H2,Inv X pins σ H2 s2→RelV x v→RelV y u→R x y H2→wpAny (model X.prog X.w) X.A (f v u) Q X.xe s2) :
  wpAny (model X.prog X.w) X.A (eval a X.env) (fun v s₁=>wpAny (model X.prog X.w) X.A (eval b X.env) (fun u s₂=>wpAny (model X.prog X.w) X.A (f v u) Q X.xe s₂) X.xe s₁) X.xe s:=by
 refine thn (ha pins s σ H _ I h) fun v s1 ⟨x,H1,I1,r1,q1⟩=>?_;refine thn (hb pins s1 σ H1 _ I1 q1) fun u s2 ⟨y,H2,I2,r2,q2⟩=>?_;exact hf v u s2 x y H2 I2 r1 r2 q2
theorem zAp {op:Operator}{r:R2} (ho:OpR X (binaryOp op) r) (ha:PE X a ta) (hb:PE X b tb):PE X (.BinOp a op b pos) (tOp r ta tb):=by
 intro pins s σ H Q I h;exact wpAny_BinOp (binT ha hb I h fun v u s2 x y H2 I2 rx ry q=>ho pins s2 σ H2 x y v u Q I2 rx ry q)
theorem pe_un {op:UnaryOp}{r:V→Hp→VK→Prop} (ho:UnR X (unaryOp op) r) (ha:PE X a ta):PE X (.UnaryOp op a pos) (tUn r ta):=by
 intro pins s σ H Q I h;exact UnaryOp_ (thn (ha pins s σ H _ I h) fun v s1 ⟨x,H1,I1,r1,q1⟩=>ho pins s1 σ H1 x v Q I1 r1 q1)
theorem opI {f:Value→Value→Sem Value}{C:Int→Int→Prop}{g:Int→Int→Int}
  (rule:∀ (i j:Int) (t u:Tok) (s:Shared) (Q:Value→Shared→Prop) (E:Value→Shared→Prop),C i j→Q (.int (g i j) s.toks) { s with toks:=s.toks + 1 }→wpAny (model X.prog X.w) X.A (f (.int i t) (.int j u)) Q E s) :
  OpR X f (rI C fun i j=>.int (g i j)):=by
 intro pins s σ H x y v u Q I rx ry h;obtain ⟨i,j,rfl,rfl,hc,q⟩:=h;obtain ⟨t,rfl⟩:=rx;obtain ⟨t',rfl⟩:=ry;exact rule i j t t' s _ _ hc ⟨.int (g i j),H,I.tok _,⟨_,rfl⟩,q⟩
theorem opI0 {f:Value→Value→Sem Value}{g:Int→Int→Int}
  (rule:∀ (i j:Int) (t u:Tok) (s:Shared) (Q:Value→Shared→Prop) (E:Value→Shared→Prop),Q (.int (g i j) s.toks) { s with toks:=s.toks + 1 }→wpAny (model X.prog X.w) X.A (f (.int i t) (.int j u)) Q E s) :
  OpR X f (rI0 fun i j=>.int (g i j)):=by
 intro pins s σ H x y v u Q I rx ry h;obtain ⟨i,j,rfl,rfl,q⟩:=h;obtain ⟨t,rfl⟩:=rx;obtain ⟨t',rfl⟩:=ry;exact rule i j t t' s _ _ ⟨.int (g i j),H,I.tok _,⟨_,rfl⟩,q⟩
theorem opB0 {f:Value→Value→Sem Value}{g:Int→Int→Bool}
  (rule:∀ (i j:Int) (t u:Tok) (s:Shared) (Q:Value→Shared→Prop) (E:Value→Shared→Prop),Q (.bool (g i j)) s→wpAny (model X.prog X.w) X.A (f (.int i t) (.int j u)) Q E s) :
  OpR X f (rI0 fun i j=>.bl (g i j)):=by
 intro pins s σ H x y v u Q I rx ry h;obtain ⟨i,j,rfl,rfl,q⟩:=h;obtain ⟨t,rfl⟩:=rx;obtain ⟨t',rfl⟩:=ry;exact rule i j t t' s _ _ ⟨.bl (g i j),H,I,rfl,q⟩
noncomputable def CDiv (i j:Int):Prop:=0 < j∧j < 1073741824
noncomputable def CPow (i j:Int):Prop:=0≤j∧j≤1000000∧i.natAbs < 2 ^ 64
noncomputable def CMul (i j:Int):Prop:=(-(2 ^ 64) < i∧i < 2 ^ 64)∨(-(2 ^ 64) < j∧j < 2 ^ 64)
theorem CMul.ok {i j:Int} (h:CMul i j):IntMulOk i j:=by
 rcases h with ⟨h1,h2⟩ | ⟨h1,h2⟩
 ·exact .of_left (intBits_le_64 h1 h2)
 ·exact .of_right (intBits_le_64 h1 h2)
theorem zBu:OpR X (binaryOp .Add) (rI0 fun i j=>.int (i + j)):=opI0 fun _ _ _ _ _ _ _ q=>add_int q
theorem op_sub:OpR X (binaryOp .Sub) (rI0 fun i j=>.int (i - j)):=opI0 fun _ _ _ _ _ _ _ q=>sub_int q
theorem zCw:OpR X (binaryOp .Mult) (rI CMul fun i j=>.int (i * j)):=opI fun _ _ _ _ _ _ _ hc q=>mul_int q hc.ok
theorem zGe:OpR X (binaryOp .FloorDiv) (rI CDiv fun i j=>.int (i / j)):=opI fun i j _ _ _ _ _ hc q=>by
 have h1:(0:Int) < j:=hc.1;have h2:j < 1073741824:=hc.2;exact floordiv_int (by omega) (by rw [Int.fdiv_eq_ediv_of_nonneg i (by omega)];exact q) (.inl (PyProof.noPylong_small (by omega)))
theorem zCh:OpR X (binaryOp .Mod) (rI (fun _ j=>0 < j) fun i j=>.int (i % j)):=opI fun i j _ _ _ _ _ hc q=>by
 have h1:(0:Int) < j:=hc;exact mod_int' (by omega) (by rw [Int.fmod_eq_emod_of_nonneg i (by omega)];exact q)
theorem op_pow:OpR X (binaryOp .Pow) (rI CPow fun i j=>.int (i ^ j.toNat)):=opI fun _ _ _ _ _ _ _ hc q=>pow_int_small hc.1 hc.2.1 hc.2.2 q
theorem unI {f:Value→Sem Value}{g:Int→Int}
  (rule:∀ (i:Int) (t:Tok) (s:Shared) (Q:Value→Shared→Prop) (E:Value→Shared→Prop),Q (.int (g i) s.toks) { s with toks:=s.toks + 1 }→wpAny (model X.prog X.w) X.A (f (.int i t)) Q E s) :
  UnR X f (rU fun i=>.int (g i)):=by
 intro pins s σ H x v Q I rx h;obtain ⟨i,rfl,q⟩:=h;obtain ⟨t,rfl⟩:=rx;exact rule i t s _ _ ⟨.int (g i),H,I.tok _,⟨_,rfl⟩,q⟩
theorem un_neg:UnR X (unaryOp .USub) (rU fun i=>.int (-i)):=unI fun _ _ _ _ _ q=>neg_int q
end
noncomputable def scal:V→V→Bool
 | .non,.non=>true | .non,.int _=>true | .int _,.non=>true | .non,.bl _=>true | .bl _,.non=>true | .non,.str _=>true | .str _,.non=>true
 | .int _,.int _=>true | .bl _,.bl _=>true | .str _,.str _=>true | .byt _,.byt _=>true
 | .int _,.str _=>true | .str _,.int _=>true | .bl _,.str _=>true | .str _,.bl _=>true
 | _,_=>false
noncomputable def rEq:R2:=fun x y H Q=>scal x y=true∧Q (.bl (decide (x=y))) H
noncomputable def rNe:R2:=fun x y H Q=>scal x y=true∧Q (.bl (!decide (x=y))) H
theorem dec_int {i j:Int}:decide (V.int i=V.int j)=(i == j):=by
 rw [Xg];simp
theorem dec_bl {i j:Bool}:decide (V.bl i=V.bl j)=(i == j):=by
 rw [Xg];simp
theorem dec_str {i j:Str}:decide (V.str i=V.str j)=(i == j):=by
 rw [Xg];simp
theorem dec_byt {i j:Array UInt8}:decide (V.byt i=V.byt j)=(i.toList == j.toList):=by
 rw [Xg];cases i;cases j;simp
section
variable {X:Cx}{a b c:Expr}{ta tb tc:TE}{pos:Pos}
theorem zAt {pins:List (Addr×Obj)}{σ : St}{H:Hp}{s:Shared}{Q:VK}{k k':Bool} (I:Inv X pins σ H s) (q:Q (.bl k) H) (e:k=k'):EP X pins σ Q (.bool k') s:=by
 subst e;exact ⟨.bl k,H,I,rfl,q⟩
theorem zDw:OpR X (compareOp .Eq) rEq:=by
 intro pins s σ H x y v u Q I rx ry h;obtain ⟨hs,q⟩:=h;cases x with
 | non =>
  cases rx;cases y with
  | non=>cases ry;exact PySem.EqNone.eq_none_none (zAt I q (by simp))
  | bl j=>cases ry;exact PySem.EqNone.eq_none_bool (zAt I q (by simp))
  | int j=>obtain ⟨t',rfl⟩:=ry;exact PySem.EqNone.eq_none_int (zAt I q (by simp))
  | str j=>obtain ⟨t',rfl⟩:=ry;exact PySem.EqNone.eq_none_str (zAt I q (by simp))
  | _=>exact absurd (show false=true from hs) Zi
 | bl i =>
  cases rx;cases y with
  | non=>cases ry;exact PySem.EqNone.eq_bool_none (zAt I q (by simp))
  | bl j=>cases ry;exact eq_bool (zAt I q dec_bl)
  | str j=>obtain ⟨t',rfl⟩:=ry;exact PySem.EqMixed.eq_bool_str (zAt I q (by simp))
  | _=>exact absurd (show false=true from hs) Zi
 | int i =>
  obtain ⟨t,rfl⟩:=rx;cases y with
  | non=>cases ry;exact PySem.EqNone.eq_int_none (zAt I q (by simp))
  | int j=>obtain ⟨t',rfl⟩:=ry;exact eq_int (zAt I q dec_int)
  | str j=>obtain ⟨t',rfl⟩:=ry;exact PySem.EqMixed.eq_int_str (zAt I q (by simp))
  | _=>exact absurd (show false=true from hs) Zi
 | str i =>
  obtain ⟨t,rfl⟩:=rx;cases y with
  | non=>cases ry;exact PySem.EqNone.eq_str_none (zAt I q (by simp))
  | bl j=>cases ry;exact PySem.EqMixed.eq_str_bool (zAt I q (by simp))
  | int j=>obtain ⟨t',rfl⟩:=ry;exact PySem.EqMixed.eq_str_int (zAt I q (by simp))
  | str j=>obtain ⟨t',rfl⟩:=ry;exact eq_str (zAt I q dec_str)
  | _=>exact absurd (show false=true from hs) Zi
 | byt i =>
  obtain ⟨t,rfl⟩:=rx;cases y with
  | byt j=>obtain ⟨t',rfl⟩:=ry;exact PySem.W.eq_bytes (zAt I q dec_byt)
  | _=>exact absurd (show false=true from hs) Zi
 | _=>cases y <;> exact absurd (show false=true from hs) Zi
theorem op_ne:OpR X (compareOp .NotEq) rNe:=by
 intro pins s σ H x y v u Q I rx ry h;obtain ⟨hs,q⟩:=h;cases x with
 | non =>
  cases rx;cases y with
  | non=>cases ry;exact PySem.EqNone.ne_none_none (zAt I q (by simp))
  | bl j=>cases ry;exact PySem.EqNone.ne_none_bool (zAt I q (by simp))
  | int j=>obtain ⟨t',rfl⟩:=ry;exact PySem.EqNone.ne_none_int (zAt I q (by simp))
  | str j=>obtain ⟨t',rfl⟩:=ry;exact PySem.EqNone.ne_none_str (zAt I q (by simp))
  | _=>exact absurd (show false=true from hs) Zi
 | bl i =>
  cases rx;cases y with
  | non=>cases ry;exact PySem.EqNone.ne_bool_none (zAt I q (by simp))
  | bl j=>cases ry;exact ne_bool (zAt I q (congrArg not dec_bl))
  | str j=>obtain ⟨t',rfl⟩:=ry;exact PySem.EqMixed.ne_bool_str (zAt I q (by simp))
  | _=>exact absurd (show false=true from hs) Zi
 | int i =>
  obtain ⟨t,rfl⟩:=rx;cases y with
  | non=>cases ry;exact PySem.EqNone.ne_int_none (zAt I q (by simp))
  | int j=>obtain ⟨t',rfl⟩:=ry;exact ne_int (zAt I q (congrArg not dec_int))
  | str j=>obtain ⟨t',rfl⟩:=ry;exact PySem.EqMixed.ne_int_str (zAt I q (by simp))
  | _=>exact absurd (show false=true from hs) Zi
 | str i =>
  obtain ⟨t,rfl⟩:=rx;cases y with
  | non=>cases ry;exact PySem.EqNone.ne_str_none (zAt I q (by simp))
  | bl j=>cases ry;exact PySem.EqMixed.ne_str_bool (zAt I q (by simp))
  | int j=>obtain ⟨t',rfl⟩:=ry;exact PySem.EqMixed.ne_str_int (zAt I q (by simp))
  | str j=>obtain ⟨t',rfl⟩:=ry;exact ne_str (zAt I q (congrArg not dec_str))
  | _=>exact absurd (show false=true from hs) Zi
 | byt i =>
  obtain ⟨t,rfl⟩:=rx;cases y with
  | byt j=>obtain ⟨t',rfl⟩:=ry;exact PySem.W.ne_bytes (zAt I q (congrArg not dec_byt))
  | _=>exact absurd (show false=true from hs) Zi
 | _=>cases y <;> exact absurd (show false=true from hs) Zi
theorem op_lt:OpR X (compareOp .Lt) (rI0 fun i j=>.bl (decide (i < j))):=opB0 fun _ _ _ _ _ _ _ q=>lt_int q
theorem op_le:OpR X (compareOp .LtE) (rI0 fun i j=>.bl (decide (i≤j))):=opB0 fun _ _ _ _ _ _ _ q=>le_int q
theorem zGd:OpR X (compareOp .Gt) (rI0 fun i j=>.bl (decide (j < i))):=opB0 fun _ _ _ _ _ _ _ q=>gt_int q
theorem op_in_str:OpR X (compareOp .In) (fun x y H Q=>∃ i j,x=.str i∧y=.str j∧Q (.bl (!(Builtin.Str.occurrences j i 0 j.length 1).isEmpty)) H):=by
 intro pins s σ H x y v u Q I rx ry h;obtain ⟨i,j,rfl,rfl,q⟩:=h;obtain ⟨t,rfl⟩:=rx;obtain ⟨t',rfl⟩:=ry;exact in_str (zAt I q rfl)
theorem op_notN:OpR X (compareOp .IsNot) (fun x y H Q=>y=.non∧Q (.bl (!decide (x=.non))) H):=by
 intro pins s σ H x y v u Q I rx ry h;obtain ⟨rfl,q⟩:=h;cases ry;refine isnot_none_gen (zAt I q ?_)
 cases x <;> first
  | (cases rx;rfl)
  | (obtain ⟨t,rfl⟩:=rx;rfl)
theorem nomark (b:Expr) {op:CmpOp} (h:op≠.In:=by decide) (h2:op≠.NotIn:=by decide):behindInMarks op b=false:=by
 have e1:(op == CmpOp.In)=false:=by cases op <;> first | rfl | exact absurd rfl h
 have e2:(op == CmpOp.NotIn)=false:=by cases op <;> first | rfl | exact absurd rfl h2
 cases b <;> simp [behindInMarks,e1,e2]
theorem zC7 {op:CmpOp}{r:R2} (ho:OpR X (compareOp op) r) (ha:PE X a ta) (hb:PE X b tb) (hm:behindInMarks op b=false):PE X (.Compare a [op] [b] pos) (tOp r ta tb):=by
 intro pins s σ H Q I h;exact wpAny_Compare1 (binT ha hb I h fun v u s2 x y H2 I2 rx ry q=>ho pins s2 σ H2 x y v u Q I2 rx ry q) hm
noncomputable def tTest (t:TE):TT:=fun σ H Q=>t σ H fun x H'=>∃ k,x=.bl k∧Q k H'
theorem zAj {op:CmpOp}{r:R2} (ho:OpR X (compareOp op) r) (ha:PE X a ta) (hb:PE X b tb) (hm:behindInMarks op b=false):PT X (.Compare a [op] [b] pos) (tTest (tOp r ta tb)):=by
 intro pins s σ H Q I h
 refine wpAny_isTrue_Compare1 (thn (ha pins s σ H _ I h) fun v s1 ⟨x,H1,I1,r1,q1⟩=>thn (hb pins s1 σ H1 _ I1 q1) fun u s2 ⟨y,H2,I2,r2,q2⟩ =>
  thn (ho pins s2 σ H2 x y v u _ I2 r1 r2 q2) fun c s3 ⟨z,H3,I3,r3,k,e,q3⟩=>?_) hm
 subst e;cases r3;exact wpAny_truthy_bool ⟨H3,I3,q3⟩
noncomputable def tChain (r r':R2) (ta tb tc:TE):TE:=fun σ H Q=>ta σ H fun x H1=>tb σ H1 fun y H2=>r x y H2 fun z H3=>∃ k,z=.bl k ∧
 (if k=true then tc σ H3 fun w' H4=>r' y w' H4 Q else Q (.bl false) H3)
theorem zG7 {op op':CmpOp}{r r':R2} (ho:OpR X (compareOp op) r) (ho':OpR X (compareOp op') r') (ha:PE X a ta) (hb:PE X b tb) (hc:PE X c tc)
  (hm:lastMarks [op,op'] [b,c]=false:=by with_unfolding_all rfl):PE X (.Compare a [op,op'] [b,c] pos) (tChain r r' ta tb tc):=by
 intro pins s σ H Q I h
 refine Compare_chain (thn (ha pins s σ H _ I h) fun v s1 ⟨x,H1,I1,r1,q1⟩=>chain_link (thn (hb pins s1 σ H1 _ I1 q1) fun u s2 ⟨y,H2,I2,r2,q2⟩ =>
  thn (ho pins s2 σ H2 x y v u _ I2 r1 r2 q2) fun d s3 ⟨z,H3,I3,r3,k,e,q3⟩=>?_)) hm
 subst e;cases r3;refine wpAny_truthy_bool ?_;cases k with
 | false=>exact ite_ff ⟨.bl false,H3,I3,rfl,q3⟩
 | true=>exact ite_tt (chain_last (thn (hc pins s3 σ H3 _ I3 q3) fun w' s4 ⟨z',H4,I4,r4,q4⟩=>ho' pins s4 σ H4 y z' u w' Q I4 r2 r4 q4))
theorem zDc {op op':CmpOp}{r r':R2} (ho:OpR X (compareOp op) r) (ho':OpR X (compareOp op') r') (ha:PE X a ta) (hb:PE X b tb) (hc:PE X c tc)
  (hm:lastMarks [op,op'] [b,c]=false:=by with_unfolding_all rfl):PT X (.Compare a [op,op'] [b,c] pos) (tTest (tChain r r' ta tb tc)):=by
 intro pins s σ H Q I h
 refine isTrue_chain (thn (ha pins s σ H _ I h) fun v s1 ⟨x,H1,I1,r1,q1⟩=>test_link (thn (hb pins s1 σ H1 _ I1 q1) fun u s2 ⟨y,H2,I2,r2,q2⟩ =>
  thn (ho pins s2 σ H2 x y v u _ I2 r1 r2 q2) fun d s3 ⟨z,H3,I3,r3,k,e,q3⟩=>?_)) hm
 subst e;cases r3;refine wpAny_truthy_bool ?_;cases k with
 | false =>
  obtain ⟨k',e',q'⟩:=q3;cases e';exact ite_ff ⟨H3,I3,q'⟩
 | true =>
  refine ite_tt (test_last (thn (hc pins s3 σ H3 _ I3 q3) fun w' s4 ⟨z',H4,I4,r4,q4⟩=>thn (ho' pins s4 σ H4 y z' u w' _ I4 r2 r4 q4) fun d' s5 ⟨z2,H5,I5,r5,k2,e2,q5⟩=>?_));subst e2;cases r5;exact wpAny_truthy_bool ⟨H5,I5,q5⟩
noncomputable def TruV (K:PySem.W.Frag) (x:V) (H:Hp) (k:Bool):Prop :=
 match x with
 | .non=>k=false
 | .bl b=>k=b
 | .int i=>k=(i != 0)
 | .str y=>y.length≤sizeLine∧k=((y.length:Int) != 0)
 | .byt y=>y.size≤sizeLine∧k=((y.size:Int) != 0)
 | .ref p=>(∃ xs,SqL K H p xs∧k = !xs.isEmpty)∨(∃ xs,SqT K H p xs∧k = !xs.isEmpty)∨∃ kvs,H p=some (.dK kvs)∧k = !kvs.isEmpty
 | _=>False
theorem isEmpty_kv {κ : Type}{kvs:List (κ×V)}{vs:List (κ×Value)} (r:KV kvs vs):(!vs.isEmpty) = !kvs.isEmpty:=by
 cases r <;> rfl
theorem zFo {xs:List V}{its:List Value} (r:Vals xs its):(!its.toArray.isEmpty) = !xs.isEmpty:=by
 cases r <;> simp
theorem line63:(sizeLine:Nat) < 2 ^ 63:=by rw [sizeLine_eq];decide
theorem tru_ok:TruR X (fun x H Q=>∃ k,TruV X.K x H k∧Q k H):=by
 intro pins s σ H x v Q I rx h;obtain ⟨k,e,q⟩:=h;have hl:=line63;have hs:sizeLine=16777216:=sizeLine_eq;cases x with
 | non =>
  cases rx;have e':k=false:=e;subst e';exact truthy_none ⟨H,I,q⟩
 | bl b =>
  cases rx;have e':k=b:=e;subst e';exact wpAny_truthy_bool ⟨H,I,q⟩
 | int i =>
  obtain ⟨t,rfl⟩:=rx;have e':k=(i != 0):=e;subst e';exact PySem.P.truthy_int ⟨H,I,q⟩
 | str y =>
  obtain ⟨t,rfl⟩:=rx;obtain ⟨hy,e'⟩:y.length≤sizeLine∧k=((y.length:Int) != 0):=e;subst e';exact PySem.P.truthy_str (by omega) ⟨H,I.tok _,q⟩
 | byt y =>
  obtain ⟨t,rfl⟩:=rx;obtain ⟨hy,e'⟩:y.size≤sizeLine∧k=((y.size:Int) != 0):=e;subst e';exact PySem.W.truthy_bytes (by omega) ⟨H,I.tok _,q⟩
 | ref p =>
  cases rx;have e':(∃ xs,SqL X.K H p xs∧k = !xs.isEmpty)∨(∃ xs,SqT X.K H p xs∧k = !xs.isEmpty)∨∃ kvs,H p=some (.dK kvs)∧k = !kvs.isEmpty:=e;rcases e' with ⟨xs,hx,e'⟩ | ⟨xs,hx,e'⟩ | ⟨kvs,hx,e'⟩
  ·subst e';obtain ⟨its,r,pl,hz⟩:=I.list hx;have hlen:=r.length;exact wpAny_truthy_list pl.isList (by simp only [Zc];omega) ⟨H,I.tok _,by rw [zFo r];exact q⟩
  ·subst e';obtain ⟨its,r,pl,hz⟩:=I.tuple hx;have hlen:=r.length;exact truthy_tuple pl (by simp only [Zc];omega) ⟨H,I.tok _,by rw [zFo r];exact q⟩
  ·subst e';obtain ⟨hz,hS,vs,r,m⟩:kvs.length≤sizeLine∧(p == sysModules)=false∧∃ vs,KV kvs vs∧s.heap.DictOf (mixKind X.prog X.w) p vs:=I.hok p _ hx;have hlen:kvs.length=vs.length:=Paired.length r;exact wpAny_truthy_dict hS m (by omega) ⟨H,I.tok _,by rw [isEmpty_kv r];exact q⟩
 | _=>exact (show False from e).elim
theorem zG1 (ha:PE X a ta) (he:∀ whole,isTrue a X.env whole=(do let v ← whole;standAt a.pos;holding [v] (truthy v))) :
  PT X a (fun σ H Q=>ta σ H fun x H'=>∃ k,TruV X.K x H' k∧Q k H'):=by
 intro pins s σ H Q I h;exact isTrue_plain (thn (ha pins s σ H _ I h) fun v s1 ⟨x,H1,I1,r1,q1⟩=>tru_ok pins s1 σ H1 x v Q I1 r1 q1) (he _)
theorem op_add_str:OpR X (binaryOp .Add) (fun x y H Q=>∃ i j,x=.str i∧y=.str j∧i.length + j.length≤sizeLine∧Q (.str (i++j)) H):=by
 intro pins s σ H x y v u Q I rx ry h;obtain ⟨i,j,rfl,rfl,hz,q⟩:=h;obtain ⟨t,rfl⟩:=rx;obtain ⟨t',rfl⟩:=ry;exact add_str (fun t' tk=>⟨.str (i++j),H,I.tok _,⟨_,rfl⟩,q⟩) hz
theorem vals1 {x:V}{us:List Value} (r:Vals [x] us):∃ u,us=[u]∧RelV x u:=by
 cases r with
 | cons r1 r2=>cases r2;exact ⟨_,rfl,r1⟩
end
end L2
namespace L2
open PySem PySem.Spec PyProof.Rows
structure ObjM (h:Heap) (x dx C:Addr) (mA:Str→Option Value):Prop where
 obj:h.get? x=some (PySem.W.instObj C dx)
 ns:h.Ns1 dx mA
 ne:dx≠x
theorem lookIn_ns {h:Heap}{dx:Addr}{mA:Str→Option Value} (n:h.Ns1 dx mA):∃ od,h.get? dx=some od∧∀ name,PySem.W.lookIn name od=some (mA name):=by
 obtain ⟨o,es,ep,ho,hd,hk,_,hm⟩:=n;refine ⟨o,ho,fun name=>?_⟩;have e:=hm name;unfold nsFind findBy at e;rw [← Array.find?_toList] at e;unfold PySem.W.lookIn;rw [hd];dsimp only;split
 ·rename_i y q
  rw [q] at e;exact congrArg some e
 ·rename_i q
  rw [q] at e;have a:es.toList.any (·.refKey)=false:=by
   rw [List.any_eq_false];intro y hy;obtain ⟨z,t,hkey⟩:=hk y (Array.mem_toList_iff.mp hy);simp [DictEntry.refKey,hkey]
  have a':¬ es.toList.any (·.refKey)=true:=by rw [a];exact Zi
  rw [if_neg a'];exact congrArg some e
theorem ObjM.look {h:Heap}{x dx C:Addr}{mA:Str→Option Value} (I:ObjM h x dx C mA):∃ od,PySem.W.InstAt h x (PySem.W.instObj C dx) C (some od)∧∀ name,PySem.W.lookIn name od=some (mA name) :=
 let ⟨od,ho,hl⟩:=lookIn_ns I.ns
 ⟨od,⟨I.obj,rfl,rfl,ho⟩,hl⟩
section
variable {prog:Program}{w:World}{A:Around}{E:Value→Shared→Prop}{s:Shared}{K:PySem.W.Frag}{x dx C f:Addr}{mA:Str→Option Value}{name:Str}{v:Value}
theorem get_map {expr:Bool}{Q:Value→Shared→Prop} (X:K.In s.heap) (I:ObjM s.heap x dx C mA) (hg:PySem.W.plainGet K C name=true) (hh:PySem.W.hasDictIn K C=true)
  (ha:PySem.W.findIn K (.ref C) name=some none) (hv:mA name=some v) (hv':PySem.W.handedIn v=true) (h:Q v { s with toks:=s.toks + 1 }) :
  wpAny (model prog w) A (getAttr (.ref x) name expr) Q E s:=by
 obtain ⟨od,J,hl⟩:=I.look;exact PySem.W.get_value X J (PySem.W.plainGet_of hg).1 (PySem.W.findObj_own hh ha rfl (by rw [hl,hv])) hv' h
theorem get_meth {pl:Sem Bool}{Q:Value×List Value→Shared→Prop} (X:K.In s.heap) (I:ObjM s.heap x dx C mA) (hg:PySem.W.plainGet K C name=true)
  (hf:PySem.W.findIn K (.ref C) name=some (some (.ref f))) (ht:PySem.W.isFn K (.ref f)=true) (hv:mA name=none) (h:Q (.ref f,[.ref x]) s) :
  wpAny (model prog w) A (getMethod (.ref x) name pl) Q E s:=by
 obtain ⟨od,J,hl⟩:=I.look;exact PySem.W.method_fn X J (PySem.W.plainGet_of hg).1 (PySem.W.plainGet_of hg).2 hf (beq_iff_eq.mp ht) (by show (PySem.W.lookIn name od).map (·.isSome)=some false;rw [hl,hv];rfl) h
theorem set_map {ns:List Str}{Q:Unit→Shared→Prop} (X:K.In s.heap) (I:ObjM s.heap x dx C mA)
  (hs:PySem.W.findIn K (.ref C) "__setattr__" = some (some (.builtin "object.__setattr__"))) (hp:PySem.W.plainOver K C=true) (ht:PySem.W.takerIn K C name=some none) (hh:PySem.W.hasDictIn K C=true)
  (hw:PySem.Within mA ns) (hsz:ns.length≤sizeLine)
  (h:∀ h',ObjM h' x dx C (fun y=>if y=name then some v else mA y)→Heap.SameBut dx s.heap h'→Q () { s with heap:=h',toks:=s.toks + 2 }) :
  wpAny (model prog w) A (setAttr (.ref x) name v) Q E s:=by
 obtain ⟨od,J,hl⟩:=I.look;refine PySem.W.set_plain X J hs (PySem.W.osa_open (s:={ s with toks:=s.toks + 1 }) (r:=none) X J hp ht fun b=>?_);obtain ⟨cd,hc,hd'⟩:=PySem.W.any_some hh;have hx:s.heap.get? x=some ⟨.ref C,some dx,.plain,#[]⟩:=I.obj;refine wpAny_bind (wpAny_pure (wpAny_bind (wpAny_bind (wpAny_loadPart hx (wpAny_bind (PySem.W.Looks.here (s:={ s with toks:=s.toks + 1 }) (PySem.W.looks_clsIn X hc) ?_))))));rw [hd'];refine wpAny_pure (a:=some dx) (wpAny_bind (wpAny_pure (wpAny_bind ?_)));refine wpAny_nsSet1 (s:={ s with toks:=s.toks + 1 }) I.ns fun h' hn2 hs2=>?_;obtain ⟨oD,esD,epD,hoD,hdD,hcD⟩:=hn2.count (PySem.Within.cons name v hw);refine wpAny_bind (wpAny_lookBehind hoD (by rw [hdD];exact pastItsLine_dict (Zl hcD (by rw [Zj];omega))) ?_);exact wpAny_pure (h _ ⟨(hs2.2 _ (Ne.symm I.ne)).trans I.obj,hn2,I.ne⟩ hs2)
theorem make_map {R:Result→Shared→Prop}{vs:List Value}{kw:List (Str×Value)} (X:K.In s.heap) (hm:PySem.W.makesIn K C=true)
  (hi:PySem.W.findIn K (.ref C) "__init__" = some (some (.ref f))) (hf:PySem.W.typeIn K (.ref f)=some (.type "function"))
  (h:codeAny (model prog w) (A.under (.builtin "type.__call__" ⟨.ref C :: vs,kw⟩)) (.call (.ref f) ⟨.ref (s.heap.objs.size + 1) :: vs,kw⟩) (PySem.W.InitBack (s.heap.objs.size + 1) R)
   { s with heap:=(s.heap.push PySem.W.emptyDict).push (PySem.W.instObj C s.heap.objs.size) }) :
  codeAny (model prog w) A (.call (.ref C) ⟨vs,kw⟩) R s:=by
 obtain ⟨hh,g,d,t,os⟩:=s;exact PySem.W.make_core (PySem.W.makes_of X hm) (PySem.W.looks_findIn X hi) (fun self=>PySem.W.bind_fn X self hf) (.inl rfl) h
end
noncomputable def putF (f:Str) (v:V):List (Str×V)→List (Str×V)
 | []=>[(f,v)]
 | (g,x) :: r=>if g=f then (g,v) :: r else (g,x) :: putF f v r
theorem zAm (f g:Str) (v:V):∀ fs:List (Str×V),(putF f v fs).lookup g=if g=f then some v else fs.lookup g
 | []=>by
  show List.lookup g [(f,v)]=_;by_cases h:g=f
  ·have hb:(g == f)=true:=beq_iff_eq.mpr h;simp only [List.lookup,hb,if_pos h]
  ·have hb:(g == f)=false:=beq_eq_false_iff_ne.mpr h;simp only [List.lookup,hb,if_neg h]
 | (k,x) :: r=>by
  have ih:=zAm f g v r;rw [show putF f v ((k,x) :: r)=(if k=f then (k,v) :: r else (k,x) :: putF f v r) from rfl];by_cases hk:k=f
  ·rw [if_pos hk];by_cases h:g=k
   ·have hb:(g == k)=true:=beq_iff_eq.mpr h;simp only [List.lookup,hb,if_pos (h.trans hk)]
   ·have hb:(g == k)=false:=beq_eq_false_iff_ne.mpr h;simp only [List.lookup,hb,if_neg (fun e:g=f=>h (e.trans hk.symm))]
  ·rw [if_neg hk];by_cases h:g=k
   ·have hb:(g == k)=true:=beq_iff_eq.mpr h;simp only [List.lookup,hb,if_neg (fun e:g=f=>hk (h.symm.trans e))]
   ·have hb:(g == k)=false:=beq_eq_false_iff_ne.mpr h;simp only [List.lookup,hb];exact ih
theorem zF1 (f:Str) (v:V):∀ fs:List (Str×V),f∈(putF f v fs).map (·.1)∧∀ g,g∈fs.map (·.1)→g∈(putF f v fs).map (·.1)
 | []=>⟨by simp [putF],fun g h=>by simp at h⟩
 | (k,x) :: r=>by
  obtain ⟨i1,i2⟩:=zF1 f v r;rw [show putF f v ((k,x) :: r)=(if k=f then (k,v) :: r else (k,x) :: putF f v r) from rfl];by_cases hk:k=f
  ·rw [if_pos hk];subst hk;exact ⟨by simp,fun g h=>by simpa using h⟩
  ·rw [if_neg hk];refine ⟨?_,fun g h=>?_⟩
   ·rw [Z8];exact Z6 _ i1
   ·rw [Z8] at h ⊢;rcases List.mem_cons.mp h with e | e
    ·exact List.mem_cons.mpr (.inl e)
    ·exact Z6 _ (i2 g e)
theorem zC8 (f:Str) (v:V):∀ fs:List (Str×V),(putF f v fs).length≤fs.length + 1
 | []=>by simp [putF]
 | (k,x) :: r=>by
  have ih:=zC8 f v r;rw [show putF f v ((k,x) :: r)=(if k=f then (k,v) :: r else (k,x) :: putF f v r) from rfl];by_cases hk:k=f
  ·rw [if_pos hk,Zj,Zj];omega
  ·rw [if_neg hk,Zj,Zj];omega
theorem RelO.some_of {v:V}{o:Option Value} (r:RelO (some v) o):∃ u,o=some u∧RelV v u:=by
 cases o with
 | none=>exact (show False from r).elim
 | some u=>exact ⟨u,rfl,r⟩
theorem RelO.none_of {o:Option Value} (r:RelO none o):o=none:=by
 cases o with
 | none=>rfl
 | some u=>exact (show False from r).elim
theorem handed_of {v:V}{u:Value} (r:RelV v u):PySem.W.handedIn u=true:=by
 cases v with
 | non=>cases (show u=Value.none from r);rfl
 | bl b=>cases (show u=Value.bool b from r);rfl
 | int i=>obtain ⟨t,e⟩:=(show ∃ t,u=Value.int i t from r);cases e;rfl
 | str x=>obtain ⟨t,e⟩:=(show ∃ t,u=Value.str x t from r);cases e;rfl
 | byt b=>obtain ⟨t,e⟩:=(show ∃ t,u=Value.bytes b t from r);cases e;rfl
 | flt b=>obtain ⟨t,e⟩:=(show ∃ t,u=Value.float b t from r);cases e;rfl
 | ref a=>cases (show u=Value.ref a from r);rfl
 | ty n=>cases (show u=Value.type n from r);rfl
section
variable {P:Program}{w:World}{H H':Hp}{h h':Heap}{a C dx:Addr}{fs fs':List (Str×V)}
theorem zF3 (hok:HOk P w H h) (e:H a=some (.ins C dx fs)):∃ mA,ObjM h a dx C mA∧(∀ f,RelO (fs.lookup f) (mA f))∧PySem.Within mA (fs.map (·.1))∧fs.length≤1000∧H dx=some (.own a):=by
 obtain ⟨d,z,ne,ob,mA,n,r,q⟩:=(show ObjOk P w H h a (.ins C dx fs) from hok a _ e);exact ⟨mA,⟨ob,n,ne⟩,r,q,z,d⟩
end
structure Cls (K:PySem.W.Frag) (C:Addr):Prop where
 pg:PySem.W.plainGet K C Str.empty=true
 hd:PySem.W.hasDictIn K C=true
 po:PySem.W.plainOver K C=true
 sa:PySem.W.findIn K (.ref C) "__setattr__" = some (some (.builtin "object.__setattr__"))
theorem Cls.get {K:PySem.W.Frag}{C:Addr} (c:Cls K C) (f:Str):PySem.W.plainGet K C f=true:=c.pg
noncomputable def NoAttr (K:PySem.W.Frag) (C:Addr) (f:Str):Prop:=PySem.W.findIn K (.ref C) f=some none
theorem NoAttr.taker {K:PySem.W.Frag}{C:Addr}{f:Str} (n:NoAttr K C f):PySem.W.takerIn K C f=some none:=by
 unfold PySem.W.takerIn;rw [show PySem.W.findIn K (.ref C) f=some none from n];rfl
structure Meth (K:PySem.W.Frag) (C:Addr) (m:Str) (f:Addr):Prop where
 at_:PySem.W.findIn K (.ref C) m=some (some (.ref f))
 fn:PySem.W.isFn K (.ref f)=true
 kp:PySem.W.keepIn K (.ref f)=true
section
variable {X:Cx}{pins:List (Addr×Obj)}{σ : St}{H:Hp}{s:Shared}{a C dx:Addr}{fs:List (Str×V)}{f:Str}{v:V}{A:Around}{E:Value→Shared→Prop}
theorem getattr_ok {b:Bool}{Q:Value→Shared→Prop} (I:Inv X pins σ H s) (e:H a=some (.ins C dx fs)) (c:Cls X.K C) (n:NoAttr X.K C f) (l:fs.lookup f=some v)
  (h:∀ u s',Inv X pins σ H s'→RelV v u→Q u s'):wpAny (model X.prog X.w) A (getAttr (.ref a) f b) Q E s:=by
 obtain ⟨mA,O,r,_,_,_⟩:=zF3 I.hok e;obtain ⟨u,hu,ru⟩:=RelO.some_of (v:=v) (o:=mA f) (by rw [← l];exact r f);exact get_map I.kIn O (c.get f) c.hd n hu (handed_of ru) (h u _ (I.tok _) ru)
theorem zDz {m:Str}{g:Addr}{pl:Sem Bool}{Q:Value×List Value→Shared→Prop} (I:Inv X pins σ H s) (e:H a=some (.ins C dx fs)) (c:Cls X.K C) (k:Meth X.K C m g) (l:fs.lookup m=none)
  (h:Q (.ref g,[.ref a]) s):wpAny (model X.prog X.w) A (getMethod (.ref a) m pl) Q E s:=by
 obtain ⟨mA,O,r,_,_,_⟩:=zF3 I.hok e;have hn:mA m=none:=RelO.none_of (by rw [← l];exact r m);exact get_meth I.kIn O (c.get m) k.at_ k.fn hn h
theorem setattr_ok {y:V}{u:Value}{Q:Unit→Shared→Prop} (I:Inv X pins σ H s) (e:H a=some (.ins C dx fs)) (c:Cls X.K C) (n:NoAttr X.K C f) (hl:fs.length < 1000) (ry:RelV y u)
  (h:∀ s',Inv X pins σ (upd H a (.ins C dx (putF f y fs))) s'→Q () s'):wpAny (model X.prog X.w) A (setAttr (.ref a) f u) Q E s:=by
 obtain ⟨mA,O,r,wi,_,ho⟩:=zF3 I.hok e;have hz:(fs.map (·.1)).length≤sizeLine:=by rw [Z0,sizeLine_eq];omega
 refine set_map I.kIn O c.sa c.po n.taker c.hd wi hz fun h' O' sb=>h _ ?_;have hd:∃ o,h'.get? dx=some o:=let ⟨o,_,_,e',_⟩:=O'.ns;⟨o,e'⟩;refine I.write (x:=a) (e:=dx) (by rw [e];exact True.intro) (.inr ho) (fun b q hb z=>(sb.2 b hb).trans z) hd ?_;refine ⟨by rw [zA8 O.ne];exact ho,?_,O.ne,O'.obj,_,O'.ns,fun g=>?_,fun g hg=>?_⟩
 ·have:=zC8 f y fs;omega
 ·show RelO ((putF f y fs).lookup g) (if g=f then some u else mA g);rw [zAm];by_cases q:g=f
  ·rw [if_pos q,if_pos q];exact ry
  ·rw [if_neg q,if_neg q];exact r g
 ·by_cases q:g=f
  ·rw [q];exact (zF1 f y fs).1
  ·refine (zF1 f y fs).2 g (wi g fun z=>hg ?_);show (if g=f then some u else mA g)=none;rw [if_neg q];exact z
theorem Inv.made (I:Inv X pins σ H s):Inv X pins σ (upd (upd H s.heap.objs.size (.own (s.heap.objs.size + 1))) (s.heap.objs.size + 1) (.ins C s.heap.objs.size []))
  { s with heap:=(s.heap.push PySem.W.emptyDict).push (PySem.W.instObj C s.heap.objs.size) }:=by
 have e1:(s.heap.push PySem.W.emptyDict).get? s.heap.objs.size=some PySem.W.emptyDict:=Ze s.heap rfl;have e2:((s.heap.push PySem.W.emptyDict).push (PySem.W.instObj C s.heap.objs.size)).get? (s.heap.objs.size + 1)=some (PySem.W.instObj C s.heap.objs.size):=by
  have:=Ze (s.heap.push PySem.W.emptyDict) (o:=PySem.W.instObj C s.heap.objs.size) rfl
  rwa [Y9] at this
 have e3:(s.heap.push PySem.W.emptyDict).Ns s.heap.objs.size (fun _=>none):=⟨PySem.W.emptyDict,#[],_,e1,rfl,(fun e he=>absurd he (by simp)),fun _=>rfl⟩;have I1:=I.laid (a:=s.heap.objs.size) (o:=.own (s.heap.objs.size + 1)) (h':=s.heap.push PySem.W.emptyDict) (t':=s.toks) (fun b u q=>Z2 _ q) (Z5 _) ⟨_,e1⟩;refine I1.laid (a:=s.heap.objs.size + 1) (o:=.ins C s.heap.objs.size []) (t':=s.toks) (fun b u q=>Z2 _ q) (Nat.le_of_eq (Y9 _ _)) ?_;have ne:s.heap.objs.size≠s.heap.objs.size + 1:=Zg (Yb _);refine ⟨by rw [zA8 ne,zA1],Zo _,ne,e2,fun _=>none,(Heap.Ns1.of_empty e3).at fun o q=>Z2 _ q,fun _=>True.intro,fun y hy=>absurd rfl hy⟩
theorem attr_of {prog:Program}{w:World}{env:Env}{e:Expr}{f:Str}{pos:Pos}{s:Shared}{Q:Value→Shared→Prop} (hb:attributeBase e f env (eval e env)=eval e env)
  (h:wpAny (model prog w) A (eval e env) (fun o s₁=>wpAny (model prog w) A (getAttr o f true) Q E s₁) E s):wpAny (model prog w) A (eval (.Attribute e f pos) env) Q E s :=
 Attribute_any_ h (by rw [arm_eval_Attribute,hb])
end
noncomputable def tFld (K:PySem.W.Frag) (ta:TE) (f:Str):TE:=fun σ H Q=>ta σ H fun x H1=>∃ a C dx fs v,x=.ref a∧H1 a=some (.ins C dx fs)∧Cls K C∧NoAttr K C f∧fs.lookup f=some v∧Q v H1
noncomputable def sFld (K:PySem.W.Frag) (ta tv:TE) (f:Str):TS:=fun D σ H=>tv σ H fun y H1=>ta σ H1 fun x H2=>∃ a C dx fs,x=.ref a∧H2 a=some (.ins C dx fs)∧Cls K C∧NoAttr K C f∧fs.length < 1000 ∧
 D.nx σ (upd H2 a (.ins C dx (putF f y fs)))
section
variable {X:Cx}{o e value:Expr}{f:Str}{pos pos' tpos:Pos}{ta tv:TE}
theorem zBg (he:PE X e ta) (hb:attributeBase e f X.env (eval e X.env)=eval e X.env):PE X (.Attribute e f pos) (tFld X.K ta f):=by
 intro pins s σ H Q I h;refine attr_of hb (thn (he pins s σ H _ I h) fun u s1 ⟨x,H1,I1,rx,a,C,dx,fs,v,ex,ea,c,n,l,q⟩=>?_);subst ex;obtain rfl:u=Value.ref a:=rx;exact getattr_ok I1 ea c n l fun u' s2 I2 ru=>⟨v,H1,I2,ru,q⟩
theorem zDd (ha:PE X o ta) (hv:PE X value tv) (hs:swapsWith value (some (.Attribute o f pos')) pos.line X.env=pure false):PS X (.Assign [.Attribute o f pos'] value pos) (sFld X.K ta tv f):=by
 intro pins s σ H D I h;refine plainObj_wpAny_Assign_Attribute (thn (hv pins s σ H _ I h) fun u s1 ⟨y,H1,I1,ry,q⟩=>thn (ha pins s1 σ H1 _ I1 q) fun ov s2 ⟨x,H2,I2,rx,a,C,dx,fs,ex,ea,c,n,l,q2⟩=>?_) hs;subst ex;obtain rfl:ov=Value.ref a:=rx;exact setattr_ok I2 ea c n l ry fun s3 I3=>⟨σ,_,I3,q2⟩
theorem zEw {pl:Sem Bool}{m:Str}{apos:Pos}{args:List Expr}{pins:List (Addr×Obj)}{s:Shared}{σ : St}{H:Hp}{Q:Value→Shared→Prop}{te:TE} (he:PE X e te) (I:Inv X pins σ H s)
  (h:te σ H fun x H1=>∃ a C dx fs g,x=.ref a∧H1 a=some (.ins C dx fs)∧Cls X.K C∧Meth X.K C m g∧fs.lookup m=none ∧
   ∀ s1,Inv X pins σ H1 s1→wpAny (model X.prog X.w) X.A (callWith pos (.ref g) [.ref a] (backTo pos (starEach args X.env)) (backToKw pos (keywordEach [] X.env))) Q X.xe s1)
  (ht:eval (.Call (.Attribute e m apos) args [] pos) X.env=(do
   let ov ← eval e X.env
   standAt apos.atName
   let (f,first) ← holding [ov] (getMethod ov m pl)
   callWith pos f first (backTo pos (starEach args X.env)) (backToKw pos (keywordEach [] X.env)))) :
  wpAny (model X.prog X.w) X.A (eval (.Call (.Attribute e m apos) args [] pos) X.env) Q X.xe s:=by
 refine PySem.W.methodCall_KW (pl:=pl) (thn (he pins s σ H _ I h) fun u s1 ⟨x,H1,I1,rx,a,C,dx,fs,g,ex,ea,c,k,l,q⟩=>?_) ht;subst ex;obtain rfl:u=Value.ref a:=rx;exact zDz I1 ea c k l (q s1 I1)
end
section
variable {X:Cx}{pins:List (Addr×Obj)}{σ : St}{H:Hp}{s:Shared}{A:Around}{E:Value→Shared→Prop}{Q:Value→Shared→Prop}{c:Value}{b:Bool}
inductive TyOf (K:PySem.W.Frag) (H:Hp):V→Value→Prop where
 | non:TyOf K H .non (.type "NoneType")
 | bl (x:Bool):TyOf K H (.bl x) (.type "bool")
 | int (i:Int):TyOf K H (.int i) (.type "int")
 | str (x:Str):TyOf K H (.str x) (.type "str")
 | flt (x:UInt64):TyOf K H (.flt x) (.type "float")
 | lst {a:Addr}{xs:List V} (e:H a=some (.lst xs)):TyOf K H (.ref a) (.type "list")
 | frz {a:Addr}{o:Obj}{xs:List V} (e:H a=some (.frz o (.lst xs))):TyOf K H (.ref a) (.type "list")
 | tup {a:Addr}{xs:List V} (e:H a=some (.tup xs)):TyOf K H (.ref a) (.type "tuple")
 | dK {a:Addr}{kvs:List (Key×V)} (e:H a=some (.dK kvs)):TyOf K H (.ref a) (.type "dict")
 | dT {a:Addr}{kvs:List (List Key×V)} (e:H a=some (.dT kvs)):TyOf K H (.ref a) (.type "dict")
 | ins {a C dx:Addr}{fs:List (Str×V)} (e:H a=some (.ins C dx fs)) (cl:Cls K C) (ha:PySem.W.findIn K (.ref C) "__class__" = some (some (.builtin "object.__class__")))
   (hn:PySem.W.specialIn K (.builtin "object.__class__") "__get__" = some (some (.builtin "getset_descriptor.__get__"))) (htk:PySem.W.takesIn K (.builtin "object.__class__")=some true)
   (hm:PySem.W.mroIn K C (.type "object")=some true):TyOf K H (.ref a) (.ref C)
theorem isinst_ok {x:V}{u t:Value} (I:Inv X pins σ H s) (rx:RelV x u) (ty:TyOf X.K H x t) (e:PySem.W.kitOne X.K t c=some b) (h:∀ tk,Q (.bool b) { s with toks:=tk }) :
  wpAny (model X.prog X.w) A (call (.builtin "isinstance") [u,c]) Q E s:=by
 cases ty with
 | non=>cases (show u=Value.none from rx);exact PySem.W.kia_one PySem.W.kitx_none I.kIn True.intro e (fun z=>nomatch z) h
 | bl y=>cases (show u=Value.bool y from rx);exact PySem.W.kia_one PySem.W.kitx_bool I.kIn True.intro e (fun z=>nomatch z) h
 | int i=>obtain ⟨t,q⟩:=(show ∃ t,u=Value.int i t from rx);cases q;exact PySem.W.kia_one PySem.W.kitx_int I.kIn True.intro e (fun z=>nomatch z) h
 | str y=>obtain ⟨t,q⟩:=(show ∃ t,u=Value.str y t from rx);cases q;exact PySem.W.kia_one PySem.W.kitx_str I.kIn True.intro e (fun z=>nomatch z) h
 | flt y=>obtain ⟨t,q⟩:=(show ∃ t,u=Value.float y t from rx);cases q;exact PySem.W.kia_one PySem.W.kitx_float I.kIn True.intro e (fun z=>nomatch z) h
 | @lst a xs ea =>
  cases (show u=Value.ref a from rx);obtain ⟨_,_,n,_,h1⟩:=(show ObjOk X.prog X.w H s.heap a (.lst xs) from I.hok a _ ea);exact PySem.W.kia_one PySem.W.kitx_list I.kIn ⟨_,h1,rfl⟩ e (fun z=>nomatch z) h
 | @frz a ob xs ea =>
  cases (show u=Value.ref a from rx);obtain ⟨_,_,_,n,_,h1⟩:=(show ObjOk X.prog X.w H s.heap a (.frz ob (.lst xs)) from I.hok a _ ea);exact PySem.W.kia_one PySem.W.kitx_list I.kIn ⟨_,h1,rfl⟩ e (fun z=>nomatch z) h
 | @tup a xs ea =>
  cases (show u=Value.ref a from rx);obtain ⟨_,_,_,p⟩:=(show ObjOk X.prog X.w H s.heap a (.tup xs) from I.hok a _ ea);obtain ⟨o,h1,h2,_⟩:=p;exact PySem.W.kia_one PySem.W.kitx_tuple I.kIn ⟨o,h1,h2⟩ e (fun z=>nomatch z) h
 | @dK a kvs ea =>
  cases (show u=Value.ref a from rx);obtain ⟨_,_,vs,_,p⟩:=(show ObjOk X.prog X.w H s.heap a (.dK kvs) from I.hok a _ ea);obtain ⟨o,es,ep,h1,h2,_⟩:=p;exact PySem.W.kia_one PySem.W.kitx_dict I.kIn ⟨o,h1,h2.1⟩ e (fun z=>nomatch z) h
 | @dT a kvs ea =>
  cases (show u=Value.ref a from rx);obtain ⟨_,_,xs,_,o,es,ep,h1,h2,_⟩:=(show ObjOk X.prog X.w H s.heap a (.dT kvs) from I.hok a _ ea);exact PySem.W.kia_one PySem.W.kitx_dict I.kIn ⟨o,h1,h2.1⟩ e (fun z=>nomatch z) h
 | @ins a C dx fs ea cl ha hn htk hm =>
  cases (show u=Value.ref a from rx);obtain ⟨mA,O,_⟩:=zF3 I.hok ea;obtain ⟨od,J,_⟩:=O.look;exact PySem.W.kia_one (PySem.W.kitx_own (cl.get _) cl.hd ha hn htk hm) I.kIn J e (fun z=>nomatch z) h
end
end L2
namespace L2
open PySem PySem.Spec PyProof.Rows
structure Room (k:Nat) (A:Around):Prop where
 hd:A.handled=none
 dp:A.depth + 3 * k + 5 < recursionLimit
 un:A.units + 16 * k + 200 < cLine
theorem Room.mono {j k:Nat}{A:Around} (r:Room k A) (h:j≤k):Room j A:=⟨r.hd,by have:=r.dp;omega,by have:=r.un;omega⟩
theorem Room.deeper {k:Nat}{A:Around} (r:Room (k + 1) A) (env:Env):Room k (A.deeper env) :=
 ⟨r.hd,by have:=r.dp;show A.depth + 1 + 3 * k + 5 < _;omega,by have:=r.un;show A.units + 3 + 16 * k + 200 < _;omega⟩
theorem Room.in1 {k:Nat}{A:Around} (r:Room (k + 1) A):Room k A.in1 :=
 ⟨r.hd,by have:=r.dp;show A.depth + 3 * k + 5 < _;omega,by have:=r.un;show A.units + 1 + 16 * k + 200 < _;omega⟩
theorem make_depth {A:Around}{C:Addr}{us:List Value}{kw:List (Str×Value)}:(A.under (.builtin "type.__call__" ⟨.ref C :: us,kw⟩)).depth=A.depth + 1:=by
 first | rfl | simp [Around.under,Code.weight,Code.isCreation,Code.isGuard,Code.isCaller,Code.frames,Code.isFrame,guardIds]
theorem make_units {A:Around}{C:Addr}{us:List Value}{kw:List (Str×Value)}:(A.under (.builtin "type.__call__" ⟨.ref C :: us,kw⟩)).units=A.units + 1:=by
 first | rfl | simp [Around.under,Code.cUnits,Code.frames,Code.isFrame]
theorem Room.make {k:Nat}{A:Around} (r:Room (k + 1) A) (C:Addr) (us:List Value) (kw:List (Str×Value)):Room k (A.under (.builtin "type.__call__" ⟨.ref C :: us,kw⟩)) :=
 ⟨r.hd,by have:=r.dp;rw [make_depth];omega,by have:=r.un;rw [make_units];omega⟩
theorem Room.depth {k:Nat}{A:Around} (r:Room k A):A.depth < recursionLimit:=by have:=r.dp;omega
theorem Room.units {k:Nat}{A:Around} (r:Room k A):A.units + 64 < cLine:=by have:=r.un;omega
noncomputable def tNil:TA:=fun _ H Q=>Q [] H
noncomputable def tCons (ta:TE) (tr:TA):TA:=fun σ H Q=>ta σ H fun x H1=>tr σ H1 fun xs H2=>Q (x :: xs) H2
section
variable {X:Cx}{e:Expr}{es:List Expr}{te:TE}{t:TA}{pos:Pos}
theorem zA2:PA X [] tNil:=fun _ _ _ _ H Q I h=>Calls.spliced_nil ⟨[],H,I,.nil,h⟩
theorem zA0 (ha:PE X e te) (hr:PA X es t) (hs:starEach (e :: es) X.env=(false,eval e X.env) :: starEach es X.env:=by rfl):PA X (e :: es) (tCons te t):=by
 intro pos pins s σ H Q I h;rw [hs];show wpAny _ _ (spliced ((false,eval e X.env) :: backTo pos (starEach es X.env))) _ _ s;refine Calls.spliced_cons (thn (ha pins s σ H _ I h) fun u s1 ⟨x,H1,I1,r1,q1⟩=>?_);exact thn (hr pos pins s1 σ H1 _ I1 q1) fun us s2 ⟨xs,H2,I2,r2,q2⟩=>⟨x :: xs,H2,I2,.cons r1 r2,q2⟩
noncomputable def tTup (t:TA):TE:=fun σ H Q=>t σ H fun xs H1=>xs.length≤sizeLine∧∀ p,H1 p=none→Q (.ref p) (upd H1 p (.tup xs))
noncomputable def tLst (t:TA):TE:=fun σ H Q=>t σ H fun xs H1=>xs.length≤sizeLine∧∀ p,H1 p=none→Q (.ref p) (upd H1 p (.lst xs))
theorem zAs {x1} (h:PA X es t):PE X (.Tuple es x1 pos) (tTup t):=by
 intro pins s σ H Q I hq;refine wpAny_Tuple_spliced (thn (h pos pins s σ H _ I hq) fun us s1 ⟨xs,H1,I1,r,z,q⟩=>⟨by rw [← r.length];exact z,?_⟩);have hf:H1 s1.heap.objs.size=none:=I1.hok.fresh (Z5 _);refine ⟨.ref s1.heap.objs.size,upd H1 s1.heap.objs.size (.tup xs),I1.laid (t':=s1.toks) (fun b u e=>Z2 _ e) (Z5 _) ?_,rfl,q _ hf⟩;exact ⟨z,us,r,⟨_,Ze _ rfl,rfl,_,rfl⟩⟩
theorem zAg (h:PA X es t):PE X (.List es pos) (tLst t):=by
 intro pins s σ H Q I hq;refine wpAny_List_spliced (thn (h pos pins s σ H _ I hq) fun us s1 ⟨xs,H1,I1,r,z,q⟩=>⟨by rw [← r.length];exact z,?_⟩);have hf:H1 s1.heap.objs.size=none:=I1.hok.fresh (Z5 _);refine ⟨.ref s1.heap.objs.size,upd H1 s1.heap.objs.size (.lst xs),I1.laid (t':=s1.toks) (fun b u e=>Z2 _ e) (Z5 _) ?_,rfl,q _ hf⟩;exact ⟨z,us,0,r,Ze _ rfl⟩
end
noncomputable abbrev Sp:=List V→Hp→VK→XK→Prop
noncomputable abbrev CXT:=List Env→Hp→Shared→XK→Value→Shared→Prop
structure Env0 (P:Program) (w:World) (K:PySem.W.Frag) (mg:Str→Option Value) (base:Heap) (A:Around) (outer:List Env) (s:Shared) (H:Hp):Prop where
 frames:A.frames=some outer
 mod:Mod K mg base
 bs:∀ b o,base.get? b=some o→s.heap.get? b=some o∧H b=none
 bsz:base.objs.size≤s.heap.objs.size
 funs:s.heap.FunFrames base outer
 frf:∀ b∈frs outer,H b=none
 hok:HOk P w H s.heap
 bare:AllBare s.gens
noncomputable def CE (outer:List Env) (P:Program) (w:World) (H:Hp) (s:Shared) (Q:VK) (u:Value) (s':Shared):Prop :=
 ∃ v H',s'.os=s.os∧AllBare s'.gens∧Un (frs outer) [] H H' s.heap s'.heap∧HOk P w H' s'.heap∧RelV v u∧Q v H'
noncomputable def CR (CX:CXT) (outer:List Env) (P:Program) (w:World) (H:Hp) (s:Shared) (Q:VK) (E:XK) (r:Result) (s':Shared):Prop :=
 match r with
 | .ok (.ret u)=>CE outer P w H s Q u s'
 | .ok _=>False
 | .error e=>CX outer H s E e s'
structure FnOk (P:Program) (w:World) (K:PySem.W.Frag) (mg:Str→Option Value) (base:Heap) (CX:CXT) (k:Nat) (f:Addr) (fd:FuncData) (ps:List Str) (sp:Sp):Prop where
 len:∀ vs H Q E,sp vs H Q E→vs.length=ps.length
 run:∀ (A:Around) (outer:List Env) (s:Shared) (H:Hp) (args:Args) (us:List Value) (vs:List V) (Q:VK) (E:XK),Room k A→Env0 P w K mg base A outer s H→BindsTo s fd args (ps.zip us)→Vals vs us→sp vs H Q E →
  codeAny (model P w) A (.call (.ref f) args) (CR CX outer P w H s Q E) s
theorem FnOk.imp {P:Program}{w:World}{K:PySem.W.Frag}{mg:Str→Option Value}{base:Heap}{CX:CXT}{k:Nat}{f:Addr}{fd:FuncData}{ps:List Str}{sp sp':Sp} (F:FnOk P w K mg base CX k f fd ps sp)
  (h:∀ vs H Q E,sp' vs H Q E→sp vs H Q E):FnOk P w K mg base CX k f fd ps sp' :=
 ⟨fun vs H Q E q=>F.len vs H Q E (h _ _ _ _ q),fun A outer s H args us vs Q E hr he hb hv hs=>F.run A outer s H args us vs Q E hr he hb hv (h _ _ _ _ hs)⟩
theorem Env0.make {P:Program}{w:World}{K:PySem.W.Frag}{mg:Str→Option Value}{base:Heap}{A:Around}{outer:List Env}{s:Shared}{H:Hp} (e:Env0 P w K mg base A outer s H) (C:Addr) (us:List Value) (kw:List (Str×Value)) :
  Env0 P w K mg base (A.under (.builtin "type.__call__" ⟨.ref C :: us,kw⟩)) outer s H:=⟨by first | exact e.frames | (simpa [Around.under,Code.envs,Code.isFrame,pushEnvs] using e.frames),e.mod,e.bs,e.bsz,e.funs,e.frf,e.hok,e.bare⟩
section
variable {X:Cx}{pins:List (Addr×Obj)}{σ : St}{H:Hp}{s s':Shared}
theorem Inv.env0 (I:Inv X pins σ H s):Env0 X.prog X.w X.K X.mg X.base X.A X.stack s H :=
 ⟨I.ok.frames,I.ok.mod,I.bs,Zl I.ok.bsz I.sz,I.stack,I.stkFree,I.hok,I.bare⟩
theorem Inv.after {Q:VK}{u:Value} (I:Inv X pins σ H s) (h:CE X.stack X.prog X.w H s Q u s'):EP X pins σ Q u s':=by
 obtain ⟨v,H',os,bare,un,hok,r,q⟩:=h;obtain ⟨hh,g,d,t,os'⟩:=s';obtain rfl:os'=s.os:=os;exact ⟨v,H',I.call (h':=hh) (g':=g) (d':=d) (t':=t) (ch:=[]) un hok bare (fun b z=>absurd z (by simp)),r,q⟩
end
noncomputable def tCall (sp:Sp) (dvs:List V) (E:St→XK) (t:TA):TE:=fun σ H Q=>t σ H fun vs H1=>sp (vs++dvs) H1 Q (E σ)
noncomputable def tMeth (C:Addr) (m:Str) (sp:Sp) (dvs:List V) (E:St→XK) (ta:TE) (t:TA):TE:=fun σ H Q=>ta σ H fun x H1=>∃ a dx fs,x=.ref a∧H1 a=some (.ins C dx fs)∧fs.lookup m=none ∧
 t σ H1 fun vs H2=>sp (x :: (vs++dvs)) H2 Q (E σ)
noncomputable def tMake (C:Addr) (sp:Sp) (dvs:List V) (E:St→XK) (t:TA):TE:=fun σ H Q=>t σ H fun vs H1=>∀ x dx,H1 x=none→H1 dx=none→dx≠x →
 sp (.ref x :: (vs++dvs)) (upd (upd H1 dx (.own x)) x (.ins C dx [])) (fun v H2=>v=.non∧Q (.ref x) H2) (E σ)
noncomputable def Binds (K:PySem.W.Frag) (fd:FuncData) (ps:List Str) (ds:List Value):Prop :=
 ∀ (s:Shared) (us:List Value),K.In s.heap→(us++ds).length=ps.length→BindsTo s fd ⟨us,[]⟩ (ps.zip (us++ds))
theorem Binds.all {K:PySem.W.Frag}{fd:FuncData}{ps:List Str} (h:∀ us:List Value,us.length=ps.length→bindArgs fd ⟨us,[]⟩=pure (ps.zip us)):Binds K fd ps []:=fun s us _ hl=>by
 rw [List.append_nil] at hl ⊢;exact .of_eq (h us hl)
noncomputable def Passes (CX:CXT) (X:Cx) (E:St→XK):Prop:=∀ (pins:List (Addr×Obj)) (σ : St) (H:Hp) (s:Shared) (e:Value) (s':Shared),Inv X pins σ H s→CX X.stack H s (E σ) e s'→X.xe e s'
section
variable {X:Cx}{CX:CXT}{k:Nat}{f C:Addr}{fd:FuncData}{ps:List Str}{sp:Sp}{dvs:List V}{ds:List Value}{E:St→XK}{x m:Str}{p pos apos:Pos}{e o:Expr}{es:List Expr}{ta:TE}{t:TA}
theorem run_fn {pins:List (Addr×Obj)}{σ : St}{H:Hp}{s:Shared}{Q:VK}{us:List Value}{vs:List V} (F:FnOk X.prog X.w X.K X.mg X.base CX k f fd ps sp) (hr:Room k X.A) (hb:Binds X.K fd ps ds) (hd:Vals dvs ds) (hx:Passes CX X E)
  (I:Inv X pins σ H s) (r:Vals vs us) (h:sp (vs++dvs) H Q (E σ)):wpAny (model X.prog X.w) X.A (call (.ref f) us) (EP X pins σ Q) X.xe s:=by
 have r2:Vals (vs++dvs) (us++ds):=r.append hd;have hl:(us++ds).length=ps.length:=by rw [← r2.length];exact F.len _ _ _ _ h
 refine wpAny_call (codeAny_mono (F.run X.A X.stack s H ⟨us,[]⟩ (us++ds) (vs++dvs) Q (E σ) hr I.env0 (hb s us I.kIn hl) r2 h) fun r s' hq=>?_);cases r with
 | error e=>exact hx pins σ H s e s' I hq
 | ok fl =>
  cases fl with
  | ret u=>exact I.after hq
  | next=>exact False.elim hq
  | brk=>exact False.elim hq
  | cont=>exact False.elim hq
theorem zA7 (F:FnOk X.prog X.w X.K X.mg X.base CX k f fd ps sp) (hr:Room k X.A) (hg:Gl X x) (hm:X.mg x=some (.ref f)) (hk:PySem.W.keepIn X.K (.ref f)=true) (hb:Binds X.K fd ps ds) (hd:Vals dvs ds) (hx:Passes CX X E)
  (ha:PA X (e :: es) t) (hdb:(x == ("__debug__" : Str))=false:=by decide) (he:starEach (e :: es) X.env=(false,eval e X.env) :: starEach es X.env:=by rfl) (hpl:(backTo pos (starEach es X.env)).any (·.1)=false:=by rfl) :
  PE X (.Call (.Name x p) (e :: es) [] pos) (tCall sp dvs E t):=by
 intro pins s σ H Q I h;refine wpAny_Call_Name_kw (zEx I hg hm ?_ hdb);refine PySem.W.callWith_K (h₀:=X.base) I.ok.mod.kin hk (thn (ha pos pins s σ H _ I h) fun us s1 ⟨vs,H1,I1,r,q⟩=>⟨I1.kIn,?_⟩) he hpl;exact run_fn F hr hb hd hx I1 r q
theorem zCf {pl:Sem Bool} (he:PE X o ta) (c:Cls X.K C) (hm:Meth X.K C m f) (F:FnOk X.prog X.w X.K X.mg X.base CX k f fd ps sp) (hr:Room k X.A) (hb:Binds X.K fd ps ds) (hd:Vals dvs ds) (hx:Passes CX X E) (ha:PA X (e :: es) t)
  (hst:starEach (e :: es) X.env=(false,eval e X.env) :: starEach es X.env:=by rfl) (hpl:(backTo pos (starEach es X.env)).any (·.1)=false:=by rfl)
  (ht:eval (.Call (.Attribute o m apos) (e :: es) [] pos) X.env=(do
   let ov ← eval o X.env
   standAt apos.atName
   let (f,first) ← holding [ov] (getMethod ov m pl)
   callWith pos f first (backTo pos (starEach (e :: es) X.env)) (backToKw pos (keywordEach [] X.env))):=by rfl) :
  PE X (.Call (.Attribute o m apos) (e :: es) [] pos) (tMeth C m sp dvs E ta t):=by
 intro pins s σ H Q I h;refine PySem.W.methodCall_KW (pl:=pl) (thn (he pins s σ H _ I h) fun u s1 ⟨x,H1,I1,rx,a,dx,fs,ex,ea,l,q⟩=>?_) ht;subst ex;obtain rfl:u=Value.ref a:=rx;refine zDz I1 ea c hm l ?_;refine PySem.W.callWith_K (first:=[.ref a]) (h₀:=X.base) I.ok.mod.kin hm.kp (thn (ha pos pins s1 σ H1 _ I1 q) fun us s2 ⟨vs,H2,I2,r,q2⟩=>⟨I2.kIn,?_⟩) hst hpl;exact run_fn (us:=.ref a :: us) (vs:=.ref a :: vs) F hr hb hd hx I2 (.cons rfl r) q2
theorem zCq {pl:Sem Bool} (he:PE X o ta) (c:Cls X.K C) (hm:Meth X.K C m f) (F:FnOk X.prog X.w X.K X.mg X.base CX k f fd ps sp) (hr:Room k X.A) (hb:Binds X.K fd ps ds) (hd:Vals dvs ds) (hx:Passes CX X E)
  (ht:eval (.Call (.Attribute o m apos) [] [] pos) X.env=(do
   let ov ← eval o X.env
   standAt apos.atName
   let (f,first) ← holding [ov] (getMethod ov m pl)
   callWith pos f first (backTo pos (starEach [] X.env)) (backToKw pos (keywordEach [] X.env))):=by rfl) :
  PE X (.Call (.Attribute o m apos) [] [] pos) (tMeth C m sp dvs E ta tNil):=by
 intro pins s σ H Q I h;refine PySem.W.methodCall_KW (pl:=pl) (thn (he pins s σ H _ I h) fun u s1 ⟨x,H1,I1,rx,a,dx,fs,ex,ea,l,q⟩=>?_) ht;subst ex;obtain rfl:u=Value.ref a:=rx;refine zDz I1 ea c hm l ?_;exact PySem.W.callWith_K0 (first:=[.ref a]) I1.kIn hm.kp (run_fn (us:=[.ref a]) (vs:=[.ref a]) F hr hb hd hx I1 (.cons rfl .nil) q)
structure Mk (K:PySem.W.Frag) (C f:Addr):Prop where
 makes:PySem.W.makesIn K C=true
 init:PySem.W.findIn K (.ref C) "__init__" = some (some (.ref f))
 fn:PySem.W.isFn K (.ref f)=true
 kp:PySem.W.keepIn K (.ref C)=true
theorem run_make {pins:List (Addr×Obj)}{σ : St}{H:Hp}{s:Shared}{Q:VK}{us:List Value}{vs:List V} (M:Mk X.K C f) (F:FnOk X.prog X.w X.K X.mg X.base CX k f fd ps sp) (hr:Room (k + 1) X.A) (hb:Binds X.K fd ps ds) (hd:Vals dvs ds)
  (hx:Passes CX X E) (I:Inv X pins σ H s) (r:Vals vs us)
  (h:∀ x dx,H x=none→H dx=none→dx≠x→sp (.ref x :: (vs++dvs)) (upd (upd H dx (.own x)) x (.ins C dx [])) (fun v H2=>v=.non∧Q (.ref x) H2) (E σ)) :
  wpAny (model X.prog X.w) X.A (call (.ref C) us) (EP X pins σ Q) X.xe s:=by
 have hq:=h (s.heap.objs.size + 1) s.heap.objs.size (I.hok.fresh (Yq _)) (I.hok.fresh (Z5 _)) (Zg (Yb _));have I2:=Inv.made (C:=C) I;have r2:Vals (V.ref (s.heap.objs.size + 1) :: (vs++dvs)) (Value.ref (s.heap.objs.size + 1) :: (us++ds)):=.cons rfl (r.append hd);have hl:(Value.ref (s.heap.objs.size + 1) :: us++ds).length=ps.length:=by
  have e:=r2.length;rw [F.len _ _ _ _ hq] at e;exact e.symm
 refine wpAny_call (make_map (f:=f) I.kIn M.makes M.init (beq_iff_eq.mp M.fn) (codeAny_mono (F.run _ X.stack _ _ ⟨Value.ref (s.heap.objs.size + 1) :: us,[]⟩ (Value.ref (s.heap.objs.size + 1) :: (us++ds)) _ _ (E σ) (hr.make C us [])
  (I2.env0.make C us []) (hb _ (Value.ref (s.heap.objs.size + 1) :: us) I2.kIn hl) r2 hq) fun r s' hq'=>?_))
 cases r with
 | error e=>exact hx pins σ _ _ e s' I2 hq'
 | ok fl =>
  cases fl with
  | ret u =>
   obtain ⟨v,H',I3,rv,ev,q3⟩:=I2.after hq';subst ev;exact ⟨rv,⟨V.ref (s.heap.objs.size + 1),H',I3,rfl,q3⟩⟩
  | next=>exact False.elim hq'
  | brk=>exact False.elim hq'
  | cont=>exact False.elim hq'
theorem zCg (M:Mk X.K C f) (F:FnOk X.prog X.w X.K X.mg X.base CX k f fd ps sp) (hr:Room (k + 1) X.A) (hg:Gl X x) (hm:X.mg x=some (.ref C)) (hb:Binds X.K fd ps ds) (hd:Vals dvs ds) (hx:Passes CX X E)
  (ha:PA X (e :: es) t) (hdb:(x == ("__debug__" : Str))=false:=by decide) (he:starEach (e :: es) X.env=(false,eval e X.env) :: starEach es X.env:=by rfl) (hpl:(backTo pos (starEach es X.env)).any (·.1)=false:=by rfl) :
  PE X (.Call (.Name x p) (e :: es) [] pos) (tMake C sp dvs E t):=by
 intro pins s σ H Q I h;refine wpAny_Call_Name_kw (zEx I hg hm ?_ hdb);refine PySem.W.callWith_K (h₀:=X.base) I.ok.mod.kin M.kp (thn (ha pos pins s σ H _ I h) fun us s1 ⟨vs,H1,I1,r,q⟩=>⟨I1.kIn,?_⟩) he hpl;exact run_make M F hr hb hd hx I1 r q
end
section
variable {X:Cx}{CX:CXT}{k:Nat}{f C:Addr}{fd:FuncData}{ps ks:List Str}{sp:Sp}{E:St→XK}{x m:Str}{p pos apos kpos:Pos}{e o:Expr}{es:List Expr}{kws:List Keyword}{te ta:TE}{t tk:TA}{nm:Option Str}
variable {g:List Value→List Value→List Value}{gV:List V→List V→List V}
end
structure FnScope (N P:List Str) (sc:Scope):Prop where
 kind:sc.kind=.function
 co:sc.isCoroutine=false
 gen:sc.isGenerator=false
 nd:N.Nodup
 pre:N.take P.length=P
 par:∀ x∈P,sc.names.lookup x=some .local∨sc.names.lookup x=some .cell
 nofree:∀ y∈sc.names,y.2≠.free
theorem bindL_out {kindOf:Str→Option NameKind}{x:Str}:∀ {binds:List (Str×Value)}{m:Str→Option Value},(∀ v,(x,v)∉binds)→bindL kindOf binds m x=m x
 | [],_,_=>rfl
 | (n,v) :: r,m,h=>by
  unfold bindL;rw [bindL_out fun w hw=>h w (Z6 _ hw)];split
  ·have:x≠n:=by rintro rfl;exact h v Zb
   simp [this]
  ·rfl
theorem bindC_out {kindOf:Str→Option NameKind}{x:Str}:∀ {binds:List (Str×Value)}{m:Str→Option Value},(∀ v,(x,v)∉binds)→bindC kindOf binds m x=m x
 | [],_,_=>rfl
 | (n,v) :: r,m,h=>by
  unfold bindC;rw [bindC_out fun w hw=>h w (Z6 _ hw)];split
  ·rfl
  ·have:x≠n:=by rintro rfl;exact h v Zb
   simp [this]
theorem bindL_get {kindOf:Str→Option NameKind}{x:Str}{v:Value}:∀ {P:List Str}{vs:List Value}{i:Nat}{m:Str→Option Value},P.Nodup→P[i]? = some x→vs[i]? = some v→kindOf x=some .local →
  bindL kindOf (P.zip vs) m x=some v
 | [],_,_,_,_,h,_,_=>by simp at h
 | _ :: _,[],_,_,_,_,h,_=>by simp at h
 | p :: P,w :: vs,0,m,nd,h1,h2,hk=>by
  simp at h1 h2;subst h1;subst h2;show bindL kindOf ((p,w) :: P.zip vs) m p=_;unfold bindL;rw [bindL_out fun v hv=>(List.nodup_cons.mp nd).1 (List.of_mem_zip hv).1,if_pos hk];simp
 | p :: P,w :: vs,i + 1,m,nd,h1,h2,hk=>by
  show bindL kindOf ((p,w) :: P.zip vs) m x=_;unfold bindL;exact bindL_get (i:=i) (List.nodup_cons.mp nd).2 (by simpa using h1) (by simpa using h2) hk
theorem bindC_get {kindOf:Str→Option NameKind}{x:Str}{v:Value}:∀ {P:List Str}{vs:List Value}{i:Nat}{m:Str→Option Value},P.Nodup→P[i]? = some x→vs[i]? = some v→kindOf x≠some .local →
  bindC kindOf (P.zip vs) m x=some v
 | [],_,_,_,_,h,_,_=>by simp at h
 | _ :: _,[],_,_,_,_,h,_=>by simp at h
 | p :: P,w :: vs,0,m,nd,h1,h2,hk=>by
  simp at h1 h2;subst h1;subst h2;show bindC kindOf ((p,w) :: P.zip vs) m p=_;unfold bindC;rw [bindC_out fun v hv=>(List.nodup_cons.mp nd).1 (List.of_mem_zip hv).1,if_neg hk];simp
 | p :: P,w :: vs,i + 1,m,nd,h1,h2,hk=>by
  show bindC kindOf ((p,w) :: P.zip vs) m x=_;unfold bindC;exact bindC_get (i:=i) (List.nodup_cons.mp nd).2 (by simpa using h1) (by simpa using h2) hk
noncomputable def start (N:List Str) (vs:List V):St:=vs.map some++List.replicate (N.length - vs.length) none
noncomputable def cxOf (CX:CXT) (P:Program) (w:World) (K:PySem.W.Frag) (mg:Str→Option Value) (base:Heap) (N:List Str) (qual:Str) (scope:Scope) (f:Addr) (cd:Value) (A:Around) (outer:List Env) (s:Shared) (H:Hp) (E:XK):Cx where
 prog:=P
 w:=w
 K:=K
 mg:=mg
 base:=base
 A:=A.deeper (envOfC qual scope s.heap.objs.size f cd)
 N:=N
 s₀:=s
 H₀:=H
 env:=envOfC qual scope s.heap.objs.size f cd
 outer:=outer
 stack:=envOfC qual scope s.heap.objs.size f cd :: outer
 ex:=[]
 calm:=true
 fn:=fun _=>true
 pn:=[]
 xe:=fun e s'=>wpAny (model P w) (A.deeper (envOfC qual scope s.heap.objs.size f cd)) (leaving (envOfC qual scope s.heap.objs.size f cd) e) (fun _ s''=>CX outer H s E e s'') (fun e' s''=>CX outer H s E e' s'') s'
theorem cell_has {sc:Scope}{n:Nat}{x:Str} (h:sc.names.lookup x=some .cell):∃ c,(cellsFrom n sc.names []).lookup x=some c:=by
 have q:=PySem.W.cellsFrom_some sc.names n [] (.inl h);exact Option.isSome_iff_exists.mp q
theorem inv_start {CX:CXT}{P:Program}{w:World}{K:PySem.W.Frag}{mg:Str→Option Value}{base:Heap}{N ps:List Str}{qual:Str}{scope:Scope}{f:Addr}{cd:Value}{A:Around}{outer:List Env}{s s1:Shared}{H:Hp}{E:XK}{us:List Value}{vs:List V}
  (S:FnScope N ps scope) (hd:A.handled=none) (e0:Env0 P w K mg base A outer s H) (hl:vs.length=ps.length) (r:Vals vs us)
  (x:InCallC s s.heap.objs.size (bindL (envOfC qual scope s.heap.objs.size f cd).kindOf (ps.zip us) fun _=>none) (cellsFrom (s.heap.objs.size + 1) scope.names []) (bindC (envOfC qual scope s.heap.objs.size f cd).kindOf (ps.zip us) fun _=>none) s1) :
  Inv (cxOf CX P w K mg base N qual scope f cd A outer s H E) [] (start N vs) H s1:=by
 have hpl:ps.length≤N.length:=by have:=congrArg List.length S.pre;rw [Zr] at this;omega
 obtain ⟨h1,tk,rfl,hk⟩:=x.done;have noA:∀ b:Addr,b∉(cxOf CX P w K mg base N qual scope f cd A outer s H E).ex:=fun b z=>absurd (show b∈([]:List Addr) from z) (by simp)
 refine ⟨⟨e0.mod,S.kind,rfl,rfl,Z5 _,fun y z c h1 h2=>?_,fun y hy=>?_,fun y c _ h=>?_,fun _=>hd,Around.frames_deeper e0.frames,.inr ⟨rfl,rfl⟩,fun b z=>absurd z (noA b),e0.bs,e0.bsz,fun b _ _=>noA b,fun b z=>absurd z (noA b),e0.funs,e0.frf⟩,
  rfl,e0.bare,Un.kept hk,⟨_,x.toInCall.ns,fun i y v h1 h2 h3=>?_⟩,fun y c h=>⟨_,x.cell y c h⟩,e0.hok.fresh (Z5 _),fun y c h=>?_,fun p hp=>absurd (show p∈([]:List (Addr×Obj)) from hp) (by simp),e0.hok.kept hk,?_⟩
 ·exact name_of_addr x.apart (PySem.mem_of_lookup h1) (PySem.mem_of_lookup h2)
 ·have hy:scope.names.lookup y=some .cell∨scope.names.lookup y=some .free:=hy;rcases hy with hy | hy
  ·exact cell_has hy
  ·exact absurd rfl (S.nofree _ (PySem.mem_of_lookup hy))
 ·exact Zm (x.above y c (PySem.mem_of_lookup h))
 ·have hi:i < vs.length:=by
   unfold start at h2;by_cases hi:i < vs.length
   ·exact hi
   ·rw [Zz (by simpa using hi)] at h2;rw [List.getElem?_replicate] at h2;split at h2 <;> cases h2
  have ha:vs[i]? = some v:=by
   unfold start at h2;rw [Zq (by simpa using hi),Z4] at h2;cases e:vs[i]? with
   | none=>rw [e] at h2;cases h2
   | some a=>rw [e] at h2;cases h2;rfl
  obtain ⟨u,hu,rv⟩:=r.get ha;have hp:ps[i]? = some y:=by
   rw [← S.pre,Yd (by omega)];exact h1
  have ndP:ps.Nodup:=by rw [← S.pre];exact S.nd.sublist (List.take_sublist _ _)
  refine ⟨u,rv,?_⟩;rcases S.par y (Z3 hp) with k | k
  ·exact .inl ⟨k,bindL_get ndP hp hu k⟩
  ·obtain ⟨c,e⟩:=cell_has (n:=s.heap.objs.size + 1) k;refine .inr ⟨.inl k,c,e,?_⟩;have q:=x.cell y c e;rw [bindC_get ndP hp hu (by show scope.names.lookup y≠_;rw [k];decide)] at q;exact q
 ·exact e0.hok.fresh (Zm (x.above y c (PySem.mem_of_lookup h)))
 ·unfold start;show _=N.length;rw [Z7,Z0,Y8];omega
theorem fn_of {CX:CXT}{P:Program}{w:World}{K:PySem.W.Frag}{mg:Str→Option Value}{base:Heap}{k:Nat}{f:Addr}{name qual:Str}{params:Arguments}{body:List Stmt}{scope:Scope}{dV kV doc pm cdv ct oc:Value}{an od:Option Addr}
  {osl:Array (Option Value)}{N ps:List Str}{sp:Sp} (lk:K.lookup f=some ⟨oc,od,.func (PySem.W.fnOf name qual params body scope dV kV doc pm an cdv ct),osl⟩) (hcd:PySem.W.codeIn K cdv qual=true) (S:FnScope N ps scope)
  (len:∀ vs H Q E,sp vs H Q E→vs.length=ps.length)
  (hbody:∀ (A:Around) (outer:List Env) (s:Shared) (H:Hp) (vs:List V) (Q:VK) (E:XK),Room k (A.deeper (envOfC qual scope s.heap.objs.size f cdv))→sp vs H Q E →
   ∃ t,PSs (cxOf CX P w K mg base N qual scope f cdv A outer s H E) body t∧t { nx:=fun _ H'=>Q .non H',rt:=Q } (start N vs) H) :
  FnOk P w K mg base CX (k + 1) f (PySem.W.fnOf name qual params body scope dV kV doc pm an cdv ct) ps sp:=by
 refine ⟨len,fun A outer s H args us vs Q E hr e0 hb r hsp=>?_⟩;have hl:=len _ _ _ _ hsp;have KX:K.In s.heap:=e0.mod.kin.keeps fun b o e=>(e0.bs b o e).1;have lim:s.heap.NoLimit:=e0.mod.nolimit.keeps fun b o e=>(e0.bs b o e).1;have hkind:∀ y∈ps.zip us,scope.names.lookup y.1=some .local∨(scope.names.lookup y.1=some .cell∧((cellsFrom (s.heap.objs.size + 1) scope.names []).lookup y.1).isSome=true):=fun ⟨n,v⟩ hy=>by
  rcases S.par n (List.of_mem_zip hy).1 with q | q
  ·exact .inl q
  ·exact .inr ⟨q,PySem.W.cellsFrom_some _ _ _ (.inl q)⟩
 refine codeAny_call_function hr.depth (KX _ _ lk) rfl S.co S.gen rfl (PySem.W.codeRec_of KX hcd) (hb _ _ _ _ ?_);refine wpAny_newFunctionEnv_cells S.kind hkind fun env he s1 x=>?_;subst he;refine ⟨lim.keeps x.toInCall.keep,codeAny_func ?_⟩;obtain ⟨t,ht,hq⟩:=hbody A outer s H vs Q E (hr.deeper _) hsp;have I:Inv (cxOf CX P w K mg base N qual scope f cdv A outer s H E) [] (start N vs) H s1:=inv_start S hr.hd e0 hl r x;refine wpAny_mono (ht [] s1 (start N vs) H _ I hq) (fun fl s' hs=>?_) fun e s' hs=>hs;have fin:∀ {σ':St}{H':Hp}{v:V}{u:Value},Inv (cxOf CX P w K mg base N qual scope f cdv A outer s H E) [] σ' H' s'→RelV v u→Q v H'→CE outer P w H s Q u s' :=
  fun {σ' H' v u} J rv q=>⟨v,H',J.os,J.bare,J.base,J.hok,rv,q⟩
 cases fl with
 | ret u =>
  obtain ⟨v,σ',H',J,rv,q⟩:=hs;exact fin J rv q
 | next =>
  obtain ⟨σ',H',J,q⟩:=hs;exact fin (v:=V.non) (u:=Value.none) J rfl q
 | brk =>
  obtain ⟨_,_,_,q⟩:=hs;exact False.elim q
 | cont =>
  obtain ⟨_,_,_,q⟩:=hs;exact False.elim q
end L2
namespace L2
open PySem PySem.Spec PyProof.Rows
section
variable {X:Cx}{x:Str}{p pos:Pos}{e:Expr}{es:List Expr}{t:TA}{id T:String}{r:List V→Hp→VK→Prop}
noncomputable def tCB (r:List V→Hp→VK→Prop) (t:TA):TE:=fun σ H Q=>t σ H fun vs H1=>r vs H1 Q
theorem zA9 (hc:CallR X (.builtin id) r) (hg:Gl X x) (hm:X.mg x=none) (hv:bootBuiltins x=some (.builtin id)) (ha:PA X (e :: es) t) (hn:x≠"__name__":=by decide) (hdb:(x == ("__debug__" : Str))=false:=by decide)
  (he:starEach (e :: es) X.env=(false,eval e X.env) :: starEach es X.env:=by rfl) (hpl:(backTo pos (starEach es X.env)).any (·.1)=false:=by rfl):PE X (.Call (.Name x p) (e :: es) [] pos) (tCB r t):=by
 intro pins s σ H Q I h;refine wpAny_Call_Name_kw (zEy I hg hm hv ?_ hn hdb);exact PyProof.Rows.callWith_builtin1 (thn (ha pos pins s σ H _ I h) fun us s1 ⟨vs,H1,I1,r1,q1⟩=>hc pins s1 σ H1 vs us Q I1 r1 q1) he hpl
theorem zB3 (hc:CallR X (.type T) r) (hg:Gl X x) (hm:X.mg x=none) (hv:bootBuiltins x=some (.type T)) (ha:PA X (e :: es) t) (hn:x≠"__name__":=by decide) (hdb:(x == ("__debug__" : Str))=false:=by decide)
  (he:starEach (e :: es) X.env=(false,eval e X.env) :: starEach es X.env:=by rfl) (hpl:(backTo pos (starEach es X.env)).any (·.1)=false:=by rfl):PE X (.Call (.Name x p) (e :: es) [] pos) (tCB r t):=by
 intro pins s σ H Q I h;refine wpAny_Call_Name_kw (zEy I hg hm hv ?_ hn hdb);exact PyProof.Rows.callWith_type1 (thn (ha pos pins s σ H _ I h) fun us s1 ⟨vs,H1,I1,r1,q1⟩=>hc pins s1 σ H1 vs us Q I1 r1 q1) he hpl
end
end L2
namespace HT
open PySem PyProof.Rows
section
open PySem.SeqAt
open PySem.AutoSeq1 (wpAny_loadPart')
open PySem.MeetsSeq PySem.MeetsSeq2 PySem.MeetsSeq3
end
section
variable {prog:Program}{w:World}{A:Around}{E:Value→Shared→Prop}{s:Shared}
noncomputable def sIx (n d:Nat):Option Int→Nat
 | none=>d
 | some v=>if v < 0 then (v + (n:Int)).toNat else min v.toNat n
end
end HT
namespace L2
open PySem PySem.Spec PyProof.Rows
noncomputable abbrev TO:=St→Hp→(Option Int→Hp→Prop)→Prop
noncomputable def PO (X:Cx) (e:Option Expr) (t:TO):Prop :=
 ∀ (pins:List (Addr×Obj)) (s:Shared) (σ : St) (H:Hp) (Q:Option Int→Hp→Prop),Inv X pins σ H s→t σ H Q →
  wpAny (model X.prog X.w) X.A (evalPart e X.env) (fun u s'=>∃ o H',Inv X pins σ H' s'∧IsPart u o∧Q o H') X.xe s
noncomputable def tNoPart:TO:=fun _ H Q=>Q none H
noncomputable def tPart (t:TE):TO:=fun σ H Q=>t σ H fun x H1=>∃ i,x=.int i∧Q (some i) H1
section
variable {X:Cx}{e:Expr}{te:TE}{lo hi:Option Expr}{tl th:TO}{pos p2:Pos}
theorem zC5:PO X none tNoPart:=by
 intro pins s σ H Q I h;rw [evalPart_none];exact wpAny_pure ⟨none,H,I,.none,h⟩
theorem zBn (h:PE X e te):PO X (some e) (tPart te):=by
 intro pins s σ H Q I hw;rw [evalPart_some];refine thn (h pins s σ H _ I hw) fun u s1 ⟨x,H1,I1,r1,q1⟩=>?_;obtain ⟨i,rfl,q⟩:=q1;obtain ⟨t,rfl⟩:=r1;exact ⟨some i,H1,I1,.int i t,q⟩
noncomputable def SlR (X:Cx) (r:V→Option Int→Option Int→Hp→VK→Prop):Prop :=
 ∀ (pins:List (Addr×Obj)) (s:Shared) (σ : St) (H:Hp) (x:V) (v vl vu:Value) (lo hi:Option Int) (sl:Addr) (Q:VK),Inv X pins σ H s→RelV x v→s.heap.IsSliceOf sl vl vu .none→IsPart vl lo→IsPart vu hi→r x lo hi H Q →
  ∃ T id,typeLookup (.type T) "__getitem__" = pure (some (.builtin id))∧s.TypeIs v T∧wpAny (model X.prog X.w) X.A (getItem v (.ref sl)) (EP X pins σ Q) X.xe s
noncomputable def tSl (r:V→Option Int→Option Int→Hp→VK→Prop) (te:TE) (tl th:TO):TE:=fun σ H Q=>te σ H fun x H1=>tl σ H1 fun l H2=>th σ H2 fun u H3=>r x l u H3 Q
theorem zBd {r:V→Option Int→Option Int→Hp→VK→Prop} (hr:SlR X r) (he:PE X e te) (hl:PO X lo tl) (hu:PO X hi th):PE X (.Subscript e (.Slice lo hi none p2) pos) (tSl r te tl th):=by
 intro pins s σ H Q I h;refine Subscript_ (thn (he pins s σ H _ I h) fun v s1 ⟨x,H1,I1,r1,q1⟩=>?_);refine wpAny_Slice (thn (hl pins s1 σ H1 _ I1 q1) fun vl s2 ⟨l,H2,I2,pl,q2⟩=>thn (hu pins s2 σ H2 _ I2 q2) fun vu s3 ⟨u,H3,I3,pu,q3⟩=>?_);rw [evalPart_none];refine wpAny_pure ?_;have I4:Inv X pins σ H3 { s3 with heap:=s3.heap.push { cls:=.type "slice",data:=.fields #[vl,vu,.none] } }:=I3.kept (t':=s3.toks) fun b ob q=>Z2 _ q;obtain ⟨T,id,hT,ht,hg⟩:=hr pins { s3 with heap:=s3.heap.push { cls:=.type "slice",data:=.fields #[vl,vu,.none] } } σ H3 x v vl vu l u s3.heap.objs.size Q I4 r1 (Heap.IsSliceOf.new ..) pl pu q3;show wpAny (model X.prog X.w) X.A (subscriptTail e (.Slice lo hi none p2) v (.ref s3.heap.objs.size)) (EP X pins σ Q) X.xe { s3 with heap:=s3.heap.push { cls:=.type "slice",data:=.fields #[vl,vu,.none] } };exact tail_any (ops:=[.ref s3.heap.objs.size,v]) ht hT hg (by with_unfolding_all rfl)
noncomputable def cutV (xs:List V) (lo hi:Option Int):List V:=(xs.drop (HT.sIx xs.length 0 lo)).take (HT.sIx xs.length xs.length hi - HT.sIx xs.length 0 lo)
theorem cutV_length (xs:List V) (lo hi:Option Int):(cutV xs lo hi).length≤xs.length:=by
 unfold cutV;rw [Zr,Yo];omega
end
end L2
namespace L2
open PySem PySem.Spec PyProof.Rows
noncomputable def ixN (n:Nat) (i:Int):Option Nat:=if 0≤i then (if i < n then some i.toNat else none) else if -(n:Int)≤i then some (i + n).toNat else none
noncomputable def atI {α : Type} (xs:List α) (i:Int):Option α:=(ixN xs.length i).bind fun j=>xs[j]?
theorem ixN_seq {n:Nat}{i:Int}{j:Nat} (h:ixN n i=some j):seqIndex? i n=some j∧j < n∧-(n:Int)≤i∧i < n:=by
 unfold ixN at h;by_cases h0:0≤i
 ·rw [if_pos h0] at h;by_cases h1:i < n
  ·rw [if_pos h1] at h;have e:i.toNat=j:=Zk h;exact ⟨by rw [seqIndex_of h0 h1,e],by omega,by omega,h1⟩
  ·rw [if_neg h1] at h;cases h
 ·rw [if_neg h0] at h;by_cases h1 : -(n:Int)≤i
  ·rw [if_pos h1] at h;have e:(i + n).toNat=j:=Zk h;exact ⟨by rw [seqIndex_neg (by omega) h1,e],by omega,h1,by omega⟩
  ·rw [if_neg h1] at h;cases h
theorem atI_get {α : Type}{xs:List α}{i:Int}{v : α} (h:atI xs i=some v):∃ j,seqIndex? i xs.length=some j∧xs[j]? = some v∧j < xs.length∧-(xs.length:Int)≤i∧i < xs.length:=by
 unfold atI at h;cases e:ixN xs.length i with
 | none=>rw [e] at h;cases h
 | some j =>
  rw [e] at h;obtain ⟨h1,h2,h3,h4⟩:=ixN_seq e;exact ⟨j,h1,h,h2,h3,h4⟩
theorem zB1 {α : Type}{xs:List α}{j:Nat}{v : α} (h:xs[j]? = some v):atI xs (j:Int)=some v:=by
 have hj:j < xs.length:=(List.getElem?_eq_some_iff.mp h).1;have e:ixN xs.length (j:Int)=some j:=by
  unfold ixN;rw [if_pos (by omega),if_pos (by omega)];simp
 unfold atI;rw [e];exact h
noncomputable def PlainIx (b:Expr):Prop:=∀ o i,subscripted b false o i=operate [o,i] (getItem o i)
noncomputable def IxR (X:Cx) (r:R2):Prop :=
 ∀ (value slice:Expr) (pins:List (Addr×Obj)) (s:Shared) (σ : St) (H:Hp) (x y:V) (v u:Value) (Q:VK),Inv X pins σ H s→RelV x v→RelV y u→r x y H Q →
  subscripted slice false v u=operate [v,u] (getItem v u)→wpAny (model X.prog X.w) X.A (subscriptTail value slice v u) (EP X pins σ Q) X.xe s
noncomputable def MtR (X:Cx) (id:String) (r:V→List V→Hp→VK→Prop):Prop :=
 ∀ (pins:List (Addr×Obj)) (s:Shared) (σ : St) (H:Hp) (x:V) (xs:List V) (v:Value) (us:List Value) (Q:VK),Inv X pins σ H s→RelV x v→Vals xs us→r x xs H Q →
  wpAny (model X.prog X.w) X.A (call (.builtin id) (v :: us)) (EP X pins σ Q) X.xe s
section
variable {X:Cx}{a b:Expr}{ta tb:TE}{pos:Pos}
theorem zAi {r:R2} (hr:IxR X r) (ha:PE X a ta) (hb:PE X b tb) (hs:PlainIx b):PE X (.Subscript a b pos) (tOp r ta tb):=by
 intro pins s σ H Q I h;exact Subscript_ (binT ha hb I h fun v u s2 x y H2 I2 rx ry q=>hr a b pins s2 σ H2 x y v u Q I2 rx ry q (hs _ _))
noncomputable def rIxL (K:PySem.W.Frag):R2:=fun x y H Q=>∃ p xs i v,x=.ref p∧y=.int i∧SqL K H p xs∧atI xs i=some v∧Q v H
noncomputable def rIxT (K:PySem.W.Frag):R2:=fun x y H Q=>∃ p xs i v,x=.ref p∧y=.int i∧SqT K H p xs∧atI xs i=some v∧Q v H
noncomputable def rIxS:R2:=fun x y H Q=>∃ z i c,x=.str z∧y=.int i∧z.length≤sizeLine∧atI z.cps.toList i=some c∧Q (.str ⟨#[c]⟩) H
theorem zAk:IxR X (rIxL X.K):=by
 intro value slice pins s σ H x y v u Q I rx ry h hs;obtain ⟨p,xs,i,z,rfl,rfl,hq,he,q⟩:=h;cases rx;obtain ⟨t,rfl⟩:=ry;obtain ⟨its,r,pl,hz⟩:=I.list hq;obtain ⟨j,h1,h2,h3,h4,h5⟩:=atI_get he;obtain ⟨w,ew,rw'⟩:=r.get h2;have hl:=r.length;have hn:=line63;have fin:EP X pins σ Q w s:=⟨z,H,I,rw',q⟩;by_cases h0:0≤i
 ·have hj:i.toNat=j:=by
   rw [seqIndex_of h0 h5] at h1;exact Zk h1
  exact item_listR pl.isList h0 (by omega) (by rw [hj];simpa using ew) fin hs
 ·have hj:(i + (its.toArray.size:Int)).toNat=j:=by
   rw [seqIndex_neg (by omega) h4] at h1;rw [Zc,← hl];exact Zk h1
  exact subscriptTail_builtinR (x:=w) pl.isList.typeIs slot_list_getitem.lookup
   (wpAny_getItem_list_neg (Q:=fun r s'=>r=w∧EP X pins σ Q r s') pl.isList (by omega) (by rw [Zc] <;> omega) (by omega) (by rw [hj];simpa using ew) ⟨rfl,fin⟩) hs
theorem zAq:IxR X (rIxT X.K):=by
 intro value slice pins s σ H x y v u Q I rx ry h hs;obtain ⟨p,xs,i,z,rfl,rfl,hq,he,q⟩:=h;cases rx;obtain ⟨t,rfl⟩:=ry;obtain ⟨its,r,pl,hz⟩:=I.tuple hq;obtain ⟨j,h1,h2,h3,h4,h5⟩:=atI_get he;obtain ⟨w,ew,rw'⟩:=r.get h2;have hl:=r.length;have hn:=line63;have fin:EP X pins σ Q w s:=⟨z,H,I,rw',q⟩;exact subscriptTail_builtinR (x:=w) pl.typeIs slot_tuple_getitem.lookup
  (getItem_tuple (j:=j) (Q:=fun r s'=>r=w∧EP X pins σ Q r s') pl (by omega) (by omega) (by rw [Zc,← hl];exact h1) (by simpa using ew) ⟨rfl,fin⟩) hs
theorem ix_str:IxR X rIxS:=by
 intro value slice pins s σ H x y v u Q I rx ry h hs;obtain ⟨z,i,c,rfl,rfl,hz,he,q⟩:=h;obtain ⟨t,rfl⟩:=rx;obtain ⟨t',rfl⟩:=ry;obtain ⟨j,h1,h2,h3,h4,h5⟩:=atI_get he;have hl:z.cps.toList.length=z.length:=by simp [Str.length]
 rw [hl] at h1 h4 h5;have hn:=line63
 exact tail_any (typeIs_str s z t) slot_str_getitem.lookup (getItem_str (c:=c) (by
  have e1:decide (i < -(2 ^ 63:Int))=false:=decide_eq_false (by omega);have e2:decide (i ≥ 2 ^ 63)=false:=decide_eq_false (by omega)
  rw [e1,e2,Bool.or_false]) (by rw [h1];simpa using h2) ⟨.str ⟨#[c]⟩,H,I.tok _,⟨_,rfl⟩,q⟩) hs
theorem mapSeq_set (its:List Value) (n j:Nat) (u:Value):Obj.mapSeq (·.setIfInBounds j u) { cls:=.type "list",data:=.seq its.toArray n }={ cls:=.type "list",data:=.seq (its.set j u).toArray n }:=by
 simp [Obj.mapSeq]
theorem Inv.lst {pins:List (Addr×Obj)}{σ : St}{H:Hp}{s:Shared}{p:Addr}{xs:List V} (I:Inv X pins σ H s) (h:H p=some (.lst xs)) :
  ∃ (its:List Value) (n:Nat),Vals xs its∧s.heap.get? p=some { cls:=.type "list",data:=.seq its.toArray n }∧xs.length≤sizeLine:=by
 obtain ⟨z,its,n,r,e⟩:=I.hok p _ h;exact ⟨its,n,r,e,z⟩
theorem Inv.lstUpd {pins:List (Addr×Obj)}{σ : St}{H:Hp}{s:Shared}{p:Addr}{xs ys:List V}{its its':List Value}{n n':Nat}{f:Obj→Obj} (I:Inv X pins σ H s) (h:H p=some (.lst xs))
  (ho:s.heap.get? p=some { cls:=.type "list",data:=.seq its.toArray n }) (hf:f { cls:=.type "list",data:=.seq its.toArray n }={ cls:=.type "list",data:=.seq its'.toArray n' }) (r:Vals ys its') (hz:ys.length≤sizeLine) (t:Nat) :
  Inv X pins σ (upd H p (.lst ys)) { s with heap:=s.heap.update p f,toks:=t }:=by
 have e:(s.heap.update p f).get? p=some { cls:=.type "list",data:=.seq its'.toArray n' }:=by
  rw [Heap.get?_update_self f ho (by rw [hf] <;> rfl),hf]
 refine I.write (x:=p) (e:=p) (by rw [h];trivial) (.inl rfl) (fun b u hb q=>(Yr _ _ (Ne.symm hb)).trans q) ⟨_,e⟩ ?_;exact ⟨hz,its',n',r,e⟩
noncomputable def rSetL:V→V→V→Hp→(Hp→Prop)→Prop:=fun o i v H Q=>∃ p xs k j,o=.ref p∧i=.int k∧H p=some (.lst xs)∧ixN xs.length k=some j∧Q (upd H p (.lst (xs.set j v)))
theorem set_list:PSet X rSetL:=by
 intro pins s σ H o i v ov iv u Q I ro ri rv h;obtain ⟨p,xs,k,j,rfl,rfl,hp,hj,q⟩:=h;cases ro;obtain ⟨t,rfl⟩:=ri;obtain ⟨its,n,r,ho,hz⟩:=I.lst hp;obtain ⟨h1,h2,h3,h4⟩:=ixN_seq hj;have hl:=r.length;have hn:=line63;have I':Inv X pins σ (upd H p (.lst (xs.set j v))) { s with heap:=s.heap.update p (Obj.mapSeq (·.setIfInBounds j u)) } :=
  I.lstUpd hp ho (mapSeq_set its n j u) (r.set rv j) (by rw [List.length_set];exact hz) s.toks
 by_cases h0:0≤k
 ·have hk:k.toNat=j:=by
   rw [seqIndex_of h0 h4] at h1;exact Zk h1
  exact PySem.W.ki_setAt ho h0 (by omega) (by rw [Zc,← hl];exact h4) (by rw [hk];exact ⟨_,I',q⟩)
 ·have hk:(k + (its.toArray.size:Int)).toNat=j:=by
   rw [seqIndex_neg (by omega) h3] at h1;rw [Zc,← hl];exact Zk h1
  exact PySem.W.ki_setBack ho (by omega) (by rw [Zc,← hl];exact h3) (by omega) (by rw [hk];exact ⟨_,I',q⟩)
theorem slice_bounds (lo hi:Option Int) (n:Nat):(sliceBounds lo hi none n).1=((HT.sIx n 0 lo:Nat):Int)∧(sliceBounds lo hi none n).2.1=((HT.sIx n n hi:Nat):Int)∧(sliceBounds lo hi none n).2.2=1:=by
 refine ⟨?_,?_,rfl⟩
 ·cases lo with
  | none=>simp [sliceBounds,HT.sIx]
  | some i =>
   simp only [sliceBounds,HT.sIx,Option.getD_none,show (1:Int) > 0 by decide,if_true];by_cases h:i < 0
   ·simp only [h,if_true] <;> omega
   ·simp only [h,if_false] <;> omega
 ·cases hi with
  | none=>simp [sliceBounds,HT.sIx]
  | some i =>
   simp only [sliceBounds,HT.sIx,Option.getD_none,show (1:Int) > 0 by decide,if_true];by_cases h:i < 0
   ·simp only [h,if_true] <;> omega
   ·simp only [h,if_false] <;> omega
theorem zFz (its:List Value) (lo hi:Option Int):slicePick its.toArray lo hi none=((its.drop (HT.sIx its.length 0 lo)).take (HT.sIx its.length its.length hi - HT.sIx its.length 0 lo)).toArray:=by
 obtain ⟨h1,h2,h3⟩:=slice_bounds lo hi its.toArray.size;unfold slicePick;rw [h1,h2,h3];simp only [sliceRange_one,pick_run,Zc] <;> rfl
noncomputable def rSlL (K:PySem.W.Frag):V→Option Int→Option Int→Hp→VK→Prop:=fun x lo hi H Q=>∃ a xs,x=.ref a∧SqL K H a xs∧∀ p,H p=none→Q (.ref p) (upd H p (.lst (cutV xs lo hi)))
theorem zC3:SlR X (rSlL X.K):=by
 intro pins s σ H x v vl vu lo hi sl Q I rx hs pl pu h;obtain ⟨a,xs,rfl,hx,q⟩:=h;cases rx;obtain ⟨its,r,ht,hz⟩:=I.list hx;have hlen:=r.length;refine ⟨"list",_,slot_list_getitem.lookup,ht.isList.typeIs,?_⟩;refine wpAny_getItem_list_slice ht.isList hs pl pu .none (by simp) ?_ (by rw [Zc] <;> omega);rw [zFz,← hlen];refine ⟨.ref s.heap.objs.size,_,I.laid (t':=s.toks) (o:=.lst (cutV xs lo hi)) (fun b ob q=>Z2 _ q) (Z5 _) ?_,rfl,q _ (I.hok.fresh (Z5 _))⟩;exact ⟨Zl (cutV_length xs lo hi) hz,_,0,(r.drop (HT.sIx xs.length 0 lo)).take (HT.sIx xs.length xs.length hi - HT.sIx xs.length 0 lo),Ze _ rfl⟩
noncomputable def flatV:V→Bool
 | .non=>true
 | .bl _=>true
 | .int _=>true
 | .str _=>true
 | _=>false
noncomputable def eqV:V→V→Bool
 | .non,.non=>true
 | .bl a,.bl b=>a == b
 | .bl a,.int b=>(if a then 1 else 0) == b
 | .int a,.bl b=>a == (if b then 1 else 0)
 | .int a,.int b=>a == b
 | .str a,.str b=>a == b
 | _,_=>false
theorem eqAt_V {A:Around}{s:Shared}{y x:V}{u v:Value} (ry:RelV y u) (rx:RelV x v) (fy:flatV y=true) (fx:flatV x=true):SeqAt.EqAt A s u v (eqV y x):=by
 cases y with
 | non =>
  cases ry;cases x with
  | non=>cases rx;exact SeqAt.EqAt.same _
  | bl b=>cases rx;exact SeqAt.EqAt.none_bool b
  | int b=>obtain ⟨t,rfl⟩:=rx;exact SeqAt.EqAt.none_int b t
  | str b=>obtain ⟨t,rfl⟩:=rx;exact SeqAt.EqAt.none_str b t
  | _=>exact absurd (show false=true from fx) Zi
 | bl a =>
  cases ry;cases x with
  | non=>cases rx;exact SeqAt.EqAt.bool_none a
  | bl b=>cases rx;exact SeqAt.EqAt.bool_bool a b
  | int b=>obtain ⟨t,rfl⟩:=rx;exact SeqAt.EqAt.bool_int a b t
  | str b=>obtain ⟨t,rfl⟩:=rx;exact SeqAt.EqAt.bool_str a b t
  | _=>exact absurd (show false=true from fx) Zi
 | int a =>
  obtain ⟨t',rfl⟩:=ry;cases x with
  | non=>cases rx;exact SeqAt.EqAt.int_none a t'
  | bl b=>cases rx;exact SeqAt.EqAt.int_bool a t' b
  | int b=>obtain ⟨t,rfl⟩:=rx;exact SeqAt.EqAt.int_int a t' b t
  | str b=>obtain ⟨t,rfl⟩:=rx;exact SeqAt.EqAt.int_str a t' b t
  | _=>exact absurd (show false=true from fx) Zi
 | str a =>
  obtain ⟨t',rfl⟩:=ry;cases x with
  | non=>cases rx;exact SeqAt.EqAt.str_none a t'
  | bl b=>cases rx;exact SeqAt.EqAt.str_bool a t' b
  | int b=>obtain ⟨t,rfl⟩:=rx;exact SeqAt.EqAt.str_int a t' b t
  | str b=>obtain ⟨t,rfl⟩:=rx;exact SeqAt.EqAt.str_str a t' b t
  | _=>exact absurd (show false=true from fx) Zi
 | _=>exact absurd (show false=true from fy) Zi
noncomputable def eqU (x:V) (u:Value):Bool:=match u with
 | .none=>eqV .non x
 | .bool b=>eqV (.bl b) x
 | .int i _=>eqV (.int i) x
 | .str z _=>eqV (.str z) x
 | _=>false
theorem eqU_of {x y:V}{u:Value} (r:RelV y u) (f:flatV y=true):eqU x u=eqV y x:=by
 cases y with
 | non=>cases r;rfl
 | bl b=>cases r;rfl
 | int i=>obtain ⟨t,rfl⟩:=r;rfl
 | str z=>obtain ⟨t,rfl⟩:=r;rfl
 | _=>exact absurd (show false=true from f) Zi
theorem zF9 {x:V}:∀ {xs:List V}{us:List Value},Vals xs us→xs.all flatV=true→us.any (eqU x)=xs.any fun y=>eqV y x
 | _,_,.nil,_=>rfl
 | y :: xs,u :: us,.cons r t,f=>by
  rw [Yn,Zv] at f;rw [Xe,Xe,eqU_of r f.1,zF9 t f.2]
theorem zCu {A:Around}{s:Shared}{x:V}{v:Value} (rx:RelV x v) (fx:flatV x=true):∀ {xs:List V}{us:List Value},Vals xs us→xs.all flatV=true→∀ u∈us,SeqAt.EqAt A s u v (eqU x u)
 | _,_,.nil,_=>fun u hu=>by cases hu
 | y :: xs,u :: us,.cons r t,f=>fun u' hu=>by
  rw [Yn,Zv] at f;rcases List.mem_cons.mp hu with rfl | hu
  ·rw [eqU_of r f.1];exact eqAt_V r rx f.1 fx
  ·exact zCu rx fx t f.2 u' hu
noncomputable def inV (x:V) (xs:List V):Bool:=xs.any fun y=>eqV y x
noncomputable def rIn (K:PySem.W.Frag) (neg:Bool):R2:=fun x y H Q=>∃ p xs,y=.ref p∧(SqL K H p xs∨SqT K H p xs)∧flatV x=true∧xs.all flatV=true∧Q (.bl (if neg then !inV x xs else inV x xs)) H
theorem op_in_seq:OpR X (compareOp .In) (rIn X.K false):=by
 intro pins s σ H x y v u Q I rx ry h;obtain ⟨p,xs,rfl,hq,fx,fs,q⟩:=h;cases ry;rcases hq with hq | hq
 ·obtain ⟨its,r,pl,hz⟩:=I.list hq;refine SeqAt.in_listAt (eqU x) pl.isList (fun w hw=>zCu rx fx r fs w (by simpa using hw)) ⟨.bl _,H,I,rfl,?_⟩;rw [show its.toArray.any (eqU x)=its.any (eqU x) by simp,zF9 r fs];exact q
 ·obtain ⟨its,r,pl,hz⟩:=I.tuple hq;refine SeqAt.in_tupleAt (eqU x) pl (fun w hw=>zCu rx fx r fs w (by simpa using hw)) ⟨.bl _,H,I,rfl,?_⟩;rw [show its.toArray.any (eqU x)=its.any (eqU x) by simp,zF9 r fs];exact q
theorem zE6:OpR X (compareOp .NotIn) (rIn X.K true):=by
 intro pins s σ H x y v u Q I rx ry h;obtain ⟨p,xs,rfl,hq,fx,fs,q⟩:=h;cases ry;rcases hq with hq | hq
 ·obtain ⟨its,r,pl,hz⟩:=I.list hq;refine SeqAt.notIn_listAt (eqU x) pl.isList (fun w hw=>zCu rx fx r fs w (by simpa using hw)) ⟨.bl _,H,I,rfl,?_⟩;rw [show its.toArray.any (eqU x)=its.any (eqU x) by simp,zF9 r fs];exact q
 ·obtain ⟨its,r,pl,hz⟩:=I.tuple hq;refine SeqAt.notIn_tupleAt (eqU x) pl (fun w hw=>zCu rx fx r fs w (by simpa using hw)) ⟨.bl _,H,I,rfl,?_⟩;rw [show its.toArray.any (eqU x)=its.any (eqU x) by simp,zF9 r fs];exact q
theorem zAe:CallR X (.builtin "len") (fun xs H Q=>∃ p ys,xs=[.ref p]∧(SqL X.K H p ys∨SqT X.K H p ys)∧Q (.int ys.length) H):=by
 intro pins s σ H xs us Q I r h;obtain ⟨p,ys,rfl,hq,q⟩:=h;obtain ⟨u,rfl,rx⟩:=vals1 r;cases rx;have hn:=line63;rcases hq with hq | hq
 ·obtain ⟨its,r',pl,hz⟩:=I.list hq;have hlen:=r'.length;exact Calls.call_len_list pl.isList (by simp only [Zc] <;> omega) ⟨.int ys.length,H,I.tok _,⟨s.toks + 1,by rw [Zc,hlen]⟩,q⟩
 ·obtain ⟨its,r',pl,hz⟩:=I.tuple hq;have hlen:=r'.length;exact len_tuple pl (by simp only [Zc] <;> omega) ⟨.int ys.length,H,I.tok _,⟨s.toks + 1,by rw [Zc,hlen]⟩,q⟩
theorem zCn:CallR X (.builtin "len") (fun xs H Q=>∃ z,xs=[.str z]∧z.length≤sizeLine∧Q (.int z.length) H):=by
 intro pins s σ H xs us Q I r h;obtain ⟨z,rfl,hz,q⟩:=h;obtain ⟨u,rfl,t,rfl⟩:=vals1 r;have hn:=line63;exact len_str (by omega) ⟨.int z.length,H,I.tok _,⟨_,rfl⟩,q⟩
theorem zBw:CallR X (.type "list") (fun xs H Q=>∃ p ys,xs=[.ref p]∧(SqL X.K H p ys∨SqT X.K H p ys)∧∀ l,H l=none→Q (.ref l) (upd H l (.lst ys))):=by
 intro pins s σ H xs us Q I r h;obtain ⟨p,ys,rfl,hq,q⟩:=h;obtain ⟨u,rfl,rx⟩:=vals1 r;cases rx
 have fin:∀ (its:List Value),Vals ys its→ys.length≤sizeLine→∀ (h':Heap) (c':Nat),(∀ b o',s.heap.get? b=some o'→h'.get? b=some o') →
   h'.get? s.heap.objs.size=some { cls:=.type "list",dict:=none,data:=.seq its.toArray c',slots:=#[] }→EP X pins σ Q (.ref s.heap.objs.size) { s with heap:=h' }:=fun its r' hz h' c' kp e =>
  ⟨.ref s.heap.objs.size,_,I.laid (t':=s.toks) kp (Z5 _) (show ObjOk X.prog X.w _ h' _ (.lst ys) from ⟨hz,its,c',r',e⟩),rfl,q _ (I.hok.fresh (Z5 _))⟩
 rcases hq with hq | hq
 ·obtain ⟨its,r',pl,hz⟩:=I.list hq;have hlen:=r'.length;obtain ⟨o,ho,hc,n,hd⟩:=pl.isList;exact call_list_seq p (.inl rfl) ho hc hd (fun h' c' kp e=>fin its r' hz h' c' kp e) (by simp only [Zc] <;> omega)
 ·obtain ⟨its,r',pl,hz⟩:=I.tuple hq;have hlen:=r'.length;obtain ⟨o,ho,hc,n,hd⟩:=pl;exact call_list_seq p (.inr rfl) ho hc hd (fun h' c' kp e=>fin its r' hz h' c' kp e) (by simp only [Zc] <;> omega)
theorem zDk:CallR X (.type "tuple") (fun xs H Q=>∃ p ys,xs=[.ref p]∧((SqL X.K H p ys∧∀ l,H l=none→Q (.ref l) (upd H l (.tup ys)))∨(SqT X.K H p ys∧Q (.ref p) H))):=by
 intro pins s σ H xs us Q I r h;obtain ⟨p,ys,rfl,h⟩:=h;obtain ⟨u,rfl,rx⟩:=vals1 r;cases rx;rcases h with ⟨hq,q⟩ | ⟨hq,q⟩
 ·obtain ⟨its,r',pl,hz⟩:=I.list hq;have hlen:=r'.length;refine call_tuple_list pl.isList (fun h' kp=>?_) (by simp only [Zc] <;> omega);have I1:Inv X pins σ H { s with heap:=h' }:=I.kept (t':=s.toks) kp;have I2:Inv X pins σ (upd H h'.objs.size (.tup ys)) { s with heap:=h'.push { cls:=.type "tuple",data:=.seq its.toArray } } :=
   I1.laid (t':=s.toks) (fun b o e=>Z2 _ e) (Z5 _) (show ObjOk X.prog X.w _ _ _ (.tup ys) from ⟨hz,its,r',IsTup.new _ _⟩)
  exact ⟨.ref h'.objs.size,_,I2,rfl,q _ (I1.hok.fresh (Z5 _))⟩
 ·obtain ⟨its,r',pl,hz⟩:=I.tuple hq;exact call_tuple_same pl ⟨.ref p,H,I,rfl,q⟩
noncomputable def tyV (K:PySem.W.Frag) (T:String) (x:V) (H:Hp):Prop:=match x with
 | .str _=>T = "str"
 | .int _=>T = "int"
 | .ref p=>(T = "list"∧∃ xs,SqL K H p xs)∨(T = "tuple"∧∃ o,K.lookup p=some o∧o.cls=.type "tuple"∧o.dict=none) ∨
   (T = "dict"∧((∃ kvs,H p=some (.dK kvs))∨∃ kvs,H p=some (.dT kvs)))∨(T = "set"∧∃ S n,H p=some (.set S n))
 | _=>False
theorem tyV_is {pins:List (Addr×Obj)}{σ : St}{H:Hp}{s:Shared}{T:String}{x:V}{v:Value} (I:Inv X pins σ H s) (r:RelV x v) (ty:tyV X.K T x H) :
  s.TypeIs v T∧∀ a,v=.ref a→∃ ob,s.heap.get? a=some ob∧ob.dict=none:=by
 cases x with
 | str z =>
  obtain ⟨t,rfl⟩:=r;cases (show T = "str" from ty);exact ⟨typeIs_str s z t,fun _ e=>nomatch e⟩
 | int i =>
  obtain ⟨t,rfl⟩:=r;cases (show T = "int" from ty);exact ⟨typeIs_int s i t,fun _ e=>nomatch e⟩
 | ref p =>
  cases r;rcases ty with ⟨rfl,xs,hq⟩ | ⟨rfl,o,hk,hc,hd⟩ | ⟨rfl,hk⟩ | ⟨rfl,S,n,hk⟩
  ·obtain ⟨its,_,pl,_⟩:=I.list hq;refine ⟨pl.isList.typeIs,fun a e=>?_⟩;cases e;obtain ⟨o,n,e,c,hd,_⟩:=pl;exact ⟨o,e,hd⟩
  ·refine ⟨⟨o,I.kIn p o hk,hc⟩,fun a e=>?_⟩;cases e;exact ⟨o,I.kIn _ o hk,hd⟩
  ·have z:∃ o,s.heap.get? p=some o∧o.ExactDict:=by
    rcases hk with ⟨kvs,hk⟩ | ⟨kvs,hk⟩
    ·obtain ⟨_,_,_,_,o,_,_,e,ex,_⟩:=I.hok p _ hk;exact ⟨o,e,ex⟩
    ·obtain ⟨_,_,_,_,o,_,_,e,ex,_⟩:=I.hok p _ hk;exact ⟨o,e,ex⟩
   obtain ⟨o,e,ex⟩:=z;refine ⟨⟨o,e,ex.1⟩,fun a e2=>?_⟩;cases e2;exact ⟨o,e,ex.2.1⟩
  ·obtain ⟨o,_,_,_,e,ex,_⟩:=I.hok p _ hk;refine ⟨⟨o,e,ex.1⟩,fun a e2=>?_⟩;cases e2;exact ⟨o,e,ex.2.1⟩
 | _=>exact False.elim ty
noncomputable def tBM (K:PySem.W.Frag) (T:String) (r:V→List V→Hp→VK→Prop) (to:TE) (t:TA):TE:=fun σ H Q=>to σ H fun x H1=>tyV K T x H1∧t σ H1 fun xs H2=>r x xs H2 Q
variable {o e:Expr}{es:List Expr}{to:TE}{t:TA}{name:Str}{apos cpos:Pos}{T id:String}{r:V→List V→Hp→VK→Prop}
theorem zCv (pa:PlainAttrs T) (slot:Slot T name id) (hty:typeOf (.builtin id)=pure (.type "method_descriptor")) (hm:MtR X id r) (ho:PE X o to) (ha:PA X (e :: es) t)
  (hbase:attributeBase o name X.env (eval o X.env)=eval o X.env:=by rfl)
  (hfew:((backTo cpos (starEach (e :: es) X.env)).all (fun x=>!x.1) && (backToKw cpos (keywordEach [] X.env)).all (fun x=>x.1.isSome)
   && decide ((e :: es).length + ([]:List Keyword).length + (if ([]:List Keyword).isEmpty then 0 else 1) < 30))=true:=by rfl)
  (hline:(apos.endLine == cpos.line)=true:=by rfl) (hs:starEach (e :: es) X.env=(false,eval e X.env) :: starEach es X.env:=by rfl) (hplain:(backTo cpos (starEach es X.env)).any (·.1)=false:=by rfl) :
  PE X (.Call (.Attribute o name apos) (e :: es) [] cpos) (tBM X.K T r to t):=by
 intro pins s σ H Q I h;refine wpAny_Call_method_late hbase hfew hline rfl (thn (ho pins s σ H _ I h) fun v s1 ⟨x,H1,I1,r1,ty,q1⟩=>?_);obtain ⟨h1,h2⟩:=tyV_is I1 r1 ty;refine ⟨T,id,pa,slot,hty,h1,h2,?_⟩;have hA:=ha cpos pins s1 σ H1 _ I1 q1;rw [hs] at hA ⊢;refine Calls.callWith_builtin (by show (false || (backTo cpos (starEach es X.env)).any (·.1))=false;rw [hplain] <;> rfl) (Calls.evalArgs_plain ?_);exact thn hA fun us s2 ⟨vs,H2,I2,r2,q2⟩=>hm pins s2 σ H2 x vs v us Q I2 r1 r2 q2
end
end L2
namespace L2
open PySem PySem.Spec PyProof.Rows
noncomputable def MtM (X:Cx) (id:String) (r:V→List V→Hp→VK→Prop):Prop :=
 ∀ (pins:List (Addr×Obj)) (s:Shared) (σ : St) (H:Hp) (x:V) (xs:List V) (v:Value) (us:List Value) (Q:VK),Inv X pins σ H s→RelV x v→Vals xs us→r x xs H Q →
  wpAny (model X.prog X.w) X.A (call (.builtin id) (v :: us)) (EP X pins σ Q) X.xe s
theorem Vals.one:∀ {x:V}{us:List Value},Vals [x] us→∃ u,us=[u]∧RelV x u
 | _,_,.cons r .nil=>⟨_,rfl,r⟩
theorem Vals.dropLast {xs:List V}{us:List Value} (h:Vals xs us):Vals xs.dropLast us.dropLast:=by
 induction h with
 | nil=>exact .nil
 | cons r t ih =>
  cases t with
  | nil=>exact .nil
  | cons q t'=>exact .cons r ih
theorem Vals.eraseIdx:∀ {xs:List V}{us:List Value} (i:Nat),Vals xs us→Vals (xs.eraseIdx i) (us.eraseIdx i)
 | _,_,_,.nil=>.nil
 | _,_,0,.cons _ t=>t
 | _,_,i + 1,.cons r t=>.cons r (Vals.eraseIdx i t)
theorem Vals.reverse {xs:List V}{us:List Value} (h:Vals xs us):Vals xs.reverse us.reverse:=by
 induction h with
 | nil=>exact .nil
 | cons r t ih=>rw [Xl,Xl];exact Vals.append ih (.cons r .nil)
theorem Vals.rep {xs:List V}{us:List Value} (h:Vals xs us):∀ k:Nat,Vals (List.replicate k xs).flatten (List.replicate k us).flatten
 | 0=>.nil
 | k + 1=>by
  rw [Y6,Y6,Yy,Yy];exact Vals.append h (Vals.rep h k)
theorem erase_last {α : Type} (l:List α):l.eraseIdx (l.length - 1)=l.dropLast:=by
 induction l with
 | nil=>rfl
 | cons a r ih =>
  cases r with
  | nil=>rfl
  | cons b r =>
   have e:(a :: b :: r).length - 1=((b :: r).length - 1) + 1:=by
    have h1:(a :: b :: r).length=r.length + 2:=rfl;have h2:(b :: r).length=r.length + 1:=rfl;omega
   rw [e,List.eraseIdx_cons_succ,ih]
   all_goals rfl
theorem len_erase {α : Type}:∀ (l:List α) (i:Nat),(l.eraseIdx i).length≤l.length
 | [],_=>Z5 _
 | _ :: _,0=>Yq _
 | _ :: r,i + 1=>Nat.succ_le_succ (len_erase r i)
theorem foldl_rep (its:List Value):∀ (k:Nat) (acc:List Value),
  List.foldl (fun x1 x2=>x1++x2) acc.toArray (List.replicate k its.toArray)=(acc++(List.replicate k its).flatten).toArray
 | 0,acc=>by simp
 | k + 1,acc=>by
  have e:acc.toArray++its.toArray=(acc++its).toArray:=by simp
  have e2:(acc++its)++(List.replicate k its).flatten=acc++(List.replicate (k + 1) its).flatten:=by
   rw [Y6,Yy,List.append_assoc]
  rw [← e2,← foldl_rep its k (acc++its),← e,Y6,Y5]
section
variable {X:Cx}{pins:List (Addr×Obj)}{σ : St}{H:Hp}{s:Shared}{l b:Addr}{xs ys zs:List V}
theorem Inv.lset {its its':List Value}{n:Nat}{f:Array Value→Array Value}{t':Nat} (I:Inv X pins σ H s) (hH:H l=some (.lst xs))
  (e:s.heap.get? l=some { cls:=.type "list",data:=.seq its.toArray n }) (hf:f its.toArray=its'.toArray) (hv:Vals ys its') (hz:ys.length≤sizeLine) :
  Inv X pins σ (upd H l (.lst ys)) { s with heap:=s.heap.update l (Obj.mapSeq f),toks:=t' }:=by
 have q:=PySem.IsL.update e f;rw [hf] at q;refine I.write (x:=l) (e:=l) (by rw [hH];exact trivial) (.inl rfl) (fun b' u hb hu=>(Yr s.heap (Obj.mapSeq f) (Ne.symm hb)).trans hu) ⟨_,q⟩ ?_;exact ⟨hz,its',_,hv,q⟩
theorem Inv.lnew {its:List Value}{t':Nat} (I:Inv X pins σ H s) (hv:Vals ys its) (hz:ys.length≤sizeLine) :
  Inv X pins σ (upd H s.heap.objs.size (.lst ys)) { s with heap:=s.heap.push { cls:=.type "list",data:=.seq its.toArray },toks:=t' } :=
 I.laid (fun _ _ q=>Z2 _ q) (Z5 _) ⟨hz,its,0,hv,Ze _ rfl⟩
theorem Inv.fresh (I:Inv X pins σ H s):H s.heap.objs.size=none:=I.hok.fresh (Z5 _)
theorem Inv.lstM (I:Inv X pins σ H s) (hH:H l=some (.lst xs)):xs.length≤sizeLine∧∃ (its:List Value) (n:Nat),Vals xs its∧xs.length=its.length∧s.heap.get? l=some { cls:=.type "list",data:=.seq its.toArray n }:=by
 obtain ⟨z,its,n,r,e⟩:=I.hok l _ hH;exact ⟨z,its,n,r,r.length,e⟩
theorem notLongL {n:Nat} (h:n≤sizeLine):Builtin.List.listTooLong n=false:=by
 unfold Builtin.List.listTooLong;exact decide_eq_false (by omega)
end
section
variable {X:Cx}
noncomputable def rAppend:V→List V→Hp→VK→Prop:=fun x vs H Q=>∃ l xs y,x=.ref l∧vs=[y]∧H l=some (.lst xs)∧xs.length < sizeLine∧Q .non (upd H l (.lst (xs++[y])))
theorem zCk:MtM X "list.append" rAppend:=by
 intro pins s σ H x vs v us Q I rx rv h;obtain ⟨l,xs,y,rfl,rfl,hH,hz,q⟩:=h;cases rx;obtain ⟨u,rfl,ru⟩:=rv.one;obtain ⟨z,its,n,r,hl,e⟩:=I.lstM hH;refine call_meets F.slot_list_append ⟨_,e,rfl⟩ F.entry_list_append (F.args_list_append_2 _ _) (PySem.list_append l its.toArray n u (by rw [Zc];omega)) ⟨e,?_⟩;refine ⟨.non,_,I.lset (its':=its++[u]) hH e (by simp) (r.append (.cons ru .nil)) ?_,rfl,q⟩;rw [Z7,List.length_singleton];omega
noncomputable def rExtend:V→List V→Hp→VK→Prop:=fun x vs H Q=>∃ l b xs zs,x=.ref l∧vs=[.ref b]∧H l=some (.lst xs)∧H b=some (.lst zs)∧xs.length + zs.length≤sizeLine∧Q .non (upd H l (.lst (xs++zs)))
theorem mt_extend:MtM X "list.extend" rExtend:=by
 intro pins s σ H x vs v us Q I rx rv h;obtain ⟨l,b,xs,zs,rfl,rfl,hH,hB,hz,q⟩:=h;cases rx;obtain ⟨u,rfl,ru⟩:=rv.one;cases ru;obtain ⟨z,its,n,r,hl,e⟩:=I.lstM hH;obtain ⟨z2,its2,n2,r2,hl2,e2⟩:=I.lstM hB;have hsz:its.toArray.size + its2.toArray.size≤sizeLine:=by rw [Zc,Zc];omega
 have hlong:¬ (!its.toArray.isEmpty && Builtin.List.listTooLong (its.toArray.size + its2.toArray.size))=true:=by
  rw [notLongL hsz,Y4];exact Zi
 refine call_meets F.slot_list_extend ⟨_,e,rfl⟩ F.entry_list_extend (F.args_list_extend_2 _ _)
  (AutoSeq1.list_extend_list_list_0 l its.toArray n b its2.toArray n2 hlong (by rw [Zc];omega) (by omega)) ⟨e,e2,?_⟩
 refine ⟨.non,_,I.lset (its':=its++its2) hH e (by simp) (r.append r2) ?_,rfl,q⟩;rw [Z7];omega
noncomputable def rPopAt:V→List V→Hp→VK→Prop:=fun x vs H Q=>∃ l xs i k y,x=.ref l∧vs=[.int i]∧H l=some (.lst xs)∧-(2 ^ 63)≤i∧i < 2 ^ 63∧seqIndex? i xs.length=some k∧xs[k]? = some y∧Q y (upd H l (.lst (xs.eraseIdx k)))
theorem mt_popAt:MtM X "list.pop" rPopAt:=by
 intro pins s σ H x vs v us Q I rx rv h;obtain ⟨l,xs,i,k,y,rfl,rfl,hH,h1,h2,hk,hy,q⟩:=h;cases rx;obtain ⟨u,rfl,ru⟩:=rv.one;obtain ⟨t,rfl⟩:=ru;obtain ⟨z,its,n,r,hl,e⟩:=I.lstM hH;obtain ⟨w,hw,rw'⟩:=r.get hy;refine call_meets F.slot_list_pop ⟨_,e,rfl⟩ F.entry_list_pop (F.args_list_pop_2 _ _)
  (MeetsSeq.list_pop_at l its.toArray n i t k w (fitsIndex_both h1 h2) (by rw [Zc,← hl];exact hk) (by rw [← Yj];exact hw) (by rw [Zc];omega)) ⟨e,?_⟩
 refine ⟨y,_,I.lset (its':=its.eraseIdx k) hH e ?_ (r.eraseIdx k) ?_,rw',q⟩
 ·show its.toArray.eraseIdxIfInBounds k=(its.eraseIdx k).toArray;rw [List.eraseIdxIfInBounds_toArray]
 ·have:=len_erase xs k;omega
noncomputable def rCat:R2:=fun x y H Q=>∃ l b xs zs,x=.ref l∧y=.ref b∧H l=some (.lst xs)∧H b=some (.lst zs)∧xs.length + zs.length≤sizeLine∧∀ p,H p=none→Q (.ref p) (upd H p (.lst (xs++zs)))
theorem zCi:OpR X (binaryOp .Add) rCat:=by
 intro pins s σ H x y v u Q I rx ry h;obtain ⟨l,b,xs,zs,rfl,rfl,hH,hB,hz,q⟩:=h;cases rx;cases ry;obtain ⟨z,its,n,r,hl,e⟩:=I.lstM hH;obtain ⟨z2,its2,n2,r2,hl2,e2⟩:=I.lstM hB;refine PySem.P.add_list e e2 ?_ (by rw [Zc,Zc];omega);have ea:its.toArray++its2.toArray=(its++its2).toArray:=by simp
 rw [ea];exact ⟨.ref _,_,I.lnew (t':=s.toks) (r.append r2) (by rw [Z7];omega),rfl,q _ I.fresh⟩
noncomputable def rRep:R2:=fun x y H Q=>∃ l k xs,x=.ref l∧y=.int k∧H l=some (.lst xs)∧-(2 ^ 63)≤k∧k < 2 ^ 63∧xs.length * k.toNat≤sizeLine ∧
 ∀ p,H p=none→Q (.ref p) (upd H p (.lst (List.replicate k.toNat xs).flatten))
theorem len_rep {α : Type} (xs:List α) (k:Nat):(List.replicate k xs).flatten.length=k * xs.length:=by
 induction k with
 | zero=>simp
 | succ k ih=>rw [Y6,Yy,Z7,ih,Ys,Nat.add_comm]
theorem op_rep:OpR X (binaryOp .Mult) rRep:=by
 intro pins s σ H x y v u Q I rx ry h;obtain ⟨l,k,xs,rfl,rfl,hH,h1,h2,hz,q⟩:=h;cases rx;obtain ⟨t,rfl⟩:=ry;obtain ⟨z,its,n,r,hl,e⟩:=I.lstM hH;have hlen:its.toArray.size * k.toNat≤sizeLine:=by rw [Zc,← hl];exact hz
 have hcap:¬ its.toArray.size * k.toNat > (2 ^ 63 - 1) / 8:=by
  have:(sizeLine:Nat)≤(2 ^ 63 - 1) / 8:=by decide
  omega
 have hfit:¬ (!Builtin.List.listFitsIndex k)=true:=by
  rw [fitsIndex_both h1 h2];exact Zi
 have hlong:¬ Builtin.List.listTooLong (its.toArray.size * k.toNat)=true:=by
  rw [notLongL hlen];exact Zi
 have hnew:List.foldl (fun x1 x2=>x1++x2) #[] (List.replicate (if its.toArray.isEmpty=true then 0 else k.toNat) its.toArray)=(List.replicate k.toNat its).flatten.toArray:=by
  have f0:∀ m:Nat,List.foldl (fun x1 x2=>x1++x2) #[] (List.replicate m its.toArray)=(List.replicate m its).flatten.toArray:=fun m=>by
   have:=foldl_rep its m [];rw [List.nil_append] at this;exact this
  rw [f0];cases its with
  | nil=>simp
  | cons a r'=>rw [if_neg (by simp)]
 refine wpAny_binaryOp_repeat_ref (T:="list") (U:="int") (by decide) ⟨_,e,rfl⟩ (fun s'=>typeIs_int s' k t) noFill_list_mul F.fills_int_mul F.slot_int_rmul repeat_list F.slot_int_index.lookup
  (call_meets F.slot_int_rmul (typeIs_int s k t) F.entry_int_rmul (F.args_int_rmul_2 _ _) (int___rmul___int_list k t l its.toArray n)
   ⟨e,rfl,⟨_,e,rfl⟩,call_meets F.slot_list_mul ⟨_,e,rfl⟩ F.entry_list_mul (F.args_list_mul_2 _ _) (AutoListH.list___mul___list_int_3 l its.toArray n k t hfit hcap hlong) ⟨e,?_⟩⟩)
 rw [hnew];exact ⟨.ref _,_,I.lnew (t':=s.toks) (r.rep k.toNat) (by rw [len_rep,Nat.mul_comm];exact hz),rfl,q _ I.fresh⟩
end
section
variable {prog:Program}{w:World}{A:Around}{E:Value→Shared→Prop}{s:Shared}
set_option maxRecDepth 100000 in
end
section
variable {X:Cx}
end
end L2
namespace Att
open PySem PySem.W PySem.Calls PyProof.Rows
theorem zF2 {P:Params}{h:Heap}:∀ (ns:List Int) (vs:List Value),WellAll P h vs (ns.map WData.int)→IntsAre vs ns:=by
 intro ns
 induction ns with
 | nil =>
  intro vs w;rw [List.map_nil] at w;cases w;exact .nil
 | cons n ns ih =>
  intro vs w;rw [Z8] at w;cases w with
  | cons a b =>
   cases a;exact .cons _ _ (ih _ b)
theorem script_of {l:OpenLaw}{n:Nat} (hn:l.most=some n) {P:Params}{h:Heap}{args:List WData}{vals:List Value}
  (hpre:l.row.toRowW.claim.pre args=true) (hwl:WellAll P h vals args) :
  ∃ a vs ns,vals=[Value.ref a]∧args=[WData.list (ns.map WData.int)]∧h.get? a=some { cls:=.type "list",data:=.seq vs.toArray }∧IntsAre vs ns∧ns.length≤n:=by
 have hsh:WShape.hasAll [] args [.list .int]=true:=(pre_splitW hpre).1;have hc:l.pre.holds [] { args:=args }=true:=(pre_splitW hpre).2;obtain ⟨d,r,rfl,h1,h2⟩:=hasAllW_cons hsh;obtain rfl:=hasAllW_nil h2;obtain ⟨xs,rfl,h3⟩:=hasW_list h1;obtain ⟨ns,rfl⟩:=items_int h3;have hlen:ns.length≤n:=by
  unfold OpenLaw.pre at hc;have h4:(WTm.not (.lt (.lit (.int (n:Int))) (.len (.arg 0)))).holds [] { args:=[.list (ns.map .int)] }=true:=by
   have h4:=(holds_andW hc).1;rw [hn] at h4;exact h4
  have h5:=condW_of h4 (w_not (w_lt w_lit (w_len_list (w_arg rfl))));rw [Z0] at h5;refine Nat.le_of_not_lt fun q=>?_;have q':(n:Int) < ((ns.length:Nat):Int):=by omega
  first
   | (rw [decide_eq_true q'] at h5;exact absurd h5 (by decide))
   | (simp at h5;omega)
 cases hwl with
 | cons w1 w2 =>
  cases w2;cases w1 with
  | list ho hall=>exact ⟨_,_,ns,rfl,rfl,ho,zF2 ns _ hall,hlen⟩
theorem post_true (l:OpenLaw) (args:List WData):l.row.toRowW.claim.post args (.bool true) args=true :=
 postW_of (r:=l.row.toRowW) (X:=(true == true))
  (show WShape.has [] (.bool true) .bool=true by first | rfl | decide | simp [WShape.has,WShape.arms,WShape.armsAll])
  (show (WTm.eq .res (.lit (.bool true))).value [] { args:=args,res:=some (.bool true),after:=args }=some (.bool (true == true)) from w_eq_bool (w_res rfl) w_lit) rfl
theorem attach_call {l:OpenLaw}{n:Nat}{q:Program}{loose:List Str}{XP:(Str→Option Value)→Heap→Prop}{YP:World→Heap→Prop}{d:DefRec}
  (hn:l.most=some n) (hdf:d.params.defaults=[])
  (call:∀ (w:World) (s₀ s₁ : Shared) (mg mb:Str→Option Value) (fa:Addr) (o:Obj) (pm cd doc:Value) (a:Addr) (vs:List Value) (ns:List Int),
   Ground q loose [] XP w s₀ mg mb s₁.heap→YP w s₁.heap →
   s₁.heap.get? fa=some o→o.data=.func (docDef d.name d.params d.body d.scope pm cd doc)→s₁.heap.CodeRec cd d.name→mg d.name=some (.ref fa) →
   s₁.heap.get? a=some { cls:=.type "list",data:=.seq vs.toArray }→IntsAre vs ns→ns.length≤n→s₁.gens = #[] →
   codeAny (model l.prog w) callerA (.call (.ref fa) ⟨[.ref a],[]⟩) (fun r s'=>r=.ok (.ret (.bool true))∧OldK s₁.heap s'.heap∧s'.os=s₁.os∧AllBare s'.gens) s₁) :
  WalkO q loose XP YP l.row.toRowW d [] (fun f vs=>PySem.call f vs):=by
 intro w s₀ s₁ mg mb G Y fa o pm cd doc dV kV ho hd hcd hD hmg hg args vals as hpre hlay hrd hwl hlo;obtain rfl:dV=.none:=Dflts.none hD hdf;obtain rfl:kV=.none:=Dflts.noKw hD;obtain ⟨a,vs,ns,rfl,rfl,hobj,hints,hlen⟩:=script_of hn hpre hwl;refine enter_call (codeAny_mono (call w s₀ s₁ mg mb fa o pm cd doc a vs ns G Y ho (fd_plain hd) hcd hmg hobj hints hlen hg) fun r s' hq=>?_);obtain ⟨rfl,h2,h3,h4⟩:=hq;exact ⟨.inl ⟨.bool true,.bool true,[],rfl,fun _=>rfl,.bool true,post_true l _,fun _=>⟨List.Pairwise.nil,fun _ hm=>(nomatch hm)⟩⟩,h2,h3,h4⟩
section
variable {prog:Program}{w:World}{A:Around}{E:Value→Shared→Prop}{s:Shared}{K:Frag}
noncomputable def ledger (h:Heap) (L d:Addr):List (Addr×Obj):=(List.range h.objs.size).filterMap fun a=>if a=L∨a=d then none else (h.get? a).map fun o=>(a,o)
end
end Att
namespace L2
open PySem PySem.Spec PyProof.Rows
theorem vals_ints:∀ {vs:List Value}{ns:List Int},IntsAre vs ns→Vals (ns.map V.int) vs
 | _,_,.nil=>.nil
 | _,_,.cons n t h=>.cons ⟨t,rfl⟩ (vals_ints h)
end L2
namespace L2
open PySem PySem.Spec PyProof.Rows
noncomputable abbrev KOf {K:PySem.W.Frag}{h:Heap} (_:K.In h):PySem.W.Frag:=K
end L2
namespace L2
open PySem PySem.Spec PyProof.Rows
noncomputable def inClass (s:Stmt) (j:Nat):Stmt:=match s with
 | .ClassDef _ _ _ body _ _ _ _ _ _ _=>body.getD j (.Pass ⟨0,0,0,0⟩)
 | _=>.Pass ⟨0,0,0,0⟩
noncomputable def defArgs (s:Stmt):Arguments:=match s with
 | .FunctionDef _ a _ _ _ _ _ _ _ _=>a
 | _=>{ posonlyargs:=[],args:=[],vararg:=none,kwonlyargs:=[],kw_defaults:=[],kwarg:=none,defaults:=[] }
noncomputable def defBody (s:Stmt):List Stmt:=match s with
 | .FunctionDef _ _ b _ _ _ _ _ _ _=>b
 | _=>[]
noncomputable def defScope (s:Stmt):Scope:=match s with
 | .FunctionDef _ _ _ _ _ _ sc _ _ _=>sc
 | _=>{ kind:=.function,names:=[],isGenerator:=false,isCoroutine:=false }
noncomputable abbrev CX0:CXT:=fun _ _ _ _ _ _=>False
noncomputable abbrev E0:St→XK:=fun _ _ _ _=>False
structure Fun (K:PySem.W.Frag) (x qual:Str) (st:Stmt) (f:Addr) (fd:FuncData):Prop where
 ex:∃ (oc:Value) (od:Option Addr) (kV doc pm:Value) (an:Option Addr) (cdv ct:Value) (osl:Array (Option Value)),
  fd=PySem.W.fnOf x qual (defArgs st) (defBody st) (defScope st) .none kV doc pm an cdv ct∧K.lookup f=some ⟨oc,od,.func fd,osl⟩∧PySem.W.codeIn K cdv qual=true
 kp:PySem.W.keepIn K (.ref f)=true
section
variable {P:Program}{w:World}{K:PySem.W.Frag}{mg:Str→Option Value}{base:Heap}
theorem Fun.ok {x qual:Str}{st:Stmt}{f:Addr}{fd:FuncData}{N ps:List Str}{k:Nat}{sp:Sp} (F:Fun K x qual st f fd) (S:FnScope N ps (defScope st)) (len:∀ vs H Q E,sp vs H Q E→vs.length=ps.length)
  (hbody:∀ (cdv:Value) (A:Around) (outer:List Env) (s:Shared) (H:Hp) (vs:List V) (Q:VK) (E:XK),Room k (A.deeper (envOfC qual (defScope st) s.heap.objs.size f cdv))→sp vs H Q E →
   ∃ t,PSs (cxOf CX0 P w K mg base N qual (defScope st) f cdv A outer s H E).nox (defBody st) t∧t { nx:=fun _ H'=>Q .non H',rt:=Q } (start N vs) H):FnOk P w K mg base CX0 (k + 1) f fd ps sp:=by
 obtain ⟨oc,od,kV,doc,pm,an,cdv,ct,osl,rfl,lk,hcd⟩:=F.ex;refine fn_of lk hcd S len fun A outer s H vs Q E hr hsp=>?_;obtain ⟨t,h,q⟩:=hbody cdv A outer s H vs Q E hr hsp;exact ⟨t,h.nox,q⟩
theorem Fun.binds {x qual:Str}{st:Stmt}{f:Addr}{fd:FuncData}{ps:List Str} (F:Fun K x qual st f fd)
  (h:∀ (kV doc pm:Value) (an:Option Addr) (cdv ct:Value) (us:List Value),us.length=ps.length→bindArgs (PySem.W.fnOf x qual (defArgs st) (defBody st) (defScope st) .none kV doc pm an cdv ct) ⟨us,[]⟩=pure (ps.zip us)):Binds K fd ps []:=by
 obtain ⟨oc,od,kV,doc,pm,an,cdv,ct,osl,rfl,lk,hcd⟩:=F.ex;exact .all (h kV doc pm an cdv ct)
theorem fun_mk {x qual:Str}{st:Stmt}{f:Addr}{oc:Value}{od an:Option Addr}{osl:Array (Option Value)}{kV doc pm cdv ct:Value} (l:K.lookup f=some ⟨oc,od,.func (PySem.W.fnOf x qual (defArgs st) (defBody st) (defScope st) .none kV doc pm an cdv ct),osl⟩)
  (c:PySem.W.codeIn K cdv qual=true) (k:PySem.W.keepIn K (.ref f)=true):Fun K x qual st f (PySem.W.fnOf x qual (defArgs st) (defBody st) (defScope st) .none kV doc pm an cdv ct):=⟨⟨oc,od,kV,doc,pm,an,cdv,ct,osl,rfl,l,c⟩,k⟩
end
theorem hu_of {A:Around}{k:Nat} (hr:Room k A):A.units + 1 < cLine:=Yi (Nat.add_le_add_left (by decide:1≤64) _) hr.units
theorem small1000 {n:Nat} (h:n≤1000):n < sizeLine:=Yi h (by decide)
section
variable {X:Cx}
theorem pv (i:Nat) {x:Str}{pos:Pos} (hN:X.N[i]? = some x:=by rfl) (hv:Vis X.env.scope x:=by first | exact Or.inl rfl | exact Or.inr (Or.inl rfl) | exact Or.inr (Or.inr rfl)) (hd:(x == ("__debug__" : Str))=false:=by decide)
  (hcd:(x == ("__classdict__" : Str))=false:=by decide):PE X (.Name x pos) (tVar i):=pe_var hN hv hd hcd
end
theorem iteF {A B:Prop} (h:B):if false=true then A else B:=by
 rw [if_neg Zi];exact h
theorem iteT {A B:Prop} (h:A):if true=true then A else B:=by
 rw [if_pos rfl];exact h
theorem ite2 {c A B:Prop} [Decidable c] (h1:c→A) (h2:¬ c→B):if c then A else B:=by
 by_cases h:c
 ·rw [if_pos h];exact h1 h
 ·rw [if_neg h];exact h2 h
noncomputable def Same (H H':Hp):Prop:=∀ b o,H b=some o→H' b=some o
theorem Same.refl (H:Hp):Same H H:=fun _ _ h=>h
theorem Same.trans {H H1 H2:Hp} (a:Same H H1) (b:Same H1 H2):Same H H2:=fun c o h=>b c o (a c o h)
theorem Same.free {H H':Hp} (e:Same H H') {l:Addr} (h:H' l=Option.none):H l=Option.none:=by
 cases q:H l with
 | none=>rfl
 | some o =>
  rw [e l o q] at h;cases h
end L2
namespace L2
open PySem PySem.Spec PyProof.Rows
section
variable {κ : Type} [DecidableEq κ]
noncomputable def valV (kvs:List (κ×V)) (k : κ):Option V:=(kvs.find? fun kv=>decide (kv.1=k)).map (·.2)
noncomputable def putK (kvs:List (κ×V)) (k : κ) (v:V):List (κ×V) :=
 if (kvs.any fun kv=>decide (kv.1=k))=true then kvs.map (fun kv=>if kv.1=k then (kv.1,v) else kv) else kvs++[(k,v)]
theorem zBb {p : κ×V}{r:List (κ×V)}{k : κ} (e:p.1=k):valV (p :: r) k=some p.2:=by simp [valV,Yg,e]
theorem zB0 {p : κ×V}{r:List (κ×V)}{k : κ} (e:¬ p.1=k):valV (p :: r) k=valV r k:=by simp [valV,Yg,e]
theorem zEc (k : κ):∀ kvs:List (κ×V),(kvs.any fun kv=>decide (kv.1=k))=(valV kvs k).isSome
 | []=>rfl
 | p :: r=>by
  rw [Xe];by_cases e:p.1=k
  ·simp only [zBb e,decide_eq_true e,Bool.true_or,Option.isSome_some]
  ·rw [zB0 e,decide_eq_false e,Bool.false_or];exact zEc k r
theorem zD3 (kvs:List (κ×V)) (k : κ) (v:V):(putK kvs k v).length≤kvs.length + 1:=by
 unfold putK;split
 ·rw [Z0];omega
 ·rw [Z7,Zj,Xh];omega
theorem zEd {kvs:List (κ×V)}{k : κ} (v:V) (h:valV kvs k=none):putK kvs k v=kvs++[(k,v)]:=by
 unfold putK;rw [zEc,h];exact if_neg (by decide)
theorem RelO.isSome_eq {o:Option V}{u:Option Value} (r:RelO o u):o.isSome=u.isSome:=by
 cases o with
 | none=>cases u with
  | none=>rfl
  | some _=>exact (show False from r).elim
 | some _=>cases u with
  | none=>exact (show False from r).elim
  | some _=>rfl
theorem RelO.getD {o:Option V}{u:Option Value}{d:V}{d':Value} (r:RelO o u) (rd:RelV d d'):RelV (o.getD d) (u.getD d'):=by
 cases o with
 | none=>cases u with
  | none=>exact rd
  | some _=>exact (show False from r).elim
 | some _=>cases u with
  | none=>exact (show False from r).elim
  | some _=>exact r
theorem KV.val {kvs:List (κ×V)}{vs:List (κ×Value)} (r:KV kvs vs) (k : κ):RelO (valV kvs k) (valueAt vs k):=by
 unfold KV at r
 induction r with
 | nil=>exact True.intro
 | @cons p q ps qs h t ih =>
  obtain ⟨h1,h2⟩:=h;by_cases e:p.1=k
  ·have e':q.1=k:=h1.symm.trans e;have b:valueAt (q :: qs) k=some q.2:=by simp [valueAt,Yg,e']
   rw [zBb e,b];exact h2
  ·have e':¬ q.1=k:=fun z=>e (h1.trans z);have b:valueAt (q :: qs) k=valueAt qs k:=by simp [valueAt,Yg,e']
   rw [zB0 e,b];exact ih
theorem KV.any {kvs:List (κ×V)}{vs:List (κ×Value)} (r:KV kvs vs) (k : κ):(kvs.any fun kv=>decide (kv.1=k))=vs.any fun kv=>decide (kv.1=k):=by
 unfold KV at r
 induction r with
 | nil=>rfl
 | cons h t ih=>rw [Xe,Xe,ih,h.1]
theorem KV.repl {kvs:List (κ×V)}{vs:List (κ×Value)} (r:KV kvs vs) (k : κ) {y:V}{u:Value} (ry:RelV y u) :
  KV (kvs.map fun kv=>if kv.1=k then (kv.1,y) else kv) (vs.map fun kv=>if kv.1=k then (kv.1,u) else kv):=by
 unfold KV at r ⊢
 induction r with
 | nil=>exact .nil
 | @cons p q ps qs h t ih =>
  rw [Z8,Z8];refine .cons ?_ ih;obtain ⟨h1,h2⟩:=h;by_cases e:p.1=k
  ·rw [if_pos e,if_pos (h1.symm.trans e)];exact ⟨h1,ry⟩
  ·rw [if_neg e,if_neg (fun z=>e (h1.trans z))];exact ⟨h1,h2⟩
theorem KV.put {kvs:List (κ×V)}{vs:List (κ×Value)} (r:KV kvs vs) (k : κ) {y:V}{u:Value} (ry:RelV y u):KV (putK kvs k y) (stored vs k u):=by
 unfold putK stored;rw [r.any k];by_cases e:(vs.any fun kv=>decide (kv.1=k))=true
 ·rw [if_pos e,if_pos e];exact r.repl k ry
 ·rw [if_neg e,if_neg e];exact Paired.snoc r ⟨rfl,ry⟩
theorem KV.length {kvs:List (κ×V)}{vs:List (κ×Value)} (r:KV kvs vs):kvs.length=vs.length:=Paired.length r
end
theorem kV_is {P:Program}{w:World}{k:Key}{u:Value} (r:RelV (kV k) u):(mixKind P w).is k u=true:=by
 cases k with
 | inl i=>obtain ⟨t,e⟩:=(show ∃ t,u=Value.int i t from r);subst e;exact mixKind_int P w i t
 | inr x=>obtain ⟨t,e⟩:=(show ∃ t,u=Value.str x t from r);subst e;exact mixKind_str P w x t
theorem items_are {P:Program}{w:World}:∀ {ks:List Key}{us:List Value},Vals (ks.map kV) us→ItemsAre (mixKind P w) ks us
 | [],_,r=>by rw [List.map_nil] at r;cases r;exact .nil
 | k :: ks,_,r=>by
  rw [Z8] at r;cases r with
  | cons h t=>exact .cons (kV_is h) (items_are t)
noncomputable abbrev KT (H:Hp):List (List Key×V)→List (List Key×Addr×Value)→Prop:=Paired fun p q=>p.1=q.1∧H q.2.1=some (.tup (p.1.map kV))∧RelV p.2 q.2.2
theorem KT.val {H:Hp}{kvs:List (List Key×V)}{xs:List (List Key×Addr×Value)} (r:KT H kvs xs) (k:List Key):RelO (valV kvs k) ((atKey xs k).map (·.2)):=by
 induction r with
 | nil=>exact True.intro
 | @cons p q ps qs h t ih =>
  obtain ⟨h1,_,h2⟩:=h;by_cases e:p.1=k
  ·have e':q.1=k:=h1.symm.trans e;have b:atKey (q :: qs) k=some q.2:=by simp [atKey,Yg,e']
   rw [zBb e,b];exact h2
  ·have e':¬ q.1=k:=fun z=>e (h1.trans z);have b:atKey (q :: qs) k=atKey qs k:=by simp [atKey,Yg,e']
   rw [zB0 e,b];exact ih
theorem KT.repl {H:Hp}{kvs:List (List Key×V)}{xs:List (List Key×Addr×Value)} (r:KT H kvs xs) (k:List Key) {y:V}{u:Value} (ry:RelV y u) :
  KT H (kvs.map fun kv=>if kv.1=k then (kv.1,y) else kv) (xs.map (putAt k u)):=by
 induction r with
 | nil=>exact .nil
 | @cons p q ps qs h t ih =>
  rw [Z8,Z8];refine .cons ?_ ih;obtain ⟨h1,h2,h3⟩:=h;unfold putAt;by_cases e:p.1=k
  ·rw [if_pos e,if_pos (h1.symm.trans e)];exact ⟨h1,h2,ry⟩
  ·rw [if_neg e,if_neg (fun z=>e (h1.trans z))];exact ⟨h1,h2,h3⟩
theorem KT.put {H:Hp}{kvs:List (List Key×V)}{xs:List (List Key×Addr×Value)} (r:KT H kvs xs) (k:List Key) {b:Addr}{y:V}{u:Value} (hb:H b=some (.tup (k.map kV))) (ry:RelV y u) :
  KT H (putK kvs k y) (storedH xs k b u):=by
 have e:(kvs.any fun kv=>decide (kv.1=k))=(atKey xs k).isSome:=by
  rw [zEc,(r.val k).isSome_eq,Option.isSome_map]
 unfold putK storedH;rw [e];by_cases q:(atKey xs k).isSome=true
 ·rw [if_pos q,if_pos q];exact r.repl k ry
 ·rw [if_neg q,if_neg q];exact Paired.snoc r ⟨rfl,hb,ry⟩
theorem KT.keeps {H H':Hp}{kvs:List (List Key×V)}{xs:List (List Key×Addr×Value)} (r:KT H kvs xs) (ht:∀ b ys,H b=some (.tup ys)→H' b=some (.tup ys)):KT H' kvs xs :=
 Paired.mapP r fun _ _ z=>⟨z.1,ht _ _ z.2.1,z.2.2⟩
section
variable {P:Program}{w:World}{H:Hp}{h:Heap}{a:Addr}
theorem rd_of {u:HO} (ok:HOk P w H h) (e:Rd H a u):ObjOk P w H h a u:=e.ok ok
theorem zEa {kvs:List (Key×V)} (ok:HOk P w H h) (e:Rd H a (.dK kvs)):kvs.length≤sizeLine∧(a == sysModules)=false∧∃ vs,KV kvs vs∧h.DictOf (mixKind P w) a vs :=
 show ObjOk P w H h a (.dK kvs) from rd_of ok e
theorem dk_of {kvs:List (Key×V)} (ok:HOk P w H h) (e:H a=some (.dK kvs)):kvs.length≤sizeLine∧(a == sysModules)=false∧∃ vs,KV kvs vs∧h.DictOf (mixKind P w) a vs:=zEa ok (.inl e)
theorem zFn {ks:List Key} (ok:HOk P w H h) (e:H a=some (.tup (ks.map kV))):(tupleKind (mixKind P w)).is h ks a:=by
 obtain ⟨_,its,r,o,h1,h2,n,h3⟩:=(show ObjOk P w H h a (.tup (ks.map kV)) from ok a _ e);exact ⟨o,its.toArray,n,h1,h2,h3,by simpa using items_are r⟩
theorem dt_rd {kvs:List (List Key×V)} (ok:HOk P w H h) (e:Rd H a (.dT kvs)):kvs.length≤sizeLine∧(a == sysModules)=false ∧
  ∃ xs,KT H kvs xs∧h.DictOfH (tupleKind (mixKind P w)) a xs:=by
 obtain ⟨z,y,xs,r,o,es,ep,h1,h2,h3,h4,h5⟩:=(show ObjOk P w H h a (.dT kvs) from rd_of ok e);refine ⟨z,y,xs,r,o,es,ep,h1,h2,h3,h4,fun x hx=>?_,h5⟩;have all:∀ {l:List (List Key×V)}{m:List (List Key×Addr×Value)},KT H l m→∀ x∈m,(tupleKind (mixKind P w)).is h x.1 x.2.1:=by
  intro l m q
  induction q with
  | nil=>intro x hx;exact nomatch hx
  | @cons p q ps qs hq t ih =>
   intro x hx;rcases List.mem_cons.mp hx with e | hx
   ·subst e;exact zFn ok (by rw [← hq.1];exact hq.2.1)
   ·exact ih x hx
 exact all r x hx
theorem dt_of {kvs:List (List Key×V)} (ok:HOk P w H h) (e:H a=some (.dT kvs)):kvs.length≤sizeLine∧(a == sysModules)=false ∧
  ∃ xs,KT H kvs xs∧h.DictOfH (tupleKind (mixKind P w)) a xs:=dt_rd ok (.inl e)
end
noncomputable def DGet (H:Hp) (a:Addr) (y:V) (r:Option V):Prop :=
 (∃ kvs k,Rd H a (.dK kvs)∧y=kV k∧r=valV kvs k)∨∃ kvs k b,Rd H a (.dT kvs)∧y=.ref b∧H b=some (.tup (k.map kV))∧r=valV kvs k
noncomputable def DPut (H:Hp) (a:Addr) (y v:V) (H':Hp):Prop :=
 (∃ kvs k,H a=some (.dK kvs)∧y=kV k∧kvs.length < sizeLine∧H'=upd H a (.dK (putK kvs k v))) ∨
 ∃ kvs k b,H a=some (.dT kvs)∧y=.ref b∧H b=some (.tup (k.map kV))∧kvs.length < sizeLine∧H'=upd H a (.dT (putK kvs k v))
theorem DGet.k {H:Hp}{a:Addr}{kvs:List (Key×V)}{k:Key} (e:H a=some (.dK kvs)):DGet H a (kV k) (valV kvs k):=.inl ⟨kvs,k,.inl e,rfl,rfl⟩
theorem DGet.t {H:Hp}{a b:Addr}{kvs:List (List Key×V)}{k:List Key} (e:H a=some (.dT kvs)) (eb:H b=some (.tup (k.map kV))):DGet H a (.ref b) (valV kvs k):=.inr ⟨kvs,k,b,.inl e,rfl,eb,rfl⟩
theorem DPut.k {H:Hp}{a:Addr}{kvs:List (Key×V)}{k:Key}{v:V} (e:H a=some (.dK kvs)) (hl:kvs.length < sizeLine):DPut H a (kV k) v (upd H a (.dK (putK kvs k v))):=.inl ⟨kvs,k,e,rfl,hl,rfl⟩
theorem DPut.t {H:Hp}{a b:Addr}{kvs:List (List Key×V)}{k:List Key}{v:V} (e:H a=some (.dT kvs)) (eb:H b=some (.tup (k.map kV))) (hl:kvs.length < sizeLine) :
  DPut H a (.ref b) v (upd H a (.dT (putK kvs k v))):=.inr ⟨kvs,k,b,e,rfl,eb,hl,rfl⟩
section
variable {X:Cx}{pins:List (Addr×Obj)}{σ : St}{H:Hp}{s:Shared}{a:Addr}{y v:V}{u r:Value}{o:Option V}{A:Around}{E:Value→Shared→Prop}
theorem Inv.big (I:Inv X pins σ H s):sysModules < s.heap.objs.size:=by
 have h:mainGlobals < s.heap.objs.size:=(I.mod.glob.keeps I.bk).lt;exact Nat.lt_trans (by decide) h
theorem d_getItem {Q:Value→Shared→Prop} (hu:A.units + 1 < cLine) (I:Inv X pins σ H s) (g:DGet H a y (some v)) (ry:RelV y u) (h:∀ w' s',Inv X pins σ H s'→RelV v w'→Q w' s') :
  wpAny (model X.prog X.w) A (getItem (.ref a) u) Q E s:=by
 rcases g with ⟨kvs,k,e,ey,l⟩ | ⟨kvs,k,b,e,ey,eb,l⟩
 ·subst ey;obtain ⟨z,hd,vs,rel,dd⟩:=zEa I.hok e;obtain ⟨w',hw,rw'⟩:=RelO.some_of (v:=v) (o:=valueAt vs k) (by rw [l];exact rel.val k);exact wpAny_getItem_of (kV_is ry) dd.mapOf hw (h w' _ (I.tok _) rw')
 ·subst ey;cases (show u=Value.ref b from ry);obtain ⟨z,hd,xs,rel,dd⟩:=dt_rd I.hok e;obtain ⟨w',hw,rw'⟩:=RelO.some_of (v:=v) (o:=(atKey xs k).map (·.2)) (by rw [l];exact rel.val k);obtain ⟨p,hp,hp2⟩:=Option.map_eq_some_iff.mp hw;refine wpAny_getItem_heap (tupleKind_room_in1 hu) (zFn I.hok eb) dd hp ?_;rw [hp2];exact h w' _ (I.tok _) rw'
theorem d_in {Q:Value→Shared→Prop} (hu:A.units + 1 < cLine) (I:Inv X pins σ H s) (g:DGet H a y o) (ry:RelV y u) (h:∀ s',Inv X pins σ H s'→Q (.bool o.isSome) s') :
  wpAny (model X.prog X.w) A (compareOp .In u (.ref a)) Q E s:=by
 rcases g with ⟨kvs,k,e,ey,l⟩ | ⟨kvs,k,b,e,ey,eb,l⟩
 ·subst ey;obtain ⟨z,hd,vs,rel,dd⟩:=zEa I.hok e;refine wpAny_in_of (kV_is ry) hd dd.mapOf ?_;rw [← (rel.val k).isSome_eq,← l];exact h _ (I.tok _)
 ·subst ey;cases (show u=Value.ref b from ry);obtain ⟨z,hd,xs,rel,dd⟩:=dt_rd I.hok e;refine wpAny_in_heap (tupleKind_room_in1 hu) (zFn I.hok eb) hd dd ?_;have q:=(rel.val k).isSome_eq;rw [Option.isSome_map] at q;rw [← q,← l];exact h _ (I.tok _)
theorem d_notIn {Q:Value→Shared→Prop} (hu:A.units + 1 < cLine) (I:Inv X pins σ H s) (g:DGet H a y o) (ry:RelV y u) (h:∀ s',Inv X pins σ H s'→Q (.bool (!o.isSome)) s') :
  wpAny (model X.prog X.w) A (compareOp .NotIn u (.ref a)) Q E s:=by
 rcases g with ⟨kvs,k,e,ey,l⟩ | ⟨kvs,k,b,e,ey,eb,l⟩
 ·subst ey;obtain ⟨z,hd,vs,rel,dd⟩:=zEa I.hok e;refine wpAny_notIn_of (kV_is ry) hd dd.mapOf ?_;rw [← (rel.val k).isSome_eq,← l];exact h _ (I.tok _)
 ·subst ey;cases (show u=Value.ref b from ry);obtain ⟨z,hd,xs,rel,dd⟩:=dt_rd I.hok e;refine wpAny_notIn_heap (tupleKind_room_in1 hu) (zFn I.hok eb) hd dd ?_;have q:=(rel.val k).isSome_eq;rw [Option.isSome_map] at q;rw [← q,← l];exact h _ (I.tok _)
theorem zGr {h':Heap}{t':Nat}{ob:HO} (I:Inv X pins σ H s) (mu:Mut (H a)) (hs:Heap.SameBut a s.heap h') (he:∃ q,h'.get? a=some q) (new:ObjOk X.prog X.w (upd H a ob) h' a ob) :
  Inv X pins σ (upd H a ob) { s with heap:=h',toks:=t' } :=
 I.write (x:=a) (e:=a) mu (.inl rfl) (fun b q hb z=>(hs.2 b hb).trans z) he new
theorem dk_new {P:Program}{w:World}{H':Hp}{h':Heap}{kvs:List (Key×V)}{vs:List (Key×Value)} (z:kvs.length≤sizeLine) (hd:(a == sysModules)=false) (rel:KV kvs vs) (dd:h'.DictOf (mixKind P w) a vs) :
  ObjOk P w H' h' a (.dK kvs):=⟨z,hd,vs,rel,dd⟩
theorem d_setItem {H':Hp}{Q:Unit→Shared→Prop} (hu:A.units + 1 < cLine) (I:Inv X pins σ H s) (g:DPut H a y v H') (ry:RelV y u) (rv:RelV v r) (h:∀ s',Inv X pins σ H' s'→Q () s') :
  wpAny (model X.prog X.w) A (setItem (.ref a) u r) Q E s:=by
 rcases g with ⟨kvs,k,e,ey,l,eH⟩ | ⟨kvs,k,b,e,ey,eb,l,eH⟩
 ·subst ey eH;obtain ⟨z,hd,vs,rel,dd⟩:=dk_of I.hok e;have hz:vs.length≤sizeLine:=by rw [← rel.length];exact z
  have hl:(putK kvs k v).length≤sizeLine:=by have:=zD3 kvs k v;omega
  refine wpAny_setItem_pairs (hsz:=hz) (kV_is ry) dd fun h' dd' hs=>h _ ?_;have he:∃ q,h'.get? a=some q:=let ⟨q,_,_,hq,_⟩:=dd';⟨q,hq⟩;exact zGr I (by rw [e];exact True.intro) hs he (dk_new hl hd (rel.put k rv) dd')
 ·subst ey eH;cases (show u=Value.ref b from ry);obtain ⟨z,hd,xs,rel,dd⟩:=dt_of I.hok e;have hz:xs.length≤sizeLine:=by rw [← Paired.length rel];exact z
  have hl:(putK kvs k v).length≤sizeLine:=by have:=zD3 kvs k v;omega
  refine wpAny_setItem_heap (hsz:=hz) (tupleKind_room_in1 hu) (zFn I.hok eb) dd fun h' dd' hs=>h _ ?_;obtain ⟨q,es,ep,hq,h2,h3,h4,_,h5⟩:=dd';refine zGr I (by rw [e];exact True.intro) hs ⟨q,hq⟩ ⟨hl,hd,_,(rel.put k eb rv).keeps fun c ys ec=>?_,q,es,ep,hq,h2,h3,h4,h5⟩;rw [zA8 (zBe ec e (fun z=>nomatch z))];exact ec
end
section
variable {X:Cx}{pins:List (Addr×Obj)}{σ : St}{H:Hp}{s:Shared}{a:Addr}{kvs:List (Key×V)}{k:Key}{u:Value}{A:Around}{E:Value→Shared→Prop}
theorem d_len {Q:Value→Shared→Prop} (I:Inv X pins σ H s) (e:Rd H a (.dK kvs)) (h:∀ t s',Inv X pins σ H s'→Q (.int kvs.length t) s'):wpAny (model X.prog X.w) A (call (.builtin "len") [.ref a]) Q E s:=by
 obtain ⟨z,hd,vs,rel,dd⟩:=zEa I.hok e;refine call_len_dict hd dd (by rw [← rel.length];rw [sizeLine_eq] at z;omega) ?_;rw [← rel.length];exact h _ _ (I.tok _)
end
noncomputable def NoSl (i:Expr):Prop:=∀ ov iv,subscripted i false ov iv=operate [ov,iv] (getItem ov iv)
theorem subD_of {prog:Program}{w:World}{A:Around}{E:Value→Shared→Prop}{s:Shared}{env:Env}{value slice:Expr}{pos:Pos}{T id:String}{Q:Value→Shared→Prop}
  (hl:typeLookup (.type T) "__getitem__" = pure (some (.builtin id))) (hs:NoSl slice)
  (h:wpAny (model prog w) A (eval value env) (fun o s₁=>wpAny (model prog w) A (eval slice env) (fun i s₂=>s₂.TypeIs o T∧wpAny (model prog w) A (getItem o i) Q E s₂) E s₁) E s) :
  wpAny (model prog w) A (eval (.Subscript value slice pos) env) Q E s:=by
 refine Subscript_ (wpAny_mono h (fun o s₁ h₁=>wpAny_mono h₁ (fun i s₂ h₂=>?_) fun _ _ x=>x) fun _ _ x=>x);obtain ⟨hT,h₂⟩:=h₂;unfold subscriptTail;refine wpAny_bind ?_;rw [getitemInPython_of_ne hT.not_modules];refine wpAny_bind (wpAny_specialOf hT hl ?_);have fin:wpAny (model prog w) A (subscripted slice false o i) (fun r s₃=>wpAny (model prog w) A (letTemporaryGo value o r >>= fun _=>pure r) Q E s₃) E s₂:=by
  rw [hs o i];exact wpAny_operating (wpAny_mono h₂ (fun r s₃ h₃=>wpAny_bind (wpAny_letTemporaryGo (wpAny_pure h₃))) fun _ _ x=>x)
 first
  | exact wpAny_pure (wpAny_bind fin)
  | exact wpAny_bind (wpAny_pure (wpAny_bind fin))
  | exact wpAny_bind fin
theorem dict_typeIs {X:Cx}{pins:List (Addr×Obj)}{σ : St}{H:Hp}{s:Shared}{a:Addr}{y:V}{o:Option V} (I:Inv X pins σ H s) (g:DGet H a y o):s.TypeIs (.ref a) "dict":=by
 rcases g with ⟨kvs,k,e,_,_⟩ | ⟨kvs,k,b,e,_,_,_⟩
 ·obtain ⟨_,_,vs,_,dd⟩:=zEa I.hok e;exact dd.typeIs
 ·obtain ⟨_,_,xs,_,dd⟩:=dt_rd I.hok e;exact dd.typeIs
noncomputable def tDGet (td ty:TE):TE:=fun σ H Q=>td σ H fun x H1=>ty σ H1 fun y H2=>∃ a v,x=.ref a∧DGet H2 a y (some v)∧Q v H2
noncomputable def tDIn (ty td:TE):TE:=fun σ H Q=>ty σ H fun y H1=>td σ H1 fun x H2=>∃ a o,x=.ref a∧DGet H2 a y o∧Q (.bl o.isSome) H2
noncomputable def tDNotIn (ty td:TE):TE:=fun σ H Q=>ty σ H fun y H1=>td σ H1 fun x H2=>∃ a o,x=.ref a∧DGet H2 a y o∧Q (.bl (!o.isSome)) H2
noncomputable def sDPut (td ty tv:TE):TS:=fun D σ H=>tv σ H fun v H1=>td σ H1 fun x H2=>ty σ H2 fun y H3=>∃ a H4,x=.ref a∧DPut H3 a y v H4∧D.nx σ H4
section
variable {X:Cx}{o i e value:Expr}{pos pos' tpos:Pos}{td ty tv:TE}
theorem zDu (hu:X.A.units + 1 < cLine) (ho:PE X o td) (hi:PE X i ty) (hs:NoSl i):PE X (.Subscript o i pos) (tDGet td ty):=by
 intro pins s σ H Q I h;refine subD_of PySem.F.slot_dict_getitem.lookup hs (thn (ho pins s σ H _ I h) fun u s1 ⟨x,H1,I1,rx,q1⟩=>thn (hi pins s1 σ H1 _ I1 q1) fun iv s2 ⟨y,H2,I2,ry,a,v,ex,g,q2⟩=>?_);subst ex;obtain rfl:u=Value.ref a:=rx;exact ⟨dict_typeIs I2 g,d_getItem hu I2 g ry fun w' s3 I3 rw'=>⟨v,H2,I3,rw',q2⟩⟩
theorem pc_din (hu:X.A.units + 1 < cLine) (hi:PE X i ty) (ho:PE X o td):PC X .In i o (tDIn ty td):=by
 intro pins s σ H Q I h;refine thn (hi pins s σ H _ I h) fun iv s1 ⟨y,H1,I1,ry,q1⟩=>thn (ho pins s1 σ H1 _ I1 q1) fun u s2 ⟨x,H2,I2,rx,a,ov,ex,g,q2⟩=>?_;subst ex;obtain rfl:u=Value.ref a:=rx;exact d_in hu I2 g ry fun s3 I3=>⟨.bl ov.isSome,H2,I3,rfl,q2⟩
theorem zDg (hu:X.A.units + 1 < cLine) (hi:PE X i ty) (ho:PE X o td):PC X .NotIn i o (tDNotIn ty td):=by
 intro pins s σ H Q I h;refine thn (hi pins s σ H _ I h) fun iv s1 ⟨y,H1,I1,ry,q1⟩=>thn (ho pins s1 σ H1 _ I1 q1) fun u s2 ⟨x,H2,I2,rx,a,ov,ex,g,q2⟩=>?_;subst ex;obtain rfl:u=Value.ref a:=rx;exact d_notIn hu I2 g ry fun s3 I3=>⟨.bl (!ov.isSome),H2,I3,rfl,q2⟩
theorem zDr (hu:X.A.units + 1 < cLine) (ho:PE X o td) (hi:PE X i ty) (hv:PE X value tv) (hs:swapsWith value (some (.Subscript o i pos')) pos.line X.env=pure false) :
  PS X (.Assign [.Subscript o i pos'] value pos) (sDPut td ty tv):=by
 intro pins s σ H D I h;refine wpAny_Assign_Subscript (thn (hv pins s σ H _ I h) fun r s1 ⟨v,H1,I1,rv,q1⟩=>thn (ho pins s1 σ H1 _ I1 q1) fun u s2 ⟨x,H2,I2,rx,q2⟩=>thn (hi pins s2 σ H2 _ I2 q2) fun iv s3 ⟨y,H3,I3,ry,a,H4,ex,g,q3⟩=>?_) hs;subst ex;obtain rfl:u=Value.ref a:=rx;exact d_setItem hu I3 g ry rv fun s4 I4=>⟨σ,H4,I4,q3⟩
end
theorem dk_empty {P:Program}{w:World}{H:Hp} (h:Heap) (hb:sysModules < h.objs.size):ObjOk P w H (h.push { cls:=.type "dict",data:=.dict #[] }) h.objs.size (.dK []) :=
 ⟨Zo _,beq_eq_false_iff_ne.mpr (Ne.symm (Zg hb)),[],.nil,Heap.DictOf.new h⟩
noncomputable def tDNewK:TE:=fun _ H Q=>∀ p,H p=none→Q (.ref p) (upd H p (.dK []))
section
variable {X:Cx}{pos:Pos}
theorem zC6:PE X (.Dict [] [] pos) tDNewK:=fun pins s σ H Q I h =>
 wpAny_Dict_empty ⟨.ref s.heap.objs.size,_,I.laid (a:=s.heap.objs.size) (o:=.dK []) (t':=s.toks) (fun _ _ q=>Z2 _ q) (Z5 _) (dk_empty s.heap I.big),rfl,h _ (I.hok.fresh (Z5 _))⟩
end
structure M1 (X:Cx) (o:Expr) (m:Str) (apos:Pos) (e:Expr) (cpos:Pos):Prop where
 base:attributeBase o m X.env (eval o X.env)=eval o X.env
 few:((backTo cpos (starEach [e] X.env)).all (fun x=>!x.1) && (backToKw cpos (keywordEach [] X.env)).all (fun x=>x.1.isSome)
  && decide (([e]:List Expr).length + ([]:List Keyword).length + (if ([]:List Keyword).isEmpty then 0 else 1) < 30))=true
 line:(apos.endLine == cpos.line)=true
 trees:backTo cpos (starEach [e] X.env)=[(false,eval e X.env)]
noncomputable def IsD (H:Hp) (a:Addr):Prop:=(∃ kvs,Rd H a (.dK kvs))∨∃ kvs,Rd H a (.dT kvs)
theorem isD_at {X:Cx}{pins:List (Addr×Obj)}{σ : St}{H:Hp}{s:Shared}{a:Addr} (I:Inv X pins σ H s) (d:IsD H a) :
  s.TypeIs (.ref a) "dict"∧(∀ b,Value.ref a=.ref b→∃ ob,s.heap.get? b=some ob∧ob.dict=none)∧(a == sysModules)=false:=by
 rcases d with ⟨kvs,e⟩ | ⟨kvs,e⟩
 ·obtain ⟨_,hd,vs,_,dd⟩:=zEa I.hok e;refine ⟨dd.typeIs,fun b q=>?_,hd⟩;cases q;obtain ⟨ob,_,_,h1,h2,_⟩:=dd;exact ⟨ob,h1,h2.2.1⟩
 ·obtain ⟨_,hd,xs,_,dd⟩:=dt_rd I.hok e;refine ⟨dd.typeIs,fun b q=>?_,hd⟩;cases q;obtain ⟨ob,_,_,h1,h2,_⟩:=dd;exact ⟨ob,h1,h2.2.1⟩
section
variable {X:Cx}{pins:List (Addr×Obj)}{σ : St}{H:Hp}{s:Shared}{a:Addr}{y d:V}{u r:Value}{o:Option V}{A:Around}{E:Value→Shared→Prop}
theorem d_get1 {Q:Value→Shared→Prop} (hu:A.units + 1 < cLine) (I:Inv X pins σ H s) (g:DGet H a y o) (ry:RelV y u) (h:∀ w' s',Inv X pins σ H s'→RelV (o.getD .non) w'→Q w' s') :
  wpAny (model X.prog X.w) A (call (.builtin "dict.get") [.ref a,u]) Q E s:=by
 rcases g with ⟨kvs,k,e,ey,l⟩ | ⟨kvs,k,b,e,ey,eb,l⟩
 ·subst ey;obtain ⟨z,hd,vs,rel,dd⟩:=zEa I.hok e;refine call_meetsIn PySem.F.slot_dict_get dd.typeIs PySem.F.entry_dict_get (PySem.F.args_dict_get_2 _ _) (meets_dict_get (mixKind X.prog X.w) a (kV_is ry) hd) ⟨_,dd.mapOf,h _ _ (I.tok _) ?_⟩;rw [l];exact (rel.val k).getD rfl
 ·subst ey;cases (show u=Value.ref b from ry);obtain ⟨z,hd,xs,rel,dd⟩:=dt_rd I.hok e;refine call_meetsIn PySem.F.slot_dict_get dd.typeIs PySem.F.entry_dict_get (PySem.F.args_dict_get_2 _ _) (meetsH_dict_get (tupleKind (mixKind X.prog X.w)) a b hd) ⟨tupleKind_room_in1 hu,k,xs,zFn I.hok eb,dd,h _ _ (I.tok _) ?_⟩;rw [l];exact (rel.val k).getD rfl
end
noncomputable def tDGet1 (td ty:TE):TE:=fun σ H Q=>td σ H fun x H1=>∃ a,x=.ref a∧IsD H1 a∧ty σ H1 fun y H2=>∃ o,DGet H2 a y o∧Q (o.getD .non) H2
section
variable {X:Cx}{o e f:Expr}{apos cpos:Pos}{td ty tx:TE}
theorem zG6 (hu:X.A.units + 1 < cLine) (ho:PE X o td) (he:PE X e ty) (m:M1 X o "get" apos e cpos):PE X (.Call (.Attribute o "get" apos) [e] [] cpos) (tDGet1 td ty):=by
 intro pins s σ H Q I h;refine wpAny_Call_method m.base m.few m.line PySem.F.plainAttrs_dict PySem.F.slot_dict_get PySem.F.type_dict_get (thn (ho pins s σ H _ I h) fun u s1 ⟨x,H1,I1,rx,a,ex,d,q1⟩=>?_);subst ex;obtain rfl:u=Value.ref a:=rx;obtain ⟨t1,t2,_⟩:=isD_at I1 d;refine ⟨t1,t2,?_⟩;rw [m.trees];refine Calls.callWith_builtin rfl (Calls.evalArgs_plain (Calls.spliced_cons (thn (he pins s1 σ H1 _ I1 q1) fun iv s2 ⟨y,H2,I2,ry,ov,g,q2⟩=>Calls.spliced_nil ?_)));exact d_get1 hu I2 g ry fun w' s3 I3 rw'=>⟨_,H2,I3,rw',q2⟩
end
section
variable {X:Cx}{pins:List (Addr×Obj)}{σ : St}{H:Hp}{s:Shared}{a:Addr}{kvs:List (Key×V)}{A:Around}{E:Value→Shared→Prop}
end
section
variable {X:Cx}{pins:List (Addr×Obj)}{σ : St}{H:Hp}{s:Shared}{a:Addr}{y:V}{u:Value}{A:Around}{E:Value→Shared→Prop}
end
end L2
namespace L2
open PySem PySem.Spec PyProof.Rows
noncomputable def PFs (X:Cx) (ifs:List Expr) (t:TT):Prop :=
 ∀ (pins:List (Addr×Obj)) (s:Shared) (σ : St) (H:Hp) (Q:Bool→Hp→Prop),Inv X pins σ H s→t σ H Q →
  wpAny (model X.prog X.w) X.A (forIn ifs true fun c r=>if r=true then do let ok ← isTrue c X.env (eval c X.env);pure (ForInStep.yield ok) else pure (ForInStep.yield r)) (TP X pins σ Q) X.xe s
noncomputable def tYes:TT:=fun _ H Q=>Q true H
theorem zB2 {X:Cx}:PFs X [] tYes:=fun _ _ _ H _ I h=>wpAny_tests_nil ⟨H,I,h⟩
theorem zEp {X:Cx}{c:Expr}{t:TT} (h:PT X c t):PFs X [c] t:=fun pins s σ H Q I q=>wpAny_tests_one (h pins s σ H Q I q)
section
variable {prog:Program}{w:World}{A:Around}{R:Result→Shared→Prop}
theorem comp_loop {elt tg iter:Expr}{ifs:List Expr}{sc:Scope}{pos:Pos}{it acc:Value}{env:Env} (J:Nat→Shared→Prop) (N:Value→Shared→Prop)
  (hN:N=notedBy (model prog w) A env fun e z=>R (.error e) z)
  (turn:∀ k z,J k z→wpAny (model prog w) A (pyNext it) (fun r z1=>match r with
   | none=>R (.ok .next) z1
   | some v=>wpAny (model prog w) A (letOwnedTupleGo tg it v) (fun _ z2=>wpAny (model prog w) A (assign tg env v) (fun _ z3 =>
     wpAny (model prog w) A (forIn ifs true fun c r=>if r=true then do let ok ← isTrue c env (eval c env);pure (ForInStep.yield ok) else pure (ForInStep.yield r)) (fun ok z4 =>
      if ok=true then wpAny (model prog w) A (eval elt env) (fun y z5=>wpAny (model prog w) A (call (.builtin "list.append") [acc,y]) (fun _ z6=>∃ j,j < k∧J j z6) N z5) N z4
      else ∃ j,j < k∧J j z4) N z3) N z2) N z1) N z)
  {z:Shared} (k:Nat) (h:J k z):codeAny (model prog w) A (.compLoop (.ListComp elt [⟨tg,iter,ifs,0⟩] sc pos) 0 it acc env) R z:=by
 subst hN;refine codeAny_loop rfl J (fun k z hJ=>?_) k h;show wpAny _ A ((compTurn (.ListComp elt [⟨tg,iter,ifs,0⟩] sc pos) 0 it acc env).onRaise (fun x=>do noteFrame x env;theTreesLotGoes x)) _ _ z;refine wpAny_noted ?_;rw [compTurn_list];refine wpAny_bind (wpAny_standAt (wpAny_bind (thn (turn k z hJ) fun r z1 h1=>?_)));cases r with
 | none=>exact wpAny_pure h1
 | some v =>
  refine wpAny_bind (thn h1 fun _ z2 h2=>?_);refine wpAny_bind (thn h2 fun _ z3 h3=>?_);refine wpAny_bind (thn h3 fun ok z4 h4=>?_);cases ok with
  | false=>exact wpAny_pure ⟨rfl,h4⟩
  | true=>exact wpAny_bind (wpAny_bind (thn h4 fun y z5 h5=>wpAny_bind (thn h5 fun _ z6 h6=>wpAny_pure (wpAny_pure ⟨rfl,h6⟩))))
end
noncomputable def cxComp (X:Cx) (sc:Scope) (cl:List (Str×Addr)) (T:List Str) (C:Addr) (s2:Shared) (H2:Hp) (fp:List Addr):Cx where
 prog:=X.prog
 w:=X.w
 K:=X.K
 mg:=X.mg
 base:=X.base
 A:=X.A
 N:=X.N++T
 s₀:=s2
 H₀:=H2
 env:=compEnvC sc cl C X.env
 outer:=X.stack
 stack:=X.stack
 ex:=fp
 fn:=fun _=>false
 calm:=X.calm
 pn:=[]
 xe:=fun _ _=>False
noncomputable def ClOk (X:Cx):List (Str×Addr)→Prop
 | []=>True
 | p :: r=>X.env.cells.lookup p.1=some p.2∧ClOk X r
theorem ClOk.look {X:Cx}:∀ {cl:List (Str×Addr)},ClOk X cl→∀ x c,cl.lookup x=some c→X.env.cells.lookup x=some c
 | [],_,_,_,h=>by cases h
 | p :: r,k,x,c,h=>by
  cases e:x == p.1 with
  | true =>
   rw [Y2,e] at h;have ex:x=p.1:=by simpa using e
   rw [ex,k.1];exact h
  | false =>
   rw [Y2,e] at h;exact ClOk.look k.2 x c h
structure ScOk (X:Cx) (sc:Scope) (cl:List (Str×Addr)) (T:List Str):Prop where
 clos:closureFor sc X.env=pure cl
 cell:∀ y∈sc.names,y.2≠.cell
 kind:sc.kind=.function
 names:∀ x∈sc.names,x.2=.local→sc.names.lookup x.1=some .local
 cls:ClOk X cl
 has:∀ x∈sc.names,x.2=.free→(cl.lookup x.1).isSome=true∧(X.env.scope.names.lookup x.1=some .cell∨X.env.scope.names.lookup x.1=some .free)
 out:∀ x∈X.N,sc.names.lookup x≠some .local
theorem zDq {sc:Scope}{env:Env}{x:Str}{k:NameKind}:∀ {names:List (Str×NameKind)},
  (names.map fun (n,k)=>if (k == NameKind.free && env.scope.kind == .function && env.kindOf n == some .cell) then (n,NameKind.cell) else (n,k)).lookup x=some k →
  ∃ j,(x,j)∈names∧names.lookup x=some j∧(j=k∨(j=.free∧k=.cell))
 | [],h=>by cases h
 | (n,j) :: r,h=>by
  cases e:x == n with
  | true =>
   have ex:x=n:=by simpa using e
   subst ex;refine ⟨j,Zb,by rw [Y2,e],?_⟩;have h':List.lookup x ((if (j == NameKind.free && env.scope.kind == .function && env.kindOf x == some .cell)=true then (x,NameKind.cell) else (x,j)) :: _)=some k:=h;by_cases c:(j == NameKind.free && env.scope.kind == .function && env.kindOf x == some .cell)=true
   ·rw [if_pos c,Y2,e] at h';have c1:(j == NameKind.free)=true:=by
     cases q:(j == NameKind.free) with
     | true=>rfl
     | false=>rw [q] at c;simp at c
    exact .inr ⟨by simpa using c1,(Zk h').symm⟩
   ·rw [if_neg c,Y2,e] at h';exact .inl (Zk h')
  | false =>
   have h':List.lookup x ((if (j == NameKind.free && env.scope.kind == .function && env.kindOf n == some .cell)=true then (n,NameKind.cell) else (n,j)) :: _)=some k:=h;have h2:(List.map (fun (n,k)=>if (k == NameKind.free && env.scope.kind == .function && env.kindOf n == some .cell) then (n,NameKind.cell) else (n,k)) r).lookup x=some k:=by
    by_cases c:(j == NameKind.free && env.scope.kind == .function && env.kindOf n == some .cell)=true
    ·rw [if_pos c,Y2,e] at h';exact h'
    ·rw [if_neg c,Y2,e] at h';exact h'
   obtain ⟨i,m,l,q⟩:=zDq (sc:=sc) (env:=env) h2;exact ⟨i,Z6 _ m,by rw [Y2,e];exact l,q⟩
section
variable {X:Cx}{sc:Scope}{cl:List (Str×Addr)}{T:List Str}
theorem ScOk.seen (S:ScOk X sc cl T) {C:Addr}{x:Str} (h:(compEnvC sc cl C X.env).scope.names.lookup x=some .cell∨(compEnvC sc cl C X.env).scope.names.lookup x=some .free) :
  (∃ c,cl.lookup x=some c)∧(X.env.scope.names.lookup x=some .cell∨X.env.scope.names.lookup x=some .free):=by
 have key:∀ k,(k=.cell∨k=.free)→(relabel sc X.env).names.lookup x=some k→(∃ c,cl.lookup x=some c)∧(X.env.scope.names.lookup x=some .cell∨X.env.scope.names.lookup x=some .free):=by
  intro k hk h;obtain ⟨j,m,l,q⟩:=zDq (sc:=sc) (env:=X.env) h;have jf:j=.free:=by
   rcases q with rfl | ⟨q,_⟩
   ·rcases hk with rfl | rfl
    ·exact absurd rfl (S.cell _ m)
    ·rfl
   ·exact q
  subst jf;obtain ⟨a,b⟩:=S.has _ m rfl;exact ⟨Option.isSome_iff_exists.mp a,b⟩
 rcases h with h | h
 ·exact key _ (.inl rfl) h
 ·exact key _ (.inr rfl) h
theorem ScOk.local_out (S:ScOk X sc cl T) {C:Addr}{x:Str} (hx:x∈X.N):(compEnvC sc cl C X.env).scope.names.lookup x≠some .local:=by
 intro h;obtain ⟨j,m,l,q⟩:=zDq (sc:=sc) (env:=X.env) h;rcases q with rfl | ⟨_,q⟩
 ·exact S.out x hx l
 ·cases q
variable {pins:List (Addr×Obj)}{σ : St}{H:Hp}{s:Shared}{fp:List Addr}{C:Addr}
theorem comp_ok (S:ScOk X sc cl T) (I:Inv X pins σ H s) (hf:∀ b∈fp,FpOk X pins H b) (hl:∀ b∈fp,b < s.heap.objs.size) (hC:s.heap.objs.size≤C):(cxComp X sc cl T C s H fp).Ok where
 mod:=I.ok.mod
 kind:=S.kind
 glob:=I.ok.glob
 blt:=I.ok.blt
 above:=hC
 inj:=fun x y c h1 h2=>I.ok.inj x y c (S.cls.look x c h1) (S.cls.look y c h2)
 has:=fun x hx=>(S.seen hx).1
 cab:=fun x c h=>by cases h
 hd:=I.ok.hd
 frames:=I.ok.frames
 stk:=.inl rfl
 exf:=fun b hb=>⟨Zg (Zf (hl b hb) hC),fun x c h=>(hf b hb).2.2.2.2.1 x c (S.cls.look x c h)⟩
 bs:=I.bs
 bsz:=Zl I.ok.bsz I.sz
 noex:=fun b o e hb=>by
  rcases (hf b hb).2.2.2.1 with z | z
  ·exact I.ok.noex b o e z
  ·exact absurd (Zf (Z9 e) (Zl I.ok.bsz z)) (Y0 _)
 exfs:=fun b hb z=>by
  rcases List.mem_cons.mp (I.stkSub b z) with e | e
  ·exact (hf b hb).2.1 e
  ·exact (hf b hb).2.2.1 e
 funs:=I.stack
 frf:=I.stkFree
theorem comp_inv (S:ScOk X sc cl T) (I:Inv X pins σ H s) (hf:∀ b∈fp,FpOk X pins H b) (hl:∀ b∈fp,b < s.heap.objs.size) (hC:s.heap.objs.size≤C) {h1:Heap}{m:Str→Option Value}{t1:Nat}
  (k:∀ b o,s.heap.get? b=some o→h1.get? b=some o) (hn:h1.Ns C m):Inv (cxComp X sc cl T C s H fp) [] (σ++List.replicate T.length none) H { s with heap:=h1,toks:=t1 } where
 ok:=comp_ok S I hf hl hC
 os:=rfl
 bare:=I.bare
 base:=Un.kept k
 loc:=by
  refine ⟨m,hn,fun i x v e1 e2 e3=>?_⟩;have hi:i < σ.length:=by
   by_cases hi:i < σ.length
   ·exact hi
   ·rw [Zz (Nat.not_lt.mp hi),List.getElem?_replicate] at e2;split at e2 <;> cases e2
  rw [Zq hi] at e2;have e1':X.N[i]? = some x:=by
   have e:(X.N++T)[i]? = some x:=e1
   rwa [Zq (by rw [← I.len];exact hi)] at e
  have hx:x∈X.N:=Z3 e1';have e3':(compEnvC sc cl C X.env).scope.names.lookup x=some .cell∨(compEnvC sc cl C X.env).scope.names.lookup x=some .free:=by
   rcases e3 with z | z | z
   ·exact absurd z (S.local_out hx)
   ·exact .inl z
   ·exact .inr z
  obtain ⟨⟨c,hc⟩,ko⟩:=S.seen e3';obtain ⟨m0,hn0,hl0⟩:=I.loc;obtain ⟨u,r,l⟩:=hl0 i x v e1' e2 (.inr ko);refine ⟨u,r,.inr ⟨e3',c,hc,?_⟩⟩;have hc':=S.cls.look x c hc;rcases l with ⟨kl,_⟩ | ⟨_,c',hc2,z⟩
  ·have kl':X.env.scope.names.lookup x=some .local:=kl;rcases ko with q | q
   ·rw [q] at kl';cases kl'
   ·rw [q] at kl';cases kl'
  ·rw [hc'] at hc2;cases hc2;obtain ⟨o,ho,hd⟩:=z;exact ⟨o,k _ _ ho,hd⟩
 cell:=fun x c hc=>by
  obtain ⟨v,o,ho,hd⟩:=I.cell x c (S.cls.look x c hc);exact ⟨v,o,k _ _ ho,hd⟩
 free:=I.hok.fresh hC
 freeC:=fun x c hc=>I.freeC x c (S.cls.look x c hc)
 pin:=fun p hp=>absurd (show p∈([]:List (Addr×Obj)) from hp) (by simp)
 hok:=I.hok.kept k
 len:=by
  show (σ++List.replicate T.length none).length=(X.N++T).length;rw [Z7,Z7,Y8,I.len]
theorem comp_out (S:ScOk X sc cl T) (I:Inv X pins σ H s) (hf:∀ b∈fp,FpOk X pins H b) {D:Addr} (hD:s.heap.objs.size≤D) (hC:s.heap.objs.size≤C) (hDC:D≠C) {s1:Shared}{H1:Hp}{σ1:St}{p1:List (Addr×Obj)}{ys:List V}{its:List Value}
  (J:Inv (cxComp X sc cl T C s H fp) p1 σ1 H1 s1) (hH:H1 D=none) (rv:Vals ys its) (hz:ys.length≤sizeLine) (hget:s1.heap.get? D=some (LCg.lst its)) :
  Inv X pins σ (upd H1 D (.lst ys)) s1:=by
 have fD:H D=none:=I.hok.fresh hD;have nD:∀ b o,s.heap.get? b=some o→b≠D:=fun b o e=>Zg (Zf (Z9 e) hD);refine I.call' (ch:=fp) J.os ⟨fun b o e n hb hx=>J.base.keep b o e n hb hx,fun b o e n hb hx=>J.base.slot b o e n hb hx,fun b o e n hx=>?_,fun b o e hx=>J.base.there b o e hx,fun b xs e=>?_,fun b o u e=>?_,fun b ps e=>?_⟩ (fun b u e=>?_) J.bare fun b hb=>⟨(hf b hb).2.2.2.1,(hf b hb).2.1,(hf b hb).2.2.2.2.1,(hf b hb).2.2.2.2.2⟩
 ·rw [zA8 (nD b o e)];exact J.base.free b o e n hx
 ·rw [zA8 (zA5 e fD)];exact J.base.tups b xs e
 ·rw [zA8 (zA5 e fD)];exact J.base.frzs b o u e
 ·rw [zA8 (zA5 e fD)];exact J.base.tbls b ps e
 ·by_cases hb:b=D
  ·subst hb;rw [zA1] at e;cases e;exact ⟨hz,its,its.length,rv,hget⟩
  ·rw [zA8 hb] at e;exact (J.hok b u e).stay (fun c v _ q=>q) (fun c q=>by rw [zA8 (zA5 q hH)];exact q) fun c xs q=>by rw [zA8 (zA5 q hH)];exact q
end
noncomputable def CompGoal (J:It) (k:Nat) (σ : St) (H1:Hp) (g:TG) (tt:TT) (te:TE) (Q:VK):Prop:=∃ W:Nat→Nat→List V→Hp→Prop,(∃ m,W 0 m [] H1)∧∀ i m ys H,W i m ys H →
 (J.stop i H∧ys.length≤sizeLine∧∀ p,H p=none→Q (.ref p) (upd H p (.lst ys))) ∨
 (J.go i H∧ys.length≤sizeLine∧∀ x H',J.yld i H x H'→g x (σ++List.replicate k none) H' fun σ2 H2=>tt σ2 H2 fun b H3 =>
  if b=true then te σ2 H3 fun y H4=>∃ m',m' < m∧W (i + 1) m' (ys++[y]) H4 else ∃ m',m' < m∧W (i + 1) m' ys H3)
noncomputable def tComp (k:Nat) (wi:TI) (g:TG) (tt:TT) (te:TE):TE:=fun σ H Q=>wi σ H fun J H1=>CompGoal J k σ H1 g tt te Q
section
variable {X:Cx}{elt tg iter:Expr}{ifs:List Expr}{sc:Scope}{pos:Pos}{cl:List (Str×Addr)}{T:List Str}{wi:TI}{g:TG}{tt:TT}{te:TE}
theorem zEg {pins:List (Addr×Obj)}{σ : St}{s2:Shared}{H2:Hp}{Q:VK}{E:Value→Shared→Prop}{R:Value→Addr→Result→Shared→Prop}{it:Addr}{fp:List Addr}{tn:Nat→Heap→Prop}{J:It}
  (hc:X.calm=true) (S:ScOk X sc cl T)
  (hg:∀ C s H fp,PG (cxComp X sc cl T C s H fp) tg g) (hf:∀ C s H fp,PFs (cxComp X sc cl T C s H fp) ifs tt) (he:∀ C s H fp,PE (cxComp X sc cl T C s H fp) elt te)
  (I:Inv X pins σ H2 s2) (TT':Turn X.prog X.w X.K tg J fp it tn) (st:tn 0 s2.heap) (f2:∀ b∈fp,FpOk X pins H2 b)
  (W:Nat→Nat→List V→Hp→Prop) (m0:Nat) (w0:W 0 m0 [] H2)
  (turn:∀ i m ys H,W i m ys H→(J.stop i H∧ys.length≤sizeLine∧∀ p,H p=none→Q (.ref p) (upd H p (.lst ys))) ∨
   (J.go i H∧ys.length≤sizeLine∧∀ x H',J.yld i H x H'→g x (σ++List.replicate T.length none) H' fun σ2 H2=>tt σ2 H2 fun b H3 =>
    if b=true then te σ2 H3 fun y H4=>∃ m',m' < m∧W (i + 1) m' (ys++[y]) H4 else ∃ m',m' < m∧W (i + 1) m' ys H3))
  (hR:∀ (D C:Addr) (s1:Shared) (H1:Hp) (m:Str→Option Value),Inv X pins σ H1 s1→H1 C=none→C≠X.env.locals→X.s₀.heap.objs.size≤C→(∀ x c,X.env.cells.lookup x=some c→c≠C)→(∀ p∈X.pn++pins,p.1≠C) →
   s1.heap.Ns C m→Q (.ref D) H1→R (.ref D) C (.ok .next) s1) :
  wpAny (model X.prog X.w) X.A (newList []) (fun acc s₃=>wpAny (model X.prog X.w) X.A (newFunctionEnv sc X.env.globals cl [] X.env.qual none .none (some X.env)) (fun cenv s₄ =>
   codeAny (model X.prog X.w) X.A (.compStart (.ListComp elt [⟨tg,iter,ifs,0⟩] sc pos) 0 (.ref it) acc { cenv with scope:=relabel sc X.env }) (R acc cenv.locals) s₄) E s₃) E s2:=by
 refine wpAny_newObj_type (wpAny_newFunctionEnv S.cell (by intro y hy;simp at hy) (fun h1 hn1 sb1=>?_) S.kind);dsimp only at hn1 sb1 ⊢;generalize hH:s2.heap.push { cls:=.type "list",dict:=none,data:=.seq ([]:List Value).toArray }=G at hn1 sb1 ⊢;have hC:G.objs.size=s2.heap.objs.size + 1:=by rw [← hH,Y9]
 have hDC:s2.heap.objs.size≠G.objs.size:=by rw [hC];exact Zg (Yb _)
 have hCle:s2.heap.objs.size≤G.objs.size:=by rw [hC];exact Yq _
 have old:∀ b o,s2.heap.get? b=some o→h1.get? b=some o:=fun b o e=>by
  exact sb1.extBut b o (Zg (Zf (Z9 e) hCle)) (Z2 _ (hH ▸ Z2 _ e))
 have hacc:h1.get? s2.heap.objs.size=some (LCg.lst []):=sb1.extBut _ _ hDC (Z2 _ (hH ▸ Ze _ rfl));have fl:∀ b∈fp,b < s2.heap.objs.size:=fun b hb=>by
  obtain ⟨o,e,_⟩:=TT'.obj _ _ st b hb;exact Z9 e
 have DS:s2.heap.objs.size∉frs X.stack:=fun z=>by
  rcases List.mem_cons.mp (I.stkSub _ z) with e | e
  ·exact Zg I.lt e.symm
  ·exact I.nofs (Z5 _) e
 have keepT:∀ (i:Nat) (h h':Heap),tn i h→(∀ b o,b < s2.heap.objs.size→h.get? b=some o→h'.get? b=some o)→tn i h':=fun i h h' z k=>TT'.keep i h h' z fun b hb o e=>k b o (fl b hb) e;have fpo:∀ {H':Hp}{pl:List (Addr×Obj)},(∀ b∈fp,H' b=none)→(∀ p∈pl,s2.heap.objs.size≤p.1)→∀ b∈fp,FpOk (cxComp X sc cl T G.objs.size s2 H2 fp) pl H' b:=fun {H' pl} hn hp b hb=>by
  refine ⟨hn b hb,fun z=>?_,fun z=>?_,.inl hb,fun x c h=>(f2 b hb).2.2.2.2.1 x c (S.cls.look x c h),fun p hp' z=>?_⟩
  ·exact Zg (Zf (fl b hb) hCle) z
  ·rcases List.mem_cons.mp (I.stkSub b z) with e | e
   ·exact (f2 b hb).2.1 e
   ·exact (f2 b hb).2.2.1 e
  ·exact Zg (Zf (fl b hb) (hp p (show p∈pl from hp'))) z.symm
 let Y:=cxComp X sc cl T G.objs.size s2 H2 fp
 have loop:∀ z:Shared,z={ s2 with heap:=h1,toks:=s2.toks + ([]:List (Str×Value)).length } →
   codeAny (model X.prog X.w) X.A (.compLoop (.ListComp elt [⟨tg,iter,ifs,0⟩] sc pos) 0 (.ref it) (.ref s2.heap.objs.size) (compEnvC sc cl G.objs.size X.env)) (R (.ref s2.heap.objs.size) G.objs.size) z:=by
  rintro z rfl;refine comp_loop (fun n z=>∃ i ys its H',Inv Y [] (σ++List.replicate T.length none) H' z∧tn i z.heap∧(∀ b∈fp,H' b=none)∧H' s2.heap.objs.size=none∧Vals ys its∧z.heap.get? s2.heap.objs.size=some (LCg.lst its)∧W i n ys H') _ rfl ?_ m0
   ⟨0,[],[],H2,comp_inv S I f2 fl hCle old hn1,TT'.keep _ _ _ st fun b hb o e=>old b o e,fun b hb=>(f2 b hb).1,I.hok.fresh (Z5 _),.nil,hacc,w0⟩
  rintro n z ⟨i,ys,its,H',IY,stz,frz,fD,rv,hget,wz⟩;have IP:Inv Y [(s2.heap.objs.size,LCg.lst its)] (σ++List.replicate T.length none) H' z:=IY.pins_of fun p hp=>by
   have e:p=(s2.heap.objs.size,LCg.lst its):=by simpa using hp
   subst e;exact ⟨hget,fD,hDC,DS,fun v q=>by cases (show Data.seq _ _=Data.cell v from q)⟩
  have hpl:∀ p∈[(s2.heap.objs.size,LCg.lst its)],s2.heap.objs.size≤p.1:=fun p hp=>by
   have e:p=(s2.heap.objs.size,LCg.lst its):=by simpa using hp
   subst e;exact Z5 _
  rcases turn i n ys H' wz with ⟨stop,hz,q⟩ | ⟨go,hz,step⟩
  ·refine thn (TT'.done Y rfl rfl rfl hc i _ z _ H' _ IP (fpo frz hpl) stz stop) fun r z1 ⟨hr,I1⟩=>?_;subst hr;have g1:z1.heap.get? s2.heap.objs.size=some (LCg.lst its):=(I1.pin (s2.heap.objs.size,LCg.lst its) (by simp [Y,cxComp])).1;obtain ⟨mC,hnC,_⟩:=I1.loc;have out:=comp_out S I f2 (Z5 _) hCle hDC I1 fD rv hz g1;refine hR _ _ z1 _ mC out ?_ ?_ ?_ ?_ ?_ hnC (q _ fD)
   ·rw [zA8 (Ne.symm hDC)];exact I1.free
   ·exact (Zg (Zf I.lt hCle)).symm
   ·exact Zl I.sz hCle
   ·intro x c hcc;obtain ⟨v,zc⟩:=I.cell x c hcc;exact Zg (Zf zc.lt hCle)
   ·intro p hp;exact Zg (Zf (Z9 (I.pin p hp).1) hCle)
  ·refine thn (TT'.item Y rfl rfl rfl hc i _ z _ H' _ IP (fpo frz hpl) stz go) fun r z1 ⟨u,hr,h1'⟩=>?_;subst hr;refine thn h1' fun _ z2 ⟨x,H3,I3,r3,y3,st3,fr3⟩=>?_;have I3':=I3.pinned (fpo fr3 hpl) (TT'.obj _ _ st3);have fin:∀ {H':Hp}{σ':St}{z':Shared},Inv Y ([(s2.heap.objs.size,LCg.lst its)]++pinsAt fp z2.heap) σ' H' z'→tn (i + 1) z'.heap∧(∀ b∈fp,H' b=none)∧H' s2.heap.objs.size=none∧z'.heap.get? s2.heap.objs.size=some (LCg.lst its):=fun {H' σ' z'} I'=>by
    have a1:∀ b∈fp,∀ o,z2.heap.get? b=some o→z'.heap.get? b=some o∧H' b=none:=fun b hb o e =>
     let p:=I'.pin (b,o) (Zx _ (Zx _ (zDx hb e)))
     ⟨p.1,p.2.1⟩
    have a2:=I'.pin (s2.heap.objs.size,LCg.lst its) (Zx _ (by simp))
    exact ⟨TT'.keep _ _ _ st3 fun b hb o e=>(a1 b hb o e).1,fun b hb=>by
     obtain ⟨o,e,_⟩:=TT'.obj _ _ st3 b hb
     exact (a1 b hb o e).2,a2.2.1,a2.1⟩
   have bare:∀ {H':Hp}{σ':St}{z':Shared},Inv Y ([(s2.heap.objs.size,LCg.lst its)]++pinsAt fp z2.heap) σ' H' z'→Inv Y [] σ' H' z':=fun I'=>I'.pins_of fun p hp=>absurd hp (by simp);refine wpAny_mono (hg G.objs.size s2 H2 fp _ z2 _ H3 x u _ I3' r3 (step x H3 y3)) (fun _ z3 ⟨σ4,H4,I4,q4⟩=>?_) fun _ _ e=>e.elim;refine wpAny_mono (hf G.objs.size s2 H2 fp _ z3 _ H4 _ I4 q4) (fun ok z4 ⟨H5,I5,q5⟩=>?_) fun _ _ e=>e.elim;have lenσ : ∀ {H':Hp}{σ':St}{z':Shared}{pl},Inv Y pl σ' H' z'→(σ++List.replicate T.length none).length = σ'.length:=fun I'=>by rw [I'.len];exact IY.len
   have weak:∀ {H':Hp}{z':Shared},Inv Y [] σ4 H' z'→Inv Y [] (σ++List.replicate T.length none) H' z':=fun {H' z'} I'=>by
    have c0:=comp_inv (T:=T) (t1:=z'.toks) S I f2 fl hCle old hn1;obtain ⟨m',hn',hl'⟩:=I'.loc;obtain ⟨_,_,hl0⟩:=I.loc;refine ⟨I'.ok,I'.os,I'.bare,I'.base,⟨m',hn',fun j x v e1 e2 e3=>?_⟩,I'.cell,I'.free,I'.freeC,I'.pin,I'.hok,(lenσ I').trans I'.len⟩;have hj:j < σ.length:=by
     by_cases hj:j < σ.length
     ·exact hj
     ·rw [Zz (Nat.not_lt.mp hj),List.getElem?_replicate] at e2;split at e2 <;> cases e2
    have e2':=e2;rw [Zq hj] at e2';have e1':X.N[j]? = some x:=by
     have e:(X.N++T)[j]? = some x:=e1
     rwa [Zq (by rw [← I.len];exact hj)] at e
    have hx:x∈X.N:=Z3 e1';have e3':(compEnvC sc cl G.objs.size X.env).scope.names.lookup x=some .cell∨(compEnvC sc cl G.objs.size X.env).scope.names.lookup x=some .free:=by
     rcases e3 with z | z | z
     ·exact absurd z (S.local_out hx)
     ·exact .inl z
     ·exact .inr z
    obtain ⟨⟨c,hc'⟩,ko⟩:=S.seen e3';obtain ⟨u,r,l⟩:=hl0 j x v e1' e2' (.inr ko);have hcX:=S.cls.look x c hc';refine ⟨u,r,.inr ⟨e3',c,hc',?_⟩⟩;rcases l with ⟨kl,_⟩ | ⟨_,c',hc2,zc⟩
    ·have kl':X.env.scope.names.lookup x=some .local:=kl;rcases ko with q | q
     ·rw [q] at kl';cases kl'
     ·rw [q] at kl';cases kl'
    ·rw [hcX] at hc2;cases hc2;obtain ⟨o,ho,hd⟩:=zc;have nfp:c∉fp:=fun hb=>(f2 c hb).2.2.2.2.1 x c hcX rfl;obtain ⟨sl,e⟩:=I'.base.any ho (I.freeC x c hcX) nfp;exact ⟨_,e,hd⟩
   cases ok with
   | false =>
    rw [if_neg Zi] at q5 ⊢;obtain ⟨m',hm,w'⟩:=q5;obtain ⟨b1,b2,b3,b4⟩:=fin I5;exact ⟨m',hm,i + 1,ys,its,H5,weak (bare I5),b1,b2,b3,rv,b4,w'⟩
   | true =>
    rw [if_pos rfl] at q5 ⊢;refine wpAny_mono (he G.objs.size s2 H2 fp _ z4 _ H5 _ I5 q5) (fun y z5 ⟨yv,H6,I6,r6,q6⟩=>?_) fun _ _ e=>e.elim;obtain ⟨m',hm,w'⟩:=q6;obtain ⟨b1,b2,b3,b4⟩:=fin I6;refine append_at (hsz:=by show its.toArray.size≤sizeLine;rw [Zc,← rv.length];exact hz) b4 fun h6 sb6 g6=>?_
    have I7:Inv Y [] (σ++List.replicate T.length none) H6 { z5 with heap:=h6 }:=(weak (bare I6)).turned (t':=z5.toks) (it:=s2.heap.objs.size) (fun b o hb e=>(sb6.2 b hb).trans e) b3 hDC (.inr (Z5 _)) (fun x c h=>by
     obtain ⟨v,zc⟩:=I.cell x c (S.cls.look x c h)
     exact Zg zc.lt) fun p hp=>absurd (show p∈([]:List (Addr×Obj)) from hp) (by simp)
    refine ⟨m',hm,i + 1,ys++[yv],its++[y],H6,I7,keepT _ _ _ b1 fun b o hb e=>(sb6.2 b (Zg hb)).trans e,b2,b3,rv.append (.cons r6 .nil),g6.trans (congrArg some (LCg.lst_snoc its y)),w'⟩
 exact codeAny_compStart_list (loop _ rfl) (TT'.self _ 0 _ _ _ (TT'.keep _ _ _ st fun b hb o e=>old b o e) (loop _ rfl))
theorem zAr (hc:X.calm=true) (S:ScOk X sc cl T) (hi:PI X tg iter wi)
  (hg:∀ C s H fp,PG (cxComp X sc cl T C s H fp) tg g) (hf:∀ C s H fp,PFs (cxComp X sc cl T C s H fp) ifs tt) (he:∀ C s H fp,PE (cxComp X sc cl T C s H fp) elt te)
  (hs:∀ x,foldedSetIterable iter X.env x=pure x:=by intro _;rfl):PE X (.ListComp elt [⟨tg,iter,ifs,0⟩] sc pos) (tComp T.length wi g tt te):=by
 intro pins s σ H Q I h;rw [eval_ListComp];refine wpAny_comprehension_free (use:=none) rfl hs S.clos S.kind S.names (thn (hi pins s σ H _ I h) fun v s1 h1=>thn h1 fun itv s2 h2=>?_);obtain ⟨it,fp,tn,J,H2,e,I2,TT',st2,f2,W,⟨m0,w0⟩,turn⟩:=h2;subst e;refine zEg (Q:=Q) hc S hg hf he I2 TT' st2 f2 W m0 w0 turn fun D C z H1 m I1 n1 n2 n3 n4 n5 hn q=>?_;exact ⟨m,hn,fun h' sb=>⟨.ref D,H1,I1.turned (t':=z.toks) (it:=C) (fun b o hb e=>(sb.2 b hb).trans e) n1 n2 (.inr n3) n4 n5,rfl,q⟩⟩
theorem zBh {i:Nat}{y:Str}{py spos:Pos} (hc:X.calm=true) (S:ScOk X sc cl T) (hi:PI X tg iter wi)
  (hg:∀ C s H fp,PG (cxComp X sc cl T C s H fp) tg g) (hf:∀ C s H fp,PFs (cxComp X sc cl T C s H fp) ifs tt) (he:∀ C s H fp,PE (cxComp X sc cl T C s H fp) elt te)
  (hN:X.N.Nodup) (hix:X.N[i]? = some y) (hx:X.env.scope.names.lookup y=some .local)
  (hsw:swapsWith (.ListComp elt [⟨tg,iter,ifs,0⟩] sc pos) (some (.Name y py)) spos.line X.env=pure true)
  (hs:∀ x,foldedSetIterable iter X.env x=pure x:=by intro _;rfl) :
  PS X (.Assign [.Name y py] (.ListComp elt [⟨tg,iter,ifs,0⟩] sc pos) spos) (tAsg (tComp T.length wi g tt te) (gName i)):=by
 intro pins s σ H D I h;rw [exec_Assign_Name_used _ _ _ _ hsw];refine wpAny_bind (wpAny_standAt (wpAny_bind ?_));show wpAny _ X.A (do let _ ← comprehension (.ListComp elt [⟨tg,iter,ifs,0⟩] sc pos) sc X.env _ (newList []) false (eval iter X.env) (some (assign (.Name y py) X.env))) _ _ s;refine wpAny_bind (thn (wpAny_comprehension_free (use:=some (assign (.Name y py) X.env)) (Q:=fun _ s'=>SP X pins D .next s') rfl hs S.clos S.kind S.names (thn (hi pins s σ H _ I h) fun v s1 h1=>thn h1 fun itv s2 h2=>?_)) fun _ s' hq=>wpAny_pure (wpAny_pure hq));obtain ⟨it,fp,tn,J,H2,e,I2,TT',st2,f2,W,⟨m0,w0⟩,turn⟩:=h2;subst e;refine zEg (Q:=fun x H1=>gName i x σ H1 D.nx) hc S hg hf he I2 TT' st2 f2 W m0 w0 turn fun A C z H1 m I1 n1 n2 n3 n4 n5 hn q=>?_;show wpAny _ X.A (assign (.Name y py) X.env (.ref A)) _ _ z;refine wpAny_assign_Name (store_ok2 (v:=.ref A) I1 hN hix (.inl hx) rfl (fun z' I' ⟨a,sb,ha⟩=>?_) (.inr hx));have hCa:C≠a:=by
  rcases ha with e | e
  ·rw [e];exact n2
  ·exact (n4 y a e).symm
 refine ⟨m,hn.sameBut sb hCa,fun h' sb'=>⟨_,H1,I'.turned (t':=z'.toks) (it:=C) (fun b o hb e=>(sb'.2 b hb).trans e) n1 n2 (.inr n3) n4 n5,q⟩⟩
end
end L2
namespace L2
open PySem PySem.Spec PyProof.Rows
section
variable {X:Cx}
theorem v1 {x:V}{us:List Value} (r:Vals [x] us):∃ u,us=[u]∧RelV x u:=by
 cases r with
 | cons a b=>cases b;exact ⟨_,rfl,a⟩
theorem v2 {x y:V}{us:List Value} (r:Vals [x,y] us):∃ u v,us=[u,v]∧RelV x u∧RelV y v:=by
 cases r with
 | cons a b =>
  cases b with
  | cons c d=>cases d;exact ⟨_,_,rfl,a,c⟩
theorem zAn:CallR X (.builtin "isinstance") (fun xs H Q=>∃ x c t cv b,xs=[x,c]∧TyOf X.K H x t∧RelV c cv∧PySem.W.kitOne X.K t cv=some b∧Q (.bl b) H):=by
 intro pins s σ H xs us Q I r h;obtain ⟨x,c,t,cv,b,rfl,ty,rc,e,q⟩:=h;obtain ⟨u,v,rfl,ru,rv⟩:=v2 r;have hv:v=cv:=by
  cases c with
  | non=>exact (show v=Value.none from rv).trans (show cv=Value.none from rc).symm
  | bl z=>exact (show v=Value.bool z from rv).trans (show cv=Value.bool z from rc).symm
  | int i =>
   obtain ⟨t1,rfl⟩:=rc;exact absurd e (by unfold PySem.W.kitOne;cases ty <;> simp [PySem.W.kitCls])
  | str i =>
   obtain ⟨t1,rfl⟩:=rc;exact absurd e (by unfold PySem.W.kitOne;cases ty <;> simp [PySem.W.kitCls])
  | byt i =>
   obtain ⟨t1,rfl⟩:=rc;exact absurd e (by unfold PySem.W.kitOne;cases ty <;> simp [PySem.W.kitCls])
  | flt i =>
   obtain ⟨t1,rfl⟩:=rc;exact absurd e (by unfold PySem.W.kitOne;cases ty <;> simp [PySem.W.kitCls])
  | ref a=>exact (show v=Value.ref a from rv).trans (show cv=Value.ref a from rc).symm
  | ty n=>exact (show v=Value.type n from rv).trans (show cv=Value.type n from rc).symm
 subst hv;exact isinst_ok I ru ty e fun tk=>⟨.bl b,H,I.tok tk,rfl,q⟩
theorem bools_get:∀ {bs:List Bool}{us:List Value}{i:Nat}{v:Value},Vals (bs.map V.bl) us→us[i]? = some v→∃ b,bs[i]? = some b∧v=Value.bool b
 | [],_,i,v,.nil,h=>by simp at h
 | b :: r,_,0,v,.cons a t,h=>by
  simp at h;subst h;exact ⟨b,rfl,a⟩
 | b :: r,_,i + 1,v,.cons a t,h=>by
  obtain ⟨b',e,q⟩:=bools_get (bs:=r) (i:=i) t (by simpa using h);exact ⟨b',by simpa using e,q⟩
theorem all_range:∀ (bs:List Bool),((List.range bs.length).all fun i=>(bs[i]?).getD true)=bs.all id
 | []=>rfl
 | b :: r=>by
  rw [Zj,List.range_succ_eq_map,Yn,Yt,Yn];have e:=all_range r;simp only [Function.comp_def,List.getElem?_cons_succ,List.getElem?_cons_zero,Yp,id] at *;rw [← e]
theorem zBi (hc:X.calm=true):CallR X (.builtin "all") (fun xs H Q=>∃ (p:Addr) (bs:List Bool),xs=[.ref p]∧SqL X.K H p (bs.map V.bl)∧Q (.bl (bs.all id)) H):=by
 intro pins s σ H xs us Q I r h;obtain ⟨p,bs,rfl,hp,q⟩:=h;obtain ⟨u,rfl,ru⟩:=v1 r;cases (show u=Value.ref p from ru);obtain ⟨its,rv,pl,hz⟩:=I.list hp;have hl:=pl.isList;have hlt:p < s.heap.objs.size:=by obtain ⟨_,e,_⟩:=hl;exact Z9 e
 have hlen:its.length=bs.length:=by rw [← rv.length,Z0]
 refine call_all_walk (wpAny_pyIter_list hl ?_)
 refine ⟨s.heap.objs.size,[s.heap.objs.size,p],[s.heap.objs.size],its.toArray.size,_,_,fun i=>(bs[i]?).getD true,rfl,Walks.list (A:=X.A.in1) (I.ok.hd hc) _ p (Zg hlt) its.toArray,
  ⟨⟨_,Ze _ rfl,rfl,rfl⟩,hl.push _⟩,fun i v s' Q' E' hP hQ=>?_,fun h' tk hk=>?_⟩
 ·obtain ⟨b,e,rfl⟩:=bools_get rv (by simpa using hP);simp only [e,Yp] at hQ;exact wpAny_truthy_bool hQ
 ·rw [Zc,hlen,all_range];exact ⟨.bl _,H,I.kept (t':=tk) fun b o e=>hk b o (fun hm=>by rw [List.mem_singleton.mp hm] at e;exact Y0 _ (Z9 e)) (Z2 _ e),rfl,q⟩
noncomputable def Its (x:Str):It:=⟨fun i _=>i < x.length,fun i H v H'=>H'=H∧∃ c,x.cps[i]? = some c∧v=.str ⟨#[c]⟩,fun i _=>x.length≤i⟩
noncomputable def iStr (tl:TE):TI:=fun σ H R=>tl σ H fun v H1=>∃ x,v=.str x∧R (Its x) H1
theorem turn_str {P:Program}{w:World}{K:PySem.W.Frag}{y:Str}{py:Pos}{x:Str}{it:Addr}{St:Nat→Heap→Prop} (ho:∀ i h,St i h→∃ o,h.get? it=some o∧∀ v,o.data≠.cell v)
  (W:∀ A':Around,A'.handled=none→Walks P w A' it [it] [it] x.cps.size (SignAt x) St) (hself:∀ (A:Around) (i:Nat) (s:Shared) (Q:Value→Shared→Prop) (E:Value→Shared→Prop),St i s.heap→Q (.ref it) s→wpAny (model P w) A (pyIter (.ref it)) Q E s)
  (hst:∀ i h,St i h→i≤x.cps.size→True):Turn P w K (.Name y py) (Its x) [it] it (fun i h=>i≤x.cps.size∧St i h) where
 mem:=by simp
 obj:=fun i h st b hb=>by
  have e:b=it:=by simpa using hb
  subst e;exact ho i h st.2
 keep:=fun i h h' st k=>⟨st.1,(W { callerA with handled:=none } rfl).frame i h h' st.2 k⟩
 item:=by
  intro X hP hw hK hc i pins s σ H E I hf st hg;subst hP hw hK;obtain ⟨f0,f1,f2,f3,f4,f5⟩:=hf it (by simp);refine (W X.A (I.ok.hd hc)).item i s _ _ hg st.2 fun v h' tk hv st' kk=>?_;obtain ⟨c,u,hc',rfl⟩:=hv;have I1:Inv X pins σ H { s with heap:=h',toks:=tk }:=I.turned (fun b o hb e=>kk b o (by simpa using hb) e) f0 f1 f3 f4 f5;exact ⟨_,rfl,wpAny_pure ⟨.str ⟨#[c]⟩,H,I1,⟨u,rfl⟩,⟨rfl,c,hc',rfl⟩,⟨hg,st'⟩,fun b hb=>(hf b hb).1⟩⟩
 done:=by
  intro X hP hw hK hc i pins s σ H E I hf st hg;subst hP hw hK;obtain ⟨f0,f1,f2,f3,f4,f5⟩:=hf it (by simp);have e:i=x.cps.size:=Nat.le_antisymm st.1 hg;have st2:=st.2;rw [e] at st2;exact (W X.A (I.ok.hd hc)).done s _ _ st2 fun h' tk kk=>⟨rfl,I.turned (fun b o hb e=>kk b o (by simpa using hb) e) f0 f1 f3 f4 f5⟩
 self:=fun A i s Q E st h=>hself A i s Q E st.2 h
theorem pi_str {y:Str}{py:Pos}{l:Expr}{tl:TE} (hl:PE X l tl):PI X (.Name y py) l (iStr tl):=by
 intro pins s σ H R I h;refine thn (hl pins s σ H _ I h) fun v s1 ⟨x,H1,I1,r1,q1⟩=>?_;obtain ⟨z,rfl,q⟩:=q1;obtain ⟨t,rfl⟩:=r1;have fin:∀ {o:Obj}{St:Nat→Heap→Prop},Turn X.prog X.w X.K (.Name y py) (Its z) [s1.heap.objs.size] s1.heap.objs.size St→St 0 (s1.heap.push o)→PIE X pins σ (.Name y py) R (.ref s1.heap.objs.size) { s1 with heap:=s1.heap.push o }:=fun {o St} T st=>by
  refine ⟨s1.heap.objs.size,[s1.heap.objs.size],St,_,H1,rfl,I1.kept (t':=s1.toks) fun b o e=>Z2 _ e,T,st,fun b hb=>?_,q⟩;have e:b=s1.heap.objs.size:=by simpa using hb
  subst e;exact I1.fpOk (Z5 _) (I1.hok.fresh (Z5 _))
 cases ha:z.cps.all (· < 128)
 ·refine wpAny_pyIter_wide ha (fin (turn_str (fun i h st=>?_) (fun A' hA=>Walks.strWide hA _ z t) (fun A i s Q E st h=>wpAny_pyIter_striter_wide st h) fun _ _ _ _=>trivial) ⟨Zo _,⟨_,Ze _ rfl,rfl,rfl⟩⟩);obtain ⟨o,e,c,d⟩:=st;exact ⟨o,e,fun v q=>by rw [d] at q;cases q⟩
 ·refine wpAny_pyIter_ascii ha (fin (turn_str (fun i h st=>?_) (fun A' hA=>Walks.strAscii hA _ z t) (fun A i s Q E st h=>wpAny_pyIter_striter_ascii st h) fun _ _ _ _=>trivial) ⟨Zo _,⟨_,Ze _ rfl,rfl,rfl⟩⟩);obtain ⟨o,e,c,d⟩:=st;exact ⟨o,e,fun v q=>by rw [d] at q;cases q⟩
end
section
variable {X:Cx}{CX:CXT}{k:Nat}{f C:Addr}{fd:FuncData}{ps ks:List Str}{sp:Sp}{E:St→XK}{x:Str}{p pos:Pos}{e:Expr}{es:List Expr}{kws:List Keyword}{t tk:TA}{g:List Value→List Value→List Value}{gV:List V→List V→List V}
end
end L2
namespace L2
open PySem PySem.Spec PyProof.Rows
theorem log2_lt64 {j:Int} (h0:0 < j) (h1:j < 2 ^ 64):j.natAbs.log2 < 9000:=by
 have:j.natAbs < 2 ^ 64:=by omega
 have h:j.natAbs.log2 < 64:=(Nat.log2_lt (by omega)).mpr this;omega
noncomputable def CDivB (i j:Int):Prop:=0 < j∧j < 2 ^ 64
theorem op_fdivB {X:Cx}:OpR X (binaryOp .FloorDiv) (rI CDivB fun i j=>.int (i / j)):=opI fun i j _ _ _ _ _ hc q=>by
 have h1:(0:Int) < j:=hc.1;exact floordiv_int (by omega) (by rw [Int.fdiv_eq_ediv_of_nonneg i (by omega)];exact q) (.inl (PyProof.noPylong_of_log2 (log2_lt64 hc.1 hc.2)))
mutual
inductive Has (G:Addr→Prop) (H:Hp):V→PyData→Prop where
 | non:Has G H .non .none
 | bl (b:Bool):Has G H (.bl b) (.bool b)
 | int (i:Int):Has G H (.int i) (.int i)
 | str (x:Str) (hx:x.length≤1000) (ho:PyData.strOk x=true):Has G H (.str x) (.str x)
 | lst {a:Addr}{xs:List V}{ds:List PyData}:G a→H a=some (.lst xs)→xs.length≤1000→HasAll G H xs ds→Has G H (.ref a) (.list ds)
 | tup {a:Addr}{xs:List V}{ds:List PyData}:G a→H a=some (.tup xs)→xs.length≤1000→HasAll G H xs ds→Has G H (.ref a) (.tuple ds)
inductive HasAll (G:Addr→Prop) (H:Hp):List V→List PyData→Prop where
 | nil:HasAll G H [] []
 | cons {x:V}{xs:List V}{d:PyData}{ds:List PyData}:Has G H x d→HasAll G H xs ds→HasAll G H (x :: xs) (d :: ds)
end
noncomputable abbrev Any:Addr→Prop:=fun _=>True
noncomputable def isSeq:HO→Prop
 | .lst _=>True
 | .tup _=>True
 | _=>False
mutual
theorem Has.frameS {G G':Addr→Prop}{H H':Hp} (e:∀ a o,G a→isSeq o→H a=some o→G' a∧H' a=some o):∀ {v:V}{d:PyData},Has G H v d→Has G' H' v d
 | _,_,.non=>.non
 | _,_,.bl b=>.bl b
 | _,_,.int i=>.int i
 | _,_,.str x hx ho=>.str x hx ho
 | _,_,.lst (xs:=xs) g s z h=>.lst (e _ (.lst xs) g trivial s).1 (e _ (.lst xs) g trivial s).2 z (HasAll.frameS e h)
 | _,_,.tup (xs:=xs) g s z h=>.tup (e _ (.tup xs) g trivial s).1 (e _ (.tup xs) g trivial s).2 z (HasAll.frameS e h)
theorem HasAll.frameS {G G':Addr→Prop}{H H':Hp} (e:∀ a o,G a→isSeq o→H a=some o→G' a∧H' a=some o):∀ {vs:List V}{ds:List PyData},HasAll G H vs ds→HasAll G' H' vs ds
 | _,_,.nil=>.nil
 | _,_,.cons h t=>.cons (Has.frameS e h) (HasAll.frameS e t)
end
theorem Has.frame {G G':Addr→Prop}{H H':Hp}{v:V}{d:PyData} (h:Has G H v d) (e:∀ a o,G a→H a=some o→G' a∧H' a=some o):Has G' H' v d:=h.frameS fun a o g _ q=>e a o g q
theorem HasAll.frame {G G':Addr→Prop}{H H':Hp}{v:List V}{d:List PyData} (h:HasAll G H v d) (e:∀ a o,G a→H a=some o→G' a∧H' a=some o):HasAll G' H' v d:=h.frameS fun a o g _ q=>e a o g q
theorem Has.mono {G:Addr→Prop}{H H':Hp}{v:V}{d:PyData} (h:Has G H v d) (e:Same H H'):Has G H' v d:=h.frame fun a o g q=>⟨g,e a o q⟩
theorem HasAll.mono {G:Addr→Prop}{H H':Hp}{v:List V}{d:List PyData} (h:HasAll G H v d) (e:Same H H'):HasAll G H' v d:=h.frame fun a o g q=>⟨g,e a o q⟩
theorem Has.any {G:Addr→Prop}{H:Hp}{v:V}{d:PyData} (h:Has G H v d):Has Any H v d:=h.frame fun _ _ _ q=>⟨trivial,q⟩
section
variable {G:Addr→Prop}{H:Hp}
theorem HasAll.length:∀ {xs:List V}{ds:List PyData},HasAll G H xs ds→xs.length=ds.length
 | _,_,.nil=>rfl
 | _,_,.cons _ t=>by rw [Zj,Zj,HasAll.length t]
theorem HasAll.get:∀ {xs:List V}{ds:List PyData}{i:Nat}{x:V},HasAll G H xs ds→xs[i]? = some x→∃ d,ds[i]? = some d∧Has G H x d
 | _,_,i,x,.nil,h=>by simp at h
 | _,_,0,x,.cons a t,h=>by simp at h;subst h;exact ⟨_,rfl,a⟩
 | _,_,i + 1,x,.cons a t,h=>by
  obtain ⟨d,e,q⟩:=HasAll.get (i:=i) t (by simpa using h);exact ⟨d,by simpa using e,q⟩
theorem HasAll.snoc:∀ {xs:List V}{ds:List PyData}{x:V}{d:PyData},HasAll G H xs ds→Has G H x d→HasAll G H (xs++[x]) (ds++[d])
 | _,_,_,_,.nil,h=>.cons h .nil
 | _,_,_,_,.cons a t,h=>.cons a (HasAll.snoc t h)
theorem HasAll.append:∀ {xs ys:List V}{ds es:List PyData},HasAll G H xs ds→HasAll G H ys es→HasAll G H (xs++ys) (ds++es)
 | _,_,_,_,.nil,h=>h
 | _,_,_,_,.cons a t,h=>.cons a (HasAll.append t h)
theorem Has.list_inv {v:V}{ds:List PyData} (h:Has G H v (.list ds)):∃ a xs,v=.ref a∧G a∧H a=some (.lst xs)∧xs.length≤1000∧HasAll G H xs ds:=by
 cases h with
 | lst g s z q=>exact ⟨_,_,rfl,g,s,z,q⟩
theorem Has.tup_inv {v:V}{ds:List PyData} (h:Has G H v (.tuple ds)):∃ a xs,v=.ref a∧G a∧H a=some (.tup xs)∧xs.length≤1000∧HasAll G H xs ds:=by
 cases h with
 | tup g s z q=>exact ⟨_,_,rfl,g,s,z,q⟩
theorem Has.str_inv {v:V}{x:Str} (h:Has G H v (.str x)):v=.str x∧x.length≤1000∧PyData.strOk x=true:=by
 cases h with
 | str _ a b=>exact ⟨rfl,a,b⟩
mutual
theorem Has.lay:∀ {v:V}{d:PyData},Has G H v d→d.canLay0=true
 | _,_,.non=>rfl
 | _,_,.bl b=>rfl
 | _,_,.int i=>rfl
 | _,_,.str x _ ho=>ho
 | _,_,.lst _ _ _ h=>HasAll.lay h
 | _,_,.tup _ _ _ h=>HasAll.lay h
theorem HasAll.lay:∀ {vs:List V}{ds:List PyData},HasAll G H vs ds→PyData.canLayAll0 ds=true
 | _,_,.nil=>rfl
 | _,_,.cons h t=>by
  show (PyData.canLay0 _ && PyData.canLayAll0 _)=true;rw [Has.lay h,HasAll.lay t];rfl
end
end
section
variable {X:Cx}{pins:List (Addr×Obj)}{σ : St}{H:Hp}{s:Shared}{G:Addr→Prop}
mutual
theorem Has.reads (I:Inv X pins σ H s):∀ {v:V}{d:PyData}{u:Value},Has G H v d→RelV v u→∃ as,Reads s.heap u d as
 | _,_,u,.non,r=>by cases (show u=Value.none from r);exact ⟨_,.none⟩
 | _,_,u,.bl b,r=>by cases (show u=Value.bool b from r);exact ⟨_,.bool b⟩
 | _,_,u,.int i,r=>by obtain ⟨t,rfl⟩:=(show ∃ t,u=Value.int i t from r);exact ⟨_,.int i t⟩
 | _,_,u,.str x _ _,r=>by obtain ⟨t,rfl⟩:=(show ∃ t,u=Value.str x t from r);exact ⟨_,.str x t⟩
 | _,_,u,.lst (a:=a) _ q _ h,r=>by
  cases (show u=Value.ref a from r);obtain ⟨_,its,n,rv,e⟩:=I.hok a _ q;obtain ⟨as,ra⟩:=HasAll.reads I h rv;exact ⟨_,.list e rfl rfl (by simpa using ra)⟩
 | _,_,u,.tup (a:=a) _ q _ h,r=>by
  cases (show u=Value.ref a from r);obtain ⟨_,its,rv,⟨o,e,c,n,d⟩⟩:=I.hok a _ q;obtain ⟨as,ra⟩:=HasAll.reads I h rv;exact ⟨_,.tuple e c d (by simpa using ra)⟩
theorem HasAll.reads (I:Inv X pins σ H s):∀ {vs:List V}{ds:List PyData}{us:List Value},HasAll G H vs ds→Vals vs us→∃ as,ReadsAll s.heap us ds as
 | _,_,_,.nil,.nil=>⟨_,.nil⟩
 | _,_,_,.cons h t,.cons r rr=>by
  obtain ⟨as,ra⟩:=Has.reads I h r;obtain ⟨bs,rb⟩:=HasAll.reads I t rr;exact ⟨_,.cons ra rb⟩
end
end
theorem Has.shaped {G:Addr→Prop}{H:Hp}{v:V}{d:PyData} (h:Has G H v d) (hd:d.depth≤64):SeqAt.shaped d=true:=by
 unfold SeqAt.shaped;rw [h.lay,decide_eq_true hd];rfl
noncomputable def rEqD:R2:=fun x y H Q=>∃ d e,Has Any H x d∧Has Any H y e∧d.depth≤64∧e.depth≤64∧Q (.bl (PyData.eqv d e)) H
noncomputable def rNeD:R2:=fun x y H Q=>∃ d e,Has Any H x d∧Has Any H y e∧d.depth≤64∧e.depth≤64∧Q (.bl (!PyData.eqv d e)) H
theorem op_eqD {X:Cx} (hu:X.A.units + 64 < cLine):OpR X (compareOp .Eq) rEqD:=by
 intro pins s σ H x y u v Q I rx ry h;obtain ⟨d,e,hd,he,sd,se,q⟩:=h;obtain ⟨as,ra⟩:=hd.reads I rx;obtain ⟨bs,rb⟩:=he.reads I ry;exact eq_dataH ra rb (hd.shaped sd) (he.shaped se) hu ⟨.bl _,H,I,rfl,q⟩
theorem op_neD {X:Cx} (hu:X.A.units + 64 < cLine):OpR X (compareOp .NotEq) rNeD:=by
 intro pins s σ H x y u v Q I rx ry h;obtain ⟨d,e,hd,he,sd,se,q⟩:=h;obtain ⟨as,ra⟩:=hd.reads I rx;obtain ⟨bs,rb⟩:=he.reads I ry;exact ne_dataH ra rb (hd.shaped sd) (he.shaped se) hu ⟨.bl _,H,I,rfl,q⟩
theorem Has.eqv {G:Addr→Prop}{H:Hp}{v:V}{d:PyData} (h:Has G H v d):PyData.eqv d d=true:=SeqAt.eqv_refl d h.lay
section
variable {κ : Type} [DecidableEq κ]
noncomputable def dstep (acc:List κ) (x : κ):List κ:=if x∈acc then acc else acc++[x]
noncomputable def dl (l:List κ):List κ:=l.foldl dstep []
theorem dl_snoc (l:List κ) (x : κ):dl (l++[x])=dstep (dl l) x:=by unfold dl;rw [List.foldl_append];rfl
theorem zCl:∀ (l acc:List κ) (k : κ),k∈l.foldl dstep acc ↔ k∈acc∨k∈l
 | [],acc,k=>by simp
 | x :: r,acc,k=>by
  rw [Y5,zCl r];unfold dstep;by_cases h:x∈acc
  ·rw [if_pos h];constructor
   ·rintro (a | a)
    ·exact .inl a
    ·exact .inr (Z6 _ a)
   ·rintro (a | a)
    ·exact .inl a
    ·rcases List.mem_cons.mp a with rfl | a
     ·exact .inl h
     ·exact .inr a
  ·rw [if_neg h];simp only [List.mem_append,Zw,Zp,or_false];constructor
   ·rintro ((a | a) | a)
    ·exact .inl a
    ·exact .inr (.inl a)
    ·exact .inr (.inr a)
   ·rintro (a | a | a)
    ·exact .inl (.inl a)
    ·exact .inl (.inr a)
    ·exact .inr a
theorem mem_dl {l:List κ}{k : κ}:k∈dl l ↔ k∈l:=by unfold dl;rw [zCl];simp
theorem zBr:∀ (l acc:List κ),(l.foldl dstep acc).length≤acc.length + l.length
 | [],acc=>Z5 _
 | x :: r,acc=>by
  rw [Y5];refine Zl (zBr r _) ?_;unfold dstep;split
  ·rw [Zj];omega
  ·simp only [Z7,Zj,Xh];omega
theorem dl_len_le (l:List κ):(dl l).length≤l.length:=by have:=zBr l [];simpa [dl] using this
theorem zC2:∀ (l acc:List κ),(∀ x∈l,x∉acc)→l.Nodup→(l.foldl dstep acc).length=acc.length + l.length
 | [],acc,_,_=>rfl
 | x :: r,acc,h,hn=>by
  obtain ⟨h1,h2⟩:=List.nodup_cons.mp hn;have hx:x∉acc:=h x Zb;rw [Y5,show dstep acc x=acc++[x] from if_neg hx,zC2 r _ (fun y hy m=>?_) h2]
  ·simp;omega
  ·rcases List.mem_append.mp m with m | m
   ·exact h y (Z6 _ hy) m
   ·rw [List.mem_singleton.mp m] at hy;exact h1 hy
theorem zCm:∀ (l acc:List κ),((∃ x∈l,x∈acc)∨¬ l.Nodup)→(l.foldl dstep acc).length < acc.length + l.length
 | [],acc,h=>by
  rcases h with ⟨x,hx,_⟩ | h
  ·simp at hx
  ·exact absurd Xa h
 | x :: r,acc,h=>by
  rw [Y5];by_cases hx:x∈acc
  ·rw [show dstep acc x=acc from if_pos hx];have:=zBr r acc;simp only [Zj];omega
  ·rw [show dstep acc x=acc++[x] from if_neg hx];have ih:=zCm r (acc++[x]) ?_
   ·simp only [Z7,Zj,Xh] at *;omega
   ·rcases h with ⟨y,hy,ha⟩ | h
    ·rcases List.mem_cons.mp hy with rfl | hy
     ·exact absurd ha hx
     ·exact .inl ⟨y,hy,Yl _ ha⟩
    ·by_cases hr:x∈r
     ·exact .inl ⟨x,hr,by simp⟩
     ·exact .inr fun z=>h (List.nodup_cons.mpr ⟨hr,z⟩)
theorem dl_len_iff (l:List κ):decide ((dl l).length=l.length)=decide l.Nodup:=by
 by_cases h:l.Nodup
 ·have:=zC2 l [] (fun _ _ z=>by simp at z) h;rw [decide_eq_true h,decide_eq_true (by simpa [dl] using this)]
 ·have:=zCm l [] (.inr h);rw [decide_eq_false h,decide_eq_false (by simp [dl] at *;omega)]
variable {prog:Program}{w:World}{A:Around}{R:Result→Shared→Prop}{I:Addr}{fp wr:List Addr}{n:Nat}{P:Nat→Value→Prop}{St:Nat→Heap→Prop}
theorem SetOf_eqv {knd:KeyKind prog w κ}{h:Heap}{a:Addr}{S S' : κ→Bool}{m m':Nat} (x:h.SetOf knd a S m) (e:∀ k,S k=S' k) (em:m=m'):h.SetOf knd a S' m':=by
 have e':S=S':=funext e;subst e' em;exact x
theorem set_loopK (W:Walks prog w A.in1 I fp wr n P St) {D:Addr} (hD:D∉fp) {knd:KeyKind prog w κ}{ks:List κ} (hn:ks.length=n) (hval:∀ i v k,P i v→ks[i]? = some k→knd.is k v=true∧v.scannable=true) (hb:n + 1 < scanBound) :
  ∀ (j i:Nat) (z:Shared),n - i=j→i≤n→St i z.heap→z.heap.SetOf knd D (fun k=>decide (k∈ks.take i)) (dl (ks.take i)).length →
   (∀ h' tk,(∀ b o,b∉D :: wr→z.heap.get? b=some o→h'.get? b=some o)→h'.SetOf knd D (fun k=>decide (k∈ks)) (dl ks).length→R (.ok (.ret .none)) { z with heap:=h',toks:=tk }) →
   codeAny (model prog w) A (.builtin "set.update.loop" ⟨[.ref D,.ref I],[]⟩) R z:=by
 have hDw:D∉wr:=fun h=>hD (W.sub _ h);intro j
 induction j with
 | zero =>
  intro i z hj hi st hS hR;obtain rfl:i=n:=by omega
  refine codeAny_builtin PyProof.Rows.F.entry_set_update_loop ?_;rw [Around.under_plainId PyProof.Rows.F.plain_set_update_loop _];show wpAny _ A.in1 (pyNext (.ref I) >>= _) _ _ z;refine wpAny_bind (W.done z _ _ st fun h' tk kk=>?_);rw [List.take_of_length_le (Nat.le_of_eq hn)] at hS;obtain ⟨o,es,ep,t,ho,more⟩:=hS;exact wpAny_pure (hR h' tk (fun b o hb e=>kk b o (fun m=>hb (Z6 _ m)) e) ⟨o,es,ep,t,kk D _ hDw ho,more⟩)
 | succ j ih =>
  intro i z hj hi st hS hR;have lt:i < n:=by omega
  refine codeAny_builtin PyProof.Rows.F.entry_set_update_loop ?_;rw [Around.under_plainId PyProof.Rows.F.plain_set_update_loop _];show wpAny _ A.in1 (pyNext (.ref I) >>= _) _ _ z;refine wpAny_bind (W.item i z _ _ lt st fun v h1 tk1 hP st1 k1=>?_);have hk:ks[i]? = some (ks[i]'(by omega)):=Z1 _;obtain ⟨hv,hs⟩:=hval i v _ hP hk;obtain ⟨o,es,ep,t,ho,more⟩:=hS;have hS1:h1.SetOf knd D (fun k=>decide (k∈ks.take i)) (dl (ks.take i)).length:=⟨o,es,ep,t,k1 D _ hDw ho,more⟩;show wpAny _ A.in1 (holding [v] (setAdd D v) >>= _) _ _ _;refine wpAny_bind (wpAny_holding ?_);unfold setAdd;refine wpAny_holding (wpAny_bind (knd.pyHash hv ?_));have room:(dl (ks.take i)).length + 1 < scanBound:=by
   have a1:=dl_len_le (ks.take i);have a2:(ks.take i).length≤i:=Zt _ _;omega
  refine wpAny_setAddHashed_of (knd:=knd) (s:={ z with heap:=h1,toks:=tk1 + 1 }) hv hs hS1 room fun h2 sb2 hS2=>?_;have et:ks.take (i + 1)=ks.take i++[ks[i]'(by omega)]:=by rw [Zd,hk];rfl
  have hS3:h2.SetOf knd D (fun k=>decide (k∈ks.take (i + 1))) (dl (ks.take (i + 1))).length:=by
   refine SetOf_eqv hS2 (fun k=>?_) ?_
   ·rw [et,Xg];simp only [Bool.or_eq_true,decide_eq_true_eq,List.mem_append,List.mem_singleton]
   ·rw [et,dl_snoc];unfold dstep;by_cases q:ks[i]'(by omega)∈ks.take i
    ·rw [if_pos (by simpa using q),if_pos (mem_dl.mpr q)]
    ·rw [if_neg (by simpa using q),if_neg (fun z=>q (mem_dl.mp z)),Z7,List.length_singleton]
  refine wpAny_pure ⟨plainId_quiet PyProof.Rows.F.plain_set_update_loop _,ih (i + 1) _ (by omega) lt (W.frame _ h1 _ st1 fun b hb o e=>?_) hS3 fun h' tk kk hS'=>hR h' tk (fun b o hb e=>kk b o hb ?_) hS'⟩
  ·rw [sb2.2 b (fun q:b=D=>hD (by rw [← q];exact hb))];exact e
  ·rw [sb2.2 b (fun q:b=D=>hb (by rw [q];exact Zb))];exact k1 b o (fun m=>hb (Z6 _ m)) e
end
end L2
namespace L2
open PySem PySem.Spec PyProof.Rows
noncomputable abbrev bareSet (b:Bool):Obj:={ cls:=.type "set",dict:=none,data:=.set #[] 0 (.fresh 0 0 b) }
section
variable {κ : Type} [DecidableEq κ] {prog:Program}{w:World}{A:Around}{E:Value→Shared→Prop}{z:Shared}
noncomputable def SetMade (knd:KeyKind prog w κ) (ks:List κ) (z:Shared) (r:Value) (z':Shared):Prop :=
 r=.none∧∃ h' tk,z'={ z with heap:=h',toks:=tk }∧h'.SetOf knd z.heap.objs.size (fun k=>decide (k∈ks)) (dl ks).length∧∀ b o,b < z.heap.objs.size→z.heap.get? b=some o→h'.get? b=some o
set_option maxHeartbeats 6400000 in
theorem call_setK {knd:KeyKind prog w κ}{l:Addr}{its:Array Value}{ks:List κ}{Q:Value→Shared→Prop} (hh:A.handled=none) (hl:z.heap.IsList l its) (hn:ks.length=its.size)
  (hv:∀ (i:Nat) (v:Value) (k : κ),its[i]? = some v→ks[i]? = some k→knd.is k v=true∧v.scannable=true) (hb:its.size + 1 < scanBound)
  (h:∀ z',SetMade knd ks z .none z'→Q (.ref z.heap.objs.size) z'):wpAny (model prog w) A (call (.type "set") [.ref l]) Q E z:=by
 obtain ⟨mc,mt,m0⟩:=PySem.F.called_set.mro;have m1:=PySem.F.called_set.made;have m2:=PySem.F.called_set.sub;refine wpAny_call (codeAny_of_tree ?_);show wpAny _ _ (callAny (.type "set") _) _ _ _;refine wpAny_pure ⟨Code.quiet_builtin _ (by decide +kernel),codeAny_builtin PySem.F.entry_type_call ?_⟩;rw [Around.under_plain (weight_type_call_type "set" [.ref l] []) rfl];have m3:=PySem.F.called_set.notType;have m4:=PySem.F.called_set.canCreate;have m5:=PySem.F.typeCall_set_1 (.ref l)
 repeat (any_goals (first | assumption | wp_step))
 refine codeAny_mono (code_set_new_1 (.ref l) (E:=E) (Q₁:=fun r z1=>∃ b:Bool,r=.ref z.heap.objs.size∧z1={ z with heap:=z.heap.push (bareSet b) }) fun b=>⟨b,rfl,rfl⟩) fun r z1 hr=>?_;cases r with
 | error e=>exact hr
 | ok fl =>
  cases fl with
  | next=>exact hr.elim
  | brk=>exact hr.elim
  | cont=>exact hr.elim
  | ret r =>
   obtain ⟨b,rfl,rfl⟩:=hr;have g0:(z.heap.push (bareSet b)).get? z.heap.objs.size=some (bareSet b):=Ze _ rfl;have ty:Shared.TypeIs { z with heap:=z.heap.push (bareSet b) } (.ref z.heap.objs.size) "set":=⟨_,g0,rfl⟩;have i1:=PySem.F.called_set.init.lookup;have i2:=PySem.F.called_set.init.bind (.ref z.heap.objs.size)
   repeat (any_goals (first | assumption | wp_step))
   refine codeAny_mono (codeAny_call_builtin (R:=wants (SetMade knd ks z) E) PySem.F.called_set.init.plain PySem.F.entry_set_init (check_set_init_1 ty ?_)) fun r2 z2 hr2=>?_
   ·obtain ⟨⟨oc,od,odt,osl⟩,ho,c1,nl,d1⟩:=hl;simp only at c1 d1;subst c1 d1;have ho1:(z.heap.push (bareSet b)).get? l=some { cls:=.type "list",dict:=od,data:=.seq its nl,slots:=osl }:=Z2 _ ho;have s1:=PySem.F.sub_list_set;have s2:=PySem.F.sub_list_frozenset;have s3:(Value.type "list" == Value.type "dict")=false:=by decide
    have hl1:(z.heap.push (bareSet b)).IsList l its:=⟨_,ho1,rfl,nl,rfl⟩;unfold Builtin.«set.__init__» noKeywords Builtin.Frozenset.updateFrom;generalize ePI:pyIter=PI
    wp_walk
    subst ePI;refine wpAny_pyIter_list hl1 ?_;refine wpAny_bind (wpAny_runValue ?_);have lt:l < z.heap.objs.size:=Z9 ho;have sz1:(z.heap.push (bareSet b)).objs.size=z.heap.objs.size + 1:=Y9 _ _;have neI:l≠(z.heap.push (bareSet b)).objs.size:=by rw [sz1];exact Zg (Ye lt)
    have nD:z.heap.objs.size∉[(z.heap.push (bareSet b)).objs.size,l]:=by
     rw [sz1];simp only [Zw,Zp,or_false,not_or];exact ⟨Zg (Yb _),Xd lt⟩
    refine set_loopK (Walks.list (by simp [hh]) _ l neI its) nD (knd:=knd) (ks:=ks) hn hv hb (its.size - 0) 0 _ (by omega) (Zo _) ⟨⟨_,Ze _ rfl,rfl,rfl⟩,hl1.push _⟩ ?_ fun h' tk kk hS=>?_
    ·refine SetOf_eqv ((PyProof.Rows.setObjOf_fresh (knd:=knd) b).setOf (Z2 _ g0) (by unfold scanBound;omega)) (fun k=>?_) rfl;simp
    ·show wpAny _ _ _ _ _ _;refine wpAny_pure ?_;show wpAny _ _ (ret Value.none) _ _ _;refine wpAny_pure ⟨rfl,h',tk,rfl,hS,fun c o hc e=>kk c o ?_ (Z2 _ (Z2 _ e))⟩;rw [sz1];simp only [Zw,Zp,or_false,not_or];exact ⟨Zg hc,Zg (Ye hc)⟩
   ·cases r2 with
    | error e=>exact hr2
    | ok fl2 =>
     cases fl2 with
     | next=>exact hr2.elim
     | brk=>exact hr2.elim
     | cont=>exact hr2.elim
     | ret r =>
      have hs:=hr2;obtain ⟨rfl,h',tk,rfl,hS,kk⟩:=hr2
      repeat (any_goals (first | assumption | wp_step))
      exact h _ hs
end
noncomputable def SetS (P:Program) (w:World) (p:Addr) (ks:List Str):HO:=.ext fun h=>h.SetOf (strKind P w) p (fun k=>decide (k∈ks)) (dl ks).length
section
variable {X:Cx}
theorem strs_get:∀ {ks:List Str}{us:List Value}{i:Nat}{v:Value}{k:Str},Vals (ks.map V.str) us→us[i]? = some v→ks[i]? = some k→∃ t,v=Value.str k t
 | [],_,i,v,k,.nil,h,_=>by simp at h
 | b :: r,_,0,v,k,.cons a t,h,hk=>by
  simp at h hk;subst h hk;exact a
 | b :: r,_,i + 1,v,k,.cons a t,h,hk=>strs_get (ks:=r) (i:=i) t (by simpa using h) (by simpa using hk)
theorem zGu (hc:X.calm=true):CallR X (.type "set") (fun xs H Q=>∃ (p:Addr) (ks:List Str),xs=[.ref p]∧SqL X.K H p (ks.map V.str)∧ks.length≤4000∧∀ d,H d=none→Q (.ref d) (upd H d (SetS X.prog X.w d ks))):=by
 intro pins s σ H xs us Q I r h;obtain ⟨p,ks,rfl,hp,hz,q⟩:=h;obtain ⟨u,rfl,ru⟩:=v1 r;cases (show u=Value.ref p from ru);obtain ⟨its,rv,pl,_⟩:=I.list hp;have hlen:its.length=ks.length:=by rw [← rv.length,Z0]
 refine call_setK (knd:=strKind X.prog X.w) (ks:=ks) (I.ok.hd hc) pl.isList (by rw [Zc,hlen]) (fun i v k h1 h2=>?_) (by rw [Zc,hlen];unfold scanBound;omega) fun z' hs=>?_
 ·obtain ⟨t,rfl⟩:=strs_get rv (by simpa using h1) h2;exact ⟨strKind_is _ _ _ _,rfl⟩
 ·obtain ⟨_,h',tk,rfl,hS,kk⟩:=hs;refine ⟨.ref s.heap.objs.size,_,I.laid (t':=tk) (a:=s.heap.objs.size) (o:=SetS X.prog X.w s.heap.objs.size ks) (fun b o e=>kk b o (Z9 e) e) (Z5 _) ?_,rfl,q _ (I.hok.fresh (Z5 _))⟩;refine ⟨hS,?_,fun h1 h2 hs1 k12=>?_⟩
  ·obtain ⟨o,_,_,_,e,_⟩:=hS;exact ⟨o,e⟩
  ·obtain ⟨o,es,ep,t,e,more⟩:=hs1;exact ⟨o,es,ep,t,k12 o e,more⟩
theorem zE3:CallR X (.builtin "len") (fun xs H Q=>∃ (d:Addr) (ks:List Str),xs=[.ref d]∧H d=some (SetS X.prog X.w d ks)∧ks.length≤4000∧Q (.int (dl ks).length) H):=by
 intro pins s σ H xs us Q I r h;obtain ⟨d,ks,rfl,hd,hz,q⟩:=h;obtain ⟨u,rfl,ru⟩:=v1 r;cases (show u=Value.ref d from ru);obtain ⟨hS,_,_⟩:=I.hok d _ hd;obtain ⟨o,es,ep,t,e,hex,hdt,_,_,hb,hf,hn⟩:=hS;refine call_len_set e hex hdt hf ?_ ?_
 ·unfold scanBound at hb;omega
 ·rw [hn];exact ⟨.int _,H,I.tok _,⟨_,rfl⟩,q⟩
end
end L2
namespace L2
open PySem PySem.Spec PyProof.Rows
theorem ScOk.auto {X:Cx}{sc:Scope}{cl:List (Str×Addr)}{T:List Str} (h1:closureFor sc X.env=pure cl:=by rfl) (h2:(sc.names.all fun y=>y.2 != .cell)=true:=by rfl) (h3:sc.kind=.function:=by rfl)
  (h4:(sc.names.all fun x=>x.2 != .local || sc.names.lookup x.1 == some .local)=true:=by rfl)
  (h5:ClOk X cl:=by first | exact trivial | exact ⟨rfl,trivial⟩ | exact ⟨rfl,rfl,trivial⟩ | exact ⟨rfl,rfl,rfl,trivial⟩ | exact ⟨rfl,rfl,rfl,rfl,trivial⟩)
  (h6:(sc.names.all fun x=>x.2 != .free || ((cl.lookup x.1).isSome && (X.env.scope.names.lookup x.1 == some .cell || X.env.scope.names.lookup x.1 == some .free)))=true:=by rfl)
  (h7:(X.N.all fun x=>sc.names.lookup x != some .local)=true:=by rfl):ScOk X sc cl T where
 clos:=h1
 cell:=fun y hy=>by have:=List.all_eq_true.mp h2 y hy;simpa using this
 kind:=h3
 names:=fun x hx hl=>by
  have:=List.all_eq_true.mp h4 x hx;rw [hl] at this
  simpa using this
 cls:=h5
 has:=fun x hx hf=>by
  have:=List.all_eq_true.mp h6 x hx;rw [hf] at this
  simpa using this
 out:=fun x hx=>by have:=List.all_eq_true.mp h7 x hx;simpa using this
theorem zF7 {J:It}{n k:Nat}{σ : St}{H:Hp}{g:TG}{tt:TT}{te:TE}{Q:VK} (Pv:Nat→List V→Hp→Prop) (h0:Pv 0 [] H) (go:∀ i ys H,i < n→Pv i ys H→J.go i H) (stop:∀ ys H,Pv n ys H→J.stop n H)
  (hz:∀ i ys H,i≤n→Pv i ys H→ys.length≤sizeLine)
  (hs:∀ i ys H x H',i < n→Pv i ys H→J.yld i H x H'→∀ N:List V→Hp→Prop,(∀ ys H,Pv (i + 1) ys H→N ys H)→g x (σ++List.replicate k none) H' fun σ2 H2=>tt σ2 H2 fun b H3=>if b=true then te σ2 H3 fun y H4=>N (ys++[y]) H4 else N ys H3)
  (hd:∀ ys H,Pv n ys H→∀ p,H p=none→Q (.ref p) (upd H p (.lst ys))):CompGoal J k σ H g tt te Q:=by
 refine ⟨fun i m ys H=>m=n - i∧i≤n∧Pv i ys H,⟨n,by simp,Zo _,h0⟩,?_⟩;rintro i m ys H ⟨rfl,hi,p⟩;by_cases lt:i < n
 ·exact .inr ⟨go i ys H lt p,hz _ _ _ hi p,fun x H' y=>hs i ys H x H' lt p y (fun ys' H'=>∃ m',m' < n - i∧m'=n - (i + 1)∧i + 1≤n∧Pv (i + 1) ys' H') fun ys' H' q=>⟨n - (i + 1),by omega,rfl,lt,q⟩⟩
 ·obtain rfl:i=n:=by omega
  exact .inl ⟨stop _ _ p,hz _ _ _ hi p,hd _ _ p⟩
theorem zE1 {x:Str}{k:Nat}{σ : St}{H:Hp}{g:TG}{tt:TT}{te:TE}{Q:VK} (p:Nat→Bool) (f:Nat→V) (hz:x.length≤sizeLine)
  (hs:∀ c (Ry:VK) (Rn:Hp→Prop),(p c=true→Ry (f c) H)→(p c=false→Rn H)→g (.str ⟨#[c]⟩) (σ++List.replicate k none) H fun σ2 H2=>tt σ2 H2 fun b H3=>if b=true then te σ2 H3 Ry else Rn H3)
  (hd:∀ q,H q=none→Q (.ref q) (upd H q (.lst ((x.cps.toList.filter p).map f)))):CompGoal (Its x) k σ H g tt te Q:=by
 have hlen:x.cps.toList.length=x.length:=by rw [Y3];rfl
 refine zF7 (J:=Its x) (n:=x.length) (fun i ys H'=>H'=H∧ys=((x.cps.toList.take i).filter p).map f) ⟨rfl,rfl⟩ (fun i ys H' lt _=>lt) (fun ys H' _=>Z5 _) (fun i ys H' hi q=>?_) ?_ ?_
 ·obtain ⟨_,rfl⟩:=q;rw [Z0];have a:=Yw p (x.cps.toList.take i);have b:=Zt i x.cps.toList;omega
 ·rintro i ys H' v H2 lt ⟨rfl,rfl⟩ ⟨rfl,c,hc,rfl⟩ N hN;have hc':x.cps.toList[i]? = some c:=by rw [Yj];exact hc
  refine hs c _ _ (fun e=>hN _ _ ⟨rfl,?_⟩) (fun e=>hN _ _ ⟨rfl,?_⟩)
  ·rw [Zd,hc',Yu];simp [e]
  ·rw [Zd,hc',Yu];simp [e]
 ·rintro ys H' ⟨rfl,rfl⟩ q hq;rw [← hlen,Zh];exact hd q hq
theorem zAl {K:PySem.W.Frag}{a:Addr}{xs:List V}{k:Nat}{σ : St}{H:Hp}{g:TG}{tt:TT}{te:TE}{Q:VK} (Pv:Nat→List V→Hp→Prop) (h0:Pv 0 [] H) (hl:∀ i ys H,Pv i ys H→SqL K H a xs)
  (hz:∀ i ys H,i≤xs.length→Pv i ys H→ys.length≤sizeLine)
  (hs:∀ i x ys H,xs[i]? = some x→Pv i ys H→∀ N:List V→Hp→Prop,(∀ ys H,Pv (i + 1) ys H→N ys H)→g x (σ++List.replicate k none) H fun σ2 H2=>tt σ2 H2 fun b H3=>if b=true then te σ2 H3 fun y H4=>N (ys++[y]) H4 else N ys H3)
  (hd:∀ ys H,Pv xs.length ys H→∀ p,H p=none→Q (.ref p) (upd H p (.lst ys))):CompGoal (Itl K a) k σ H g tt te Q:=by
 refine zF7 (J:=Itl K a) (n:=xs.length) Pv h0 (fun i ys H lt p=>⟨xs,xs[i],hl i ys H p,Z1 lt⟩) (fun ys H p=>⟨xs,hl _ ys H p,Z5 _⟩) hz ?_ hd;rintro i ys H x H' lt p ⟨rfl,y⟩ N hN;exact hs i x ys _ (y xs (hl _ _ _ p)) p N hN
theorem comp_range {lo:Int}{n k:Nat}{σ : St}{H:Hp}{g:TG}{tt:TT}{te:TE}{Q:VK} (Pv:Nat→List V→Hp→Prop) (h0:Pv 0 [] H)
  (hz:∀ i ys H,i≤n→Pv i ys H→ys.length≤sizeLine)
  (hs:∀ i ys H,i < n→Pv i ys H→∀ N:List V→Hp→Prop,(∀ ys H,Pv (i + 1) ys H→N ys H)→g (.int (lo + i)) (σ++List.replicate k none) H fun σ2 H2=>tt σ2 H2 fun b H3=>if b=true then te σ2 H3 fun y H4=>N (ys++[y]) H4 else N ys H3)
  (hd:∀ ys H,Pv n ys H→∀ p,H p=none→Q (.ref p) (upd H p (.lst ys))):CompGoal (Itr lo n) k σ H g tt te Q:=by
 refine zF7 (J:=Itr lo n) (n:=n) Pv h0 (fun i ys H lt p=>lt) (fun ys H p=>Z5 _) hz ?_ hd;rintro i ys H x H' lt p ⟨rfl,rfl⟩ N hN;exact hs i ys _ lt p N hN
theorem pick {A B:St→Hp→Prop}{σ : St}{H:Hp}{i:Nat}{x:V} (h:A (σ.set i (some x)) H):gName i x σ H fun σ2 H2=>tYes σ2 H2 fun b H3=>if b=true then A σ2 H3 else B σ2 H3:=by
 show if true=true then A (σ.set i (some x)) H else B (σ.set i (some x)) H
 rw [if_pos rfl];exact h
theorem Fun.okC {P:Program}{w:World}{K:PySem.W.Frag}{mg:Str→Option Value}{base:Heap}{CX:CXT}{x qual:Str}{st:Stmt}{f:Addr}{fd:FuncData}{N ps:List Str}{k:Nat}{sp:Sp} (F:Fun K x qual st f fd) (S:FnScope N ps (defScope st)) (len:∀ vs H Q E,sp vs H Q E→vs.length=ps.length)
  (hbody:∀ (cdv:Value) (A:Around) (outer:List Env) (s:Shared) (H:Hp) (vs:List V) (Q:VK) (E:XK),Room k (A.deeper (envOfC qual (defScope st) s.heap.objs.size f cdv))→sp vs H Q E →
   ∃ t,PSs (cxOf CX P w K mg base N qual (defScope st) f cdv A outer s H E).nox (defBody st) t∧t { nx:=fun _ H'=>Q .non H',rt:=Q } (start N vs) H):FnOk P w K mg base CX (k + 1) f fd ps sp:=by
 obtain ⟨oc,od,kV,doc,pm,an,cdv,ct,osl,rfl,lk,hcd⟩:=F.ex;refine fn_of lk hcd S len fun A outer s H vs Q E hr hsp=>?_;obtain ⟨t,h,q⟩:=hbody cdv A outer s H vs Q E hr hsp;exact ⟨t,h.nox,q⟩
noncomputable def Calm (CX:CXT):Prop:=∀ o H s e s',CX o H s (fun _ _ _=>False) e s'→False
theorem passC {CX:CXT} (h:Calm CX) {X:Cx}:Passes CX X E0:=fun _ _ _ _ _ _ _ q=>(h _ _ _ _ _ q).elim
structure Def (K:PySem.W.Frag) (mg:Str→Option Value) (x:Str) (st:Stmt) (ps:List Str) (f:Addr) (fd:FuncData):Prop where
 fn:Fun K x x st f fd
 at_:mg x=some (.ref f)
 bind:Binds K fd ps []
theorem Same.new {H:Hp}{p:Addr}{o:HO} (h:H p=none):Same H (upd H p o):=fun b u e=>by rw [zA8 (zA5 e h)];exact e
end L2
namespace L2
open PySem PySem.Spec PyProof.Rows
section
variable {X:Cx}{pins:List (Addr×Obj)}{σ : St}{H:Hp}{s:Shared}
theorem Inv.adopt {T:Addr}{o:HO} (I:Inv X pins σ H s) (hn:H T=none) (h1:X.s₀.heap.objs.size≤T) (hL:T≠X.env.locals) (h2:∀ x c,X.env.cells.lookup x=some c→c≠T) (h3:∀ p∈X.pn++pins,p.1≠T)
  (new:ObjOk X.prog X.w (upd H T o) s.heap T o):Inv X pins σ (upd H T o) s:=by
 refine I.step (h':=s.heap) (g':=s.gens) (d':=s.drawn) (t':=s.toks) (ch:=[T]) (fun b hb=>?_) (fun b o _ _ _ e _=>e) (fun b o _ _ _ e _=>⟨o.slots,e⟩) (fun b o hc e n=>?_) (fun b o _ e=>⟨o,e⟩)
  (fun b xs e=>?_) (fun b o u e=>?_) (fun b ps e=>⟨#[],?_⟩) (fun m h=>h) (fun b u e=>?_) I.bare
 ·have e:b=T:=by simpa using hb
  subst e;exact ⟨.inr (Yk h1),hL,h2,h3⟩
 ·rw [zA8 (fun z=>hc (by simp [z]))];exact n
 ·rw [zA8 (zA5 e hn)];exact e
 ·rw [zA8 (zA5 e hn)];exact e
 ·rw [zA8 (zA5 e hn),e];simp
 ·by_cases hb:b=T
  ·subst hb;rw [zA1] at e;cases e;exact new
  ·rw [zA8 hb] at e;exact (I.hok b u e).stay (fun c v _ q=>q) (fun c q=>by rw [zA8 (zA5 q hn)];exact q) fun c xs q=>by rw [zA8 (zA5 q hn)];exact q
theorem Inv.turns {h':Heap}{t':Nat}{ch:List Addr} (I:Inv X pins σ H s) (k:∀ b o,b∉ch→s.heap.get? b=some o→h'.get? b=some o) (hf:∀ b∈ch,FpOk X pins H b):Inv X pins σ H { s with heap:=h',toks:=t' }:=by
 have nit:∀ b u,H b=some u→b∉ch:=fun b u e z=>by rw [(hf b z).1] at e;cases e
 refine I.step (g':=s.gens) (d':=s.drawn) (ch:=ch) (fun b hb=>⟨(hf b hb).2.2.2.1.imp_right fun z=>Yk z,(hf b hb).2.1,(hf b hb).2.2.2.2.1,(hf b hb).2.2.2.2.2⟩) (fun b o _ _ hc e _=>k b o hc e) (fun b o _ _ hc e _=>⟨o.slots,k b o hc e⟩) (fun _ _ _ _ n=>n)
  (fun b o hc e=>⟨o,k b o hc e⟩) (fun _ _ e=>e) (fun _ _ _ e=>e) (fun b ps e=>⟨#[],by rw [e];simp⟩) (fun m hm=>?_) (fun b u e=>?_) I.bare
 ·obtain ⟨o,es,ep,ho,r⟩:=hm;exact ⟨o,es,ep,k _ o (fun z=>(hf _ z).2.1 rfl) ho,r⟩
 ·refine (I.hok b u e).stay (fun c v hc q=>k c v ?_ q) (fun _ q=>q) fun _ _ q=>q;rcases hc with z | z
  ·rw [z];exact nit b u e
  ·exact nit c _ z
end
noncomputable def Itz (K:PySem.W.Frag) (a b:Addr):It :=
 ⟨fun i H=>∃ xs ys x y,SqL K H a xs∧SqL K H b ys∧xs[i]? = some x∧ys[i]? = some y,
  fun i H v H'=>∃ p x y,v=.ref p∧H p=none∧H'=upd H p (.tup [x,y])∧(∀ xs,SqL K H a xs→xs[i]? = some x)∧∀ ys,SqL K H b ys→ys[i]? = some y,
  fun i H=>∃ xs ys,SqL K H a xs∧SqL K H b ys∧(xs.length≤i∨ys.length≤i)⟩
theorem turn_zip {P:Program}{w:World}{K:PySem.W.Frag}{es:List Expr}{x1:_}{pos:Pos}{l1 l2 z TI TO i1 i2:Addr} (D:ZipApart z TI TO i1 i2 l1 l2) :
  Turn P w K (.Tuple es x1 pos) (Itz K l1 l2) [z,TO,i1,i2,TI] z (fun i h=>IsZip h z TI TO .none∧IsPair h TI (.ref i1) (.ref i2)∧(∃ a b,IsPair h TO a b)∧h.IsListIter i1 l1 i∧h.IsListIter i2 l2 i) where
 mem:=by simp
 obj:=fun i h st b hb=>by
  obtain ⟨h1,h2,⟨a,c,h3⟩,⟨o4,h4,_,d4⟩,⟨o5,h5,_,d5⟩⟩:=st;simp only [Zw,Zp,or_false] at hb;rcases hb with rfl | rfl | rfl | rfl | rfl
  ·exact ⟨_,h1,fun v q=>by cases (show Data.fields _=Data.cell v from q)⟩
  ·exact ⟨_,h3,fun v q=>by cases (show Data.seq _ _=Data.cell v from q)⟩
  ·exact ⟨_,h4,fun v q=>by rw [d4] at q;cases q⟩
  ·exact ⟨_,h5,fun v q=>by rw [d5] at q;cases q⟩
  ·exact ⟨_,h2,fun v q=>by cases (show Data.seq _ _=Data.cell v from q)⟩
 keep:=fun i h h' st k=>by
  obtain ⟨h1,h2,⟨a,c,h3⟩,h4,h5⟩:=st;exact ⟨k z (by simp) _ h1,k TI (by simp) _ h2,⟨a,c,k TO (by simp) _ h3⟩,h4.at fun o e=>k i1 (by simp) o e,h5.at fun o e=>k i2 (by simp) o e⟩
 item:=by
  intro X hP hw hK hc i pins s σ H E I hf st hg;subst hP hw hK;obtain ⟨h1,h2,⟨a,c,h3⟩,h4,h5⟩:=st;obtain ⟨xs,ys,x,y,qx,qy,ex,ey⟩:=hg;obtain ⟨its,rx,px,_⟩:=I.list qx;obtain ⟨jts,ry,py,_⟩:=I.list qy;obtain ⟨u,hu,ru⟩:=rx.get ex;obtain ⟨v,hv,rv⟩:=ry.get ey;refine wpAny_pyNext_zip_item D h1 h2 h3 h4 h5 px.isList py.isList (by simpa using hu) (by simpa using hv) fun h' a1 a2 a3 a4 a5 a6 a7=>?_;refine ⟨_,rfl,wpAny_letOwnedTupleGo_zip a1 fun h2' b1 sb=>?_⟩;have nz:s.heap.objs.size≠z:=fun e=>by have:=Z9 h1;rw [← e] at this;exact Y0 _ this
  have J:Inv X pins σ H { s with heap:=h2' }:=I.turns (t':=s.toks) (ch:=[z,TO,i1,i2,TI]) (fun b o hb e=>by
   simp only [Zw,Zp,or_false,not_or] at hb
   exact (sb.2 b hb.1).trans (a7 b o hb.1 hb.2.1 hb.2.2.1 hb.2.2.2.1 e)) hf
  have gT:h2'.get? s.heap.objs.size=some { cls:=.type "tuple",data:=.seq #[u,v] }:=(sb.2 _ nz).trans a5;have fT:H s.heap.objs.size=none:=I.hok.fresh (Z5 _)
  have J2:Inv X pins σ (upd H s.heap.objs.size (.tup [x,y])) { s with heap:=h2' }:=J.adopt fT I.sz (Xd I.lt) (fun n c e=>by
    obtain ⟨w',q⟩:=I.cell n c e
    exact Zg q.lt) (fun p hp=>Zg (Z9 (I.pin p hp).1)) ⟨by show 2≤sizeLine;decide,[u,v],.cons ru (.cons rv .nil),⟨_,gT,rfl,_,rfl⟩⟩
  have keepB:∀ b o,b≠z→h'.get? b=some o→h2'.get? b=some o:=fun b o hb e=>(sb.2 b hb).trans e;refine ⟨.ref s.heap.objs.size,_,J2,rfl,⟨_,x,y,rfl,fT,rfl,fun zs hz=>by rw [I.list_inj hz qx];exact ex,fun zs hz=>by rw [I.list_inj hz qy];exact ey⟩,⟨b1,keepB _ _ D.TIz (a7 _ _ D.TIz D.TITO D.TIi1 D.TIi2 h2),⟨_,_,keepB _ _ D.TOz a2⟩,a3.at fun o e=>keepB _ _ D.i1z e,a4.at fun o e=>keepB _ _ D.i2z e⟩,fun b hb=>?_⟩;have hb':=(hf b hb).1;have:b≠s.heap.objs.size:=by
   rintro rfl;obtain ⟨o,e⟩:∃ o,s.heap.get? s.heap.objs.size=some o:=by
    simp only [Zw,Zp,or_false] at hb;rcases hb with e | e | e | e | e <;> rw [e]
    ·exact ⟨_,h1⟩
    ·exact ⟨_,h3⟩
    ·obtain ⟨o,q,_⟩:=h4;exact ⟨o,q⟩
    ·obtain ⟨o,q,_⟩:=h5;exact ⟨o,q⟩
    ·exact ⟨_,h2⟩
   exact Y0 _ (Z9 e)
  rw [zA8 this];exact hb'
 done:=by
  intro X hP hw hK hc i pins s σ H E I hf st hg;subst hP hw hK;obtain ⟨h1,h2,⟨a,c,h3⟩,h4,h5⟩:=st;obtain ⟨xs,ys,qx,qy,hend⟩:=hg;obtain ⟨its,rx,px,_⟩:=I.list qx;obtain ⟨jts,ry,py,_⟩:=I.list qy;have e1:=rx.length;have e2:=ry.length;refine wpAny_pyNext_zip_end (I.ok.hd hc) D h1 h2 h3 h4 h5 px.isList py.isList ?_ fun h' kk=>⟨rfl,I.turns (t':=s.toks) (ch:=[z,TO,i1,i2,TI]) (fun b o hb e=>?_) hf⟩
  ·rcases hend with q | q
   ·exact .inl (by simp;omega)
   ·exact .inr (by simp;omega)
  ·simp only [Zw,Zp,or_false,not_or] at hb;exact kk b o hb.1 hb.2.1 hb.2.2.1 hb.2.2.2.1 e
 self:=fun _ _ _ _ _ st h=>wpAny_pyIter_zip st.1 h
noncomputable def iZip (K:PySem.W.Frag) (ta:TA):TI:=fun σ H R=>ta σ H fun vs H1=>∃ a b,vs=[.ref a,.ref b]∧(∃ xs,SqL K H1 a xs)∧(∃ ys,SqL K H1 b ys)∧R (Itz K a b) H1
section
variable {X:Cx}
theorem pi_zip {es:List Expr}{x1:_}{tp:Pos}{e1 e2:Expr}{ta:TA}{p pos:Pos} (hg:Gl X "zip") (hm:X.mg "zip" = none) (ha:PA X [e1,e2] ta) (hs:starEach [e1,e2] X.env=[(false,eval e1 X.env),(false,eval e2 X.env)]:=by rfl) (hs2:starEach [e2] X.env=[(false,eval e2 X.env)]:=by rfl) :
  PI X (.Tuple es x1 tp) (.Call (.Name "zip" p) [e1,e2] [] pos) (iZip X.K ta):=by
 intro pins s σ H R I h;refine Call_ (zEy I hg hm boot_zip (PyProof.Rows.callWith_type1 (thn (ha pos pins s σ H _ I h) fun us s1 ⟨vs,H1,I1,r1,q1⟩=>?_) (by rw [hs,hs2]) (by rw [hs2];rfl)));obtain ⟨a,b,rfl,⟨xs,qx⟩,⟨ys,qy⟩,q⟩:=q1;obtain ⟨u,v,rfl,ru,rv⟩:=v2 r1;cases (show u=Value.ref a from ru);cases (show v=Value.ref b from rv);obtain ⟨its,rx,px,_⟩:=I1.list qx;obtain ⟨jts,ry,py,_⟩:=I1.list qy;have la:a < s1.heap.objs.size:=by obtain ⟨_,e,_⟩:=px.isList;exact Z9 e
 have lb:b < s1.heap.objs.size:=by obtain ⟨_,e,_⟩:=py.isList;exact Z9 e
 refine call_zip_2 px.isList py.isList fun h' a1 a2 a3 a4 a5 a6 a7=>wpAny_pyIter_zip a1 ?_;have I2:Inv X pins σ H1 { s1 with heap:=h' }:=I1.kept (t':=s1.toks) a7;refine ⟨s1.heap.objs.size + 4,[s1.heap.objs.size + 4,s1.heap.objs.size + 3,s1.heap.objs.size,s1.heap.objs.size + 1,s1.heap.objs.size + 2],_,_,H1,rfl,I2,turn_zip (PyProof.Rows.zipApart_new la lb),⟨a1,a2,⟨_,_,a3⟩,a4,a5⟩,fun c hc=>?_,q⟩;have hc':s1.heap.objs.size≤c:=by
  simp only [Zw,Zp,or_false] at hc;rcases hc with e | e | e | e | e
  ·rw [e];exact Nat.le_add_right _ _
  ·rw [e];exact Nat.le_add_right _ _
  ·rw [e];exact Z5 _
  ·rw [e];exact Nat.le_add_right _ _
  ·rw [e];exact Nat.le_add_right _ _
 exact I1.fpOk hc' (I1.hok.fresh hc')
theorem mt_index:MtR X "str.index" (fun x xs H Q=>∃ z y i r,x=.str z∧xs=[.str y]∧Builtin.Str.occurrences z y 0 z.length 1=i :: r∧Q (.int (i:Nat)) H):=by
 intro pins s σ H x xs v us Q I rx rs h;obtain ⟨z,y,i,r,rfl,rfl,ho,q⟩:=h;obtain ⟨t,rfl⟩:=rx;obtain ⟨u,rfl,ru⟩:=v1 rs;obtain ⟨t',rfl⟩:=ru;exact PySem.SC.index ho ⟨.int _,H,I.tok _,⟨_,rfl⟩,q⟩
theorem strs_vals:∀ {ks:List Str}{us:List Value},Vals (ks.map V.str) us→∃ l:List (Str×Tok),us=strValues l∧l.map (·.1)=ks
 | [],_,.nil=>⟨[],rfl,rfl⟩
 | k :: r,_,.cons a t=>by
  obtain ⟨tk,rfl⟩:=a;obtain ⟨l,e1,e2⟩:=strs_vals t;exact ⟨(k,tk) :: l,by rw [e1];rfl,by rw [Z8,e2]⟩
theorem mt_join {K:PySem.W.Frag} (hK:X.K=K):MtR X "str.join" (fun x xs H Q=>∃ (z:Str) (p:Addr) (ks:List Str),x=.str z∧xs=[.ref p]∧SqL K H p (ks.map V.str)∧PySem.JoinOk z ks=true∧Q (.str (Txt.join z ks)) H):=by
 subst hK;intro pins s σ H x xs v us Q I rx rs h;obtain ⟨z,p,ks,rfl,rfl,hp,hj,q⟩:=h;obtain ⟨t,rfl⟩:=rx;obtain ⟨u,rfl,ru⟩:=v1 rs;cases (show u=Value.ref p from ru);obtain ⟨its,rv,pl,_⟩:=I.list hp;obtain ⟨l,rfl,el⟩:=strs_vals rv;exact PySem.SC.join pl.isList el hj fun t' k=>⟨.str _,H,I.tok k,⟨t',rfl⟩,q⟩
end
end L2
namespace L2
open PySem PySem.Spec PyProof.Rows
section
variable {X:Cx}{K:PySem.W.Frag}{o e:Expr}{es:List Expr}{to ta tl:TE}{t:TA}{name f:Str}{apos cpos pos:Pos}{T id:String}{r:V→List V→Hp→VK→Prop}{tg:Expr}
theorem pe_bmK (hK:X.K=K) (pa:PlainAttrs T) (slot:Slot T name id) (hty:typeOf (.builtin id)=pure (.type "method_descriptor")) (hm:MtR X id r) (ho:PE X o to) (ha:PA X (e :: es) t)
  (hbase:attributeBase o name X.env (eval o X.env)=eval o X.env:=by rfl)
  (hfew:((backTo cpos (starEach (e :: es) X.env)).all (fun x=>!x.1) && (backToKw cpos (keywordEach [] X.env)).all (fun x=>x.1.isSome)
   && decide ((e :: es).length + ([]:List Keyword).length + (if ([]:List Keyword).isEmpty then 0 else 1) < 30))=true:=by rfl)
  (hline:(apos.endLine == cpos.line)=true:=by rfl) (hs:starEach (e :: es) X.env=(false,eval e X.env) :: starEach es X.env:=by rfl) (hplain:(backTo cpos (starEach es X.env)).any (·.1)=false:=by rfl) :
  PE X (.Call (.Attribute o name apos) (e :: es) [] cpos) (tBM K T r to t):=by
 subst hK;exact zCv pa slot hty hm ho ha hbase hfew hline hs hplain
theorem zD1 (hK:X.K=K) (he:PE X e ta) (hb:attributeBase e f X.env (eval e X.env)=eval e X.env):PE X (.Attribute e f pos) (tFld K ta f):=by
 subst hK;exact zBg he hb
theorem zEo (hK:X.K=K) {es:List Expr}{k:Nat}{t:TGs}{n:Nat} (hc:X.calm=true) (h:PGs X es t)
  (hn:(assignEach es X.env).length=n:=by rfl) (hst:(assignEach es X.env).findIdx? (·.1)=none:=by rfl):PG X (.Tuple es k pos) (gTup K n t):=by
 subst hK;exact zCb hc h hn hst
end
end L2
namespace L2
open PySem PySem.Spec PyProof.Rows
noncomputable def constV:Expr→Option V
 | .Constant (.int i) _ _=>some (.int i)
 | .Constant (.str x) _ _=>some (.str x)
 | .Constant (.bool b) _ _=>some (.bl b)
 | .Constant .none _ _=>some .non
 | _=>none
theorem zGs {X:Cx}{e:Expr}{v:V} (h:constV e=some v):PE X e (tC v)∧∀ es,starEach (e :: es) X.env=(false,eval e X.env) :: starEach es X.env:=by
 unfold constV at h;split at h
 ·cases h;exact ⟨zA4,fun _=>rfl⟩
 ·cases h;exact ⟨zBa,fun _=>rfl⟩
 ·cases h;exact ⟨zBo,fun _=>rfl⟩
 ·cases h;exact ⟨zBk,fun _=>rfl⟩
 ·cases h
noncomputable def tConsts (vs:List V):TA:=fun _ H Q=>Q vs H
theorem zC1 {X:Cx}:∀ {es:List Expr}{vs:List V},es.map constV=vs.map some→PA X es (tConsts vs)
 | [],[],_=>zA2
 | [],_ :: _,h=>by cases h
 | _ :: _,[],h=>by cases h
 | e :: es,v :: vs,h=>by
  rw [Z8,Z8] at h;injection h with h1 h2;obtain ⟨p,q⟩:=zGs (X:=X) h1;exact zA0 p (zC1 h2) (q es)
noncomputable def constL:Expr→Option (List V)
 | .List es _=>es.mapM constV
 | _=>none
theorem zFl:∀ {es:List Expr}{vs:List V},es.mapM constV=some vs→es.map constV=vs.map some
 | [],vs,h=>by
  rw [List.mapM_nil] at h;cases h;rfl
 | e :: es,vs,h=>by
  rw [List.mapM_cons] at h;cases q:constV e with
  | none=>rw [q] at h;cases h
  | some v =>
   rw [q] at h;cases r:es.mapM constV with
   | none=>rw [r] at h;cases h
   | some ws =>
    rw [r] at h;cases h;rw [Z8,Z8,q,zFl r]
noncomputable def Laid (H H':Hp):List (List V)→List V→Prop:=Paired fun vs r=>∃ a,r=V.ref a∧H a=none∧H' a=some (.lst vs)
theorem Laid.mono {H0 H H' H2:Hp} (s0:Same H0 H) (s:Same H' H2) {vss:List (List V)}{rs:List V} (h:Laid H H' vss rs):Laid H0 H2 vss rs :=
 Paired.mapP h fun vs r ⟨a,e,n,q⟩=>⟨a,e,s0.free n,s _ _ q⟩
noncomputable def tLists (vss:List (List V)):TA:=fun _ H Q=>∀ rs H',Same H H'→Laid H H' vss rs→Q rs H'
theorem zEf {X:Cx}:∀ {es:List Expr}{vss:List (List V)},es.map constL=vss.map some→(vss.all fun vs=>decide (vs.length≤1000))=true→PA X es (tLists vss)
 | [],[],_,_=>fun pos pins s σ H Q I h=>zA2 pos pins s σ H Q I (h [] H (Same.refl _) .nil)
 | [],_ :: _,h,_=>by cases h
 | _ :: _,[],h,_=>by cases h
 | e :: es,vs :: vss,h,hz=>by
  rw [Z8,Z8] at h;injection h with h1 h2;rw [Yn,Zv] at hz;have ih:=zEf (X:=X) h2 hz.2;cases e with
  | List ls lp =>
   have hc:=zFl (show ls.mapM constV=some vs from h1);have pe:PE X (.List ls lp) (tLst (tConsts vs)):=zAg (zC1 hc);intro pos pins s σ H Q I q;refine zA0 pe ih rfl pos pins s σ H Q I ?_;refine ⟨Zm (small1000 (of_decide_eq_true hz.1)),fun p hp rs H' s' l'=>?_⟩;exact q _ _ ((Same.new hp).trans s') (.cons ⟨p,rfl,hp,s' _ _ zA1⟩ (l'.mono (Same.new hp) (Same.refl _)))
  | _=>cases h1
end L2
namespace L2
open PySem PySem.Spec PyProof.Rows
section
variable {X:Cx}
noncomputable def rRev (K:PySem.W.Frag) (te:TE):TE:=fun σ H Q=>te σ H fun x H1=>∃ a xs,x=.ref a∧SqL K H1 a xs∧∀ p,H1 p=none→Q (.ref p) (upd H1 p (.lst xs.reverse))
theorem pe_rev {e:Expr}{te:TE}{k:Nat}{p1 p2 p3 pos:Pos} (he:PE X e te):PE X (.Subscript e (.Slice none none (some (.UnaryOp .USub (.Constant (.int 1) k p1) p2)) p3) pos) (rRev X.K te):=by
 intro pins s σ H Q I h;refine Subscript_ (thn (he pins s σ H _ I h) fun v s1 ⟨x,H1,I1,r1,q1⟩=>?_);obtain ⟨a,xs,rfl,hx,q⟩:=q1;cases r1;refine wpAny_Slice ?_;rw [evalPart_none];refine wpAny_pure (wpAny_pure ?_);rw [evalPart_some];refine thn (pe_un un_neg (zA4 (X:=X) (i:=1)) pins s1 σ H1 (fun y H2=>y=.int (-1)∧H2=H1) I1 ⟨1,rfl,rfl,rfl⟩) fun u s2 ⟨y,H2,I2,r2,ey,eh⟩=>?_;subst ey eh;obtain ⟨t,rfl⟩:=r2;have I4:Inv X pins σ H2 { s2 with heap:=s2.heap.push { cls:=.type "slice",data:=.fields #[.none,.none,.int (-1) t] } }:=I2.kept (t':=s2.toks) fun b ob q=>Z2 _ q;obtain ⟨its,r,ht,hz⟩:=I4.list hx;have hlen:=r.length;refine tail_any (ops:=[.ref a,.ref s2.heap.objs.size]) ht.isList.typeIs slot_list_getitem.lookup ?_ (by with_unfolding_all rfl);refine wpAny_getItem_list_slice ht.isList (Heap.IsSliceOf.new ..) .none .none (.int _ _) (by decide) ?_ (by rw [Zc];omega);rw [PySem.W.krv_pick];exact ⟨.ref _,_,I4.laid (t':=s2.toks) (o:=.lst xs.reverse) (fun b ob q=>Z2 _ q) (Z5 _) ⟨by rw [List.length_reverse];exact hz,_,0,r.reverse,Ze _ rfl⟩,rfl,q _ (I4.hok.fresh (Z5 _))⟩
end
end L2
namespace L2
open PySem PySem.Spec PyProof.Rows
noncomputable def Kept (h h':Heap):Prop:=∀ b o,h.get? b=some o→h'.get? b=some o
theorem Kept.trans {a b c:Heap} (x:Kept a b) (y:Kept b c):Kept a c:=fun p o e=>y p o (x p o e)
theorem Kept.push (h:Heap) (o:Obj):Kept h (h.push o):=fun _ _ e=>Z2 _ e
theorem Kept.same {g h h':Heap}{a:Addr} (k:Kept g h) (ha:g.objs.size≤a) (sb:Heap.SameBut a h h'):Kept g h':=fun b o e =>
 (sb.2 b (Zg (Zf (Z9 e) ha))).trans (k b o e)
theorem Kept.but {g h h':Heap}{a:Addr} (k:Kept g h) (ha:g.objs.size≤a) (sb:∀ b o,b∉[a]→h.get? b=some o→h'.get? b=some o):Kept g h':=fun b o e =>
 sb b o (fun z=>Zg (Zf (Z9 e) ha) (List.mem_singleton.mp z)) (k b o e)
noncomputable def ltS (a b:Str):Prop:=a.cps.toList < b.cps.toList
noncomputable instance (a b:Str):Decidable (ltS a b):=inferInstanceAs (Decidable (a.cps.toList < b.cps.toList))
theorem ltS_trans {a b c:Str} (x:ltS a b) (y:ltS b c):ltS a c:=List.lt_trans x y
section
variable {P:Program}{w:World}{A:Around}{E:Value→Shared→Prop}{z:Shared}{g:Heap}{l q I S:Addr}{vs:List Value}{R:Result→Shared→Prop}
noncomputable def KeyEnd (z:Shared) (h:Heap) (k:Str) (u:Value) (y:Shared):Prop:=∃ (h':Heap) (tk':Nat) (t:Tok),u=.str k t∧y={ z with heap:=h',toks:=tk' }∧Kept h h'
theorem min_loop (ks:Nat→Str) (hh:A.handled=none) (hl:g.IsList l vs.toArray) (hI:g.objs.size≤I) (hS:g.objs.size≤S) (ne:S≠I)
  (turn:∀ i v,vs[i]? = some v→∀ (h:Heap) (tk:Nat),Kept g h→wpAny (model P w) A.in1 (call (.ref q) [v]) (KeyEnd z h (ks i)) (fun _ _=>False) { z with heap:=h,toks:=tk })
  (fin:∀ i v h tk,vs[i]? = some v→(∀ j,j < vs.length→¬ ltS (ks j) (ks i))→Kept g h→R (.ok (.ret v)) { z with heap:=h,toks:=tk }) :
  ∀ (r j i:Nat) (h:Heap) (tk:Nat) (b:Value) (t:Tok) (n:Nat),vs.length - (j + 1)=r→j + 1≤vs.length→Kept g h→h.get? S=some (seqObj "list" #[b,.str (ks i) t] n)→h.IsListIter I l (j + 1) →
   vs[i]? = some b→i≤j→(∀ k,k≤j→¬ ltS (ks k) (ks i))→codeAny (model P w) A (.builtin "min.loop" ⟨[.ref I,.ref q,.ref S],[]⟩) R { z with heap:=h,toks:=tk }:=by
 have nm:(toString "min"++toString ".loop" : String) = "min.loop":=by decide
 have hlI:l≠I:=by
  obtain ⟨o,e,_⟩:=hl;exact Zg (Zf (Z9 e) hI)
 have W:=Walks.list (prog:=P) (w:=w) (A:=A.in1) hh I l hlI vs.toArray;have sz:vs.toArray.size=vs.length:=by simp
 have lst:∀ {h},Kept g h→h.IsList l vs.toArray:=fun {h} k=>by
  obtain ⟨o,e,r⟩:=hl;exact ⟨o,k _ _ e,r⟩
 intro r
 induction r with
 | zero =>
  intro j i h tk b t n hr hj k hs it hb hij best;have hin:j + 1=vs.length:=by omega
  refine codeAny_builtin PySem.F.entry_min_loop ?_;rw [Around.under_plainId PySem.F.plain_min_loop _];show wpAny _ A.in1 (seqItems? (Value.ref S) >>= _) _ _ _;refine wpAny_bind (wpAny_seqItems hs rfl ?_);show wpAny _ A.in1 (tryCatch (pyNext (Value.ref I)) _ >>= _) _ _ _;refine wpAny_bind (wpAny_tryCatch (W.done _ _ _ ⟨by rw [sz,← hin];exact it,lst k⟩ fun h1 tk1 k1=>?_));have e1:=k1 S _ (by simpa using ne) hs;show wpAny _ A.in1 (updateSeq S (fun _=>(#[]:Array Value)) >>= _) _ _ _;refine wpAny_bind (wpAny_updateSeq e1 rfl (wpAny_bind (wpAny_letGo (wpAny_pure ?_))));exact fin i b _ _ hb (fun k' hk=>best k' (by omega)) ((k.but hI k1).same hS (Heap.SameBut.update h1 S _))
 | succ r ih =>
  intro j i h tk b t n hr hj k hs it hb hij best;have hlt:j + 1 < vs.length:=by omega
  refine codeAny_builtin PySem.F.entry_min_loop ?_;rw [Around.under_plainId PySem.F.plain_min_loop _];show wpAny _ A.in1 (seqItems? (Value.ref S) >>= _) _ _ _;refine wpAny_bind (wpAny_seqItems hs rfl ?_);show wpAny _ A.in1 (tryCatch (pyNext (Value.ref I)) _ >>= _) _ _ _;refine wpAny_bind (wpAny_tryCatch (W.item (j + 1) _ _ _ (by rw [sz];exact hlt) ⟨it,lst k⟩ fun v h1 tk1 hp st k1=>?_));have hv:vs[j + 1]? = some v:=by simpa using hp
  have e1:=k1 S _ (by simpa using ne) hs;have kg:=k.but hI k1;show wpAny _ A.in1 (tryCatch (holding [v] (call (Value.ref q) [v])) _ >>= _) _ _ _;refine wpAny_bind (wpAny_tryCatch (wpAny_holding (wpAny_mono (turn (j + 1) v hv h1 tk1 kg) (fun u y he=>?_) fun _ _ f=>f.elim)));obtain ⟨h2,tk2,t2,rfl,rfl,k2⟩:=he;have e2:=k2 S _ e1;have it2:h2.IsListIter I l (j + 1 + 1):=st.1.at fun o e=>k2 _ _ e;have kg2:=kg.trans k2;show wpAny _ A.in1 (tryCatch (holding [v,Value.str (ks (j + 1)) t2] (richCompare .Lt (Value.str (ks (j + 1)) t2) (Value.str (ks i) t) >>= _)) _ >>= _) _ _ _;refine wpAny_bind (wpAny_tryCatch (wpAny_holding (wpAny_bind (show wpAny _ _ (compareOp .Lt (Value.str (ks (j + 1)) t2) (Value.str (ks i) t)) _ _ _ from lt_str ?_))));refine wpAny_bind (wpAny_holding (wpAny_truthy_bool ?_));refine wpAny_bind (wpAny_letGo (wpAny_pure ?_));by_cases c:ltS (ks (j + 1)) (ks i)
  ·have c':(ks (j + 1)).cps.toList < (ks i).cps.toList:=c;obtain ⟨n2,g2⟩:∃ n2,(h2.update S (Obj.mapSeq fun _=>#[v,Value.str (ks (j + 1)) t2])).get? S=some (seqObj "list" #[v,Value.str (ks (j + 1)) t2] n2):=⟨_,get?_update_seq e2 fun _=>#[v,Value.str (ks (j + 1)) t2]⟩;have s2:=Heap.SameBut.update h2 S (Obj.mapSeq fun _=>#[v,Value.str (ks (j + 1)) t2]);simp only [c',decide_true,if_true];refine wpAny_bind (wpAny_updateSeq e2 rfl (wpAny_bind (wpAny_letGo ?_)));rw [nm];refine wpAny_pure ⟨plainId_quiet PySem.F.plain_min_loop _,ih (j + 1) (j + 1) _ _ v t2 n2 (by omega) hlt (kg2.same hS s2) g2 (it2.at fun o e=>(s2.2 I (Ne.symm ne)).trans e) hv (Z5 _) fun k' hk=>?_⟩;by_cases e:k'=j + 1
   ·subst e;exact fun z=>List.lt_irrefl _ z
   ·exact fun z=>best k' (by omega) (ltS_trans z c)
  ·have c':¬ (ks (j + 1)).cps.toList < (ks i).cps.toList:=c;simp only [c',decide_false,Xi,if_false];refine wpAny_bind (wpAny_letGo ?_);rw [nm];refine wpAny_pure ⟨plainId_quiet PySem.F.plain_min_loop _,ih (j + 1) i _ _ b t n (by omega) hlt kg2 e2 it2 hb (by omega) fun k' hk=>?_⟩;by_cases e:k'=j + 1
   ·subst e;exact c
   ·exact best k' (by omega)
theorem min_key {Q:Value→Shared→Prop} (ks:Nat→Str) (hh:A.handled=none) (hl:z.heap.IsList l vs.toArray) (h0:0 < vs.length)
  (turn:∀ i v,vs[i]? = some v→∀ (h:Heap) (tk:Nat),Kept z.heap h→wpAny (model P w) A.in1 (call (.ref q) [v]) (KeyEnd z h (ks i)) (fun _ _=>False) { z with heap:=h,toks:=tk })
  (fin:∀ i v h tk,vs[i]? = some v→(∀ j,j < vs.length→¬ ltS (ks j) (ks i))→Kept z.heap h→Q v { z with heap:=h,toks:=tk }) :
  wpAny (model P w) A (call (.builtin "min") [.ref l] [(Str.ofString "key",.ref q)]) Q E z:=by
 have nm:(toString "min"++toString ".loop" : String) = "min.loop":=by decide
 refine kmk_tree PySem.F.kind_min PySem.F.plain_min PySem.F.entry_min (kmk_min_key _ _) ?_;show wpAny _ A.in1 (Builtin.Builtins.bindParams "min" ["key", "default"] 0 ⟨[],[(Str.ofString "key",Value.ref q)]⟩ >>= _) _ _ z;refine wpAny_bind (wpAny_of_eq (show Builtin.Builtins.bindParams "min" ["key", "default"] 0 ⟨[],[(Str.ofString "key",Value.ref q)]⟩=pure [some (Value.ref q),none] from rfl) ?_);refine wpAny_bind (wpAny_pure (wpAny_bind (wpAny_pyIter_list hl (wpAny_bind (wpAny_newList ?_ (Zo _))))));rw [nm];refine wpAny_pure ⟨plainId_quiet PySem.F.plain_min_loop _,?_⟩
 let oI:Obj:={ cls:=.type "list_iterator",data:=.fields #[.ref l,.int 0 0] }
 have sz1:(z.heap.push oI).objs.size=z.heap.objs.size + 1:=Y9 ..;have gI:((z.heap.push oI).push (seqObj "list" #[] 0)).get? z.heap.objs.size=some oI:=Z2 _ (Ze _ rfl);have gS:((z.heap.push oI).push (seqObj "list" #[] 0)).get? (z.heap.push oI).objs.size=some (seqObj "list" #[] 0):=Ze _ rfl;have kk:Kept z.heap ((z.heap.push oI).push (seqObj "list" #[] 0)):=(Kept.push _ _).trans (Kept.push _ _);have hI:z.heap.objs.size≤z.heap.objs.size:=Z5 _;have hS:z.heap.objs.size≤(z.heap.push oI).objs.size:=by rw [sz1];exact Yq _
 have ne:(z.heap.push oI).objs.size≠z.heap.objs.size:=by rw [sz1];exact Nat.succ_ne_self _
 have hlI:l≠z.heap.objs.size:=by
  obtain ⟨o,e,_⟩:=hl;exact Zg (Z9 e)
 have W:=Walks.list (prog:=P) (w:=w) (A:=A.in1) hh z.heap.objs.size l hlI vs.toArray;have sz:vs.toArray.size=vs.length:=by simp
 have lst:∀ {h},Kept z.heap h→h.IsList l vs.toArray:=fun {h} k=>by
  obtain ⟨o,e,r⟩:=hl;exact ⟨o,k _ _ e,r⟩
 refine codeAny_builtin PySem.F.entry_min_loop ?_;rw [Around.under_plainId PySem.F.plain_min_loop _];show wpAny _ A.in1 (seqItems? (Value.ref (z.heap.push oI).objs.size) >>= _) _ _ _;refine wpAny_bind (wpAny_seqItems gS rfl ?_);show wpAny _ A.in1 (tryCatch (pyNext (Value.ref z.heap.objs.size)) _ >>= _) _ _ _;refine wpAny_bind (wpAny_tryCatch (W.item 0 _ _ _ (by rw [sz];exact h0) ⟨⟨_,gI,rfl,rfl⟩,lst kk⟩ fun v h1 tk1 hp st k1=>?_));have hv:vs[0]? = some v:=by simpa using hp
 have e1:=k1 _ _ (by simpa using ne) gS;have kg:=kk.but hI k1;show wpAny _ A.in1 (tryCatch (holding [v] (call (Value.ref q) [v])) _ >>= _) _ _ _;refine wpAny_bind (wpAny_tryCatch (wpAny_holding (wpAny_mono (turn 0 v hv h1 tk1 kg) (fun u y he=>?_) fun _ _ f=>f.elim)));obtain ⟨h2,tk2,t2,rfl,rfl,k2⟩:=he;have e2:=k2 _ _ e1;have s2:=Heap.SameBut.update h2 (z.heap.push oI).objs.size (Obj.mapSeq fun _=>#[v,Value.str (ks 0) t2]);obtain ⟨n2,g2⟩:∃ n2,(h2.update (z.heap.push oI).objs.size (Obj.mapSeq fun _=>#[v,Value.str (ks 0) t2])).get? (z.heap.push oI).objs.size=some (seqObj "list" #[v,Value.str (ks 0) t2] n2):=⟨_,get?_update_seq e2 fun _=>#[v,Value.str (ks 0) t2]⟩;show wpAny _ A.in1 (updateSeq (z.heap.push oI).objs.size (fun _=>#[v,Value.str (ks 0) t2]) >>= _) _ _ _;refine wpAny_bind (wpAny_updateSeq e2 rfl ?_);rw [nm];refine wpAny_pure ⟨plainId_quiet PySem.F.plain_min_loop _,min_loop ks hh hl hI hS ne turn fin _ 0 0 _ _ v t2 n2 rfl h0 ((kg.trans k2).same hS s2) g2 ((st.1.at fun o e=>k2 _ _ e).at fun o e=>(s2.2 _ (Ne.symm ne)).trans e) hv (Z5 _) fun k' hk=>?_⟩;have:k'=0:=by omega
 subst this;exact fun z=>List.lt_irrefl _ z
end
end L2
namespace L2
open PySem PySem.Spec PyProof.Rows
noncomputable def CodeO (c:Addr) (q:Str):HO:=.ext fun h=>h.CodeRec (.ref c) q
noncomputable def TabOk (H:Hp) (P:Addr) (pos:Pos) (q:Str):Prop:=H P=some (.tbl #[])∨∃ c,H P=some (.tbl #[rawInt pos.line,rawInt pos.col,.ref c])∧H c=some (CodeO c q)
noncomputable def GrownBut (P:Addr) (H H':Hp):Prop:=∀ b o,H b=some o→b≠P→H' b=some o
theorem TabOk.ne {H:Hp}{P:Addr}{pos:Pos}{q:Str} (T:TabOk H P pos q) {a:Addr}{o:HO} (e:H a=some o) (h:∀ ps,o≠.tbl ps):a≠P:=by
 rintro rfl;rcases T with z | ⟨c,z,_⟩ <;> rw [e] at z <;> exact h _ (Zk z)
theorem TabOk.stay {H H':Hp}{P:Addr}{pos:Pos}{q:Str} (T:TabOk H P pos q) (k:∀ b o,H b=some o→H' b=some o):TabOk H' P pos q:=by
 rcases T with z | ⟨c,z,y⟩
 ·exact .inl (k _ _ z)
 ·exact .inr ⟨c,k _ _ z,k _ _ y⟩
theorem TabOk.but {H H':Hp}{P:Addr}{pos:Pos}{q:Str}{p:Addr}{u:HO} (T:TabOk H P pos q) (hp:H p=some u) (h1:∀ ps,u≠.tbl ps) (h2:∀ f,u≠.ext f) (k:∀ b o,H b=some o→b≠p→H' b=some o):TabOk H' P pos q:=by
 have n1:=T.ne hp h1;rcases T with z | ⟨c,z,y⟩
 ·exact .inl (k _ _ z (Ne.symm n1))
 ·refine .inr ⟨c,k _ _ z (Ne.symm n1),k _ _ y ?_⟩;rintro rfl;rw [hp] at y;exact h2 _ (Zk y)
noncomputable def BltAt (mg:Str→Option Value) (base:Heap):Prop:=∃ (bm:Addr) (ob:Obj),mg "__builtins__" = some (.ref bm)∧bm≠builtinsNs∧bm≠mainGlobals∧base.get? bm=some ob∧ob.cls=.type "module"∧ob.dict=some builtinsNs∧ob.data=.plain
structure LamTxt (K:PySem.W.Frag) (mg:Str→Option Value) (base:Heap) (c P:Addr):Prop where
 hd:PySem.W.codeHdIn K c P=true
 blt:BltAt mg base
section
variable {X:Cx}{pins:List (Addr×Obj)}{σ : St}{H:Hp}{s:Shared}{A:Around}{E:Value→Shared→Prop}
theorem zDb {c:Addr}{q:Str}:∀ h1 h2:Heap,h1.CodeRec (.ref c) q→(∀ o,h1.get? c=some o→h2.get? c=some o)→h2.CodeRec (.ref c) q:=fun h1 h2 ⟨c',o,vs,t,e,ho,r⟩ k=>by
 cases e;exact ⟨c,o,vs,t,rfl,k o ho,r⟩
theorem lam_made {params:Arguments}{body:Expr}{scope:Scope}{pos:Pos}{c P:Addr}{q:Str}{Q:Value→Shared→Prop} (I:Inv X pins σ H s) (T:LamTxt X.K X.mg X.base c P) (hcode:X.env.code=.ref c) (hq:X.env.qual++"<lambda>" = q)
  (hcl:closureFor scope X.env=pure []) (hdef:defaultsOf params X.env=([],[])) (W:TabOk H P pos q)
  (h:∀ (H':Hp) (s':Shared) (f c':Addr) (pm ctv:Value),Inv X pins σ H' s'→s'.heap.get? f=some (PySem.W.kla_obj "<lambda>" q params body scope [] pm c' ctv)→s'.heap.CodeRec (.ref c') q→TabOk H' P pos q→GrownBut P H H'→Q (.ref f) s') :
  wpAny (model X.prog X.w) A (eval (.Lambda params body scope pos) X.env) Q E s:=by
 subst hq;refine PySem.W.kla_eval hdef ?_;obtain ⟨bm,ob,e1,e3,e4,e2,e5,e6,e7⟩:=T.blt;have hbP:bm≠P:=by
  rintro rfl;have:=(I.bs _ _ e2).2;rcases W with z | ⟨c',z,_⟩ <;> rw [this] at z <;> cases z
 have hb:s.heap.BuiltinsAt X.mg P:=⟨bm,ob,e1,e3,e4,hbP,I.bk _ _ e2,e5,e6,e7⟩;have hg:=I.mod.glob.keeps I.bk;have C:=PySem.W.codeHd_of_K I.kIn T.hd;have tab:∀ {ps},H P=some (.tbl ps)→s.heap.get? P=some (PySem.W.tabObj ps):=fun {ps} e=>I.hok P _ e;have hgP:mainGlobals≠P:=by
  rintro rfl;obtain ⟨o,es,ep,ho,hd,_⟩:=hg;rcases W with z | ⟨c',z,_⟩ <;> (rw [tab z] at ho;cases ho;cases hd)
 rcases W with z | ⟨c',z,y⟩
 ·refine PySem.W.kla_makeFunction hcl I.ok.glob hg hcode C (tab z) trivial rfl hgP hb fun c' ctv h' tk hx hge hlt hrec htb=>?_;have fc:H c'=none:=I.hok.fresh hge;have nP:c'≠P:=Ne.symm (zA5 z fc)
  let H':Hp:=upd (upd H P (.tbl #[rawInt pos.line,rawInt pos.col,.ref c'])) c' (CodeO c' (X.env.qual++"<lambda>"))
  have hP':H' P=some (.tbl #[rawInt pos.line,rawInt pos.col,.ref c']):=by show upd _ _ _ _=_;rw [zA8 (Ne.symm nP),zA1]
  have hc':H' c'=some (CodeO c' (X.env.qual++"<lambda>")):=zA1;have gr:∀ b o,H b=some o→b≠P→H' b=some o:=fun b o e nb=>by
   show upd _ _ _ _=_;rw [zA8 (zA5 e fc),zA8 nb];exact e
  have I1:Inv X pins σ H' { s with heap:=h',toks:=tk }:=by
   refine I.step (g':=s.gens) (d':=s.drawn) (ch:=[]) (fun _ m=>nomatch m) (fun b o _ _ _ e n=>hx b o (Ne.symm (zA5 z n)) e) (fun b o _ _ _ e n=>⟨o.slots,hx b o (Ne.symm (zA5 z n)) e⟩) (fun b o _ e n=>?_) (fun b o _ e=>?_)
    (fun b xs e=>gr b _ e fun k=>by subst k;rw [z] at e;cases e) (fun b o u e=>gr b _ e fun k=>by subst k;rw [z] at e;cases e) (fun b ps e=>?_) (fun m hm=>?_) (fun b u e=>?_) I.bare
   ·show upd _ _ _ _=_;rw [zA8 (Zg (Zf (Z9 e) hge)),zA8 (Ne.symm (zA5 z n))];exact n
   ·by_cases k:b=P
    ·subst k;exact ⟨_,htb⟩
    ·exact ⟨o,hx b o k e⟩
   ·by_cases k:b=P
    ·subst k;rw [z] at e;cases e;exact ⟨#[rawInt pos.line,rawInt pos.col,.ref c'],by rw [hP'];rfl⟩
    ·exact ⟨#[],by rw [gr b _ e k];simp⟩
   ·exact hm.extBut hx fun k=>by have:=I.free;rw [k,z] at this;cases this
   ·by_cases k1:b=c'
    ·subst k1;rw [hc'] at e;cases e;obtain ⟨_,o,_,_,e',ho,_⟩:=id hrec;cases e';exact ⟨hrec,⟨o,ho⟩,zDb⟩
    ·by_cases k2:b=P
     ·subst k2;rw [hP'] at e;cases e;exact htb
     ·have e':H b=some u:=by
       have e2:upd (upd H P _) c' _ b=some u:=e
       rwa [zA8 k1,zA8 k2] at e2
      refine (I.hok b u e').stay (fun d v hd' r=>hx d v ?_ r) (fun d r=>gr d _ r ?_) fun d xs r=>gr d _ r ?_
      ·rcases hd' with k | k
       ·rw [k];exact k2
       ·rintro rfl;rw [z] at k;cases k
      ·rintro rfl;rw [z] at r;cases r
      ·rintro rfl;rw [z] at r;cases r
  have I2:Inv X pins σ H' { s with heap:=h'.push _,toks:=tk }:=I1.kept (t':=tk) (h':=h'.push (PySem.W.kla_obj "<lambda>" (X.env.qual++"<lambda>") params body scope [] ((X.mg "__name__").getD .none) c' ctv)) fun b u e=>Z2 _ e;refine h H' _ h'.objs.size c' ((X.mg "__name__").getD .none) ctv I2 (Ze _ rfl) ?_ (.inr ⟨c',hP',hc'⟩) gr;exact zDb h' _ hrec fun o e=>Z2 _ e
 ·refine PySem.W.kla_makeFunctionHit (cv:=.ref c') hcl I.ok.glob hg hcode C (tab z) trivial ?_ hb fun ctv h' tk kk sz=>?_
  ·simp [codeAmong,rawInt]
  ·have I2:Inv X pins σ H { s with heap:=h'.push _,toks:=tk }:=I.kept (t':=tk) (h':=h'.push (PySem.W.kla_obj "<lambda>" (X.env.qual++"<lambda>") params body scope [] ((X.mg "__name__").getD .none) c' ctv)) fun b u e=>Z2 _ (kk b u e);refine h H _ h'.objs.size c' ((X.mg "__name__").getD .none) ctv I2 (Ze _ rfl) ?_ (.inr ⟨c',z,y⟩) fun b o e _=>e;obtain ⟨hr,_,_⟩:=I.hok c' _ y;exact zDb s.heap _ hr fun o e=>Z2 _ (kk _ _ e)
end
structure LamSc (scope:Scope) (x:Str):Prop where
 co:scope.isCoroutine=false
 gen:scope.isGenerator=false
 kind:scope.kind=.function
 cell:∀ y∈scope.names,y.2≠.cell
 loc:scope.names.lookup x=some .local
section
variable {P:Program}{w:World}{A:Around}{z:Shared}
theorem lam_fld {f c':Addr}{nm q x fld k:Str}{params:Arguments}{p1 p2:Pos}{scope:Scope}{pm ctv v:Value} (ho:z.heap.get? f=some (PySem.W.kla_obj nm q params (.Attribute (.Name x p1) fld p2) scope [] pm c' ctv)) (hc:z.heap.CodeRec (.ref c') q)
  (hroom:A.depth < recursionLimit) (hlim:z.heap.NoLimit) (hb:bindArgs (PySem.W.kla_fn nm q params (.Attribute (.Name x p1) fld p2) scope [] pm (.ref c') ctv) ⟨[v],[]⟩=pure [(x,v)]) (S:LamSc scope x) (hx:(x == ("__debug__" : Str))=false)
  (hat:∀ env:Env,attributeBase (.Name x p1) fld env (eval (.Name x p1) env)=eval (.Name x p1) env)
  (hget:∀ (A':Around) (E':Value→Shared→Prop) (h:Heap) (tk:Nat),Kept z.heap h→wpAny (model P w) A' (getAttr v fld true) (fun u y=>∃ t tk',u=.str k t∧y={ z with heap:=h,toks:=tk' }) E' { z with heap:=h,toks:=tk }) :
  wpAny (model P w) A (call (.ref f) [v]) (KeyEnd z z.heap k) (fun _ _=>False) z:=by
 refine wpAny_call (PySem.W.kla_callFunE hroom ho rfl S.co S.gen rfl hc ?_);rw [hb];refine wpAny_pure (wpAny_newFunctionEnv S.cell (fun y hy=>by rw [List.mem_singleton.mp hy];exact S.loc) (fun h1 hns hsb=>?_) S.kind);have kk:Kept z.heap h1:=fun b o e=>(hsb.2 b (Zg (Z9 e))).trans (Z2 _ e);refine ⟨hlim.keeps kk,PySem.W.kla_codeExpr (attr_of (hat _) (wpAny_Name (wpAny_loadName_local S.kind S.loc hns (v:=v) (by simp) ?_) hx))⟩;refine thn (hget _ _ h1 _ kk) fun u y ⟨t,tk',eu,ey⟩=>?_;exact ⟨h1,tk',t,eu,ey,kk⟩
end
noncomputable def tMinKey (K:PySem.W.Frag) (P:Addr) (pos:Pos) (q fld:Str) (ta:TA):TE:=fun σ H Q=>ta σ H fun vs H1=>∃ (l:Addr) (xs:List V) (ks:List Str),vs=[.ref l]∧SqL K H1 l xs∧0 < xs.length∧TabOk H1 P pos q∧ks.length=xs.length ∧
 (∀ (i:Nat) (v:V) (k:Str),xs[i]? = some v→ks[i]? = some k→∃ a C dx fs,v=.ref a∧H1 a=some (.ins C dx fs)∧Cls K C∧NoAttr K C fld∧fs.lookup fld=some (.str k)) ∧
 ∀ (i:Nat) (v:V) (k:Str) (H2:Hp),xs[i]? = some v→ks[i]? = some k→(∀ y∈ks,¬ ltS y k)→TabOk H2 P pos q→GrownBut P H1 H2→Q v H2
section
variable {X:Cx}
theorem zEr {e:Expr}{ta:TA}{x fld q:Str}{params:Arguments}{p p1 p2 lpos kpos pos:Pos}{scope:Scope}{c P:Addr} (T:LamTxt X.K X.mg X.base c P) (hcode:X.env.code=.ref c) (hr:Room 2 X.A) (hcm:X.calm=true) (hg:Gl X "min") (hm:X.mg "min" = none) (ha:PA X [e] ta)
  (S:LamSc scope x) (hq:X.env.qual++"<lambda>" = q:=by rfl) (hcl:closureFor scope X.env=pure []:=by rfl) (hdef:defaultsOf params X.env=([],[]):=by rfl)
  (hb:∀ (pm cd ctv v:Value),bindArgs (PySem.W.kla_fn "<lambda>" q params (.Attribute (.Name x p1) fld p2) scope [] pm cd ctv) ⟨[v],[]⟩=pure [(x,v)]:=by intros;rfl) (hx:(x == ("__debug__" : Str))=false:=by decide)
  (hat:∀ env:Env,attributeBase (.Name x p1) fld env (eval (.Name x p1) env)=eval (.Name x p1) env:=by intros;rfl)
  (he:backTo pos (starEach [e] X.env)=(false,eval e X.env) :: backTo pos (starEach [] X.env):=by rfl) (hpl:(backTo pos (starEach [e] X.env)).any (·.1)=false:=by rfl) :
  PE X (.Call (.Name "min" p) [e] [⟨some "key",.Lambda params (.Attribute (.Name x p1) fld p2) scope lpos,kpos⟩] pos) (tMinKey X.K P lpos q fld ta):=by
 intro pins s σ H Q I h;refine wpAny_Call_Name_kw (zEy I hg hm PyProof.Rows.boot_min ?_);refine PyProof.Rows.callWith_kw (thn (ha pos pins s σ H _ I h) fun us s1 ⟨vs,H1,I1,r1,q1⟩=>?_) he hpl rfl rfl;obtain ⟨l,xs,ks,rfl,hl,h0,W,hlen,hat1,fin⟩:=q1;obtain ⟨u,rfl,ru⟩:=v1 r1;cases (show u=Value.ref l from ru);refine PyProof.Rows.evalAll_cons (wpAny_bind (lam_made I1 T hcode hq hcl hdef W fun H2 s2 f c' pm ctv I2 ho hrec W2 gr=>wpAny_bind (wpAny_standAt (wpAny_pure ?_))));refine PyProof.Rows.evalAll_nil ?_;have hlP:SqL X.K H2 l xs:=by
  rcases hl with (z | ⟨o,z⟩) | z
  ·exact .inl (.inl (gr _ _ z (W.ne z (fun _ k=>nomatch k))))
  ·exact .inl (.inr ⟨o,gr _ _ z (W.ne z (fun _ k=>nomatch k))⟩)
  ·exact .inr z
 obtain ⟨its,rv,pl,_⟩:=I2.list hlP;have il:=rv.length;refine min_key (vs:=its) (fun i=>ks.getD i Str.empty) (I2.ok.hd hcm) pl.isList (by omega) (fun i v hv h tk kk=>?_) fun i v h tk hv hbest kk=>?_
 ·have hi:i < its.length:=(List.getElem?_eq_some_iff.mp hv).1;obtain ⟨y,hy⟩:∃ y,xs[i]? = some y:=⟨_,Z1 (by omega)⟩;obtain ⟨k,hk⟩:∃ k,ks[i]? = some k:=⟨_,Z1 (by omega)⟩;obtain ⟨u,hu,ry⟩:=rv.get hy;rw [hv] at hu;cases hu;obtain ⟨a,C,dx,fs,rfl,ea,cc,nn,lf⟩:=hat1 i y k hy hk;cases (show v=Value.ref a from ry);have ek:ks.getD i Str.empty=k:=by simp [hk]
  show wpAny _ _ _ (KeyEnd s2 h (ks.getD i Str.empty)) _ _;rw [ek];have I3:Inv X pins σ H2 { s2 with heap:=h,toks:=tk }:=I2.kept (t':=tk) kk;have ea2:H2 a=some (.ins C dx fs):=gr _ _ ea (W.ne ea (fun _ k=>nomatch k));refine lam_fld (z:={ s2 with heap:=h,toks:=tk }) (kk _ _ ho) (zDb _ _ hrec fun o e=>kk _ _ e) hr.in1.depth I3.nolimit (hb _ _ _ _) S hx hat fun A' E' h2 tk2 k2=>?_;have I4:Inv X pins σ H2 { s2 with heap:=h2,toks:=tk2 }:=I3.kept (t':=tk2) k2;obtain ⟨mA,O,r,_,_,_⟩:=zF3 I4.hok ea2;obtain ⟨w',hw,rw'⟩:=RelO.some_of (v:=V.str k) (o:=mA fld) (by rw [← lf];exact r fld);obtain ⟨t,rfl⟩:=rw';exact get_map I4.kIn O (cc.get fld) cc.hd nn hw rfl ⟨t,_,rfl,rfl⟩
 ·have hi:i < its.length:=(List.getElem?_eq_some_iff.mp hv).1;obtain ⟨y,hy⟩:∃ y,xs[i]? = some y:=⟨_,Z1 (by omega)⟩;obtain ⟨k,hk⟩:∃ k,ks[i]? = some k:=⟨_,Z1 (by omega)⟩;obtain ⟨u,hu,ry⟩:=rv.get hy;rw [hv] at hu;cases hu;have ek:ks.getD i Str.empty=k:=by simp [hk]
  refine ⟨y,H2,I2.kept (t':=tk) kk,ry,fin i y k H2 hy hk (fun y' hy'=>?_) W2 gr⟩;obtain ⟨j,hj,ej⟩:=Zu hy';have:=hbest j (by omega);rw [ek] at this;have e2:ks.getD j Str.empty=y':=by simp [Z1 hj,ej]
  rw [e2] at this;exact this
end
end L2
namespace L2
open PySem PySem.Spec PyProof.Rows
noncomputable def OnlyT (P:Addr) (H:Hp):Prop:=H P=some (.tbl #[])∧∀ b,b≠P→H b=none∨∃ o xs,H b=some (.frz o (.lst xs))
theorem law_callT {P:Program}{w:World}{K:PySem.W.Frag}{mg mb:Str→Option Value}{CX:CXT}{k:Nat}{fa a T c:Addr}{fd:FuncData}{x:Str}{sp:Sp}{s₁ : Shared}{vs:List Value}{ns:List Int}
  (KX:K.In s₁.heap) (hns:s₁.heap.Ns mainGlobals mg) (hb:s₁.heap.Ns builtinsNs mb) (hbb:∀ x:Str,x≠"__name__"→mb x=bootBuiltins x) (hlim:s₁.heap.NoLimit) (hg:s₁.gens = #[]) (hBl:BltAt mg s₁.heap) (hT:s₁.heap.get? T=some (PySem.W.tabObj #[])) (hKT:K.lookup T=none) (hCd:PySem.W.codeHdIn K c T=true)
  (ha:s₁.heap.get? a=some { cls:=.type "list",data:=.seq vs.toArray }) (hi:IntsAre vs ns) (hl:ns.length≤sizeLine) (hr:Room k callerA)
  (F:∀ base:Heap,K.In base→base.Ns mainGlobals mg→BltAt mg base→FnOk P w K mg base CX k fa fd [x] sp) (hbind:∀ (s:Shared) (u:Value),BindsTo s fd ⟨[u],[]⟩ [(x,u)])
  (hsp:∀ H:Hp,OnlyT T H→SqL K H a (ns.map V.int)→sp [.ref a] H (fun v _=>v=.bl true) fun _ _ _=>False)
  (hCX:∀ H e s',CX [] H s₁ (fun _ _ _=>False) e s'→False) :
  codeAny (model P w) callerA (.call (.ref fa) ⟨[.ref a],[]⟩) (fun r s'=>r=.ok (.ret (.bool true))∧OldK s₁.heap s'.heap∧s'.os=s₁.os∧AllBare s'.gens) s₁:=by
 have rv:=vals_ints hi;have lenV:=hi.length;have aT:a≠T:=by
  rintro rfl;rw [ha] at hT;cases hT
 have core:∀ H:Hp,OnlyT T H→SqL K H a (ns.map V.int)→HOk P w H s₁.heap→(∀ b,H b≠none→b=a∨b=T)→(H a≠none→K.lookup a=none) →
   codeAny (model P w) callerA (.call (.ref fa) ⟨[.ref a],[]⟩) (fun r s'=>r=.ok (.ret (.bool true))∧OldK s₁.heap s'.heap∧s'.os=s₁.os∧AllBare s'.gens) s₁:=by
  intro H hO hS hok hA hK;have base_of:∀ {b:Addr}{o:Obj},s₁.heap.get? b=some o→H b=none→(hidT s₁.heap H).get? b=some o:=fun e n=>hidT_get e n;have noA:∀ {b:Addr}{o:Obj}{es:Array DictEntry}{ep:Nat},s₁.heap.get? b=some o→o.data=.dict es ep→H b=none:=fun {b o es ep} e d=>by
   cases q:H b with
   | none=>rfl
   | some u =>
    rcases hA b (by rw [q];simp) with e' | e'
    ·subst e';rw [ha] at e;cases e;have d':Data.seq vs.toArray _=Data.dict es ep:=d;cases d'
    ·subst e';rw [hT] at e;cases e;cases d
  have nsK:∀ {b:Addr}{m:Str→Option Value},s₁.heap.Ns b m→(hidT s₁.heap H).Ns b m:=fun {b m} ⟨o,es,ep,e,d,r⟩=>⟨o,es,ep,base_of e (noA e d),d,r⟩
  have hKb:K.In (hidT s₁.heap H):=fun b o e=>base_of (KX b o e) (by
   cases q:H b with
   | none=>rfl
   | some u =>
    rcases hA b (by rw [q];simp) with e' | e'
    ·subst e';rw [hK (by rw [q];simp)] at e;cases e
    ·subst e'
     rw [hKT] at e;cases e)
  have hBl2:BltAt mg (hidT s₁.heap H):=by
   obtain ⟨bm,ob,e1,e2,e3,e4,e5,e6,e7⟩:=hBl;refine ⟨bm,ob,e1,e2,e3,base_of e4 ?_,e5,e6,e7⟩;cases q:H bm with
   | none=>rfl
   | some u =>
    rcases hA bm (by rw [q];simp) with e' | e'
    ·subst e';rw [ha] at e4;cases e4;exact absurd (show Value.type "list" = Value.type "module" from e5) (by decide)
    ·subst e';rw [hT] at e4;cases e4;exact absurd (show Value.none=Value.type "module" from e5) (by decide)
  have hM:Mod K mg (hidT s₁.heap H):=⟨hKb,nsK hns,⟨mb,nsK hb,hbb⟩,let ⟨mc,h1,h2⟩:=hlim;⟨mc,nsK h1,h2⟩⟩;have e0:Env0 P w K mg (hidT s₁.heap H) callerA [] s₁ H:=⟨rfl,hM,fun b o e=>of_hidT e,Nat.le_of_eq (hidT_size _ _),trivial,fun b hb=>absurd (show b∈([]:List Addr) from hb) (by simp),hok,.of_eq hg⟩;refine codeAny_mono ((F _ hKb (nsK hns) hBl2).run callerA [] s₁ H ⟨[.ref a],[]⟩ [.ref a] [.ref a] _ _ hr e0 (hbind s₁ (.ref a)) (.cons rfl .nil) (hsp H hO hS)) fun r s' h=>?_;cases r with
  | error e=>exact (hCX H e s' h).elim
  | ok fl =>
   cases fl with
   | next=>exact False.elim h
   | brk=>exact False.elim h
   | cont=>exact False.elim h
   | ret u =>
    obtain ⟨v,H',os,bare,un,hok',r',q⟩:=h;have q':v=.bl true:=q;subst q';obtain rfl:u=Value.bool true:=r';have keep:∀ b o,b≠T→s₁.heap.get? b=some o→s'.heap.get? b=some o:=fun b o nb e=>by
     cases q:H b with
     | none=>exact un.keep b o e q (by intro z;exact absurd (show b∈([]:List Addr) from z) (by simp)) (by simp)
     | some u =>
      rcases hO.2 b nb with z | ⟨ob,xs,z⟩
      ·rw [q] at z;cases z
      ·have z2:=un.frzs b ob _ z;obtain ⟨e1,_⟩:=hok b _ z;obtain ⟨e2,_⟩:=hok' b _ z2;rw [e] at e1;cases e1;exact e2
    obtain ⟨more,eT⟩:=un.tbls T _ hO.1;have gT:s'.heap.get? T=some { cls:=.none,data:=.fields (#[]++more) }:=hok' T _ eT;refine ⟨rfl,⟨fun b o e=>?_,fun b o e=>?_⟩,os,bare⟩
    ·by_cases nb:b=T
     ·subst nb;rw [hT] at e;cases e;obtain ⟨oc,vsc,_,_,_,_,_,_,_,g1,g2,g3,g4,_⟩:=PySem.W.codeHd_of_K KX hCd;exact .inr (.inl ⟨⟨c,oc,vsc,g1,g2,g3,g4⟩,rfl,#[],more,rfl,gT⟩)
     ·exact .inl (keep b o nb e)
    ·by_cases nb:b=T
     ·subst nb;exact ⟨_,gT⟩
     ·exact ⟨o,keep b o nb e⟩
 cases hk:K.lookup a with
 | some o =>
  have e:=KX a o hk;rw [ha] at e;cases e;refine core (fun b=>if b=T then some (.tbl #[]) else none) ⟨if_pos rfl,fun b nb=>.inl (if_neg nb)⟩ (.inr ⟨_,vs.toArray,_,hk,rfl,rfl,rfl,by rw [Zc,lenV];exact hl,by simpa using rv⟩) (fun b u z=>?_) (fun b z=>?_) fun z=>absurd (if_neg aT) z
  ·by_cases nb:b=T
   ·have z':=(if_pos nb).symm.trans z;cases z';subst nb;exact hT
   ·have z':=(if_neg nb).symm.trans z;cases z'
  ·by_cases nb:b=T
   ·exact .inr nb
   ·exact absurd (if_neg nb) z
 | none =>
  refine core (fun b=>if b=T then some (.tbl #[]) else if b=a then some (.frz { cls:=.type "list",data:=.seq vs.toArray } (.lst (ns.map V.int))) else none) ⟨if_pos rfl,fun b nb=>?_⟩ (.inl (.inr ⟨{ cls:=.type "list",data:=.seq vs.toArray },?_⟩)) (fun b u z=>?_) (fun b z=>?_) fun _=>hk
  ·by_cases hb:b=a
   ·exact .inr ⟨_,_,(if_neg nb).trans (if_pos hb)⟩
   ·exact .inl ((if_neg nb).trans (if_neg hb))
  ·exact (if_neg aT).trans (if_pos rfl)
  ·by_cases nb:b=T
   ·have z':=(if_pos nb).symm.trans z;cases z';subst nb;exact hT
   ·have z':=(if_neg nb).symm.trans z;by_cases hb:b=a
    ·have z2:=(if_pos hb).symm.trans z';cases z2;subst hb;exact ⟨ha,by rw [Z0];exact hl,vs,_,rv,ha⟩
    ·have z2:=(if_neg hb).symm.trans z';cases z2
  ·by_cases nb:b=T
   ·exact .inr nb
   ·by_cases hb:b=a
    ·exact .inl hb
    ·exact absurd ((if_neg nb).trans (if_neg hb)) z
theorem blt_of {p:Program}{loose:List Str}{mean:ExcName→Option Value}{mg mb:Str→Option Value}{h:Heap} (T:PyProof.Rows.Top p loose mean mg mb h):BltAt mg h:=by
 obtain ⟨bm,ob,b1,b2,b3,b4,b5,b6⟩:=T.bmain;refine ⟨bm,ob,b1,b2,fun q=>?_,b3,b4,b5,b6⟩;obtain ⟨o,es,ep,e,hd,_⟩:=T.g;rw [q,e] at b3;cases b3;rw [hd] at b6;cases b6
end L2
namespace L2
open PySem PySem.Spec PyProof.Rows
noncomputable def Ite (K:PySem.W.Frag) (a:Addr):It :=
 ⟨fun i H=>∃ xs x,SqL K H a xs∧xs[i]? = some x,
  fun i H v H'=>∃ p x,v=.ref p∧H p=none∧H'=upd H p (.tup [.int (i:Nat),x])∧∀ xs,SqL K H a xs→xs[i]? = some x,
  fun i H=>∃ xs,SqL K H a xs∧xs.length≤i⟩
theorem turn_enum {P:Program}{w:World}{K:PySem.W.Frag}{es:List Expr}{x1:_}{pos:Pos}{l e it:Addr} (D:e≠it) :
  Turn P w K (.Tuple es x1 pos) (Ite K l) [e,it] e (fun i h=>(∃ old,IsEnum h e it ((i:Nat):Int) old)∧h.IsListIter it l i) where
 mem:=by simp
 obj:=fun i h st b hb=>by
  obtain ⟨⟨old,h1⟩,⟨o4,h4,_,d4⟩⟩:=st;simp only [Zw,Zp,or_false] at hb;rcases hb with rfl | rfl
  ·exact ⟨_,h1,fun v q=>by cases (show Data.fields _=Data.cell v from q)⟩
  ·exact ⟨_,h4,fun v q=>by rw [d4] at q;cases q⟩
 keep:=fun i h h' st k=>by
  obtain ⟨⟨old,h1⟩,h4⟩:=st;exact ⟨⟨old,k e (by simp) _ h1⟩,h4.at fun o q=>k it (by simp) o q⟩
 item:=by
  intro X hP hw hK hc i pins s σ H E I hf st hg;subst hP hw hK;obtain ⟨⟨old,h1⟩,h4⟩:=st;obtain ⟨xs,x,qx,ex⟩:=hg;obtain ⟨its,rx,px,_⟩:=I.list qx;obtain ⟨u,hu,ru⟩:=rx.get ex;refine wpAny_pyNext_enum_item h1 h4 px.isList (x:=u) (by simpa using hu) D fun h' a1 a2 a3 a4 a5=>?_;refine ⟨_,rfl,wpAny_letOwnedTupleGo_enum a1 fun h2' b1 sb=>?_⟩;have ne:s.heap.objs.size≠e:=fun q=>by have:=Z9 h1;rw [← q] at this;exact Y0 _ this
  have J:Inv X pins σ H { s with heap:=h2',toks:=s.toks + 1 }:=I.turns (t':=s.toks + 1) (ch:=[e,it]) (fun b o hb q=>by
   simp only [Zw,Zp,or_false,not_or] at hb
   exact (sb.2 b hb.1).trans (a5 b o hb.1 hb.2 q)) hf
  have gT:h2'.get? s.heap.objs.size=some { cls:=.type "tuple",data:=.seq #[.int (i:Nat) s.toks,u] }:=(sb.2 _ ne).trans a3;have fT:H s.heap.objs.size=none:=I.hok.fresh (Z5 _)
  have J2:Inv X pins σ (upd H s.heap.objs.size (.tup [.int (i:Nat),x])) { s with heap:=h2',toks:=s.toks + 1 }:=J.adopt fT I.sz (Xd I.lt) (fun n c q=>by
    obtain ⟨w',q⟩:=I.cell n c q
    exact Zg q.lt) (fun p hp=>Zg (Z9 (I.pin p hp).1)) ⟨by show 2≤sizeLine;decide,[.int (i:Nat) s.toks,u],.cons ⟨_,rfl⟩ (.cons ru .nil),⟨_,gT,rfl,_,rfl⟩⟩
  refine ⟨.ref s.heap.objs.size,_,J2,rfl,⟨_,x,rfl,fT,rfl,fun zs hz=>by rw [I.list_inj hz qx];exact ex⟩,⟨⟨u,?_⟩,a2.at fun o q=>(sb.2 _ (Ne.symm D)).trans q⟩,fun b hb=>?_⟩
  ·have:(((i + 1:Nat)):Int)=(i:Int) + 1:=by push_cast;rfl
   rw [this];exact b1
  ·have hb':=(hf b hb).1;have:b≠s.heap.objs.size:=by
    rintro rfl;obtain ⟨o,q⟩:∃ o,s.heap.get? s.heap.objs.size=some o:=by
     simp only [Zw,Zp,or_false] at hb;rcases hb with q | q <;> rw [q]
     ·exact ⟨_,h1⟩
     ·obtain ⟨o,q,_⟩:=h4;exact ⟨o,q⟩
    exact Y0 _ (Z9 q)
   rw [zA8 this];exact hb'
 done:=by
  intro X hP hw hK hc i pins s σ H E I hf st hg;subst hP hw hK;obtain ⟨⟨old,h1⟩,h4⟩:=st;obtain ⟨xs,qx,hend⟩:=hg;obtain ⟨its,rx,px,_⟩:=I.list qx;have e1:=rx.length;refine wpAny_pyNext_enum_end (I.ok.hd hc) h1 h4 px.isList (by simp;omega) fun h' kk=>⟨rfl,I.turns (t':=s.toks) (ch:=[e,it]) (fun b o hb q=>?_) hf⟩;simp only [Zw,Zp,or_false,not_or] at hb;exact kk b o hb.2 q
 self:=fun _ _ _ _ _ st h=>wpAny_pyIter_enum st.1.choose_spec h
noncomputable def iEnum (K:PySem.W.Frag) (ta:TA):TI:=fun σ H R=>ta σ H fun vs H1=>∃ a,vs=[.ref a]∧(∃ xs,SqL K H1 a xs)∧R (Ite K a) H1
section
variable {X:Cx}
theorem zG3 {es:List Expr}{x1:_}{tp:Pos}{e1:Expr}{ta:TA}{p pos:Pos} (hg:Gl X "enumerate") (hm:X.mg "enumerate" = none) (ha:PA X [e1] ta) (hs:starEach [e1] X.env=[(false,eval e1 X.env)]:=by rfl) :
  PI X (.Tuple es x1 tp) (.Call (.Name "enumerate" p) [e1] [] pos) (iEnum X.K ta):=by
 intro pins s σ H R I h;refine Call_ (zEy I hg hm boot_enumerate (PyProof.Rows.callWith_type1 (thn (ha pos pins s σ H _ I h) fun us s1 ⟨vs,H1,I1,r1,q1⟩=>?_) hs rfl));obtain ⟨a,rfl,⟨xs,qx⟩,q⟩:=q1;obtain ⟨u,rfl,ru⟩:=v1 r1;cases (show u=Value.ref a from ru);obtain ⟨its,rx,px,_⟩:=I1.list qx;refine call_enumerate_list px.isList fun h' a1 a2 a3 a4=>wpAny_pyIter_enum a1 ?_;have I2:Inv X pins σ H1 { s1 with heap:=h' }:=I1.kept (t':=s1.toks) a4;refine ⟨s1.heap.objs.size + 1,[s1.heap.objs.size + 1,s1.heap.objs.size],_,_,H1,rfl,I2,turn_enum (Nat.succ_ne_self _),⟨⟨_,a1⟩,a2⟩,fun c hc=>?_,q⟩;have hc':s1.heap.objs.size≤c:=by
  simp only [Zw,Zp,or_false] at hc;rcases hc with q | q
  ·rw [q];exact Yq _
  ·rw [q];exact Z5 _
 exact I1.fpOk hc' (I1.hok.fresh hc')
end
noncomputable def Froze (H:Hp) (d:Addr) (kvs:List (Key×V)) (H':Hp):Prop:=∃ o,H'=upd H d (.frz o (.dK kvs))
theorem Froze.at {H H':Hp}{d:Addr}{kvs:List (Key×V)} (z:Froze H d kvs H'):Rd H' d (.dK kvs):=by
 obtain ⟨o,rfl⟩:=z;exact .inr ⟨o,zA1⟩
theorem Froze.ne {H H':Hp}{d:Addr}{kvs:List (Key×V)} (z:Froze H d kvs H') {b:Addr} (h:b≠d):H' b=H b:=by
 obtain ⟨o,rfl⟩:=z;exact zA8 h
section
variable {X:Cx}{pins:List (Addr×Obj)}{σ : St}{H:Hp}{s:Shared}{d:Addr}{kvs:List (Key×V)}
end
theorem KV.get {κ : Type}:∀ {kvs:List (κ×V)}{vs:List (κ×Value)}{i:Nat}{k : κ}{x:V},KV kvs vs→kvs[i]? = some (k,x)→∃ u,vs[i]? = some (k,u)∧RelV x u
 | _,_,_,_,_,.nil,e=>by simp at e
 | _,_,0,k,x,.cons (b:=b) r _,e=>by
  simp at e;obtain ⟨k',u⟩:=b;subst e;obtain ⟨e1,e2⟩:=r;exact ⟨u,by simp at e1;simp [e1],e2⟩
 | _,_,i + 1,k,x,.cons _ t,e=>by
  obtain ⟨u,h1,h2⟩:=KV.get (i:=i) (k:=k) (x:=x) t (by simpa using e);exact ⟨u,by simpa using h1,h2⟩
theorem KV.len {κ : Type}{kvs:List (κ×V)}{vs:List (κ×Value)} (h:KV kvs vs):kvs.length=vs.length:=Paired.length h
theorem key_rel {k:Key}{v:Value} (h:keyIs k v=true):RelV (kV k) v:=by
 rcases zAz h with ⟨i,t,rfl,rfl⟩ | ⟨x,t,rfl,rfl⟩
 ·exact ⟨t,rfl⟩
 ·exact ⟨t,rfl⟩
noncomputable def ViewO (v d:Addr):HO:=.ext fun h=>h.IsValuesView v d
section
variable {X:Cx}{tg:Expr}
noncomputable def tValues (td:TE):TE:=fun σ H Q=>td σ H fun x H1=>∃ d kvs,x=.ref d∧Rd H1 d (.dK kvs)∧∀ v,H1 v=none→Q (.ref v) (upd H1 v (ViewO v d))
theorem zEq {o:Expr}{td:TE}{apos cpos:Pos} (ho:PE X o td) (hbase:attributeBase o "values" X.env (eval o X.env)=eval o X.env:=by rfl) (hline:(apos.endLine == cpos.line)=true:=by rfl) :
  PE X (.Call (.Attribute o "values" apos) [] [] cpos) (tValues td):=by
 intro pins s σ H Q I h;refine wpAny_Call_method0_late hbase hline (thn (ho pins s σ H _ I h) fun v s1 ⟨x,H1,I1,r1,d,kvs,ex,rd,q1⟩=>?_);subst ex;obtain rfl:v=Value.ref d:=r1;obtain ⟨t1,t2,lo⟩:=isD_at I1 (.inl ⟨kvs,rd⟩);obtain ⟨_,_,vs,kv,dd⟩:=zEa I1.hok rd;refine ⟨"dict", "dict.values",PySem.F.plainAttrs_dict,PySem.F.slot_dict_values,PySem.F.type_dict_values,t1,t2,Calls.callWith_builtin rfl (PySem.evalArgs_none ?_)⟩;refine call_meetsIn PySem.F.slot_dict_values t1 PySem.F.entry_dict_values (PySem.F.args_dict_values_1 _) (meets_dict_values (mixKind X.prog X.w) d lo) ⟨⟨vs,dd⟩,?_⟩;have fr:H1 s1.heap.objs.size=none:=I1.hok.fresh (Z5 _);refine ⟨.ref s1.heap.objs.size,_,I1.laid (t':=s1.toks) (a:=s1.heap.objs.size) (o:=ViewO s1.heap.objs.size d) (fun b u e=>Z2 _ e) (Z5 _) ⟨⟨_,Ze _ rfl,rfl,rfl⟩,⟨_,Ze _ rfl⟩,fun h1 h2 ⟨o',e,r⟩ k=>⟨o',k _ e,r⟩⟩,rfl,q1 _ fr⟩
theorem zFd:CallR X (.type "list") (fun vs H Q=>∃ d kvs,vs=[.ref d]∧Rd H d (.dK kvs)∧X.calm=true∧∀ p,H p=none→Q (.ref p) (upd H p (.lst (kvs.map fun kv=>kV kv.1)))):=by
 intro pins s σ H vs us Q I rv h;obtain ⟨d,kvs,rfl,rd,hc,q⟩:=h;obtain ⟨u,rfl,ru⟩:=v1 rv;cases (show u=Value.ref d from ru);obtain ⟨hz,lo,ks,kv,dd⟩:=zEa I.hok rd;obtain ⟨o,es,ep,g,ex,hd,r⟩:=id dd;have da:s.heap.DictAt (mixKind X.prog X.w) d ks ep:=⟨o,es,g,ex,hd,r⟩;have kl:=kv.len;refine PySem.W.kdl_call (PySem.W.kdl_dict (knd:=mixKind X.prog X.w) (kvs:=ks) (ep:=ep) lo) (I.ok.hd hc) da (by omega) fun h' tk acc c' kk hS hacc=>?_;have fr:H s.heap.objs.size=none:=I.hok.fresh (Z5 _);refine ⟨.ref s.heap.objs.size,_,I.laid (t':=tk) (a:=s.heap.objs.size) (o:=.lst (kvs.map fun kv=>kV kv.1)) kk (Z5 _) ⟨by rw [Z0];exact hz,acc.toList,c',?_,by rw [Array.toArray_toList];exact hS⟩,rfl,q _ fr⟩;have ln:acc.toList.length=kvs.length:=by rw [Y3,kl];exact hacc.1
 have all:∀ (j:Nat) (v:Value),acc.toList[j]? = some v→∃ k x,kvs[j]? = some (k,x)∧RelV (kV k) v:=fun j v e=>by
  obtain ⟨k,x,e2,hk⟩:=hacc.2 j v (by rw [← Yj];exact e);have hj:j < kvs.length:=by rw [← ln];exact (List.getElem?_eq_some_iff.mp e).1
  obtain ⟨⟨k',x'⟩,hk'⟩:∃ p,kvs[j]? = some p:=⟨_,Z1 hj⟩;obtain ⟨u',hu',_⟩:=kv.get hk';rw [e2] at hu';cases hu';exact ⟨k,x',hk',key_rel hk⟩
 clear hS hacc hz da dd kk kl kv rd q;generalize acc.toList=ys at ln all
 induction kvs generalizing ys with
 | nil =>
  cases ys with
  | nil=>exact .nil
  | cons a b=>cases ln
 | cons p t ih =>
  cases ys with
  | nil=>cases ln
  | cons a b =>
   refine .cons ?_ (ih b (by simpa using ln) fun j v e=>?_)
   ·obtain ⟨k,x,e,q⟩:=all 0 a rfl;simp at e;subst e;exact q
   ·obtain ⟨k,x,e2,q⟩:=all (j + 1) v (by simpa using e);exact ⟨k,x,by simpa using e2,q⟩
theorem ltCps_iff:∀ (a b:List Nat),ltCps a b=true ↔ a < b
 | [],[]=>by simp [ltCps]
 | [],_ :: _=>by simp [ltCps]
 | _ :: _,[]=>by simp [ltCps]
 | a :: r,b :: t=>by
  rw [List.cons_lt_cons_iff];simp only [ltCps,Bool.or_eq_true,Zv,decide_eq_true_eq,beq_iff_eq,ltCps_iff r t]
theorem leS_trans {a b c:Str} (x:¬ ltS b a) (y:¬ ltS c b):¬ ltS c a:=by
 have h1:a.cps.toList≤b.cps.toList:=x;have h2:b.cps.toList≤c.cps.toList:=y;exact List.le_trans h1 h2
theorem rising_pw:∀ (l:List Str) (a:Str),risingS a l=true→(a :: l).Pairwise (fun x y=>¬ ltS y x)
 | [],a,_=>by simp
 | b :: r,a,h=>by
  have h':(!ltCps b.cps.toList a.cps.toList && risingS b r)=true:=h;simp only [Zv,Bool.not_eq_true'] at h';have ih:=rising_pw r b h'.2;have hab:¬ ltS b a:=fun z=>by
   have:=(ltCps_iff _ _).mpr z;rw [h'.1] at this;cases this
  refine List.pairwise_cons.mpr ⟨fun y hy=>?_,ih⟩;rcases List.mem_cons.mp hy with rfl | hy
  ·exact hab
  ·exact leS_trans hab ((List.pairwise_cons.mp ih).1 y hy)
theorem sorted_pw:∀ (l:List Str),sortedS l=true→l.Pairwise (fun x y=>¬ ltS y x)
 | [],_=>.nil
 | a :: r,h=>rising_pw r a h
theorem strs_are:∀ {ks:List Str}{us:List Value},Vals (ks.map V.str) us→StrsAre us ks
 | [],_,.nil=>.nil
 | k :: r,_,.cons a t=>by
  obtain ⟨tk,rfl⟩:=a;exact .cons k tk (strs_are t)
theorem vals_strs:∀ {ks:List Str}{us:List Value},StrsAre us ks→Vals (ks.map V.str) us
 | _,_,.nil=>.nil
 | _,_,.cons x t r=>.cons ⟨t,rfl⟩ (vals_strs r)
end
end L2
namespace L2
open PySem PySem.Spec PyProof.Rows
theorem lk_list_keys:typeLookup (.type "list") "keys" = pure none:=by rw [typeLookup_type,builtinLookup_eq_fast];kernel_rfl
theorem entry_dul:entryFor table "dict.update.loop" = some Builtin.«dict.update.loop»:=entryFor_of_tree (by kernel_rfl)
theorem zDe:plainId "dict.update.loop" = true:=by decide +kernel
section
variable {P:Program}{w:World}{A:Around}{E:Value→Shared→Prop}
theorem no_keys {s:Shared}{a:Addr}{o:Obj}{xs:Array Value}{k:Nat}{Q:Option Value→Shared→Prop} (hx:s.heap.get? a=some o) (hc:o.cls=.type "list") (hdat:o.data=.seq xs k) (hd:o.dict=none) (hA:A.handled=none)
  (h:∀ h' tk,Kept s.heap h'→Q none { s with heap:=h',toks:=tk }):wpAny (model P w) A (getAttr? (.ref a) "keys") Q E s:=by
 obtain ⟨c,dct,dat,sl⟩:=o;simp only at hc hdat hd;subst hc hdat hd;obtain ⟨hp,g,d,tk,os⟩:=s;have hT:∀ n,(⟨hp,g,d,n,os⟩:Shared).TypeIs (.ref a) "list":=fun _=>⟨_,hx,rfl⟩;have f1:=sub_AttributeError;have f3:=F.slot_list_getattribute.lookup;have f4:=F.slot_list_getattribute.bind (.ref a);have f5:=am_list_getattr_none;unfold getAttr? getAttrBy? getAttrBy
 repeat (any_goals (first | assumption | exact hT _ | ((with_reducible show wpAny _ _ (call (Value.builtin "list.__getattribute__") _ _) _ _ _);refine call_meets F.slot_list_getattribute (hT _) am_entry_list_getattribute (F.args_list_getattribute_2 _ _) (meets_getattribute_miss_list a xs k sl "keys" _ lk_list_keys (by decide) (by size_fits)) ⟨hx,hA,fun h' tk' e hx'=>?_⟩) | wp_step))
 obtain ⟨t',u',he⟩:=hx'.there;show wpAny _ _ (getattributeRaised _ _ _ _ _ _ _) _ _ _;unfold getattributeRaised hookOrError attributeErrorLeaves
 repeat (any_goals (first | assumption | wp_step))
 exact h _ _ hx'.of.keeps
theorem nodup_at {α : Type}{l:List α} (h:l.Nodup) {i j:Nat}{x : α} (a:l[i]? = some x) (b:l[j]? = some x):i=j:=by
 obtain ⟨h1,e1⟩:=List.getElem?_eq_some_iff.mp a;obtain ⟨h2,e2⟩:=List.getElem?_eq_some_iff.mp b;exact (List.getElem_inj h).mp (e1.trans e2.symm)
theorem pairs_loop {z:Shared}{g:Heap}{l I d:Addr}{its:List Value}{ps:List (Key×Value)}{R:Result→Shared→Prop} (hh:A.handled=none) (hl:g.IsList l its.toArray) (hI:g.objs.size≤I) (hd:g.objs.size≤d) (ne:d≠I) (hz:its.length≤sizeLine)
  (len:ps.length=its.length) (nd:(ps.map (·.1)).Nodup) (hp:∀ (i:Nat) (v:Value) (k:Key) (u:Value),its[i]? = some v→ps[i]? = some (k,u)→∃ (t:Addr) (y:Value),v=.ref t∧IsTup g t #[y,u]∧keyIs k y=true)
  (fin:∀ h tk,Kept g h→h.DictOf (mixKind P w) d ps→R (.ok (.ret .none)) { z with heap:=h,toks:=tk }) :
  ∀ (r i:Nat) (h:Heap) (tk:Nat),its.length - i=r→i≤its.length→Kept g h→h.DictOf (mixKind P w) d (ps.take i)→h.IsListIter I l i →
   codeAny (model P w) A (.builtin "dict.update.loop" ⟨[.ref d,.ref I,rawInt (i:Nat),.none],[]⟩) R { z with heap:=h,toks:=tk }:=by
 have hlI:l≠I:=by
  obtain ⟨o,e,_⟩:=hl;exact Zg (Zf (Z9 e) hI)
 have W:=Walks.list (prog:=P) (w:=w) (A:=A.in1) hh I l hlI its.toArray;have sz:its.toArray.size=its.length:=by simp
 have lst:∀ {h},Kept g h→h.IsList l its.toArray:=fun {h} k=>by
  obtain ⟨o,e,r⟩:=hl;exact ⟨o,k _ _ e,r⟩
 have dk:∀ {h h':Heap}{q:List (Key×Value)},h.DictOf (mixKind P w) d q→(∀ b o,b∉[I]→h.get? b=some o→h'.get? b=some o)→h'.DictOf (mixKind P w) d q:=fun ⟨o,es,ep,e,r⟩ k=>⟨o,es,ep,k _ _ (by simpa using ne) e,r⟩;intro r
 induction r with
 | zero =>
  intro i h tk hr hi k hm it;have hin:i=its.length:=by omega
  subst hin;refine codeAny_builtin entry_dul ?_;rw [Around.under_plainId zDe _];show wpAny _ A.in1 (pyNext (Value.ref I) >>= _) _ _ _;refine wpAny_bind (W.done _ _ _ ⟨by rw [sz];exact it,lst k⟩ fun h1 tk1 k1=>?_);show wpAny _ A.in1 (Builtin.Dict.addKeywords d [] >>= _) _ _ _;refine wpAny_bind (wpAny_pure (wpAny_pure ?_));rw [← len,Zh] at hm;exact fin _ _ (k.but hI k1) (dk hm k1)
 | succ r ih =>
  intro i h tk hr hi k hm it;have hlt:i < its.length:=by omega
  refine codeAny_builtin entry_dul ?_;rw [Around.under_plainId zDe _];show wpAny _ A.in1 (pyNext (Value.ref I) >>= _) _ _ _;refine wpAny_bind (W.item i _ _ _ (by rw [sz];exact hlt) ⟨it,lst k⟩ fun v h1 tk1 hv st k1=>?_);have hv':its[i]? = some v:=by simpa using hv
  obtain ⟨⟨key,u⟩,hk⟩:∃ p,ps[i]? = some p:=⟨_,Z1 (by omega)⟩;obtain ⟨t,y,rfl,ht,hy⟩:=hp i v key u hv' hk;have kg:=k.but hI k1;have ht1:=ht.keeps kg;obtain ⟨o,ho,hc,n,hdt⟩:=id ht1;have hT:({ z with heap:=h1,toks:=tk1 }:Shared).TypeIs (.ref t) "tuple":=⟨o,ho,hc⟩;refine wpAny_bind (wpAny_holding (wpAny_bind (wpAny_tryCatch ?_)));unfold Builtin.Dict.pairItems;refine wpAny_bind (wpAny_typeOf hT ?_);rw [if_pos (by decide)];refine wpAny_bind (wpAny_seqItems ho hdt (wpAny_pure ?_));show wpAny _ A.in1 (holding [y,u] (dictSet d y u)) _ _ _;have hm1:=dk hm k1;have nk:key∉(ps.take i).map (·.1):=fun m=>by
   obtain ⟨q,hq,e⟩:=List.mem_map.mp m;obtain ⟨j,hj,ej⟩:=Zu hq;have hj':j < i:=by simp at hj;omega
   have e1:(ps.map (·.1))[j]? = some key:=by
    have:ps[j]? = some q:=by
     have:=Z1 hj;rw [Yd hj'] at this;rw [this,ej]
    simp [this,e]
   have e2:(ps.map (·.1))[i]? = some key:=by simp [hk]
   have:=nodup_at nd e1 e2;omega
  have st1:stored (ps.take i) key u=ps.take (i + 1):=by
   have hany:¬ ((ps.take i).any fun kv=>decide (kv.1=key))=true:=by
    rw [List.any_eq_true];rintro ⟨kv,h1,h2⟩;exact nk (List.mem_map.mpr ⟨kv,h1,of_decide_eq_true h2⟩)
   rw [stored,if_neg hany,Zd,hk];rfl
  refine wpAny_holding (wpAny_dictSet_pairs (knd:=mixKind P w) (k:=key) hy hm1 (fun h2 hm2 sb=>?_) (by have:=Zt i ps;omega));rw [st1] at hm2;refine wpAny_pure ⟨plainId_quiet zDe _,?_⟩;have e3:((i:Nat):Int) + 1=((i + 1:Nat):Int):=by push_cast;rfl
  show codeAny _ A (.builtin "dict.update.loop" ⟨[.ref d,.ref I,rawInt (((i:Nat):Int) + 1),.none],[]⟩) _ _;rw [e3];exact ih (i + 1) h2 _ (by omega) (by omega) (kg.same hd sb) hm2 (st.1.at fun o e=>(sb.2 I (Ne.symm ne)).trans e)
theorem call_pairs {z:Shared}{l:Addr}{its:List Value}{ps:List (Key×Value)}{Q:Value→Shared→Prop} (hh:A.handled=none) (hl:PlainL z.heap l its.toArray) (hz:its.length≤sizeLine)
  (len:ps.length=its.length) (nd:(ps.map (·.1)).Nodup) (hp:∀ (i:Nat) (v:Value) (k:Key) (u:Value),its[i]? = some v→ps[i]? = some (k,u)→∃ (t:Addr) (y:Value),v=.ref t∧IsTup z.heap t #[y,u]∧keyIs k y=true)
  (fin:∀ h tk,Kept z.heap h→h.DictOf (mixKind P w) z.heap.objs.size ps→Q (.ref z.heap.objs.size) { z with heap:=h,toks:=tk }) :
  wpAny (model P w) A (call (.type "dict") [.ref l]) Q E z:=by
 refine callType_codes (Q₁:=fun obj s₁=>obj=.ref z.heap.objs.size∧s₁ = { z with heap:=z.heap.push { cls:=.type "dict",data:=.dict #[] } }) F.kt_called_dict (F.kt_typeCall_dict_1 _) F.entry_dict_init (kt_code_dict_new _ ⟨rfl,rfl⟩) ?_;rintro obj s₁ ⟨rfl,rfl⟩;have hnew:(z.heap.push { cls:=.type "dict",data:=.dict #[] }).DictOf (mixKind P w) z.heap.objs.size []:=Heap.DictOf.new z.heap;have k0:Kept z.heap (z.heap.push { cls:=.type "dict",data:=.dict #[] }):=Kept.push _ _;obtain ⟨ol,n,el,cl,dl,sl⟩:=id hl;refine ⟨hnew.typeIs,F.args_dict_init_2 _ _,?_⟩;unfold Builtin.«dict.__init__»;refine wpAny_bind ?_;unfold Builtin.Dict.selfAndRest;refine wpAny_bind (wpAny_notOrdered_dict hnew.typeIs ?_);show wpAny _ _ (pure (z.heap.objs.size,[Value.ref l])) _ _ _;refine wpAny_pure ?_;show wpAny _ _ (Builtin.Dict.updateFrom "dict.__init__" z.heap.objs.size (.ref l) [] .none) _ _ _;unfold Builtin.Dict.updateFrom;have hT:({ z with heap:=z.heap.push { cls:=.type "dict",data:=.dict #[] } }:Shared).TypeIs (.ref l) "list":=⟨ol,k0 _ _ el,cl⟩;refine wpAny_bind (wpAny_typeOf hT ?_);rw [if_pos (by decide)];refine wpAny_bind (no_keys (k0 _ _ el) cl sl dl hh fun h1 tk1 k1=>?_);simp only [Option.isNone_none,if_true];have hl1:h1.IsList l its.toArray:=by
  obtain ⟨o,e,r⟩:=hl.isList;exact ⟨o,k1 _ _ (k0 _ _ e),r⟩
 refine wpAny_bind (wpAny_rule (wpAny_bind (wpAny_pyIter_list hl1 (wpAny_pure ⟨plainId_quiet zDe _,?_⟩))));have sz1:z.heap.objs.size + 1≤h1.objs.size:=by
  have:=Z9 (k1 _ _ (Ze z.heap (o:={ cls:=.type "dict",data:=.dict #[] }) rfl));exact this
 refine pairs_loop (g:=z.heap) (z:=z) (A:=A.in1) hh hl.isList (I:=h1.objs.size) (d:=z.heap.objs.size) (by omega) (Z5 _) (Zg (by omega)) hz len nd hp (fun h tk kk hm=>⟨rfl,fin h tk kk hm⟩) _ 0 _ _ rfl (Zo _) ((k0.trans k1).trans (Kept.push _ _)) ?_ ⟨_,Ze _ rfl,rfl,rfl⟩;obtain ⟨o,es,ep,e,r⟩:=hnew;exact ⟨o,es,ep,Z2 _ (k1 _ _ e),r⟩
end
section
variable {X:Cx}
theorem zF8 {K:PySem.W.Frag} (hK:X.K=K):CallR X (.type "dict") (fun vs H Q=>∃ (l:Addr) (ts:List Addr) (kvs:List (Key×V)),vs=[.ref l]∧SqL K H l (ts.map V.ref)∧X.calm=true∧(kvs.map (·.1)).Nodup∧kvs.length=ts.length ∧
  (∀ (i:Nat) (t:Addr) (k:Key) (v:V),ts[i]? = some t→kvs[i]? = some (k,v)→H t=some (.tup [kV k,v]))∧∀ p,H p=none→Q (.ref p) (upd H p (.dK kvs))):=by
 subst hK;intro pins s σ H vs us Q I rv h;obtain ⟨l,ts,kvs,rfl,hl,hc,nd,ln,ht,q⟩:=h;obtain ⟨u,rfl,ru⟩:=v1 rv;cases (show u=Value.ref l from ru);obtain ⟨its,rx,pl,hz⟩:=I.list hl;have il:=rx.length;simp only [Z0] at il hz;have one:∀ (i:Nat) (v:Value),its[i]? = some v→∃ (t:Addr) (k:Key) (x:V) (y u:Value),v=.ref t∧kvs[i]? = some (k,x)∧IsTup s.heap t #[y,u]∧keyIs k y=true∧RelV x u:=fun i v e=>by
  have hi:i < its.length:=(List.getElem?_eq_some_iff.mp e).1;obtain ⟨t,et⟩:∃ t,ts[i]? = some t:=⟨_,Z1 (by omega)⟩;obtain ⟨⟨k,x⟩,ek⟩:∃ p,kvs[i]? = some p:=⟨_,Z1 (by omega)⟩;obtain ⟨v',hv',r⟩:=rx.get (i:=i) (x:=.ref t) (by simp [et]);rw [e] at hv';cases hv';cases (show v=Value.ref t from r);obtain ⟨_,is,rr,it⟩:=I.hok t _ (ht i t k x et ek);obtain ⟨y,u,rfl,ry,ru⟩:=v2 rr;refine ⟨t,k,x,y,u,rfl,ek,it,?_,ru⟩;cases k with
  | inl n=>obtain ⟨tk,rfl⟩:=ry;exact keyIs_int n tk
  | inr z=>obtain ⟨tk,rfl⟩:=ry;exact keyIs_str z tk
 obtain ⟨ps,lp,hps⟩:∃ ps:List (Key×Value),ps.length=its.length∧∀ i,i < its.length→∃ (t:Addr) (k:Key) (x:V) (y u:Value),its[i]? = some (.ref t)∧kvs[i]? = some (k,x)∧IsTup s.heap t #[y,u]∧keyIs k y=true∧RelV x u∧ps[i]? = some (k,u):=by
  have:∀ i:Fin its.length,∃ p:Key×Value,∃ (t:Addr) (k:Key) (x:V) (y u:Value),its[i.1]? = some (.ref t)∧kvs[i.1]? = some (k,x)∧IsTup s.heap t #[y,u]∧keyIs k y=true∧RelV x u∧p=(k,u):=fun i=>by
   obtain ⟨v,hv⟩:∃ v,its[i.1]? = some v:=⟨_,Z1 i.2⟩;obtain ⟨t,k,x,y,u,rfl,h2,h3,h4,h5⟩:=one i.1 v hv;exact ⟨(k,u),t,k,x,y,u,hv,h2,h3,h4,h5,rfl⟩
  refine ⟨List.ofFn fun i=>(this i).choose,by simp,fun i hi=>?_⟩;obtain ⟨t,k,x,y,u,a1,a2,a3,a4,a5,a6⟩:=(this ⟨i,hi⟩).choose_spec;exact ⟨t,k,x,y,u,a1,a2,a3,a4,a5,by rw [List.getElem?_ofFn,dif_pos hi,a6]⟩
 have keys:ps.map (·.1)=kvs.map (·.1):=by
  refine List.ext_getElem? fun i=>?_;by_cases hi:i < its.length
  ·obtain ⟨t,k,x,y,u,a1,a2,a3,a4,a5,a6⟩:=hps i hi;simp [a2,a6]
  ·rw [Yx (by simp;omega),Yx (by simp;omega)]
 have kv:KV kvs ps:=by
  have:∀ (a:List (Key×V)) (b:List (Key×Value)),a.length=b.length→(∀ (i:Nat) (k:Key) (x:V) (k':Key) (u:Value),a[i]? = some (k,x)→b[i]? = some (k',u)→k=k'∧RelV x u)→KV a b:=by
   intro a
   induction a with
   | nil =>
    intro b hb _;cases b with
    | nil=>exact .nil
    | cons _ _=>cases hb
   | cons p t ih =>
    intro b hb hr;cases b with
    | nil=>cases hb
    | cons c d=>exact .cons (hr 0 p.1 p.2 c.1 c.2 rfl rfl) (ih d (by simpa using hb) fun i k x k' u h1 h2=>hr (i + 1) k x k' u (by simpa using h1) (by simpa using h2))
  refine this _ _ (by omega) fun i k x k' u h1 h2=>?_;obtain ⟨t,k2,x2,y,u2,a1,a2,a3,a4,a5,a6⟩:=hps i (by rw [← lp];exact (List.getElem?_eq_some_iff.mp h2).1);rw [h1] at a2;cases a2;rw [h2] at a6;cases a6;exact ⟨rfl,a5⟩
 have fr:H s.heap.objs.size=none:=I.hok.fresh (Z5 _);refine call_pairs (P:=X.prog) (w:=X.w) (ps:=ps) (I.ok.hd hc) pl (by omega) lp (by rw [keys];exact nd) (fun i v k u hv hk=>?_) fun h tk kk hm=>?_
 ·obtain ⟨t,k2,x2,y,u2,a1,a2,a3,a4,a5,a6⟩:=hps i (List.getElem?_eq_some_iff.mp hv).1;rw [hv] at a1;cases a1;rw [hk] at a6;cases a6;exact ⟨t,y,rfl,a3,a4⟩
 ·refine ⟨.ref s.heap.objs.size,_,I.laid (t':=tk) (a:=s.heap.objs.size) (o:=.dK kvs) kk (Z5 _) ⟨by omega,?_,ps,kv,hm⟩,rfl,q _ fr⟩;have:=I.big;exact beq_false_of_ne (Xd this)
end
end L2
namespace L2
open PySem PySem.Spec PyProof.Rows
section
variable {X:Cx}
theorem call_isinstK {K:PySem.W.Frag} (hK:X.K=K):CallR X (.builtin "isinstance") (fun xs H Q=>∃ x c t cv b,xs=[x,c]∧TyOf K H x t∧RelV c cv∧PySem.W.kitOne K t cv=some b∧Q (.bl b) H):=by
 subst hK;exact zAn
end
structure FunL (K:PySem.W.Frag) (x qual:Str) (st:Stmt) (f:Addr) (fd:FuncData) (c:Addr):Prop where
 ex:∃ (oc:Value) (od:Option Addr) (kV doc pm:Value) (an:Option Addr) (ct:Value) (osl:Array (Option Value)),
  fd=PySem.W.fnOf x qual (defArgs st) (defBody st) (defScope st) .none kV doc pm an (.ref c) ct∧K.lookup f=some ⟨oc,od,.func fd,osl⟩∧PySem.W.codeIn K (.ref c) qual=true
 kp:PySem.W.keepIn K (.ref f)=true
theorem FunL.fn {K:PySem.W.Frag}{x qual:Str}{st:Stmt}{f c:Addr}{fd:FuncData} (F:FunL K x qual st f fd c):Fun K x qual st f fd:=by
 obtain ⟨oc,od,kV,doc,pm,an,ct,osl,e,lk,hcd⟩:=F.ex;exact ⟨⟨oc,od,kV,doc,pm,an,.ref c,ct,osl,e,lk,hcd⟩,F.kp⟩
theorem FunL.okC {P:Program}{w:World}{K:PySem.W.Frag}{mg:Str→Option Value}{base:Heap}{CX:CXT}{x qual:Str}{st:Stmt}{f c:Addr}{fd:FuncData}{N ps:List Str}{k:Nat}{sp:Sp} (F:FunL K x qual st f fd c) (S:FnScope N ps (defScope st)) (len:∀ vs H Q E,sp vs H Q E→vs.length=ps.length)
  (hbody:∀ (A:Around) (outer:List Env) (s:Shared) (H:Hp) (vs:List V) (Q:VK) (E:XK),Room k (A.deeper (envOfC qual (defScope st) s.heap.objs.size f (.ref c)))→sp vs H Q E →
   ∃ t,PSs (cxOf CX P w K mg base N qual (defScope st) f (.ref c) A outer s H E).nox (defBody st) t∧t { nx:=fun _ H'=>Q .non H',rt:=Q } (start N vs) H):FnOk P w K mg base CX (k + 1) f fd ps sp:=by
 obtain ⟨oc,od,kV,doc,pm,an,ct,osl,rfl,lk,hcd⟩:=F.ex;refine fn_of lk hcd S len fun A outer s H vs Q E hr hsp=>?_;obtain ⟨t,h,q⟩:=hbody A outer s H vs Q E hr hsp;exact ⟨t,h.nox,q⟩
end L2
namespace L2
open PySem PySem.Spec PyProof.Rows
theorem cut_first {c:Nat}:∀ {p q A B:List Nat},(∀ d∈p,d≠c)→(∀ d∈q,d≠c)→p++c :: A=q++c :: B→p=q∧A=B
 | [],[],_,_,_,_,h=>⟨rfl,by simpa using h⟩
 | [],y :: q,_,_,_,hq,h=>by
  simp at h;exact absurd h.1.symm (hq y (by simp))
 | x :: p,[],_,_,hp,_,h=>by
  simp at h;exact absurd h.1 (hp x (by simp))
 | x :: p,y :: q,_,_,hp,hq,h=>by
  simp at h;obtain ⟨e1,e2⟩:=h;obtain ⟨a,b⟩:=cut_first (fun d hd=>hp d (by simp [hd])) (fun d hd=>hq d (by simp [hd])) e2;exact ⟨by rw [e1,a],b⟩
noncomputable def freeOf (c:Nat) (x:Str):Prop:=∀ d∈x.cps.toList,d≠c
theorem zBz {x y:Str} (h:x.cps.toList=y.cps.toList):x=y:=by
 obtain ⟨⟨a⟩⟩:=x;obtain ⟨⟨b⟩⟩:=y;simp at h;rw [h]
theorem zB5 (x y:Str):(x++y).cps.toList=x.cps.toList++y.cps.toList:=by
 show (x.cps++y.cps).toList=_;simp
theorem join_inj {c:Nat}:∀ {ps qs:List Str},(∀ p∈ps,freeOf c p)→(∀ q∈qs,freeOf c q)→ps≠[]→qs≠[]→Str.join ⟨#[c]⟩ ps=Str.join ⟨#[c]⟩ qs→ps=qs
 | [],_,_,_,h,_,_=>absurd rfl h
 | _,[],_,_,_,h,_=>absurd rfl h
 | [p],[q],_,_,_,_,h=>by
  have:p=q:=h;rw [this]
 | [p],q :: q2 :: r,hp,_,_,_,h=>by
  have h':p=q++⟨#[c]⟩++Str.join ⟨#[c]⟩ (q2 :: r):=h;exact absurd rfl (hp p (by simp) c (by rw [h',zB5,zB5];simp))
 | p :: p2 :: r,[q],_,hq,_,_,h=>by
  have h':p++⟨#[c]⟩++Str.join ⟨#[c]⟩ (p2 :: r)=q:=h;exact absurd rfl (hq q (by simp) c (by rw [← h',zB5,zB5];simp))
 | p :: p2 :: r,q :: q2 :: t,hp,hq,_,_,h=>by
  have h':p++⟨#[c]⟩++Str.join ⟨#[c]⟩ (p2 :: r)=q++⟨#[c]⟩++Str.join ⟨#[c]⟩ (q2 :: t):=h;have e:=congrArg (fun x:Str=>x.cps.toList) h';simp only [zB5] at e;have e2:p.cps.toList++c :: (Str.join ⟨#[c]⟩ (p2 :: r)).cps.toList=q.cps.toList++c :: (Str.join ⟨#[c]⟩ (q2 :: t)).cps.toList:=by simpa using e
  obtain ⟨a,b⟩:=cut_first (hp p (by simp)) (hq q (by simp)) e2;rw [zBz a,join_inj (fun x hx=>hp x (Z6 _ hx)) (fun x hx=>hq x (Z6 _ hx)) (by simp) (by simp) (zBz b)]
theorem split_join {c:Nat}{ws:List Str} (h:∀ w∈ws,freeOf c w) (ne:ws≠[]):Txt.split (Str.join ⟨#[c]⟩ ws) ⟨#[c]⟩=ws:=by
 refine join_inj (fun p hp d hd e=>?_) h ?_ ne (StrLaws.join_split _ _)
 ·exact StrLaws.split_free _ c p hp (e ▸ hd)
 ·intro z;have:=split_pos (Str.join ⟨#[c]⟩ ws) ⟨#[c]⟩;rw [z] at this;simp at this
noncomputable def evens {α : Type}:List α→List α
 | []=>[]
 | [a]=>[a]
 | a :: _ :: r=>a :: evens r
noncomputable def odds {α : Type}:List α→List α
 | []=>[]
 | [_]=>[]
 | _ :: b :: r=>b :: odds r
theorem pick_even {α : Type}:∀ (n:Nat) (l:List α),l.length≤n→(List.range ((l.length + 1) / 2)).filterMap (fun k=>l[2 * k]?)=evens l
 | 0,[],_=>by simp [evens]
 | _ + 1,[],_=>by simp [evens]
 | n + 1,[a],_=>by simp [List.range_succ,evens]
 | n + 1,a :: b :: r,h=>by
  have e:((a :: b :: r).length + 1) / 2=(r.length + 1) / 2 + 1:=by simp;omega
  rw [e,List.range_succ_eq_map,Ya];show a :: _=a :: evens r;have f:((fun k=>(a :: b :: r)[2 * k]?) ∘ Nat.succ)=fun k=>r[2 * k]?:=by
   funext k;show (a :: b :: r)[2 * (k + 1)]? = r[2 * k]?;rw [show 2 * (k + 1)=2 * k + 1 + 1 by omega];rfl
  rw [Xj,← pick_even n r (by simp at h;omega),f]
theorem pick_odd {α : Type}:∀ (n:Nat) (l:List α),l.length≤n→(List.range (l.length / 2)).filterMap (fun k=>l[2 * k + 1]?)=odds l
 | 0,[],_=>by simp [odds]
 | _ + 1,[],_=>by simp [odds]
 | n + 1,[a],_=>by simp [odds]
 | n + 1,a :: b :: r,h=>by
  have e:(a :: b :: r).length / 2=r.length / 2 + 1:=by simp;omega
  rw [e,List.range_succ_eq_map,Ya];show b :: _=b :: odds r;have f:((fun k=>(a :: b :: r)[2 * k + 1]?) ∘ Nat.succ)=fun k=>r[2 * k + 1]?:=by
   funext k;show (a :: b :: r)[2 * (k + 1) + 1]? = r[2 * k + 1]?;rw [show 2 * (k + 1) + 1=2 * k + 1 + 1 + 1 by omega];rfl
  rw [Xj,← pick_odd n r (by simp at h;omega),f]
theorem slice_even (its:List Value):slicePick its.toArray none none (some 2)=(evens its).toArray:=by
 unfold slicePick sliceBounds sliceRange;simp only [Zc];rw [← pick_even its.length its (Z5 _)]
 congr 1
 have hc:(if (2:Int) > 0 then if (0:Int) < (its.length:Int) then ((its.length:Int) - 0 + 2 - 1) / 2 else 0 else if (0:Int) > (its.length:Int) then (0 - (its.length:Int) - 2 - 1) / (-2) else 0).toNat=(its.length + 1) / 2:=by
  rw [if_pos (by decide)];split <;> omega
 show List.filterMap (fun (k:Nat)=>its.toArray[k]?) (List.map _ (List.range (if (2:Int) > 0 then if (0:Int) < (its.length:Int) then ((its.length:Int) - 0 + 2 - 1) / 2 else 0 else if (0:Int) > (its.length:Int) then (0 - (its.length:Int) - 2 - 1) / (-2) else 0).toNat))=_;rw [hc,Xj]
 congr 1
 funext k;show its.toArray[((0:Int) + 2 * (k:Int)).toNat]? = its[2 * k]?;rw [show ((0:Int) + 2 * (k:Int)).toNat=2 * k by omega];simp
theorem bounds_odd (n:Nat) (h:1≤n):sliceBounds (some 1) none (some 2) n=((1:Int),(n:Int),(2:Int)):=by
 unfold sliceBounds;have:max (0:Int) (min 1 (n:Int))=1:=by omega
 simp [this]
theorem slice_odd (its:List Value) (h:1≤its.length):slicePick its.toArray (some 1) none (some 2)=(odds its).toArray:=by
 unfold slicePick;rw [Zc,bounds_odd _ h,← pick_odd its.length its (Z5 _)]
 congr 1
 have hc:(if (2:Int) > 0 then if (1:Int) < (its.length:Int) then ((its.length:Int) - 1 + 2 - 1) / 2 else 0 else if (1:Int) > (its.length:Int) then (1 - (its.length:Int) - 2 - 1) / (-2) else 0).toNat=its.length / 2:=by
  rw [if_pos (by decide)];split <;> omega
 show List.filterMap (fun (k:Nat)=>its.toArray[k]?) (List.map (fun (k:Nat)=>((1:Int) + 2 * (k:Int)).toNat) (List.range (if (2:Int) > 0 then if (1:Int) < (its.length:Int) then ((its.length:Int) - 1 + 2 - 1) / 2 else 0 else if (1:Int) > (its.length:Int) then (1 - (its.length:Int) - 2 - 1) / (-2) else 0).toNat))=_;rw [hc,Xj]
 congr 1
 funext k;show its.toArray[((1:Int) + 2 * (k:Int)).toNat]? = its[2 * k + 1]?;rw [show ((1:Int) + 2 * (k:Int)).toNat=2 * k + 1 by omega];simp
end L2
namespace L2
open PySem PySem.Spec PyProof.Rows
section
variable {X:Cx}
theorem zGh:MtR X "str.startswith" (fun x xs H Q=>∃ z y,x=.str z∧xs=[.str y]∧Q (.bl (Txt.startswith z y)) H):=by
 intro pins s σ H x xs v us Q I rx rs h;obtain ⟨z,y,rfl,rfl,q⟩:=h;obtain ⟨t,rfl⟩:=rx;obtain ⟨u,rfl,ru⟩:=v1 rs;obtain ⟨t',rfl⟩:=ru;exact PySem.SC.startswith ⟨.bl _,H,I,rfl,q⟩
theorem zE4:∀ {l:List (Str×Tok)},Vals ((l.map (·.1)).map V.str) (strValues l)
 | []=>.nil
 | (k,t) :: r=>.cons ⟨t,rfl⟩ zE4
theorem mt_split:MtR X "str.split" (fun x xs H Q=>∃ z y,x=.str z∧xs=[.str y]∧(y.length == 0)=false∧z.length≤100000∧∀ p,H p=none→Q (.ref p) (upd H p (.lst ((Txt.split z y).map V.str)))):=by
 intro pins s σ H x xs v us Q I rx rs h;obtain ⟨z,y,rfl,rfl,hy,hz,q⟩:=h;obtain ⟨t,rfl⟩:=rx;obtain ⟨u,rfl,ru⟩:=v1 rs;obtain ⟨t',rfl⟩:=ru;have sl:z.length + 2≤sizeLine:=by rw [sizeLine_eq];omega
 have hl:=split_le z y;have fr:H s.heap.objs.size=none:=I.hok.fresh (Z5 _);have fin:∀ (l:List (Str×Tok)) (k:Nat),l.map (·.1)=Txt.split z y→EP X pins σ Q (.ref s.heap.objs.size) { s with heap:=s.heap.push { cls:=.type "list",data:=.seq (strValues l).toArray },toks:=k }:=fun l k e=>by
  have vv:Vals ((Txt.split z y).map V.str) (strValues l):=by rw [← e];exact zE4
  exact ⟨.ref _,_,I.laid (t':=k) (a:=s.heap.objs.size) (o:=.lst ((Txt.split z y).map V.str)) (fun b o e=>Z2 _ e) (Z5 _) ⟨by rw [Z0];omega,_,_,vv,Ze _ rfl⟩,rfl,q _ fr⟩
 have at_:=F.slot_str_split;cases h1:(decide (z.length < y.length) || decide (Builtin.Str.strKind z < Builtin.Str.strKind y)) with
 | true=>exact call_meets at_ (typeIs_str _ _ _) F.entry_str_split (F.args_str_split_2 _ _) (meets_str_split_cannot_occur z y t t' h1) (fin [(z,t)] s.toks (if_pos h1).symm)
 | false =>
  have n1:¬ (decide (z.length < y.length) || decide (Builtin.Str.strKind z < Builtin.Str.strKind y))=true:=by rw [h1];decide
  cases hf:(Builtin.Str.occurrences z y 0 z.length (z.length + 1)).isEmpty with
  | true=>exact call_meets at_ (typeIs_str _ _ _) F.entry_str_split (F.args_str_split_2 _ _) (meets_str_split_not_found z y t t' h1 hy hf) (fin [(z,t)] s.toks ((if_neg n1).trans (if_pos hf)).symm)
  | false =>
   have n2:¬ (Builtin.Str.occurrences z y 0 z.length (z.length + 1)).isEmpty=true:=by rw [hf];decide
   have e:Txt.split z y=Builtin.Str.partsBetween z (Builtin.Str.occurrences z y 0 z.length (z.length + 1)) y.length:=(if_neg n1).trans (if_neg n2);refine call_meets at_ (typeIs_str _ _ _) F.entry_str_split (F.args_str_split_2 _ _) (meets_str_split_sep z y t t' h1 hy hf (by omega) (by rw [← e];omega)) ?_;have:=fin (numbered s.toks (Builtin.Str.partsBetween z (Builtin.Str.occurrences z y 0 z.length (z.length + 1)) y.length)) (s.toks + (Builtin.Str.partsBetween z (Builtin.Str.occurrences z y 0 z.length (z.length + 1)) y.length).length) ((numbered_texts _ _).trans e.symm);rw [← strsFrom_eq] at this;exact this
theorem Vals.evens:∀ {xs:List V}{us:List Value},Vals xs us→Vals (evens xs) (evens us)
 | [],_,h=>by cases h;exact .nil
 | [_],_,h=>by
  cases h with
  | cons a t=>cases t;exact .cons a .nil
 | _ :: _ :: _,_,h=>by
  cases h with
  | cons a t =>
   cases t with
   | cons b t=>exact .cons a (Vals.evens t)
theorem Vals.odds:∀ {xs:List V}{us:List Value},Vals xs us→Vals (odds xs) (odds us)
 | [],_,h=>by cases h;exact .nil
 | [_],_,h=>by
  cases h with
  | cons a t=>cases t;exact .nil
 | _ :: _ :: _,_,h=>by
  cases h with
  | cons a t =>
   cases t with
   | cons b t=>exact .cons b (Vals.odds t)
theorem evens_le {α : Type}:∀ l:List α,(evens l).length≤l.length
 | []=>Z5 _
 | [_]=>Z5 _
 | _ :: _ :: r=>by
  have:=evens_le r;simp [evens];omega
theorem odds_le {α : Type}:∀ l:List α,(odds l).length≤l.length
 | []=>Z5 _
 | [_]=>Zo _
 | _ :: _ :: r=>by
  have:=odds_le r;simp [odds];omega
noncomputable def rEven (K:PySem.W.Frag) (te:TE):TE:=fun σ H Q=>te σ H fun x H1=>∃ a xs,x=.ref a∧SqL K H1 a xs∧∀ p,H1 p=none→Q (.ref p) (upd H1 p (.lst (evens xs)))
noncomputable def rOdd (K:PySem.W.Frag) (te:TE):TE:=fun σ H Q=>te σ H fun x H1=>∃ a xs,x=.ref a∧SqL K H1 a xs∧1≤xs.length∧∀ p,H1 p=none→Q (.ref p) (upd H1 p (.lst (odds xs)))
theorem zG5 {e:Expr}{te:TE}{k:Nat}{p1 p3 pos:Pos} (he:PE X e te):PE X (.Subscript e (.Slice none none (some (.Constant (.int 2) k p1)) p3) pos) (rEven X.K te):=by
 intro pins s σ H Q I h;refine Subscript_ (thn (he pins s σ H _ I h) fun v s1 ⟨x,H1,I1,r1,q1⟩=>?_);obtain ⟨a,xs,rfl,hx,q⟩:=q1;cases r1;refine wpAny_Slice ?_;rw [evalPart_none];refine wpAny_pure (wpAny_pure ?_);rw [evalPart_some];refine thn (zA4 (X:=X) (i:=2) pins s1 σ H1 (fun y H2=>y=.int 2∧H2=H1) I1 ⟨rfl,rfl⟩) fun u s2 ⟨y,H2,I2,r2,ey,eh⟩=>?_;subst ey eh;obtain ⟨t,rfl⟩:=r2;have I4:Inv X pins σ H2 { s2 with heap:=s2.heap.push { cls:=.type "slice",data:=.fields #[.none,.none,.int 2 t] } }:=I2.kept (t':=s2.toks) fun b ob q=>Z2 _ q;obtain ⟨its,r,ht,hz⟩:=I4.list hx;have hlen:=r.length;refine tail_any (ops:=[.ref a,.ref s2.heap.objs.size]) ht.isList.typeIs slot_list_getitem.lookup ?_ (by with_unfolding_all rfl);refine wpAny_getItem_list_slice ht.isList (Heap.IsSliceOf.new ..) .none .none (.int _ _) (by decide) ?_ (by rw [Zc];omega);rw [slice_even];have le:=evens_le xs;exact ⟨.ref _,_,I4.laid (t':=s2.toks) (o:=.lst (evens xs)) (fun b ob q=>Z2 _ q) (Z5 _) ⟨by omega,_,0,r.evens,Ze _ rfl⟩,rfl,q _ (I4.hok.fresh (Z5 _))⟩
theorem pe_odd {e:Expr}{te:TE}{k k':Nat}{p1 p2 p3 pos:Pos} (he:PE X e te):PE X (.Subscript e (.Slice (some (.Constant (.int 1) k' p2)) none (some (.Constant (.int 2) k p1)) p3) pos) (rOdd X.K te):=by
 intro pins s σ H Q I h;refine Subscript_ (thn (he pins s σ H _ I h) fun v s1 ⟨x,H1,I1,r1,q1⟩=>?_);obtain ⟨a,xs,rfl,hx,h1,q⟩:=q1;cases r1;refine wpAny_Slice ?_;rw [evalPart_some];refine thn (zA4 (X:=X) (i:=1) pins s1 σ H1 (fun y H2=>y=.int 1∧H2=H1) I1 ⟨rfl,rfl⟩) fun u0 s0 ⟨y0,H0,I0,r0,ey0,eh0⟩=>?_;subst ey0 eh0;obtain ⟨t0,rfl⟩:=r0;rw [evalPart_none];refine wpAny_pure ?_;rw [evalPart_some];refine thn (zA4 (X:=X) (i:=2) pins s0 σ H0 (fun y H2=>y=.int 2∧H2=H0) I0 ⟨rfl,rfl⟩) fun u s2 ⟨y,H2,I2,r2,ey,eh⟩=>?_;subst ey eh;obtain ⟨t,rfl⟩:=r2;have I4:Inv X pins σ H2 { s2 with heap:=s2.heap.push { cls:=.type "slice",data:=.fields #[.int 1 t0,.none,.int 2 t] } }:=I2.kept (t':=s2.toks) fun b ob q=>Z2 _ q;obtain ⟨its,r,ht,hz⟩:=I4.list hx;have hlen:=r.length;refine tail_any (ops:=[.ref a,.ref s2.heap.objs.size]) ht.isList.typeIs slot_list_getitem.lookup ?_ (by with_unfolding_all rfl);refine wpAny_getItem_list_slice ht.isList (Heap.IsSliceOf.new ..) (.int _ _) .none (.int _ _) (by decide) ?_ (by rw [Zc];omega);rw [slice_odd _ (by omega)];have le:=odds_le xs;exact ⟨.ref _,_,I4.laid (t':=s2.toks) (o:=.lst (odds xs)) (fun b ob q=>Z2 _ q) (Z5 _) ⟨by omega,_,0,r.odds,Ze _ rfl⟩,rfl,q _ (I4.hok.fresh (Z5 _))⟩
noncomputable def TJ:=St→Hp→Str→(Str→Hp→Prop)→Prop
noncomputable def PJ (X:Cx) (es:List Expr) (t:TJ):Prop:=∀ (pins:List (Addr×Obj)) (s:Shared) (σ : St) (H:Hp) (acc:Str) (Q:Str→Hp→Prop),Inv X pins σ H s→t σ H acc Q →
 Joins (model X.prog X.w) X.A X.xe (evalEach es X.env) acc (fun out s1=>∃ H1,Inv X pins σ H1 s1∧Q out H1) s
theorem pj_nil:PJ X [] (fun _ H acc Q=>Q acc H):=fun _ _ _ H _ _ I h=>⟨H,I,h⟩
noncomputable def showV:V→Option Str
 | .str x=>some x
 | .int i=>if i.natAbs < 10 ^ 12 then some (Str.ofString (toString i)) else none
 | _=>none
theorem zEn {e:Expr}{es:List Expr}{te:TE}{tj:TJ}{pos:Pos} (he:PE X e te) (hs:PJ X es tj) :
  PJ X (.FormattedValue e (-1) none pos :: es) (fun σ H acc Q=>te σ H fun v H1=>∃ x,showV v=some x∧x.length≤100000∧acc.length≤100000∧tj σ H1 (acc++x) Q):=by
 intro pins s σ H acc Q I h;have big:(200000:Nat)≤sizeLine:=by rw [sizeLine_eq];decide
 have la:∀ x y:Str,(x++y).length=x.length + y.length:=fun x y=>by show (x.cps++y.cps).size=_;simp [Str.length]
 show wpAny _ _ (eval (.FormattedValue e (-1) none pos) X.env) _ _ _;refine wpAny_FormattedValue_plain (thn (he pins s σ H _ I h) fun u s1 ⟨v,H1,I1,r1,x,ex,hx,hac,q⟩=>?_);have fin:∀ (t:Tok) (k:Nat),∃ y t',Value.str x t=.str y t'∧(acc++y).length≤sizeLine∧Joins (model X.prog X.w) X.A X.xe (evalEach es X.env) (acc++y) (fun out s1=>∃ H1,Inv X pins σ H1 s1∧Q out H1) { s1 with toks:=k }:=fun t k =>
  ⟨x,t,rfl,by rw [la];omega,hs pins _ σ H1 _ _ (I1.tok k) q⟩
 cases v with
 | str z =>
  cases ex;obtain ⟨t,rfl⟩:=r1;exact wpAny_formatField_str (fin t s1.toks) (fin _ _) (by omega)
 | int i =>
  obtain ⟨t,rfl⟩:=r1;replace ex:(if i.natAbs < 10 ^ 12 then some (Str.ofString (toString i)) else none)=some x:=ex;by_cases c:i.natAbs < 10 ^ 12
  ·rw [if_pos c] at ex;cases ex;refine wpAny_formatField_int ?_ (fin _ _);have:i.natAbs.log2 < 64:=by
    by_cases z:i.natAbs=0
    ·rw [z];decide
    ·exact (Nat.log2_lt z).mpr (Zf c (by decide))
   omega
  ·rw [if_neg c] at ex;cases ex
 | _=>cases ex
theorem pj_con {x:Str}{k:Nat}{es:List Expr}{tj:TJ}{pos:Pos} (hs:PJ X es tj) :
  PJ X (.Constant (.str x) k pos :: es) (fun σ H acc Q=>x.length≤100000∧acc.length≤100000∧tj σ H (acc++x) Q):=by
 intro pins s σ H acc Q I h;obtain ⟨hx,hac,q⟩:=h;have big:(200000:Nat)≤sizeLine:=by rw [sizeLine_eq];decide
 have la:∀ x y:Str,(x++y).length=x.length + y.length:=fun x y=>by show (x.cps++y.cps).size=_;simp [Str.length]
 refine thn (zBa (X:=X) (x:=x) pins s σ H (fun y H2=>y=.str x∧H2=H) I ⟨rfl,rfl⟩) fun u s1 ⟨v,H1,I1,r1,ev,eh⟩=>?_;subst ev eh;obtain ⟨t,rfl⟩:=r1;exact ⟨x,t,rfl,by rw [la];omega,hs pins _ σ _ _ _ I1 q⟩
theorem zDf {v1 v2:Expr}{rest:List Expr}{tj:TJ}{pos:Pos} (h:PJ X (v1 :: v2 :: rest) tj):PE X (.JoinedStr (v1 :: v2 :: rest) pos) (fun σ H Q=>tj σ H Str.empty fun out H1=>out.length≤100000∧Q (.str out) H1):=by
 intro pins s σ H Q I hh;have big:(200000:Nat)≤sizeLine:=by rw [sizeLine_eq];decide
 have mono:∀ (l:List (Sem Value)) (acc:Str) (Q1 Q2:Str→Shared→Prop) (s:Shared),(∀ o s,Q1 o s→Q2 o s)→Joins (model X.prog X.w) X.A X.xe l acc Q1 s→Joins (model X.prog X.w) X.A X.xe l acc Q2 s:=by
  intro l
  induction l with
  | nil=>intro acc Q1 Q2 s h q;exact h _ _ q
  | cons a r ih=>intro acc Q1 Q2 s h q;exact thn q fun v s1 ⟨y,t,e,hl,j⟩=>⟨y,t,e,hl,ih _ _ _ _ h j⟩
 refine wpAny_JoinedStr (mono _ _ _ _ _ (fun out s1 ⟨H1,I1,ho,q⟩=>⟨by omega,.str out,H1,I1.tok _,⟨_,rfl⟩,q⟩) (h pins s σ H _ _ I hh))
theorem zGv:CallR X (.type "int") (fun vs H Q=>∃ n:Int,vs=[.str (Str.ofString (toString n))]∧0≤n∧n < 10 ^ 10∧Q (.int n) H):=by
 intro pins s σ H vs us Q I rv h;obtain ⟨n,rfl,h0,h1,q⟩:=h;obtain ⟨u,rfl,ru⟩:=L2.v1 rv;obtain ⟨t,rfl⟩:=ru;exact PySem.W.KIN.call_num h0 h1 ⟨.int n,H,I.tok _,⟨_,rfl⟩,q⟩
end
end L2
namespace L2
open PySem PySem.Spec PyProof.Rows
noncomputable abbrev OKey:=Option Str
noncomputable def okIs:OKey→Value→Bool
 | none,.none=>true
 | none,_=>false
 | some x,v=>Value.isStrOf x v
noncomputable def okH (w:World):OKey→Int
 | none=>0xFCA86420
 | some x=>hashStr w x
theorem zB8:∀ {k:OKey}{v:Value},okIs k v=true→(k=none∧v=Value.none)∨(∃ x t,k=some x∧v=Value.str x t)
 | none,v,h=>by
  cases v <;> first | exact .inl ⟨rfl,rfl⟩ | exact nomatch h
 | some x,v,h=>by
  obtain ⟨t,e⟩:=Value.isStrOf_shape (x:=x) (v:=v) h;exact .inr ⟨x,t,rfl,e⟩
theorem okIs_str (x:Str) (t:Tok):okIs (some x) (.str x t)=true:=by simp [okIs,Value.isStrOf]
theorem zDm {prog:Program}{w:World}{A:Around}{E:Value→Shared→Prop}{s:Shared}{Q:Int→Shared→Prop} (h:Q 0xFCA86420 { s with toks:=s.toks + 1 }) :
  wpAny (model prog w) A (pyHash .none) Q E s:=by
 have hT:s.TypeIs .none "NoneType":=rfl;have hv:[Value.none].any Value.onHeap=false:=rfl;show wpAny _ _ (pyHashByItsType .none) Q E s;unfold pyHashByItsType;refine wpAny_bind ?_;rw [cRoomFor,if_neg (by rw [hv];exact Zi)];refine wpAny_pure ?_;refine wpAny_bind (wpAny_specialOf hT F.slot_NoneType_hash.lookup ?_);show wpAny _ _ (if (some (Value.builtin "NoneType.__hash__") == some Value.none)=true then _ else _) Q E s;rw [if_neg (by rw [beq_builtin_none];exact Zi)];refine wpAny_bind (wpAny_specialOf hT F.slot_NoneType_hash.lookup ?_);show wpAny _ _ (callSpecialIfBoundUnlessNone? .none "__hash__" _ >>= _) Q E s
 refine wpAny_bind (wpAny_callSpecialIfBoundUnlessNone?_slot hT F.slot_NoneType_hash
  (wpAny_call_entry F.slot_NoneType_hash hT F.entry_NoneType_hash
   (show wpAny _ _ (do ret (← mkInt 0xFCA86420)) _ _ s from wpAny_ret_mkInt ?_) (F.args_NoneType_hash_1 _)))
 exact wpAny_pure h
noncomputable def optKind (prog:Program) (w:World):PySem.KeyKind prog w OKey where
 is:=okIs
 hash:=okH w
 inj:=fun v a b ha hb=>by
  rcases zB8 ha with ⟨rfl,rfl⟩ | ⟨x,t,rfl,rfl⟩
  ·rcases zB8 hb with ⟨rfl,e⟩ | ⟨y,u,rfl,e⟩
   ·rfl
   ·exact nomatch e
  ·rcases zB8 hb with ⟨rfl,e⟩ | ⟨y,u,rfl,e⟩
   ·exact nomatch e
   ·injection e with e1 _;rw [e1]
 byValue:=fun k v h=>by
  rcases zB8 h with ⟨rfl,rfl⟩ | ⟨x,t,rfl,rfl⟩ <;> rfl
 pyHash:=fun hv h=>by
  rcases zB8 hv with ⟨rfl,rfl⟩ | ⟨x,t,rfl,rfl⟩
  ·exact zDm h
  ·exact wpAny_pyHash_str h
 eqBool:=fun hu hv h=>by
  rcases zB8 hu with ⟨rfl,rfl⟩ | ⟨x,t,rfl,rfl⟩
  ·rcases zB8 hv with ⟨rfl,rfl⟩ | ⟨y,u,rfl,rfl⟩
   ·rw [decide_eq_true rfl] at h;unfold eqBool;rw [if_pos (by rfl)];exact wpAny_bind (wpAny_rule (wpAny_pure h))
   ·rw [decide_eq_false (fun q=>nomatch q)] at h;exact SeqAt.EqAt.none_str y u _ _ _ _ h
  ·rcases zB8 hv with ⟨rfl,rfl⟩ | ⟨y,u,rfl,rfl⟩
   ·rw [decide_eq_false (fun q=>nomatch q)] at h;exact SeqAt.EqAt.str_none x t _ _ _ _ h
   ·have e:decide ((some x:OKey)=some y)=decide (x=y):=by
     by_cases e:x=y
     ·subst e;simp
     ·rw [decide_eq_false e,decide_eq_false (fun q=>e (Zk q))]
    rw [e] at h;exact wpAny_eqBool_str h
 «strs»:=fun k x t v h=>by
  rcases zB8 h with ⟨rfl,e⟩ | ⟨y,u,rfl,e⟩
  ·exact nomatch e
  ·injection e with e1 _;subst e1;cases v <;> rfl
noncomputable def oV:OKey→V
 | none=>.non
 | some x=>.str x
theorem oV_is {P:Program}{w:World}{k:OKey}{u:Value} (r:RelV (oV k) u):(optKind P w).is k u=true:=by
 cases k with
 | none=>obtain rfl:=(show u=Value.none from r);rfl
 | some x=>obtain ⟨t,e⟩:=(show ∃ t,u=Value.str x t from r);subst e;exact okIs_str x t
noncomputable def DO (P:Program) (w:World) (a:Addr) (kvs:List (OKey×V)):HO:=.ext fun h=>kvs.length≤sizeLine∧(a == sysModules)=false∧∃ vs,KV kvs vs∧h.DictOf (optKind P w) a vs
section
variable {P:Program}{w:World}{H:Hp}{h:Heap}{a:Addr}{kvs:List (OKey×V)}
theorem do_of (ok:HOk P w H h) (e:H a=some (DO P w a kvs)):kvs.length≤sizeLine∧(a == sysModules)=false∧∃ vs,KV kvs vs∧h.DictOf (optKind P w) a vs :=
 (show ObjOk P w H h a (DO P w a kvs) from ok a _ e).1
theorem do_new {vs:List (OKey×Value)} (z:kvs.length≤sizeLine) (hd:(a == sysModules)=false) (rel:KV kvs vs) (dd:h.DictOf (optKind P w) a vs):ObjOk P w H h a (DO P w a kvs):=by
 refine ⟨⟨z,hd,vs,rel,dd⟩,let ⟨q,_,_,hq,_⟩:=dd;⟨q,hq⟩,fun h1 h2 q k=>?_⟩;obtain ⟨z,hd,vs,rel,ob,es,ep,e,c⟩:=q;exact ⟨z,hd,vs,rel,ob,es,ep,k _ e,c⟩
end
noncomputable def tOGet (P:Program) (w:World) (td ty:TE):TE:=fun σ H Q=>td σ H fun x H1=>ty σ H1 fun y H2=>∃ a kvs k v,x=.ref a∧H2 a=some (DO P w a kvs)∧y=oV k∧valV kvs k=some v∧Q v H2
noncomputable def sOPut (P:Program) (w:World) (td ty tv:TE):TS:=fun D σ H=>tv σ H fun v H1=>td σ H1 fun x H2=>ty σ H2 fun y H3=>∃ a kvs k,x=.ref a∧H3 a=some (DO P w a kvs)∧y=oV k∧kvs.length < sizeLine∧D.nx σ (upd H3 a (DO P w a (putK kvs k v)))
noncomputable def tODisp (P:Program) (w:World) (tk tv:TE):TE:=fun σ H Q=>∀ p,H p=none→tk σ (upd H p (DO P w p [])) fun x H1=>tv σ H1 fun y H2=>H2 p=some (DO P w p [])∧∃ k,x=oV k∧Q (.ref p) (upd H2 p (DO P w p [(k,y)]))
section
variable {X:Cx}{o i e value:Expr}{pos pos' tpos:Pos}{td ty tv tk:TE}
theorem pe_oget (ho:PE X o td) (hi:PE X i ty) (hs:NoSl i):PE X (.Subscript o i pos) (tOGet X.prog X.w td ty):=by
 intro pins s σ H Q I h;refine subD_of PySem.F.slot_dict_getitem.lookup hs (thn (ho pins s σ H _ I h) fun u s1 ⟨x,H1,I1,rx,q1⟩=>thn (hi pins s1 σ H1 _ I1 q1) fun iv s2 ⟨y,H2,I2,ry,a,kvs,k,v,ex,g,ey,l,q2⟩=>?_);subst ex ey;obtain rfl:u=Value.ref a:=rx;obtain ⟨z,hd,vs,rel,dd⟩:=do_of I2.hok g;obtain ⟨w',hw,rw'⟩:=RelO.some_of (v:=v) (o:=valueAt vs k) (by rw [← l];exact rel.val k);exact ⟨dd.typeIs,wpAny_getItem_of (oV_is ry) dd.mapOf hw ⟨v,H2,I2.tok _,rw',q2⟩⟩
theorem ps_oput (ho:PE X o td) (hi:PE X i ty) (hv:PE X value tv) (hs:swapsWith value (some (.Subscript o i pos')) pos.line X.env=pure false) :
  PS X (.Assign [.Subscript o i pos'] value pos) (sOPut X.prog X.w td ty tv):=by
 intro pins s σ H D I h;refine wpAny_Assign_Subscript (thn (hv pins s σ H _ I h) fun r s1 ⟨v,H1,I1,rv,q1⟩=>thn (ho pins s1 σ H1 _ I1 q1) fun u s2 ⟨x,H2,I2,rx,q2⟩=>thn (hi pins s2 σ H2 _ I2 q2) fun iv s3 ⟨y,H3,I3,ry,a,kvs,k,ex,g,ey,l,q3⟩=>?_) hs;subst ex ey;obtain rfl:u=Value.ref a:=rx;obtain ⟨z,hd,vs,rel,dd⟩:=do_of I3.hok g;have hz:vs.length≤sizeLine:=by rw [← rel.length];exact z
 have hl:(putK kvs k v).length≤sizeLine:=by have:=zD3 kvs k v;omega
 refine wpAny_setItem_pairs (hsz:=hz) (oV_is ry) dd fun h' dd' hs=>⟨σ,_,?_,q3⟩;have he:∃ q,h'.get? a=some q:=let ⟨q,_,_,hq,_⟩:=dd';⟨q,hq⟩;exact zGr I3 (by rw [g];exact True.intro) hs he (do_new hl hd (rel.put k rv) dd')
theorem zG4 {k v:Expr} (hk:PE X k tk) (hv:PE X v tv):PE X (.Dict [some k] [v] pos) (tODisp X.prog X.w tk tv):=by
 intro pins s σ H Q I q;have hn:=I.hok.fresh (Z5 s.heap.objs.size);have I1:=I.laid (a:=s.heap.objs.size) (o:=DO X.prog X.w s.heap.objs.size []) (h':=s.heap.push { cls:=.type "dict",data:=.dict #[] }) (t':=s.toks) (fun _ _ q=>Z2 _ q) (Z5 _)
  (do_new (Zo _) (beq_eq_false_iff_ne.mpr (Ne.symm (Zg I.big))) .nil (Heap.DictOf.new s.heap))
 refine wpAny_Dict_walk (knd:=optKind X.prog X.w) rfl rfl (by simp) (by simp) (pairTrees_cons_walk (thn (hk pins _ σ _ _ I1 (q _ hn)) fun u s1 ⟨x,H1,I2,rx,q1⟩=>thn (hv pins s1 σ H1 _ I2 q1) fun w2 s2 ⟨y,H2,I3,ry,e,k,ex,q2⟩=>pairTrees_nil_walk ?_));subst ex;obtain ⟨z,hd,vs0,r0,dd⟩:=do_of I3.hok e;cases r0;refine ⟨[(k,w2)],⟨oV_is rx,rfl,True.intro⟩,dd,fun h' dd' hs=>⟨.ref s.heap.objs.size,_,?_,rfl,q2⟩⟩;have he:∃ q,h'.get? s.heap.objs.size=some q:=let ⟨q,_,_,hq,_⟩:=dd';⟨q,hq⟩;exact zGr I3 (by rw [e];exact True.intro) hs he (do_new (by rw [sizeLine_eq];simp) hd (.cons ⟨rfl,ry⟩ .nil) dd')
end
end L2
namespace L2
open PySem PySem.Spec PyProof.Rows
noncomputable def figs (n:Nat):Str:=Str.ofString (toString ((n:Nat):Int))
theorem zDi (n:Nat):(figs n).cps.toList=(Nat.toDigits 10 n).map Char.toNat:=PySem.W.KIN.signs_num n
theorem figs_dig {n c:Nat} (h:c∈(figs n).cps.toList):48≤c∧c≤57:=by
 rw [zDi] at h;obtain ⟨ch,hch,e⟩:=List.mem_map.mp h;have d:=Nat.isDigit_of_mem_toDigits (by decide) (by decide) hch;rw [← e];simp only [Char.isDigit,Zv,decide_eq_true_eq] at d;have d1:(48:Nat)≤ch.val.toNat:=d.1;have d2:ch.val.toNat≤57:=d.2;exact ⟨d1,d2⟩
theorem len_list (x:Str):x.cps.toList.length=x.length:=Y3
theorem dig_ne (n:Nat):Nat.toDigits 10 n≠[]:=by
 by_cases h:n < 10
 ·rw [Nat.toDigits_of_lt_base h];simp
 ·have hm:n % 10 < 10:=Xb n (by decide);have t:Nat.toDigits 10 (n / 10)++Nat.toDigits 10 (n % 10)=Nat.toDigits 10 (10 * (n / 10) + n % 10):=Nat.toDigits_append_toDigits (by decide) (by omega) hm;rw [Nat.div_add_mod,Nat.toDigits_of_lt_base hm] at t;rw [← t];simp
theorem figs_ge (n:Nat):1≤(figs n).length:=by
 rw [← len_list,zDi,Z0];exact List.length_pos_iff.mpr (dig_ne n)
theorem zGn {n:Nat} (h:n≤999999):(figs n).length≤6:=by
 have e:(10:Int) ^ 6=1000000:=by decide
 exact toString_length_le (by omega) (by decide) (by rw [e];omega)
theorem dig_lead (n:Nat):0 < n→∀ c r,Nat.toDigits 10 n=c :: r→c≠'0':=by
 induction n using Nat.strongRecOn with
 | _ n ih =>
  intro h0 c r e;by_cases h:n < 10
  ·rw [Nat.toDigits_of_lt_base h] at e;injection e with e1 _;rw [← e1];have:∀ d:Nat,d < 10→0 < d→Nat.digitChar d≠'0':=by decide
   exact this n h h0
  ·have hm:n % 10 < 10:=Xb n (by decide);have t:Nat.toDigits 10 (n / 10)++Nat.toDigits 10 (n % 10)=Nat.toDigits 10 (10 * (n / 10) + n % 10):=Nat.toDigits_append_toDigits (by decide) (by omega) hm;rw [Nat.div_add_mod] at t;cases q:Nat.toDigits 10 (n / 10) with
   | nil=>exact absurd q (dig_ne _)
   | cons d s =>
    rw [q,e] at t;injection t with t1 _;rw [← t1];exact ih (n / 10) (by omega) (by omega) d s q
theorem figs_start {n:Nat} (h:1 < (figs n).length):Txt.startswith (figs n) "0" = false:=by
 have h0:0 < n:=by
  rcases Nat.eq_zero_or_pos n with e | e
  ·subst e;exact absurd h (by decide +kernel)
  ·exact e
 cases q:Nat.toDigits 10 n with
 | nil=>exact absurd q (dig_ne n)
 | cons c r =>
  have hc:=dig_lead n h0 c r q;unfold Txt.startswith;rw [StrLaws.subAt_eq,zDi,q];have e1:("0" : Str).cps.toList=[48]:=by decide +kernel
  have e2:("0" : Str).length=1:=by decide +kernel
  rw [e1,e2,List.drop_zero,Z8];have:¬ c.toNat=48:=fun z=>hc (Char.toNat_inj.mp (z.trans (by decide)));simp [this]
theorem dot_eq:("." : Str)=⟨#[46]⟩:=by decide +kernel
noncomputable def wordsP:List (Str×Nat)→List Str
 | []=>[]
 | (k,n) :: t=>k :: figs n :: wordsP t
noncomputable def showP (p:List (Str×Nat)):Str:=Str.join "." (wordsP p)
theorem zDn:∀ p q:List (Str×Nat),wordsP (p++q)=wordsP p++wordsP q
 | [],_=>rfl
 | (k,n) :: t,q=>by show k :: figs n :: wordsP (t++q)=k :: figs n :: (wordsP t++wordsP q);rw [zDn t q]
theorem zB4:∀ p:List (Str×Nat),(wordsP p).length=2 * p.length
 | []=>rfl
 | (k,n) :: t=>by show (wordsP t).length + 1 + 1=2 * (t.length + 1);rw [zB4 t];omega
theorem zCx:∀ p:List (Str×Nat),evens (wordsP p)=p.map (·.1)
 | []=>rfl
 | (k,n) :: t=>by show k :: evens (wordsP t)=_;rw [zCx t];rfl
theorem zFe:∀ p:List (Str×Nat),odds (wordsP p)=p.map fun q=>figs q.2
 | []=>rfl
 | (k,n) :: t=>by show figs n :: odds (wordsP t)=_;rw [zFe t];rfl
theorem zF5 {α β : Type} (f : α→β):∀ l:List α,evens (l.map f)=(evens l).map f
 | []=>rfl
 | [_]=>rfl
 | a :: _ :: r=>by show f a :: evens (r.map f)=f a :: (evens r).map f;rw [zF5 f r]
theorem odds_map {α β : Type} (f : α→β):∀ l:List α,odds (l.map f)=(odds l).map f
 | []=>rfl
 | [_]=>rfl
 | _ :: b :: r=>by show f b :: odds (r.map f)=f b :: (odds r).map f;rw [odds_map f r]
theorem join_app (s:Str):∀ {ws vs:List Str},ws≠[]→vs≠[]→Str.join s (ws++vs)=Str.join s ws++s++Str.join s vs
 | [],_,h,_=>absurd rfl h
 | _,[],_,h=>absurd rfl h
 | [w],v :: vs,_,_=>rfl
 | w :: w2 :: ws,v :: vs,_,h=>by
  show w++s++Str.join s ((w2 :: ws)++(v :: vs))=w++s++Str.join s (w2 :: ws)++s++Str.join s (v :: vs);rw [join_app s (by simp) h];refine zBz ?_;simp only [zB5,List.append_assoc]
theorem zAv (x y:Str):(x++y).length=x.length + y.length:=by show (x.cps++y.cps).size=_;simp [Str.length]
theorem join_len {s:Str}{m:Nat} (hs:s.length=1):∀ {ws:List Str},(∀ w∈ws,w.length≤m)→(Str.join s ws).length≤ws.length * (m + 1)
 | [],_=>Zo _
 | [w],h=>by
  have:=h w (by simp);show w.length≤1 * (m + 1);omega
 | w :: w2 :: ws,h=>by
  have h1:=h w (by simp);have h2:=join_len (s:=s) (m:=m) hs (ws:=w2 :: ws) fun x hx=>h x (Z6 _ hx);show (w++s++Str.join s (w2 :: ws)).length≤_;rw [zAv,zAv,hs];simp only [Zj] at h2 ⊢;have e:(ws.length + 1 + 1) * (m + 1)=(ws.length + 1) * (m + 1) + (m + 1):=Ys _ _;omega
end L2
namespace L2.W
open PySem PySem.Spec PyProof.Rows
@[irreducible] noncomputable def PE (X:Cx) (e:Expr) (t:TE):Prop:=L2.PE X e t
theorem ePE : @L2.PE = @PE:=by unfold PE;rfl
@[irreducible] noncomputable def PT (X:Cx) (e:Expr) (t:TT):Prop:=L2.PT X e t
theorem ePT : @L2.PT = @PT:=by unfold PT;rfl
@[irreducible] noncomputable def PW (X:Cx) (e:Expr) (t:TT):Prop:=L2.PW X e t
theorem ePW : @L2.PW = @PW:=by unfold PW;rfl
@[irreducible] noncomputable def PA (X:Cx) (es:List Expr) (t:TA):Prop:=L2.PA X es t
theorem ePA : @L2.PA = @PA:=by unfold PA;rfl
@[irreducible] noncomputable def PS (X:Cx) (st:Stmt) (t:TS):Prop:=L2.PS X st t
theorem ePS : @L2.PS = @PS:=by unfold PS;rfl
@[irreducible] noncomputable def PSs (X:Cx) (st:List Stmt) (t:TS):Prop:=L2.PSs X st t
theorem ePSs : @L2.PSs = @PSs:=by unfold PSs;rfl
@[irreducible] noncomputable def PG (X:Cx) (g:Expr) (t:TG):Prop:=L2.PG X g t
theorem ePG : @L2.PG = @PG:=by unfold PG;rfl
@[irreducible] noncomputable def PGs (X:Cx) (ts:List Expr) (t:TGs):Prop:=L2.PGs X ts t
theorem ePGs : @L2.PGs = @PGs:=by unfold PGs;rfl
@[irreducible] noncomputable def PI (X:Cx) (tg iter:Expr) (wi:TI):Prop:=L2.PI X tg iter wi
theorem ePI : @L2.PI = @PI:=by unfold PI;rfl
@[irreducible] noncomputable def PFs (X:Cx) (ifs:List Expr) (t:TT):Prop:=L2.PFs X ifs t
theorem ePFs : @L2.PFs = @PFs:=by unfold PFs;rfl
noncomputable def zAx:=by have h:=@L2.zAx;rw [ePS,ePSs,ePT] at h;exact @h
noncomputable def zBg:=by have h:=@L2.zBg;rw [ePE] at h;exact @h
noncomputable def zAy:=by have h:=@L2.zAy;rw [ePE,ePT] at h;exact @h
noncomputable def zEm:=by have h:=@L2.zEm;rw [ePE,ePS,ePG] at h;exact @h
noncomputable def zB3:=by have h:=@L2.zB3;rw [ePE,ePA] at h;exact @h
noncomputable def zA9:=by have h:=@L2.zA9;rw [ePE,ePA] at h;exact @h
noncomputable def zAc:=by have h:=@L2.zAc;rw [ePE,ePS] at h;exact @h
noncomputable def fn_of:=by have h:=@L2.fn_of;rw [ePSs] at h;exact @h
noncomputable def zCg:=by have h:=@L2.zCg;rw [ePE,ePA] at h;exact @h
noncomputable def zAi:=by have h:=@L2.zAi;rw [ePE] at h;exact @h
noncomputable def pe_un:=by have h:=@L2.pe_un;rw [ePE] at h;exact @h
noncomputable def zCv:=by have h:=@L2.zCv;rw [ePE,ePA] at h;exact @h
noncomputable def zD0:=by have h:=@L2.zD0;rw [ePT,ePW] at h;exact @h
noncomputable def zBs:=by have h:=@L2.zBs;rw [ePE] at h;exact @h
noncomputable def zAp:=by have h:=@L2.zAp;rw [ePE] at h;exact @h
noncomputable def pv:=by have h:=@L2.pv;rw [ePE] at h;exact @h
noncomputable def zDd:=by have h:=@L2.zDd;rw [ePE,ePS] at h;exact @h
noncomputable def zA6:=by have h:=@L2.zA6;rw [ePS,ePSs] at h;exact @h
noncomputable def zCq:=by have h:=@L2.zCq;rw [ePE] at h;exact @h
noncomputable def zB9:=by have h:=@L2.zB9;rw [ePE] at h;exact @h
noncomputable def zBc:=by have h:=@L2.zBc;rw [ePGs] at h;exact @h
noncomputable def zCb:=by have h:=@L2.zCb;rw [ePG,ePGs] at h;exact @h
noncomputable def zA3:=by have h:=@L2.zA3;rw [ePS,ePSs] at h;exact @h
noncomputable def bin:=by have h:=@L2.bin;rw [ePE] at h;exact @h
noncomputable def zCr:=by have h:=@L2.zCr;rw [ePE,ePT] at h;exact @h
noncomputable def zG8:=by have h:=@L2.zG8;rw [ePE] at h;exact @h
noncomputable def zAo:=by have h:=@L2.zAo;rw [ePSs] at h;exact @h
noncomputable def zB7:=by have h:=@L2.zB7;rw [ePE] at h;exact @h
noncomputable def zAf:=by have h:=@L2.zAf;rw [ePG,ePGs] at h;exact @h
noncomputable def zEe:=by have h:=@L2.zEe;rw [ePS,ePSs,ePT] at h;exact @h
noncomputable def pe_var:=by have h:=@L2.pe_var;rw [ePE] at h;exact @h
noncomputable def zAa:=by have h:=@L2.zAa;rw [ePG] at h;exact @h
noncomputable def zCd:=by have h:=@L2.zCd;rw [ePA,ePI] at h;exact @h
noncomputable def zG1:=by have h:=@L2.zG1;rw [ePE,ePT] at h;exact @h
noncomputable def zBj:=by have h:=@L2.zBj;rw [ePS,ePSs,ePG,ePI] at h;exact @h
noncomputable def zAj:=by have h:=@L2.zAj;rw [ePE,ePT] at h;exact @h
noncomputable def zA7:=by have h:=@L2.zA7;rw [ePE,ePA] at h;exact @h
noncomputable def zEt:=by have h:=@L2.zEt;rw [ePE] at h;exact @h
noncomputable def zEw:=by have h:=@L2.zEw;rw [ePE] at h;exact @h
noncomputable def zBm:=by have h:=@L2.zBm;rw [ePT,ePW] at h;exact @h
noncomputable def zAs:=by have h:=@L2.zAs;rw [ePE,ePA] at h;exact @h
noncomputable def zCe:=by have h:=@L2.zCe;rw [ePE] at h;exact @h
noncomputable def binT:=by have h:=@L2.binT;rw [ePE] at h;exact @h
noncomputable def zC7:=by have h:=@L2.zC7;rw [ePE] at h;exact @h
noncomputable def zAd:=by have h:=@L2.zAd;rw [ePSs] at h;exact @h
noncomputable def PW.pt:=by have h:=@L2.PW.pt;rw [ePT,ePW] at h;exact @h
noncomputable def zCf:=by have h:=@L2.zCf;rw [ePE,ePA] at h;exact @h
noncomputable def zEl:=by have h:=@L2.zEl;rw [ePT,ePW] at h;exact @h
noncomputable def zCa:=by have h:=@L2.zCa;rw [ePT] at h;exact @h
noncomputable def zBd:=by have h:=@L2.zBd;rw [ePE] at h;exact @h
noncomputable def zG7:=by have h:=@L2.zG7;rw [ePE] at h;exact @h
noncomputable def zA2:=by have h:=@L2.zA2;rw [ePA] at h;exact @h
noncomputable def zA4:=by have h:=@L2.zA4;rw [ePE] at h;exact @h
noncomputable def zAh:=by have h:=@L2.zAh;rw [ePE,ePI] at h;exact @h
noncomputable def PT.nox:=by have h:=@L2.PT.nox;rw [ePT] at h;exact @h
noncomputable def zBa:=by have h:=@L2.zBa;rw [ePE] at h;exact @h
noncomputable def zAb:=by have h:=@L2.zAb;rw [ePE,ePS] at h;exact @h
noncomputable def zBo:=by have h:=@L2.zBo;rw [ePE] at h;exact @h
noncomputable def zBn:=by have h:=@L2.zBn;rw [ePE] at h;exact @h
noncomputable def Fun.ok:=by have h:=@L2.Fun.ok;rw [ePSs] at h;exact @h
noncomputable def zAw:=by have h:=@L2.zAw;rw [ePT] at h;exact @h
noncomputable def pe_not:=by have h:=@L2.pe_not;rw [ePE] at h;exact @h
noncomputable def pg_sub:=by have h:=@L2.pg_sub;rw [ePE,ePG] at h;exact @h
noncomputable def zBk:=by have h:=@L2.zBk;rw [ePE] at h;exact @h
noncomputable def zAg:=by have h:=@L2.zAg;rw [ePE,ePA] at h;exact @h
noncomputable def PSs.nox:=by have h:=@L2.PSs.nox;rw [ePSs] at h;exact @h
noncomputable def zA0:=by have h:=@L2.zA0;rw [ePE,ePA] at h;exact @h
noncomputable def zDc:=by have h:=@L2.zDc;rw [ePE,ePT] at h;exact @h
noncomputable def PE.nox:=by have h:=@L2.PE.nox;rw [ePE] at h;exact @h
noncomputable def zBx:=by have h:=@L2.zBx;rw [ePE,ePS] at h;exact @h
noncomputable def zCz:=by have h:=@L2.zCz;rw [ePT,ePW] at h;exact @h
noncomputable def pc_din:=by have h:=@L2.pc_din;rw [ePE] at h;exact @h
noncomputable def zC6:=by have h:=@L2.zC6;rw [ePE] at h;exact @h
noncomputable def zDg:=by have h:=@L2.zDg;rw [ePE] at h;exact @h
noncomputable def zG6:=by have h:=@L2.zG6;rw [ePE] at h;exact @h
noncomputable def zDr:=by have h:=@L2.zDr;rw [ePE,ePS] at h;exact @h
noncomputable def zDu:=by have h:=@L2.zDu;rw [ePE] at h;exact @h
noncomputable def zEg:=by have h:=@L2.zEg;rw [ePE,ePG,ePFs] at h;exact @h
noncomputable def zBh:=by have h:=@L2.zBh;rw [ePE,ePS,ePG,ePI,ePFs] at h;exact @h
noncomputable def zAr:=by have h:=@L2.zAr;rw [ePE,ePG,ePI,ePFs] at h;exact @h
noncomputable def zEp:=by have h:=@L2.zEp;rw [ePT,ePFs] at h;exact @h
noncomputable def zB2:=by have h:=@L2.zB2;rw [ePFs] at h;exact @h
noncomputable def pi_str:=by have h:=@L2.pi_str;rw [ePE,ePI] at h;exact @h
noncomputable def Fun.okC:=by have h:=@L2.Fun.okC;rw [ePSs] at h;exact @h
noncomputable def pi_zip:=by have h:=@L2.pi_zip;rw [ePA,ePI] at h;exact @h
noncomputable def zEo:=by have h:=@L2.zEo;rw [ePG,ePGs] at h;exact @h
noncomputable def zD1:=by have h:=@L2.zD1;rw [ePE] at h;exact @h
noncomputable def pe_bmK:=by have h:=@L2.pe_bmK;rw [ePE,ePA] at h;exact @h
noncomputable def zEf:=by have h:=@L2.zEf;rw [ePA] at h;exact @h
noncomputable def zC1:=by have h:=@L2.zC1;rw [ePA] at h;exact @h
noncomputable def zGs:=by have h:=@L2.zGs;rw [ePE] at h;exact @h
noncomputable def pe_rev:=by have h:=@L2.pe_rev;rw [ePE] at h;exact @h
noncomputable def zEr:=by have h:=@L2.zEr;rw [ePE,ePA] at h;exact @h
noncomputable def zEq:=by have h:=@L2.zEq;rw [ePE] at h;exact @h
noncomputable def zG3:=by have h:=@L2.zG3;rw [ePA,ePI] at h;exact @h
noncomputable def FunL.okC:=by have h:=@L2.FunL.okC;rw [ePSs] at h;exact @h
noncomputable def zDf:=by have h:=@L2.zDf;rw [ePE] at h;exact @h
noncomputable def pe_odd:=by have h:=@L2.pe_odd;rw [ePE] at h;exact @h
noncomputable def zG5:=by have h:=@L2.zG5;rw [ePE] at h;exact @h
noncomputable def zEn:=by have h:=@L2.zEn;rw [ePE] at h;exact @h
noncomputable def pe_oget:=by have h:=@L2.pe_oget;rw [ePE] at h;exact @h
noncomputable def ps_oput:=by have h:=@L2.ps_oput;rw [ePE,ePS] at h;exact @h
noncomputable def zG4:=by have h:=@L2.zG4;rw [ePE] at h;exact @h
end L2.W
namespace L2
open PySem PySem.Spec PyProof.Rows
noncomputable def XO (C a:Addr):HO:=.ext fun h=>∃ o vs,h.get? a=some o∧o.cls=.ref C∧o.data=.fields vs
section
variable {P:Program}{w:World}{H:Hp}{h:Heap}{a C:Addr}{o:HO}
theorem xo_ok {ob:Obj}{vs:Array Value} (e:h.get? a=some ob) (c:ob.cls=.ref C) (d:ob.data=.fields vs):ObjOk P w H h a (XO C a) :=
 ⟨⟨ob,vs,e,c,d⟩,⟨ob,e⟩,fun _ _ ⟨o,vs,e,c,d⟩ k=>⟨o,vs,k _ e,c,d⟩⟩
theorem xo_of (ok:HOk P w H h) (e:H a=some (XO C a)):∃ o vs,h.get? a=some o∧o.cls=.ref C∧o.data=.fields vs:=(show ObjOk P w H h a (XO C a) from ok a _ e).1
theorem ObjOk.ex (x:ObjOk P w H h a o):∃ ob,h.get? a=some ob:=by
 cases o with
 | lst xs=>obtain ⟨_,_,_,_,e⟩:=x;exact ⟨_,e⟩
 | tup xs=>obtain ⟨_,_,_,ob,e,_⟩:=x;exact ⟨_,e⟩
 | dK kvs=>obtain ⟨_,_,_,_,o,_,_,e,_⟩:=x;exact ⟨_,e⟩
 | dT kvs=>obtain ⟨_,_,_,_,o,_,_,e,_⟩:=x;exact ⟨_,e⟩
 | set S n=>obtain ⟨o,_,_,_,e,_⟩:=x;exact ⟨_,e⟩
 | ins C dx fs=>obtain ⟨_,_,_,e,_⟩:=x;exact ⟨_,e⟩
 | own y=>exact x
 | xd fs=>obtain ⟨_,⟨_,_,_,e,_⟩,_⟩:=x;exact ⟨_,e⟩
 | rng lo hi=>obtain ⟨_,_,_,e⟩:=x;exact ⟨_,e⟩
 | frz ob u=>exact ⟨_,x.1⟩
 | tbl ps=>exact ⟨_,x⟩
 | met f y=>exact ⟨_,x⟩
 | ext φ=>exact x.2.1
theorem HOk.noth (ok:HOk P w H h) (e:h.get? a=none):H a=none:=by
 cases q:H a with
 | none=>rfl
 | some u =>
  obtain ⟨ob,eb⟩:=(ok a u q).ex;rw [e] at eb;cases eb
end
noncomputable def Tr (G:Addr→Prop) (H:Hp) (h:Heap) (e:Addr):Prop:=∃ o vs a0 T oT ts,h.get? e=some o∧o.data=.fields vs∧vs[0]? = some a0∧vs[1]? = some (.ref T)∧G T∧H T=none∧h.get? T=some oT∧oT.data=.fields ts∧ts[3]? = some .none
noncomputable def Fresh (h:Heap) (e:Addr):Prop:=∃ o vs a0,h.get? e=some o∧o.data=.fields vs∧vs[0]? = some a0∧vs[1]? = some .none
theorem Tr.imp {G G':Addr→Prop}{H:Hp}{h:Heap}{e:Addr} (x:Tr G H h e) (f:∀ T,G T→G' T):Tr G' H h e :=
 let ⟨o,vs,a0,T,oT,ts,h1,h2,h3,h4,g,r⟩:=x
 ⟨o,vs,a0,T,oT,ts,h1,h2,h3,h4,f _ g,r⟩
noncomputable def CXM (P:Program) (w:World):CXT:=fun outer H s E u s'=>∃ e C H',u=.ref e∧s'.os=s.os∧AllBare s'.gens∧Un (frs outer) [] H H' s.heap s'.heap∧HOk P w H' s'.heap∧H' e=some (XO C e)∧Tr (fun T=>s.heap.get? T=none) H' s'.heap e∧E (.ref C) (some e) H'
theorem calmM {P:Program}{w:World}:Calm (CXM P w):=fun _ _ _ _ _ ⟨_,_,_,_,_,_,_,_,_,_,q⟩=>q
structure Mvd (l:List Env) (e T0:Addr) (cls a0 fl:Value) (h h':Heap):Prop where
 keep:∀ b o,h.get? b=some o→b≠e→b≠T0→b∉frs l→h'.get? b=some o
 slot:∀ b o,h.get? b=some o→b∈frs l→∃ sl,h'.get? b=some { o with slots:=sl }
 tr:∃ oe vs T oT ts,h'.get? e=some oe∧oe.cls=cls∧vs[0]? = some a0∧oe.data=.fields vs∧vs[1]? = some (.ref T)∧(T=T0∨h.get? T=none)∧T≠e∧h'.get? T=some oT∧oT.data=.fields ts∧ts[3]? = some fl
noncomputable abbrev bas (h:Heap) (l:List Env) (e T0:Addr):Heap:=PySem.W.hideAll h (e :: T0 :: frs l)
section
variable {base h h':Heap}{l:List Env}{e T0:Addr}{cls a0 fl:Value}
theorem moved (hl:h.FunFrames base l) (st:(bas h l e T0).StaysIn h') (ff:h'.FunFrames (bas h l e T0) l) (tr:h'.TracedAtW (bas h l e T0) e cls a0 fl) (up:h.UpToSlots h'):Mvd l e T0 cls a0 fl h h':=by
 refine ⟨fun b o q n1 n2 n3=>st b o (PySem.W.hideAll_get _ q ?_),fun b o q hb=>?_,?_⟩
 ·intro z;rcases List.mem_cons.mp z with z | z
  ·exact n1 z
  ·rcases List.mem_cons.mp z with z | z
   ·exact n2 z
   ·exact n3 z
 ·obtain ⟨_,o',ho,hn⟩:=hl.mem hb;rw [q] at ho;cases ho;exact up b o q hn
 ·obtain ⟨oe,vs,T,oT,ts,he,⟨hc,h0⟩,hd,h1,hn,hne,hT,hdT,h3⟩:=tr;refine ⟨oe,vs,T,oT,ts,he,hc,h0,hd,h1,?_,hne,hT,hdT,h3⟩;cases q:h.get? T with
  | none=>exact .inr rfl
  | some o =>
   refine .inl (Classical.byContradiction fun nT=>?_);have:(bas h l e T0).get? T=some o:=PySem.W.hideAll_get _ q fun z=>by
    rcases List.mem_cons.mp z with z | z
    ·exact hne z
    ·rcases List.mem_cons.mp z with z | z
     ·exact nT z
     ·obtain ⟨_,o',ho,hnf⟩:=ff.mem z;rw [hT] at ho;cases ho;exact hnf _ hdT
   rw [hn] at this;cases this
theorem fly_of (hl:h.FunFrames base l) {oe oT:Obj}{vs ts:Array Value} (he:h.get? e=some oe) (hd:oe.data=.fields vs) (h0:vs[0]? = some a0) (h1:vs[1]? = some (.ref T0)) (hne:T0≠e) (hT:h.get? T0=some oT) (hdT:oT.data=.fields ts) (h3:ts[3]? = some .none) :
  Heap.FlyingW (bas h l e T0) l e oe.cls a0 h :=
 ⟨fun b o q=>PySem.W.of_hideAll _ q,PySem.W.hideAll_none _ (.head _),PySem.W.funFrames_hide hl fun env he a ea=>.tail _ (.tail _ (List.mem_filterMap.mpr ⟨env,he,ea⟩)),oe,vs,T0,oT,ts,he,⟨rfl,h0⟩,hd,h1,PySem.W.hideAll_none _ (.tail _ (.head _)),hne,hT,hdT,h3⟩
end
section
variable {X:Cx}{pins:List (Addr×Obj)}{σ : St}{H:Hp}{s:Shared}{e C T0:Addr}{h':Heap}{cls a0 fl:Value}
theorem Mvd.ex (m:Mvd X.stack e T0 cls a0 fl s.heap h') (b:Addr) (o:Obj) (q:s.heap.get? b=some o) (h2:b≠T0):∃ o',h'.get? b=some o':=by
 obtain ⟨oe,_,_,_,_,he,_⟩:=m.tr;by_cases h1:b=e
 ·rw [h1];exact ⟨oe,he⟩
 ·by_cases h3:b∈frs X.stack
  ·obtain ⟨sl,z⟩:=m.slot b o q h3;exact ⟨_,z⟩
  ·exact ⟨o,m.keep b o q h1 h2 h3⟩
theorem Mvd.hok (m:Mvd X.stack e T0 (.ref C) a0 fl s.heap h') (I:Inv X pins σ H s) (he:H e=some (XO C e)) (hT:T0=e∨H T0=none):HOk X.prog X.w H h':=fun b u eb=>by
 by_cases h1:b=e
 ·subst h1;rw [he] at eb;cases eb;obtain ⟨oe,vs,_,_,_,h2,h3,_,h4,_⟩:=m.tr;exact xo_ok h2 h3 h4
 ·refine (I.hok b u eb).stay (fun c v hc q=>m.keep c v q ?_ ?_ ?_) (fun _ q=>q) fun _ _ q=>q
  ·rintro rfl;rcases hc with z | z
   ·exact h1 z.symm
   ·rw [he] at z;cases z
  ·rintro rfl;rcases hT with z | z
   ·subst z;rcases hc with z | z
    ·exact h1 z.symm
    ·rw [he] at z;cases z
   ·rcases hc with y | y
    ·rw [← y,z] at eb;cases eb
    ·rw [z] at y;cases y
  ·intro z;have:=I.stkFree c z;rcases hc with y | y
   ·rw [← y,this] at eb;cases eb
   ·rw [this] at y;cases y
theorem Inv.moved {t':Nat} (I:Inv X pins σ H s) (he:H e=some (XO C e)) (hT:H T0=none) (h0:X.s₀.heap.get? T0=none) (hp:∀ p∈X.pn++pins,p.1≠T0) {oT:Obj}{ts:Array Value} (eT:s.heap.get? T0=some oT) (dT:oT.data=.fields ts)
  (m:Mvd X.stack e T0 (.ref C) a0 fl s.heap h'):Inv X pins σ H { s with heap:=h',toks:=t' }:=by
 have nL:T0≠X.env.locals:=by
  rintro rfl;obtain ⟨_,⟨o,es,ep,ho,hd,_⟩,_⟩:=I.loc;rw [ho] at eT;cases eT;rw [hd] at dT;cases dT
 have nC:∀ x c,X.env.cells.lookup x=some c→c≠T0:=by
  rintro x c hc rfl;obtain ⟨v,o,ho,hd⟩:=I.cell x c hc;rw [ho] at eT;cases eT;rw [hd] at dT;cases dT
 have neS:∀ b,H b=none→b≠e:=fun b n z=>by rw [z,he] at n;cases n
 have sub:∀ b,b∈X.fs→b∈frs X.stack:=fun b hb=>by
  rcases I.ok.stk with z | ⟨z,hf⟩
  ·rw [z];exact hb
  ·rw [z];unfold frs;rw [Ya,hf];exact Z6 _ hb
 refine I.step (g':=s.gens) (d':=s.drawn) (ch:=[T0]) (fun b hb=>?_) (fun b o n1 n2 n3 q n=>m.keep b o q (neS b n) (fun z=>n3 (by simp [z])) fun z=>(List.mem_cons.mp (I.stkSub b z)).elim n1 n2)
  (fun b o n1 n2 n3 q n=>m.slot b o q (sub b n2)) (fun b o _ _ n=>n) (fun b o n q=>m.ex b o q fun z=>n (by simp [z])) (fun _ _ q=>q) (fun _ _ _ q=>q) (fun b ps q=>⟨#[],by rw [q];simp⟩) (fun mm hm=>?_) (m.hok I he (.inr hT)) I.bare
 ·have:b=T0:=by simpa using hb
  subst this;exact ⟨.inr h0,nL,nC,hp⟩
 ·obtain ⟨o,es,ep,ho,hd,r⟩:=hm;by_cases z:X.env.locals∈frs X.stack
  ·obtain ⟨sl,q⟩:=m.slot _ _ ho z;exact ⟨_,es,ep,q,hd,r⟩
  ·exact ⟨o,es,ep,m.keep _ _ ho (neS _ I.free) (Ne.symm nL) z,hd,r⟩
theorem leave_cx {E:XK}{E':Value→Shared→Prop} (I:Inv X pins σ H s) (hx:X.ex=[]) (hs:X.stack=X.env :: X.outer) (hf:X.env.frame=some X.env.locals) (he:H e=some (XO C e)) (fl:Fresh s.heap e∨Tr (fun T=>X.s₀.heap.get? T=none) H s.heap e) (q:E (.ref C) (some e) H) :
  wpAny (model X.prog X.w) X.A (leaving X.env (.ref e)) (fun _ s''=>CXM X.prog X.w X.outer X.H₀ X.s₀ E (.ref e) s'') E' s:=by
 have hfr:X.A.frames=some (X.env :: X.outer):=by rw [← hs];exact I.ok.frames
 have hl:s.heap.FunFrames X.base (X.env :: X.outer):=by rw [← hs];exact I.stack
 obtain ⟨ox,vx,hox,hcx,hdx⟩:=xo_of I.hok he;have fin:∀ (T0:Addr) (h':Heap) (a0:Value),(T0=e∨(H T0=none∧X.s₀.heap.get? T0=none))→Mvd X.stack e T0 (.ref C) a0 .none s.heap h'→CXM X.prog X.w X.outer X.H₀ X.s₀ E (.ref e) { s with heap:=h' }:=by
  intro T0 h' a0 hT m;have hT1:T0=e∨H T0=none:=hT.imp_right fun z=>z.1;have back:∀ b o,X.s₀.heap.get? b=some o→∃ o',s.heap.get? b=some o':=fun b o z=>I.base.there b o z (by rw [hx];simp);have nT:∀ b o,X.s₀.heap.get? b=some o→H b=none→b≠T0:=fun b o z n y=>by
   rcases hT with w | ⟨_,w⟩
   ·rw [y,w,he] at n;cases n
   ·rw [y,w] at z;cases z
  have nE:∀ b,H b=none→b≠e:=fun b n z=>by rw [z,he] at n;cases n
  have nL:∀ b o,X.s₀.heap.get? b=some o→b≠X.env.locals:=fun b o z=>Zg (Zf (Z9 z) I.ok.above);have inS:∀ b,b∈frs X.stack→b=X.env.locals∨b∈frs X.outer:=fun b z=>List.mem_cons.mp (I.stkSub b z);obtain ⟨oe,vs,T,oT,ts,h1,h2,h3,h4,h5,h6,h7,h8,h9,h10⟩:=m.tr;refine ⟨e,C,H,rfl,I.os,I.bare,⟨fun b o z n hb _=>?_,fun b o z n hb _=>?_,fun b o z n _=>I.base.free b o z n (by rw [hx];simp),fun b o z _=>?_,I.base.tups,I.base.frzs,I.base.tbls⟩,m.hok I he hT1,he,⟨oe,vs,a0,T,oT,ts,h1,h4,h3,h5,?_,?_,h8,h9,h10⟩,q⟩
  ·have n':=I.base.free b o z n (by rw [hx];simp);exact m.keep b o (I.base.keep b o z n hb (by rw [hx];simp)) (nE b n') (nT b o z n') fun y=>(inS b y).elim (nL b o z) hb
  ·obtain ⟨sl,z1⟩:=I.base.slot b o z n hb (by rw [hx];simp);obtain ⟨sl',z2⟩:=m.slot b _ z1 (by rw [hs];unfold frs;rw [Ya,hf];exact Z6 _ hb);exact ⟨sl',z2⟩
  ·obtain ⟨o',z1⟩:=back b o z;by_cases y:b=T0
   ·rcases hT with w | ⟨_,w⟩
    ·rw [y,w];exact ⟨oe,h1⟩
    ·rw [y,w] at z;cases z
   ·exact m.ex b o' z1 y
  ·show X.s₀.heap.get? T=none;rcases h6 with z | z
   ·rcases hT with y | ⟨_,y⟩
    ·exact absurd (z.trans y) h7
    ·rw [z];exact y
   ·cases y:X.s₀.heap.get? T with
    | none=>rfl
    | some o =>
     obtain ⟨o',y1⟩:=back T o y;rw [z] at y1;cases y1
  ·rcases h6 with z | z
   ·rcases hT with y | ⟨y,_⟩
    ·exact absurd (z.trans y) h7
    ·rw [z];exact y
   ·exact I.hok.noth z
 rcases fl with ⟨oe,vs,a0,h1,h2,h3,h4⟩ | ⟨oe,vs,a0,T0,oT,ts,h1,h2,h3,h4,g,n,h5,h6,h7⟩
 ·rw [h1] at hox;cases hox;refine wpAny_leaving_firstW (base:=bas s.heap (X.env :: X.outer) e e) (a0:=a0) hfr (PySem.W.funFrames_hide hl fun env he a ea=>.tail _ (.tail _ (List.mem_filterMap.mpr ⟨env,he,ea⟩))) hf h1 (fun b o z=>PySem.W.of_hideAll _ z) (PySem.W.hideAll_none _ (.head _)) h2 h4 h3 fun h' hL=>?_;obtain ⟨k1,k2,k3,k4⟩:=hL;rw [hcx] at k3;refine fin e h' a0 (.inl rfl) ?_;rw [hs];exact L2.moved hl k1 k2 k3 k4
 ·rw [h1] at hox;cases hox;have hne:T0≠e:=fun z=>by rw [z,he] at n;cases n
  have F:=fly_of hl h1 h2 h3 h4 hne h5 h6 h7;rw [hcx] at F;refine wpAny_leaving_nextW hfr F.2.2.1 hf F.2.2.2 F.1 F.2.1 fun h' hL=>?_;obtain ⟨k1,k2,k3,k4⟩:=hL;have m:=L2.moved hl k1 k2 k3 k4;exact fin T0 h' a0 (.inr ⟨n,g⟩) (by rw [hs];exact m)
end
end L2
namespace L2
open PySem PySem.Spec PyProof.Rows
theorem zGo {K:PySem.W.Frag}{h:Heap}{C:Addr}{bmB:List Value}{newId:String} (X:K.In h) (q:PySem.W.excIn K C bmB newId=true) :
  ∃ bm N nm q bs hdct sn sub ab col dd k0 k1 k2 k3 k5 mN,h.get? C=some (excClassObj nm q C N bs bm hdct sn sub ab col dd k0 k1 k2 k3 k5 newId)∧h.Ns N mN∧mN "__init__" = none∧OwnTail h bmB bm:=by
 unfold PySem.W.excIn at q;split at q
 ·rename_i dd cd sl ho
  split at q
  ·rename_i C' bm k0 k1 k2 k3 n k5 hm hs
   simp only [Zv,beq_iff_eq,Bool.not_eq_true'] at q;obtain ⟨⟨⟨⟨⟨rfl,rfl⟩,hdel⟩,ht⟩,hok⟩,hni⟩:=q;obtain ⟨nm,bs,mro,ns,qn,hd,sn,sub,ab,col,del⟩:=cd;dsimp only at hm hdel hok hni;subst hm hdel;have hsl:sl = #[k0,k1,k2,k3,some (.builtin n),k5]:=by
    obtain ⟨l⟩:=sl;simp only at hs;rw [hs]
   subst hsl;exact ⟨bm,ns,nm,qn,bs,hd,sn,sub,ab,col,dd,k0,k1,k2,k3,k5,_,X _ _ ho,.of_isNs (PySem.W.isNs_of_in X hok),PySem.W.nsMap_none_of_in X hok hni,PySem.W.tail_of_in X ht⟩
  ·cases q
 ·cases q
section
variable {X:Cx}{pins:List (Addr×Obj)}{σ : St}{H H':Hp}{s:Shared}{e C:Addr}{h h':Heap}{o:HO}
theorem Un.born {fs ex:List Addr} (k:∀ b u,h.get? b=some u→h'.get? b=some u) (hp:h.get? e=none) (hn:H e=none):Un fs ex H (upd H e o) h h' where
 keep:=fun b u q _ _ _=>k b u q
 slot:=fun b u q _ _ _=>⟨u.slots,k b u q⟩
 free:=fun b u q n _=>by rw [zA8 (fun z=>by rw [z,hp] at q;cases q)];exact n
 there:=fun b u q _=>⟨u,k b u q⟩
 tups:=fun b xs q=>by rw [zA8 (zA5 q hn)];exact q
 frzs:=fun b u xs q=>by rw [zA8 (zA5 q hn)];exact q
 tbls:=fun b ps q=>⟨#[],by rw [zA8 (zA5 q hn),q];simp⟩
theorem HOk.born {P:Program}{w:World} (x:HOk P w H h) (k:∀ b u,h.get? b=some u→h'.get? b=some u) (hp:h.get? e=none) (new:ObjOk P w (upd H e o) h' e o):HOk P w (upd H e o) h':=fun b u q=>by
 have hn:=x.noth hp;by_cases hb:b=e
 ·subst hb;rw [zA1] at q;cases q;exact new
 ·rw [zA8 hb] at q;exact (x b u q).stay (fun c v _ q=>k c v q) (fun c q=>by rw [zA8 (zA5 q hn)];exact q) fun c xs q=>by rw [zA8 (zA5 q hn)];exact q
theorem Inv.born {t':Nat} (I:Inv X pins σ H s) (k:∀ b u,s.heap.get? b=some u→h'.get? b=some u) (hp:s.heap.get? e=none) (new:ObjOk X.prog X.w (upd H e o) h' e o):Inv X pins σ (upd H e o) { s with heap:=h',toks:=t' } :=
 I.un (Un.born k hp (I.hok.noth hp)) (I.hok.born k hp new)
theorem Inv.cx {s':Shared}{E:XK}{u:Value} (I:Inv X pins σ H s) (c:CXM X.prog X.w X.stack H s E u s') :
  ∃ e C H',u=.ref e∧Inv X pins σ H' s'∧H' e=some (XO C e)∧Tr (fun T=>s.heap.get? T=none) H' s'.heap e∧E (.ref C) (some e) H':=by
 obtain ⟨e,C,H',rfl,os,bare,un,hok,he,tr,q⟩:=c;exact ⟨e,C,H',rfl,I.call' (ch:=[]) os un hok bare (fun b z=>absurd z (by simp)),he,tr,q⟩
theorem Inv.back (I:Inv X pins σ H s) (hx:X.ex=[]) {T:Addr} (n:s.heap.get? T=none):X.s₀.heap.get? T=none:=by
 cases y:X.s₀.heap.get? T with
 | none=>rfl
 | some o =>
  obtain ⟨o',y1⟩:=I.base.there T o y (by rw [hx];simp);rw [n] at y1;cases y1
end
section
variable {P:Program}{w:World}{K:PySem.W.Frag}{mg:Str→Option Value}{base:Heap}{N:List Str}{qual:Str}{scope:Scope}{f:Addr}{cd:Value}{A:Around}{outer:List Env}{s:Shared}{H:Hp}{E:XK}
noncomputable abbrev cxM (P:Program) (w:World) (K:PySem.W.Frag) (mg:Str→Option Value) (base:Heap) (N:List Str) (qual:Str) (scope:Scope) (f:Addr) (cd:Value) (A:Around) (outer:List Env) (s:Shared) (H:Hp) (E:XK):Cx:=cxOf (CXM P w) P w K mg base N qual scope f cd A outer s H E
theorem xe_new {pins:List (Addr×Obj)}{σ : St}{H':Hp}{s':Shared}{e C:Addr} (I:Inv (cxM P w K mg base N qual scope f cd A outer s H E) pins σ H' s') (he:H' e=some (XO C e)) (fl:Fresh s'.heap e∨Tr (fun T=>s.heap.get? T=none) H' s'.heap e) (q:E (.ref C) (some e) H') :
  (cxM P w K mg base N qual scope f cd A outer s H E).xe (.ref e) s':=leave_cx I rfl rfl rfl he fl q
end
section
variable {X:Cx}{x:Str}{np cpos pos:Pos}{a:Expr}{as:List Expr}{t:TA}{C:Addr}{W:St→Addr→Hp→Prop}
theorem zG2 (hc:PySem.W.excIn X.K C [.type "ValueError",.type "Exception",.type "BaseException",.type "object"] "ValueError.__new__" = true) (hg:Gl X x) (hm:X.mg x=some (.ref C)) (hcm:X.calm=true) (ha:PA X (a :: as) t)
  (hx:∀ pins σ H s e,Inv X pins σ H s→H e=some (XO C e)→Fresh s.heap e→W σ e H→X.xe (.ref e) s) (hdb:(x == ("__debug__" : Str))=false:=by decide)
  (he:starEach (a :: as) X.env=(false,eval a X.env) :: starEach as X.env:=by rfl) (hpl:(backTo cpos (starEach as X.env)).any (·.1)=false:=by rfl) :
  PS X (.Raise (some (.Call (.Name x np) (a :: as) [] cpos)) none pos) (fun _ σ H=>t σ H fun vs H1=>vs.length≤sizeLine∧∀ e,H1 e=none→W σ e (upd H1 e (XO C e))):=by
 intro pins s σ H D I h;obtain ⟨bm,N,nm,q,bs,hdct,sn,sub,ab,col,dd,k0,k1,k2,k3,k5,mN,hC,hN,hni,T⟩:=zGo I.ok.mod.kin hc;have hA:=ha cpos pins s σ H _ I h;refine wpAny_Raise_call_subU (C:=C) (nm:=nm) (q:=q) (N:=N) (bs:=bs) (bm:=bm) (hdct:=hdct) (sn:=sn) (sub:=sub) (ab:=ab) (col:=col) (dd:=dd) (k0:=k0) (k1:=k1) (k2:=k2) (k3:=k3) (k5:=k5)
  PySem.F.excBase_ValueError PySem.F.excBase_ValueError.hasB PySem.F.excBase_ValueError (mN:=mN) (T.hasType PySem.F.excBase_ValueError.hasBase) (I.ok.hd hcm) (by rw [he];show (false || (backTo cpos (starEach as X.env)).any (·.1))=false;rw [hpl];rfl) hni (zEx I hg hm ⟨rfl,?_⟩ hdb)
 rw [he] at hA ⊢;refine Calls.evalArgs_plain (thn hA fun us s2 ⟨vs,H2,I2,r,hz,k⟩=>⟨rfl,by rw [← r.length];exact hz,I2.bk _ _ hC,hN.keeps I2.bk,T.keeps I2.bk,fun h' e hm=>?_⟩);obtain ⟨tt,h1,h2,h3⟩:=hm.there;exact hx pins σ _ { s2 with heap:=h' } e (I2.born (t':=s2.toks) (o:=XO C e) hm.keeps hm.new (xo_ok h1 rfl rfl)) zA1 ⟨_,_,_,h1,rfl,rfl,rfl⟩ (k e (I2.hok.noth hm.new))
end
end L2
namespace L2
open PySem PySem.Spec PyProof.Rows
noncomputable abbrev TW:=St→Addr→Addr→Hp→Prop
noncomputable def Cx.tri (X:Cx) (pins:List (Addr×Obj)) (W:TW):Cx:={ X with
 pn:=X.pn++pins
 xe:=fun u s'=>∃ e C σ' H',u=.ref e∧Inv X pins σ' H' s'∧H' e=some (XO C e)∧Tr (fun T=>X.s₀.heap.get? T=none∧∀ p∈X.pn++pins,p.1≠T) H' s'.heap e∧W σ' e C H' }
noncomputable def Cx.hnd (X:Cx) (e:Addr):Cx:={ X with
 A:=X.A.mark (some (.ref e))
 calm:=false
 xe:=fun _ _=>False }
section
variable {X:Cx}{pins pins':List (Addr×Obj)}{σ : St}{H:Hp}{s:Shared}{W:TW}{e:Addr}
theorem Cx.Ok.tri (ok:X.Ok):(X.tri pins W).Ok:=⟨ok.mod,ok.kind,ok.glob,ok.blt,ok.above,ok.inj,ok.has,ok.cab,ok.hd,ok.frames,ok.stk,ok.exf,ok.bs,ok.bsz,ok.noex,ok.exfs,ok.funs,ok.frf⟩
theorem Cx.Ok.untri (ok:(X.tri pins W).Ok):X.Ok:=⟨ok.mod,ok.kind,ok.glob,ok.blt,ok.above,ok.inj,ok.has,ok.cab,ok.hd,ok.frames,ok.stk,ok.exf,ok.bs,ok.bsz,ok.noex,ok.exfs,ok.funs,ok.frf⟩
theorem Cx.Ok.hnd (ok:X.Ok):(X.hnd e).Ok:=⟨ok.mod,ok.kind,ok.glob,ok.blt,ok.above,ok.inj,ok.has,ok.cab,(fun z=>Bool.noConfusion (show false=true from z)),ok.frames,ok.stk,ok.exf,ok.bs,ok.bsz,ok.noex,ok.exfs,ok.funs,ok.frf⟩
theorem Inv.tri (I:Inv X pins σ H s):Inv (X.tri pins W) [] σ H s:=⟨I.ok.tri,I.os,I.bare,I.base,I.loc,I.cell,I.free,I.freeC,fun p hp=>I.pin p (by simpa [Cx.tri] using hp),I.hok,I.len⟩
theorem Inv.untri (I:Inv (X.tri pins W) pins' σ H s):Inv X pins σ H s:=⟨I.ok.untri,I.os,I.bare,I.base,I.loc,I.cell,I.free,I.freeC,fun p hp=>I.pin p (Yl _ hp),I.hok,I.len⟩
theorem Inv.hnd (I:Inv X pins σ H s):Inv (X.hnd e) pins σ H s:=⟨I.ok.hnd,I.os,I.bare,I.base,I.loc,I.cell,I.free,I.freeC,I.pin,I.hok,I.len⟩
theorem Inv.unhnd (ok:X.Ok) (I:Inv (X.hnd e) pins σ H s):Inv X pins σ H s:=⟨ok,I.os,I.bare,I.base,I.loc,I.cell,I.free,I.freeC,I.pin,I.hok,I.len⟩
theorem SP.untri {D:Ends}{f:Flow}{s':Shared} (h:SP (X.tri pins W) pins' D f s'):SP X pins D f s':=by
 cases f with
 | next=>obtain ⟨σ',H',I,q⟩:=h;exact ⟨σ',H',I.untri,q⟩
 | brk=>obtain ⟨σ',H',I,q⟩:=h;exact ⟨σ',H',I.untri,q⟩
 | cont=>obtain ⟨σ',H',I,q⟩:=h;exact ⟨σ',H',I.untri,q⟩
 | ret u=>obtain ⟨v,σ',H',I,r,q⟩:=h;exact ⟨v,σ',H',I.untri,r,q⟩
theorem pass_try (hx:X.ex=[]):Passes (CXM X.prog X.w) (X.tri pins W) (fun σ cls eo H'=>∃ e C,cls=.ref C∧eo=some e∧W σ e C H'):=fun pins' σ H1 s1 u s2 I c=>by
 obtain ⟨e,C,H',rfl,I',he,tr,e',C',h1,h2,q⟩:=I.cx c;cases h1;cases h2
 exact ⟨e,C,σ,H',rfl,I'.untri,he,tr.imp fun T n=>⟨I.back hx n,fun p hp z=>by
  have:=(I.pin p (Yl _ hp)).1;rw [z,n] at this
  cases this⟩,q⟩
theorem Inv.gone {i:Nat}{n:Str}{v:Option Value}{m:Str→Option Value}{h':Heap}{t':Nat} (I:Inv X pins σ H s) (hN:X.N.Nodup) (hi:X.N[i]? = some n)
  (hl:∀ (j:Nat) (x:Str) (v:V),X.N[j]? = some x→σ[j]? = some (some v)→Vis X.env.scope x→∃ u,RelV v u∧Look X.env s.heap m x u) (hn:h'.Ns X.env.locals (fun x=>if x=n then v else m x)) (hs:Heap.SameBut X.env.locals s.heap h') :
  Inv X pins (σ.set i none) H { s with heap:=h',toks:=t' }:=by
 obtain ⟨oL,_,_,hoL,_⟩:=id I.loc.choose_spec.1;have cne:=I.cne;refine ⟨I.ok,I.os,I.bare,⟨fun b o e n hb hx=>?_,fun b o e n hb hx=>?_,I.base.free,fun b o e hx=>?_,I.base.tups,I.base.frzs,I.base.tbls⟩,⟨_,hn,fun j y v' e1 e2 e3=>?_⟩,fun y c e=>?_,I.free,I.freeC,fun p hp=>?_,fun b ob e=>?_,by simpa using I.len⟩
 ·exact (hs.2 b (Zg (Zf (Z9 e) I.ok.above))).trans (I.base.keep b o e n hb hx)
 ·obtain ⟨sl,e1⟩:=I.base.slot b o e n hb hx;exact ⟨sl,(hs.2 b (Zg (Zf (Z9 e) I.ok.above))).trans e1⟩
 ·obtain ⟨o',e1⟩:=I.base.there b o e hx;exact ⟨o',(hs.2 b (Zg (Zf (Z9 e) I.ok.above))).trans e1⟩
 ·have hj:j≠i:=by
   rintro rfl;rw [List.getElem?_set] at e2;simp only [if_true] at e2;split at e2 <;> cases e2
  rw [X0 (Ne.symm hj)] at e2;obtain ⟨u',r',q⟩:=hl j y v' e1 e2 e3;refine ⟨u',r',?_⟩;rcases q with ⟨k,e⟩ | ⟨k,c,e,z⟩
  ·refine .inl ⟨k,?_⟩;have:y≠n:=fun e=>hj (zGg hN e1 (e ▸ hi));simp [this,e]
  ·exact .inr ⟨k,c,e,z.sameBut hs (cne y c e)⟩
 ·obtain ⟨w',z⟩:=I.cell y c e;exact ⟨w',z.sameBut hs (cne y c e)⟩
 ·obtain ⟨e,n,ne,nf,d⟩:=I.pin p hp;exact ⟨(hs.2 p.1 ne).trans e,n,ne,nf,d⟩
 ·refine (I.hok b ob e).stay (fun c w' hc q=>(hs.2 c ?_).trans q) (fun _ q=>q) fun _ _ q=>q;rintro rfl;rcases hc with hc | hc
  ·rw [← hc,I.free] at e;cases e
  ·rw [I.free] at hc;cases hc
end
noncomputable def Ends.but (D:Ends) (i:Nat):Ends:={ nx:=fun σ H=>D.nx (σ.set i none) H,rt:=D.rt,bk:=fun σ H=>D.bk (σ.set i none) H,ct:=fun σ H=>D.ct (σ.set i none) H }
section
variable {X:Cx}{x n:Str}{np hpos pos:Pos}{body suite:List Stmt}{b₀ : Stmt}{i:Nat}{B:Addr}{tb:TW→TS}{th:Addr→TS}
theorem ps_try (hx:X.ex=[]) (hs:X.stack=X.env :: X.outer) (hf:X.env.frame=some X.env.locals) (hN:X.N.Nodup) (hi:X.N[i]? = some n) (hl:X.env.scope.names.lookup n=some .local) (hg:Gl X x) (hm:X.mg x=some (.ref B))
  (hb:∀ pins W,PSs (X.tri pins W) body (tb W)) (hh:∀ e,PSs (X.hnd e) (b₀ :: suite) (th e)) (hdb:(x == ("__debug__" : Str))=false:=by decide) :
  PS X (.Try body [.ExceptHandler (some (.Name x np)) (some n) (b₀ :: suite) hpos] [] [] pos) (fun D σ H=>∃ W:TW,tb W D σ H∧∀ σ' e C H',H' e=some (XO C e)→W σ' e C H'→PySem.W.exmOne X.K (.ref C) (.ref B)=some true∧th e (D.but i) (σ'.set i (some (.ref e))) H'):=by
 intro pins s σ H D I ⟨W,hbW,hW⟩;refine wpAny_Try_except (wpAny_mono (hb pins W [] s σ H D I.tri hbW) (fun f s1 h1=>?_) (fun u s1 h1=>?_))
 ·have h1:=h1.untri;cases f with
  | next =>
   obtain ⟨σ',H',I',q⟩:=h1;exact zAd pins s1 σ' H' D I' q
  | brk=>exact h1
  | cont=>exact h1
  | ret u=>exact h1
 ·obtain ⟨e,C,σ',H',rfl,I',he,tr,w⟩:=h1;obtain ⟨oe,vs,a0,T0,oT,ts,h1,h2,h3,h4,⟨g1,g2⟩,nT,h5,h6,h7⟩:=tr;obtain ⟨hK,hT⟩:=hW σ' e C H' he w;have hfr:X.A.frames=some (X.env :: X.outer):=by rw [← hs];exact I.ok.frames
  have hl':s1.heap.FunFrames X.base (X.env :: X.outer):=by rw [← hs];exact I'.stack
  obtain ⟨ox,vx,hox,hcx,hdx⟩:=xo_of I'.hok he;rw [h1] at hox;cases hox;have hne:T0≠e:=fun z=>by rw [z,he] at nT;cases nT
  have F:=fly_of hl' h1 h2 h3 h4 hne h5 h6 h7;rw [hcx] at F;have mv:∀ {h':Heap}{t':Nat},Heap.FlyingW (bas s1.heap (X.env :: X.outer) e T0) (X.env :: X.outer) e (.ref C) a0 h'→s1.heap.UpToSlots h'→Inv X pins σ' H' { s1 with heap:=h',toks:=t' }:=fun {h'}{t'} F up=>by
   have m:=L2.moved (fl:=.none) hl' F.1 F.2.2.1 F.2.2.2 up;rw [← hs] at m;exact I'.moved he nT g1 g2 h5 h6 m
  refine wpAny_looks_onW hfr hf F fun h₄ H4 up4=>?_;refine wpAny_landsW H4 fun h₅ F5 up5=>?_;have I5:=mv (t':=s1.toks) F5 (up4.trans up5);have I5h:=I5.hnd (e:=e);refine wpAny_handleBy_cons (codeAny_handlers_test (zEx I5h hg hm ?_ hdb)) (by intro q;cases q);obtain ⟨o5,ho5,hc5⟩:=F5.there;have LT:PySem.W.Looks (model X.prog X.w) h₅ (typeOf (.ref e)) (.ref C):=by
   rw [← hc5];exact (PySem.W.Looks.ld ho5).andThen .now
  refine PySem.W.exm_one I5.kIn LT hK _ _ _ _ (fun _ _ q=>q) ?_;refine codeAny_handlers_suite_as ?_;refine lands_againW F5 fun h₆ F6 up6=>?_;have I6:=(mv (t':=s1.toks) F6 ((up4.trans up5).trans up6)).hnd (e:=e);refine zFx (X:=X.hnd e) (i:=i) I6 hN hi (.inl hl) (v:=.ref e) rfl (fun s7 I7=>?_) (.inr hl);refine wpAny_mono (hh e pins s7 _ H' (D.but i) I7 hT) (fun f s8 h8=>?_) (fun _ _ z=>False.elim z);have done:∀ {σ8:St}{H8:Hp}{R:Unit→Shared→Prop}{E:Value→Shared→Prop},Inv (X.hnd e) pins σ8 H8 s8→(∀ s9,Inv X pins (σ8.set i none) H8 s9→R () s9)→wpAny (model X.prog X.w) X.A (do bindName X.env n .none;unbindBehindTheSuite X.env n hpos) R E s8:=fun {σ8 H8 R E} J r=>by
   have J:=J.unhnd I.ok;obtain ⟨m,hn,hloc⟩:=id J.loc;exact wpAny_nameGoes_keeps hl hn (by rw [I.ok.kind];rfl) fun h9 v hn9 hs9=>r _ (J.gone hN hi hloc hn9 hs9)
  cases f with
  | next=>obtain ⟨σ8,H8,J,q⟩:=h8;exact done J fun s9 J9=>⟨_,_,J9,q⟩
  | brk=>obtain ⟨σ8,H8,J,q⟩:=h8;exact done J fun s9 J9=>⟨_,_,J9,q⟩
  | cont=>obtain ⟨σ8,H8,J,q⟩:=h8;exact done J fun s9 J9=>⟨_,_,J9,q⟩
  | ret u=>obtain ⟨v,σ8,H8,J,r,q⟩:=h8;exact done J fun s9 J9=>⟨v,_,_,J9,r,q⟩
end
end L2
namespace L2
open PySem PySem.Spec PyProof.Rows PySem.W
section
variable {prog:Program}{w:World}{A:Around}{E:Value→Shared→Prop}{h:Heap}{g:Array GenState}{d:Drawn}{t:Nat}{os:OsState}{a:Addr}{o:Obj}
 {nm q:Str}{C N:Addr}{bs bm:List Value}{hdct:Bool}{sn:List Str}{sub:List Value}{ab:Bool}{col:Option Bool}{dd:Option Addr}{k0 k1 k2 k3 k5:Option Value}{newId:String}
theorem check_ga {M:Model}{nameV:Value}{Q:Unit→Shared→Prop} (hC:h.get? C=some (excClassObj nm q C N bs bm hdct sn sub ab col dd k0 k1 k2 k3 k5 newId)) (hcB:(Value.ref C :: bm).contains (.type "BaseException")=true)
  (hx:h.get? a=some o) (hc:o.cls=.ref C) (hq:Q () ⟨h,g,d,t,os⟩):wpAny M A (checkBuiltinCall "BaseException.__getattribute__" ⟨[.ref a,nameV],[]⟩) Q E ⟨h,g,d,t,os⟩:=by
 have hk:builtinKind "BaseException.__getattribute__" = some .slot:=by decide +kernel
 have hsplit:splitId "BaseException.__getattribute__" = some ("BaseException", "__getattribute__"):=by decide +kernel
 have ha:=PySem.F.args_bexc_ga (.ref a) nameV;simp only [checkBuiltinCall,hk,hsplit];refine wpAny_bind ?_
 ·unfold isInstance
  repeat (first | (with_reducible refine wpAny_loadPart_at hx ?_;rw [hc]) | (with_reducible refine wpAny_isSubtype_exc hC ?_;rw [hcB]) | wp_step)
  exact hq
end
section
variable {prog:Program}{w:World}{A:Around}{E:Value→Shared→Prop}{s:Shared}{K:Frag}{x C D:Addr}{ox:Obj}
open Builtin Builtin.ObjectAttr Builtin.Getset_descriptor in
theorem xc_get {R:Result→Shared→Prop}{tp:Value} (X:K.In s.heap) (L0:Looks (model prog w) s.heap (typeOf (.ref x)) (.ref D)) (hm:mroIn K D (.type "object")=some true) (h:R (.ok (.ret (.ref D))) s) :
  codeAny (model prog w) A (.call (.builtin "getset_descriptor.__get__") ⟨[.builtin "object.__class__",.ref x,tp],[]⟩) R s:=by
 obtain ⟨hh,g,dr,t,os⟩:=s;have L1:=looks_mroIn (M:=model prog w) X hm;refine codeAny_call_builtin KF.slot_gs.plain KF.entry_gs (KF.slot_gs.check _ _ _ _ _ _ _ _ KF.type_class (KF.args_gs _ _ _) ?_);unfold Builtin.«getset_descriptor.__get__» descrGet;rw [dga_obj];refine wpAny_bind (wpAny_pure ?_);unfold descrGetter descrCheckInstance descrNameAndClass isInstance;simp only [KF.owner_class];repeat lk
 refine ⟨Code.quiet_builtin _ (by decide +kernel),codeAny_builtin KF.entry_class ?_⟩;unfold Builtin.«object.__class__» shownTypeOf
 repeat lk
 exact h
theorem xc_class {Q:Option Value→Shared→Prop} (X:K.In s.heap) (hx:s.heap.get? x=some ox) (hc:ox.cls=.ref D) (hga:findIn K (.ref D) "__getattribute__" = some (some (.builtin "BaseException.__getattribute__"))) (hgt:findIn K (.ref D) "__getattr__" = some none)
  (hcf:findIn K (.ref D) "__class__" = some (some (.builtin "object.__class__"))) (hm:mroIn K D (.type "object")=some true) (hexc:excIn K D [.type "ValueError",.type "Exception",.type "BaseException",.type "object"] "ValueError.__new__" = true)
  (h:Q (some (.ref D)) { s with toks:=s.toks + 1 }):wpAny (model prog w) A (getAttr? (.ref x) "__class__") Q E s:=by
 obtain ⟨hh,g,d,t,os⟩:=s;have L0:Looks (model prog w) hh (typeOf (.ref x)) (.ref D):=by rw [← hc];exact (Looks.ld hx).andThen .now
 have L1:=looks_findIn (M:=model prog w) X hga;have L2:=looks_findIn (M:=model prog w) X hgt;have hx2:(Value.builtin "BaseException.__getattribute__" == Value.builtin "object.__getattribute__")=false:=by decide +kernel
 have hx1:(onTheHeap (Value.ref D) && Value.builtin "BaseException.__getattribute__" == Value.builtin "object.__getattribute__")=false:=by rw [hx2];rfl
 have f3:=PySem.F.attr_ValueError.ga.bind (.ref x);unfold getAttr? getAttrBy? getAttrBy;refine wpAny_bind (wpAny_mkText (wpAny_bind (wpAny_attempt (wpAny_holding (wpAny_bind (L0.at (wpAny_bind (L1.at ?_))))))));simp only [hx1,hx2];rw [if_neg (by simp)];unfold getAttrByItsOwn
 repeat (any_goals (first | assumption | with_reducible refine L2.at ?_ | with_reducible refine L0.at ?_ | with_reducible refine L1.at ?_ | wp_step))
 obtain ⟨bm,N,nm,q,bs,hdct,sn,sub,ab,col,dd,k0,k1,k2,k3,k5,mN,hC,hN,hni,T⟩:=zGo X hexc;refine codeAny_call_builtin PySem.F.attr_ValueError.ga.plain PySem.F.entry_bexc_ga (check_ga hC (by rw [List.contains_cons,T.hasType PySem.F.excBase_ValueError.hasBase];rfl) hx hc ?_);have L3:=looks_findIn (M:=model prog w) X hcf;have f5:typeOf (.builtin "object.__class__")=pure (.type "getset_descriptor"):=by kernel_rfl
 have f6:=PySem.F.slot_gs_get.lookup;have f7:=PySem.F.slot_gs_set.lookup
 repeat (any_goals (first | assumption | with_reducible refine L3.at ?_ | with_reducible refine L0.at ?_ | wp_step))
 refine xc_get X L0 hm ?_;exact wpAny_pure (handed_on rfl (wpAny_pure h))
structure XCls (K:Frag) (C:Addr):Prop where
 exc:excIn K C [.type "ValueError",.type "Exception",.type "BaseException",.type "object"] "ValueError.__new__" = true
 ga:findIn K (.ref C) "__getattribute__" = some (some (.builtin "BaseException.__getattribute__"))
 gt:findIn K (.ref C) "__getattr__" = some none
 cf:findIn K (.ref C) "__class__" = some (some (.builtin "object.__class__"))
 ob:mroIn K C (.type "object")=some true
theorem kitx_exc {e:Addr} (c:XCls K C):KitX K (.ref e) (.ref C) (fun h=>∃ ox,h.get? e=some ox∧ox.cls=.ref C) where
 ty:=fun _ _ _ ⟨_,hx,hc⟩=>by rw [← hc];exact (Looks.ld hx).andThen .now
 it:=fun _ _ X _=>by
  obtain ⟨bm,N,nm,q,bs,hdct,sn,sub,ab,col,dd,k0,k1,k2,k3,k5,mN,hC,_⟩:=zGo X c.exc;intro A' Q' E' s' k q;unfold isType loadHead;exact wpAny_bind (wpAny_loadPart (k _ _ hC) (wpAny_pure q))
 ne:=fun h tp dd its n sl X htp=>by
  obtain ⟨bm,N,nm,q,bs,hdct,sn,sub,ab,col,dd,k0,k1,k2,k3,k5,mN,hC,_⟩:=zGo X c.exc;refine Bool.eq_false_iff.mpr fun q=>?_;have e:C=tp:=Value.ref.inj (beq_iff_eq.mp q);subst e;rw [hC] at htp;exact nomatch congrArg Obj.data (Zk htp)
 ca:=fun X ⟨_,hx,hc⟩ k=>xc_class X hx hc c.ga c.gt c.cf c.ob c.exc k
end
section
variable {X:Cx}
theorem zE9 {K:Frag} (hK:X.K=K):CallR X (.builtin "isinstance") (fun xs H Q=>∃ a C c cv b,xs=[.ref a,c]∧H a=some (XO C a)∧XCls K C∧absV cv=some c∧kitOne K (.ref C) cv=some b∧((∀ t,cv≠.ref t)→∃ T,cv=.type T)∧Q (.bl b) H):=by
 intro pins s σ H xs us Q I rv ⟨a,C,c,cv,b,ex,ha,hc,rc,hk,hT,q⟩;subst ex hK;obtain ⟨u1,u2,rfl,r1,r2⟩:=L2.v2 rv;cases (show u1=Value.ref a from r1);obtain ⟨o,vs,h1,h2,h3⟩:=xo_of I.hok ha;have e2:u2=cv:=by
  cases cv with
  | ref t=>cases (Zk rc);exact r2
  | type T=>cases (Zk rc);exact r2
  | _=>obtain ⟨T,z⟩:=hT (fun _ z=>nomatch z);cases z
 subst e2;exact kia_one (kitx_exc hc) I.kIn ⟨o,h1,h2⟩ hk (fun z=>nomatch z) fun tk=>⟨.bl b,H,I.tok tk,rfl,q⟩
theorem call_isinstT {K:Frag} (hK:X.K=K):CallR X (.builtin "isinstance") (fun xs H Q=>∃ (a C t:Addr) (cs:List Addr) (b:Bool),xs=[.ref a,.ref t]∧H a=some (XO C a)∧XCls K C∧H t=some (.tup (cs.map V.ref))∧kitAny K (.ref C) (cs.map Value.ref)=some b∧Q (.bl b) H):=by
 intro pins s σ H xs us Q I rv ⟨a,C,t,cs,b,ex,ha,hc,ht,hk,q⟩;subst ex hK;obtain ⟨u1,u2,rfl,r1,r2⟩:=L2.v2 rv;cases (show u1=Value.ref a from r1);cases (show u2=Value.ref t from r2);obtain ⟨o,vs,h1,h2,h3⟩:=xo_of I.hok ha;obtain ⟨_,its,r,ob,e1,e2,n,e3⟩:=(show ObjOk X.prog X.w H s.heap t (.tup (cs.map V.ref)) from I.hok t _ ht);have key:∀ (cs:List Addr) (its:List Value),Vals (cs.map V.ref) its→its=cs.map Value.ref:=by
  intro cs
  induction cs with
  | nil=>intro its r;cases r;rfl
  | cons c cs ih =>
   intro its r;cases r with
   | cons r0 r' =>
    rw [ih _ r'];cases r0;rfl
 have ei:=key cs its r;subst ei;obtain ⟨oc,od,oda,osl⟩:=ob;cases e2;cases e3;exact kia_tup (kitx_exc hc) I.kIn ⟨o,h1,h2⟩ e1 hk (fun z=>nomatch z) fun tk=>⟨.bl b,H,I.tok tk,rfl,q⟩
end
end L2
namespace L2
open PySem PySem.Spec PyProof.Rows
theorem Fun.okX {P:Program}{w:World}{K:PySem.W.Frag}{mg:Str→Option Value}{base:Heap}{CX:CXT}{x qual:Str}{st:Stmt}{f:Addr}{fd:FuncData}{N ps:List Str}{k:Nat}{sp:Sp} (F:Fun K x qual st f fd) (S:FnScope N ps (defScope st)) (len:∀ vs H Q E,sp vs H Q E→vs.length=ps.length)
  (hbody:∀ (cdv:Value) (A:Around) (outer:List Env) (s:Shared) (H:Hp) (vs:List V) (Q:VK) (E:XK),Room k (A.deeper (envOfC qual (defScope st) s.heap.objs.size f cdv))→sp vs H Q E →
   ∃ t,PSs (cxOf CX P w K mg base N qual (defScope st) f cdv A outer s H E) (defBody st) t∧t { nx:=fun _ H'=>Q .non H',rt:=Q } (start N vs) H):FnOk P w K mg base CX (k + 1) f fd ps sp:=by
 obtain ⟨oc,od,kV,doc,pm,an,cdv,ct,osl,rfl,lk,hcd⟩:=F.ex;exact fn_of lk hcd S len fun A outer s H vs Q E hr hsp=>hbody cdv A outer s H vs Q E hr hsp
theorem FnOk.or {P:Program}{w:World}{K:PySem.W.Frag}{mg:Str→Option Value}{base:Heap}{CX:CXT}{k:Nat}{f:Addr}{fd:FuncData}{ps:List Str}{sp sp':Sp} (F:FnOk P w K mg base CX k f fd ps sp) (G:FnOk P w K mg base CX k f fd ps sp'):FnOk P w K mg base CX k f fd ps (fun vs H Q E=>sp vs H Q E∨sp' vs H Q E) :=
 ⟨fun vs H Q E h=>h.elim (F.len vs H Q E) (G.len vs H Q E),fun A outer s H args us vs Q E hr he hb hv h=>h.elim (F.run A outer s H args us vs Q E hr he hb hv) (G.run A outer s H args us vs Q E hr he hb hv)⟩
namespace W
noncomputable def zG2:=by have h:=@L2.zG2;rw [ePS,ePA] at h;exact @h
noncomputable def ps_try:=by have h:=@L2.ps_try;rw [ePS,ePSs] at h;exact @h
noncomputable def Fun.okX:=by have h:=@L2.Fun.okX;rw [ePSs] at h;exact @h
end W
end L2
namespace L2
open PySem PySem.Spec PyProof.Rows
noncomputable def Cx.re (X:Cx) (N':List Str):Cx:={ X with N:=N' }
noncomputable def hide:List Nat→St→St
 | [],σ=>σ
 | i :: is,σ=>hide is (σ.set i none)
theorem zGk:∀ (is:List Nat) (σ : St),(hide is σ).length = σ.length
 | [],_=>rfl
 | i :: is,σ=>by rw [hide,zGk is,List.length_set]
theorem zGl:∀ (is:List Nat) (σ : St) (i:Nat) (v:V),(hide is σ)[i]? = some (some v)→i∉is∧σ[i]? = some (some v)
 | [],_,_,_,h=>⟨by simp,h⟩
 | j :: is,σ,i,v,h=>by
  obtain ⟨h1,h2⟩:=zGl is _ i v h;have ne:j≠i:=by
   rintro rfl;rw [List.getElem?_set] at h2;simp only [if_true] at h2;split at h2 <;> cases h2
  rw [X0 ne] at h2;exact ⟨by simp [h1,Ne.symm ne],h2⟩
noncomputable def Ends.hid (D:Ends) (is:List Nat):Ends:={ nx:=fun σ H=>D.nx (hide is σ) H,rt:=D.rt,bk:=fun σ H=>D.bk (hide is σ) H,ct:=fun σ H=>D.ct (hide is σ) H }
noncomputable def sameN (N N':List Str) (is:List Nat):Prop:=N'.length=N.length∧∀ i,i < N.length→i∉is→N'[i]? = N[i]?
section
variable {X:Cx}{pins:List (Addr×Obj)}{σ : St}{H:Hp}{s:Shared}{N':List Str}{is:List Nat}{st:Stmt}{t:TS}
theorem Inv.re (h:sameN X.N N' is) (I:Inv X pins σ H s):Inv (X.re N') pins (hide is σ) H s :=
 ⟨⟨I.ok.mod,I.ok.kind,I.ok.glob,I.ok.blt,I.ok.above,I.ok.inj,I.ok.has,I.ok.cab,I.ok.hd,I.ok.frames,I.ok.stk,I.ok.exf,I.ok.bs,I.ok.bsz,I.ok.noex,I.ok.exfs,I.ok.funs,I.ok.frf⟩,I.os,I.bare,I.base,by
  obtain ⟨m,hn,hl⟩:=I.loc;refine ⟨m,hn,fun i x v e1 e2 e3=>?_⟩;obtain ⟨n,e2⟩:=zGl is σ i v e2;have il:i < X.N.length:=by rw [← h.1];exact (List.getElem?_eq_some_iff.mp e1).1
  exact hl i x v ((h.2 i il n).symm.trans e1) e2 e3,I.cell,I.free,I.freeC,I.pin,I.hok,by rw [zGk,I.len];exact h.1.symm⟩
theorem Inv.unre (ok:X.Ok) (h:sameN X.N N' is) (I:Inv (X.re N') pins σ H s):Inv X pins (hide is σ) H s :=
 ⟨ok,I.os,I.bare,I.base,by
  obtain ⟨m,hn,hl⟩:=I.loc;refine ⟨m,hn,fun i x v e1 e2 e3=>?_⟩;obtain ⟨n,e2⟩:=zGl is σ i v e2;have il:i < X.N.length:=(List.getElem?_eq_some_iff.mp e1).1
  exact hl i x v ((h.2 i il n).trans e1) e2 e3,I.cell,I.free,I.freeC,I.pin,I.hok,by rw [zGk,I.len];exact h.1⟩
theorem ps_re (N':List Str) (is:List Nat) (h:sameN X.N N' is) (hs:PS (X.re N') st t):PS X st (fun D σ H=>t (D.hid is) (hide is σ) H):=by
 intro pins s σ H D I hw;refine wpAny_mono (hs pins s (hide is σ) H (D.hid is) (I.re h) hw) (fun f s1 h1=>?_) (fun _ _ e=>e);cases f with
 | next=>obtain ⟨σ',H',J,q⟩:=h1;exact ⟨_,_,J.unre I.ok h,q⟩
 | brk=>obtain ⟨σ',H',J,q⟩:=h1;exact ⟨_,_,J.unre I.ok h,q⟩
 | cont=>obtain ⟨σ',H',J,q⟩:=h1;exact ⟨_,_,J.unre I.ok h,q⟩
 | ret u=>obtain ⟨v,σ',H',J,r,q⟩:=h1;exact ⟨v,_,_,J.unre I.ok h,r,q⟩
end
theorem FnOk.calm {P:Program}{w:World}{K:PySem.W.Frag}{mg:Str→Option Value}{base:Heap}{CX:CXT}{k:Nat}{f:Addr}{fd:FuncData}{ps:List Str}{sp:Sp} (hC:Calm CX) (F:FnOk P w K mg base CX k f fd ps sp):FnOk P w K mg base CX0 k f fd ps (fun vs H Q E=>sp vs H Q fun _ _ _=>False) :=
 ⟨fun vs H Q E h=>F.len vs H Q _ h,fun A outer s H args us vs Q E hr he hb hv h=>by
  have:=F.run A outer s H args us vs Q (fun _ _ _=>False) hr he hb hv h;refine codeAny_mono this fun r s' h'=>?_;cases r with
  | ok c =>
   cases c with
   | ret u=>exact h'
   | _=>exact h'
  | error e=>exact hC _ _ _ _ _ h'⟩
namespace W
noncomputable def ps_re:=by have h:=@L2.ps_re;rw [ePS] at h;exact @h
end W
end L2
namespace L2
open PySem PySem.Spec PyProof.Rows
structure TabM (H:Hp) (P:Addr) (q:Str):Prop where
 ex:∃ ps:Array Value,H P=some (.tbl ps)∧TriplesOk ps.toList∧∀ (pos:Pos) (v:Value),codeAmong pos ps.toList=some v→∃ a,v=.ref a∧H a=some (CodeO a q)
theorem TabM.ne {H:Hp}{P:Addr}{q:Str} (T:TabM H P q) {a:Addr}{o:HO} (e:H a=some o) (h:∀ ps,o≠.tbl ps):a≠P:=by
 rintro rfl;obtain ⟨ps,z,_⟩:=T.ex;rw [e] at z;exact h _ (Zk z)
theorem TabM.upd {H:Hp}{P:Addr}{q:Str}{p:Addr}{u o:HO} (T:TabM H P q) (hp:H p=some u) (h1:∀ ps,u≠.tbl ps) (h2:∀ f,u≠.ext f):TabM (L2.upd H p o) P q:=by
 have n1:=T.ne hp h1;obtain ⟨ps,z,t,c⟩:=T.ex;refine ⟨ps,by rw [zA8 (Ne.symm n1)];exact z,t,fun pos v e=>?_⟩;obtain ⟨a,e1,e2⟩:=c pos v e;refine ⟨a,e1,?_⟩;rw [zA8 ?_]
 ·exact e2
 ·rintro rfl;rw [hp] at e2;exact h2 _ (Zk e2)
section
variable {f c':Addr}{q:Str}{params:Arguments}{body:Expr}{scope:Scope}{cl:List (Str×Addr)}{N:List Str}{ws:List V}{h h':Heap}{H:Hp}
end
section
variable {CX:CXT}{P:Program}{w:World}{K:PySem.W.Frag}{mg:Str→Option Value}{base:Heap}{k:Nat}{f c':Addr}{q:Str}{params:Arguments}{body:Expr}{scope:Scope}{cl:List (Str×Addr)}{N:List Str}{ws:List V}
end
section
variable {X:Cx}{CX:CXT}{k:Nat}{f c':Addr}{q x:Str}{params:Arguments}{body:Expr}{scope:Scope}{cl:List (Str×Addr)}{N:List Str}{ws:List V}{sp:Hp→VK→XK→Prop}{E:St→XK}{i:Nat}{p pos:Pos}
end
section
variable {X:Cx}{pins:List (Addr×Obj)}{σ : St}{H:Hp}{s:Shared}{A:Around}{E:Value→Shared→Prop}
end
section
variable {X:Cx}{CX:CXT}{k:Nat}{fw c P:Addr}{fd:FuncData}{q x y:Str}{params:Arguments}{body:Expr}{scope:Scope}{N:List Str}{ix:List Nat}{sp:Addr→Addr→List (Str×Addr)→List V→Sp}{E:St→XK}{p lpos pos:Pos}
end
theorem FunL.okX {P:Program}{w:World}{K:PySem.W.Frag}{mg:Str→Option Value}{base:Heap}{CX:CXT}{x qual:Str}{st:Stmt}{f c:Addr}{fd:FuncData}{N ps:List Str}{k:Nat}{sp:Sp} (F:FunL K x qual st f fd c) (S:FnScope N ps (defScope st)) (len:∀ vs H Q E,sp vs H Q E→vs.length=ps.length)
  (hbody:∀ (A:Around) (outer:List Env) (s:Shared) (H:Hp) (vs:List V) (Q:VK) (E:XK),Room k (A.deeper (envOfC qual (defScope st) s.heap.objs.size f (.ref c)))→sp vs H Q E →
   ∃ t,PSs (cxOf CX P w K mg base N qual (defScope st) f (.ref c) A outer s H E) (defBody st) t∧t { nx:=fun _ H'=>Q .non H',rt:=Q } (start N vs) H):FnOk P w K mg base CX (k + 1) f fd ps sp:=by
 obtain ⟨oc,od,kV,doc,pm,an,ct,osl,rfl,lk,hcd⟩:=F.ex;exact fn_of lk hcd S len fun A outer s H vs Q E hr hsp=>hbody A outer s H vs Q E hr hsp
namespace W
noncomputable def FunL.okX:=by have h:=@L2.FunL.okX;rw [ePSs] at h;exact @h
end W
end L2
namespace PySem.SeqAt
open AutoSeq1 (wpAny_loadPart')
open MeetsSeq
section
variable {A:Around}{s:Shared}
end
end PySem.SeqAt
namespace L2
open PySem PySem.Spec PyProof.Rows
section
variable {X:Cx}{pins:List (Addr×Obj)}{σ : St}{H:Hp}{s:Shared}
end
end L2
namespace L2
open PySem PySem.Spec PyProof.Rows
end L2
namespace L2
open PySem PySem.Spec PyProof.Rows
theorem zC4 (is:List Int):∀ n,n≤is.length→preSum (fun i=>is.getD i 0) n=(is.take n).sum
 | 0,_=>rfl
 | n + 1,h=>by
  show preSum (fun i=>is.getD i 0) n + is.getD n 0=_;have e:is[n]? = some is[n]:=Z1 (by omega);have e2:is.getD n 0=is[n]:=by rw [List.getD_eq_getElem?_getD,e];rfl
  rw [zC4 is n (by omega),e2,Zd,e,Option.toList_some,List.sum_append,Yh,List.sum_nil,Int.add_zero]
section
variable {X:Cx}
theorem mt_lindex {K:PySem.W.Frag} (hK:X.K=K):MtR X "list.index" (fun x xs H Q=>∃ (l:Addr) (ks:List Str) (n:Str) (j:Nat),x=.ref l∧xs=[.str n]∧SqL K H l (ks.map V.str)∧ks[j]? = some n∧(∀ m,m < j→ks[m]?≠some n)∧Q (.int (j:Nat)) H):=by
 subst hK;intro pins s σ H x xs v us Q I rx rv h;obtain ⟨l,ks,n,j,rfl,rfl,hl,hj,hno,q⟩:=h;cases (show v=Value.ref l from rx);obtain ⟨u,rfl,ru⟩:=v1 rv;obtain ⟨its,r,pl,hz⟩:=I.list hl;obtain ⟨⟨cls,dd,data,sl⟩,ho,hc,n',hd⟩:=pl.isList;simp only at hc hd;subst hc hd;have jl:j < ks.length:=(List.getElem?_eq_some_iff.mp hj).1;have ln:=r.length;rw [Z0] at ln hz;have fs:(ks.map V.str).all flatV=true:=by
  rw [Yc];intro x hx;obtain ⟨k,_,rfl⟩:=List.mem_map.mp hx;rfl
 have at_:∀ (i:Nat) (hi:i < its.toArray.size) (k:Str),ks[i]? = some k→eqU (.str n) its.toArray[i]=eqV (.str k) (.str n):=fun i hi k e=>by
  obtain ⟨w',hw,rw'⟩:=r.get (i:=i) (x:=.str k) (by rw [Z4,e];rfl);have:its.toArray[i]=w':=by
   have h1:its[i]? = some its.toArray[i]:=by simp
   rw [hw] at h1;exact (Zk h1).symm
  rw [this];exact eqU_of rw' rfl
 have szl:(sizeLine:Nat)=16777216:=sizeLine_eq;refine call_meets PySem.F.slot_list_index ⟨_,ho,rfl⟩ PySem.F.entry_list_index (PySem.F.args_list_index_2 _ _) (SeqAt.list_indexAt l its.toArray n' dd sl u (eqU (.str n)) j (by simp;omega) (by omega) ?_ ?_) ⟨ho,fun y hy=>zCu ru rfl r fs y (by simpa using hy),?_⟩
 ·rw [at_ j (by simp;omega) n hj];simp [eqV]
 ·intro m hm lt;obtain ⟨k,hk⟩:∃ k,ks[m]? = some k:=⟨_,Z1 (by omega)⟩;rw [at_ m hm k hk];have:k≠n:=fun e=>hno m lt (by rw [hk,e]);simp [eqV,this]
 ·exact ⟨.int j,H,I.tok _,⟨_,rfl⟩,q⟩
theorem zDl {K:PySem.W.Frag} (hK:X.K=K):CallR X (.builtin "sum") (fun vs H Q=>∃ (l:Addr) (is:List Int),vs=[.ref l]∧SqL K H l (is.map V.int)∧X.calm=true∧Q (.int is.sum) H):=by
 subst hK;intro pins s σ H vs us Q I rv h;obtain ⟨l,is,rfl,hl,hc,q⟩:=h;obtain ⟨u,rfl,ru⟩:=v1 rv;cases (show u=Value.ref l from ru);obtain ⟨its,r,pl,hz⟩:=I.list hl;have ln:=r.length;rw [Z0] at ln;refine call_sum_walkG (wpAny_pyIter_list pl.isList ?_);have hlI:l≠s.heap.objs.size:=by
  obtain ⟨o,e,_⟩:=pl.isList;exact Zg (Z9 e)
 refine ⟨s.heap.objs.size,_,_,_,_,_,fun i=>is.getD i 0,rfl,Walks.list (A:=X.A.in1) (I.ok.hd hc) s.heap.objs.size l hlI its.toArray,⟨⟨_,Ze _ rfl,rfl,rfl⟩,?_⟩,fun b hb=>?_,fun i v hp=>?_,fun h' tk t' hk=>?_⟩
 ·obtain ⟨o,e,r⟩:=pl.isList;exact ⟨o,Z2 _ e,r⟩
 ·show b < (s.heap.push _).objs.size;rw [Y9];rcases List.mem_cons.mp hb with e | hb
  ·rw [e];exact Yb _
  ·obtain ⟨o,e,_⟩:=pl.isList;rw [List.mem_singleton.mp hb];exact Ye (Z9 e)
 ·have hv:its[i]? = some v:=by simpa using hp
  have hi:i < its.length:=(List.getElem?_eq_some_iff.mp hv).1;obtain ⟨z,ez⟩:∃ z,is[i]? = some z:=⟨_,Z1 (by omega)⟩;obtain ⟨w',hw,rw'⟩:=r.get (i:=i) (x:=.int z) (by rw [Z4,ez];rfl);rw [hv] at hw;cases hw;obtain ⟨t,e⟩:=(show ∃ t,v=Value.int z t from rw');exact ⟨t,by rw [e];simp [ez]⟩
 ·have kk:Kept s.heap h':=fun b o e=>hk b o (fun z=>absurd (Z9 e) (by rw [List.mem_singleton.mp z];exact Y0 _)) (Z2 _ e);refine ⟨.int is.sum,H,I.kept (t':=tk) kk,⟨t',?_⟩,q⟩;have:its.toArray.size=is.length:=by simp;omega
  rw [this,zC4 is is.length (Z5 _),Zh]
theorem zGt:CallR X (.builtin "sum") (fun vs H Q=>∃ (v d:Addr) (ks:List Key) (is:List Int),vs=[.ref v]∧H v=some (ViewO v d)∧Rd H d (.dK (ks.zip (is.map V.int)))∧ks.length=is.length∧X.calm=true∧Q (.int is.sum) H):=by
 intro pins s σ H vs us Q I rv h;obtain ⟨v,d,ks,is,rfl,hv,rd,hl,hc,q⟩:=h;obtain ⟨u,rfl,ru⟩:=v1 rv;cases (show u=Value.ref v from ru);obtain ⟨hz,lo,ws,kv,dd⟩:=zEa I.hok rd;obtain ⟨o,es,ep,g,ex,hd,r⟩:=id dd;have da:s.heap.DictAt (mixKind X.prog X.w) d ws ep:=⟨o,es,g,ex,hd,r⟩;obtain ⟨vw,_,_⟩:=I.hok v _ hv;have K:=PySem.W.kdl_values (prog:=X.prog) (w:=X.w) (knd:=mixKind X.prog X.w) (r:=v) (d:=d) (kvs:=ws) (ep:=ep);have hok:(fun h:Heap=>h.IsValuesView v d∧h.DictAt (mixKind X.prog X.w) d ws ep) s.heap:=⟨vw,da⟩;have wl:ws.length=is.length:=by
  have:=kv.len;rw [List.length_zip,Z0] at this;omega
 refine call_sum_walkAnyS ?_;obtain ⟨oI,St,hit,W,st⟩:=K.iter X.A.in1 s (I.ok.hd hc) hok;refine hit _ _ ⟨s.heap.objs.size,_,_,_,ws.length,_,_,fun i=>is.getD i 0,rfl,W.toS,st,fun b hb=>?_,fun i x hx=>?_,fun s' t' hm=>?_⟩
 ·show b < (s.heap.push oI).objs.size;rw [Y9];rcases List.mem_cons.mp hb with e | hb
  ·rw [e];exact Yb _
  ·rw [List.mem_singleton.mp hb];exact Ye (K.there _ hok).2
 ·obtain ⟨k,hk⟩:=hx;have hi:i < ws.length:=(List.getElem?_eq_some_iff.mp hk).1;obtain ⟨k',ek⟩:∃ k',ks[i]? = some k':=⟨_,Z1 (by omega)⟩;obtain ⟨z,ez⟩:∃ z,is[i]? = some z:=⟨_,Z1 (by omega)⟩;obtain ⟨w',hw,rw'⟩:=kv.get (i:=i) (k:=k') (x:=.int z) (by rw [List.getElem?_zip_eq_some];exact ⟨ek,by rw [Z4,ez];rfl⟩);rw [hk] at hw;cases hw;obtain ⟨t,e⟩:=(show ∃ t,x=Value.int z t from rw');exact ⟨t,by rw [e];simp [ez]⟩
 ·have kk:Kept s.heap s'.heap:=fun b o e=>hm.heap b o (fun hI=>absurd (Z9 e) (by rw [List.mem_singleton.mp hI];exact Y0 _)) (Z2 _ e);rw [Moved.eq_with hm];refine ⟨.int is.sum,H,I.kept (t':=s'.toks) kk,⟨t',?_⟩,q⟩;rw [wl,zC4 is is.length (Z5 _),Zh]
theorem zEb:CallR X (.builtin "sorted") (fun vs H Q=>∃ (d:Addr) (kvs:List (Key×V)) (ks:List Str),vs=[.ref d]∧Rd H d (.dK kvs)∧kvs.map (·.1)=ks.map Sum.inr∧ks.length < 64∧X.calm=true ∧
  ∀ p (ks':List Str),H p=none→ks'.Perm ks→ks'.Pairwise (fun a b=>¬ ltS b a)→Q (.ref p) (upd H p (.lst (ks'.map V.str)))):=by
 intro pins s σ H vs us Q I rv h;obtain ⟨d,kvs,ks,rfl,rd,ek,h64,hc,q⟩:=h;obtain ⟨u,rfl,ru⟩:=v1 rv;cases (show u=Value.ref d from ru);obtain ⟨hz,lo,ws,kv,dd⟩:=zEa I.hok rd;obtain ⟨o,es,ep,g,ex,hd,r⟩:=id dd;have da:s.heap.DictAt (mixKind X.prog X.w) d ws ep:=⟨o,es,g,ex,hd,r⟩;have kl:kvs.length=ks.length:=by have:=congrArg List.length ek;rw [Z0,Z0] at this;exact this
 have wl:=kv.len;refine PySem.Calls.call_function_entry kind_sorted plain_sorted entry_sorted (args_sorted1 _) ?_;unfold Builtin.«sorted»;refine wpAny_bind (m:=checkCount "sorted" 1 1 _) (wpAny_pure ?_);refine wpAny_bind (PySem.W.kdu_collect (A:=X.A.in1) (PySem.W.kdl_dict (knd:=mixKind X.prog X.w) (kvs:=ws) (ep:=ep) lo) (I.ok.hd hc) da (by omega) fun h' tk acc hk hacc=>?_);have al:acc.toList.length=ks.length:=by rw [Y3,hacc.1];omega
 have all:∀ (j:Nat) (v:Value) (n:Str),acc.toList[j]? = some v→ks[j]? = some n→∃ t,v=Value.str n t:=fun j v n e en=>by
  obtain ⟨k,x,e2,hk'⟩:=hacc.2 j v (by rw [← Yj];exact e);have hj:j < kvs.length:=by rw [kl,← al];exact (List.getElem?_eq_some_iff.mp e).1
  obtain ⟨⟨k',x'⟩,hk2⟩:∃ p,kvs[j]? = some p:=⟨_,Z1 hj⟩;obtain ⟨u',hu',_⟩:=kv.get hk2;rw [e2] at hu';cases hu';have e3:=congrArg (fun l=>l[j]?) ek;simp only [Z4,hk2,en,Option.map_some] at e3;cases Zk e3;exact (show RelV (kV (Sum.inr n)) v from key_rel (k:=Sum.inr n) hk')
 have sa:Vals (ks.map V.str) acc.toList:=by
  clear hk hacc hz da dd kl kv rd q ek h64;generalize acc.toList=ys at al all
  induction ks generalizing ys with
  | nil =>
   cases ys with
   | nil=>exact .nil
   | cons a b=>cases al
  | cons p t ih =>
   cases ys with
   | nil=>cases al
   | cons a b=>exact .cons (all 0 a p rfl rfl) (ih b (by simpa using al) fun j v n e en=>all (j + 1) v n (by simpa using e) (by simpa using en))
 have hS:=strs_are sa;refine wpAny_bind (wpAny_newList ?_ (by rw [al,sizeLine_eq];omega));have hoL:(h'.push (seqObj "list" acc.toList.toArray 0)).get? h'.objs.size=some (seqObj "list" acc.toList.toArray 0):=Ze _ rfl;refine wpAny_bind (wpAny_holding (wpAny_call_entry slot_list_sort ⟨_,hoL,rfl⟩ entry_list_sort (list_sort_treeK strKind_oneLt (vs:=acc.toList) hoL hS.keysOf (fun v₁ v₂ rest e=>keyKind_strs (by rw [← e];exact hS)) (by omega) fun st' hp hs=>⟨_,rfl,?_⟩) (args_list_sort _)));obtain ⟨ss',a1,a2,a3⟩:=sorted_out_str hS hp hs;obtain ⟨e,he⟩:=sortedHeap_at (out:=(arrOf st').map (·.2)) hoL;have J:Inv X pins σ H { s with heap:=h',toks:=tk }:=I.kept (t':=tk) hk;have kk:∀ b o,h'.get? b=some o→(sortedHeap (h'.push (seqObj "list" acc.toList.toArray 0)) h'.objs.size acc.toList ((arrOf st').map (·.2))).get? b=some o:=fun b o hb=>by
  have lt:=Z9 hb;rw [sortedHeap_old (Zg lt) (by rw [Y9];exact Ye lt)];exact Z2 _ hb
 have fr:H h'.objs.size=none:=J.hok.fresh (Z5 _);refine wpAny_pure ⟨_,rfl,.ref h'.objs.size,_,J.laid (t':=tk) (a:=h'.objs.size) (o:=.lst (ss'.map V.str)) kk (Z5 _) ⟨by rw [Z0,a2.length_eq,sizeLine_eq];omega,((arrOf st').map (·.2)).toList,e,vals_strs a1,by rw [Array.toArray_toList];exact he⟩,rfl,q _ ss' fr a2 (sorted_pw ss' a3)⟩
end
end L2
namespace L2
open PySem PySem.Spec PyProof.Rows
noncomputable def tOValues (P:Program) (w:World) (td:TE):TE:=fun σ H Q=>td σ H fun x H1=>∃ d kvs,x=.ref d∧H1 d=some (DO P w d kvs)∧∀ v,H1 v=none→Q (.ref v) (upd H1 v (ViewO v d))
section
variable {X:Cx}
theorem zDt {o:Expr}{td:TE}{apos cpos:Pos} (ho:PE X o td) (hbase:attributeBase o "values" X.env (eval o X.env)=eval o X.env:=by rfl) (hline:(apos.endLine == cpos.line)=true:=by rfl) :
  PE X (.Call (.Attribute o "values" apos) [] [] cpos) (tOValues X.prog X.w td):=by
 intro pins s σ H Q I h;refine wpAny_Call_method0_late hbase hline (thn (ho pins s σ H _ I h) fun v s1 ⟨x,H1,I1,r1,d,kvs,ex,rd,q1⟩=>?_);subst ex;obtain rfl:v=Value.ref d:=r1;obtain ⟨_,lo,vs,kv,dd⟩:=do_of I1.hok rd;have t1:s1.TypeIs (.ref d) "dict":=dd.typeIs;have t2:∀ b,Value.ref d=.ref b→∃ ob,s1.heap.get? b=some ob∧ob.dict=none:=fun b q=>by
  cases q;obtain ⟨ob,_,_,h1,h2,_⟩:=id dd;exact ⟨ob,h1,h2.2.1⟩
 refine ⟨"dict", "dict.values",PySem.F.plainAttrs_dict,PySem.F.slot_dict_values,PySem.F.type_dict_values,t1,t2,Calls.callWith_builtin rfl (PySem.evalArgs_none ?_)⟩;refine call_meetsIn PySem.F.slot_dict_values t1 PySem.F.entry_dict_values (PySem.F.args_dict_values_1 _) (meets_dict_values (optKind X.prog X.w) d lo) ⟨⟨vs,dd⟩,?_⟩;have fr:H1 s1.heap.objs.size=none:=I1.hok.fresh (Z5 _);refine ⟨.ref s1.heap.objs.size,_,I1.laid (t':=s1.toks) (a:=s1.heap.objs.size) (o:=ViewO s1.heap.objs.size d) (fun b u e=>Z2 _ e) (Z5 _) ⟨⟨_,Ze _ rfl,rfl,rfl⟩,⟨_,Ze _ rfl⟩,fun h1 h2 ⟨o',e,r⟩ k=>⟨o',k _ e,r⟩⟩,rfl,q1 _ fr⟩
theorem zFb {P:Program}{w:World} (hP:X.prog=P) (hW:X.w=w):CallR X (.builtin "sum") (fun vs H Q=>∃ (v d:Addr) (ks:List OKey) (is:List Int),vs=[.ref v]∧H v=some (ViewO v d)∧H d=some (DO P w d (ks.zip (is.map V.int)))∧ks.length=is.length∧X.calm=true∧Q (.int is.sum) H):=by
 subst hP hW;intro pins s σ H vs us Q I rv h;obtain ⟨v,d,ks,is,rfl,hv,rd,hl,hc,q⟩:=h;obtain ⟨u,rfl,ru⟩:=v1 rv;cases (show u=Value.ref v from ru);obtain ⟨hz,lo,ws,kv,dd⟩:=do_of I.hok rd;obtain ⟨o,es,ep,g,ex,hd,r⟩:=id dd;have da:s.heap.DictAt (optKind X.prog X.w) d ws ep:=⟨o,es,g,ex,hd,r⟩;obtain ⟨vw,_,_⟩:=I.hok v _ hv;have K:=PySem.W.kdl_values (prog:=X.prog) (w:=X.w) (knd:=optKind X.prog X.w) (r:=v) (d:=d) (kvs:=ws) (ep:=ep);have hok:(fun h:Heap=>h.IsValuesView v d∧h.DictAt (optKind X.prog X.w) d ws ep) s.heap:=⟨vw,da⟩;have wl:ws.length=is.length:=by
  have:=kv.len;rw [List.length_zip,Z0] at this;omega
 refine call_sum_walkAnyS ?_;obtain ⟨oI,St,hit,W,st⟩:=K.iter X.A.in1 s (I.ok.hd hc) hok;refine hit _ _ ⟨s.heap.objs.size,_,_,_,ws.length,_,_,fun i=>is.getD i 0,rfl,W.toS,st,fun b hb=>?_,fun i x hx=>?_,fun s' t' hm=>?_⟩
 ·show b < (s.heap.push oI).objs.size;rw [Y9];rcases List.mem_cons.mp hb with e | hb
  ·rw [e];exact Yb _
  ·rw [List.mem_singleton.mp hb];exact Ye (K.there _ hok).2
 ·obtain ⟨k,hk⟩:=hx;have hi:i < ws.length:=(List.getElem?_eq_some_iff.mp hk).1;obtain ⟨k',ek⟩:∃ k',ks[i]? = some k':=⟨_,Z1 (by omega)⟩;obtain ⟨z,ez⟩:∃ z,is[i]? = some z:=⟨_,Z1 (by omega)⟩;obtain ⟨w',hw,rw'⟩:=kv.get (i:=i) (k:=k') (x:=.int z) (by rw [List.getElem?_zip_eq_some];exact ⟨ek,by rw [Z4,ez];rfl⟩);rw [hk] at hw;cases hw;obtain ⟨t,e⟩:=(show ∃ t,x=Value.int z t from rw');exact ⟨t,by rw [e];simp [ez]⟩
 ·have kk:Kept s.heap s'.heap:=fun b o e=>hm.heap b o (fun hI=>absurd (Z9 e) (by rw [List.mem_singleton.mp hI];exact Y0 _)) (Z2 _ e);rw [Moved.eq_with hm];refine ⟨.int is.sum,H,I.kept (t':=s'.toks) kk,⟨t',?_⟩,q⟩;rw [wl,zC4 is is.length (Z5 _),Zh]
end
namespace W
noncomputable def zDt:=by have h:=@L2.zDt;rw [ePE] at h;exact @h
end W
end L2
namespace L2
open PySem PySem.Spec PyProof.Rows
section
variable {X:Cx}
end
namespace W
end W
end L2
namespace L2
open PySem PySem.Spec PyProof.Rows
section
variable {P:Program}{w:World}{A:Around}{E:Value→Shared→Prop}{s:Shared}
end
section
variable {P:Program}{w:World}{A:Around}{E:Value→Shared→Prop}{s:Shared}
end
end L2
namespace L2.W
open PySem PySem.Spec PyProof.Rows
end L2.W
namespace L2
open PySem PySem.Spec PyProof.Rows
section
variable {X:Cx}{CX:CXT}{k:Nat}{f C:Addr}{fd:FuncData}{ps:List Str}{sp:Sp}{dvs:List V}{ds:List Value}{E:St→XK}{x m:Str}{p pos apos:Pos}{e:Expr}{es:List Expr}{t:TA}
end
end L2
namespace L2.W
open PySem PySem.Spec PyProof.Rows
end L2.W
namespace L2
open PySem PySem.Spec PyProof.Rows
noncomputable def dataE:Nat→Expr→Option PyData
 | 0,_=>none
 | n + 1,e=>match e with
  | .Constant (.int i) _ _=>some (.int i)
  | .Constant (.str x) _ _=>if decide ((x:Str).length≤1000) && PyData.strOk x then some (.str x) else none
  | .Constant (.bool b) _ _=>some (.bool b)
  | .Constant .none _ _=>some .none
  | .List es _=>if es.length≤1000 then (es.mapM (dataE n)).map .list else none
  | .Tuple es _ _=>if es.length≤1000 then (es.mapM (dataE n)).map .tuple else none
  | .UnaryOp .USub e _=>match dataE n e with | some (.int i)=>some (.int (-i)) | _=>none
  | .BinOp a .Sub b _=>match dataE n a,dataE n b with | some (.int i),some (.int j)=>some (.int (i - j)) | _,_=>none
  | .BinOp a .Pow b _=>match dataE n a,dataE n b with | some (.int i),some (.int j)=>if 0≤j∧j≤1000∧i.natAbs≤1000 then some (.int (i ^ j.toNat)) else none | _,_=>none
  | _=>none
noncomputable def tData (d:PyData):TE:=fun _ H Q=>∀ v H',Same H H'→Has (fun a=>H a=none) H' v d→Q v H'
noncomputable def tDatas (ds:List PyData):TA:=fun _ H Q=>∀ vs H',Same H H'→HasAll (fun a=>H a=none) H' vs ds→Q vs H'
noncomputable def starOk (X:Cx) (e:Expr):Prop:=∀ es,starEach (e :: es) X.env=(false,eval e X.env) :: starEach es X.env
theorem zGq {X:Cx}{n:Nat} (ih:∀ {e:Expr}{d:PyData},dataE n e=some d→PE X e (tData d)∧starOk X e):∀ {es:List Expr}{ds:List PyData},es.mapM (dataE n)=some ds→PA X es (tDatas ds)
 | [],ds,h=>by
  rw [List.mapM_nil] at h;cases h;exact fun pos pins s σ H Q I q=>zA2 pos pins s σ H Q I (q [] H (Same.refl _) .nil)
 | e :: es,ds,h=>by
  rw [List.mapM_cons] at h;cases q:dataE n e with
  | none=>rw [q] at h;cases h
  | some d =>
   rw [q] at h;cases r:es.mapM (dataE n) with
   | none=>rw [r] at h;cases h
   | some ws =>
    rw [r] at h;cases h;obtain ⟨p1,p2⟩:=ih q;intro pos pins s σ H Q I k;refine zA0 p1 (zGq ih r) (p2 es) pos pins s σ H Q I fun v H1 s1 h1 vs H2 s2 h2=>k _ _ (s1.trans s2) (.cons (h1.mono s2) (h2.frame fun b o g e=>⟨s1.free g,e⟩))
theorem zGi {α β : Type}{f : α→Option β}:∀ {l:List α}{m:List β},l.mapM f=some m→m.length=l.length
 | [],m,h=>by rw [List.mapM_nil] at h;cases h;rfl
 | a :: l,m,h=>by
  rw [List.mapM_cons] at h;cases q:f a with
  | none=>rw [q] at h;cases h
  | some b =>
   rw [q] at h;cases r:l.mapM f with
   | none=>rw [r] at h;cases h
   | some ws=>rw [r] at h;cases h;rw [Zj,Zj,zGi r]
theorem data_of {X:Cx}:∀ {n:Nat}{e:Expr}{d:PyData},dataE n e=some d→PE X e (tData d)∧starOk X e
 | 0,_,_,h=>by cases h
 | n + 1,e,d,h=>by
  have ih:∀ {e:Expr}{d:PyData},dataE n e=some d→PE X e (tData d)∧starOk X e:=fun h=>data_of h;unfold dataE at h;split at h
  ·cases h;exact ⟨fun pins s σ H Q I k=>zA4 pins s σ H Q I (k _ H (Same.refl _) (.int _)),fun _=>rfl⟩
  ·split at h
   ·rename_i c
    rw [Zv] at c;cases h;exact ⟨fun pins s σ H Q I k=>zBa pins s σ H Q I (k _ H (Same.refl _) (.str _ (of_decide_eq_true c.1) c.2)),fun _=>rfl⟩
   ·cases h
  ·cases h;exact ⟨fun pins s σ H Q I k=>zBo pins s σ H Q I (k _ H (Same.refl _) (.bl _)),fun _=>rfl⟩
  ·cases h;exact ⟨fun pins s σ H Q I k=>zBk pins s σ H Q I (k _ H (Same.refl _) .non),fun _=>rfl⟩
  ·rename_i es pos
   split at h
   ·rename_i c
    obtain ⟨ds,hm,rfl⟩:=Option.map_eq_some_iff.mp h;refine ⟨fun pins s σ H Q I k=>zAg (zGq ih hm) pins s σ H Q I fun vs H1 s1 h1=>?_,fun _=>rfl⟩;have l1:vs.length≤1000:=by rw [h1.length,zGi hm];exact c
    exact ⟨Zm (small1000 l1),fun p hp=>k _ _ (s1.trans (Same.new hp)) (.lst (s1.free hp) zA1 l1 (h1.mono (Same.new hp)))⟩
   ·cases h
  ·rename_i es kk pos
   split at h
   ·rename_i c
    obtain ⟨ds,hm,rfl⟩:=Option.map_eq_some_iff.mp h;refine ⟨fun pins s σ H Q I k=>zAs (zGq ih hm) pins s σ H Q I fun vs H1 s1 h1=>?_,fun _=>rfl⟩;have l1:vs.length≤1000:=by rw [h1.length,zGi hm];exact c
    exact ⟨Zm (small1000 l1),fun p hp=>k _ _ (s1.trans (Same.new hp)) (.tup (s1.free hp) zA1 l1 (h1.mono (Same.new hp)))⟩
   ·cases h
  ·split at h
   ·rename_i i hi
    cases h;exact ⟨fun pins s σ H Q I k=>pe_un un_neg (ih hi).1 pins s σ H Q I fun v H1 s1 h1=>by cases h1;exact ⟨_,rfl,k _ _ s1 (.int _)⟩,fun _=>rfl⟩
   ·cases h
  ·split at h
   ·rename_i i j hi hj
    cases h;exact ⟨fun pins s σ H Q I k=>zAp op_sub (ih hi).1 (ih hj).1 pins s σ H Q I fun v H1 s1 h1 v2 H2 s2 h2=>by cases h1;cases h2;exact ⟨_,_,rfl,rfl,k _ _ (s1.trans s2) (.int _)⟩,fun _=>rfl⟩
   ·cases h
  ·split at h
   ·rename_i i j hi hj
    split at h
    ·rename_i c
     cases h;exact ⟨fun pins s σ H Q I k=>zAp op_pow (ih hi).1 (ih hj).1 pins s σ H Q I fun v H1 s1 h1 v2 H2 s2 h2=>by cases h1;cases h2;exact ⟨_,_,rfl,rfl,⟨c.1,by omega,by omega⟩,k _ _ (s1.trans s2) (.int _)⟩,fun _=>rfl⟩
    ·cases h
   ·cases h
  ·cases h
theorem zEs {X:Cx}{e:Expr}{d:PyData} (n:Nat) (h:dataE n e=some d):PE X e (tData d):=(data_of h).1
end L2
namespace L2.W
open PySem PySem.Spec PyProof.Rows
noncomputable def zEs:=by have h:=@L2.zEs;rw [ePE] at h;exact @h
end L2.W
namespace L2
open PySem PySem.Spec PyProof.Rows
noncomputable def catA (its:Nat→Array Value):Nat→Array Value
 | 0=>#[]
 | i + 1=>catA its i++its i
section
variable {prog:Program}{w:World}{A:Around}{R:Result→Shared→Prop}{I:Addr}{fp wr:List Addr}{G:Array GenState→Array GenState→Prop}{n:Nat}{P:Nat→Value→Prop}{St:Nat→Shared→Prop}
noncomputable abbrev lstO (its:Array Value) (c:Nat):Obj:={ cls:=.type "list",dict:=none,data:=.seq its c,slots:=#[] }
theorem sum_loopL (W:WalksS prog w A.in1 I fp wr G n P St) (s0:Shared) (its:Nat→Array Value) (S:Addr) (hSf:S∉fp) (hsz:∀ i,(catA its i).size≤sizeLine)
  (hval:∀ i v,P i v→∃ b c,v=.ref b∧s0.heap.get? b=some (lstO (its i) c)∧b∉wr∧b≠S) :
  ∀ (k i:Nat) (s:Shared) (acc:Addr) (c ca:Nat),n - i=k→i≤n→St i s→s.heap.get? S=some (lstO #[.ref acc] c)→s.heap.get? acc=some (lstO (catA its i) ca)→acc∉wr→acc≠S →
  (∀ b o,b∉wr→b≠S→s0.heap.get? b=some o→s.heap.get? b=some o)→(∀ b∈wr,b < S) →
  (∀ s' acc' c',Moved (S :: wr) G s s'→s'.heap.get? acc'=some (lstO (catA its n) c')→(i=n∧acc'=acc)∨(i < n∧S < acc')→R (.ok (.ret (.ref acc'))) s')→codeAny (model prog w) A (.builtin "sum.loop" ⟨[.ref I,.ref S,rawInt 2,rawInt 0],[]⟩) R s:=by
 have hSw:S∉wr:=fun h=>hSf (W.sub _ h);have hsub:∀ b∈wr,b∈S :: wr:=fun b hb=>Z6 _ hb;intro k
 induction k with
 | zero =>
  intro i s acc c ca hk hi hst hS hacc hw1 hw2 hkp hwS hR;have hin:i=n:=by omega
  subst hin;refine codeAny_builtin F.entry_sum_loop ?_;rw [Around.under_plainId F.plain_sum_loop _];show wpAny _ A.in1 (seqItems? (.ref S) >>= _) _ _ s;refine wpAny_bind (wpAny_seqItems hS rfl ?_);show wpAny _ A.in1 (tryCatch (pyNext (.ref I)) _ >>= _) _ _ s;refine wpAny_bind (wpAny_tryCatch (W.done s _ _ hst fun s' hm=>?_));exact wpAny_pure (hR s' acc ca (hm.mono hsub) (hm.heap _ _ hw1 hacc) (.inl ⟨rfl,rfl⟩))
 | succ k ih =>
  intro i s acc c ca hk hi hst hS hacc hw1 hw2 hkp hwS hR;have hlt:i < n:=by omega
  refine codeAny_builtin F.entry_sum_loop ?_;rw [Around.under_plainId F.plain_sum_loop _];show wpAny _ A.in1 (seqItems? (.ref S) >>= _) _ _ s;refine wpAny_bind (wpAny_seqItems hS rfl ?_);show wpAny _ A.in1 (tryCatch (pyNext (.ref I)) _ >>= _) _ _ s;refine wpAny_bind (wpAny_tryCatch (W.item i s _ _ hlt hst fun v s' hP hst' hm=>?_));obtain ⟨b,cb,rfl,hb0,hbw,hbS⟩:=hval i v hP;have hS':=hm.heap S _ hSw hS;have hb:=hm.heap _ _ hbw (hkp _ _ hbw hbS hb0);have hacc':=hm.heap _ _ hw1 hacc;show wpAny _ A.in1 ((holding [Value.ref b] (binaryOp .Add (.ref acc) (.ref b))).attempt >>= _) _ _ _;have e1:(catA its i).size + (its i).size≤sizeLine:=by
   have:=hsz (i + 1);unfold catA at this;rw [Array.size_append] at this;exact this
  refine wpAny_bind (wpAny_attempt (wpAny_holding (PySem.P.add_list hacc' hb ?_ e1)));have hpush:∀ {a o},s'.heap.get? a=some o→(s'.heap.push { cls:=.type "list",data:=.seq (catA its i++its i) }).get? a=some o:=fun e=>Z2 _ e;have hnew:(s'.heap.push { cls:=.type "list",data:=.seq (catA its i++its i) }).get? s'.heap.objs.size=some (lstO (catA its (i + 1)) 0):=Ze _ rfl;have hSs:S < s'.heap.objs.size:=Z9 hS';have hS1:=hpush hS';generalize s'.heap.push { cls:=.type "list",data:=.seq (catA its i++its i) }=h1 at hpush hnew hS1 ⊢;show wpAny _ A.in1 (updateSeq S (fun _=>#[.ref s'.heap.objs.size]) >>= _) _ _ _;refine wpAny_bind (wpAny_updateSeq hS1 rfl ?_);have hS₂:=Heap.get?_update_self (Obj.mapSeq fun _=>#[Value.ref s'.heap.objs.size]) hS1 rfl;refine wpAny_bind (wpAny_letGo ?_);have oth:∀ {a:Addr}{o:Obj},a≠S→h1.get? a=some o→((h1.update S (Obj.mapSeq fun _=>#[Value.ref s'.heap.objs.size])).update S (Obj.mapSeq fun _=>#[Value.ref s'.heap.objs.size])).get? a=some o:=fun {a o} ne e =>
   (Yr _ _ (fun h:S=a=>ne h.symm)).trans ((Yr _ _ (fun h:S=a=>ne h.symm)).trans e)
  refine wpAny_bind (wpAny_updateSeq hS₂ rfl (wpAny_pure ⟨plainId_quiet F.plain_sum_loop _,ih (i + 1) _ s'.heap.objs.size _ 0 (by omega) hlt (W.frame _ s' _ _ hst' (by first | exact Z5 _ | exact Yq _ | omega) fun b hb o e=>?_) (Heap.get?_update_self _ hS₂ rfl) (oth (Xd hSs) hnew) (fun h=>absurd (hwS _ h) (Nat.not_lt.mpr (Zm hSs))) (Xd hSs) (fun b o h1 h2 e=>oth h2 (hpush (hm.heap _ _ h1 (hkp _ _ h1 h2 e)))) hwS fun s'' acc'' c'' hm'' ha'' hc''=>?_⟩))
  ·exact oth (fun h:b=S=>hSf (by rw [← h];exact hb)) (hpush e)
  ·refine hR s'' acc'' c'' (Moved.trans W.gtrans ((hm.mono hsub).then_heap (by first | exact Z5 _ | exact Yq _ | omega) fun b o hb e=>?_) hm'') ha'' (.inr ⟨hlt,?_⟩)
   ·exact oth (fun h=>hb (by rw [h];exact Zb)) (hpush e)
   ·rcases hc'' with ⟨_,e⟩ | ⟨_,e⟩
    ·rw [e];exact hSs
    ·exact e
end
theorem args_sum2 (a b:Value):argsOk "sum" ⟨[a,b],[]⟩:=by unfold argsOk;kernel_rfl
theorem sub_list_str:isSubtype (.type "list") (.type "str")=pure false:=by rw [isSubtype_type];kernel_rfl
theorem zFa:isSubtype (.type "list") (.type "bytes")=pure false:=by rw [isSubtype_type];kernel_rfl
theorem zD9:isSubtype (.type "list") (.type "bytearray")=pure false:=by rw [isSubtype_type];kernel_rfl
section
variable {prog:Program}{w:World}{A:Around}{E:Value→Shared→Prop}{s:Shared}
theorem sum_walkL {x:Value}{st:Addr}{c0:Nat}{Q:Value→Shared→Prop}
  (h:wpAny (model prog w) A.in1 (pyIter x) (fun it s₂=>∃ I fp wr G n P St its,it=.ref I∧WalksS prog w A.in1 I fp wr G n P St∧St 0 s₂∧(∀ b∈fp,b < s₂.heap.objs.size)∧s₂.heap.get? st=some (lstO #[] c0)∧st∉wr ∧
   (∀ i,(catA its i).size≤sizeLine)∧(∀ i v,P i v→∃ b c,v=.ref b∧s₂.heap.get? b=some (lstO (its i) c)∧b∉wr) ∧
   ∀ s' acc c,Moved wr G s₂ s'→s'.heap.get? acc=some (lstO (catA its n) c)→(0=n∧acc=st)∨(0 < n∧s₂.heap.objs.size < acc)→Q (.ref acc) s') E s) :
  wpAny (model prog w) A (call (.builtin "sum") [x,.ref st]) Q E s:=by
 refine call_function_tree F.kind_sum F.plain_sum F.entry_sum (args_sum2 _ _) ?_;unfold Builtin.«sum»;simp only [Zj,Xh];rw [if_neg (by decide)];refine wpAny_bind (wpAny_of_eq (show Builtin.Builtins.bindParams "sum" ["start"] 0 ⟨[.ref st],[]⟩=pure [some (.ref st)] from rfl) ?_);refine wpAny_bind (wpAny_mono h (fun it s₂ h₂=>?_) fun _ _ e=>e);obtain ⟨I,fp,wr,G,n,P,St,its,rfl,W,hst,hfp,hs0,hsw,hsz,hval,hQ⟩:=h₂;refine wpAny_bind (wpAny_pure ?_);have ty:s₂.TypeIs (.ref st) "list":=⟨_,hs0,rfl⟩;simp only [List.forIn_cons,List.forIn_nil];refine wpAny_bind (wpAny_bind (wpAny_bind (wpAny_isInstance (T:="list") (b:=false) ty sub_list_str ?_)));simp only [Xi,if_false];refine wpAny_pure (wpAny_bind (wpAny_bind (wpAny_isInstance (T:="list") (b:=false) ty zFa ?_)));simp only [Xi,if_false];refine wpAny_pure (wpAny_bind (wpAny_bind (wpAny_isInstance (T:="list") (b:=false) ty zD9 ?_)));simp only [Xi,if_false];refine wpAny_pure (wpAny_pure ?_);refine wpAny_bind (wpAny_newObj_type ?_);have hSf:s₂.heap.objs.size∉fp:=fun hm=>Y0 _ (hfp _ hm);have stS:st≠s₂.heap.objs.size:=Zg (Z9 hs0)
 refine wpAny_pure ⟨plainId_quiet F.plain_sum_loop _,sum_loopL W s₂ its s₂.heap.objs.size hSf hsz (fun i v hp=>?_) n 0 _ st 0 c0 rfl (Zo _)
  (W.frame 0 s₂ _ _ hst (by first | exact Z5 _ | exact Yq _ | omega) fun b _ o e=>Z2 _ e) (Ze _ rfl) (Z2 _ hs0) hsw stS (fun b o _ _ e=>Z2 _ e) (fun b hb=>hfp _ (W.sub _ hb)) fun s' acc c hm ha hc=>?_⟩
 ·obtain ⟨b,c,e1,e2,e3⟩:=hval i v hp;exact ⟨b,c,e1,e2,e3,Zg (Z9 e2)⟩
 ·exact hQ s' acc c (hm.drop_new (by first | exact Z5 _ | exact Yq _ | omega)) ha hc
end
section
variable {X:Cx}
noncomputable def catL (f:Nat→List Value):Nat→List Value
 | 0=>[]
 | i + 1=>catL f i++f i
theorem catA_L (f:Nat→List Value):∀ n,catA (fun i=>(f i).toArray) n=(catL f n).toArray
 | 0=>rfl
 | n + 1=>by
  show catA (fun i=>(f i).toArray) n++(f n).toArray=(catL f n++f n).toArray;rw [catA_L f n];simp
theorem zFc {K:PySem.W.Frag} (hK:X.K=K):CallR X (.builtin "sum") (fun vs H Q=>∃ (l st:Addr) (zs:List (Addr×List V)),vs=[.ref l,.ref st]∧SqL K H l (zs.map fun z=>V.ref z.1)∧H st=some (.lst [])∧(∀ z∈zs,H z.1=some (.lst z.2))∧(zs.map (·.2)).flatten.length≤sizeLine∧X.calm=true ∧
  ∀ p H',((zs=[]∧p=st∧H'=H)∨(H p=none∧H'=upd H p (.lst (zs.map (·.2)).flatten)))→Q (.ref p) H'):=by
 subst hK;intro pins s σ H vs us Q I rv h;obtain ⟨l,st,zs,rfl,hl,hst,hz,hlen,hc,q⟩:=h;obtain ⟨u,u2,rfl,ru,ru2⟩:=v2 rv;cases (show u=Value.ref l from ru);cases (show u2=Value.ref st from ru2);obtain ⟨its,r,pl,_⟩:=I.list hl;have ln:=r.length;rw [Z0] at ln;obtain ⟨_,ist,cst,rst,_,est⟩:=I.lstM hst;cases rst;have pick:∀ i:Nat,∃ t:List Value,(∀ z,zs[i]? = some z→∃ c,Vals z.2 t∧s.heap.get? z.1=some (lstO t.toArray c))∧(zs[i]? = none→t=[]):=fun i=>by
  cases e:zs[i]? with
  | none=>exact ⟨[],(fun z h=>nomatch h),fun _=>rfl⟩
  | some z =>
   obtain ⟨_,t,c,rt,_,et⟩:=I.lstM (hz z (Z3 e));exact ⟨t,fun z' h=>by cases h;exact ⟨c,rt,et⟩,fun h=>nomatch h⟩
 obtain ⟨f,hf⟩:=Classical.skolem.mp pick;have vals:∀ i,Vals ((zs.take i).map (·.2)).flatten (catL f i):=fun i=>by
  induction i with
  | zero=>exact .nil
  | succ i ih =>
   rw [Zd,Za,List.flatten_append];refine Vals.append ih ?_;cases e:zs[i]? with
   | none=>rw [(hf i).2 e];exact .nil
   | some z =>
    obtain ⟨c,rt,_⟩:=(hf i).1 z e;show Vals (z.2++[]) (f i);rw [List.append_nil];exact rt
 have lens:∀ i,(catA (fun i=>(f i).toArray) i).size≤sizeLine:=fun i=>by
  rw [catA_L,Zc,← (vals i).length];have e:(zs.map (·.2)).flatten.length=((zs.take i).map (·.2)).flatten.length + ((zs.drop i).map (·.2)).flatten.length:=by rw [← Z7,← List.flatten_append,← Za,List.take_append_drop]
  omega
 refine sum_walkL (c0:=cst) (wpAny_pyIter_list pl.isList ?_);have hlI:l≠s.heap.objs.size:=by
  obtain ⟨o,e,_⟩:=pl.isList;exact Zg (Z9 e)
 have nI:∀ {b:Addr}{o:Obj},s.heap.get? b=some o→b∉[s.heap.objs.size]:=fun {b o} e hb=>absurd (Z9 e) (by rw [List.mem_singleton.mp hb];exact Y0 _);refine ⟨s.heap.objs.size,_,_,_,_,_,_,fun i=>(f i).toArray,rfl,(Walks.list (A:=X.A.in1) (I.ok.hd hc) s.heap.objs.size l hlI its.toArray).toS,⟨⟨_,Ze _ rfl,rfl,rfl⟩,?_⟩,fun b hb=>?_,Z2 _ est,nI est,lens,fun i v hp=>?_,fun s' acc c hm ha hcs=>?_⟩
 ·obtain ⟨o,e,r⟩:=pl.isList;exact ⟨o,Z2 _ e,r⟩
 ·show b < (s.heap.push _).objs.size;rw [Y9];rcases List.mem_cons.mp hb with e | hb
  ·rw [e];exact Yb _
  ·obtain ⟨o,e,_⟩:=pl.isList;rw [List.mem_singleton.mp hb];exact Ye (Z9 e)
 ·have hv:its[i]? = some v:=by simpa using hp
  have hi:i < its.length:=(List.getElem?_eq_some_iff.mp hv).1;obtain ⟨z,ez⟩:∃ z,zs[i]? = some z:=⟨_,Z1 (by omega)⟩;obtain ⟨w',hw,rw'⟩:=r.get (i:=i) (x:=.ref z.1) (by rw [Z4,ez];rfl);rw [hv] at hw;cases hw;obtain ⟨c,_,et⟩:=(hf i).1 z ez;exact ⟨z.1,c,rw',Z2 _ et,nI et⟩
 ·have kk:∀ b u,s.heap.get? b=some u→s'.heap.get? b=some u:=fun b o e=>hm.heap b o (nI e) (Z2 _ e);obtain ⟨h',g',d',tk',os'⟩:=s';have e1:g'=s.gens:=hm.gens;have e2:d'=s.drawn:=hm.drawn;have e3:os'=s.os:=hm.os;subst e1 e2 e3;have sz:its.toArray.size=zs.length:=by simp;omega
  rcases hcs with ⟨h0,rfl⟩ | ⟨_,hgt⟩
  ·have:zs=[]:=List.length_eq_zero_iff.mp (by omega);exact ⟨.ref acc,H,I.kept (t':=tk') kk,rfl,q _ _ (.inl ⟨this,rfl,rfl⟩)⟩
  ·have hle:s.heap.objs.size≤acc:=by
    have:(s.heap.push _).objs.size < acc:=hgt;rw [Y9] at this;exact Zm (Nat.lt_of_succ_lt this)
   refine ⟨.ref acc,_,I.laid (t':=tk') (o:=.lst (zs.map (·.2)).flatten) kk hle ⟨hlen,catL f its.toArray.size,c,?_,?_⟩,rfl,q acc _ (.inr ⟨I.hok.fresh hle,rfl⟩)⟩
   ·have:=vals its.toArray.size;rw [sz,Zh] at this;rw [sz];exact this
   ·rw [← catA_L];exact ha
end
end L2
namespace My
open PySem L2
noncomputable def top (i:Nat):Stmt:=PySem.Challenge.pw_cometorest_k12_what_makes_no_wishes.main.body.getD i (.Pass ⟨0,0,0,0⟩)
noncomputable abbrev sIsName:Stmt:=top 11
noncomputable abbrev sIsWhole:Stmt:=top 12
noncomputable abbrev sUnlike:Stmt:=top 13
noncomputable abbrev sPair:Stmt:=top 14
noncomputable abbrev sFields:Stmt:=top 15
noncomputable abbrev sCount:Stmt:=top 16
noncomputable abbrev sInit:Stmt:=inClass (top 17) 0
noncomputable abbrev sPlaceOf:Stmt:=top 18
noncomputable abbrev sHasVal:Stmt:=top 19
noncomputable abbrev sAreKinds:Stmt:=top 20
noncomputable abbrev sPlaced:Stmt:=top 21
noncomputable abbrev sInitKs:Stmt:=inClass (top 22) 0
noncomputable abbrev sOrder:Stmt:=inClass (top 22) 1
noncomputable abbrev sOf:Stmt:=inClass (top 22) 2
noncomputable abbrev sOwned:Stmt:=inClass (top 22) 3
noncomputable abbrev sWritten:Stmt:=top 27
noncomputable abbrev sHasForm:Stmt:=top 28
noncomputable abbrev sPartsOf:Stmt:=top 29
noncomputable abbrev sNameOf:Stmt:=top 30
noncomputable abbrev sPairOf:Stmt:=top 34
noncomputable abbrev sPairsOf:Stmt:=top 35
noncomputable abbrev sIsRow:Stmt:=top 36
noncomputable abbrev sAreRows:Stmt:=top 37
noncomputable abbrev sEach:Stmt:=top 38
noncomputable abbrev sCountW:Stmt:=top 39
noncomputable abbrev sWEach:Stmt:=top 40
noncomputable abbrev sWBy:Stmt:=top 41
noncomputable abbrev sInitW:Stmt:=inClass (top 42) 0
noncomputable abbrev sWished:Stmt:=inClass (top 42) 1
noncomputable abbrev sWNames:Stmt:=inClass (top 42) 2
noncomputable abbrev sMixed:Stmt:=top 45
noncomputable abbrev sDigits:Stmt:=top 46
noncomputable abbrev sNext:Stmt:=top 47
noncomputable abbrev sSign:Stmt:=top 48
noncomputable abbrev sNames:Stmt:=top 49
noncomputable abbrev sLFields:Stmt:=top 50
noncomputable abbrev sSpecs:Stmt:=top 51
noncomputable abbrev sTurned:Stmt:=top 52
noncomputable abbrev sMade:Stmt:=top 53
noncomputable abbrev sCares:Stmt:=top 54
noncomputable abbrev sRows:Stmt:=top 55
noncomputable abbrev sMany:Stmt:=top 57
noncomputable abbrev sFew:Stmt:=top 58
noncomputable abbrev sRefused:Stmt:=top 59
noncomputable abbrev sOddCares:Stmt:=top 60
noncomputable abbrev sOddRow:Stmt:=top 61
noncomputable abbrev sLaw:Stmt:=top 62
noncomputable def letters:Str:="abcdefghijklmnopqrstuvwxyz"
structure Tops (K:PySem.W.Frag) (mg:Str→Option Value):Prop where
 isinst:mg "isinstance" = none
 len:mg "len" = none
 all:mg "all" = none
 set:mg "set" = none
 range:mg "range" = none
 str:mg "str" = none
 list:mg "list" = none
 tuple:mg "tuple" = none
 zip:mg "zip" = none
 dict:mg "dict" = none
 min:mg "min" = none
 sorted:mg "sorted" = none
 enum:mg "enumerate" = none
 int:mg "int" = none
 bool:mg "bool" = none
 sum:mg "sum" = none
 lets:∃ t,mg "LETTERS" = some (.str letters t)
 most:∃ t,mg "MOST_LETTERS" = some (.int 8 t)
 mostS:∃ t,mg "MOST_STATES" = some (.int 8 t)
 figs:∃ t,mg "FIGURES" = some (.str "0123456789" t)
 mostF:∃ t,mg "MOST_FIGURES" = some (.int 6 t)
 mostN:∃ t,mg "MOST_NUMBER" = some (.int 999999 t)
 mostM:∃ t,mg "MOST_MANY" = some (.int 60 t)
 mostW:∃ t,mg "MOST_WISHED" = some (.int 60 t)
noncomputable def charB (c:Nat):Bool:=decide (c∈letters.cps.toList)
noncomputable def nameB (x:Str):Bool:=decide (1≤x.length) && decide (x.length≤8) && x.cps.toList.all charB
noncomputable def spIsName (K:PySem.W.Frag):Sp:=fun vs H Q _=>(∃ x,vs=[.str x]∧x.length≤1000∧∀ H',Same H H'→Q (.bl (nameB x)) H') ∨
 ∃ v t,vs=[v]∧TyOf K H v t∧PySem.W.kitOne K t (.type "str")=some false∧Q (.bl false) H
section
variable {P:Program}{w:World}{K:PySem.W.Frag}{mg:Str→Option Value}{base:Heap}{CX:CXT}
theorem scIN:FnScope ["thing"] ["thing"] (defScope sIsName):=⟨rfl,rfl,rfl,by decide +kernel,rfl,by decide +kernel,by decide +kernel⟩
theorem ok_isName {f:Addr}{fd:FuncData} (F:Fun K "is_name" "is_name" sIsName f fd) (T:Tops K mg):FnOk P w K mg base CX 1 f fd ["thing"] (spIsName K):=by
 refine F.okC scIN (fun vs H Q E h=>?_) (fun cdv A outer s H vs Q E hr h=>?_)
 ·rcases h with ⟨x,rfl,_⟩ | ⟨v,t,rfl,_⟩ <;> rfl
 ·obtain ⟨tl,hlets⟩:=T.lets;obtain ⟨tm,hmost⟩:=T.most
  refine ⟨_,zA3 (zAx (zAw (zAy (zA9 zAn rfl T.isinst PyProof.Rows.boot_isinstance (zA0 (pv 0) (zA0 (zB9 (v:=.ty "str") rfl T.str PyProof.Rows.boot_str rfl) zA2))))) (zA6 (zAc zBo)) zAd)
   (zA6 (zAc (zBs (zG7 op_le op_le zA4 (zA9 zCn rfl T.len PySem.boot_len (zA0 (pv 0) zA2)) (zB7 (v:=.int 8) rfl hmost ⟨_,rfl⟩))
    (zCe (zA9 (zBi rfl) rfl T.all PyProof.Rows.boot_all (zA0 (zAr (T:=["sign"]) rfl ScOk.auto (pi_str (pv 0)) (fun _ _ _ _=>zAa (i:=1) (by decide +kernel:(["thing", "sign"]:List Str).Nodup) rfl (Or.inl rfl)) (fun _ _ _ _=>zB2)
     (fun _ _ _ _=>zC7 op_in_str (pv 1) (zB7 (v:=.str letters) rfl hlets ⟨_,rfl⟩) rfl)) zA2)))))),?_⟩
  rcases h with ⟨x,rfl,hx,k⟩ | ⟨v,t,rfl,ty,hk,k⟩
  ·refine ⟨_,rfl,_,_,_,_,_,rfl,.str x,rfl,rfl,_,rfl,iteF ?_⟩;have hz:x.length≤sizeLine:=Zm (small1000 hx);refine ⟨_,rfl,x,rfl,hz,_,_,rfl,rfl,_,rfl,?_⟩;refine ite2 (fun h1=>?_) (fun h1=>?_)
   ·refine ⟨_,_,rfl,rfl,_,rfl,?_⟩;refine ite2 (fun h2=>?_) (fun h2=>?_)
    ·refine ⟨_,rfl,x,rfl,zE1 (fun _=>true) (fun c=>.bl (charB c)) hz (fun c Ry Rn q _=>?_) (fun d hd=>?_)⟩
     ·refine iteT (B:=Rn H) ⟨_,rfl,_,_,rfl,rfl,?_⟩;rw [PySem.StrLaws.found_one];exact q rfl
     ·refine ⟨d,x.cps.toList.map charB,rfl,SqL.of ?_,?_⟩
      ·rw [zA1,List.filter_eq_self.mpr (fun _ _=>rfl),Zn];rfl
      ·have e:nameB x=(x.cps.toList.map charB).all id:=by
        have a1:1≤x.length:=by have:=of_decide_eq_true h1;omega
        have a2:x.length≤8:=by have:=of_decide_eq_true h2;omega
        unfold nameB;rw [decide_eq_true a1,decide_eq_true a2,Yt];rfl
       rw [← e];exact k _ (Same.new hd)
    ·have a2:¬ x.length≤8:=fun z=>h2 (decide_eq_true (by omega));have e:nameB x=false:=by unfold nameB;rw [decide_eq_false a2];simp
     rw [← e];exact k _ (Same.refl _)
   ·have a1:¬ 1≤x.length:=fun z=>h1 (decide_eq_true (by omega));have e:nameB x=false:=by unfold nameB;rw [decide_eq_false a1];simp
    refine ⟨false,rfl,iteF ?_⟩;rw [← e];exact k _ (Same.refl _)
  ·exact ⟨_,rfl,_,_,_,_,_,rfl,ty,rfl,hk,_,rfl,iteT k⟩
end
noncomputable def spIsWhole (K:PySem.W.Frag):Sp:=fun vs H Q _=>∃ v t b c,vs=[v]∧TyOf K H v t∧PySem.W.kitOne K t (.type "int")=some b∧PySem.W.kitOne K t (.type "bool")=some c∧Q (.bl (b && !c)) H
section
variable {P:Program}{w:World}{K:PySem.W.Frag}{mg:Str→Option Value}{base:Heap}{CX:CXT}
theorem scIW:FnScope ["thing"] ["thing"] (defScope sIsWhole):=⟨rfl,rfl,rfl,by decide +kernel,rfl,by decide +kernel,by decide +kernel⟩
theorem zFj {f:Addr}{fd:FuncData} (F:Fun K "is_whole" "is_whole" sIsWhole f fd) (T:Tops K mg):FnOk P w K mg base CX 1 f fd ["thing"] (spIsWhole K):=by
 refine F.okC scIW (fun vs H Q E h=>?_) (fun cdv A outer s H vs Q E hr h=>?_)
 ·obtain ⟨v,t,b,c,rfl,_⟩:=h;rfl
 ·obtain ⟨v,t,b,c,rfl,ty,hb,hc,k⟩:=h
  refine ⟨_,zA6 (zAc (zBs (zA9 zAn rfl T.isinst PyProof.Rows.boot_isinstance (zA0 (pv 0) (zA0 (zB9 (v:=.ty "int") rfl T.int PyProof.Rows.boot_int rfl) zA2)))
   (zCe (pe_not (zA9 zAn rfl T.isinst PyProof.Rows.boot_isinstance (zA0 (pv 0) (zA0 (zB9 (v:=.ty "bool") rfl T.bool PyProof.Rows.boot_bool rfl) zA2))))))),?_⟩
  refine ⟨_,rfl,_,_,_,_,_,rfl,ty,rfl,hb,_,rfl,?_⟩;cases b with
  | true=>exact iteT ⟨_,rfl,_,_,_,_,_,rfl,ty,rfl,hc,_,rfl,k⟩
  | false=>exact iteF k
end
noncomputable def spMixed:Sp:=fun vs H Q _=>∃ c k:Int,vs=[.int c,.int k]∧0≤k∧k≤1000000∧∀ n:Int,0≤n→n < 2147483629→Q (.int n) H
noncomputable def Src (H:Hp) (p:Addr) (k:Int):Prop:=∃ a c j:Int,H p=some (.lst [.int a,.int c,.int j])∧0≤j∧j≤k
noncomputable def spDigits:Sp:=fun vs H Q _=>∃ c:Int,vs=[.int c]∧∀ p H',H p=none→Src H' p 0→Same H H'→(∀ b,b≠p→H' b=H b)→Q (.ref p) H'
noncomputable def spNext:Sp:=fun vs H Q _=>∃ (p:Addr) (m k:Int),vs=[.ref p,.int m]∧Src H p k∧k≤999998∧0 < m∧m < 2 ^ 64 ∧
 ∀ (r:Int) (H':Hp),0≤r→r < m→Src H' p (k + 1)→(∀ b,b≠p→H' b=H b)→Q (.int r) H'
section
variable {P:Program}{w:World}{K:PySem.W.Frag}{mg:Str→Option Value}{base:Heap}{CX:CXT}
theorem scMx:FnScope ["_law_cell", "_law_k", "_law_number"] ["_law_cell", "_law_k"] (defScope sMixed):=⟨rfl,rfl,rfl,by decide +kernel,rfl,by decide +kernel,by decide +kernel⟩
theorem ok_mixed {f:Addr}{fd:FuncData} (F:Fun K "_law_mixed" "_law_mixed" sMixed f fd):FnOk P w K mg base CX 1 f fd ["_law_cell", "_law_k"] spMixed:=by
 refine F.okC scMx (fun vs H Q E h=>?_) (fun cdv A outer s H vs Q E hr h=>?_)
 ·obtain ⟨c,k,rfl,_⟩:=h;rfl
 ·obtain ⟨c,k,rfl,h0,h1,q⟩:=h
  refine ⟨_,zA3 (zAb (i:=2) scMx.nd rfl (Or.inl rfl) (zAp zCh (zAp zCw (zAp zBu (zAp zBu (zAp zCh (pv 0) zA4) (zAp zCw zA4 (pv 1))) zA4) zA4) zA4))
   (zA3 (zAb (i:=2) scMx.nd rfl (Or.inl rfl) (zAp zCh (zAp zCw (pv 2) (zAp zBu (zAp zGe (pv 2) zA4) zA4)) zA4))
   (zA3 (zAb (i:=2) scMx.nd rfl (Or.inl rfl) (zAp zCh (zAp zCw (pv 2) (zAp zBu (zAp zBu (zAp zGe (pv 2) zA4) zA4) (pv 1))) zA4))
   (zA6 (zAc (zAp zCh (zAp zCw (pv 2) (zAp zBu (zAp zGe (pv 2) zA4) zA4)) zA4))))),?_⟩
  have M:(0:Int) < 2147483629:=by decide
  have lo:∀ z:Int,0≤z % 2147483629:=fun z=>Int.emod_nonneg _ (by decide);have hi:∀ z:Int,z % 2147483629 < 2147483629:=fun z=>Xk _ M;have cm:∀ z y:Int,CMul (z % 2147483629) y:=fun z y=>by have:=lo z;have:=hi z;exact .inl ⟨by omega,by omega⟩
  refine ⟨_,rfl,_,_,rfl,rfl,M,_,rfl,_,_,rfl,rfl,.inl ⟨by decide,by decide⟩,_,_,rfl,rfl,_,_,rfl,rfl,_,_,rfl,rfl,.inr ⟨by decide,by decide⟩,_,_,rfl,rfl,M,?_⟩;refine ⟨_,rfl,_,rfl,_,_,rfl,rfl,⟨by decide,by decide⟩,_,_,rfl,rfl,_,_,rfl,rfl,cm _ _,_,_,rfl,rfl,M,?_⟩;refine ⟨_,rfl,_,rfl,_,_,rfl,rfl,⟨by decide,by decide⟩,_,_,rfl,rfl,_,rfl,_,_,rfl,rfl,_,_,rfl,rfl,cm _ _,_,_,rfl,rfl,M,?_⟩;refine ⟨_,rfl,_,rfl,_,_,rfl,rfl,⟨by decide,by decide⟩,_,_,rfl,rfl,_,_,rfl,rfl,cm _ _,_,_,rfl,rfl,M,?_⟩;exact q _ (lo _) (hi _)
theorem scDg:FnScope ["_law_cell"] ["_law_cell"] (defScope sDigits):=⟨rfl,rfl,rfl,by decide +kernel,rfl,by decide +kernel,by decide +kernel⟩
theorem ok_digits {f:Addr}{fd:FuncData} (F:Fun K "_law_digits" "_law_digits" sDigits f fd):FnOk P w K mg base CX 1 f fd ["_law_cell"] spDigits:=by
 refine F.okC scDg (fun vs H Q E h=>?_) (fun cdv A outer s H vs Q E hr h=>?_)
 ·obtain ⟨c,rfl,_⟩:=h;rfl
 ·obtain ⟨c,rfl,q⟩:=h;refine ⟨_,zA6 (zAc (zAg (zA0 (zAp zCw (zAp zGe (pv 0) zA4) (zAp op_sub zA4 (zAp zCh (pv 0) zA4))) (zA0 (pv 0) (zA0 zA4 zA2))))),?_⟩;have a1:0≤c % 2:=Int.emod_nonneg _ (by decide);have a2:c % 2 < 2:=Xk _ (by decide);refine ⟨_,rfl,_,_,rfl,rfl,⟨by decide,by decide⟩,_,rfl,_,_,rfl,rfl,(by show (0:Int) < 2;decide),_,_,rfl,rfl,_,_,rfl,rfl,.inr ⟨by omega,by omega⟩,_,rfl,(by show 3≤sizeLine;decide),fun p hp=>?_⟩;exact q p _ hp ⟨_,_,0,zA1,by decide,by decide⟩ (Same.new hp) fun b hb=>zA8 hb
theorem scNx:FnScope ["_law_source", "_law_many_here", "_law_got"] ["_law_source", "_law_many_here"] (defScope sNext):=⟨rfl,rfl,rfl,by decide +kernel,rfl,by decide +kernel,by decide +kernel⟩
theorem zBy {f fm:Addr}{fd fdm:FuncData} (hC:Calm CX) (F:Fun K "_law_next" "_law_next" sNext f fd) (DM:Def K mg "_law_mixed" sMixed ["_law_cell", "_law_k"] fm fdm):FnOk P w K mg base CX 2 f fd ["_law_source", "_law_many_here"] spNext:=by
 have GM:FnOk P w K mg base CX 1 fm fdm ["_law_cell", "_law_k"] spMixed:=ok_mixed DM.fn;refine F.okC scNx (fun vs H Q E h=>?_) (fun cdv A outer s H vs Q E hr h=>?_)
 ·obtain ⟨p,m,k,rfl,_⟩:=h;rfl
 ·obtain ⟨p,m,k,rfl,⟨a,c,j,hp,j0,j1⟩,hk,m0,m1,q⟩:=h
  refine ⟨_,zA3 (zAx (zAj zGd (zAi zAk (pv 0) zA4 (fun _ _=>rfl)) zA4 (nomark _))
    (zA3 (zAb (i:=2) scNx.nd rfl (Or.inl rfl) (zAp zCh (zAi zAk (pv 0) zA4 (fun _ _=>rfl)) (pv 1)))
    (zA3 (zEm (zAp op_fdivB (zAi zAk (pv 0) zA4 (fun _ _=>rfl)) (pv 1)) (pg_sub (pv 0) zA4 set_list))
    (zA6 (zAc (pv 2))))) zAd)
   (zA3 (zEm (zAp zBu (zAi zAk (pv 0) zA4 (fun _ _=>rfl)) zA4) (pg_sub (pv 0) zA4 set_list))
   (zA6 (zAc (zAp zCh (zA7 GM hr rfl DM.at_ DM.fn.kp DM.bind .nil (passC hC) (zA0 (zAi zAk (pv 0) zA4 (fun _ _=>rfl)) (zA0 (zAi zAk (pv 0) zA4 (fun _ _=>rfl)) zA2))) (pv 1))))),?_⟩
  have S0:SqL K H p [.int a,.int c,.int j]:=SqL.of hp;refine ⟨_,rfl,p,_,_,_,rfl,rfl,S0,rfl,_,_,rfl,rfl,_,rfl,?_⟩;refine ite2 (fun h0=>?_) (fun h0=>?_)
  ·refine ⟨_,rfl,p,_,_,_,rfl,rfl,S0,rfl,_,rfl,_,_,rfl,rfl,m0,?_⟩;refine ⟨_,rfl,p,_,_,_,rfl,rfl,S0,rfl,_,rfl,_,_,rfl,rfl,⟨m0,m1⟩,?_⟩;refine ⟨_,rfl,p,_,_,0,rfl,rfl,hp,rfl,?_⟩;refine ⟨_,rfl,q _ _ (Int.emod_nonneg _ (by omega)) (Xk _ m0) ⟨_,_,j,zA1,j0,by omega⟩ fun b hb=>zA8 hb⟩
  ·refine ⟨_,rfl,p,_,_,_,rfl,rfl,S0,rfl,_,_,rfl,rfl,?_⟩;refine ⟨_,rfl,p,_,_,2,rfl,rfl,hp,rfl,?_⟩;have S1:SqL K (upd H p (.lst [.int a,.int c,.int (j + 1)])) p [.int a,.int c,.int (j + 1)]:=SqL.of zA1;refine ⟨_,rfl,p,_,_,_,rfl,rfl,S1,rfl,_,rfl,p,_,_,_,rfl,rfl,S1,rfl,c,j + 1,rfl,by omega,by omega,fun n n0 n1=>?_⟩;refine ⟨_,rfl,_,_,rfl,rfl,m0,?_⟩;exact q _ _ (Int.emod_nonneg _ (by omega)) (Xk _ m0) ⟨_,_,j + 1,zA1,by omega,by omega⟩ fun b hb=>zA8 hb
end
theorem atI_ex {α : Type} (xs:List α) {i:Int} (h0:0≤i) (h1:i < xs.length):∃ c,atI xs i=some c∧c∈xs:=by
 have lt:i.toNat < xs.length:=by omega
 refine ⟨xs[i.toNat],?_,List.getElem_mem _⟩;unfold atI ixN;rw [if_pos h0,if_pos h1];simp [lt]
theorem Src.mono {H:Hp}{p:Addr}{k l:Int} (h:Src H p k) (hl:k≤l):Src H p l:=by
 obtain ⟨a,c,j,e,j0,j1⟩:=h;exact ⟨a,c,j,e,j0,by omega⟩
noncomputable def nameD:PyData→Bool
 | .str x=>nameB x
 | _=>false
noncomputable def strsOf:List PyData→List Str
 | .str x :: r=>x :: strsOf r
 | _ :: r=>strsOf r
 | []=>[]
noncomputable def unlikeB (ds:List PyData):Bool:=ds.all nameD && decide (strsOf ds).Nodup
noncomputable def pairB:PyData→Bool
 | .tuple [_,.list vs]=>decide (0 < vs.length) && unlikeB vs
 | _=>false
noncomputable def firstD:PyData→PyData
 | .tuple (d :: _)=>d
 | _=>.none
noncomputable def fieldsB:PyData→Bool
 | .list ds=>ds.all pairB && unlikeB (ds.map firstD)
 | _=>false
noncomputable def spNameD:Sp:=fun vs H Q _=>∃ v d,vs=[v]∧Has Any H v d∧∀ H',Same H H'→Q (.bl (nameD d)) H'
noncomputable def spUnlike:Sp:=fun vs H Q _=>∃ v ds,vs=[v]∧Has Any H v (.list ds)∧∀ H',Same H H'→Q (.bl (unlikeB ds)) H'
noncomputable def spPair:Sp:=fun vs H Q _=>∃ v d,vs=[v]∧Has Any H v d∧∀ H',Same H H'→Q (.bl (pairB d)) H'
noncomputable def spFields:Sp:=fun vs H Q _=>∃ v d,vs=[v]∧Has Any H v d∧∀ H',Same H H'→Q (.bl (fieldsB d)) H'
theorem strs_all {G:Addr→Prop}{H:Hp}:∀ {xs:List V}{ds:List PyData},HasAll G H xs ds→ds.all nameD=true→xs=(strsOf ds).map V.str∧(strsOf ds).length=ds.length
 | _,_,.nil,_=>⟨rfl,rfl⟩
 | _,_,.cons h t,e=>by
  rw [Yn,Zv] at e;obtain ⟨e1,e2⟩:=e;obtain ⟨q1,q2⟩:=strs_all t e2;cases h with
  | str x _ _=>exact ⟨by rw [q1];rfl,by rw [strsOf,Zj,Zj,q2]⟩
  | non=>cases e1
  | bl b=>cases e1
  | int i=>cases e1
  | lst _ _ _ _=>cases e1
  | tup _ _ _ _=>cases e1
section
variable {P:Program}{w:World}{K:PySem.W.Frag}{mg:Str→Option Value}{base:Heap}{CX:CXT}
theorem name_imp {vs:List V}{H:Hp}{Q:VK}{E:XK} (h:spNameD vs H Q E):spIsName K vs H Q E:=by
 obtain ⟨v,d,rfl,hd,q⟩:=h;cases hd with
 | str x hx ho=>exact .inl ⟨x,rfl,hx,q⟩
 | non=>exact .inr ⟨_,_,rfl,.non,rfl,q _ (Same.refl _)⟩
 | bl b=>exact .inr ⟨_,_,rfl,.bl b,rfl,q _ (Same.refl _)⟩
 | int i=>exact .inr ⟨_,_,rfl,.int i,rfl,q _ (Same.refl _)⟩
 | lst _ e _ _=>exact .inr ⟨_,_,rfl,.lst e,rfl,q _ (Same.refl _)⟩
 | tup _ e _ _=>exact .inr ⟨_,_,rfl,.tup e,rfl,q _ (Same.refl _)⟩
theorem zCt {f:Addr}{fd:FuncData} (F:Fun K "is_name" "is_name" sIsName f fd) (T:Tops K mg):FnOk P w K mg base CX 1 f fd ["thing"] spNameD:=(ok_isName F T).imp fun _ _ _ _ h=>name_imp h
theorem scUl:FnScope ["things"] ["things"] (defScope sUnlike):=⟨rfl,rfl,rfl,by decide +kernel,rfl,by decide +kernel,by decide +kernel⟩
theorem zDh {f fn:Addr}{fd fdn:FuncData} (hC:Calm CX) (T:Tops K mg) (F:Fun K "are_unlike_names" "are_unlike_names" sUnlike f fd) (DN:Def K mg "is_name" sIsName ["thing"] fn fdn):FnOk P w K mg base CX 2 f fd ["things"] spUnlike:=by
 have GN:FnOk P w K mg base CX 1 fn fdn ["thing"] spNameD:=zCt DN.fn T;refine F.okC scUl (fun vs H Q E h=>?_) (fun cdv A outer s H vs Q E hr h=>?_)
 ·obtain ⟨v,ds,rfl,_⟩:=h;rfl
 ·obtain ⟨v,ds,rfl,hd,k⟩:=h;obtain ⟨a,xs,rfl,_,ha,hz,hx⟩:=hd.list_inv;have hzl:xs.length≤sizeLine:=Zm (small1000 hz)
  refine ⟨_,zA6 (zAc (zBs (zA9 (zBi rfl) rfl T.all PyProof.Rows.boot_all (zA0 (zAr (T:=["thing"]) rfl ScOk.auto (zAh (pv 0)) (fun _ _ _ _=>zAa (i:=1) (by decide +kernel:(["things", "thing"]:List Str).Nodup) rfl (Or.inl rfl)) (fun _ _ _ _=>zB2)
    (fun _ _ _ _=>zA7 GN hr rfl DN.at_ DN.fn.kp DN.bind .nil (passC hC) (zA0 (pv 1) zA2))) zA2))
   (zCe (zC7 zDw (zA9 zE3 rfl T.len PySem.boot_len (zA0 (zB3 (zGu rfl) rfl T.set PyProof.Rows.boot_set (zA0 (pv 0) zA2)) zA2)) (zA9 zAe rfl T.len PySem.boot_len (zA0 (pv 0) zA2)) (nomark _))))),?_⟩
  refine ⟨_,rfl,a,rfl,⟨xs,SqL.of ha⟩,zAl (xs:=xs) (fun i ys H'=>Same H H'∧ys=(ds.take i).map fun d=>V.bl (nameD d)) ⟨Same.refl _,rfl⟩ (fun i ys H' p=>SqL.of (p.1 _ _ ha)) (fun i ys H' hi p=>?_) ?_ ?_⟩
  ·rw [p.2,Z0];have:=Zt i ds;omega
  ·rintro i x ys H' hi ⟨s1,rfl⟩ N hN;obtain ⟨d,hd',hv⟩:=hx.get hi;refine pick ?_;refine ⟨_,rfl,_,d,rfl,hv.mono s1,fun H2 s2=>hN _ _ ⟨s1.trans s2,?_⟩⟩;rw [Zd,hd',Za];rfl
  ·rintro ys H' ⟨s1,rfl⟩ p hp;have e:(ds.take xs.length).map (fun d=>V.bl (nameD d))=(ds.map nameD).map V.bl:=by
    rw [hx.length,Zh,Zn];rfl
   have s2:Same H (upd H' p (.lst ((ds.take xs.length).map fun d=>V.bl (nameD d)))):=s1.trans (Same.new hp);refine ⟨p,ds.map nameD,rfl,SqL.of (by rw [zA1,e]),_,rfl,?_⟩;have ea:(ds.map nameD).all id=ds.all nameD:=by rw [Yt];rfl
   rw [ea];cases eb:ds.all nameD with
   | false =>
    refine iteF ?_;have e0:unlikeB ds=false:=by unfold unlikeB;rw [eb];rfl
    rw [← e0];exact k _ s2
   | true =>
    refine iteT ?_;obtain ⟨q1,q2⟩:=strs_all hx eb;subst q1;have ha2:=s2 _ _ ha;have hz4:(strsOf ds).length≤4000:=by rw [Z0] at hz;omega
    refine ⟨_,rfl,a,strsOf ds,rfl,SqL.of ha2,hz4,fun d hd2=>?_⟩;refine ⟨d,strsOf ds,rfl,zA1,hz4,?_⟩;refine ⟨_,rfl,a,_,rfl,.inl (SqL.of ((Same.new hd2) _ _ ha2)),rfl,?_⟩;have e1:decide (V.int ((dl (strsOf ds)).length:Int)=V.int (((strsOf ds).map V.str).length:Int))=unlikeB ds:=by
     unfold unlikeB;rw [eb,Xm,← dl_len_iff,Z0];by_cases q:(dl (strsOf ds)).length=(strsOf ds).length
     ·rw [decide_eq_true q,q];simp
     ·rw [decide_eq_false q,decide_eq_false];intro z;injection z with z;omega
    rw [e1];exact k _ (s2.trans (Same.new hd2))
end
noncomputable def sizeD:PyData→Nat
 | .tuple [_,.list vs]=>vs.length
 | _=>0
noncomputable def countD (ds:List PyData):Int:=ds.foldl (fun m d=>m * (sizeD d:Int)) 1
noncomputable def spCount:Sp:=fun vs H Q _=>∃ v ds,vs=[v]∧Has Any H v (.list ds)∧ds.all pairB=true∧Q (.int (countD ds)) H
theorem zGb {G:Addr→Prop}{H:Hp}{v:V}{d:PyData} (h:Has G H v d) (e:pairB d=true) :
  ∃ a x y n l vs ys,v=.ref a∧G a∧H a=some (.tup [x,y])∧d=.tuple [n,.list vs]∧Has G H x n∧y=.ref l∧G l∧H l=some (.lst ys)∧ys.length≤1000∧HasAll G H ys vs∧0 < vs.length∧unlikeB vs=true:=by
 cases h with
 | non=>cases e
 | bl b=>cases e
 | int i=>cases e
 | str x _ _=>cases e
 | lst _ _ _ _=>cases e
 | tup g s z q =>
  cases q with
  | nil=>cases e
  | cons h1 q =>
   cases q with
   | nil=>cases e
   | cons h2 q =>
    cases q with
    | cons _ _=>cases h2 <;> cases e
    | nil =>
     cases h2 with
     | non=>cases e
     | bl b=>cases e
     | int i=>cases e
     | str x _ _=>cases e
     | tup _ _ _ _=>cases e
     | lst g2 s2 z2 q2 =>
      have e':(decide _ && unlikeB _)=true:=e;rw [Zv] at e';exact ⟨_,_,_,_,_,_,_,rfl,g,s,rfl,h1,rfl,g2,s2,z2,q2,of_decide_eq_true e'.1,e'.2⟩
section
variable {P:Program}{w:World}{K:PySem.W.Frag}{mg:Str→Option Value}{base:Heap}{CX:CXT}
theorem scPr:FnScope ["thing", "values"] ["thing"] (defScope sPair):=⟨rfl,rfl,rfl,by decide +kernel,rfl,by decide +kernel,by decide +kernel⟩
theorem ok_pair {f fu fn:Addr}{fd fdu fdn:FuncData} (hC:Calm CX) (T:Tops K mg) (F:Fun K "is_pair_with_values" "is_pair_with_values" sPair f fd) (DN:Def K mg "is_name" sIsName ["thing"] fn fdn)
  (DU:Def K mg "are_unlike_names" sUnlike ["things"] fu fdu):FnOk P w K mg base CX 3 f fd ["thing"] spPair:=by
 have GU:FnOk P w K mg base CX 2 fu fdu ["things"] spUnlike:=zDh hC T DU.fn DN;refine F.okC scPr (fun vs H Q E h=>?_) (fun cdv A outer s H vs Q E hr h=>?_)
 ·obtain ⟨v,d,rfl,_⟩:=h;rfl
 ·obtain ⟨v,d,rfl,hd,k⟩:=h
  refine ⟨_,zA3 (zAx (PW.pt (zCz (zAw (zAy (zA9 zAn rfl T.isinst PyProof.Rows.boot_isinstance (zA0 (pv 0) (zA0 (zB9 (v:=.ty "tuple") rfl T.tuple PyProof.Rows.boot_tuple rfl) zA2)))))
    (zBm (zAj op_ne (zA9 zAe rfl T.len PySem.boot_len (zA0 (pv 0) zA2)) zA4 (nomark _))))) (zA6 (zAc zBo)) zAd)
   (zA3 (zAb (i:=1) scPr.nd rfl (Or.inl rfl) (zAi zAq (pv 0) zA4 (fun _ _=>rfl)))
   (zA6 (zAc (zBs (zA9 zAn rfl T.isinst PyProof.Rows.boot_isinstance (zA0 (pv 1) (zA0 (zB9 (v:=.ty "list") rfl T.list PyProof.Rows.boot_list rfl) zA2)))
    (zBs (zC7 zGd (zA9 zAe rfl T.len PySem.boot_len (zA0 (pv 1) zA2)) zA4 (nomark _))
     (zCe (zA7 GU hr rfl DU.at_ DU.fn.kp DU.bind .nil (passC hC) (zA0 (pv 1) zA2)))))))),?_⟩
  have k0:pairB d=false→Q (.bl false) H:=fun e=>by rw [← e];exact k _ (Same.refl _)
  refine ⟨_,rfl,?_⟩;cases hd with
  | non=>exact ⟨_,_,_,_,_,rfl,.non,rfl,rfl,_,rfl,iteT (iteT (k0 rfl))⟩
  | bl b=>exact ⟨_,_,_,_,_,rfl,(.bl b),rfl,rfl,_,rfl,iteT (iteT (k0 rfl))⟩
  | int i=>exact ⟨_,_,_,_,_,rfl,(.int i),rfl,rfl,_,rfl,iteT (iteT (k0 rfl))⟩
  | str x _ _=>exact ⟨_,_,_,_,_,rfl,(.str x),rfl,rfl,_,rfl,iteT (iteT (k0 rfl))⟩
  | lst _ e _ _=>exact ⟨_,_,_,_,_,rfl,(.lst e),rfl,rfl,_,rfl,iteT (iteT (k0 rfl))⟩
  | @tup a xs ds _ e z q =>
   refine ⟨_,_,_,_,_,rfl,.tup e,rfl,rfl,_,rfl,iteF ?_⟩;refine ⟨_,rfl,a,xs,rfl,.inr (SqT.of e),rfl,_,rfl,?_⟩;have hl:=q.length;by_cases h2:xs.length=2
   ·rw [decide_eq_true (show V.int (xs.length:Int)=V.int 2 by rw [h2];rfl)];refine iteF ?_;obtain ⟨d0,d1,rfl⟩:∃ d0 d1,ds=[d0,d1]:=by
     match ds,hl.symm.trans h2 with
     | [d0,d1],_=>exact ⟨d0,d1,rfl⟩
    cases q with
    | @cons x0 _ _ _ q0 q =>
     cases q with
     | @cons x1 _ _ _ q1 q =>
      cases q;refine ⟨_,rfl,a,_,_,x1,rfl,rfl,SqT.of e,rfl,?_⟩;refine ⟨_,rfl,?_⟩;cases q1 with
      | non=>exact ⟨_,_,_,_,_,rfl,.non,rfl,rfl,_,rfl,iteF (k0 rfl)⟩
      | bl b=>exact ⟨_,_,_,_,_,rfl,(.bl b),rfl,rfl,_,rfl,iteF (k0 rfl)⟩
      | int i=>exact ⟨_,_,_,_,_,rfl,(.int i),rfl,rfl,_,rfl,iteF (k0 rfl)⟩
      | str x _ _=>exact ⟨_,_,_,_,_,rfl,(.str x),rfl,rfl,_,rfl,iteF (k0 rfl)⟩
      | tup _ e1 _ _=>exact ⟨_,_,_,_,_,rfl,(.tup e1),rfl,rfl,_,rfl,iteF (k0 rfl)⟩
      | @lst l ys vs g1 e1 z1 q1 =>
       refine ⟨_,_,_,_,_,rfl,.lst e1,rfl,rfl,_,rfl,iteT ?_⟩;refine ⟨_,rfl,l,ys,rfl,.inl (SqL.of e1),_,_,rfl,rfl,_,rfl,?_⟩;refine ite2 (fun h0=>?_) (fun h0=>?_)
       ·refine ⟨_,rfl,_,vs,rfl,.lst g1 e1 z1 q1,fun H' s'=>?_⟩;have e0:pairB (.tuple [d0,.list vs])=unlikeB vs:=by
         show (decide (0 < vs.length) && unlikeB vs)=_;rw [decide_eq_true,Xm];have:=q1.length;have:=of_decide_eq_true h0;omega
        rw [← e0];exact k _ s'
       ·refine k0 ?_;show (decide (0 < vs.length) && unlikeB vs)=_;rw [decide_eq_false,Bool.false_and];have:=q1.length;intro z0;exact h0 (decide_eq_true (by omega))
   ·rw [decide_eq_false (show ¬ V.int (xs.length:Int)=V.int 2 by intro z0;injection z0 with z0;omega)];refine iteT (k0 ?_)
    match ds,hl with
    | [],_=>rfl
    | [_],_=>rfl
    | [_,_],hl=>exact absurd hl h2
    | _ :: d1 :: _ :: _,_=>cases d1 <;> rfl
end
theorem zGw {ds:List PyData}{f:PyData→Bool}{i:Nat}{d:PyData} (h:ds.all f=true) (e:ds[i]? = some d):f d=true:=List.all_eq_true.mp h d (Z3 e)
section
variable {P:Program}{w:World}{K:PySem.W.Frag}{mg:Str→Option Value}{base:Heap}{CX:CXT}
theorem scFd:FnScope ["things"] ["things"] (defScope sFields):=⟨rfl,rfl,rfl,by decide +kernel,rfl,by decide +kernel,by decide +kernel⟩
theorem ok_fields {f fp fu fn:Addr}{fd fdp fdu fdn:FuncData} (hC:Calm CX) (T:Tops K mg) (F:Fun K "are_fields" "are_fields" sFields f fd) (DN:Def K mg "is_name" sIsName ["thing"] fn fdn)
  (DU:Def K mg "are_unlike_names" sUnlike ["things"] fu fdu) (DP:Def K mg "is_pair_with_values" sPair ["thing"] fp fdp):FnOk P w K mg base CX 4 f fd ["things"] spFields:=by
 have GU:FnOk P w K mg base CX 2 fu fdu ["things"] spUnlike:=zDh hC T DU.fn DN;have GP:FnOk P w K mg base CX 3 fp fdp ["thing"] spPair:=ok_pair hC T DP.fn DN DU;refine F.okC scFd (fun vs H Q E h=>?_) (fun cdv A outer s H vs Q E hr h=>?_)
 ·obtain ⟨v,d,rfl,_⟩:=h;rfl
 ·obtain ⟨v,d,rfl,hd,k⟩:=h;have hr2:=hr.mono (show 2≤3 by decide)
  refine ⟨_,zA3 (zAx (PW.pt (zCz (zAw (zAy (zA9 zAn rfl T.isinst PyProof.Rows.boot_isinstance (zA0 (pv 0) (zA0 (zB9 (v:=.ty "list") rfl T.list PyProof.Rows.boot_list rfl) zA2)))))
    (zBm (zAw (zAy (zA9 (zBi rfl) rfl T.all PyProof.Rows.boot_all (zA0 (zAr (T:=["thing"]) rfl ScOk.auto (zAh (pv 0)) (fun _ _ _ _=>zAa (i:=1) (by decide +kernel:(["things", "thing"]:List Str).Nodup) rfl (Or.inl rfl)) (fun _ _ _ _=>zB2)
    (fun _ _ _ _=>zA7 GP hr rfl DP.at_ DP.fn.kp DP.bind .nil (passC hC) (zA0 (pv 1) zA2))) zA2))))))) (zA6 (zAc zBo)) zAd)
   (zA6 (zAc (zA7 GU hr2 rfl DU.at_ DU.fn.kp DU.bind .nil (passC hC) (zA0 (zAr (T:=["thing"]) rfl ScOk.auto (zAh (pv 0)) (fun _ _ _ _=>zAa (i:=1) (by decide +kernel:(["things", "thing"]:List Str).Nodup) rfl (Or.inl rfl)) (fun _ _ _ _=>zB2)
    (fun _ _ _ _=>zAi (r:=rIxT K) zAq (pv 1) zA4 (fun _ _=>rfl))) zA2)))),?_⟩
  have k0:fieldsB d=false→∀ H',Same H H'→Q (.bl false) H':=fun e H' s'=>by rw [← e];exact k _ s'
  refine ⟨_,rfl,?_⟩;cases hd with
  | non=>exact ⟨_,_,_,_,_,rfl,.non,rfl,rfl,_,rfl,iteT (iteT (k0 rfl _ (Same.refl _)))⟩
  | bl b=>exact ⟨_,_,_,_,_,rfl,(.bl b),rfl,rfl,_,rfl,iteT (iteT (k0 rfl _ (Same.refl _)))⟩
  | int i=>exact ⟨_,_,_,_,_,rfl,(.int i),rfl,rfl,_,rfl,iteT (iteT (k0 rfl _ (Same.refl _)))⟩
  | str x _ _=>exact ⟨_,_,_,_,_,rfl,(.str x),rfl,rfl,_,rfl,iteT (iteT (k0 rfl _ (Same.refl _)))⟩
  | tup _ e _ _=>exact ⟨_,_,_,_,_,rfl,(.tup e),rfl,rfl,_,rfl,iteT (iteT (k0 rfl _ (Same.refl _)))⟩
  | @lst a xs ds _ ha hz hx =>
   refine ⟨_,_,_,_,_,rfl,.lst ha,rfl,rfl,_,rfl,iteF ?_⟩;refine ⟨_,rfl,a,rfl,⟨xs,SqL.of ha⟩,zAl (xs:=xs) (fun i ys H'=>Same H H'∧ys=(ds.take i).map fun d=>V.bl (pairB d)) ⟨Same.refl _,rfl⟩ (fun i ys H' p=>SqL.of (p.1 _ _ ha)) (fun i ys H' hi p=>?_) ?_ ?_⟩
   ·rw [p.2,Z0];have:=Zt i ds;have:=small1000 hz;omega
   ·rintro i x ys H' hi ⟨s1,rfl⟩ N hN;obtain ⟨d,hd',hv⟩:=hx.get hi;refine pick ?_;refine ⟨_,rfl,_,d,rfl,hv.mono s1,fun H2 s2=>hN _ _ ⟨s1.trans s2,?_⟩⟩;rw [Zd,hd',Za];rfl
   ·rintro ys H' ⟨s1,rfl⟩ p hp;have e:(ds.take xs.length).map (fun d=>V.bl (pairB d))=(ds.map pairB).map V.bl:=by
     rw [hx.length,Zh,Zn];rfl
    have s2:Same H (upd H' p (.lst ((ds.take xs.length).map fun d=>V.bl (pairB d)))):=s1.trans (Same.new hp);refine ⟨p,ds.map pairB,rfl,SqL.of (by rw [zA1,e]),_,rfl,?_⟩;have ea:(ds.map pairB).all id=ds.all pairB:=by rw [Yt];rfl
    rw [ea];cases eb:ds.all pairB with
    | false =>
     refine iteT (k0 ?_ _ s2);show (ds.all pairB && _)=false;rw [eb];rfl
    | true =>
     refine iteF ?_;have ha2:=s2 _ _ ha;generalize upd H' p (.lst ((ds.take xs.length).map fun d=>V.bl (pairB d)))=H3 at s2 ha2 ⊢;refine ⟨_,rfl,a,rfl,⟨xs,SqL.of ha2⟩,zAl (xs:=xs) (fun i ys H'=>H'=H3∧HasAll Any H3 ys ((ds.take i).map firstD)) ⟨rfl,.nil⟩ (fun i ys H' p=>by rw [p.1];exact SqL.of ha2) (fun i ys H' hi p=>?_) ?_ ?_⟩
     ·have:=p.2.length;rw [Z0] at this;have:=Zt i ds;have:=small1000 hz;omega
     ·rintro i x ys H' hi ⟨rfl,hy⟩ N hN;obtain ⟨d,hd',hv⟩:=hx.get hi;obtain ⟨b,x0,y0,n,l,vs,zs,rfl,_,hb,rfl,hn,_⟩:=zGb hv (zGw eb hd');refine pick ?_;refine ⟨_,rfl,b,_,_,x0,rfl,rfl,SqT.of (s2 _ _ hb),rfl,hN _ _ ⟨rfl,?_⟩⟩;rw [Zd,hd',Za];exact hy.snoc (hn.mono s2)
     ·rintro ys H' ⟨rfl,hy⟩ q hq;have s3:=s2.trans (Same.new (o:=.lst ys) hq);have hl:ys.length≤1000:=by
       have:=hy.length;rw [Z0] at this;have:=Zt xs.length ds;omega
      refine ⟨_,ds.map firstD,rfl,.lst trivial zA1 hl ?_,fun H4 s4=>?_⟩
      ·rw [hx.length,Zh] at hy;exact hy.mono (Same.new hq)
      ·have e1:fieldsB (.list ds)=unlikeB (ds.map firstD):=by
        show (ds.all pairB && unlikeB (ds.map firstD))=_;rw [eb];rfl
       rw [← e1];exact k _ (s3.trans s4)
theorem scCt:FnScope ["fields", "many", "field"] ["fields"] (defScope sCount):=⟨rfl,rfl,rfl,by decide +kernel,rfl,by decide +kernel,by decide +kernel⟩
theorem ok_count {f:Addr}{fd:FuncData} (T:Tops K mg) (F:Fun K "count_states" "count_states" sCount f fd):FnOk P w K mg base CX 1 f fd ["fields"] spCount:=by
 refine F.okC scCt (fun vs H Q E h=>?_) (fun cdv A outer s H vs Q E hr h=>?_)
 ·obtain ⟨v,ds,rfl,_⟩:=h;rfl
 ·obtain ⟨v,ds,rfl,hd,eb,k⟩:=h;obtain ⟨a,xs,rfl,_,ha,hz,hx⟩:=hd.list_inv
  refine ⟨_,zA3 (zAb (i:=1) scCt.nd rfl (Or.inl rfl) zA4)
   (zA3 (zBj PassesOwn.never rfl (zAh (pv 0)) (zAa (i:=2) scCt.nd rfl (Or.inl rfl))
    (zA6 (zAb (i:=1) scCt.nd rfl (Or.inl rfl) (zAp zCw (pv 1) (zA9 zAe rfl T.len PySem.boot_len (zA0 (zAi zAq (pv 2) zA4 (fun _ _=>rfl)) zA2))))))
   (zA6 (zAc (pv 1)))),?_⟩
  refine ⟨_,rfl,a,rfl,⟨xs,SqL.of ha⟩,zBf (K:=K) (a:=a) (xs:=xs) (fun i σ H2=>∃ u,σ = [some (.ref a),some (.int (countD (ds.take i))),u]∧H2=H) ⟨none,rfl,rfl⟩ (fun i σ H2 _ ⟨_,_,e⟩=>by rw [e];exact SqL.of ha) ?_ ?_⟩
  ·rintro i x σ H2 hi ⟨u,rfl,rfl⟩;obtain ⟨d,hd',hv⟩:=hx.get hi;obtain ⟨b,x0,y0,n,l,vs,zs,rfl,_,hb,rfl,hn,rfl,_,hl,hzl,hvs,_⟩:=zGb hv (zGw eb hd');refine ⟨_,rfl,_,rfl,b,_,_,_,rfl,rfl,SqT.of hb,rfl,l,zs,rfl,.inl (SqL.of hl),_,_,rfl,rfl,.inr ⟨by omega,by omega⟩,⟨some (.ref b),?_,rfl⟩⟩;have e:countD (ds.take (i + 1))=countD (ds.take i) * (zs.length:Int):=by
    rw [Zd,hd'];unfold countD;rw [List.foldl_append];show _ * ((sizeD (.tuple [n,.list vs]):Nat):Int)=_;rw [hvs.length];rfl
   rw [e];rfl
  ·rintro σ H2 ⟨u,rfl,rfl⟩;refine ⟨_,rfl,?_⟩;rw [hx.length,Zh];exact k
end
structure FunD (K:PySem.W.Frag) (x qual:Str) (st:Stmt) (dV:Value) (f:Addr) (fd:FuncData):Prop where
 ex:∃ (oc:Value) (od:Option Addr) (kV doc pm:Value) (an:Option Addr) (cdv ct:Value) (osl:Array (Option Value)),
  fd=PySem.W.fnOf x qual (defArgs st) (defBody st) (defScope st) dV kV doc pm an cdv ct∧K.lookup f=some ⟨oc,od,.func fd,osl⟩∧PySem.W.codeIn K cdv qual=true
theorem FunD.okC {P:Program}{w:World}{K:PySem.W.Frag}{mg:Str→Option Value}{base:Heap}{CX:CXT}{x qual:Str}{st:Stmt}{dV:Value}{f:Addr}{fd:FuncData}{N ps:List Str}{k:Nat}{sp:Sp} (F:FunD K x qual st dV f fd) (S:FnScope N ps (defScope st)) (len:∀ vs H Q E,sp vs H Q E→vs.length=ps.length)
  (hbody:∀ (cdv:Value) (A:Around) (outer:List Env) (s:Shared) (H:Hp) (vs:List V) (Q:VK) (E:XK),Room k (A.deeper (PyProof.Rows.envOfC qual (defScope st) s.heap.objs.size f cdv))→sp vs H Q E →
   ∃ t,PSs (cxOf CX P w K mg base N qual (defScope st) f cdv A outer s H E).nox (defBody st) t∧t { nx:=fun _ H'=>Q .non H',rt:=Q } (start N vs) H):FnOk P w K mg base CX (k + 1) f fd ps sp:=by
 obtain ⟨oc,od,kV,doc,pm,an,cdv,ct,osl,rfl,lk,hcd⟩:=F.ex;refine fn_of lk hcd S len fun A outer s H vs Q E hr hsp=>?_;obtain ⟨t,h,q⟩:=hbody cdv A outer s H vs Q E hr hsp;exact ⟨t,h.nox,q⟩
theorem fnf:¬ (("name" : Str) = "fields"):=by decide +kernel
theorem fno:¬ (("name" : Str) = "owner"):=by decide +kernel
theorem ffo:¬ (("fields" : Str) = "owner"):=by decide +kernel
noncomputable def kflds (n f o:V):List (Str×V):=putF "owner" o (putF "fields" f (putF "name" n []))
theorem zEz (n f o:V):(kflds n f o).lookup ("name" : Str)=some n:=by
 unfold kflds;rw [zAm,if_neg fno,zAm,if_neg fnf,zAm,if_pos rfl]
theorem zF0 (n f o:V):(kflds n f o).lookup ("fields" : Str)=some f:=by
 unfold kflds;rw [zAm,if_neg ffo,zAm,if_pos rfl]
theorem zBv (n f o:V):(kflds n f o).lookup ("owner" : Str)=some o:=by
 unfold kflds;rw [zAm,if_pos rfl]
structure KCls (K:PySem.W.Frag) (mg:Str→Option Value) (C fI:Addr):Prop where
 cl:Cls K C
 nN:NoAttr K C "name"
 nF:NoAttr K C "fields"
 nO:NoAttr K C "owner"
 mgC:mg "Kind" = some (.ref C)
 mkd:Mk K C fI
theorem name_any {G G':Addr→Prop}{H H':Hp}{v:V}{d:PyData} (h:Has G H v d) (e:nameD d=true):Has G' H' v d:=by
 cases h with
 | str x a b=>exact .str x a b
 | non=>cases e
 | bl b=>cases e
 | int i=>cases e
 | lst _ _ _ _=>cases e
 | tup _ _ _ _=>cases e
theorem names_any {G G':Addr→Prop}{H H':Hp}:∀ {xs:List V}{ds:List PyData},HasAll G H xs ds→ds.all nameD=true→HasAll G' H' xs ds
 | _,_,.nil,_=>.nil
 | _,_,.cons h t,e=>by
  rw [Yn,Zv] at e;exact .cons (name_any h e.1) (names_any t e.2)
theorem zFf {ds:List PyData} (h:unlikeB ds=true):ds.all nameD=true:=by
 have z:(ds.all nameD && decide (strsOf ds).Nodup)=true:=h;rw [Zv] at z;exact z.1
noncomputable def ownerD (n:Str):PyData→Bool
 | .none=>true
 | .str o=>nameB o && !decide (o=n)
 | _=>false
noncomputable def spInit (C:Addr):Sp:=fun vs H Q _=>∃ (p dx:Addr) (vf vo:V) (n:Str) (ds:List PyData) (od:PyData),vs=[.ref p,.str n,vf,vo]∧H p=some (.ins C dx [])∧n.length≤1000∧PyData.strOk n=true∧nameB n=true ∧
 Has Any H vf (.list ds)∧fieldsB (.list ds)=true∧Has Any H vo od∧ownerD n od=true∧countD ds≤8 ∧
 ∀ (H':Hp) (l:Addr),H' p=some (.ins C dx (kflds (.str n) (.ref l) vo))→Has (fun a=>H a=none) H' (.ref l) (.list ds)→(∀ b o,H b=some o→b≠p→H' b=some o)→Q .non H'
section
variable {P:Program}{w:World}{K:PySem.W.Frag}{mg:Str→Option Value}{base:Heap}{CX:CXT}
theorem scKi:FnScope ["self", "name", "fields", "owner"] ["self", "name", "fields", "owner"] (defScope sInit):=⟨rfl,rfl,rfl,by decide +kernel,rfl,by decide +kernel,by decide +kernel⟩
theorem k_both {R:Hp→Prop}{H1:Hp}{B:Prop} (t:∀ Hx,Same H1 Hx→R Hx) (h:(∀ Hx,Same H1 Hx→R Hx)→B):B:=h t
theorem ok_init {f C ff fc fp fu fn:Addr}{fd fdf fdc fdp fdu fdn:FuncData}{dV:Value} (hC:Calm CX) (T:Tops K mg) (F:FunD K "__init__" "Kind.__init__" sInit dV f fd) (KC:KCls K mg C f) (DN:Def K mg "is_name" sIsName ["thing"] fn fdn)
  (DU:Def K mg "are_unlike_names" sUnlike ["things"] fu fdu) (DP:Def K mg "is_pair_with_values" sPair ["thing"] fp fdp) (DF:Def K mg "are_fields" sFields ["things"] ff fdf) (DC:Def K mg "count_states" sCount ["fields"] fc fdc) :
  FnOk P w K mg base CX 5 f fd ["self", "name", "fields", "owner"] (spInit C):=by
 have GN:FnOk P w K mg base CX 1 fn fdn ["thing"] spNameD:=zCt DN.fn T;have GF:FnOk P w K mg base CX 4 ff fdf ["things"] spFields:=ok_fields hC T DF.fn DN DU DP;have GC:FnOk P w K mg base CX 1 fc fdc ["fields"] spCount:=ok_count T DC.fn;refine F.okC scKi (fun vs H Q E h=>?_) (fun cdv A outer s H vs Q E hr h=>?_)
 ·obtain ⟨p,dx,vf,vo,n,ds,od,rfl,_⟩:=h;rfl
 ·obtain ⟨p,dx,vf,vo,n,ds,od,rfl,hp,hn1,hn2,hn3,hf,hfb,ho,hob,hc8,k⟩:=h;have hr1:=hr.mono (show 1≤4 by decide);obtain ⟨tm,hmost⟩:=T.mostS
  refine ⟨_,zA3 (zAx (zAw (zAy (zA7 GN hr1 rfl DN.at_ DN.fn.kp DN.bind .nil (passC hC) (zA0 (pv 1) zA2)))) zAo zAd)
   (zA3 (zAx (zAw (zAy (zA7 GF hr rfl DF.at_ DF.fn.kp DF.bind .nil (passC hC) (zA0 (pv 2) zA2)))) zAo zAd)
   (zA3 (zAx (PW.pt (zEl (zCa (zG8 (pv 3))) (zD0 (PW.pt (zCz (zAw (zAy (zA7 GN hr1 rfl DN.at_ DN.fn.kp DN.bind .nil (passC hC) (zA0 (pv 3) zA2)))) (zBm (zAj zDw (pv 3) (pv 1) (nomark _)))))))) zAo zAd)
   (zA3 (zAx (zAj zGd (zA7 GC hr1 rfl DC.at_ DC.fn.kp DC.bind .nil (passC hC) (zA0 (pv 2) zA2)) (zB7 (v:=.int 8) rfl hmost ⟨_,rfl⟩) (nomark _)) zAo zAd)
   (zA3 (zDd (pv 0) (pv 1) rfl)
   (zA3 (zDd (pv 0) (zAr (T:=["field"]) rfl ScOk.auto (zAh (pv 2)) (fun _ _ _ _=>zAa (i:=4) (by decide +kernel:(["self", "name", "fields", "owner", "field"]:List Str).Nodup) rfl (Or.inl rfl)) (fun _ _ _ _=>zB2)
    (fun _ _ _ _=>zAs (zA0 (zAi (r:=rIxT K) zAq (pv 4) zA4 (fun _ _=>rfl)) (zA0 (zB3 (r:=fun xs H Q=>∃ p ys,xs=[.ref p]∧(SqL K H p ys∨SqT K H p ys)∧∀ l,H l=none→Q (.ref l) (upd H l (.lst ys))) zBw rfl T.list PyProof.Rows.boot_list (zA0 (zAi (r:=rIxT K) zAq (pv 4) zA4 (fun _ _=>rfl)) zA2)) zA2)))) rfl)
   (zA6 (zDd (pv 0) (pv 3) rfl))))))),?_⟩
  refine ⟨_,rfl,_,.str n,rfl,.str n hn1 hn2,fun H1 s1=>⟨_,rfl,?_⟩⟩;rw [show nameD (.str n)=true from hn3];refine iteF ⟨_,rfl,_,.list ds,rfl,hf.mono s1,fun H2 s2=>⟨_,rfl,?_⟩⟩;rw [hfb];have s12:=s1.trans s2;refine iteF ?_;have fb:ds.all pairB=true∧unlikeB (ds.map firstD)=true:=by
   have z:(ds.all pairB && unlikeB (ds.map firstD))=true:=hfb;rw [Zv] at z;exact z
  have sh:vo=V.non∨∃ o,vo=V.str o∧o.length≤1000∧PyData.strOk o=true∧nameB o=true∧¬ o=n:=by
   cases ho with
   | bl b=>cases hob
   | int i=>cases hob
   | lst _ _ _ _=>cases hob
   | tup _ _ _ _=>cases hob
   | non=>exact .inl rfl
   | str o o1 o2 =>
    have z:(nameB o && !decide (o=n))=true:=hob;rw [Zv] at z;exact .inr ⟨o,rfl,o1,o2,z.1,by simpa using z.2⟩
  refine' k_both (H1:=H) _ (fun k2=>_);rotate_left 2
  ·rcases sh with e | ⟨o,e,o1,o2,e1,e2⟩
   ·refine ⟨_,rfl,_,rfl,?_⟩;rw [decide_eq_true e];exact iteF (iteF (k2 H2 s12))
   ·refine ⟨_,rfl,_,rfl,?_⟩;rw [decide_eq_false (show ¬ vo=V.non by rw [e];intro z;cases z)];refine iteT ?_;refine ⟨_,rfl,vo,.str o,rfl,(by rw [e];exact .str o o1 o2),fun H3 s3=>⟨_,rfl,?_⟩⟩;rw [show nameD (.str o)=true from e1];refine iteF ⟨_,rfl,_,rfl,(by rw [e];rfl),_,rfl,?_⟩;rw [decide_eq_false (show ¬ vo=V.str n by rw [e];intro z;injection z with z;exact e2 z)];exact iteF (k2 H3 (s12.trans s3))
  ·intro H3 s3;refine ⟨_,rfl,_,ds,rfl,hf.mono s3,fb.1,_,_,rfl,rfl,_,rfl,?_⟩;refine ite2 (fun h=>absurd (of_decide_eq_true h) (by omega)) (fun _=>?_);refine ⟨_,rfl,_,rfl,p,C,dx,[],rfl,s3 _ _ hp,KC.cl,KC.nN,(by show 0 < 1000;decide),?_⟩;have fr:∀ (H':Hp) (o':HO),(∃ fs,H' p=some (.ins C dx fs))→∀ (a:Addr) (o:HO),Any a→isSeq o→H' a=some o→Any a∧(upd H' p o') a=some o:=by
    rintro H' o' ⟨fs,e⟩ a o _ hs q;refine ⟨trivial,?_⟩;rw [zA8]
    ·exact q
    ·rintro rfl;rw [e] at q;cases q;exact hs
   have hf4:Has Any (upd H3 p (.ins C dx (putF "name" (.str n) []))) vf (.list ds):=(hf.mono s3).frameS (fr _ _ ⟨_,s3 _ _ hp⟩);obtain ⟨a,xs,rfl,_,ha,hz,hx⟩:=hf4.list_inv;have hp4:(upd H3 p (.ins C dx (putF "name" (.str n) []))) p=some (.ins C dx (putF "name" (.str n) [])):=zA1;have k4:∀ b o,H b=some o→b≠p→(upd H3 p (.ins C dx (putF "name" (.str n) []))) b=some o:=fun b o e hb=>by rw [zA8 hb];exact s3 _ _ e
   have n4:∀ b,(upd H3 p (.ins C dx (putF "name" (.str n) []))) b=none→H b=none:=fun b e=>by
    cases q:H b with
    | none=>rfl
    | some o =>
     by_cases hb:b=p
     ·subst hb;rw [hp4] at e;cases e
     ·rw [k4 b o q hb] at e;cases e
   generalize upd H3 p (.ins C dx (putF "name" (.str n) []))=H4 at ha hx hp4 k4 n4 ⊢;refine ⟨_,rfl,a,rfl,⟨xs,SqL.of ha⟩,zAl (xs:=xs) (fun i ys H'=>Same H4 H'∧HasAll (fun a=>H a=none) H' ys (ds.take i)) ⟨Same.refl _,.nil⟩ (fun i ys H' q=>SqL.of (q.1 _ _ ha)) (fun i ys H' hi q=>?_) ?_ ?_⟩
   ·have:=q.2.length;have:=Zt i ds;have:=small1000 hz;have:=hx.length;omega
   ·rintro i x ys H' hi ⟨s5,hy⟩ N hN;obtain ⟨d,hd',hv⟩:=hx.get hi;obtain ⟨b,x0,y0,nd,l,vs,zs,rfl,_,hb,rfl,hnm,rfl,_,hl,hzl,hvs,_,hun⟩:=zGb hv (zGw fb.1 hd');have hnn:nameD nd=true:=by
     have z:=List.all_eq_true.mp (zFf fb.2) nd (List.mem_map.mpr ⟨_,Z3 hd',rfl⟩);exact z
    refine pick ?_;refine ⟨_,rfl,b,_,_,x0,rfl,rfl,SqT.of (s5 _ _ hb),rfl,_,rfl,b,_,_,_,rfl,rfl,SqT.of (s5 _ _ hb),rfl,l,zs,rfl,.inl (SqL.of (s5 _ _ hl)),fun l2 hl2=>⟨by show 2≤sizeLine;decide,fun t ht=>hN _ _ ⟨?_,?_⟩⟩⟩
    ·exact (s5.trans (Same.new hl2)).trans (Same.new ht)
    ·rw [Zd,hd'];have s6:Same H' (upd (upd H' l2 (.lst zs)) t (.tup [x0,.ref l2])):=(Same.new hl2).trans (Same.new ht);refine (hy.mono s6).snoc (.tup ?_ zA1 (by show 2≤1000;decide) (.cons (name_any hnm hnn) (.cons (.lst ?_ ?_ hzl (names_any hvs (zFf hun))) .nil)))
     ·exact n4 _ (s5.free ((Same.new (o:=.lst zs) hl2).free ht))
     ·exact n4 _ (s5.free hl2)
     ·exact (Same.new ht) _ _ zA1
   ·rintro ys H' ⟨s5,hy⟩ l hl;have ll:ys.length≤1000:=by
     have:=hy.length;have:=Zt xs.length ds;have:=hx.length;omega
    rw [hx.length,Zh] at hy;have hp5:(upd H' l (.lst ys)) p=some (.ins C dx (putF "name" (.str n) [])):=(Same.new hl) _ _ (s5 _ _ hp4);refine ⟨_,rfl,p,C,dx,_,rfl,hp5,KC.cl,KC.nF,(by show 1 < 1000;decide),?_⟩;refine ⟨_,rfl,_,rfl,p,C,dx,_,rfl,zA1,KC.cl,KC.nO,(by have:=zC8 "fields" (V.ref l) (putF "name" (V.str n) []);have:(putF "name" (V.str n) []).length=1:=rfl;omega),?_⟩;refine k _ l zA1 ?_ fun b o e hb=>?_
    ·have h0:Has (fun a=>H a=none) (upd H' l (.lst ys)) (.ref l) (.list ds):=.lst (n4 _ (s5.free hl)) zA1 ll (hy.mono (Same.new hl));refine h0.frame fun b o g q=>⟨g,?_⟩;have hb:b≠p:=fun z=>by rw [z,hp] at g;cases g
     rw [zA8 hb,zA8 hb];exact q
    ·rw [zA8 hb,zA8 hb];exact (Same.new hl) _ _ (s5 _ _ (k4 b o e hb))
end
end My
namespace My
open PySem L2
noncomputable def words:List Str:=["a", "ac", "ab", "b", "box", "boxes", "bo", "zzzzzzzz", "abcdefgh", "of", "kind", "lid", "l", "is", "not", "want", "red", "lids", "wanted"]
noncomputable def lets:List Nat:=[97,98,99,100,101,102,103,104,105,106,107,108,109,110,111,112,113,114,115,116,117,118,119,120,121,122]
theorem zFm:letters.cps.toList=lets:=by decide +kernel
theorem mem_lets {c:Nat}:c∈lets ↔ 97≤c∧c≤122:=by
 refine ⟨fun h=>(by decide +kernel:∀ c∈lets,97≤c∧c≤122) c h,fun ⟨h1,h2⟩=>?_⟩;have:=(by decide +kernel:∀ i < 26,97 + i∈lets) (c - 97) (by omega)
 rwa [Nat.add_sub_cancel' h1] at this
theorem charB_iff {c:Nat}:charB c=true ↔ 97≤c∧c≤122:=by
 unfold charB;rw [zFm,decide_eq_true_eq,mem_lets]
theorem zD4:∀ x∈words,(1≤x.length∧x.length≤8)∧∀ c∈x.cps.toList,97≤c∧c≤122:=by decide +kernel
theorem words_nodup:words.Nodup:=by decide +kernel
noncomputable def rotC (t c:Nat):Nat:=97 + (c - 97 + t) % 26
noncomputable def rotS (t:Nat) (x:Str):Str:=⟨(x.cps.toList.map (rotC t)).toArray⟩
theorem rotC_in (t c:Nat):97≤rotC t c∧rotC t c≤122:=by unfold rotC;omega
theorem rotC_inj {t c d:Nat} (hc:97≤c∧c≤122) (hd:97≤d∧d≤122) (h:rotC t c=rotC t d):c=d:=by unfold rotC at h;omega
theorem rotS_len (t:Nat) (x:Str):(rotS t x).length=x.length:=by
 show ((x.cps.toList.map (rotC t)).toArray).size=x.cps.size;rw [Zc,Z0,Y3]
theorem zFk {f:Nat→Nat}:∀ {l m:List Nat},(∀ c∈l,∀ d∈m,f c=f d→c=d)→l.map f=m.map f→l=m
 | [],[],_,_=>rfl
 | [],_ :: _,_,h=>by cases h
 | _ :: _,[],_,h=>by cases h
 | a :: l,b :: m,k,h=>by
  rw [Z8,Z8] at h;injection h with h1 h2;rw [k a Zb b Zb h1,zFk (fun c hc d hd=>k c (Z6 _ hc) d (Z6 _ hd)) h2]
theorem rotS_inj {t:Nat}{x y:Str} (hx:∀ c∈x.cps.toList,97≤c∧c≤122) (hy:∀ c∈y.cps.toList,97≤c∧c≤122) (h:rotS t x=rotS t y):x=y:=by
 unfold rotS at h;injection h with h;have h':x.cps.toList.map (rotC t)=y.cps.toList.map (rotC t):=by simpa using congrArg Array.toList h
 have e:=zFk (fun c hc d hd q=>rotC_inj (hx c hc) (hy d hd) q) h';cases x;cases y;exact congrArg Str.mk (Array.toList_inj.mp e)
theorem rotS_name {t:Nat}{x:Str} (h1:1≤x.length) (h8:x.length≤8):nameB (rotS t x)=true:=by
 unfold nameB;rw [rotS_len,decide_eq_true h1,decide_eq_true h8,Xm,Xm,Yc];intro c hc;have hc':c∈x.cps.toList.map (rotC t):=by simpa [rotS] using hc
 obtain ⟨d,_,rfl⟩:=List.mem_map.mp hc';exact charB_iff.mpr (rotC_in t d)
theorem rotS_ok (t:Nat) (x:Str):PyData.strOk (rotS t x)=true:=by
 unfold PyData.strOk;rw [Array.all_eq_true'];intro c hc;have hc':c∈x.cps.toList.map (rotC t):=by simpa [rotS] using hc
 obtain ⟨d,_,rfl⟩:=List.mem_map.mp hc';have:=rotC_in t d;simp only [decide_eq_true_eq];omega
theorem mul19:∀ s < 19,∀ d < 19,0 < s→0 < d→(s * d) % 19≠0:=by decide +kernel
theorem place_inj {a s i j:Nat} (hs:0 < s) (hs':s < 19) (hi:i < j) (hj:j < 19) (h:(a + s * i) % 19=(a + s * j) % 19):False:=by
 have e:s * j=s * i + s * (j - i):=by rw [← Nat.mul_add];congr 1;omega
 refine mul19 s hs' (j - i) (by omega) hs (by omega) ?_;rw [e] at h;omega
noncomputable def nm (a s t k:Nat):Str:=rotS t (words[(a + s * k) % 19]?.getD "")
theorem zCc (i:Nat) (h:i < 19):∃ x,words[i]? = some x∧x∈words:=by
 have h':i < words.length:=h;exact ⟨words[i],Z1 h',List.getElem_mem _⟩
theorem words_two:∀ x∈words,x.cps.toList.length=2→x.cps.toList[0]?≠x.cps.toList[1]?:=by decide +kernel
theorem rotS_qq {t:Nat}{x:Str} (hx:x∈words):rotS t x≠"qq":=by
 intro h;have e:x.cps.toList.map (rotC t)=[113,113]:=by
  have:=congrArg (fun y:Str=>y.cps.toList) h;exact this
 have two:=words_two x hx;have ok:=(zD4 x hx).2;generalize x.cps.toList=L at e two ok;obtain ⟨a,b,rfl⟩:∃ a b,L=[a,b]:=by
  have l2:=congrArg List.length e;rw [Z0] at l2;cases L with
  | nil=>cases l2
  | cons a L =>
   cases L with
   | nil=>cases l2
   | cons b L =>
    cases L with
    | nil=>exact ⟨a,b,rfl⟩
    | cons c L=>simp at l2
 simp only [Z8,List.map_nil] at e;injection e with e1 e2;injection e2 with e2 _;have:=rotC_inj (ok a (by simp)) (ok b (by simp)) (e1.trans e2.symm);subst this;exact two rfl rfl
theorem nm_ok (a s t k:Nat):nameB (nm a s t k)=true∧PyData.strOk (nm a s t k)=true∧(nm a s t k).length≤8∧nm a s t k≠"qq":=by
 obtain ⟨x,e,hx⟩:=zCc ((a + s * k) % 19) (Xb _ (by decide));unfold nm;rw [e,Yp];obtain ⟨⟨h1,h8⟩,_⟩:=zD4 x hx;exact ⟨rotS_name h1 h8,rotS_ok t x,by rw [rotS_len];exact h8,rotS_qq hx⟩
theorem nm_ne {a s t i j:Nat} (hs:0 < s) (hs':s < 19) (hi:i < j) (hj:j < 19):nm a s t i≠nm a s t j:=by
 intro h;obtain ⟨x,e,hx⟩:=zCc ((a + s * i) % 19) (Xb _ (by decide));obtain ⟨y,e',hy⟩:=zCc ((a + s * j) % 19) (Xb _ (by decide));unfold nm at h;rw [e,e',Yp,Yp] at h;have q:=rotS_inj (zD4 x hx).2 (zD4 y hy).2 h;subst q;have z:=(Yf (show (a + s * i) % 19 < words.length from Xb _ (by decide)) words_nodup).mp (e.trans e'.symm);exact place_inj hs hs' hi hj z
theorem nms_nodup {a s t:Nat} (hs:0 < s) (hs':s < 19):∀ n,n≤19→((List.range n).map (nm a s t)).Nodup
 | 0,_=>Xa
 | n + 1,h=>by
  rw [List.range_succ,Za];refine List.nodup_append.mpr ⟨nms_nodup hs hs' n (by omega),by simp,?_⟩;intro x hx y hy;simp only [Z8,List.map_nil,Zw,Zp,or_false] at hy;subst hy;obtain ⟨i,hi,rfl⟩:=List.mem_map.mp hx;exact nm_ne hs hs' (List.mem_range.mp hi) (by omega)
theorem index_of:∀ c∈lets,Builtin.Str.occurrences letters ⟨#[c]⟩ 0 letters.length 1=[c - 97]:=by decide +kernel
theorem join1:∀ cs:List Nat,Str.join ⟨#[]⟩ (cs.map fun c=>(⟨#[c]⟩:Str))=⟨cs.toArray⟩
 | []=>rfl
 | [c]=>rfl
 | c :: d :: r=>by
  show (⟨#[c]⟩:Str)++⟨#[]⟩++Str.join ⟨#[]⟩ ((d :: r).map fun c=>(⟨#[c]⟩:Str))=_;rw [join1 (d :: r)];show (⟨(#[c]++#[])++(d :: r).toArray⟩:Str)=_
  congr 1
  apply Array.toList_inj.mp;simp
theorem joinOk1 {cs:List Nat} (h:cs.length≤1000):PySem.JoinOk (⟨#[]⟩:Str) (cs.map fun c=>(⟨#[c]⟩:Str))=true:=by
 have key:∀ (l:List Nat) (n:Nat),(l.map fun c=>(⟨#[c]⟩:Str)).foldl (fun a x=>a + x.length + (⟨#[]⟩:Str).length) n=n + l.length:=by
  intro l
  induction l with
  | nil=>intro n;rfl
  | cons c r ih =>
   intro n;rw [Z8,Y5,ih,Zj];show n + 1 + 0 + r.length=_;omega
 unfold PySem.JoinOk;rw [List.foldl_toArray,key];have:=small1000 h;unfold Builtin.Str.tooLong;simp;omega
theorem comp_charsM {x:Str}{k:Nat}{σ : St}{H:Hp}{g:TG}{tt:TT}{te:TE}{Q:VK} (f:Nat→V) (hz:x.length≤sizeLine)
  (hs:∀ c (Ry:VK),c∈x.cps.toList→Ry (f c) H→∀ Rn:Hp→Prop,g (.str ⟨#[c]⟩) (σ++List.replicate k none) H fun σ2 H2=>tt σ2 H2 fun b H3=>if b=true then te σ2 H3 Ry else Rn H3)
  (hd:∀ q,H q=none→Q (.ref q) (upd H q (.lst (x.cps.toList.map f)))):CompGoal (Its x) k σ H g tt te Q:=by
 have hlen:x.cps.toList.length=x.length:=by rw [Y3];rfl
 refine zF7 (J:=Its x) (n:=x.length) (fun i ys H'=>H'=H∧ys=(x.cps.toList.take i).map f) ⟨rfl,rfl⟩ (fun i ys H' lt _=>lt) (fun ys H' _=>Z5 _) (fun i ys H' hi q=>?_) ?_ ?_
 ·obtain ⟨_,rfl⟩:=q;rw [Z0];have b:=Zt i x.cps.toList;omega
 ·rintro i ys H' v H2 lt ⟨rfl,rfl⟩ ⟨rfl,c,hc,rfl⟩ N hN;have hc':x.cps.toList[i]? = some c:=by rw [Yj];exact hc
  refine hs c _ (Z3 hc') (hN _ _ ⟨rfl,?_⟩) _;rw [Zd,hc',Za];rfl
 ·rintro ys H' ⟨rfl,rfl⟩ q hq;rw [← hlen,Zh];exact hd q hq
noncomputable def spSign:Sp:=fun vs H Q _=>∃ (c t:Nat),vs=[.str ⟨#[c]⟩,.int t]∧(97≤c∧c≤122)∧Q (.str ⟨#[rotC t c]⟩) H
noncomputable def spNames:Sp:=fun vs H Q _=>∃ (p:Addr) (m k:Int),vs=[.ref p,.int m]∧Src H p k∧k≤990000∧0≤m∧m≤19 ∧
 ∀ (l:Addr) (ks:List Str) (H':Hp),(ks.length:Int)=m→ks.Nodup→(∀ x∈ks,nameB x=true∧PyData.strOk x=true∧x.length≤8∧x≠"qq")→H' l=some (.lst (ks.map V.str))→H l=none→Src H' p (k + 5)→(∀ b o,H b=some o→b≠p→H' b=some o)→Q (.ref l) H'
section
variable {P:Program}{w:World}{K:PySem.W.Frag}{mg:Str→Option Value}{base:Heap}{CX:CXT}
theorem scSg:FnScope ["_law_sign_here", "_law_turn", "_law_small"] ["_law_sign_here", "_law_turn"] (defScope sSign):=⟨rfl,rfl,rfl,by decide +kernel,rfl,by decide +kernel,by decide +kernel⟩
theorem ok_sign {f:Addr}{fd:FuncData} (F:Fun K "_law_sign" "_law_sign" sSign f fd):FnOk P w K mg base CX 1 f fd ["_law_sign_here", "_law_turn"] spSign:=by
 refine Fun.okC F scSg (fun vs H Q E h=>?_) (fun cdv A outer s H vs Q E hr h=>?_)
 ·obtain ⟨c,t,rfl,_⟩:=h;rfl
 ·obtain ⟨c,t,rfl,hc,k⟩:=h
  refine ⟨_,zA3 (zAb (i:=2) scSg.nd rfl (Or.inl rfl) zBa)
   (zA6 (zAc (zAi ix_str (pv 2) (zAp zCh (zAp zBu (zCv PySem.F.plainAttrs_str PySem.F.slot_str_index PySem.F.type_str_index mt_index (pv 2) (zA0 (pv 0) zA2)) (pv 1)) zA4) (fun _ _=>rfl)))),?_⟩
  refine ⟨_,rfl,_,rfl,rfl,_,rfl,letters,_,c - 97,[],rfl,rfl,index_of c (mem_lets.mpr hc),?_⟩;refine ⟨_,rfl,_,_,rfl,rfl,_,_,rfl,rfl,(by show (0:Int) < 26;decide),?_⟩;have hi:(c - 97 + t) % 26 < 26:=Xb _ (by decide);have e:lets[(c - 97 + t) % 26]? = some (rotC t c):=by
   have key:∀ i < 26,lets[i]? = some (97 + i):=by decide +kernel
   exact key _ hi
  refine ⟨letters,_,rotC t c,rfl,rfl,Zm (small1000 (by decide +kernel)),?_,k⟩;have e2:(((c - 97:Nat):Int) + (t:Int)) % 26=(((c - 97 + t) % 26:Nat):Int):=by omega
  show atI letters.cps.toList ((((c - 97:Nat):Int) + (t:Int)) % 26)=some (rotC t c);rw [e2,zFm];exact zB1 e
end
end My
namespace L2.W
open PySem My
section
variable {P:Program}{w:World}{K:PySem.W.Frag}{mg:Str→Option Value}{base:Heap}{CX:CXT}
theorem scNm:FnScope ["_law_source", "_law_many_here", "_law_words", "_law_start", "_law_step", "_law_turn", "_law_some"] ["_law_source", "_law_many_here"] (defScope sNames):=⟨rfl,rfl,rfl,by decide +kernel,rfl,by decide +kernel,by decide +kernel⟩
set_option maxHeartbeats 4000000 in
theorem ok_names {f fm fn fs:Addr}{fd fdm fdn fds:FuncData} (hC:Calm CX) (T:Tops K mg) (F:Fun K "_law_names" "_law_names" sNames f fd) (DM:Def K mg "_law_mixed" sMixed ["_law_cell", "_law_k"] fm fdm)
  (DN:Def K mg "_law_next" sNext ["_law_source", "_law_many_here"] fn fdn) (DS:Def K mg "_law_sign" sSign ["_law_sign_here", "_law_turn"] fs fds):FnOk P w K mg base CX 3 f fd ["_law_source", "_law_many_here"] spNames:=by
 have GN:FnOk P w K mg base CX 2 fn fdn ["_law_source", "_law_many_here"] spNext:=zBy hC DN.fn DM;have GS:FnOk P w K mg base CX 1 fs fds ["_law_sign_here", "_law_turn"] spSign:=ok_sign DS.fn;refine Fun.okC F scNm (fun vs H Q E h=>?_) (fun cdv A outer s H vs Q E hr h=>?_)
 ·obtain ⟨p,m,k,rfl,_⟩:=h;rfl
 ·obtain ⟨p,m,k,rfl,S0,hk,m0,m1,q⟩:=h;have nd:=scNm.nd;have hr1:=hr.mono (show 1≤2 by decide)
  refine ⟨_,zA3 (zAb (i:=2) nd rfl (Or.inr rfl) (zAg (zC1 (vs:=[.str "a",.str "ac",.str "ab",.str "b",.str "box",.str "boxes",.str "bo",.str "zzzzzzzz",.str "abcdefgh",.str "of"]) (by decide +kernel))))
   (zA3 (zAb (i:=2) nd rfl (Or.inr rfl) (zAp zCi (pv 2) (zAg (zC1 (vs:=[.str "kind",.str "lid",.str "l",.str "is",.str "not",.str "want",.str "red",.str "lids",.str "wanted"]) (by decide +kernel)))))
   (zA3 (zAb (i:=3) nd rfl (Or.inr rfl) (zA7 GN hr rfl DN.at_ DN.fn.kp DN.bind .nil (passC hC) (zA0 (pv 0) (zA0 zA4 zA2))))
   (zA3 (zAb (i:=4) nd rfl (Or.inr rfl) (zAp zBu zA4 (zA7 GN hr rfl DN.at_ DN.fn.kp DN.bind .nil (passC hC) (zA0 (pv 0) (zA0 zA4 zA2)))))
   (zA3 (zAb (i:=5) nd rfl (Or.inr rfl) (zAi zAk (zAg (zA0 zA4 (zA0 (zA7 GN hr rfl DN.at_ DN.fn.kp DN.bind .nil (passC hC) (zA0 (pv 0) (zA0 zA4 zA2))) zA2))) (zA7 GN hr rfl DN.at_ DN.fn.kp DN.bind .nil (passC hC) (zA0 (pv 0) (zA0 zA4 zA2))) (fun _ _=>rfl)))
   (zA3 (zBh (T:=["_law_k"]) (i:=6) rfl ScOk.auto (zCd rfl T.range (zA0 (pv 1) zA2)) (fun _ _ _ _=>zAa (i:=7) (by decide +kernel:(["_law_source", "_law_many_here", "_law_words", "_law_start", "_law_step", "_law_turn", "_law_some", "_law_k"]:List Str).Nodup) rfl (Or.inl rfl)) (fun _ _ _ _=>zB2)
    (fun _ _ _ _=>zAi (r:=rIxL K) zAk (pv 2) (zAp zCh (zAp zBu (pv 3) (zAp zCw (pv 4) (pv 7))) zA4) (fun _ _=>rfl)) nd rfl rfl rfl)
   (zA6 (zAc (zAr (T:=["_law_word"]) rfl ScOk.auto (zAh (pv 6)) (fun _ _ _ _=>zAa (i:=7) (by decide +kernel:(["_law_source", "_law_many_here", "_law_words", "_law_start", "_law_step", "_law_turn", "_law_some", "_law_word"]:List Str).Nodup) rfl (Or.inl rfl)) (fun _ _ _ _=>zB2)
    (fun _ _ _ _=>pe_bmK rfl PySem.F.plainAttrs_str PySem.F.slot_str_join PySem.F.type_str_join (mt_join (K:=K) rfl) zBa (zA0 (zAr (T:=["_law_sign_here"]) rfl ScOk.auto (pi_str (pv 7)) (fun _ _ _ _=>zAa (i:=8) (by decide +kernel:(["_law_source", "_law_many_here", "_law_words", "_law_start", "_law_step", "_law_turn", "_law_some", "_law_word", "_law_sign_here"]:List Str).Nodup) rfl (Or.inl rfl)) (fun _ _ _ _=>zB2)
     (fun _ _ _ _=>zA7 GS hr1 rfl DS.at_ DS.fn.kp DS.bind .nil (passC hC) (zA0 (pv 8) (zA0 (pv 5) zA2)))) zA2)))))))))),?_⟩
  have small:∀ n:Nat,n≤1000→n≤sizeLine:=fun n h=>Zm (small1000 h);have src:∀ {H1 H2:Hp}{j:Int},Src H1 p j→(∀ o,H1 p=some o→H2 p=some o)→Src H2 p j:=fun ⟨a,c,i,e,r⟩ h=>⟨a,c,i,h _ e,r⟩;have hp0:∀ b,H b=none→b≠p:=fun b hb=>by obtain ⟨a,c,j,e,_⟩:=S0;exact (zA5 e hb).symm
  refine ⟨small _ (by simp),fun w1 h1=>?_⟩;refine ⟨_,rfl,small _ (by simp),fun w2 h2=>⟨w1,w2,_,_,rfl,rfl,(Same.new h2) _ _ zA1,zA1,small _ (by simp),fun w3 h3=>?_⟩⟩;have hw3:(upd (upd (upd H w1 (.lst [.str "a",.str "ac",.str "ab",.str "b",.str "box",.str "boxes",.str "bo",.str "zzzzzzzz",.str "abcdefgh",.str "of"])) w2 (.lst [.str "kind",.str "lid",.str "l",.str "is",.str "not",.str "want",.str "red",.str "lids",.str "wanted"])) w3 (.lst ([.str "a",.str "ac",.str "ab",.str "b",.str "box",.str "boxes",.str "bo",.str "zzzzzzzz",.str "abcdefgh",.str "of"]++[.str "kind",.str "lid",.str "l",.str "is",.str "not",.str "want",.str "red",.str "lids",.str "wanted"]))) w3=some (.lst (words.map V.str)):=zA1;have sH:Same H (upd (upd (upd H w1 (.lst [.str "a",.str "ac",.str "ab",.str "b",.str "box",.str "boxes",.str "bo",.str "zzzzzzzz",.str "abcdefgh",.str "of"])) w2 (.lst [.str "kind",.str "lid",.str "l",.str "is",.str "not",.str "want",.str "red",.str "lids",.str "wanted"])) w3 (.lst ([.str "a",.str "ac",.str "ab",.str "b",.str "box",.str "boxes",.str "bo",.str "zzzzzzzz",.str "abcdefgh",.str "of"]++[.str "kind",.str "lid",.str "l",.str "is",.str "not",.str "want",.str "red",.str "lids",.str "wanted"]))):=((Same.new h1).trans (Same.new h2)).trans (Same.new h3);have fw3:H w3=none:=((Same.new h1).trans (Same.new h2)).free h3;generalize upd (upd (upd H w1 (.lst [.str "a",.str "ac",.str "ab",.str "b",.str "box",.str "boxes",.str "bo",.str "zzzzzzzz",.str "abcdefgh",.str "of"])) w2 (.lst [.str "kind",.str "lid",.str "l",.str "is",.str "not",.str "want",.str "red",.str "lids",.str "wanted"])) w3 (.lst ([.str "a",.str "ac",.str "ab",.str "b",.str "box",.str "boxes",.str "bo",.str "zzzzzzzz",.str "abcdefgh",.str "of"]++[.str "kind",.str "lid",.str "l",.str "is",.str "not",.str "want",.str "red",.str "lids",.str "wanted"]))=G0 at *;have S1:Src G0 p k:=src S0 fun o e=>sH _ _ e;have np3:w3≠p:=hp0 _ fw3;refine ⟨_,rfl,p,_,k,rfl,S1,by omega,by decide,by decide,fun a G1 a0 a1 S2 k1=>?_⟩;refine ⟨_,rfl,p,_,_,rfl,S2,by omega,by decide,by decide,fun b G2 b0 b1 S3 k2=>⟨_,_,rfl,rfl,?_⟩⟩;refine ⟨_,rfl,p,_,_,rfl,S3,by omega,by decide,by decide,fun c G3 c0 c1 S4 k3=>⟨small _ (by simp),fun q1 hq1=>?_⟩⟩;have nq:q1≠p:=by obtain ⟨_,_,_,e,_⟩:=S4;exact (zA5 e hq1).symm
  have S5:Src (upd G3 q1 (.lst [.int 0,.int c])) p (k + 1 + 1 + 1):=src S4 fun o e=>(Same.new hq1) _ _ e;refine ⟨_,rfl,p,_,_,rfl,S5,by omega,by decide,by decide,fun d G4 d0 d1 S6 k4=>?_⟩;have hq4:G4 q1=some (.lst [.int 0,.int c]):=by rw [k4 q1 nq];exact zA1
  obtain ⟨t,ht⟩:∃ t:Nat,atI [V.int 0,V.int c] d=some (.int (t:Int)):=by
   rcases (show d=0∨d=1 by omega) with rfl | rfl
   ·exact ⟨0,rfl⟩
   ·exact ⟨c.toNat,by rw [show ((c.toNat:Nat):Int)=c by omega];rfl⟩
  refine ⟨q1,_,_,_,rfl,rfl,SqL.of hq4,ht,?_⟩;have fr:∀ b o,G0 b=some o→b≠p→G4 b=some o:=fun b o e hb=>by
   rw [k4 b hb];refine (Same.new hq1) _ _ ?_;rw [k3 b hb,k2 b hb,k1 b hb];exact e
  have hw4:=fr _ _ hw3 np3;obtain ⟨a',rfl⟩:∃ n:Nat,a=n:=⟨a.toNat,by omega⟩;obtain ⟨b',rfl⟩:∃ n:Nat,b=n:=⟨b.toNat,by omega⟩;obtain ⟨m',rfl⟩:∃ n:Nat,m=n:=⟨m.toNat,by omega⟩;have hb19:0 < 1 + b'∧1 + b' < 19:=by omega
  refine ⟨_,rfl,(m':Int),rfl,by omega,by omega,?_⟩;rw [Ym];refine comp_range (lo:=0) (n:=m') (fun i ys H'=>H'=G4∧ys=(List.range i).map fun j=>V.str (words[(a' + (1 + b') * j) % 19]?.getD "")) ⟨rfl,rfl⟩ (fun i ys H' hi z=>?_) ?_ ?_
  ·rw [z.2,Z0,Y7];exact small _ (by omega)
  ·rintro i ys H' hi ⟨rfl,rfl⟩ N hN;refine pick ?_;refine ⟨_,rfl,_,rfl,_,rfl,_,rfl,_,_,rfl,rfl,.inl ⟨by omega,by omega⟩,_,_,rfl,rfl,_,_,rfl,rfl,(by show (0:Int) < 19;decide),?_⟩;obtain ⟨x,ex,_⟩:=zCc ((a' + (1 + b') * i) % 19) (Xb _ (by decide));have e1:((a':Int) + (1 + (b':Int)) * (0 + (i:Int))) % 19=(((a' + (1 + b') * i) % 19:Nat):Int):=by
    rw [Int.zero_add]
    push_cast
    rfl
   refine ⟨w3,words.map V.str,_,.str x,rfl,rfl,SqL.of hw4,?_,hN _ _ ⟨rfl,?_⟩⟩
   ·show atI (words.map V.str) (((a':Int) + (1 + (b':Int)) * (0 + (i:Int))) % 19)=some (.str x);rw [e1];refine zB1 ?_;rw [Z4,ex];rfl
   ·rw [List.range_succ,Za];show _++[V.str x]=_++[V.str (words[(a' + (1 + b') * i) % 19]?.getD "")];rw [ex];rfl
  ·rintro ys H' ⟨rfl,rfl⟩ l1 hl1;have sL:=Same.new (o:=.lst ((List.range m').map fun j=>V.str (words[(a' + (1 + b') * j) % 19]?.getD ""))) hl1;have hl2:(upd H' l1 (.lst ((List.range m').map fun j=>V.str (words[(a' + (1 + b') * j) % 19]?.getD "")))) l1=some (.lst ((List.range m').map fun j=>V.str (words[(a' + (1 + b') * j) % 19]?.getD ""))):=zA1;generalize upd H' l1 (.lst ((List.range m').map fun j=>V.str (words[(a' + (1 + b') * j) % 19]?.getD "")))=G5 at sL hl2 ⊢;refine ⟨_,rfl,l1,rfl,⟨_,SqL.of hl2⟩,zAl (xs:=(List.range m').map fun j=>V.str (words[(a' + (1 + b') * j) % 19]?.getD "")) (fun i ys H'=>Same G5 H'∧ys=(List.range i).map fun j=>V.str (nm a' (1 + b') t j)) ⟨Same.refl _,rfl⟩ (fun i ys H' z=>SqL.of (z.1 _ _ hl2)) (fun i ys H' hi z=>?_) ?_ ?_⟩
   ·rw [z.2,Z0,Y7];rw [Z0,Y7] at hi;exact small _ (by omega)
   ·rintro i x ys H6 hi ⟨s6,rfl⟩ N hN;have hi':i < m':=by have:=(List.getElem?_eq_some_iff.mp hi).1;simpa using this
    have ex:x=V.str (words[(a' + (1 + b') * i) % 19]?.getD ""):=by
     rw [Z4,List.getElem?_range hi'] at hi;exact (Zk hi).symm
    subst ex;obtain ⟨x,ex,hxw⟩:=zCc ((a' + (1 + b') * i) % 19) (Xb _ (by decide));have en:nm a' (1 + b') t i=rotS t x:=by unfold nm;rw [ex];rfl
    rw [ex,Yp];have okx:=zD4 x hxw;refine pick ?_;refine ⟨rfl,?_⟩;refine ⟨_,rfl,x,rfl,comp_charsM (fun c=>.str ⟨#[rotC t c]⟩) (small _ (by omega)) (fun c Ry hc hR Rn=>?_) (fun q2 hq2=>?_)⟩
    ·refine pick ?_;exact ⟨_,rfl,_,rfl,c,t,rfl,okx.2 c hc,hR⟩
    ·have el:x.cps.toList.map (fun c=>V.str ⟨#[rotC t c]⟩)=((x.cps.toList.map (rotC t)).map fun c=>(⟨#[c]⟩:Str)).map V.str:=by
      rw [Zn,Zn];rfl
     have ee:("" : Str)=⟨#[]⟩:=by decide +kernel
     refine ⟨⟨#[]⟩,q2,(x.cps.toList.map (rotC t)).map fun c=>(⟨#[c]⟩:Str),congrArg V.str ee,rfl,SqL.of (by rw [zA1,el]),joinOk1 ?_,?_⟩
     ·rw [Z0,Y3];have:x.cps.size=x.length:=rfl;omega
     ·have ej:Txt.join ⟨#[]⟩ ((x.cps.toList.map (rotC t)).map fun c=>(⟨#[c]⟩:Str))=rotS t x:=by
       show Builtin.Str.glued _ _=_;rw [PySem.StrLaws.glued_eq_join,join1];rfl
      rw [ej,← en];refine hN _ _ ⟨s6.trans (Same.new hq2),?_⟩;rw [List.range_succ,Za];rfl
   ·rintro ys H6 ⟨s6,rfl⟩ l hl;rw [Z0,Y7];have sN:=Same.new (o:=.lst ((List.range m').map fun j=>V.str (nm a' (1 + b') t j))) hl;have nl:l≠p:=by
     obtain ⟨_,_,_,e,_⟩:=S6;exact (zA5 (s6 _ _ (sL _ _ e)) hl).symm
    refine q l ((List.range m').map (nm a' (1 + b') t)) _ (by rw [Z0,Y7]) (nms_nodup hb19.1 hb19.2 m' (by omega)) (fun x hx=>?_) (by rw [zA1,Zn];rfl) ?_ ?_ fun b o e hb=>?_
    ·obtain ⟨j,_,rfl⟩:=List.mem_map.mp hx;exact nm_ok _ _ _ _
    ·cases z:H l with
     | none=>rfl
     | some o =>
      have:=s6 _ _ (sL _ _ (fr _ _ (sH _ _ z) nl));rw [this] at hl;cases hl
    ·exact (src S6 fun o e=>sN _ _ (s6 _ _ (sL _ _ e))).mono (by omega)
    ·exact sN _ _ (s6 _ _ (sL _ _ (fr _ _ (sH _ _ e) hb)))
end
end L2.W
namespace L2.W
open PySem My
noncomputable def nameOk (x:Str):Prop:=nameB x=true∧PyData.strOk x=true∧x.length≤8
theorem nok {x:Str} (h:nameB x=true∧PyData.strOk x=true∧x.length≤8∧x≠"qq"):nameOk x:=⟨h.1,h.2.1,h.2.2.1⟩
structure ValsOk (vs:List Str):Prop where
 ne:0 < vs.length
 le:vs.length≤8
 nd:vs.Nodup
 ok:∀ x∈vs,nameOk x
 nq:∀ x∈vs,x≠"qq"
noncomputable def fieldD (f:Str×List Str):PyData:=.tuple [.str f.1,.list (f.2.map .str)]
noncomputable def manyOf (fs:List (Str×List Str)):Nat:=fs.foldl (fun m f=>m * f.2.length) 1
structure FieldsOk (fs:List (Str×List Str)):Prop where
 le:fs.length≤3
 nd:(fs.map (·.1)).Nodup
 ok:∀ f∈fs,nameOk f.1∧ValsOk f.2
 many:manyOf fs≤8
 nq:∀ f∈fs,f.1≠"qq"
noncomputable def SzOk (szs:List Nat):Prop:=szs.length≤3∧(∀ n∈szs,1≤n∧n≤8)∧szs.foldl (fun m n=>m * n) 1≤8
noncomputable def Tab (H0 H:Hp) (v:V):Prop:=∃ (r:Addr) (szs:List Nat),v=.ref r∧H0 r=none∧H r=some (.lst (szs.map fun (n:Nat)=>V.int (n:Int)))∧SzOk szs
noncomputable def spLFields:Sp:=fun vs H Q _=>∃ (p:Addr) (k:Int),vs=[.ref p]∧Src H p k∧k≤900000 ∧
 ∀ (l:Addr) (fs:List (Str×List Str)) (H':Hp),FieldsOk fs→Has (fun a=>H a=none) H' (.ref l) (.list (fs.map fieldD))→Src H' p (k + 30)→(∀ b o,H b=some o→b≠p→H' b=some o)→Q (.ref l) H'
noncomputable def szss:List (List Nat):=[[],[1],[2],[3],[8],[2,2],[2,3],[4,2],[2,2,2],[1,2,4],[1,1,1],[5],[7,1]]
noncomputable def tables:List (List V):=szss.map fun z=>z.map fun (n:Nat)=>V.int (n:Int)
theorem sz_ok:∀ z∈szss,z.length≤3∧(∀ n∈z,1≤n∧n≤8)∧z.foldl (fun m n=>m * n) 1≤8:=by decide
theorem zFi {α β : Type}{R : α→β→Prop}:∀ {l:List α}{m:List β},Paired R l m→∀ b∈m,∃ a∈l,R a b
 | _,_,.nil,b,h=>by simp at h
 | _,_,.cons (a:=a) r t,b,h=>by
  rcases List.mem_cons.mp h with rfl | h
  ·exact ⟨a,Zb,r⟩
  ·obtain ⟨c,hc,q⟩:=zFi t b h;exact ⟨c,Z6 _ hc,q⟩
theorem tab_all {H H':Hp}{rs:List V} (h:Laid H H' tables rs):∀ v∈rs,Tab H H' v:=by
 intro v hv;obtain ⟨vs,hvs,a,rfl,n,q⟩:=zFi h v hv;obtain ⟨z,hz,rfl⟩:=List.mem_map.mp hvs;exact ⟨a,z,rfl,n,q,sz_ok z hz⟩
theorem pickT {K:PySem.W.Frag}{A B:St→Hp→Prop}{σ : St}{H:Hp}{i j:Nat}{p:Addr}{x y:V} (hp:SqT K H p [x,y]) (h:A ((σ.set i (some x)).set j (some y)) H) :
  gTup K 2 (gCons (gName i) (gCons (gName j) gNil)) (.ref p) σ H fun σ2 H2=>tYes σ2 H2 fun b H3=>if b=true then A σ2 H3 else B σ2 H3:=by
 refine ⟨p,[x,y],rfl,hp,rfl,x,[y],rfl,y,[],rfl,rfl,?_⟩;show if true=true then A ((σ.set i (some x)).set j (some y)) H else B ((σ.set i (some x)).set j (some y)) H
 rw [if_pos rfl];exact h
theorem zip_snoc {α β : Type}:∀ {l:List α}{m:List β}{i:Nat}{a : α}{b : β},m.length=i→l[i]? = some a→(l.take (i + 1)).zip (m++[b])=(l.take i).zip m++[(a,b)]:=by
 intro l m i a b hm hl;have e:l.take (i + 1)=l.take i++[a]:=by rw [Zd,hl];rfl
 rw [e,List.zip_append]
 ·rfl
 ·have:=(List.getElem?_eq_some_iff.mp hl).1;rw [Zr];omega
theorem zCj {G:Addr→Prop}{H:Hp}:∀ {ks:List Str},(∀ x∈ks,nameOk x)→HasAll G H (ks.map V.str) (ks.map .str)
 | [],_=>.nil
 | k :: r,h=>.cons (.str k (by have:=(h k Zb).2.2;omega) (h k Zb).2.1) (zCj fun x hx=>h x (Z6 _ hx))
theorem many_eq:∀ (fs:List (Str×List Str)) (m:Nat),fs.foldl (fun m f=>m * f.2.length) m=(fs.map (·.2.length)).foldl (fun m n=>m * n) m
 | [],m=>rfl
 | f :: r,m=>by rw [Y5,Z8,Y5,many_eq r]
section
variable {P:Program}{w:World}{K:PySem.W.Frag}{mg:Str→Option Value}{base:Heap}{CX:CXT}
theorem scLf:FnScope ["_law_source", "_law_some", "_law_sizes"] ["_law_source"] (defScope sLFields):=⟨rfl,rfl,rfl,by decide +kernel,rfl,by decide +kernel,by decide +kernel⟩
set_option maxHeartbeats 4000000 in
theorem ok_lfields {f fm fn fs fnm:Addr}{fd fdm fdn fds fdnm:FuncData} (hC:Calm CX) (T:Tops K mg) (F:Fun K "_law_fields" "_law_fields" sLFields f fd) (DM:Def K mg "_law_mixed" sMixed ["_law_cell", "_law_k"] fm fdm)
  (DN:Def K mg "_law_next" sNext ["_law_source", "_law_many_here"] fn fdn) (DS:Def K mg "_law_sign" sSign ["_law_sign_here", "_law_turn"] fs fds) (DA:Def K mg "_law_names" sNames ["_law_source", "_law_many_here"] fnm fdnm):FnOk P w K mg base CX 4 f fd ["_law_source"] spLFields:=by
 have GN:FnOk P w K mg base CX 2 fn fdn ["_law_source", "_law_many_here"] spNext:=zBy hC DN.fn DM;have GA:FnOk P w K mg base CX 3 fnm fdnm ["_law_source", "_law_many_here"] spNames:=ok_names hC T DA.fn DM DN DS;refine Fun.okC F scLf (fun vs H Q E h=>?_) (fun cdv A outer s H vs Q E hr h=>?_)
 ·obtain ⟨p,k,rfl,_⟩:=h;rfl
 ·obtain ⟨p,k,rfl,S0,hk,q⟩:=h;have nd:=scLf.nd;have hr2:=hr.mono (show 2≤3 by decide)
  refine ⟨_,zA3 (zAb (i:=1) nd rfl (Or.inl rfl) (zAg (zEf (vss:=tables) (by decide +kernel) (by decide +kernel))))
   (zA3 (zAb (i:=2) nd rfl (Or.inl rfl) (zAi zAk (pv 1) (zA7 GN hr2 rfl DN.at_ DN.fn.kp DN.bind .nil (passC hC) (zA0 (pv 0) (zA0 zA4 zA2))) (fun _ _=>rfl)))
   (zA6 (zAc (zAr (T:=["_law_name", "_law_size"]) rfl ScOk.auto (pi_zip rfl T.zip (zA0 (zA7 GA hr rfl DA.at_ DA.fn.kp DA.bind .nil (passC hC) (zA0 (pv 0) (zA0 (zA9 zAe rfl T.len PySem.boot_len (zA0 (pv 2) zA2)) zA2))) (zA0 (pv 2) zA2)))
    (fun _ _ _ _=>zEo (K:=K) (n:=2) rfl rfl (zAf (zAa (i:=3) (by decide +kernel:(["_law_source", "_law_some", "_law_sizes", "_law_name", "_law_size"]:List Str).Nodup) rfl (Or.inl rfl)) (zAf (zAa (i:=4) (by decide +kernel:(["_law_source", "_law_some", "_law_sizes", "_law_name", "_law_size"]:List Str).Nodup) rfl (Or.inl rfl)) zBc))) (fun _ _ _ _=>zB2)
    (fun _ _ _ _=>zAs (zA0 (pv 3) (zA0 (zA7 GA hr rfl DA.at_ DA.fn.kp DA.bind .nil (passC hC) (zA0 (pv 0) (zA0 (pv 4) zA2))) zA2))))))),?_⟩
  have small:∀ n:Nat,n≤1000→n≤sizeLine:=fun n h=>Zm (small1000 h);have src:∀ {H1 H2:Hp}{j:Int},Src H1 p j→(∀ o,H1 p=some o→H2 p=some o)→Src H2 p j:=fun ⟨a,c,i,e,r⟩ h=>⟨a,c,i,h _ e,r⟩;have np:∀ {G:Hp}{j:Int}{b:Addr},Src G p j→G b=none→b≠p:=fun ⟨_,_,_,e,_⟩ h=>(zA5 e h).symm;refine fun rs G0 s0 L0=>⟨?_,fun w hw=>?_⟩
  ·rw [← L0.length];exact small _ (by decide)
  have lrs:rs.length=13:=L0.length.symm;have s1:Same H (upd G0 w (.lst rs)):=s0.trans (Same.new hw);have tab:∀ v∈rs,Tab H (upd G0 w (.lst rs)) v:=tab_all (L0.mono (Same.refl _) (Same.new hw));have hw1:(upd G0 w (.lst rs)) w=some (.lst rs):=zA1;have fw:H w=none:=s0.free hw;generalize upd G0 w (.lst rs)=G1 at s1 tab hw1 ⊢;have S1:Src G1 p k:=src S0 fun o e=>s1 _ _ e;refine ⟨_,rfl,_,rfl,p,_,k,rfl,S1,by omega,by decide,by decide,fun d G2 d0 d1 S2 k2=>?_⟩;obtain ⟨v,hv,hm⟩:=atI_ex rs d0 (by rw [lrs];exact d1);obtain ⟨r,szs,rfl,fr0,hr1,ok⟩:=tab v hm;have hr2:G2 r=some (.lst (szs.map fun (n:Nat)=>V.int (n:Int))):=by rw [k2 r (np S0 fr0)];exact hr1
  refine ⟨w,rs,d,_,rfl,rfl,SqL.of (by rw [k2 w (np S0 fw)];exact hw1),hv,?_⟩;have g2:∀ b o,H b=some o→b≠p→G2 b=some o:=fun b o e hb=>by rw [k2 b hb];exact s1 _ _ e
  obtain ⟨z3,zn,zm⟩:=ok;refine ⟨_,rfl,_,rfl,r,_,rfl,.inl (SqL.of hr2),p,_,_,rfl,S2,by omega,by rw [Z0];omega,by rw [Z0];omega,fun l1 ks G3 e1 n1 o1 hl1 f1 S3 k3=>⟨_,rfl,?_⟩⟩;rw [Z0] at e1;have hr3:G3 r=some (.lst (szs.map fun (n:Nat)=>V.int (n:Int))):=k3 _ _ hr2 (np S0 fr0);have g3:∀ b o,H b=some o→b≠p→G3 b=some o:=fun b o e hb=>k3 _ _ (g2 b o e hb) hb;have nl1:l1≠p:=np S2 f1
  refine ⟨l1,r,rfl,⟨_,SqL.of hl1⟩,⟨_,SqL.of hr3⟩,zF7 (J:=Itz K l1 r) (n:=szs.length) (fun i ys G=>(∀ b o,G3 b=some o→b≠p→G b=some o)∧Src G p (k + 6 + 5 * i)∧∃ vss:List (List Str),vss.length=i ∧
   HasAll (fun a=>H a=none) G ys (((ks.take i).zip vss).map fieldD)∧∀ (j:Nat) (vs:List Str),vss[j]? = some vs→ValsOk vs∧szs[j]? = some vs.length) ⟨fun _ _ e _=>e,S3.mono (by omega),[],rfl,.nil,fun j vs h=>by simp at h⟩ ?_ ?_ ?_ ?_ ?_⟩
  ·rintro i ys G lt ⟨fr,_⟩;exact ⟨_,_,_,_,SqL.of (fr _ _ hl1 nl1),SqL.of (fr _ _ hr3 (np S0 fr0)),Z1 (by rw [Z0];omega),Z1 (by rw [Z0];exact lt)⟩
  ·rintro ys G ⟨fr,_⟩;exact ⟨_,_,SqL.of (fr _ _ hl1 nl1),SqL.of (fr _ _ hr3 (np S0 fr0)),.inr (by rw [Z0];exact Z5 _)⟩
  ·rintro i ys G hi ⟨_,_,vss,hv,hh,_⟩;have:=hh.length;rw [Z0,List.length_zip] at this;exact small _ (by omega)
  ·rintro i ys G x G' lt ⟨fr,S,vss,hvl,hh,ho⟩ ⟨p2,x0,y0,rfl,hp2,rfl,hx,hy⟩ N hN;have hx':=hx _ (SqL.of (fr _ _ hl1 nl1));have hy':=hy _ (SqL.of (fr _ _ hr3 (np S0 fr0)));rw [Z4] at hx' hy';obtain ⟨nk,hnk⟩:∃ nk,ks[i]? = some nk:=⟨_,Z1 (by omega)⟩;obtain ⟨sz,hsz⟩:∃ sz,szs[i]? = some sz:=⟨_,Z1 lt⟩;rw [hnk] at hx';rw [hsz] at hy';cases hx';cases hy';obtain ⟨z1,z8⟩:=zn sz (Z3 hsz);have np2:p2≠p:=np S hp2;have s2:=Same.new (o:=.tup [V.str nk,V.int (sz:Int)]) hp2;have S':Src (upd G p2 (.tup [V.str nk,V.int (sz:Int)])) p (k + 6 + 5 * i):=src S fun o e=>s2 _ _ e;refine pickT (SqT.of zA1) ?_;refine ⟨_,rfl,_,rfl,_,rfl,p,_,_,rfl,S',by omega,by omega,by omega,fun l2 vs G4 e2 n2 o2 hl2 f2 S4 k4=>⟨by show 2≤sizeLine;decide,fun t ht=>hN _ _ ⟨fun b o e hb=>?_,?_,vss++[vs],?_,?_,?_⟩⟩⟩
   ·exact (Same.new ht) _ _ (k4 _ _ (s2 _ _ (fr b o e hb)) hb)
   ·exact (src S4 fun o e=>(Same.new ht) _ _ e).mono (by push_cast;omega)
   ·rw [Z7,hvl];rfl
   ·have bk:∀ b,(upd G p2 (.tup [V.str nk,V.int (sz:Int)])) b=none→H b=none:=fun b e=>by
     cases z:H b with
     | none=>rfl
     | some o =>
      have hb:b≠p:=np S' e;rw [s2 _ _ (fr _ _ (g3 _ _ z hb) hb)] at e;cases e
    have nt:t≠p:=np S4 ht;have ft:H t=none:=by
     cases z:H t with
     | none=>rfl
     | some o =>
      rw [k4 _ _ (s2 _ _ (fr _ _ (g3 _ _ z nt) nt)) nt] at ht;cases ht
    rw [zip_snoc hvl hnk,Za];have onk:nameOk nk:=nok (o1 nk (Z3 hnk));refine HasAll.snoc (hh.frame fun b o g e=>⟨g,?_⟩) (.tup ft zA1 (by show 2≤1000;decide) (.cons (.str nk (Zl onk.2.2 (by decide)) onk.2.1) (.cons (.lst (bk _ f2) ((Same.new ht) _ _ hl2) (by rw [Z0];omega) (zCj fun x hx=>nok (o2 x hx))) .nil)));have hb:b≠p:=by obtain ⟨_,_,_,e',_⟩:=S0;rintro rfl;rw [e'] at g;cases g
    exact (Same.new ht) _ _ (k4 _ _ (s2 _ _ e) hb)
   ·intro j ws hj;by_cases lt2:j < vss.length
    ·rw [Zq lt2] at hj;exact ho j ws hj
    ·rw [Zz (by omega)] at hj;have ej:j=i:=by
      have:=(List.getElem?_eq_some_iff.mp hj).1;simp only [Zj,Xh] at this;omega
     subst ej;rw [hvl,Nat.sub_self] at hj;cases hj;have e3:vs.length=sz:=by omega
     exact ⟨⟨by omega,by omega,n2,fun x hx=>nok (o2 x hx),fun x hx=>(o2 x hx).2.2.2⟩,by rw [hsz,e3]⟩
  ·rintro ys G ⟨fr,S,vss,hvl,hh,ho⟩ l hl;have ek:ks.length=szs.length:=by omega
   have et:ks.take szs.length=ks:=by rw [← ek,Zh]
   rw [et] at hh;have nl:l≠p:=np S hl;have fl:H l=none:=by
    cases z:H l with
    | none=>rfl
    | some o =>
     rw [fr _ _ (g3 _ _ z nl) nl] at hl;cases hl
   have lz:(ks.zip vss).length=szs.length:=by rw [List.length_zip];omega
   have lys:ys.length≤1000:=by
    have:=hh.length;rw [Z0] at this;omega
   refine q l (ks.zip vss) _ ⟨by omega,?_,?_,?_,fun f hf=>?_⟩ (.lst fl zA1 lys (hh.mono (Same.new hl))) ((src S fun o e=>(Same.new hl) _ _ e).mono (by omega)) fun b o e hb=>(Same.new hl) _ _ (fr _ _ (g3 _ _ e hb) hb)
   ·rw [List.map_fst_zip (by omega)];exact n1
   ·intro f hf;obtain ⟨j,hj⟩:=List.getElem?_of_mem hf;have hj':=List.getElem?_zip_eq_some.mp (show (ks.zip vss)[j]? = some (f.1,f.2) from hj);exact ⟨nok (o1 _ (Z3 hj'.1)),(ho j f.2 hj'.2).1⟩
   ·unfold manyOf;rw [many_eq];have em:(ks.zip vss).map (·.2.length)=szs:=by
     apply List.ext_getElem?;intro j;rw [Z4];cases q1:(ks.zip vss)[j]? with
     | none =>
      have:=List.getElem?_eq_none_iff.mp q1;exact (List.getElem?_eq_none_iff.mpr (by omega)).symm
     | some f =>
      have hj':=List.getElem?_zip_eq_some.mp (show (ks.zip vss)[j]? = some (f.1,f.2) from q1);rw [(ho j f.2 hj'.2).2];rfl
    rw [em];exact zm
   ·obtain ⟨j,hj⟩:=List.getElem?_of_mem hf;have hj':=List.getElem?_zip_eq_some.mp (show (ks.zip vss)[j]? = some (f.1,f.2) from hj);exact (o1 _ (Z3 hj'.1)).2.2.2
end
end L2.W
namespace L2.W
open PySem My
theorem zFg:∀ ks:List Str,strsOf (ks.map PyData.str)=ks
 | []=>rfl
 | k :: r=>by
  show k :: strsOf (r.map PyData.str)=k :: r;rw [zFg r]
theorem zD6 {ks:List Str} (h:∀ x∈ks,nameB x=true) (nd:ks.Nodup):unlikeB (ks.map PyData.str)=true:=by
 unfold unlikeB;rw [zFg,decide_eq_true nd,Bool.and_true,Yc];intro d hd;obtain ⟨x,hx,rfl⟩:=List.mem_map.mp hd;exact h x hx
theorem fields_ok {fs:List (Str×List Str)} (ok:FieldsOk fs):fieldsB (.list (fs.map fieldD))=true∧countD (fs.map fieldD)≤8:=by
 constructor
 ·show ((fs.map fieldD).all pairB && unlikeB ((fs.map fieldD).map firstD))=true;have e1:(fs.map fieldD).all pairB=true:=by
   rw [Yc];intro d hd;obtain ⟨f,hf,rfl⟩:=List.mem_map.mp hd;obtain ⟨_,v⟩:=ok.ok f hf;show (decide (0 < (f.2.map PyData.str).length) && unlikeB (f.2.map PyData.str))=true;rw [Z0,decide_eq_true v.ne,zD6 (fun x hx=>(v.ok x hx).1) v.nd];rfl
  have e2:(fs.map fieldD).map firstD=(fs.map (·.1)).map PyData.str:=by
   rw [Zn,Zn];rfl
  rw [e1,e2,zD6 _ ok.nd]
  ·rfl
  ·intro x hx;obtain ⟨f,hf,rfl⟩:=List.mem_map.mp hx;exact (ok.ok f hf).1.1
 ·have key:∀ (l:List (Str×List Str)) (m:Nat),(l.map fieldD).foldl (fun (m:Int) d=>m * (sizeD d:Int)) (m:Int)=((l.foldl (fun m f=>m * f.2.length) m:Nat):Int):=by
   intro l
   induction l with
   | nil=>intro m;rfl
   | cons f r ih =>
    intro m;rw [Z8,Y5,Y5,← ih];have:sizeD (fieldD f)=f.2.length:=by
     show (f.2.map PyData.str).length=_;rw [Z0]
    rw [this,Int.natCast_mul]
  have k1:=key fs 1;have k2:=ok.many;unfold countD;unfold manyOf at k2;have k3:((1:Nat):Int)=1:=rfl;rw [k3] at k1;rw [k1];omega
structure Row where
 name:Str
 fields:List (Str×List Str)
 owner:Option Str
structure RowsOk (rs:List Row):Prop where
 ne:0 < rs.length
 le:rs.length≤5
 nd:(rs.map (·.name)).Nodup
 ok:∀ r∈rs,nameOk r.name∧FieldsOk r.fields
 own:∀ (i:Nat) (r:Row) (o:Str),rs[i]? = some r→r.owner=some o→∃ (j:Nat) (r':Row),j < i∧rs[j]? = some r'∧r'.name=o
 nq:∀ r∈rs,r.name≠"qq"
noncomputable def Ready (done:List Str) (r:Row):Prop:=r.name∉done∧∀ o,r.owner=some o→o∈done
noncomputable def Greedy (M:Row→Prop) (ord:List Str):Prop:=∀ (i:Nat) (n:Str),ord[i]? = some n→(∃ r,M r∧r.name=n∧Ready (ord.take i) r)∧∀ r,M r→Ready (ord.take i) r→¬ ltS r.name n
theorem Greedy.nil {M:Row→Prop}:Greedy M []:=fun i n h=>by simp at h
theorem Greedy.snoc {M:Row→Prop}{ord:List Str}{n:Str} (g:Greedy M ord) (h1:∃ r,M r∧r.name=n∧Ready ord r) (h2:∀ r,M r→Ready ord r→¬ ltS r.name n):Greedy M (ord++[n]):=by
 intro i m e;by_cases hi:i < ord.length
 ·have e':ord[i]? = some m:=by rwa [Zq hi] at e
  have t:(ord++[n]).take i=ord.take i:=List.take_append_of_le_length (Zm hi);rw [t];exact g i m e'
 ·have hi2:i=ord.length:=by
   have:=(List.getElem?_eq_some_iff.mp e).1;simp at this;omega
  subst hi2;have:n=m:=by simpa using e
  subst this;have t:(ord++[n]).take ord.length=ord:=by simp
  rw [t];exact ⟨h1,h2⟩
theorem Greedy.nodup {M:Row→Prop}{ord:List Str} (g:Greedy M ord):ord.Nodup:=by
 suffices h:∀ k,(ord.take k).Nodup by
  have:=h ord.length
  rwa [Zh] at this
 intro k
 induction k with
 | zero=>simp
 | succ k ih =>
  cases e:ord[k]? with
  | none=>rw [Zd,e];simpa using ih
  | some n =>
   obtain ⟨⟨r,_,e1,r1⟩,_⟩:=g k n e;rw [Zd,e];refine List.nodup_append.mpr ⟨ih,by simp,fun a ha b hb=>?_⟩;have:b=n:=by simpa using hb
   rw [this];rintro rfl;exact r1.1 (e1 ▸ ha)
theorem Greedy.mem {M:Row→Prop}{ord:List Str} (g:Greedy M ord) {n:Str} (h:n∈ord):∃ r,M r∧r.name=n:=by
 obtain ⟨i,hi,e⟩:=Zu h;obtain ⟨⟨r,m,e1,_⟩,_⟩:=g i n (by rw [Z1 hi,e]);exact ⟨r,m,e1⟩
theorem zFw {α : Type} [DecidableEq α]:∀ {a b:List α},a.Nodup→(∀ x∈a,x∈b)→a.length≤b.length
 | [],_,_,_=>Zo _
 | x :: r,b,nd,h=>by
  have hx:=h x Zb;obtain ⟨n1,n2⟩:=List.nodup_cons.mp nd;have:=zFw (a:=r) (b:=b.erase x) n2 fun y hy=>(List.mem_erase_of_ne (by rintro rfl;exact n1 hy)).mpr (h y (Z6 _ hy));rw [List.length_erase_of_mem hx] at this;have:=List.length_pos_of_mem hx;simp;omega
theorem Greedy.le {rs:List Row}{ord:List Str} (g:Greedy (·∈rs) ord):ord.length≤rs.length:=by
 have:=zFw (b:=rs.map (·.name)) g.nodup fun n hn=>by
  obtain ⟨r,m,e⟩:=g.mem hn;exact List.mem_map.mpr ⟨r,m,e⟩
 rwa [Z0] at this
theorem progress {rs:List Row} (ok:RowsOk rs) {ord:List Str} (h:ord.length < rs.length):∃ r∈rs,Ready ord r:=by
 have ex:∃ (i:Nat) (r:Row),rs[i]? = some r∧r.name∉ord:=Classical.byContradiction fun hn=>by
  have:=zFw (b:=ord) ok.nd fun n hm=>by
   obtain ⟨r,hr,rfl⟩:=List.mem_map.mp hm;obtain ⟨i,hi,e⟩:=Zu hr;exact Classical.byContradiction fun k=>hn ⟨i,r,by rw [Z1 hi,e],k⟩
  rw [Z0] at this;omega
 obtain ⟨i,r,hi,hr⟩:=ex;revert r
 induction i using Nat.strongRecOn with
 | _ i ih =>
  intro r hi hr;by_cases c:∀ o,r.owner=some o→o∈ord
  ·exact ⟨r,Z3 hi,hr,c⟩
  ·have:∃ o,r.owner=some o∧o∉ord:=Classical.byContradiction fun k=>c fun o e=>Classical.byContradiction fun m=>k ⟨o,e,m⟩;obtain ⟨o,e,no⟩:=this;obtain ⟨j,r',hj,e1,e2⟩:=ok.own i r o hi e;exact ih j hj r' e1 (by rw [e2];exact no)
theorem RowsOk.owner {rs:List Row} (ok:RowsOk rs) {r:Row}{o:Str} (h:r∈rs) (e:r.owner=some o):nameOk o∧o≠r.name∧∃ r'∈rs,r'.name=o:=by
 obtain ⟨i,hi,ei⟩:=Zu h;have gi:rs[i]? = some r:=by rw [Z1 hi,ei]
 obtain ⟨j,r',hj,e1,rfl⟩:=ok.own i r o gi e;have m:=Z3 e1;refine ⟨(ok.ok r' m).1,fun k=>?_,r',m,rfl⟩;have a:(rs.map (·.name))[i]? = some r.name:=by simp [gi]
 have b:(rs.map (·.name))[j]? = some r.name:=by simp [e1,k]
 have:=nodup_at ok.nd a b;omega
end L2.W
namespace L2.W
open PySem My
structure KIsi (K:PySem.W.Frag) (C:Addr):Prop where
 ha:PySem.W.findIn K (.ref C) "__class__" = some (some (.builtin "object.__class__"))
 hn:PySem.W.specialIn K (.builtin "object.__class__") "__get__" = some (some (.builtin "getset_descriptor.__get__"))
 htk:PySem.W.takesIn K (.builtin "object.__class__")=some true
 hm:PySem.W.mroIn K C (.type "object")=some true
 one:PySem.W.kitOne K (.ref C) (.ref C)=some true
noncomputable def ownV:Option Str→V
 | none=>.non
 | some o=>.str o
noncomputable def KindO (C:Addr) (H:Hp) (p:Addr) (r:Row):Prop:=∃ dx l,H p=some (.ins C dx (kflds (.str r.name) (.ref l) (ownV r.owner)))
noncomputable abbrev KL (C:Addr) (H:Hp):List Addr→List Row→Prop:=Paired fun p r=>KindO C H p r
theorem zDv {α β : Type}{R : α→β→Prop}:∀ {l:List α}{m:List β}{i:Nat}{a : α},Paired R l m→l[i]? = some a→∃ b,m[i]? = some b∧R a b
 | _,_,_,_,.nil,e=>by simp at e
 | _,_,0,a,.cons r _,e=>by
  simp at e;subst e;exact ⟨_,rfl,r⟩
 | _,_,i + 1,a,.cons _ t,e=>by
  obtain ⟨b,h1,h2⟩:=zDv (i:=i) (a:=a) t (by simpa using e);exact ⟨b,by simpa using h1,h2⟩
theorem KindO.mono {C:Addr}{H H':Hp}{p:Addr}{r:Row} (h:KindO C H p r) (k:∀ b o,H b=some o→(∃ C dx fs,o=.ins C dx fs)→H' b=some o):KindO C H' p r:=by
 obtain ⟨dx,l,e⟩:=h;exact ⟨dx,l,k _ _ e ⟨_,_,_,rfl⟩⟩
noncomputable def RowsP (rs:List Row):Prop:=∃ rs0,RowsOk rs0∧rs.Perm rs0
theorem RowsP.nd {rs:List Row} (h:RowsP rs):(rs.map (·.name)).Nodup:=by
 obtain ⟨r0,ok,p⟩:=h;exact (p.map _).nodup_iff.mpr ok.nd
theorem RowsP.le {rs:List Row} (h:RowsP rs):0 < rs.length∧rs.length≤5:=by
 obtain ⟨r0,ok,p⟩:=h;have:=p.length_eq;have:=ok.ne;have:=ok.le;omega
theorem RowsP.ok {rs:List Row} (h:RowsP rs):∀ r∈rs,nameOk r.name∧FieldsOk r.fields:=by
 obtain ⟨r0,ok,p⟩:=h;exact fun r hr=>ok.ok r (p.mem_iff.mp hr)
theorem RowsP.progress {rs:List Row} (h:RowsP rs) {ord:List Str} (hl:ord.length < rs.length):∃ r∈rs,Ready ord r:=by
 obtain ⟨r0,ok,p⟩:=h;obtain ⟨r,hr,q⟩:=L2.W.progress ok (ord:=ord) (by rw [← p.length_eq];exact hl);exact ⟨r,p.mem_iff.mpr hr,q⟩
noncomputable def spAreKinds (C:Addr):Sp:=fun vs H Q _=>∃ (l:Addr) (ps:List Addr) (rs:List Row),vs=[.ref l]∧H l=some (.lst (ps.map V.ref))∧KL C H ps rs∧RowsP rs∧∀ H',Same H H'→Q (.bl true) H'
section
variable {P:Program}{w:World}{K:PySem.W.Frag}{mg:Str→Option Value}{base:Heap}{CX:CXT}
theorem scAk:FnScope ["things"] ["things"] (defScope sAreKinds):=⟨rfl,rfl,rfl,by decide +kernel,rfl,by decide +kernel,by decide +kernel⟩
theorem ok_areKinds {f fu fn C fI:Addr}{fd fdu fdn:FuncData} (hC:Calm CX) (T:Tops K mg) (KC:KCls K mg C fI) (KI:KIsi K C) (F:Fun K "are_kinds" "are_kinds" sAreKinds f fd) (DN:Def K mg "is_name" sIsName ["thing"] fn fdn)
  (DU:Def K mg "are_unlike_names" sUnlike ["things"] fu fdu):FnOk P w K mg base CX 3 f fd ["things"] (spAreKinds C):=by
 have GU:FnOk P w K mg base CX 2 fu fdu ["things"] spUnlike:=zDh hC T DU.fn DN;refine Fun.okC F scAk (fun vs H Q E h=>?_) (fun cdv A outer s H vs Q E hr h=>?_)
 ·obtain ⟨l,ps,rs,rfl,_⟩:=h;rfl
 ·obtain ⟨l,ps,rs,rfl,hl,hk,rp,k⟩:=h
  refine ⟨_,zA3 (zAx (PW.pt (zCz (zAw (zAy (zA9 zAn rfl T.isinst PyProof.Rows.boot_isinstance (zA0 (pv 0) (zA0 (zB9 (v:=.ty "list") rfl T.list PyProof.Rows.boot_list rfl) zA2)))))
    (zBm (zAj zDw (zA9 zAe rfl T.len PySem.boot_len (zA0 (pv 0) zA2)) zA4 (nomark _))))) (zA6 (zAc zBo)) zAd)
   (zA3 (zAx (zAw (zAy (zA9 (zBi rfl) rfl T.all PyProof.Rows.boot_all (zA0 (zAr (T:=["thing"]) rfl ScOk.auto (zAh (pv 0)) (fun _ _ _ _=>zAa (i:=1) (by decide +kernel:(["things", "thing"]:List Str).Nodup) rfl (Or.inl rfl)) (fun _ _ _ _=>zB2)
    (fun _ _ _ _=>zA9 (call_isinstK (K:=K) rfl) rfl T.isinst PyProof.Rows.boot_isinstance (zA0 (pv 1) (zA0 (zB7 (v:=.ref C) rfl KC.mgC rfl) zA2)))) zA2)))) (zA6 (zAc zBo)) zAd)
   (zA6 (zAc (zA7 GU hr rfl DU.at_ DU.fn.kp DU.bind .nil (passC hC) (zA0 (zAr (T:=["kind"]) rfl ScOk.auto (zAh (pv 0)) (fun _ _ _ _=>zAa (i:=1) (by decide +kernel:(["things", "kind"]:List Str).Nodup) rfl (Or.inl rfl)) (fun _ _ _ _=>zB2)
    (fun _ _ _ _=>zD1 (K:=K) rfl (pv 1) rfl)) zA2))))),?_⟩
  have len:ps.length=rs.length:=Paired.length hk;obtain ⟨l0,l5⟩:=rp.le;have small:∀ n:Nat,n≤1000→n≤sizeLine:=fun n h=>Zm (small1000 h);refine ⟨_,rfl,_,_,_,_,_,rfl,.lst hl,rfl,rfl,_,rfl,iteF ?_⟩;refine ⟨_,rfl,l,_,rfl,.inl (SqL.of hl),rfl,_,rfl,?_⟩;rw [decide_eq_false (show ¬ V.int ((ps.map V.ref).length:Int)=V.int 0 by intro z0;injection z0 with z0;rw [Z0] at z0;omega)];refine iteF ?_;refine ⟨_,rfl,l,rfl,⟨_,SqL.of hl⟩,zAl (xs:=ps.map V.ref) (fun i ys H'=>H=H'∧ys=(List.replicate i true).map V.bl) ⟨rfl,rfl⟩ (fun i ys H' p=>by rw [← p.1];exact SqL.of hl) (fun i ys H' hi p=>?_) ?_ ?_⟩
  ·rw [p.2,Z0,Y8];rw [Z0] at hi;exact small _ (by omega)
  ·rintro i x ys H' hi ⟨rfl,rfl⟩ N hN;rw [Z4] at hi;cases ep:ps[i]? with
   | none=>rw [ep] at hi;cases hi
   | some p =>
    rw [ep] at hi;cases hi;obtain ⟨r,er,dx,lf,e⟩:=zDv hk ep;refine pick ?_;refine ⟨_,rfl,_,_,_,_,_,rfl,.ins e KC.cl KI.ha KI.hn KI.htk KI.hm,rfl,KI.one,hN _ _ ⟨rfl,?_⟩⟩;rw [List.replicate_succ',Za];rfl
  ·rintro ys H' ⟨rfl,rfl⟩ q hq;rw [Z0];have s1:Same H (upd H q (.lst ((List.replicate ps.length true).map V.bl))):=Same.new hq;refine ⟨q,List.replicate ps.length true,rfl,SqL.of zA1,_,rfl,?_⟩;have ea:(List.replicate ps.length true).all id=true:=by simp
   rw [ea];refine iteF ?_;generalize upd H q (.lst ((List.replicate ps.length true).map V.bl))=H2 at s1 ⊢;refine ⟨_,rfl,l,rfl,⟨_,SqL.of (s1 _ _ hl)⟩,zAl (xs:=ps.map V.ref) (fun i ys H'=>H2=H'∧ys=((rs.take i).map (·.name)).map V.str) ⟨rfl,rfl⟩ (fun i ys H' p=>by rw [← p.1];exact SqL.of (s1 _ _ hl)) (fun i ys H' hi p=>?_) ?_ ?_⟩
   ·rw [p.2,Z0,Z0];have:(rs.take i).length≤rs.length:=by rw [Zr];omega
    exact small _ (by omega)
   ·rintro i x ys H' hi ⟨rfl,rfl⟩ N hN;rw [Z4] at hi;cases ep:ps[i]? with
    | none=>rw [ep] at hi;cases hi
    | some p =>
     rw [ep] at hi;cases hi;obtain ⟨r,er,dx,lf,e⟩:=zDv hk ep;refine pick ?_;refine ⟨_,rfl,p,C,dx,_,_,rfl,s1 _ _ e,KC.cl,KC.nN,zEz _ _ _,hN _ _ ⟨rfl,?_⟩⟩;rw [Zd,er,Za,Za];rfl
   ·rintro ys H' ⟨rfl,rfl⟩ q2 hq2;rw [Z0,len,Zh];refine ⟨_,(rs.map (·.name)).map PyData.str,rfl,.lst trivial zA1 (by rw [Z0,Z0];omega) (zCj fun x hx=>?_),fun H4 s4=>?_⟩
    ·obtain ⟨r,hr,rfl⟩:=List.mem_map.mp hx;exact (rp.ok r hr).1
    ·rw [zD6 (fun x hx=>?_) rp.nd]
     ·exact k _ (s1.trans ((Same.new hq2).trans s4))
     ·obtain ⟨r,hr,rfl⟩:=List.mem_map.mp hx;exact (rp.ok r hr).1.1
end
end L2.W
namespace L2.W
open PySem My
noncomputable def lamPos:Pos:=⟨71,31,71,53⟩
noncomputable def lamQ:Str:=(("placed_by_owners" : Str)++".<locals>.")++"<lambda>"
noncomputable def readyB (done:List Str) (r:Row):Bool:=decide (r.name∉done) && (match r.owner with | none=>true | some o=>decide (o∈done))
theorem readyB_iff {done:List Str}{r:Row}:readyB done r=true ↔ Ready done r:=by
 unfold readyB Ready;cases r.owner with
 | none=>simp
 | some o=>simp
noncomputable abbrev Placed (zs:List (Addr×Row)):List Str→List (Key×V)→Prop:=Paired fun n kv=>∃ q∈zs,kv=(Sum.inr n,V.ref q.1)∧q.2.name=n
theorem Placed.val {zs:List (Addr×Row)}:∀ {ord:List Str}{kvs:List (Key×V)},Placed zs ord kvs→∀ n:Str,(valV kvs (Sum.inr n)).isSome=decide (n∈ord)
 | _,_,.nil,n=>by simp [valV]
 | m :: ord,kv :: kvs,.cons r t,n=>by
  obtain ⟨q,_,rfl,e⟩:=r;by_cases c:m=n
  ·rw [zBb (by rw [c])];simp [c]
  ·rw [zB0 (by intro z;exact c (Sum.inr.inj z)),Placed.val t n];simp [Ne.symm c]
theorem Placed.get {zs:List (Addr×Row)}:∀ {ord:List Str}{kvs:List (Key×V)},Placed zs ord kvs→∀ n:Str,n∈ord→∃ q∈zs,valV kvs (Sum.inr n)=some (V.ref q.1)∧q.2.name=n
 | _,_,.nil,n,h=>by cases h
 | m :: ord,kv :: kvs,.cons r t,n,h=>by
  obtain ⟨q,hq,rfl,e⟩:=r;by_cases c:m=n
  ·exact ⟨q,hq,zBb (by rw [c]),e.trans c⟩
  ·rcases List.mem_cons.mp h with h | h
   ·exact absurd h.symm c
   ·obtain ⟨q',h1,h2,h3⟩:=Placed.get t n h;exact ⟨q',h1,by rw [zB0 (by intro z;exact c (Sum.inr.inj z))];exact h2,h3⟩
theorem Placed.keys {zs:List (Addr×Row)}:∀ {ord:List Str}{kvs:List (Key×V)},Placed zs ord kvs→kvs.map (fun kv=>kV kv.1)=ord.map V.str
 | _,_,.nil=>rfl
 | m :: ord,kv :: kvs,.cons r t=>by
  obtain ⟨q,hq,rfl,e⟩:=r;rw [Z8,Z8,Placed.keys t];rfl
theorem zD2 {α β : Type}{R : α→β→Prop}:∀ {l:List α}{m:List β}{a : α}{b : β},Paired R l m→R a b→Paired R (l++[a]) (m++[b])
 | _,_,_,_,.nil,r=>.cons r .nil
 | _,_,_,_,.cons r t,q=>.cons r (zD2 t q)
theorem zEd {kvs:List (Key×V)}{k:Key}{v:V} (h:(valV kvs k).isSome=false):putK kvs k v=kvs++[(k,v)]:=by
 unfold putK;rw [zEc,h];rfl
structure Zs (C:Addr) (H:Hp) (zs:List (Addr×Row)):Prop where
 at_:∀ q∈zs,KindO C H q.1 q.2
 nd:(zs.map fun q=>q.2.name).Nodup
 le:zs.length≤50
theorem Zs.mono {C:Addr}{H H':Hp}{zs:List (Addr×Row)} (z:Zs C H zs) (k:∀ b o,H b=some o→(∃ C dx fs,o=.ins C dx fs)→H' b=some o):Zs C H' zs:=⟨fun q hq=>(z.at_ q hq).mono k,z.nd,z.le⟩
noncomputable def spPlaced (C Pt:Addr):Sp:=fun vs H Q _=>∃ (l:Addr) (zs:List (Addr×Row)),vs=[.ref l]∧H l=some (.lst (zs.map fun q=>V.ref q.1))∧Zs C H zs∧TabOk H Pt lamPos lamQ ∧
 ∀ (d:Addr) (ord:List Str) (kvs:List (Key×V)) (H':Hp),H d=none→H' d=some (.dK kvs)→Placed zs ord kvs→Greedy (·∈zs.map (·.2)) ord→(∀ r∈zs.map (·.2),¬ Ready ord r)→TabOk H' Pt lamPos lamQ→GrownBut Pt H H'→Q (.ref d) H'
theorem _root_.L2.GrownBut.trans {P:Addr}{a b c:Hp} (x:GrownBut P a b) (y:GrownBut P b c):GrownBut P a c:=fun p o e n=>y p o (x p o e n) n
theorem _root_.L2.GrownBut.same {P:Addr}{a b:Hp} (x:Same a b):GrownBut P a b:=fun p o e _=>x p o e
theorem _root_.L2.TabOk.same {H H':Hp}{P:Addr}{pos:Pos}{q:Str} (T:TabOk H P pos q) (k:Same H H'):TabOk H' P pos q:=T.stay k
theorem _root_.L2.TabOk.upd {H:Hp}{P:Addr}{pos:Pos}{q:Str}{p:Addr}{u o:HO} (T:TabOk H P pos q) (hp:H p=some u) (h1:∀ ps,u≠.tbl ps) (h2:∀ f,u≠.ext f):TabOk (upd H p o) P pos q :=
 T.but hp h1 h2 fun b x e nb=>by rw [zA8 nb];exact e
theorem zC9 {zs:List (Addr×Row)}{i:Nat}{q:Addr×Row} (p:Addr×Row→Bool) (h:zs[i]? = some q):(zs.take (i + 1)).filter p=if p q=true then (zs.take i).filter p++[q] else (zs.take i).filter p:=by
 rw [Zd,h,Yu];cases e:p q <;> simp [e]
section
variable {P:Program}{w:World}{K:PySem.W.Frag}{mg:Str→Option Value}{base:Heap}{CX:CXT}
theorem scPl:FnScope ["kinds", "placed", "ready", "first"] ["kinds"] (defScope sPlaced):=⟨rfl,rfl,rfl,by decide +kernel,rfl,by decide +kernel,by decide +kernel⟩
theorem ok_placed {f C fI c Pt:Addr}{fd:FuncData} (hC:Calm CX) (T:Tops K mg) (KC:KCls K mg C fI) (LT:LamTxt K mg base c Pt) (F:FunL K "placed_by_owners" "placed_by_owners" sPlaced f fd c):FnOk P w K mg base CX 4 f fd ["kinds"] (spPlaced C Pt):=by
 refine FunL.okC F scPl (fun vs H Q E h=>?_) (fun A outer s H vs Q E hr h=>?_)
 ·obtain ⟨l,zs,rfl,_⟩:=h;rfl
 ·obtain ⟨l,zs,rfl,hl,hz,hT,k⟩:=h;have nd:=scPl.nd;have hr2:=hr.mono (show 2≤3 by decide);have hu:=hu_of hr
  refine ⟨_,zA3 (zAb (i:=1) nd rfl (Or.inr rfl) zC6)
   (zA3 (zBh (T:=["kind"]) (i:=2) rfl ScOk.auto (zAh (pv 0)) (fun _ _ _ _=>zAa (i:=4) (by decide +kernel:(["kinds", "placed", "ready", "first", "kind"]:List Str).Nodup) rfl (Or.inl rfl))
    (fun _ _ _ _=>zEp (zCa (zEt (zD1 (K:=K) rfl (pv 4) rfl)))) (fun _ _ _ _=>pv 4) nd rfl rfl rfl)
   (zA3 (zEe PassesOwn.never (zG1 (pv 2) (fun _=>rfl))
    (zA3 (zAb (i:=3) nd rfl (Or.inl rfl) (zEr LT rfl hr2 rfl rfl T.min (zA0 (pv 2) zA2) (by exact ⟨rfl,rfl,rfl,by decide +kernel,rfl⟩)))
    (zA3 (zDr hu (pv 1) (zBg (pv 3) rfl) (pv 3) rfl)
    (zA6 (zBh (T:=["kind"]) (i:=2) rfl ScOk.auto (zAh (pv 0)) (fun _ _ _ _=>zAa (i:=4) (by decide +kernel:(["kinds", "placed", "ready", "first", "kind"]:List Str).Nodup) rfl (Or.inl rfl))
     (fun _ _ _ _=>zEp (PW.pt (zEl (zCa (zDg hu (zD1 (K:=K) rfl (pv 4) rfl) (pv 1))) (zD0 (PW.pt (zCz (zCa (zEt (zD1 (K:=K) rfl (pv 4) rfl))) (zBm (zCa (pc_din hu (zD1 (K:=K) rfl (pv 4) rfl) (pv 1)))))))))) (fun _ _ _ _=>pv 4) nd rfl rfl rfl)))))
   (zA6 (zAc (pv 1))))),?_⟩
  have small:∀ n:Nat,n≤1000→n≤sizeLine:=fun n h=>Zm (small1000 h);have flen:∀ (p:Addr×Row→Bool) (i:Nat),((zs.take i).filter p).length≤50:=fun p i=>by
   have h1:=Yw p (zs.take i);have h2:(zs.take i).length≤zs.length:=by rw [Zr];omega
   have:=hz.le;omega
  intro d hd;have g0:Same H (upd H d (.dK [])):=Same.new hd;have e0:(upd H d (.dK [])) d=some (.dK []):=zA1;generalize upd H d (.dK [])=H0 at g0 e0 ⊢;refine ⟨_,rfl,l,rfl,⟨_,SqL.of (g0 _ _ hl)⟩,zAl (xs:=zs.map fun q=>V.ref q.1) (fun i ys H'=>H0=H'∧ys=((zs.take i).filter (fun q=>readyB [] q.2)).map fun q=>V.ref q.1) ⟨rfl,rfl⟩ (fun i ys H' p=>by rw [← p.1];exact SqL.of (g0 _ _ hl)) (fun i ys H' hi p=>?_) ?_ ?_⟩
  ·rw [p.2,Z0];exact small _ (Zl (flen _ i) (by decide))
  ·rintro i x ys H' hi ⟨rfl,rfl⟩ N hN;rw [Z4] at hi;cases ep:zs[i]? with
   | none=>rw [ep] at hi;cases hi
   | some q =>
    rw [ep] at hi;cases hi;obtain ⟨dx,lf,e⟩:=hz.at_ q (Z3 ep);refine ⟨_,rfl,q.1,C,dx,_,_,rfl,g0 _ _ e,KC.cl,KC.nO,zBv _ _ _,_,rfl,?_⟩;cases eo:q.2.owner with
    | none =>
     refine iteT ⟨_,rfl,hN _ _ ⟨rfl,?_⟩⟩;rw [zC9 _ ep,if_pos (by simp [readyB,eo]),Za];rfl
    | some o =>
     refine iteF (hN _ _ ⟨rfl,?_⟩);rw [zC9 _ ep,if_neg (by simp [readyB,eo])]
  ·rintro ys H' ⟨rfl,rfl⟩ lr hlr;rw [Z0,Zh];have g1:Same H (upd H0 lr (.lst ((zs.filter fun q=>readyB [] q.2).map fun q=>V.ref q.1))):=g0.trans (Same.new hlr);have e1:=(Same.new (o:=.lst ((zs.filter fun q=>readyB [] q.2).map fun q=>V.ref q.1)) hlr) _ _ e0
   refine ⟨fun m σ H2=>∃ ord kvs lr x,m=zs.length - ord.length∧σ = [some (.ref l),some (.ref d),some (.ref lr),x]∧H2 d=some (.dK kvs)∧Placed zs ord kvs∧Greedy (·∈zs.map (·.2)) ord ∧
    H2 lr=some (.lst ((zs.filter fun q=>readyB ord q.2).map fun q=>V.ref q.1))∧TabOk H2 Pt lamPos lamQ∧GrownBut Pt H H2,⟨_,[],[],lr,none,rfl,rfl,e1,.nil,.nil,zA1,hT.same g1,.same g1⟩,?_⟩
   clear g1 e1 hlr e0 g0;rintro m σ H2 ⟨ord,kvs,lr,x,rfl,rfl,hd2,hpl,hgr,hlr,hT2,hG⟩;have hk2:∀ q∈zs,∃ dx lf,H2 q.1=some (.ins C dx (kflds (.str q.2.name) (.ref lf) (ownV q.2.owner))):=fun q hq=>by
    obtain ⟨dx,lf,e⟩:=hz.at_ q hq;exact ⟨dx,lf,hG _ _ e (hT.ne e fun _ z=>nomatch z)⟩
   refine ⟨_,rfl,_,.inl ⟨_,SqL.of hlr,rfl⟩,?_⟩;generalize ets:(zs.filter fun q=>readyB ord q.2)=ts at hlr ⊢;have mts:∀ q,q∈ts ↔ q∈zs∧Ready ord q.2:=fun q=>by rw [← ets,List.mem_filter,readyB_iff]
   by_cases c:ts=[]
   ·subst c;refine iteF ⟨_,rfl,k d ord kvs H2 hd hd2 hpl hgr (fun r hr z=>?_) hT2 hG⟩;obtain ⟨q,hq,rfl⟩:=List.mem_map.mp hr;have:=(mts q).mpr ⟨hq,z⟩;cases this
   ·have pos:0 < ts.length:=List.length_pos_iff.mpr c;rw [show (!(ts.map fun q=>V.ref q.1).isEmpty)=true by cases ts with | nil=>exact absurd rfl c | cons _ _=>rfl];refine iteT ?_
    refine ⟨fun σ' H'=>∃ m',m' < zs.length - ord.length∧∃ ord kvs lr x,m'=zs.length - ord.length∧σ'=[some (.ref l),some (.ref d),some (.ref lr),x]∧H' d=some (.dK kvs)∧Placed zs ord kvs∧Greedy (·∈zs.map (·.2)) ord ∧
     H' lr=some (.lst ((zs.filter fun q=>readyB ord q.2).map fun q=>V.ref q.1))∧TabOk H' Pt lamPos lamQ∧GrownBut Pt H H',fun _ _ h=>h,?_⟩
    refine ⟨_,rfl,lr,_,ts.map (·.2.name),rfl,SqL.of hlr,(by rw [Z0];exact pos),hT2,(by rw [Z0,Z0]),fun i v kx hi hk=>?_,fun i v kx H3 hi hk hbest hT3 hG3=>?_⟩
    ·rw [Z4] at hi hk;cases ep:ts[i]? with
     | none=>rw [ep] at hi;cases hi
     | some q =>
      rw [ep] at hi hk;cases hi;cases hk;obtain ⟨dx,lf,e⟩:=hk2 q ((mts q).mp (Z3 ep)).1;exact ⟨q.1,C,dx,_,rfl,e,KC.cl,KC.nN,zEz _ _ _⟩
    ·rw [Z4] at hi hk;cases ep:ts[i]? with
     | none=>rw [ep] at hi;cases hi
     | some q =>
      rw [ep] at hi hk;cases hi;cases hk;obtain ⟨hq,hrd⟩:=(mts q).mp (Z3 ep);have hG3':=hG.trans hG3;have hk3:∀ q∈zs,∃ dx lf,H3 q.1=some (.ins C dx (kflds (.str q.2.name) (.ref lf) (ownV q.2.owner))):=fun q hq=>by
       obtain ⟨dx,lf,e⟩:=hz.at_ q hq;exact ⟨dx,lf,hG3' _ _ e (hT.ne e fun _ z=>nomatch z)⟩
      obtain ⟨dx,lf,e⟩:=hk3 q hq;have hd3:H3 d=some (.dK kvs):=hG3 _ _ hd2 (hT2.ne hd2 fun _ z=>nomatch z);have kl:kvs.length=ord.length:=(Paired.length hpl).symm;have ol:ord.length≤zs.length:=by have:=hgr.le;rwa [Z0] at this
      refine ⟨_,rfl,_,rfl,_,rfl,q.1,C,dx,_,_,rfl,e,KC.cl,KC.nN,zEz _ _ _,d,_,rfl,DPut.k (k:=Sum.inr q.2.name) hd3 (Yi (Zl (Nat.le_of_eq kl) (Zl ol hz.le)) (small1000 (by decide))),?_⟩;have vn:(valV kvs (Sum.inr q.2.name)).isSome=false:=by rw [hpl.val];simpa using hrd.1
      rw [zEd vn];have hpl':Placed zs (ord++[q.2.name]) (kvs++[(Sum.inr q.2.name,V.ref q.1)]):=zD2 hpl ⟨q,hq,rfl,rfl⟩;have hgr':Greedy (·∈zs.map (·.2)) (ord++[q.2.name]):=hgr.snoc ⟨q.2,List.mem_map.mpr ⟨q,hq,rfl⟩,rfl,hrd⟩ fun r hr hrr=>by
       obtain ⟨q',hq',rfl⟩:=List.mem_map.mp hr;exact hbest _ (List.mem_map.mpr ⟨q',(mts q').mpr ⟨hq',hrr⟩,rfl⟩)
      have ol':(ord++[q.2.name]).length≤zs.length:=by have:=hgr'.le;rwa [Z0] at this
      have lt:zs.length - (ord++[q.2.name]).length < zs.length - ord.length:=by
       rw [Z7] at ol' ⊢;simp at ol' ⊢;omega
      generalize ord++[q.2.name]=ord' at hpl' hgr' lt;have hd4:(upd H3 d (.dK (kvs++[(Sum.inr q.2.name,V.ref q.1)]))) d=some (.dK (kvs++[(Sum.inr q.2.name,V.ref q.1)])):=zA1;have hT4:TabOk (upd H3 d (.dK (kvs++[(Sum.inr q.2.name,V.ref q.1)]))) Pt lamPos lamQ:=hT3.upd hd3 (fun _ z=>nomatch z) (fun _ z=>nomatch z);have hG4:GrownBut Pt H (upd H3 d (.dK (kvs++[(Sum.inr q.2.name,V.ref q.1)]))):=fun b o e n=>by
       rw [zA8 (zA5 e hd)];exact hG3' b o e n
      generalize upd H3 d (.dK (kvs++[(Sum.inr q.2.name,V.ref q.1)]))=H4 at hd4 hT4 hG4 ⊢;generalize kvs++[(Sum.inr q.2.name,V.ref q.1)]=kvs' at hd4 hpl';clear hk2 hk3;have hk4:∀ q∈zs,∃ dx lf,H4 q.1=some (.ins C dx (kflds (.str q.2.name) (.ref lf) (ownV q.2.owner))):=fun q hq=>by
       obtain ⟨dx,lf,e⟩:=hz.at_ q hq;exact ⟨dx,lf,hG4 _ _ e (hT.ne e fun _ z=>nomatch z)⟩
      have hl4:=hG4 _ _ hl (hT.ne hl fun _ z=>nomatch z);refine ⟨_,rfl,l,rfl,⟨_,SqL.of hl4⟩,zAl (xs:=zs.map fun q=>V.ref q.1) (fun i ys H'=>H4=H'∧ys=((zs.take i).filter (fun q=>readyB ord' q.2)).map fun q=>V.ref q.1) ⟨rfl,rfl⟩ (fun i ys H' p=>by rw [← p.1];exact SqL.of hl4) (fun i ys H' hi p=>?_) ?_ ?_⟩
      ·rw [p.2,Z0];exact small _ (Zl (flen _ i) (by decide))
      ·rintro i x ys H' hi ⟨rfl,rfl⟩ N hN;rw [Z4] at hi;cases ep:zs[i]? with
       | none=>rw [ep] at hi;cases hi
       | some q =>
        rw [ep] at hi;cases hi;obtain ⟨dx,lf,e⟩:=hk4 q (Z3 ep);have no:readyB ord' q.2=false→((zs.take i).filter (fun q=>readyB ord' q.2)).map (fun q=>V.ref q.1)=((zs.take (i + 1)).filter (fun q=>readyB ord' q.2)).map fun q=>V.ref q.1:=fun z=>by rw [zC9 _ ep,if_neg (by rw [z];simp)]
        have ye:readyB ord' q.2=true→((zs.take i).filter (fun q=>readyB ord' q.2)).map (fun q=>V.ref q.1)++[V.ref q.1]=((zs.take (i + 1)).filter (fun q=>readyB ord' q.2)).map fun q=>V.ref q.1:=fun z=>by rw [zC9 _ ep,if_pos z,Za];rfl
        refine ⟨_,rfl,q.1,C,dx,_,_,rfl,e,KC.cl,KC.nN,zEz _ _ _,_,rfl,d,_,rfl,DGet.k (k:=Sum.inr q.2.name) hd4,_,rfl,?_⟩;rw [hpl'.val];by_cases c1:q.2.name∈ord'
        ·rw [decide_eq_true c1];refine iteF (iteF (hN _ _ ⟨rfl,no ?_⟩));simp [readyB,c1]
        ·rw [decide_eq_false c1];refine iteT ⟨_,rfl,q.1,C,dx,_,_,rfl,e,KC.cl,KC.nO,zBv _ _ _,_,rfl,?_⟩;cases eo:q.2.owner with
         | none =>
          refine iteT (iteT ⟨_,rfl,hN _ _ ⟨rfl,ye ?_⟩⟩);simp [readyB,c1,eo]
         | some o =>
          have ev:(kflds (.str q.2.name) (.ref lf) (ownV q.2.owner)).lookup ("owner" : Str)=some (.str o):=by rw [zBv,eo];rfl
          refine iteF ⟨_,rfl,q.1,C,dx,_,_,rfl,e,KC.cl,KC.nO,ev,_,rfl,d,_,rfl,DGet.k (k:=Sum.inr o) hd4,_,rfl,?_⟩;rw [hpl'.val];by_cases c2:o∈ord'
          ·rw [decide_eq_true c2];refine iteT ⟨_,rfl,hN _ _ ⟨rfl,ye ?_⟩⟩;simp [readyB,c1,eo,c2]
          ·rw [decide_eq_false c2];refine iteF (hN _ _ ⟨rfl,no ?_⟩);simp [readyB,c1,eo,c2]
      ·rintro ys H' ⟨rfl,rfl⟩ lr' hlr';rw [Z0,Zh];exact ⟨_,lt,ord',kvs',lr',_,rfl,rfl,(Same.new hlr') _ _ hd4,hpl',hgr',zA1,hT4.same (Same.new hlr'),hG4.trans (.same (Same.new hlr'))⟩
end
end L2.W
namespace L2.W
open PySem My
theorem call_len_dict {X:Cx}:CallR X (.builtin "len") (fun vs H Q=>∃ d kvs,vs=[.ref d]∧Rd H d (.dK kvs)∧Q (.int (kvs.length:Nat)) H):=by
 intro pins s σ H vs us Q I rv h;obtain ⟨d,kvs,rfl,rd,q⟩:=h;obtain ⟨u,rfl,ru⟩:=v1 rv;cases (show u=Value.ref d from ru);exact d_len I rd fun t s' I'=>⟨.int _,H,I',⟨t,rfl⟩,q⟩
structure KsCls (K:PySem.W.Frag) (mg:Str→Option Value) (CK fI fOr fOf fOw:Addr):Prop where
 cl:Cls K CK
 nB:NoAttr K CK "by_name"
 mgC:mg "Kinds" = some (.ref CK)
 mkd:Mk K CK fI
 mOr:Meth K CK "order" fOr
 mOf:Meth K CK "of" fOf
 mOw:Meth K CK "owned" fOw
noncomputable def ksF (d:V):List (Str×V):=putF "by_name" d []
theorem ks_by (d:V):(ksF d).lookup ("by_name" : Str)=some d:=by
 unfold ksF;rw [zAm,if_pos rfl]
theorem zGj {m:Str} (d:V) (h:¬ m = "by_name"):(ksF d).lookup m=none:=by
 unfold ksF;rw [zAm,if_neg h];rfl
noncomputable def KindsAt (CK:Addr) (H:Hp) (p d:Addr) (kvs:List (Key×V)):Prop:=(∃ dx,H p=some (.ins CK dx (ksF (.ref d))))∧Rd H d (.dK kvs)
theorem KindsAt.mono {CK:Addr}{H H':Hp}{p d:Addr}{kvs:List (Key×V)} (h:KindsAt CK H p d kvs) (k:∀ b o,H b=some o→(∃ C dx fs,o=.ins C dx fs)∨(∃ kvs,o=.dK kvs)∨(∃ x u,o=.frz x u)→H' b=some o):KindsAt CK H' p d kvs:=by
 obtain ⟨⟨dx,e⟩,r⟩:=h;refine ⟨⟨dx,k _ _ e (.inl ⟨_,_,_,rfl⟩)⟩,?_⟩;rcases r with r | ⟨o,r⟩
 ·exact .inl (k _ _ r (.inr (.inl ⟨_,rfl⟩)))
 ·exact .inr ⟨o,k _ _ r (.inr (.inr ⟨_,_,rfl⟩))⟩
noncomputable def spInitKs (CK C Pt:Addr):Sp:=fun vs H Q _=>∃ (p dx l:Addr) (zs:List (Addr×Row)),vs=[.ref p,.ref l]∧H p=some (.ins CK dx [])∧H l=some (.lst (zs.map fun q=>V.ref q.1))∧Zs C H zs∧RowsP (zs.map (·.2))∧TabOk H Pt lamPos lamQ ∧
 ∀ (d:Addr) (ord:List Str) (kvs:List (Key×V)) (H':Hp),H' p=some (.ins CK dx (ksF (.ref d)))→H d=none→H' d=some (.dK kvs)→Placed zs ord kvs→Greedy (·∈zs.map (·.2)) ord→ord.length=zs.length→TabOk H' Pt lamPos lamQ →
  (∀ b o,H b=some o→b≠p→b≠Pt→H' b=some o)→Q .non H'
noncomputable def spOrder (CK:Addr):Sp:=fun vs H Q _=>∃ (p d:Addr) (kvs:List (Key×V)),vs=[.ref p]∧KindsAt CK H p d kvs∧∀ q,H q=none→Q (.ref q) (upd H q (.lst (kvs.map fun kv=>kV kv.1)))
noncomputable def spOf (CK:Addr):Sp:=fun vs H Q _=>∃ (p d:Addr) (kvs:List (Key×V)) (n:Str) (v:V),vs=[.ref p,.str n]∧nameOk n∧KindsAt CK H p d kvs∧valV kvs (Sum.inr n)=some v∧∀ H',Same H H'→Q v H'
section
variable {P:Program}{w:World}{K:PySem.W.Frag}{mg:Str→Option Value}{base:Heap}{CX:CXT}
theorem scKs:FnScope ["self", "kinds", "placed"] ["self", "kinds"] (defScope sInitKs):=⟨rfl,rfl,rfl,by decide +kernel,rfl,by decide +kernel,by decide +kernel⟩
theorem ok_initKs {f fI fa fp fu fn C CK fIk fOr fOf fOw c Pt:Addr}{fd fda fdp fdu fdn:FuncData} (hC:Calm CX) (T:Tops K mg) (KC:KCls K mg C fI) (KI:KIsi K C) (KS:KsCls K mg CK fIk fOr fOf fOw) (LT:LamTxt K mg base c Pt) (F:Fun K "__init__" "Kinds.__init__" sInitKs f fd)
  (DN:Def K mg "is_name" sIsName ["thing"] fn fdn) (DU:Def K mg "are_unlike_names" sUnlike ["things"] fu fdu) (DA:Def K mg "are_kinds" sAreKinds ["things"] fa fda) (DP:FunL K "placed_by_owners" "placed_by_owners" sPlaced fp fdp c) (DPa:mg "placed_by_owners" = some (.ref fp)) (DPb:Binds K fdp ["kinds"] []) :
  FnOk P w K mg base CX 5 f fd ["self", "kinds"] (spInitKs CK C Pt):=by
 have GA:FnOk P w K mg base CX 3 fa fda ["things"] (spAreKinds C):=ok_areKinds hC T KC KI DA.fn DN DU;have GP:FnOk P w K mg base CX 4 fp fdp ["kinds"] (spPlaced C Pt):=ok_placed hC T KC LT DP;refine Fun.okC F scKs (fun vs H Q E h=>?_) (fun cdv A outer s H vs Q E hr h=>?_)
 ·obtain ⟨p,dx,l,zs,rfl,_⟩:=h;rfl
 ·obtain ⟨p,dx,l,zs,rfl,hp,hl,hz,rp,hT,k⟩:=h;have nd:=scKs.nd;have hr3:=hr.mono (show 3≤4 by decide)
  refine ⟨_,zA3 (zAx (zAw (zAy (zA7 GA hr3 rfl DA.at_ DA.fn.kp DA.bind .nil (passC hC) (zA0 (pv 1) zA2)))) zAo zAd)
   (zA3 (zAb (i:=2) nd rfl (Or.inl rfl) (zA7 GP hr rfl DPa DP.kp DPb .nil (passC hC) (zA0 (pv 1) zA2)))
   (zA3 (zAx (zAj op_lt (zA9 call_len_dict rfl T.len PySem.boot_len (zA0 (pv 2) zA2)) (zA9 zAe rfl T.len PySem.boot_len (zA0 (pv 1) zA2)) (nomark _)) zAo zAd)
   (zA6 (zDd (pv 0) (pv 2) rfl)))),?_⟩
  have kl:KL C H (zs.map (·.1)) (zs.map (·.2)):=by
   have:=hz.at_;clear hl hz rp k
   induction zs with
   | nil=>exact .nil
   | cons q t ih=>exact .cons (this q Zb) (ih fun q' h=>this q' (Z6 _ h))
  refine ⟨_,rfl,l,zs.map (·.1),zs.map (·.2),rfl,(by rw [Zn];exact hl),kl,rp,fun H1 s1=>⟨_,rfl,iteF ?_⟩⟩;refine ⟨_,rfl,l,zs,rfl,s1 _ _ hl,hz.mono fun b o e _=>s1 _ _ e,hT.same s1,fun d ord kvs H2 hd hd2 hpl hgr hno hT2 hG=>?_⟩;have nT:∀ {b:Addr}{o:HO},H b=some o→(∀ ps,o≠.tbl ps)→H2 b=some o:=fun e h=>hG _ _ (s1 _ _ e) (hT.ne e h);have full:ord.length=zs.length:=by
   have a:=hgr.le;rw [Z0] at a;refine Nat.le_antisymm a (Nat.le_of_not_lt fun lt=>?_);obtain ⟨r,hr,q⟩:=rp.progress (ord:=ord) (by rw [Z0];exact lt);exact hno r hr q
  have hp2:=nT hp fun _ z=>nomatch z;have hl2:=nT hl fun _ z=>nomatch z;refine ⟨_,rfl,d,kvs,rfl,.inl hd2,_,rfl,l,_,rfl,.inl (SqL.of hl2),_,_,rfl,rfl,_,rfl,?_⟩;have kvl:kvs.length=ord.length:=(Paired.length hpl).symm;refine ite2 (fun h=>absurd (of_decide_eq_true h) (by rw [Z0];omega)) (fun _=>?_);refine ⟨_,rfl,_,rfl,p,CK,dx,[],rfl,hp2,KS.cl,KS.nB,(by show 0 < 1000;decide),?_⟩;have dp:d≠p:=Ne.symm (zA5 (s1 _ _ hp) hd);refine k d ord kvs _ zA1 ?_ (by rw [zA8 dp];exact hd2) hpl hgr full (hT2.upd hp2 (fun _ z=>nomatch z) (fun _ z=>nomatch z)) fun b o e n1 n2=>?_
  ·exact s1.free hd
  ·rw [zA8 n1];exact hG _ _ (s1 _ _ e) n2
theorem scOr:FnScope ["self"] ["self"] (defScope sOrder):=⟨rfl,rfl,rfl,by decide +kernel,rfl,by decide +kernel,by decide +kernel⟩
theorem zGf {f CK fIk fOr fOf fOw:Addr}{fd:FuncData} (T:Tops K mg) (KS:KsCls K mg CK fIk fOr fOf fOw) (F:Fun K "order" "Kinds.order" sOrder f fd):FnOk P w K mg base CX 1 f fd ["self"] (spOrder CK):=by
 refine Fun.okC F scOr (fun vs H Q E h=>?_) (fun cdv A outer s H vs Q E hr h=>?_)
 ·obtain ⟨p,d,kvs,rfl,_⟩:=h;rfl
 ·obtain ⟨p,d,kvs,rfl,⟨⟨dx,hp⟩,rd⟩,k⟩:=h;refine ⟨_,zA6 (zAc (zB3 zFd rfl T.list PyProof.Rows.boot_list (zA0 (zBg (pv 0) rfl) zA2))),?_⟩;exact ⟨_,rfl,p,CK,dx,_,_,rfl,hp,KS.cl,KS.nB,ks_by _,d,kvs,rfl,rd,rfl,fun q hq=>k q hq⟩
theorem scOf:FnScope ["self", "name"] ["self", "name"] (defScope sOf):=⟨rfl,rfl,rfl,by decide +kernel,rfl,by decide +kernel,by decide +kernel⟩
theorem zG0 {H H':Hp}{d:Addr}{u:HO} (s:Same H H') (r:Rd H d u):Rd H' d u:=by
 rcases r with r | ⟨o,r⟩
 ·exact .inl (s _ _ r)
 ·exact .inr ⟨o,s _ _ r⟩
theorem ok_of {f fn CK fIk fOr fOf fOw:Addr}{fd fdn:FuncData} (hC:Calm CX) (T:Tops K mg) (KS:KsCls K mg CK fIk fOr fOf fOw) (F:Fun K "of" "Kinds.of" sOf f fd) (DN:Def K mg "is_name" sIsName ["thing"] fn fdn):FnOk P w K mg base CX 2 f fd ["self", "name"] (spOf CK):=by
 have GN:FnOk P w K mg base CX 1 fn fdn ["thing"] spNameD:=zCt DN.fn T;refine Fun.okC F scOf (fun vs H Q E h=>?_) (fun cdv A outer s H vs Q E hr h=>?_)
 ·obtain ⟨p,d,kvs,n,v,rfl,_⟩:=h;rfl
 ·obtain ⟨p,d,kvs,n,v,rfl,nn,⟨⟨dx,hp⟩,rd⟩,hv,k⟩:=h;have hu:=hu_of hr
  refine ⟨_,zA3 (zAx (PW.pt (zCz (zAw (zAy (zA7 GN hr rfl DN.at_ DN.fn.kp DN.bind .nil (passC hC) (zA0 (pv 1) zA2)))) (zBm (zCa (zDg hu (pv 1) (zBg (pv 0) rfl)))))) zAo zAd)
   (zA6 (zAc (zDu hu (zBg (pv 0) rfl) (pv 1) (fun _ _=>rfl)))),?_⟩
  refine ⟨_,rfl,_,.str n,rfl,.str n (Zl nn.2.2 (by decide)) nn.2.1,fun H1 s1=>⟨_,rfl,?_⟩⟩;rw [show nameD (.str n)=true from nn.1];refine iteF ⟨_,rfl,_,rfl,p,CK,dx,_,_,rfl,s1 _ _ hp,KS.cl,KS.nB,ks_by _,d,_,rfl,.inl ⟨kvs,Sum.inr n,zG0 s1 rd,rfl,rfl⟩,_,rfl,?_⟩;rw [hv];refine iteF ?_;exact ⟨_,rfl,p,CK,dx,_,_,rfl,s1 _ _ hp,KS.cl,KS.nB,ks_by _,_,rfl,d,v,rfl,.inl ⟨kvs,Sum.inr n,zG0 s1 rd,rfl,hv.symm⟩,k _ s1⟩
end
end L2.W
namespace L2.W
open PySem My
theorem for_enum {K:PySem.W.Frag}{a:Addr}{xs:List V}{g:TG}{tb:TS}{D:Ends}{σ : St}{H:Hp} (Pv:Nat→St→Hp→Prop) (h0:Pv 0 σ H) (hl:∀ i σ H,i≤xs.length→Pv i σ H→SqL K H a xs)
  (hs:∀ i x σ H p,xs[i]? = some x→Pv i σ H→H p=none→g (.ref p) σ (upd H p (.tup [.int (i:Nat),x])) fun σ2 H2=>tb { D with nx:=Pv (i + 1),ct:=Pv (i + 1),bk:=D.nx } σ2 H2) (hd:∀ σ H,Pv xs.length σ H→D.nx σ H) :
  ∃ W:Nat→Nat→St→Hp→Prop,(∃ m,W 0 m σ H)∧∀ i m σ H,W i m σ H →
   ((Ite K a).stop i H∧D.nx σ H)∨((Ite K a).go i H∧∃ N:St→Hp→Prop,(∀ σ' H',N σ' H'→∃ m',m' < m∧W (i + 1) m' σ' H')∧∀ x H',(Ite K a).yld i H x H'→g x σ H' fun σ2 H2=>tb { D with nx:=N,ct:=N,bk:=D.nx } σ2 H2):=by
 refine ⟨fun i m σ H=>m=xs.length - i∧i≤xs.length∧Pv i σ H,⟨xs.length,by simp,Zo _,h0⟩,?_⟩;rintro i m σ H ⟨rfl,hi,p⟩;have q:=hl i σ H hi p;by_cases hlt:i < xs.length
 ·refine .inr ⟨⟨xs,xs[i],q,by simp [hlt]⟩,Pv (i + 1),fun σ' H' p'=>⟨xs.length - (i + 1),by omega,rfl,hlt,p'⟩,fun x H' y=>?_⟩;obtain ⟨t,z,rfl,ht,rfl,hz⟩:=y;exact hs i z σ H t (hz xs q) p ht
 ·obtain rfl:i=xs.length:=by omega
  exact .inl ⟨⟨xs,q,Z5 _⟩,hd σ H p⟩
noncomputable def ownD:Option Str→PyData
 | none=>.none
 | some o=>.str o
noncomputable def rowD (r:Row):PyData:=.tuple [.str r.name,.list (r.fields.map fieldD),ownD r.owner]
structure RowsI (rs:List Row):Prop where
 ok:∀ r∈rs,nameOk r.name∧FieldsOk r.fields
 own:∀ (i:Nat) (r:Row) (o:Str),rs[i]? = some r→r.owner=some o→∃ (j:Nat) (r':Row),j < i∧rs[j]? = some r'∧r'.name=o
 nq:∀ r∈rs,r.name≠"qq"
theorem RowsI.snoc {rs:List Row} (h:RowsI rs) {r:Row} (h1:nameOk r.name∧FieldsOk r.fields) (h2:∀ o,r.owner=some o→∃ (j:Nat) (r':Row),rs[j]? = some r'∧r'.name=o) (h3:r.name≠"qq"):RowsI (rs++[r]):=by
 refine ⟨fun q hq=>?_,fun i q o e eo=>?_,fun q hq=>(List.mem_append.mp hq).elim (h.nq q) fun hq=>by rw [List.mem_singleton.mp hq];exact h3⟩
 ·rcases List.mem_append.mp hq with hq | hq
  ·exact h.ok q hq
  ·rw [List.mem_singleton.mp hq];exact h1
 ·by_cases lt:i < rs.length
  ·rw [Zq lt] at e;obtain ⟨j,r',hj,e1,e2⟩:=h.own i q o e eo;exact ⟨j,r',hj,by rw [Zq (by omega)];exact e1,e2⟩
  ·have hi:i=rs.length:=by
    have:=(List.getElem?_eq_some_iff.mp e).1;simp at this;omega
   subst hi;have:r=q:=by simpa using e
   subst this;obtain ⟨j,r',e1,e2⟩:=h2 o eo;have hj:=(List.getElem?_eq_some_iff.mp e1).1;exact ⟨j,r',hj,by rw [Zq hj];exact e1,e2⟩
theorem zGc {G:Addr→Prop}{H:Hp}{o:Option Str} (h:∀ x,o=some x→nameOk x):Has G H (ownV o) (ownD o):=by
 cases o with
 | none=>exact .non
 | some x =>
  have:=h x rfl;exact .str x (Zl this.2.2 (by decide)) this.2.1
noncomputable def spSpecs:Sp:=fun vs H Q _=>∃ (p:Addr) (k:Int),vs=[.ref p]∧Src H p k∧k≤800000 ∧
 ∀ (l:Addr) (rs:List Row) (H':Hp),RowsOk rs→Has (fun a=>H a=none) H' (.ref l) (.list (rs.map rowD))→Src H' p (k + 300)→(∀ b o,H b=some o→b≠p→H' b=some o)→Q (.ref l) H'
theorem row_name {G:Addr→Prop}{H:Hp}{v:V}{r:Row} (h:Has G H v (rowD r)):∃ t x y,v=.ref t∧G t∧H t=some (.tup [.str r.name,x,y]):=by
 obtain ⟨t,xs,rfl,g,e,_,hx⟩:=h.tup_inv;cases hx with
 | cons h1 h2 =>
  cases h2 with
  | cons h3 h4 =>
   cases h4 with
   | cons h5 h6 =>
    cases h6;obtain ⟨rfl,_⟩:=h1.str_inv;exact ⟨t,_,_,rfl,g,e⟩
section
variable {P:Program}{w:World}{K:PySem.W.Frag}{mg:Str→Option Value}{base:Heap}{CX:CXT}
theorem k_row {R F:Option Str→Hp→Prop}{B:Prop} (t:∀ ow Hx,F ow Hx→R ow Hx) (h:(∀ ow Hx,F ow Hx→R ow Hx)→B):B:=h t
theorem scSp:FnScope ["_law_source", "_law_got", "_law_k", "_law_name", "_law_owner"] ["_law_source"] (defScope sSpecs):=⟨rfl,rfl,rfl,by decide +kernel,rfl,by decide +kernel,by decide +kernel⟩
theorem ok_specs {f fm fn fs fnm fl:Addr}{fd fdm fdn fds fdnm fdl:FuncData} (hC:Calm CX) (T:Tops K mg) (F:Fun K "_law_specs" "_law_specs" sSpecs f fd) (DM:Def K mg "_law_mixed" sMixed ["_law_cell", "_law_k"] fm fdm)
  (DN:Def K mg "_law_next" sNext ["_law_source", "_law_many_here"] fn fdn) (DS:Def K mg "_law_sign" sSign ["_law_sign_here", "_law_turn"] fs fds) (DA:Def K mg "_law_names" sNames ["_law_source", "_law_many_here"] fnm fdnm) (DL:Def K mg "_law_fields" sLFields ["_law_source"] fl fdl):FnOk P w K mg base CX 5 f fd ["_law_source"] spSpecs:=by
 have GN:FnOk P w K mg base CX 2 fn fdn ["_law_source", "_law_many_here"] spNext:=zBy hC DN.fn DM;have GA:FnOk P w K mg base CX 3 fnm fdnm ["_law_source", "_law_many_here"] spNames:=ok_names hC T DA.fn DM DN DS;have GL:FnOk P w K mg base CX 4 fl fdl ["_law_source"] spLFields:=ok_lfields hC T DL.fn DM DN DS DA;refine Fun.okC F scSp (fun vs H Q E h=>?_) (fun cdv A outer s H vs Q E hr h=>?_)
 ·obtain ⟨p,k,rfl,_⟩:=h;rfl
 ·obtain ⟨p,k,rfl,S0,hk,q⟩:=h;have nd:=scSp.nd;have hr2:=hr.mono (show 2≤4 by decide);have hr3:=hr.mono (show 3≤4 by decide)
  refine ⟨_,zA3 (zAb (i:=1) nd rfl (Or.inl rfl) (zAg zA2))
   (zA3 (zBj PassesOwn.never rfl (zG3 rfl T.enum (zA0 (zA7 GA hr3 rfl DA.at_ DA.fn.kp DA.bind .nil (passC hC) (zA0 (pv 0) (zA0 (zAp zBu zA4 (zA7 GN hr2 rfl DN.at_ DN.fn.kp DN.bind .nil (passC hC) (zA0 (pv 0) (zA0 zA4 zA2)))) zA2))) zA2))
    (zCb rfl (zAf (zAa (i:=2) nd rfl (Or.inl rfl)) (zAf (zAa (i:=3) nd rfl (Or.inl rfl)) zBc)))
    (zA3 (zAb (i:=4) nd rfl (Or.inl rfl) zBk)
    (zA3 (zAx (PW.pt (zEl (zAj zGd (pv 2) zA4 (nomark _)) (zD0 (zAj zGd (zA7 GN hr2 rfl DN.at_ DN.fn.kp DN.bind .nil (passC hC) (zA0 (pv 0) (zA0 zA4 zA2))) zA4 (nomark _)))))
     (zA6 (zAb (i:=4) nd rfl (Or.inl rfl) (zAi zAq (zAi zAk (pv 1) (zA7 GN hr2 rfl DN.at_ DN.fn.kp DN.bind .nil (passC hC) (zA0 (pv 0) (zA0 (pv 2) zA2))) (fun _ _=>rfl)) zA4 (fun _ _=>rfl)))) zAd)
    (zA6 (zBx (zCv PySem.F.plainAttrs_list PySem.F.slot_list_append PySem.F.type_list_append zCk (pv 1) (zA0 (zAs (zA0 (pv 3) (zA0 (zA7 GL hr rfl DL.at_ DL.fn.kp DL.bind .nil (passC hC) (zA0 (pv 0) zA2)) (zA0 (pv 4) zA2)))) zA2)))))))
   (zA6 (zAc (pv 1)))),?_⟩
  have small:∀ n:Nat,n≤1000→n≤sizeLine:=fun n h=>Zm (small1000 h);have src:∀ {H1 H2:Hp}{j:Int},Src H1 p j→(∀ o,H1 p=some o→H2 p=some o)→Src H2 p j:=fun ⟨a,c,i,e,r⟩ h=>⟨a,c,i,h _ e,r⟩;refine ⟨Zo _,fun lg fg=>?_⟩;have ngp:lg≠p:=by obtain ⟨_,_,_,e,_⟩:=S0;exact Ne.symm (zA5 e fg)
  have S1:Src (upd H lg (.lst [])) p k:=src S0 fun o e=>(Same.new fg) _ _ e;refine ⟨_,rfl,_,rfl,p,_,k,rfl,S1,by omega,by decide,by decide,fun d H1 d0 d1 S2 k2=>⟨_,_,rfl,rfl,p,_,_,rfl,S2,by omega,by omega,by omega,fun l1 ks H1' e1 n1 o1 hl1 f1 S3 k3=>?_⟩⟩;have hg1:H1' lg=some (.lst []):=k3 _ _ (by rw [k2 _ ngp];exact zA1) ngp;have nll:l1≠lg:=fun e=>by rw [e,k2 _ ngp,zA1] at f1;cases f1
  have nl1p:l1≠p:=by obtain ⟨_,_,_,e,_⟩:=S2;exact Ne.symm (zA5 e f1)
  have kl:ks.length≤5∧0 < ks.length:=by omega
  refine ⟨l1,rfl,⟨_,SqL.of hl1⟩,for_enum (K:=K) (a:=l1) (xs:=ks.map V.str) (fun i σ H2=>∃ (ys:List V) (rs:List Row) (x2 x3 x4:Option V),σ = [some (.ref p),some (.ref lg),x2,x3,x4]∧H2 lg=some (.lst ys)∧ys.length=i ∧
   HasAll (fun a=>H a=none∧a≠lg) H2 ys (rs.map rowD)∧rs.length=i∧rs.map (·.name)=ks.take i∧RowsI rs∧H2 l1=some (.lst (ks.map V.str))∧Src H2 p (k + 10 + 40 * i)∧(∀ b o,H b=some o→b≠p→H2 b=some o)) ?_ ?_ ?_ ?_⟩
  ·refine ⟨[],[],none,none,none,rfl,hg1,rfl,.nil,rfl,rfl,⟨(fun r h=>nomatch h),fun i r o h=>by simp at h,fun r h=>nomatch h⟩,hl1,S3.mono (by omega),fun b o e nb=>k3 _ _ ?_ nb⟩;rw [k2 b nb];exact (Same.new fg) _ _ e
  ·rintro i σ H2 _ ⟨ys,rs,x2,x3,x4,rfl,hg2,hyl,hys,hrl,hnm,ri,hl1,S2,fr2⟩;exact SqL.of hl1
  ·rintro i x σ H1 pt hi ⟨ys,rs,x2,x3,x4,rfl,hg2,hyl,hys,hrl,hnm,ri,hl1,S2,fr2⟩ hpt;rw [Z4] at hi;cases hn:ks[i]? with
   | none=>rw [hn] at hi;cases hi
   | some n =>
    rw [hn] at hi;cases hi;have onm:nameOk n:=nok (o1 n (Z3 hn));have li:i < ks.length:=(List.getElem?_eq_some_iff.mp hn).1;have sN:=Same.new (o:=.tup [.int (i:Nat),.str n]) hpt;replace hg2:=sN _ _ hg2;replace hys:=hys.mono sN;replace hl1:=sN _ _ hl1;replace S2:=src S2 fun o e=>sN _ _ e;replace fr2:∀ b o,H b=some o→b≠p→(upd H1 pt (.tup [.int (i:Nat),.str n])) b=some o:=fun b o e nb=>sN _ _ (fr2 b o e nb);have hpt2:(upd H1 pt (.tup [.int (i:Nat),.str n])) pt=some (.tup [.int (i:Nat),.str n]):=zA1;generalize upd H1 pt (.tup [.int (i:Nat),.str n])=H2 at hg2 hys hl1 S2 fr2 hpt2 ⊢;refine ⟨pt,_,rfl,SqT.of hpt2,rfl,_,_,rfl,_,_,rfl,rfl,?_⟩;refine ⟨_,rfl,_,_,rfl,rfl,_,rfl,?_⟩;refine' k_row (F:=fun ow H5=>(∀ b o,H2 b=some o→b≠p→H5 b=some o)∧Src H5 p (k + 10 + 40 * i + 2)∧(∀ x,ow=some x→nameOk x)∧∀ o,ow=some o→∃ (j:Nat) (r':Row),rs[j]? = some r'∧r'.name=o) _ (fun kr=>_);rotate_left 2
    ·refine ite2 (fun c1=>?_) (fun c1=>?_)
     ·have i0:0 < i:=by have:=of_decide_eq_true c1;omega
      refine ⟨_,rfl,p,_,_,rfl,S2,by omega,by decide,by decide,fun r H3 r0 r1 S3 k3=>⟨_,_,rfl,rfl,_,rfl,?_⟩⟩;refine ite2 (fun c2=>?_) (fun c2=>?_)
      ·refine ⟨_,rfl,_,rfl,_,rfl,p,_,_,rfl,S3,by omega,by omega,by omega,fun r2 H5 a0 a1 S5 k5=>?_⟩;have fr5:∀ b o,H2 b=some o→b≠p→H5 b=some o:=fun b o e nb=>by rw [k5 b nb,k3 b nb];exact e
       obtain ⟨j,rfl⟩:∃ j:Nat,r2=(j:Int):=⟨r2.toNat,by omega⟩;obtain ⟨y,hy⟩:∃ y,ys[j]? = some y:=⟨_,Z1 (by omega)⟩;obtain ⟨dd,hdd,hyh⟩:=hys.get hy;rw [Z4] at hdd;cases er:rs[j]? with
       | none=>rw [er] at hdd;cases hdd
       | some r' =>
        rw [er] at hdd;cases hdd;obtain ⟨t',x',y',rfl,g',et⟩:=row_name hyh;have nt':t'≠p:=by obtain ⟨_,_,_,e',_⟩:=S0;intro z;rw [z,e'] at g';exact nomatch g'.1
        have on':=(ri.ok r' (Z3 er)).1;refine ⟨lg,ys,(j:Int),_,rfl,rfl,SqL.of (fr5 _ _ hg2 ngp),zB1 hy,t',_,_,_,rfl,rfl,SqT.of (fr5 _ _ et nt'),rfl,?_⟩;rw [show V.str r'.name=ownV (some r'.name) from rfl];obtain ⟨ow,eo⟩:∃ ow,some r'.name=ow:=⟨_,rfl⟩;rw [eo];exact kr ow H5 ⟨fr5,S5.mono (by omega),fun x e=>by rw [← eo] at e;cases e;exact on',fun o e=>⟨j,r',er,by rw [← eo] at e;cases e;rfl⟩⟩
      ·exact kr none H3 ⟨fun b o e nb=>by rw [k3 b nb];exact e,S3.mono (by omega),(fun x e=>nomatch e),(fun o e=>nomatch e)⟩
     ·exact kr none H2 ⟨fun b o e nb=>e,S2.mono (by omega),(fun x e=>nomatch e),(fun o e=>nomatch e)⟩
    ·intro ow H5 hF;obtain ⟨fr5,S5,hOWN,hOW⟩:=hF;refine ⟨_,rfl,.inl ⟨rfl,_,SqL.of (fr5 _ _ hg2 ngp)⟩,_,rfl,_,rfl,p,_,rfl,S5,by omega,fun lf fs H6 fok hfs S6 k6=>⟨_,rfl,by show 3≤sizeLine;decide,fun t ht=>⟨lg,_,_,rfl,rfl,(Same.new ht) _ _ (k6 _ _ (fr5 _ _ hg2 ngp) ngp),by rw [hyl];exact small1000 (by omega),?_⟩⟩⟩;have ntl:t≠lg:=fun e=>by rw [e,k6 _ _ (fr5 _ _ hg2 ngp) ngp] at ht;cases ht
     have ntp:t≠p:=by obtain ⟨_,_,_,e,_⟩:=S6;exact Ne.symm (zA5 e ht)
     have bk5:∀ b,H5 b=none→H b=none∧b≠lg:=fun b e=>by
      have nbp:b≠p:=by obtain ⟨_,_,_,e',_⟩:=S5;exact Ne.symm (zA5 e' e)
      refine ⟨?_,?_⟩
      ·cases z:H b with
       | none=>rfl
       | some o=>rw [fr5 _ _ (fr2 _ _ z nbp) nbp] at e;cases e
      ·rintro rfl;rw [fr5 _ _ hg2 ngp] at e;cases e
     have ft:H t=none:=by
      cases z:H t with
      | none=>rfl
      | some o=>rw [k6 _ _ (fr5 _ _ (fr2 _ _ z ntp) ntp) ntp] at ht;cases ht
     have fr7:∀ b o,H2 b=some o→b≠p→b≠lg→(upd (upd H6 t (.tup [.str n,.ref lf,ownV ow])) lg (.lst (ys++[.ref t]))) b=some o:=fun b o e nb nl=>by
      rw [zA8 nl];exact (Same.new ht) _ _ (k6 _ _ (fr5 _ _ e nb) nb)
     refine ⟨ys++[.ref t],rs++[⟨n,fs,ow⟩],_,_,_,rfl,zA1,?_,?_,?_,?_,ri.snoc ⟨onm,fok⟩ hOW (o1 n (Z3 hn)).2.2.2,?_,?_,fun b o e nb=>fr7 _ _ (fr2 _ _ e nb) nb (by rintro rfl;rw [fg] at e;cases e)⟩
     ·rw [Z7,hyl];rfl
     ·rw [Za];refine HasAll.snoc (hys.frame fun b o g e=>⟨g,fr7 _ _ e (by obtain ⟨_,_,_,e',_⟩:=S0;rintro rfl;rw [e'] at g;exact nomatch g.1) g.2⟩) ?_;refine .tup ⟨ft,ntl⟩ (by rw [zA8 ntl,zA1]) (by show 3≤1000;decide) (.cons (.str n (Zl onm.2.2 (by decide)) onm.2.1) (.cons (hfs.frame fun b o g e=>⟨bk5 b g,?_⟩) (.cons (zGc hOWN) .nil)));rw [zA8 (bk5 b g).2];exact (Same.new ht) _ _ e
     ·rw [Z7,hrl];rfl
     ·rw [Za,hnm,Zd,hn];rfl
     ·exact fr7 _ _ hl1 nl1p nll
     ·obtain ⟨a,c,j,e,r1,r2⟩:=S6;refine ⟨a,c,j,?_,r1,by first | omega | (push_cast;omega)⟩;rw [zA8 (Ne.symm ngp)];exact (Same.new ht) _ _ e
  ·rintro σ H2 ⟨ys,rs,x2,x3,x4,rfl,hg2,hyl,hys,hrl,hnm,ri,hl1,S2,fr2⟩;rw [Z0] at hyl hrl hnm S2;rw [Zh] at hnm;refine ⟨_,rfl,q lg rs H2 ⟨by omega,by omega,by rw [hnm];exact n1,ri.ok,ri.own,ri.nq⟩ (.lst fg hg2 (by omega) (hys.frame fun b o g e=>⟨g.1,e⟩)) (S2.mono (by omega)) fr2⟩
end
end L2.W
namespace L2.W
open PySem My
noncomputable def turnL {α : Type} (a:Nat) (b:Bool) (l:List α):List α:=if b then (l.drop a++l.take a).reverse else l.drop a++l.take a
theorem zDo {α : Type} (a:Nat) (b:Bool) (l:List α):(turnL a b l).Perm l:=by
 have h:(l.drop a++l.take a).Perm l:=by
  refine List.perm_append_comm.trans ?_;rw [List.take_append_drop]
 unfold turnL;cases b with
 | false=>exact h
 | true=>exact (List.reverse_perm _).trans h
theorem turnL_map {α β : Type} (f : α→β) (a:Nat) (b:Bool) (l:List α):turnL a b (l.map f)=(turnL a b l).map f:=by
 unfold turnL;cases b <;> simp
theorem zAu {G:Addr→Prop}{H:Hp}:∀ {xs ys:List V}{ds es:List PyData},HasAll G H xs ds→HasAll G H ys es→HasAll G H (xs++ys) (ds++es)
 | _,_,_,_,.nil,h=>h
 | _,_,_,_,.cons a t,h=>.cons a (zAu t h)
theorem zBp {G:Addr→Prop}{H:Hp}:∀ (n:Nat) {xs:List V}{ds:List PyData},HasAll G H xs ds→HasAll G H (xs.take n) (ds.take n)
 | 0,_,_,_=>.nil
 | _ + 1,_,_,.nil=>.nil
 | n + 1,_,_,.cons a t=>.cons a (zBp n t)
theorem zBq {G:Addr→Prop}{H:Hp}:∀ (n:Nat) {xs:List V}{ds:List PyData},HasAll G H xs ds→HasAll G H (xs.drop n) (ds.drop n)
 | 0,_,_,h=>h
 | _ + 1,_,_,.nil=>.nil
 | n + 1,_,_,.cons _ t=>zBq n t
theorem zDy {G:Addr→Prop}{H:Hp}:∀ {xs:List V}{ds:List PyData},HasAll G H xs ds→HasAll G H xs.reverse ds.reverse
 | _,_,.nil=>.nil
 | _,_,.cons a t=>by
  rw [Xl,Xl];exact zAu (zDy t) (.cons a .nil)
theorem turnL_len {α : Type} (a:Nat) (b:Bool) (l:List α):(turnL a b l).length=l.length:=(zDo a b l).length_eq
theorem hasAll_turn {G:Addr→Prop}{H:Hp} (a:Nat) (b:Bool) {xs:List V}{ds:List PyData} (h:HasAll G H xs ds):HasAll G H (turnL a b xs) (turnL a b ds):=by
 unfold turnL;cases b with
 | false=>exact zAu (zBq a h) (zBp a h)
 | true=>exact zDy (zAu (zBq a h) (zBp a h))
theorem cut_from {xs:List V}{a:Nat} (h:a≤xs.length):cutV xs (some (a:Int)) none=xs.drop a:=by
 unfold cutV HT.sIx;have:¬ ((a:Int) < 0):=by omega
 simp [this,Nat.min_eq_left h,List.take_of_length_le]
theorem cut_to {xs:List V}{a:Nat} (h:a≤xs.length):cutV xs none (some (a:Int))=xs.take a:=by
 unfold cutV HT.sIx;have:¬ ((a:Int) < 0):=by omega
 simp [this,Nat.min_eq_left h]
noncomputable def spTurned (K:PySem.W.Frag):Sp:=fun vs H Q _=>∃ (p l:Addr) (xs:List V) (k:Int),vs=[.ref p,.ref l]∧SqL K H l xs∧l≠p∧Src H p k∧k≤999000∧0 < xs.length∧xs.length≤1000 ∧
 ∀ (q:Addr) (a:Nat) (b:Bool) (H':Hp),H' q=some (.lst (turnL a b xs))→H q=none→Src H' p (k + 2)→(∀ b o,H b=some o→b≠p→H' b=some o)→Q (.ref q) H'
theorem sql_keep {K:PySem.W.Frag}{H H':Hp}{l:Addr}{xs:List V} (h:SqL K H l xs) (e:∀ o,H l=some o→H' l=some o):SqL K H' l xs:=by
 rcases h with (h | ⟨o,h⟩) | h
 ·exact .inl (.inl (e _ h))
 ·exact .inl (.inr ⟨o,e _ h⟩)
 ·exact .inr h
section
variable {P:Program}{w:World}{K:PySem.W.Frag}{mg:Str→Option Value}{base:Heap}{CX:CXT}
theorem scTu:FnScope ["_law_source", "_law_things", "_law_at", "_law_got"] ["_law_source", "_law_things"] (defScope sTurned):=⟨rfl,rfl,rfl,by decide +kernel,rfl,by decide +kernel,by decide +kernel⟩
theorem ok_turned {f fm fn:Addr}{fd fdm fdn:FuncData} (hC:Calm CX) (T:Tops K mg) (F:Fun K "_law_turned" "_law_turned" sTurned f fd) (DM:Def K mg "_law_mixed" sMixed ["_law_cell", "_law_k"] fm fdm)
  (DN:Def K mg "_law_next" sNext ["_law_source", "_law_many_here"] fn fdn):FnOk P w K mg base CX 3 f fd ["_law_source", "_law_things"] (spTurned K):=by
 have GN:FnOk P w K mg base CX 2 fn fdn ["_law_source", "_law_many_here"] spNext:=zBy hC DN.fn DM;refine Fun.okC F scTu (fun vs H Q E h=>?_) (fun cdv A outer s H vs Q E hr h=>?_)
 ·obtain ⟨p,l,xs,k,rfl,_⟩:=h;rfl
 ·obtain ⟨p,l,xs,k,rfl,hl,nl,S0,hk,l0,l1,q⟩:=h;have nd:=scTu.nd
  refine ⟨_,zA3 (zAb (i:=2) nd rfl (Or.inl rfl) (zA7 GN hr rfl DN.at_ DN.fn.kp DN.bind .nil (passC hC) (zA0 (pv 0) (zA0 (zA9 zAe rfl T.len PySem.boot_len (zA0 (pv 1) zA2)) zA2))))
   (zA3 (zAb (i:=3) nd rfl (Or.inl rfl) (zAp zCi (zBd zC3 (pv 1) (zBn (pv 2)) zC5) (zBd zC3 (pv 1) zC5 (zBn (pv 2)))))
   (zA6 (zAc (zAi zAk (zAg (zA0 (pv 3) (zA0 (pe_rev (pv 3)) zA2))) (zA7 GN hr rfl DN.at_ DN.fn.kp DN.bind .nil (passC hC) (zA0 (pv 0) (zA0 zA4 zA2))) (fun _ _=>rfl))))),?_⟩
  have small:∀ n:Nat,n≤1000→n≤sizeLine:=fun n h=>Zm (small1000 h);have src:∀ {H1 H2:Hp}{j:Int},Src H1 p j→(∀ o,H1 p=some o→H2 p=some o)→Src H2 p j:=fun ⟨a,c,i,e,r⟩ h=>⟨a,c,i,h _ e,r⟩;refine ⟨_,rfl,_,rfl,l,xs,rfl,.inl hl,p,_,k,rfl,S0,by omega,by omega,by omega,fun r H1 r0 r1 S1 k1=>?_⟩;obtain ⟨a,rfl⟩:∃ a:Nat,r=(a:Int):=⟨r.toNat,by omega⟩;have hl1:SqL K H1 l xs:=sql_keep hl fun o e=>by rw [k1 l nl];exact e
  refine ⟨_,rfl,_,rfl,(a:Int),rfl,l,xs,rfl,hl1,fun p1 f1=>⟨_,rfl,_,rfl,(a:Int),rfl,l,xs,rfl,sql_keep hl1 fun o e=>(Same.new f1) _ _ e,fun p2 f2=>?_⟩⟩;have e1:=cut_from (xs:=xs) (a:=a) (by omega);have e2:=cut_to (xs:=xs) (a:=a) (by omega);rw [e1] at f2 ⊢;rw [e2];have s1:Same H1 (upd H1 p1 (.lst (xs.drop a))):=Same.new f1;have hp1:(upd H1 p1 (.lst (xs.drop a))) p1=some (.lst (xs.drop a)):=zA1;generalize upd H1 p1 (.lst (xs.drop a))=H2 at f2 s1 hp1 ⊢;have s2:Same H2 (upd H2 p2 (.lst (xs.take a))):=Same.new f2;refine ⟨p1,p2,_,_,rfl,rfl,s2 _ _ hp1,zA1,?_,fun p3 f3=>?_⟩
  ·rw [Yo,Zr];exact small _ (by omega)
  have s3:Same H1 (upd (upd H2 p2 (.lst (xs.take a))) p3 (.lst (xs.drop a++xs.take a))):=(s1.trans s2).trans (Same.new f3);have hp3:(upd (upd H2 p2 (.lst (xs.take a))) p3 (.lst (xs.drop a++xs.take a))) p3=some (.lst (xs.drop a++xs.take a)):=zA1;have n3:H1 p3=none:=(s1.trans s2).free f3;generalize upd (upd H2 p2 (.lst (xs.take a))) p3 (.lst (xs.drop a++xs.take a))=H3 at s3 hp3 ⊢;clear s1 s2 hp1 f1 f2 f3;refine ⟨_,rfl,_,rfl,p3,_,rfl,SqL.of hp3,fun p4 f4=>?_⟩;have s4:Same H3 (upd H3 p4 (.lst (xs.drop a++xs.take a).reverse)):=Same.new f4;have hp4:(upd H3 p4 (.lst (xs.drop a++xs.take a).reverse)) p4=some (.lst (xs.drop a++xs.take a).reverse):=zA1;have n4:H1 p4=none:=s3.free f4;generalize upd H3 p4 (.lst (xs.drop a++xs.take a).reverse)=H4 at s4 hp4 ⊢;refine ⟨by show 2≤sizeLine;decide,fun p5 f5=>?_⟩;have s5:Same H1 (upd H4 p5 (.lst [.ref p3,.ref p4])):=(s3.trans s4).trans (Same.new f5);have h3:=(Same.new (o:=.lst [.ref p3,.ref p4]) f5) _ _ (s4 _ _ hp3);have h4:=(Same.new (o:=.lst [.ref p3,.ref p4]) f5) _ _ hp4;have h5:(upd H4 p5 (.lst [.ref p3,.ref p4])) p5=some (.lst [.ref p3,.ref p4]):=zA1;have n5:H1 p5=none:=(s3.trans s4).free f5;generalize upd H4 p5 (.lst [.ref p3,.ref p4])=H5 at s5 h3 h4 h5 ⊢;have np:∀ {b:Addr},H1 b=none→b≠p:=fun {b} e=>by obtain ⟨_,_,_,e',_⟩:=S1;exact Ne.symm (zA5 e' e)
  have S5:Src H5 p (k + 1):=src S1 fun o e=>s5 _ _ e;refine ⟨_,rfl,p,_,_,rfl,S5,by omega,by decide,by decide,fun r H6 r0 r1 S6 k6=>?_⟩;have frame:∀ b o,H b=some o→b≠p→H6 b=some o:=fun b o e nb=>by
   rw [k6 b nb];exact s5 _ _ (by rw [k1 b nb];exact e)
  have back:∀ {b:Addr},H1 b=none→H b=none:=fun {b} e=>by rw [← k1 b (np e)];exact e
  have hp5:H6 p5=some (.lst [.ref p3,.ref p4]):=by rw [k6 _ (np n5)];exact h5
  by_cases c:r=0
  ·subst c;refine ⟨p5,_,0,_,rfl,rfl,SqL.of hp5,rfl,q p3 a false H6 ?_ (back n3) (S6.mono (by omega)) frame⟩;rw [k6 _ (np n3)];exact h3
  ·obtain rfl:r=1:=by omega
   refine ⟨p5,_,1,_,rfl,rfl,SqL.of hp5,rfl,q p4 a true H6 ?_ (back n4) (S6.mono (by omega)) frame⟩;rw [k6 _ (np n4)];exact h4
end
end L2.W
namespace L2.W
open PySem My
theorem zBl {G:Addr→Prop}{H:Hp}{v:V}{f:Str×List Str} (h:Has G H v (fieldD f)):∃ a l,v=.ref a∧H a=some (.tup [.str f.1,.ref l])∧H l=some (.lst (f.2.map V.str)):=by
 obtain ⟨a,xs,rfl,_,ha,_,hx⟩:=h.tup_inv;cases hx with
 | cons h1 hx =>
  cases hx with
  | cons h2 hx =>
   cases hx;obtain ⟨rfl,_⟩:=h1.str_inv;obtain ⟨l,ys,rfl,_,hl,_,hy⟩:=h2.list_inv;refine ⟨a,l,rfl,ha,?_⟩;rw [hl]
   congr 2
   clear hl h2 ha h;generalize f.2=vs at hy
   induction vs generalizing ys with
   | nil=>cases hy;rfl
   | cons x r ih =>
    cases hy with
    | cons q t =>
     obtain ⟨rfl,_⟩:=q.str_inv;rw [Z8,ih _ (by simp at *;omega) t]
theorem zEj {G:Addr→Prop}{H:Hp}{v:V}{r:Row} (h:Has G H v (rowD r)):∃ t lf,v=.ref t∧H t=some (.tup [.str r.name,.ref lf,ownV r.owner])∧Has G H (.ref lf) (.list (r.fields.map fieldD)):=by
 obtain ⟨t,xs,rfl,g,e,_,hx⟩:=h.tup_inv;cases hx with
 | cons h1 h2 =>
  cases h2 with
  | cons h3 h4 =>
   cases h4 with
   | @cons x _ _ _ h5 h6 =>
    cases h6;obtain ⟨rfl,_⟩:=h1.str_inv;obtain ⟨lf,ys,rfl,_⟩:=id h3.list_inv;have eo:x=ownV r.owner:=by
     cases er:r.owner with
     | none=>rw [er] at h5;cases h5;rfl
     | some o=>rw [er] at h5;exact h5.str_inv.1
    subst eo;exact ⟨t,lf,rfl,e,h3⟩
theorem init_ownF {C x dx:Addr}{H:Hp}{r:Row}{vf:V}{Q:VK}{E:XK} (hx:H x=none) (hdx:H dx=none) (ne:dx≠x) (hn:nameOk r.name) (hf:Has Any H vf (.list (r.fields.map fieldD))) (ok:FieldsOk r.fields) (ho:∀ o,r.owner=some o→nameOk o∧o≠r.name)
  (k:∀ H' l,Same H H'→H' x=some (.ins C dx (kflds (.str r.name) (.ref l) (ownV r.owner)))→Has (fun a=>H a=none) H' (.ref l) (.list (r.fields.map fieldD))→Q .non H') :
  spInit C (.ref x :: ([.str r.name,vf,ownV r.owner]++[])) (upd (upd H dx (.own x)) x (.ins C dx [])) Q E:=by
 have hx2:(upd H dx (.own x)) x=none:=by rw [zA8 ne.symm];exact hx
 have s:Same H (upd (upd H dx (.own x)) x (.ins C dx [])):=(Same.new hdx).trans (Same.new hx2);refine ⟨x,dx,vf,ownV r.owner,r.name,_,ownD r.owner,rfl,zA1,by have:=hn.2.2;omega,hn.2.1,hn.1,hf.mono s,(fields_ok ok).1,zGc fun o e=>(ho o e).1,?_,(fields_ok ok).2,fun H' l hp hl fr=>k H' l (fun b o e=>fr b o (s _ _ e) (zA5 e hx)) hp (hl.frame fun b o g e=>⟨s.free g,e⟩)⟩;cases eo:r.owner with
 | none=>rfl
 | some o =>
  obtain ⟨h1,h2⟩:=ho o eo;show (nameB o && !decide (o=r.name))=true;rw [h1.1,decide_eq_false h2];rfl
noncomputable def KF (C:Addr) (G:Addr→Prop) (H:Hp) (p:Addr) (r:Row):Prop:=∃ dx l,H p=some (.ins C dx (kflds (.str r.name) (.ref l) (ownV r.owner)))∧Has G H (.ref l) (.list (r.fields.map fieldD))
theorem KF.o {C:Addr}{G:Addr→Prop}{H:Hp}{p:Addr}{r:Row} (h:KF C G H p r):KindO C H p r:=let ⟨dx,l,e,_⟩:=h;⟨dx,l,e⟩
theorem KF.frame {C:Addr}{G G':Addr→Prop}{H H':Hp}{p:Addr}{r:Row} (h:KF C G H p r) (h1:∀ b o,H b=some o→(∃ C dx fs,o=.ins C dx fs)→H' b=some o) (h2:∀ b o,G b→isSeq o→H b=some o→G' b∧H' b=some o):KF C G' H' p r :=
 let ⟨dx,l,e,d⟩:=h
 ⟨dx,l,h1 _ _ e ⟨_,_,_,rfl⟩,d.frameS h2⟩
theorem RowsP.owner {rs:List Row} (h:RowsP rs) {r:Row}{o:Str} (hr:r∈rs) (e:r.owner=some o):nameOk o∧o≠r.name:=by
 obtain ⟨r0,ok,p⟩:=h;obtain ⟨a,b,_⟩:=ok.owner (p.mem_iff.mp hr) e;exact ⟨a,b⟩
noncomputable def spMade (CK C Pt:Addr):Sp:=fun vs H Q _=>∃ (l:Addr) (rs:List Row),vs=[.ref l]∧Has Any H (.ref l) (.list (rs.map rowD))∧RowsP rs∧TabOk H Pt lamPos lamQ ∧
 ∀ (q d:Addr) (ord:List Str) (kvs:List (Key×V)) (zs:List (Addr×Row)) (H':Hp),KindsAt CK H' q d kvs→H q=none→H d=none→Zs C H' zs→(∀ q∈zs,KF C (fun a=>H a=none) H' q.1 q.2)→zs.map (·.2)=rs→Placed zs ord kvs→Greedy (·∈rs) ord→ord.length=rs.length→TabOk H' Pt lamPos lamQ→GrownBut Pt H H'→Q (.ref q) H'
section
variable {P:Program}{w:World}{K:PySem.W.Frag}{mg:Str→Option Value}{base:Heap}{CX:CXT}
theorem scMa:FnScope ["_law_specs_here", "_law_got", "_law_name", "_law_fields_here", "_law_owner"] ["_law_specs_here"] (defScope sMade):=⟨rfl,rfl,rfl,by decide +kernel,rfl,by decide +kernel,by decide +kernel⟩
theorem ok_made {f C fI CK fIk fOr fOf fOw Pt:Addr}{fd fdI fdk:FuncData} (hC:Calm CX) (T:Tops K mg) (KC:KCls K mg C fI) (KS:KsCls K mg CK fIk fOr fOf fOw) (GK:FnOk P w K mg base CX 5 fI fdI ["self", "name", "fields", "owner"] (spInit C)) (bK:Binds K fdI ["self", "name", "fields", "owner"] [])
  (GS:FnOk P w K mg base CX 5 fIk fdk ["self", "kinds"] (spInitKs CK C Pt)) (bS:Binds K fdk ["self", "kinds"] []) (F:Fun K "_law_made" "_law_made" sMade f fd):FnOk P w K mg base CX 7 f fd ["_law_specs_here"] (spMade CK C Pt):=by
 refine Fun.okC F scMa (fun vs H Q E h=>?_) (fun cdv A outer s H vs Q E hr h=>?_)
 ·obtain ⟨l,rs,rfl,_⟩:=h;rfl
 ·obtain ⟨l,rs,rfl,hl,rp,hT,q⟩:=h;have nd:=scMa.nd
  refine ⟨_,zA3 (zAb (i:=1) nd rfl (Or.inl rfl) (zAg zA2))
   (zA3 (zBj PassesOwn.never rfl (zAh (pv 0)) (zCb rfl (zAf (zAa (i:=2) nd rfl (Or.inl rfl)) (zAf (zAa (i:=3) nd rfl (Or.inl rfl)) (zAf (zAa (i:=4) nd rfl (Or.inl rfl)) zBc))))
    (zA6 (zBx (zCv PySem.F.plainAttrs_list PySem.F.slot_list_append PySem.F.type_list_append zCk (pv 1) (zA0 (zCg KC.mkd GK hr rfl KC.mgC bK .nil (passC hC) (zA0 (pv 2) (zA0
     (zAr (T:=["_law_field", "_law_values"]) rfl ScOk.auto (zAh (pv 3)) (fun _ _ _ _=>zEo (K:=K) (n:=2) rfl rfl (zAf (zAa (i:=5) (by decide +kernel:(["_law_specs_here", "_law_got", "_law_name", "_law_fields_here", "_law_owner", "_law_field", "_law_values"]:List Str).Nodup) rfl (Or.inl rfl)) (zAf (zAa (i:=6) (by decide +kernel:(["_law_specs_here", "_law_got", "_law_name", "_law_fields_here", "_law_owner", "_law_field", "_law_values"]:List Str).Nodup) rfl (Or.inl rfl)) zBc))) (fun _ _ _ _=>zB2)
      (fun _ _ _ _=>zAs (zA0 (pv 5) (zA0 (zB3 (r:=fun xs H Q=>∃ p ys,xs=[.ref p]∧(SqL K H p ys∨SqT K H p ys)∧∀ l,H l=none→Q (.ref l) (upd H l (.lst ys))) zBw rfl T.list PyProof.Rows.boot_list (zA0 (pv 6) zA2)) zA2))))
     (zA0 (pv 4) zA2)))) zA2)))))
   (zA6 (zAc (zCg KS.mkd GS hr rfl KS.mgC bS .nil (passC hC) (zA0 (pv 1) zA2))))),?_⟩
  have small:∀ n:Nat,n≤1000→n≤sizeLine:=fun n h=>Zm (small1000 h);obtain ⟨l',xs,e,_,hl1,hz,hx⟩:=hl.list_inv;cases e;have xl:xs.length=rs.length:=by rw [hx.length,Z0]
  obtain ⟨r0,r5⟩:=rp.le;refine ⟨Zo _,fun lg fg=>?_⟩
  refine ⟨_,rfl,l,rfl,⟨_,SqL.of ((Same.new fg) _ _ hl1)⟩,zBf (K:=K) (a:=l) (xs:=xs) (fun i σ H2=>∃ (zs:List (Addr×Row)) (x2 x3 x4:Option V),σ = [some (.ref l),some (.ref lg),x2,x3,x4]∧H2 lg=some (.lst (zs.map fun q=>V.ref q.1))∧zs.map (·.2)=rs.take i∧(∀ q∈zs,KF C (fun a=>H a=none∧a≠lg) H2 q.1 q.2)∧Same H H2)
   ⟨[],none,none,none,rfl,zA1,rfl,(fun q h=>nomatch h),Same.new fg⟩ (fun i σ H2 _ ⟨_,_,_,_,_,_,_,_,s2⟩=>SqL.of (s2 _ _ hl1)) ?_ ?_⟩
  ·rintro i x σ H2 hi ⟨zs,x2,x3,x4,rfl,hg2,hzs,hk2,s2⟩;obtain ⟨dd,hdd,hv⟩:=hx.get hi;rw [Z4] at hdd;cases er:rs[i]? with
   | none=>rw [er] at hdd;cases hdd
   | some r =>
    rw [er] at hdd;cases hdd;have mr:=Z3 er;obtain ⟨onm,ofs⟩:=rp.ok r mr;obtain ⟨t,lf,rfl,ht,hf⟩:=zEj hv;have hf2:=hf.mono s2;obtain ⟨lf',fs,e,_,hlf,hlz,hfx⟩:=hf2.list_inv;cases e;have zl:zs.length≤i:=by
     have:=congrArg List.length hzs;rw [Z0,Zr] at this;omega
    have il:i < rs.length:=(List.getElem?_eq_some_iff.mp er).1;refine ⟨t,_,rfl,SqT.of (s2 _ _ ht),rfl,_,_,rfl,_,_,rfl,_,_,rfl,rfl,?_⟩;refine ⟨_,rfl,.inl ⟨rfl,_,SqL.of hg2⟩,_,rfl,_,rfl,lf,rfl,⟨_,SqL.of hlf⟩,zAl (xs:=fs) (fun j ys H'=>Same H2 H'∧HasAll Any H' ys ((r.fields.take j).map fieldD)) ⟨Same.refl _,.nil⟩ (fun j ys H' z=>SqL.of (z.1 _ _ hlf)) (fun j ys H' hj z=>?_) ?_ ?_⟩
    ·have:=z.2.length;rw [Z0] at this;have:=Zy j r.fields;have:=ofs.le;exact small _ (by omega)
    ·rintro j y ys H' hj ⟨s6,hy⟩ N hN;obtain ⟨d,hd,hv⟩:=hfx.get hj;rw [Z4] at hd;cases ef:r.fields[j]? with
     | none=>rw [ef] at hd;cases hd
     | some f =>
      rw [ef] at hd;cases hd;obtain ⟨b,lv,rfl,hb,hlv⟩:=zBl hv;refine pickT (SqT.of (s6 _ _ hb)) ?_;obtain ⟨okn,okv⟩:=ofs.ok f (Z3 ef);refine ⟨_,rfl,_,rfl,lv,_,rfl,.inl (SqL.of (s6 _ _ hlv)),fun l3 hl3=>⟨by show 2≤sizeLine;exact small 2 (by decide),fun t ht=>hN _ _ ⟨(s6.trans (Same.new hl3)).trans (Same.new ht),?_⟩⟩⟩;rw [Zd,ef,Za];refine HasAll.snoc (hy.mono ((Same.new hl3).trans (Same.new ht))) (.tup trivial zA1 (by show 2≤1000;decide) (.cons (.str _ (by have:=okn.2.2;omega) okn.2.1) (.cons (.lst trivial ((Same.new ht) _ _ zA1) ?_ (zCj okv.ok)) .nil)));rw [Z0];have:=okv.le;omega
    ·rintro ys H' ⟨s6,hy⟩ ln hln;have ex:fs.length=r.fields.length:=by rw [hfx.length,Z0]
     rw [ex,Zh] at hy;have s7:Same H2 (upd H' ln (.lst ys)):=s6.trans (Same.new hln);have hf7:Has Any (upd H' ln (.lst ys)) (.ref ln) (.list (r.fields.map fieldD)):=.lst trivial zA1 (by rw [hy.length,Z0];have:=ofs.le;omega) (hy.mono (Same.new hln));generalize upd H' ln (.lst ys)=H7 at s7 hf7 ⊢;refine ⟨_,rfl,?_⟩;intro x dx hx' hdx hne;refine init_ownF hx' hdx hne onm hf7 ofs (fun o e=>rp.owner mr e) fun H8 lf8 s8 e8 d8=>⟨rfl,?_⟩;have s28:=s7.trans s8;have hg8:=s28 _ _ hg2;refine ⟨lg,_,_,rfl,rfl,hg8,by rw [Z0];exact small1000 (by omega),?_⟩;have kk:∀ {p:Addr}{r:Row},KF C (fun a=>H a=none∧a≠lg) H8 p r→KF C (fun a=>H a=none∧a≠lg) (upd H8 lg (.lst ((zs.map fun q=>V.ref q.1)++[V.ref x]))) p r:=fun h=>h.frame (fun b o e ⟨_,_,_,eo⟩=>by rw [zA8 (zBe e hg8 (by rw [eo];exact fun z=>nomatch z))];exact e) fun b o g _ e=>⟨g,by rw [zA8 g.2];exact e⟩;have kd8:KF C (fun a=>H a=none∧a≠lg) H8 x r:=⟨dx,lf8,e8,d8.frame fun b o g e=>⟨⟨(s2.trans s7).free g,fun z=>(by rw [z,s7 _ _ hg2] at g;cases g)⟩,e⟩⟩;refine ⟨zs++[(x,r)],_,_,_,rfl,by rw [zA1,Za];rfl,by rw [Za,hzs,Zd,er];rfl,fun q hq=>?_,fun b o e=>?_⟩
     ·rcases List.mem_append.mp hq with hq | hq
      ·exact kk ((hk2 q hq).frame (fun b o e _=>s28 _ _ e) fun b o g _ e=>⟨g,s28 _ _ e⟩)
      ·rw [List.mem_singleton.mp hq];exact kk kd8
     ·rw [zA8 (zA5 e fg)];exact s28 _ _ (s2 _ _ e)
  ·rintro σ H2 ⟨zs,x2,x3,x4,rfl,hg2,hzs,hk2,s2⟩;rw [xl,Zh] at hzs;have zl:zs.length=rs.length:=by rw [← hzs,Z0]
   refine ⟨_,rfl,?_⟩;intro x dx hx' hdx hne;have hx2:(upd H2 dx (.own x)) x=none:=by rw [zA8 hne.symm];exact hx'
   have s3:Same H2 (upd (upd H2 dx (.own x)) x (.ins CK dx [])):=(Same.new hdx).trans (Same.new hx2);refine ⟨x,dx,lg,zs,rfl,zA1,s3 _ _ hg2,⟨fun q hq=>(hk2 q hq).o.mono fun b o e _=>s3 _ _ e,?_,by omega⟩,by rw [hzs];exact rp,(hT.same s2).same s3,fun d ord kvs H' hp' hd' hd2 hpl hgr hlen hT' fr=>⟨rfl,?_⟩⟩
   ·have:=rp.nd;rw [← hzs,Zn] at this;exact this
   ·have fr2:∀ b o,H2 b=some o→b≠Pt→H' b=some o:=fun b o e nb=>fr b o (s3 _ _ e) (zA5 e hx') nb;have hT2:=hT.same s2;rw [hzs] at hgr;refine q x d ord kvs zs H' ⟨⟨dx,hp'⟩,.inl hd2⟩ (s2.free hx') (s2.free (s3.free hd')) ⟨fun q hq=>?_,?_,by omega⟩ (fun q hq=>(hk2 q hq).frame (fun b o e ⟨_,_,_,eo⟩=>fr2 _ _ e (hT2.ne e (by rw [eo];exact fun _ z=>nomatch z))) fun b o g hs e=>⟨g.1,fr2 _ _ e (hT2.ne e (by rintro ps rfl;exact hs))⟩) hzs hpl hgr (by omega) hT' fun b o e nb=>fr2 b o (s2 _ _ e) nb
    ·obtain ⟨dx',l',e⟩:=(hk2 q hq).o;exact ⟨dx',l',fr2 _ _ e (hT2.ne e fun _ z=>nomatch z)⟩
    ·have:=rp.nd;rw [← hzs,Zn] at this;exact this
end
end L2.W
namespace L2.W
open PySem My
noncomputable def spWritten:Sp:=fun vs H Q _=>∃ n:Nat,vs=[.str (figs n),.int 6]∧n≤999999∧∀ H',Same H H'→Q (.bl true) H'
section
variable {P:Program}{w:World}{K:PySem.W.Frag}{mg:Str→Option Value}{base:Heap}{CX:CXT}
theorem scWr:FnScope ["text", "most_figures"] ["text", "most_figures"] (defScope sWritten):=⟨rfl,rfl,rfl,by decide +kernel,rfl,by decide +kernel,by decide +kernel⟩
theorem fig_in {n c:Nat} (h:c∈(figs n).cps.toList):decide (c∈("0123456789" : Str).cps.toList)=true:=by
 have d:=figs_dig h;have e:("0123456789" : Str).cps.toList=[48,49,50,51,52,53,54,55,56,57]:=by decide +kernel
 rw [e];refine decide_eq_true ?_;have:=(by decide +kernel:∀ i < 10,48 + i∈[48,49,50,51,52,53,54,55,56,57]) (c - 48) (by omega)
 rwa [Nat.add_sub_cancel' d.1] at this
theorem ok_written {f:Addr}{fd:FuncData} (T:Tops K mg) (F:Fun K "is_written_number" "is_written_number" sWritten f fd):FnOk P w K mg base CX 1 f fd ["text", "most_figures"] spWritten:=by
 refine Fun.okC F scWr (fun vs H Q E h=>?_) (fun cdv A outer s H vs Q E hr h=>?_)
 ·obtain ⟨n,rfl,_⟩:=h;rfl
 ·obtain ⟨n,rfl,hn,k⟩:=h;obtain ⟨tf,hfigs⟩:=T.figs;have g1:=figs_ge n;have g2:=zGn hn;have hz:(figs n).length≤sizeLine:=Zm (small1000 (by omega))
  refine ⟨_,zA3 (zAx (zAw (zDc op_le op_le zA4 (zA9 zCn rfl T.len PySem.boot_len (zA0 (pv 0) zA2)) (pv 1))) (zA6 (zAc zBo)) zAd)
   (zA3 (zAx (PW.pt (zEl (zAj zGd (zA9 zCn rfl T.len PySem.boot_len (zA0 (pv 0) zA2)) zA4 (nomark _)) (zD0 (zAy (zCv PySem.F.plainAttrs_str PySem.F.slot_str_startswith PySem.F.type_str_startswith zGh (pv 0) (zA0 zBa zA2)))))) (zA6 (zAc zBo)) zAd)
   (zA6 (zAc (zA9 (zBi rfl) rfl T.all PyProof.Rows.boot_all (zA0 (zAr (T:=["sign"]) rfl ScOk.auto (pi_str (pv 0)) (fun _ _ _ _=>zAa (i:=2) (by decide +kernel:(["text", "most_figures", "sign"]:List Str).Nodup) rfl (Or.inl rfl)) (fun _ _ _ _=>zB2)
     (fun _ _ _ _=>zC7 op_in_str (pv 2) (zB7 (v:=.str "0123456789") rfl hfigs ⟨_,rfl⟩) rfl)) zA2))))),?_⟩
  refine ⟨_,rfl,figs n,rfl,hz,_,_,rfl,rfl,_,rfl,?_⟩;refine ite2 (fun h1=>?_) (fun h1=>absurd (decide_eq_true (by omega)) h1);refine ⟨_,rfl,_,_,rfl,rfl,_,rfl,?_⟩;rw [decide_eq_true (show ((figs n).length:Int)≤6 by omega)];refine iteF ⟨_,rfl,figs n,rfl,hz,_,_,rfl,rfl,_,rfl,?_⟩;refine ite2 (fun h2=>?_) (fun h2=>?_)
  ·have lt:1 < (figs n).length:=by have:=of_decide_eq_true h2;omega
   refine ⟨_,rfl,rfl,_,_,rfl,rfl,_,rfl,?_⟩;rw [figs_start lt];refine iteF ?_;refine ⟨_,rfl,figs n,rfl,zE1 (fun _=>true) (fun c=>.bl (decide (c∈("0123456789" : Str).cps.toList))) hz (fun c Ry Rn q _=>?_) (fun d hd=>?_)⟩
   ·refine iteT (B:=Rn H) ⟨_,rfl,_,_,rfl,rfl,?_⟩;rw [PySem.StrLaws.found_one];exact q rfl
   ·refine ⟨d,(figs n).cps.toList.map fun c=>decide (c∈("0123456789" : Str).cps.toList),rfl,SqL.of ?_,?_⟩
    ·rw [zA1,List.filter_eq_self.mpr (fun _ _=>rfl),Zn];rfl
    ·have e:((figs n).cps.toList.map fun c=>decide (c∈("0123456789" : Str).cps.toList)).all id=true:=by
      rw [Yt];exact List.all_eq_true.mpr fun c hc=>fig_in hc
     rw [e];exact k _ (Same.new hd)
  ·refine iteF ?_;refine ⟨_,rfl,figs n,rfl,zE1 (fun _=>true) (fun c=>.bl (decide (c∈("0123456789" : Str).cps.toList))) hz (fun c Ry Rn q _=>?_) (fun d hd=>?_)⟩
   ·refine iteT (B:=Rn H) ⟨_,rfl,_,_,rfl,rfl,?_⟩;rw [PySem.StrLaws.found_one];exact q rfl
   ·refine ⟨d,(figs n).cps.toList.map fun c=>decide (c∈("0123456789" : Str).cps.toList),rfl,SqL.of ?_,?_⟩
    ·rw [zA1,List.filter_eq_self.mpr (fun _ _=>rfl),Zn];rfl
    ·have e:((figs n).cps.toList.map fun c=>decide (c∈("0123456789" : Str).cps.toList)).all id=true:=by
      rw [Yt];exact List.all_eq_true.mpr fun c hc=>fig_in hc
     rw [e];exact k _ (Same.new hd)
end
end L2.W
namespace L2.W
open PySem My
structure PathOk (p:List (Str×Nat)):Prop where
 ne:p≠[]
 le:p.length≤10
 ok:∀ q∈p,nameOk q.1∧q.2≤999999
theorem name_free {x:Str} (h:nameOk x):freeOf 46 x:=fun d hd e=>by
 have h1:=h.1;unfold nameB at h1;rw [Zv] at h1;have h2:=List.all_eq_true.mp h1.2 d hd;rw [e] at h2;exact absurd h2 (by decide +kernel)
theorem figs_free (n:Nat):freeOf 46 (figs n):=fun d hd e=>by
 have:=figs_dig hd;omega
theorem zD5 {R:Str→Prop}:∀ {p:List (Str×Nat)},(∀ q∈p,R q.1∧R (figs q.2))→∀ w∈wordsP p,R w
 | [],_,w,hw=>nomatch hw
 | (k,n) :: t,h,w,hw=>by
  have a:=h (k,n) Zb;rcases List.mem_cons.mp hw with e | hw
  ·rw [e];exact a.1
  ·rcases List.mem_cons.mp hw with e | hw
   ·rw [e];exact a.2
   ·exact zD5 (fun q hq=>h q (Z6 _ hq)) w hw
theorem PathOk.split {p:List (Str×Nat)} (h:PathOk p):Txt.split (showP p) "." = wordsP p:=by
 unfold showP;rw [dot_eq];refine split_join (zD5 fun q hq=>⟨name_free (h.ok q hq).1,figs_free q.2⟩) fun e=>h.ne ?_;have:=zB4 p;rw [e] at this;cases p with
 | nil=>rfl
 | cons a t=>simp at this
theorem PathOk.len {p:List (Str×Nat)} (h:PathOk p):(showP p).length≤180:=by
 have a:=join_len (s:=".") (m:=8) (by decide +kernel) (ws:=wordsP p) (zD5 fun q hq=>⟨(h.ok q hq).1.2.2,Zl (zGn (h.ok q hq).2) (by decide)⟩);rw [zB4] at a;have:=h.le;unfold showP;omega
noncomputable def spForm:Sp:=fun vs H Q _=>∃ p,vs=[.str (showP p)]∧PathOk p∧∀ H',Same H H'→Q (.bl true) H'
section
variable {P:Program}{w:World}{K:PySem.W.Frag}{mg:Str→Option Value}{base:Heap}{CX:CXT}
theorem scHf:FnScope ["thing", "words"] ["thing"] (defScope sHasForm):=⟨rfl,rfl,rfl,by decide +kernel,rfl,by decide +kernel,by decide +kernel⟩
theorem all_true (n:Nat):(List.replicate n true).all id=true:=by
 induction n with
 | zero=>rfl
 | succ n ih=>rw [Y6,Yn,ih];rfl
theorem ok_form {f fn fw:Addr}{fd fdn fdw:FuncData} (hC:Calm CX) (T:Tops K mg) (F:Fun K "has_form" "has_form" sHasForm f fd) (DN:Def K mg "is_name" sIsName ["thing"] fn fdn) (DW:Def K mg "is_written_number" sWritten ["text", "most_figures"] fw fdw):FnOk P w K mg base CX 2 f fd ["thing"] spForm:=by
 have GN:FnOk P w K mg base CX 1 fn fdn ["thing"] spNameD:=zCt DN.fn T;have GW:FnOk P w K mg base CX 1 fw fdw ["text", "most_figures"] spWritten:=ok_written T DW.fn;refine Fun.okC F scHf (fun vs H Q E h=>?_) (fun cdv A outer s H vs Q E hr h=>?_)
 ·obtain ⟨p,rfl,_⟩:=h;rfl
 ·obtain ⟨p,rfl,hp,k⟩:=h;have nd:=scHf.nd;obtain ⟨tm,hmost⟩:=T.mostF;have hl:=hp.len;have pl:=hp.le;have ln:(wordsP p).length=2 * p.length:=zB4 p;have p0:0 < p.length:=List.length_pos_iff.mpr hp.ne
  refine ⟨_,zA3 (zAx (zAw (zAy (zA9 zAn rfl T.isinst PyProof.Rows.boot_isinstance (zA0 (pv 0) (zA0 (zB9 (v:=.ty "str") rfl T.str PyProof.Rows.boot_str rfl) zA2))))) (zA6 (zAc zBo)) zAd)
   (zA3 (zAb (i:=1) nd rfl (Or.inl rfl) (zCv PySem.F.plainAttrs_str PySem.F.slot_str_split PySem.F.type_str_split mt_split (pv 0) (zA0 zBa zA2)))
   (zA3 (zAx (zAj op_ne (zAp zCh (zA9 zAe rfl T.len PySem.boot_len (zA0 (pv 1) zA2)) zA4) zA4 (nomark _)) (zA6 (zAc zBo)) zAd)
   (zA3 (zAx (zAw (zAy (zA9 (zBi rfl) rfl T.all PyProof.Rows.boot_all (zA0 (zAr (T:=["word"]) rfl ScOk.auto (zAh (zG5 (pv 1))) (fun _ _ _ _=>zAa (i:=2) (by decide +kernel:(["thing", "words", "word"]:List Str).Nodup) rfl (Or.inl rfl)) (fun _ _ _ _=>zB2)
     (fun _ _ _ _=>zA7 GN hr rfl DN.at_ DN.fn.kp DN.bind .nil (passC hC) (zA0 (pv 2) zA2))) zA2)))) (zA6 (zAc zBo)) zAd)
   (zA6 (zAc (zA9 (zBi rfl) rfl T.all PyProof.Rows.boot_all (zA0 (zAr (T:=["word"]) rfl ScOk.auto (zAh (pe_odd (pv 1))) (fun _ _ _ _=>zAa (i:=2) (by decide +kernel:(["thing", "words", "word"]:List Str).Nodup) rfl (Or.inl rfl)) (fun _ _ _ _=>zB2)
     (fun _ _ _ _=>zA7 GW hr rfl DW.at_ DW.fn.kp DW.bind .nil (passC hC) (zA0 (pv 2) (zA0 (zB7 (v:=.int 6) rfl hmost ⟨_,rfl⟩) zA2)))) zA2))))))),?_⟩
  refine ⟨_,rfl,_,_,_,_,_,rfl,.str _,rfl,rfl,_,rfl,iteF ?_⟩;refine ⟨_,rfl,rfl,_,_,rfl,rfl,by decide +kernel,by omega,fun wa hwa=>?_⟩;rw [hp.split];have s1:Same H (upd H wa (.lst ((wordsP p).map V.str))):=Same.new hwa;have e1:(upd H wa (.lst ((wordsP p).map V.str))) wa=some (.lst ((wordsP p).map V.str)):=zA1;generalize upd H wa (.lst ((wordsP p).map V.str))=H1 at s1 e1 ⊢;have ev:((((wordsP p).map V.str).length:Nat):Int) % 2=0:=by rw [Z0,ln];omega
  refine ⟨_,rfl,wa,_,rfl,.inl (SqL.of e1),_,_,rfl,rfl,(by show (0:Int) < 2;decide),rfl,_,rfl,?_⟩;refine ite2 (fun h=>by replace h:(!decide (V.int ((((wordsP p).map V.str).length:Int) % 2)=V.int 0))=true:=h;rw [ev] at h;exact absurd h (by decide)) (fun _=>?_);refine ⟨_,rfl,wa,_,rfl,SqL.of e1,fun ea hea=>⟨ea,rfl,⟨_,SqL.of zA1⟩,?_⟩⟩;rw [zF5,zCx];have s2:Same H1 (upd H1 ea (.lst ((p.map (·.1)).map V.str))):=Same.new hea;have e2:(upd H1 ea (.lst ((p.map (·.1)).map V.str))) ea=some (.lst ((p.map (·.1)).map V.str)):=zA1;generalize upd H1 ea (.lst ((p.map (·.1)).map V.str))=H2 at s2 e2 ⊢;refine zAl (xs:=(p.map (·.1)).map V.str) (fun i ys H'=>Same H2 H'∧ys=List.replicate i (V.bl true)) ⟨Same.refl _,rfl⟩ (fun i ys H' q=>SqL.of (q.1 _ _ e2)) (fun i ys H' hi q=>?_) ?_ ?_
  ·rw [q.2,Y8];rw [Z0,Z0] at hi;exact Zm (small1000 (by omega))
  ·rintro i x ys H' hi ⟨s',rfl⟩ N hN;rw [Z4,Z4] at hi;obtain ⟨n,hn,rfl⟩:=Option.map_eq_some_iff.mp hi;obtain ⟨q,hq,rfl⟩:=Option.map_eq_some_iff.mp hn;have nn:=(hp.ok q (Z3 hq)).1;refine pick ?_;refine ⟨_,rfl,_,.str q.1,rfl,.str q.1 (Zl nn.2.2 (by decide)) nn.2.1,fun H3 s3=>?_⟩;rw [show nameD (.str q.1)=true from nn.1];exact hN _ _ ⟨s'.trans s3,by rw [List.replicate_succ']⟩
  ·rintro ys H' ⟨s',rfl⟩ c hc;have s3:Same H2 (upd H' c (.lst (List.replicate ((p.map (·.1)).map V.str).length (V.bl true)))):=s'.trans (Same.new hc);refine ⟨c,List.replicate ((p.map (·.1)).map V.str).length true,rfl,SqL.of (by rw [zA1,List.map_replicate]),_,rfl,?_⟩;rw [all_true];refine iteF ?_;have s4:=s2.trans s3;generalize upd H' c (.lst (List.replicate ((p.map (·.1)).map V.str).length (V.bl true)))=H4 at s4 ⊢;refine ⟨_,rfl,wa,_,rfl,SqL.of (s4 _ _ e1),(by rw [Z0];omega),fun oa hoa=>⟨oa,rfl,⟨_,SqL.of zA1⟩,?_⟩⟩;rw [odds_map,zFe];have s5:Same H4 (upd H4 oa (.lst ((p.map fun q=>figs q.2).map V.str))):=Same.new hoa;have e5:(upd H4 oa (.lst ((p.map fun q=>figs q.2).map V.str))) oa=some (.lst ((p.map fun q=>figs q.2).map V.str)):=zA1;generalize upd H4 oa (.lst ((p.map fun q=>figs q.2).map V.str))=H5 at s5 e5 ⊢;refine zAl (xs:=(p.map fun q=>figs q.2).map V.str) (fun i ys H'=>Same H5 H'∧ys=List.replicate i (V.bl true)) ⟨Same.refl _,rfl⟩ (fun i ys H' q=>SqL.of (q.1 _ _ e5)) (fun i ys H' hi q=>?_) ?_ ?_
   ·rw [q.2,Y8];rw [Z0,Z0] at hi;exact Zm (small1000 (by omega))
   ·rintro i x ys H' hi ⟨s',rfl⟩ N hN;rw [Z4,Z4] at hi;obtain ⟨n,hn,rfl⟩:=Option.map_eq_some_iff.mp hi;obtain ⟨q,hq,rfl⟩:=Option.map_eq_some_iff.mp hn;have nn:=(hp.ok q (Z3 hq)).2;refine pick ?_;exact ⟨_,rfl,q.2,rfl,nn,fun H3 s3=>hN _ _ ⟨s'.trans s3,by rw [List.replicate_succ']⟩⟩
   ·rintro ys H' ⟨s',rfl⟩ c hc;refine ⟨c,List.replicate ((p.map fun q=>figs q.2).map V.str).length true,rfl,SqL.of (by rw [zA1,List.map_replicate]),?_⟩;rw [all_true];exact k _ ((s1.trans s4).trans (s5.trans (s'.trans (Same.new hc))))
end
end L2.W
namespace L2.W
open PySem My
noncomputable def KOf (C:Addr) (H:Hp) (kvs:List (Key×V)) (n:Str) (o:Option Str):Prop:=∃ q dx lf,valV kvs (Sum.inr n)=some (.ref q)∧H q=some (.ins C dx (kflds (.str n) (.ref lf) (ownV o)))
theorem KOf.mono {C:Addr}{H H':Hp}{kvs:List (Key×V)}{n:Str}{o:Option Str} (h:KOf C H kvs n o) (s:Same H H'):KOf C H' kvs n o:=by
 obtain ⟨q,dx,lf,e,e2⟩:=h;exact ⟨q,dx,lf,e,s _ _ e2⟩
noncomputable def Chain (R:Str→Option Str→Prop):Option Str→List (Str×Nat)→Prop
 | _,[]=>True
 | a,(k,_) :: t=>R k a∧Chain R (some k) t
noncomputable def aboveP (a:Option Str) (p:List (Str×Nat)):Nat→Option Str
 | 0=>a
 | i + 1=>(p[i]?).map (·.1)
theorem Chain.get {R:Str→Option Str→Prop}:∀ {p:List (Str×Nat)}{a:Option Str}{i:Nat}{q:Str×Nat},Chain R a p→p[i]? = some q→R q.1 (aboveP a p i)
 | (k,n) :: t,a,0,q,h,e=>by
  have:(k,n)=q:=by simpa using e
  rw [← this];exact h.1
 | (k,n) :: t,a,1,q,h,e=>by
  have:=Chain.get (i:=0) (q:=q) h.2 (by simpa using e);exact this
 | (k,n) :: t,a,i + 2,q,h,e=>by
  have:=Chain.get (i:=i + 1) (q:=q) h.2 (by simpa using e);exact this
theorem Chain.imp {R R':Str→Option Str→Prop} (f:∀ k o,R k o→R' k o):∀ {p:List (Str×Nat)}{a:Option Str},Chain R a p→Chain R' a p
 | [],_,_=>trivial
 | _ :: _,_,h=>⟨f _ _ h.1,h.2.imp f⟩
noncomputable def ownP (q:List (Str×Nat)):Option Str:=if q.isEmpty then none else some (showP q)
noncomputable def spParts (CK C:Addr):Sp:=fun vs H Q _=>∃ (kq d:Addr) (kvs:List (Key×V)) (q:List (Str×Nat)) (k:Str) (n:Nat),vs=[.ref kq,.str (showP (q++[(k,n)]))]∧KindsAt CK H kq d kvs∧PathOk (q++[(k,n)])∧Chain (KOf C H kvs) none (q++[(k,n)]) ∧
 ∀ (t:Addr) (H':Hp),H t=none→H' t=some (.tup [.str k,ownV (ownP q),.int n])→Same H H'→Q (.ref t) H'
theorem ownV_scal (o:Option Str):scal (ownV o) (ownV o)=true:=by cases o <;> rfl
section
variable {P:Program}{w:World}{K:PySem.W.Frag}{mg:Str→Option Value}{base:Heap}{CX:CXT}
theorem scPo:FnScope ["kinds", "name", "words", "above", "word", "owner"] ["kinds", "name"] (defScope sPartsOf):=⟨rfl,rfl,rfl,by decide +kernel,rfl,by decide +kernel,by decide +kernel⟩
theorem cut_m2 {xs:List V} (h:2≤xs.length):cutV xs none (some (-2))=xs.take (xs.length - 2):=by
 unfold cutV HT.sIx;have e:((-2:Int) + (xs.length:Int)).toNat=xs.length - 2:=by omega
 simp [e]
theorem joinDot {ws:List Str} (h:∀ x∈ws,x.length≤8) (hl:ws.length≤100):PySem.JoinOk "." ws=true:=by
 have d1:("." : Str).length=1:=by decide +kernel
 have key:∀ (l:List Str) (n:Nat),(∀ x∈l,x.length≤8)→l.foldl (fun a x=>a + x.length + ("." : Str).length) n≤n + l.length * 9:=by
  intro l
  induction l with
  | nil=>intro n _;exact Z5 _
  | cons c r ih =>
   intro n hh;have h1:=ih (n + c.length + ("." : Str).length) fun x hx=>hh x (Z6 _ hx);have h2:=hh c Zb;rw [Y5,Zj];rw [d1] at h1 ⊢;omega
 have:=key ws 0 h;have hs:900 < sizeLine:=small1000 (by decide);unfold PySem.JoinOk;rw [List.foldl_toArray];unfold Builtin.Str.tooLong;simp;omega
theorem ok_parts {f fn fw fh C fI CK fIk fOr fOf fOw:Addr}{fd fdn fdw fdh fdf:FuncData} (hC:Calm CX) (T:Tops K mg) (KC:KCls K mg C fI) (KS:KsCls K mg CK fIk fOr fOf fOw) (F:Fun K "parts_of" "parts_of" sPartsOf f fd)
  (DN:Def K mg "is_name" sIsName ["thing"] fn fdn) (DW:Def K mg "is_written_number" sWritten ["text", "most_figures"] fw fdw) (DH:Def K mg "has_form" sHasForm ["thing"] fh fdh) (Of:Fun K "of" "Kinds.of" sOf fOf fdf) (bOf:Binds K fdf ["self", "name"] []):FnOk P w K mg base CX 3 f fd ["kinds", "name"] (spParts CK C):=by
 have GH:FnOk P w K mg base CX 2 fh fdh ["thing"] spForm:=ok_form hC T DH.fn DN DW;have GOf:FnOk P w K mg base CX 2 fOf fdf ["self", "name"] (spOf CK):=ok_of hC T KS Of DN;refine Fun.okC F scPo (fun vs H Q E h=>?_) (fun cdv A outer s H vs Q E hr h=>?_)
 ·obtain ⟨kq,d,kvs,q,k,n,rfl,_⟩:=h;rfl
 ·obtain ⟨kq,d,kvs,q,k,n,rfl,hk,hp,hc,fin⟩:=h;have nd:=scPo.nd;have hl:=hp.len;have pl:=hp.le
  refine ⟨_,zA3 (zAx (zAw (zAy (zA7 GH hr rfl DH.at_ DH.fn.kp DH.bind .nil (passC hC) (zA0 (pv 1) zA2)))) zAo zAd)
   (zA3 (zAb (i:=2) nd rfl (Or.inl rfl) (zCv PySem.F.plainAttrs_str PySem.F.slot_str_split PySem.F.type_str_split mt_split (pv 1) (zA0 zBa zA2)))
   (zA3 (zAb (i:=3) nd rfl (Or.inl rfl) zBk)
   (zA3 (zBj PassesOwn.never rfl (zAh (zG5 (pv 2))) (zAa (i:=4) nd rfl (Or.inl rfl))
    (zA3 (zAx (zAj op_ne (zBg (zCf (pv 0) KS.cl KS.mOf GOf hr bOf .nil (passC hC) (zA0 (pv 4) zA2)) rfl) (pv 3) (nomark _)) zAo zAd)
    (zA6 (zAb (i:=3) nd rfl (Or.inl rfl) (pv 4)))))
   (zA3 (zAb (i:=5) nd rfl (Or.inl rfl) (zCr (zAj zGd (zA9 zAe rfl T.len PySem.boot_len (zA0 (pv 2) zA2)) zA4 (nomark _))
    (zCv PySem.F.plainAttrs_str PySem.F.slot_str_join PySem.F.type_str_join (mt_join (K:=K) rfl) zBa (zA0 (zBd zC3 (pv 2) zC5 (zBn (pe_un un_neg zA4))) zA2)) zBk))
   (zA6 (zAc (zAs (zA0 (pv 3) (zA0 (pv 5) (zA0 (zB3 zGv rfl T.int PyProof.Rows.boot_int (zA0 (zAi zAk (pv 2) (pe_un un_neg zA4) (fun _ _=>rfl)) zA2)) zA2)))))))))),?_⟩
  refine ⟨_,rfl,_,rfl,hp,fun H1 s1=>⟨_,rfl,iteF ?_⟩⟩;refine ⟨_,rfl,rfl,_,_,rfl,rfl,by decide +kernel,by omega,fun wa hwa=>?_⟩;rw [hp.split];have s2:Same H (upd H1 wa (.lst ((wordsP (q++[(k,n)])).map V.str))):=s1.trans (Same.new hwa);have e2:(upd H1 wa (.lst ((wordsP (q++[(k,n)])).map V.str))) wa=some (.lst ((wordsP (q++[(k,n)])).map V.str)):=zA1;generalize upd H1 wa (.lst ((wordsP (q++[(k,n)])).map V.str))=H2 at s2 e2 ⊢;refine ⟨_,rfl,wa,_,rfl,SqL.of e2,fun ea hea=>?_⟩;rw [zF5,zCx];have s3:Same H2 (upd H2 ea (.lst (((q++[(k,n)]).map (·.1)).map V.str))):=Same.new hea;have e3:(upd H2 ea (.lst (((q++[(k,n)]).map (·.1)).map V.str))) ea=some (.lst (((q++[(k,n)]).map (·.1)).map V.str)):=zA1;generalize upd H2 ea (.lst (((q++[(k,n)]).map (·.1)).map V.str))=H3 at s3 e3 ⊢;have s4:=s2.trans s3;obtain ⟨⟨dxk,hkq⟩,rd⟩:=hk;refine ⟨ea,rfl,⟨_,SqL.of e3⟩,zBf (K:=K) (a:=ea) (xs:=((q++[(k,n)]).map (·.1)).map V.str) (fun i σ H'=>∃ u,σ = [some (.ref kq),some (.str (showP (q++[(k,n)]))),some (.ref wa),some (ownV (aboveP none (q++[(k,n)]) i)),u,none]∧Same H3 H') ⟨none,rfl,Same.refl _⟩ (fun i σ H' _ ⟨_,_,e⟩=>SqL.of (e _ _ e3)) ?_ ?_⟩
  ·rintro i x σ H' hi ⟨u,rfl,s'⟩;rw [Z4,Z4] at hi;obtain ⟨m,hm,rfl⟩:=Option.map_eq_some_iff.mp hi;obtain ⟨r,hr',rfl⟩:=Option.map_eq_some_iff.mp hm;have nn:=(hp.ok r (Z3 hr')).1;have s5:=s4.trans s';obtain ⟨a0,dx,lf,hv,ha⟩:=hc.get hr';refine ⟨_,rfl,kq,dxk,_,rfl,s5 _ _ hkq,zGj _ (by decide +kernel),_,rfl,kq,d,kvs,r.1,.ref a0,rfl,nn,⟨⟨dxk,s5 _ _ hkq⟩,zG0 s5 rd⟩,hv,fun H6 s6=>?_⟩;refine ⟨a0,C,dx,_,_,rfl,s6 _ _ (s5 _ _ ha),KC.cl,KC.nO,zBv _ _ _,_,rfl,ownV_scal _,_,rfl,?_⟩;rw [decide_eq_true rfl];refine iteF ⟨_,rfl,⟨some (.str r.1),?_,s'.trans s6⟩⟩;show _=[_,_,_,some (ownV (((q++[(k,n)])[i]?).map (·.1))),_,_];rw [hr'];rfl
  ·rintro σ H' ⟨u,rfl,s'⟩;have s5:=s4.trans s';have s6:=s3.trans s';have ab:aboveP none (q++[(k,n)]) (((q++[(k,n)]).map (·.1)).map V.str).length=some k:=by
    rw [Z0,Z0,Z7];show ((q++[(k,n)])[q.length]?).map (·.1)=some k;simp
   rw [ab];have e5:=s6 _ _ e2;rw [zDn] at e5;have wl:(wordsP q++wordsP [(k,n)]).length=2 * q.length + 2:=by rw [Z7,zB4,zB4];rfl
   have la:atI ((wordsP q++wordsP [(k,n)]).map V.str) (-1)=some (.str (figs n)):=by
    unfold atI ixN;rw [if_neg (by decide),Z0,wl,if_pos (by omega)];show (((wordsP q++wordsP [(k,n)]).map V.str)[((-1:Int) + ((2 * q.length + 2:Nat):Int)).toNat]?)=_;rw [show ((-1:Int) + ((2 * q.length + 2:Nat):Int)).toNat=(wordsP q).length + 1 by rw [zB4];omega,Z4,Zz (by omega)];rw [show (wordsP q).length + 1 - (wordsP q).length=1 by omega];rfl
   refine ⟨_,rfl,wa,_,rfl,.inl (SqL.of e5),_,_,rfl,rfl,_,rfl,?_⟩;have n10:=(hp.ok (k,n) (by simp)).2;rw [Z0,wl];cases q with
   | nil =>
    refine iteF ?_;refine ⟨_,rfl,_,rfl,_,rfl,_,rfl,wa,_,-1,_,rfl,rfl,SqL.of e5,la,(n:Int),rfl,by omega,by omega,by show 3≤sizeLine;decide,fun t ht=>?_⟩;exact fin t _ (s5.free ht) zA1 (s5.trans (Same.new ht))
   | cons r q' =>
    have lt:decide ((2:Int) < ((2 * (r :: q').length + 2:Nat):Int))=true:=decide_eq_true (by rw [Zj];omega);rw [lt];refine iteT ⟨rfl,_,rfl,_,rfl,_,rfl,wa,_,rfl,SqL.of e5,fun sa hsa=>?_⟩;rw [cut_m2 (by rw [Z0,wl];omega),← Xf,Z0,wl,show 2 * (r :: q').length + 2 - 2=(wordsP (r :: q')).length by rw [zB4];omega,List.take_left];have s7:Same H' (upd H' sa (.lst ((wordsP (r :: q')).map V.str))):=Same.new hsa;have e7:(upd H' sa (.lst ((wordsP (r :: q')).map V.str))) sa=some (.lst ((wordsP (r :: q')).map V.str)):=zA1;generalize upd H' sa (.lst ((wordsP (r :: q')).map V.str))=H7 at s7 e7 ⊢;have s8:=s5.trans s7;have e8:=s7 _ _ e5;have jo:PySem.JoinOk "." (wordsP (r :: q'))=true:=joinDot (zD5 fun x hx=>⟨(hp.ok x (List.mem_append.mpr (.inl hx))).1.2.2,Zl (zGn (hp.ok x (List.mem_append.mpr (.inl hx))).2) (by decide)⟩) (by rw [zB4];rw [Z7] at pl;omega);refine ⟨_,sa,_,rfl,rfl,SqL.of e7,jo,?_⟩;rw [show Txt.join "." (wordsP (r :: q'))=showP (r :: q') from PySem.StrLaws.glued_eq_join _ _];refine ⟨_,rfl,_,rfl,_,rfl,_,rfl,wa,_,-1,_,rfl,rfl,SqL.of e8,la,(n:Int),rfl,by omega,by omega,by show 3≤sizeLine;decide,fun t ht=>?_⟩;exact fin t _ (s8.free ht) zA1 (s8.trans (Same.new ht))
end
end L2.W
namespace L2.W
open PySem My
theorem Chain.left {R:Str→Option Str→Prop}:∀ {p r:List (Str×Nat)}{a:Option Str},Chain R a (p++r)→Chain R a p
 | [],_,_,_=>trivial
 | _ :: _,_,_,h=>⟨h.1,Chain.left h.2⟩
noncomputable def spNameOf (CK C:Addr):Sp:=fun vs H Q _=>∃ (kq d:Addr) (kvs:List (Key×V)) (q:List (Str×Nat)) (k:Str) (n:Nat),vs=[.ref kq,.str k,ownV (ownP q),.int n]∧KindsAt CK H kq d kvs∧PathOk (q++[(k,n)])∧Chain (KOf C H kvs) none (q++[(k,n)]) ∧
 ∀ H',Same H H'→Q (.str (showP (q++[(k,n)]))) H'
theorem emp_app (x:Str):Str.empty++x=x:=zBz (by rw [zB5];rfl)
theorem show_int (n:Nat) (h:n≤999999):showV (.int (n:Int))=some (figs n):=by
 show (if ((n:Int).natAbs < 10 ^ 12) then some (Str.ofString (toString (n:Int))) else none)=_;rw [if_pos (by rw [Int.natAbs_natCast];omega)];rfl
theorem dot_len:("." : Str).length=1:=by decide +kernel
theorem path2 {q:List (Str×Nat)} (h:q≠[]) (k:Str) (n:Nat):showP (q++[(k,n)])=showP q++"."++(k++"."++figs n):=by
 unfold showP;rw [zDn,join_app _ _ (by simp [wordsP])]
 ·rfl
 ·intro e;have:=zB4 q;rw [e] at this;cases q with
  | nil=>exact h rfl
  | cons a t=>simp at this
section
variable {P:Program}{w:World}{K:PySem.W.Frag}{mg:Str→Option Value}{base:Heap}{CX:CXT}
theorem scNo:FnScope ["kinds", "kind", "owner", "number", "above"] ["kinds", "kind", "owner", "number"] (defScope sNameOf):=⟨rfl,rfl,rfl,by decide +kernel,rfl,by decide +kernel,by decide +kernel⟩
theorem ok_nameOf {f fn fw fh fp fi C fI CK fIk fOr fOf fOw:Addr}{fd fdn fdw fdh fdf fdp fdi:FuncData} (hC:Calm CX) (T:Tops K mg) (KC:KCls K mg C fI) (KS:KsCls K mg CK fIk fOr fOf fOw) (F:Fun K "name_of" "name_of" sNameOf f fd)
  (DN:Def K mg "is_name" sIsName ["thing"] fn fdn) (DI:Def K mg "is_whole" sIsWhole ["thing"] fi fdi) (DW:Def K mg "is_written_number" sWritten ["text", "most_figures"] fw fdw) (DH:Def K mg "has_form" sHasForm ["thing"] fh fdh) (DP:Def K mg "parts_of" sPartsOf ["kinds", "name"] fp fdp) (Of:Fun K "of" "Kinds.of" sOf fOf fdf) (bOf:Binds K fdf ["self", "name"] []):FnOk P w K mg base CX 4 f fd ["kinds", "kind", "owner", "number"] (spNameOf CK C):=by
 have GI:FnOk P w K mg base CX 1 fi fdi ["thing"] (spIsWhole K):=zFj DI.fn T;have GP:FnOk P w K mg base CX 3 fp fdp ["kinds", "name"] (spParts CK C):=ok_parts hC T KC KS DP.fn DN DW DH Of bOf;have GOf:FnOk P w K mg base CX 2 fOf fdf ["self", "name"] (spOf CK):=ok_of hC T KS Of DN;refine Fun.okC F scNo (fun vs H Q E h=>?_) (fun cdv A outer s H vs Q E hr h=>?_)
 ·obtain ⟨kq,d,kvs,q,k,n,rfl,_⟩:=h;rfl
 ·obtain ⟨kq,d,kvs,q,k,n,rfl,hk,hp,hc,fin⟩:=h;have nd:=scNo.nd;obtain ⟨tm,hmost⟩:=T.mostN;have hr1:=hr.mono (show 1≤3 by decide);have hr2:=hr.mono (show 2≤3 by decide)
  refine ⟨_,zA3 (zAb (i:=4) nd rfl (Or.inl rfl) (zBg (zCf (pv 0) KS.cl KS.mOf GOf hr2 bOf .nil (passC hC) (zA0 (pv 1) zA2)) rfl))
   (zA3 (zAx (PW.pt (zCz (zAw (zAy (zA7 GI hr1 rfl DI.at_ DI.fn.kp DI.bind .nil (passC hC) (zA0 (pv 3) zA2)))) (zBm (zAw (zDc op_le op_le zA4 (pv 3) (zB7 (v:=.int 999999) rfl hmost ⟨_,rfl⟩)))))) zAo zAd)
   (zA3 (zAx (zCa (zEt (pv 4))) (zA3 (zAx (zCa (zG8 (pv 2))) zAo zAd) (zA6 (zAc (zDf (zEn (pv 1) (pj_con (zEn (pv 3) pj_nil))))))) zAd)
   (zA3 (zAx (zAj op_ne (zAi zAq (zA7 GP hr rfl DP.at_ DP.fn.kp DP.bind .nil (passC hC) (zA0 (pv 0) (zA0 (pv 2) zA2))) zA4 (fun _ _=>rfl)) (pv 4) (nomark _)) zAo zAd)
   (zA6 (zAc (zDf (zEn (pv 2) (pj_con (zEn (pv 1) (pj_con (zEn (pv 3) pj_nil))))))))))),?_⟩
  have lastIx:(q++[(k,n)])[q.length]? = some (k,n):=by simp
  obtain ⟨a0,dx,lf,hv,ha⟩:=hc.get lastIx;have nk:=(hp.ok (k,n) (by simp)).1;have n10:=(hp.ok (k,n) (by simp)).2;obtain ⟨⟨dxk,hkq⟩,rd⟩:=hk;refine ⟨_,rfl,kq,dxk,_,rfl,hkq,zGj _ (by decide +kernel),_,rfl,kq,d,kvs,k,.ref a0,rfl,nk,⟨⟨dxk,hkq⟩,rd⟩,hv,fun H1 s1=>?_⟩;refine ⟨a0,C,dx,_,_,rfl,s1 _ _ ha,KC.cl,KC.nO,zBv _ _ _,?_⟩;refine ⟨_,rfl,_,_,_,_,rfl,.int _,rfl,rfl,_,rfl,?_⟩;refine iteF ⟨_,rfl,_,_,rfl,rfl,_,rfl,?_⟩;refine ite2 (fun _=>?_) (fun h=>absurd (decide_eq_true (by omega)) h);refine ⟨_,_,rfl,rfl,_,rfl,?_⟩;rw [decide_eq_true (show (n:Int)≤999999 by omega)];refine iteF ?_;have l1:k.length≤8:=nk.2.2;have l2:(figs n).length≤6:=zGn n10;have l3:=dot_len;have l0:Str.empty.length=0:=rfl;rcases List.eq_nil_or_concat q with e | ⟨q',r,e⟩
  ·subst e;refine ⟨_,rfl,_,rfl,iteT ?_⟩;refine ⟨_,rfl,_,rfl,iteF ?_⟩;refine ⟨_,rfl,k,rfl,by omega,by omega,by omega,by rw [zAv];omega,_,rfl,figs n,show_int n n10,by omega,by simp only [zAv];omega,by simp only [zAv];omega,?_⟩;rw [emp_app];exact fin _ s1
  ·obtain ⟨k0,n0⟩:=r;rw [List.concat_eq_append] at e;subst e;have op:ownP (q'++[(k0,n0)])=some (showP (q'++[(k0,n0)])):=by unfold ownP;rw [if_neg (by simp)]
   have ab:aboveP none ((q'++[(k0,n0)])++[(k,n)]) (q'++[(k0,n0)]).length=some k0:=by
    rw [Z7];show (((q'++[(k0,n0)])++[(k,n)])[q'.length]?).map (·.1)=some k0;simp
   have hp0:PathOk (q'++[(k0,n0)]):=⟨by simp,by have:=hp.le;rw [Z7] at this;omega,fun x hx=>hp.ok x (List.mem_append.mpr (.inl hx))⟩;have hl0:=hp0.len;rw [op,ab];refine ⟨_,rfl,_,rfl,iteF ?_⟩;refine ⟨_,rfl,_,rfl,kq,d,kvs,q',k0,n0,rfl,⟨⟨dxk,s1 _ _ hkq⟩,zG0 s1 rd⟩,hp0,hc.left.imp fun _ _ h=>h.mono s1,fun t H2 ht e2 s2=>?_⟩;refine ⟨t,_,0,.str k0,rfl,rfl,SqT.of e2,rfl,_,rfl,rfl,_,rfl,?_⟩;rw [show decide (V.str k0=ownV (some k0))=true from decide_eq_true rfl];refine iteF ?_;refine ⟨_,rfl,showP (q'++[(k0,n0)]),rfl,by omega,by omega,by omega,by rw [zAv];omega,_,rfl,k,rfl,by omega,by simp only [zAv];omega,by omega,by simp only [zAv];omega,_,rfl,figs n,show_int n n10,by omega,by simp only [zAv];omega,by simp only [zAv];omega,?_⟩;have e:Str.empty++showP (q'++[(k0,n0)])++"."++k++"."++figs n=showP ((q'++[(k0,n0)])++[(k,n)]):=by
    rw [path2 (q:=q'++[(k0,n0)]) (by simp) k n,emp_app];refine zBz ?_;simp only [zB5,List.append_assoc]
   rw [e];exact fin _ (s1.trans s2)
end
end L2.W
namespace L2.W
open PySem My
structure Ks (CK C:Addr) (H:Hp) (p d:Addr) (kvs:List (Key×V)) (zs:List (Addr×Row)) (ord:List Str):Prop where
 ka:KindsAt CK H p d kvs
 hk:∀ y∈zs,KF C Any H y.1 y.2
 pl:Placed zs ord kvs
 op:ord.Perm (zs.map fun q=>q.2.name)
 nd:(zs.map fun q=>q.2.name).Nodup
 le:zs.length≤5
 ok:∀ y∈zs,nameOk y.2.name∧FieldsOk y.2.fields
theorem Ks.same {CK C:Addr}{H H':Hp}{p d:Addr}{kvs:List (Key×V)}{zs:List (Addr×Row)}{ord:List Str} (k:Ks CK C H p d kvs zs ord) (s:Same H H'):Ks CK C H' p d kvs zs ord :=
 ⟨k.ka.mono fun b o e _=>s _ _ e,fun y hy=>(k.hk y hy).frame (fun b o e _=>s _ _ e) fun b o g _ e=>⟨g,s _ _ e⟩,k.pl,k.op,k.nd,k.le,k.ok⟩
theorem Ks.olen {CK C:Addr}{H:Hp}{p d:Addr}{kvs:List (Key×V)}{zs:List (Addr×Row)}{ord:List Str} (k:Ks CK C H p d kvs zs ord):ord.length≤5:=by
 have h1:=k.op.length_eq;rw [Z0] at h1;have h2:=k.le;omega
theorem Ks.onm {CK C:Addr}{H:Hp}{p d:Addr}{kvs:List (Key×V)}{zs:List (Addr×Row)}{ord:List Str} (k:Ks CK C H p d kvs zs ord) {n:Str} (h:n∈ord):nameOk n:=by
 obtain ⟨y,hy,_,e⟩:=k.pl.get n h;rw [← e];exact (k.ok y hy).1
noncomputable def placeOf (fs:List (Str×List Str)) (f:Str):Option Nat:=fs.findIdx? fun p=>decide (p.1=f)
noncomputable def optV:Option Nat→V
 | none=>.non
 | some i=>.int (i:Nat)
noncomputable def hasVal (fs:List (Str×List Str)) (f v:Str):Bool:=match placeOf fs f with
 | some i=>(match fs[i]? with | some p=>decide (v∈p.2) | none=>false)
 | none=>false
noncomputable def spPlace (C:Addr):Sp:=fun vs H Q _=>∃ (p:Addr) (r:Row) (f:Str),vs=[.ref p,.str f]∧KF C Any H p r∧FieldsOk r.fields∧∀ H',Same H H'→Q (optV (placeOf r.fields f)) H'
noncomputable def spHasVal (C:Addr):Sp:=fun vs H Q _=>∃ (p:Addr) (r:Row) (f v:Str),vs=[.ref p,.str f,.str v]∧KF C Any H p r∧FieldsOk r.fields∧∀ H',Same H H'→Q (.bl (hasVal r.fields f v)) H'
theorem flats (ks:List Str):(ks.map V.str).all flatV=true:=by
 rw [Yc];intro x hx;obtain ⟨k,_,rfl⟩:=List.mem_map.mp hx;rfl
theorem zF4 {n:Str}:∀ ks:List Str,inV (.str n) (ks.map V.str)=decide (n∈ks)
 | []=>by simp [inV]
 | k :: r=>by
  have:=zF4 (n:=n) r;unfold inV at this ⊢;rw [Z8,Xe,this];by_cases c:k=n
  ·subst c;simp [eqV]
  ·have h1:eqV (.str k) (.str n)=false:=by
    unfold eqV;simp [c]
   rw [h1];simp [Ne.symm c]
theorem zC0 {fs:List (Str×List Str)}{f:Str}{i:Nat} (h:placeOf fs f=some i):(fs.map (·.1))[i]? = some f∧∀ m,m < i→(fs.map (·.1))[m]?≠some f:=by
 unfold placeOf at h;rw [List.findIdx?_eq_some_iff_getElem] at h;obtain ⟨hi,h1,h2⟩:=h;refine ⟨?_,fun m hm e=>?_⟩
 ·rw [Z4,Z1 hi];exact congrArg some (of_decide_eq_true h1)
 ·have hm':m < fs.length:=by omega
  rw [Z4,Z1 hm'] at e;exact h2 m hm (decide_eq_true (Zk e))
theorem zDs {fs:List (Str×List Str)}{f:Str} (h:placeOf fs f=none):f∉fs.map (·.1):=fun hm=>by
 unfold placeOf at h;rw [List.findIdx?_eq_none_iff] at h;obtain ⟨q,hq,e⟩:=List.mem_map.mp hm;have:=h q hq;rw [decide_eq_true e] at this;cases this
section
variable {P:Program}{w:World}{K:PySem.W.Frag}{mg:Str→Option Value}{base:Heap}{CX:CXT}
theorem scPlc:FnScope ["kind", "field", "fields"] ["kind", "field"] (defScope sPlaceOf):=⟨rfl,rfl,rfl,by decide +kernel,rfl,by decide +kernel,by decide +kernel⟩
theorem ok_place {f C fI:Addr}{fd:FuncData} (KC:KCls K mg C fI) (F:Fun K "place_of" "place_of" sPlaceOf f fd):FnOk P w K mg base CX 1 f fd ["kind", "field"] (spPlace C):=by
 refine Fun.okC F scPlc (fun vs H Q E h=>?_) (fun cdv A outer s H vs Q E hr h=>?_)
 ·obtain ⟨p,r,f,rfl,_⟩:=h;rfl
 ·obtain ⟨p,r,f,rfl,⟨dx,l,e,hd⟩,ok,k⟩:=h;have nd:=scPlc.nd
  refine ⟨_,zA3 (zBh (T:=["pair"]) (i:=2) rfl ScOk.auto (zAh (zBg (pv 0) rfl)) (fun _ _ _ _=>zAa (i:=3) (by decide +kernel:(["kind", "field", "fields", "pair"]:List Str).Nodup) rfl (Or.inl rfl)) (fun _ _ _ _=>zB2) (fun _ _ _ _=>zAi (r:=rIxT K) zAq (pv 3) zA4 (fun _ _=>rfl)) nd rfl rfl rfl)
   (zA6 (zAc (zCr (zAj op_in_seq (pv 1) (pv 2) rfl) (zCv PySem.F.plainAttrs_list PySem.F.slot_list_index PySem.F.type_list_index (mt_lindex rfl) (pv 2) (zA0 (pv 1) zA2)) zBk))),?_⟩
  have small:∀ n:Nat,n≤1000→n≤sizeLine:=fun n h=>Zm (small1000 h);obtain ⟨l',xs,e',_,hl,hz,hx⟩:=hd.list_inv;cases e';have xl:xs.length=r.fields.length:=by rw [hx.length,Z0]
  have fl:=ok.le;refine ⟨_,rfl,p,C,dx,_,_,rfl,e,KC.cl,KC.nF,zF0 _ _ _,l,rfl,⟨_,SqL.of hl⟩,zAl (xs:=xs) (fun i ys H'=>H=H'∧ys=((r.fields.take i).map (·.1)).map V.str) ⟨rfl,rfl⟩ (fun i ys H' p=>by rw [← p.1];exact SqL.of hl) (fun i ys H' hi p=>?_) ?_ ?_⟩
  ·rw [p.2,Z0,Z0];have:=Zy i r.fields;exact small _ (by omega)
  ·rintro i x ys H' hi ⟨rfl,rfl⟩ N hN;obtain ⟨dd,hdd,hv⟩:=hx.get hi;rw [Z4] at hdd;cases ef:r.fields[i]? with
   | none=>rw [ef] at hdd;cases hdd
   | some q =>
    rw [ef] at hdd;cases hdd;obtain ⟨b,lv,rfl,hb,_⟩:=zBl hv;refine pick ?_;refine ⟨_,rfl,b,_,0,_,rfl,rfl,SqT.of hb,rfl,hN _ _ ⟨rfl,?_⟩⟩;rw [Zd,ef,Za,Za];rfl
  ·rintro ys H' ⟨rfl,rfl⟩ c hc;rw [xl,Zh];have s1:Same H (upd H c (.lst ((r.fields.map (·.1)).map V.str))):=Same.new hc;have e1:(upd H c (.lst ((r.fields.map (·.1)).map V.str))) c=some (.lst ((r.fields.map (·.1)).map V.str)):=zA1;generalize upd H c (.lst ((r.fields.map (·.1)).map V.str))=H1 at s1 e1 ⊢;refine ⟨_,rfl,_,rfl,c,_,rfl,.inl (SqL.of e1),rfl,flats _,_,rfl,?_⟩;rw [show (if false=true then !inV (.str f) ((r.fields.map (·.1)).map V.str) else inV (.str f) ((r.fields.map (·.1)).map V.str))=inV (.str f) ((r.fields.map (·.1)).map V.str) from rfl,zF4];cases pe:placeOf r.fields f with
   | none =>
    rw [decide_eq_false (zDs pe)];refine iteF ?_;rw [pe] at k;exact k _ s1
   | some j =>
    obtain ⟨h1,h2⟩:=zC0 pe;rw [decide_eq_true (Z3 h1)];refine iteT ?_;rw [pe] at k;exact ⟨_,rfl,.inl ⟨rfl,_,SqL.of e1⟩,_,rfl,c,_,f,j,rfl,rfl,SqL.of e1,h1,h2,k _ s1⟩
theorem scHv:FnScope ["kind", "field", "value", "place"] ["kind", "field", "value"] (defScope sHasVal):=⟨rfl,rfl,rfl,by decide +kernel,rfl,by decide +kernel,by decide +kernel⟩
theorem ok_hasVal {f fp C fI:Addr}{fd fdp:FuncData} (hC:Calm CX) (KC:KCls K mg C fI) (F:Fun K "has_value" "has_value" sHasVal f fd) (DP:Def K mg "place_of" sPlaceOf ["kind", "field"] fp fdp):FnOk P w K mg base CX 2 f fd ["kind", "field", "value"] (spHasVal C):=by
 have GP:FnOk P w K mg base CX 1 fp fdp ["kind", "field"] (spPlace C):=ok_place KC DP.fn;refine Fun.okC F scHv (fun vs H Q E h=>?_) (fun cdv A outer s H vs Q E hr h=>?_)
 ·obtain ⟨p,r,f,v,rfl,_⟩:=h;rfl
 ·obtain ⟨p,r,f,v,rfl,kf,ok,k⟩:=h;have nd:=scHv.nd
  refine ⟨_,zA3 (zAb (i:=3) nd rfl (Or.inl rfl) (zA7 GP hr rfl DP.at_ DP.fn.kp DP.bind .nil (passC hC) (zA0 (pv 0) (zA0 (pv 1) zA2))))
   (zA6 (zAc (zBs (zC7 op_notN (pv 3) zBk (nomark _)) (zCe (zC7 op_in_seq (pv 2) (zAi zAq (zAi zAk (zBg (pv 0) rfl) (pv 3) (fun _ _=>rfl)) zA4 (fun _ _=>rfl)) rfl))))),?_⟩
  refine ⟨_,rfl,_,rfl,p,r,f,rfl,kf,ok,fun H1 s1=>?_⟩;cases pe:placeOf r.fields f with
  | none =>
   refine ⟨_,rfl,rfl,_,rfl,iteF ?_⟩;have:hasVal r.fields f v=false:=by unfold hasVal;rw [pe]
   rw [this] at k;exact k _ s1
  | some j =>
   refine ⟨_,rfl,rfl,_,rfl,iteT ?_⟩;obtain ⟨h1,_⟩:=zC0 pe;rw [Z4] at h1;obtain ⟨q,hq,_⟩:=Option.map_eq_some_iff.mp h1;have ev:hasVal r.fields f v=decide (v∈q.2):=by unfold hasVal;rw [pe];show (match r.fields[j]? with | some p=>decide (v∈p.2) | none=>false)=_;rw [hq]
   obtain ⟨dx,l,e,hd⟩:=kf;obtain ⟨l',xs,e',_,hl,hz,hx⟩:=hd.list_inv;cases e';have xl:xs.length=r.fields.length:=by rw [hx.length,Z0]
   obtain ⟨x,ex⟩:∃ x,xs[j]? = some x:=⟨_,Z1 (by rw [xl];exact (List.getElem?_eq_some_iff.mp hq).1)⟩;obtain ⟨dd,hdd,hv⟩:=hx.get ex;rw [Z4,hq] at hdd;cases hdd;obtain ⟨b,lv,rfl,hb,hlv⟩:=zBl hv;refine ⟨_,rfl,_,rfl,p,C,dx,_,_,rfl,s1 _ _ e,KC.cl,KC.nF,zF0 _ _ _,_,rfl,l,_,_,_,rfl,rfl,SqL.of (s1 _ _ hl),zB1 ex,b,_,1,_,rfl,rfl,SqT.of (s1 _ _ hb),rfl,lv,_,rfl,.inl (SqL.of (s1 _ _ hlv)),rfl,flats _,?_⟩;rw [show (if false=true then !inV (.str v) (q.2.map V.str) else inV (.str v) (q.2.map V.str))=inV (.str v) (q.2.map V.str) from rfl,zF4,← ev];exact k _ s1
end
end L2.W
namespace L2.W
open PySem My
noncomputable def valB (fs:List (Str×List Str)):PyData→PyData→Bool
 | .str x,.str y=>hasVal fs x y
 | _,_=>false
noncomputable def pairOfB (fs:List (Str×List Str)):PyData→Bool
 | .tuple [a,b]=>nameD a && (nameD b && valB fs a b)
 | _=>false
noncomputable def caresB (fs:List (Str×List Str)):PyData→Bool
 | .list ds=>ds.all (pairOfB fs) && unlikeB (ds.map firstD)
 | _=>false
noncomputable def manyB:PyData→Bool
 | .int i=>decide (1≤i) && decide (i≤60)
 | _=>false
noncomputable def rowAt (rs:List Row):PyData→Option Row
 | .str n=>rs.find? fun r=>decide (r.name=n)
 | _=>none
noncomputable def rowB (rs:List Row):PyData→Bool
 | .tuple [a,m,c]=>(match rowAt rs a with | some r=>manyB m && caresB r.fields c | none=>false)
 | _=>false
noncomputable def rowsB (rs:List Row):PyData→Bool
 | .list ds=>ds.all (rowB rs)
 | _=>false
noncomputable def spPairOf (C:Addr):Sp:=fun vs H Q _=>∃ (p:Addr) (r:Row) (v:V) (d:PyData),vs=[.ref p,v]∧KF C Any H p r∧FieldsOk r.fields∧Has Any H v d∧∀ H',Same H H'→Q (.bl (pairOfB r.fields d)) H'
noncomputable def spPairsOf (C:Addr):Sp:=fun vs H Q _=>∃ (p:Addr) (r:Row) (v:V) (d:PyData),vs=[.ref p,v]∧KF C Any H p r∧FieldsOk r.fields∧Has Any H v d∧∀ H',Same H H'→Q (.bl (caresB r.fields d)) H'
theorem KF.same {C:Addr}{G:Addr→Prop}{H H':Hp}{p:Addr}{r:Row} (h:KF C G H p r) (s:Same H H'):KF C G H' p r:=h.frame (fun b o e _=>s _ _ e) fun b o g _ e=>⟨g,s _ _ e⟩
theorem pairOf_inv {G:Addr→Prop}{H:Hp}{v:V}{d:PyData}{fs:List (Str×List Str)} (h:Has G H v d) (e:pairOfB fs d=true) :
  ∃ a x y,v=.ref a∧G a∧H a=some (.tup [.str x,.str y])∧d=.tuple [.str x,.str y]∧nameB x=true∧nameB y=true∧hasVal fs x y=true∧x.length≤1000∧PyData.strOk x=true∧y.length≤1000∧PyData.strOk y=true:=by
 cases h with
 | non=>cases e
 | bl b=>cases e
 | int i=>cases e
 | str x _ _=>cases e
 | lst _ _ _ _=>cases e
 | tup g s z q =>
  cases q with
  | nil=>cases e
  | cons h1 q =>
   cases q with
   | nil=>cases e
   | cons h2 q =>
    cases q with
    | cons _ _=>cases e
    | nil =>
     have e':=e;unfold pairOfB at e';rw [Zv,Zv] at e';obtain ⟨e1,e2,e3⟩:=e';cases h1 with
     | str x x1 x2 =>
      cases h2 with
      | str y y1 y2=>exact ⟨_,x,y,rfl,g,s,rfl,e1,e2,e3,x1,x2,y1,y2⟩
      | _=>cases e2
     | _=>cases e1
theorem paired2 {a b:PyData}{fs:List (Str×List Str)}:pairOfB fs (.tuple [a,b])=(nameD a && (nameD b && valB fs a b)):=rfl
section
variable {P:Program}{w:World}{K:PySem.W.Frag}{mg:Str→Option Value}{base:Heap}{CX:CXT}
theorem scPof:FnScope ["kind", "thing"] ["kind", "thing"] (defScope sPairOf):=⟨rfl,rfl,rfl,by decide +kernel,rfl,by decide +kernel,by decide +kernel⟩
theorem ok_pairOf {f fn fh fp C fI:Addr}{fd fdn fdh fdp:FuncData} (hC:Calm CX) (T:Tops K mg) (KC:KCls K mg C fI) (F:Fun K "is_pair_of" "is_pair_of" sPairOf f fd) (DN:Def K mg "is_name" sIsName ["thing"] fn fdn)
  (DH:Def K mg "has_value" sHasVal ["kind", "field", "value"] fh fdh) (DP:Def K mg "place_of" sPlaceOf ["kind", "field"] fp fdp):FnOk P w K mg base CX 3 f fd ["kind", "thing"] (spPairOf C):=by
 have GN:FnOk P w K mg base CX 1 fn fdn ["thing"] spNameD:=zCt DN.fn T;have GH:FnOk P w K mg base CX 2 fh fdh ["kind", "field", "value"] (spHasVal C):=ok_hasVal hC KC DH.fn DP;refine Fun.okC F scPof (fun vs H Q E h=>?_) (fun cdv A outer s H vs Q E hr h=>?_)
 ·obtain ⟨p,r,v,d,rfl,_⟩:=h;rfl
 ·obtain ⟨p,r,v,d,rfl,kf,ok,hd,k⟩:=h;have hr1:=hr.mono (show 1≤2 by decide)
  refine ⟨_,zA3 (zAx (PW.pt (zCz (zAw (zAy (zA9 zAn rfl T.isinst PyProof.Rows.boot_isinstance (zA0 (pv 1) (zA0 (zB9 (v:=.ty "tuple") rfl T.tuple PyProof.Rows.boot_tuple rfl) zA2)))))
    (zBm (zAj op_ne (zA9 zAe rfl T.len PySem.boot_len (zA0 (pv 1) zA2)) zA4 (nomark _))))) (zA6 (zAc zBo)) zAd)
   (zA6 (zAc (zBs (zA7 GN hr1 rfl DN.at_ DN.fn.kp DN.bind .nil (passC hC) (zA0 (zAi zAq (pv 1) zA4 (fun _ _=>rfl)) zA2)) (zBs (zA7 GN hr1 rfl DN.at_ DN.fn.kp DN.bind .nil (passC hC) (zA0 (zAi zAq (pv 1) zA4 (fun _ _=>rfl)) zA2))
    (zCe (zA7 GH hr rfl DH.at_ DH.fn.kp DH.bind .nil (passC hC) (zA0 (pv 0) (zA0 (zAi zAq (pv 1) zA4 (fun _ _=>rfl)) (zA0 (zAi zAq (pv 1) zA4 (fun _ _=>rfl)) zA2))))))))),?_⟩
  have k0:pairOfB r.fields d=false→∀ H',Same H H'→Q (.bl false) H':=fun e H' s'=>by rw [← e];exact k _ s'
  refine ⟨_,rfl,?_⟩;cases hd with
  | non=>exact ⟨_,_,_,_,_,rfl,.non,rfl,rfl,_,rfl,iteT (iteT (k0 rfl _ (Same.refl _)))⟩
  | bl b=>exact ⟨_,_,_,_,_,rfl,(.bl b),rfl,rfl,_,rfl,iteT (iteT (k0 rfl _ (Same.refl _)))⟩
  | int i=>exact ⟨_,_,_,_,_,rfl,(.int i),rfl,rfl,_,rfl,iteT (iteT (k0 rfl _ (Same.refl _)))⟩
  | str x _ _=>exact ⟨_,_,_,_,_,rfl,(.str x),rfl,rfl,_,rfl,iteT (iteT (k0 rfl _ (Same.refl _)))⟩
  | lst _ e _ _=>exact ⟨_,_,_,_,_,rfl,(.lst e),rfl,rfl,_,rfl,iteT (iteT (k0 rfl _ (Same.refl _)))⟩
  | @tup a xs ds _ e z q =>
   refine ⟨_,_,_,_,_,rfl,.tup e,rfl,rfl,_,rfl,iteF ?_⟩;refine ⟨_,rfl,a,xs,rfl,.inr (SqT.of e),rfl,_,rfl,?_⟩;have hl:=q.length;by_cases h2:xs.length=2
   ·rw [decide_eq_true (show V.int (xs.length:Int)=V.int 2 by rw [h2];rfl)];refine iteF ?_;obtain ⟨d0,d1,rfl⟩:∃ d0 d1,ds=[d0,d1]:=by
     match ds,hl.symm.trans h2 with
     | [d0,d1],_=>exact ⟨d0,d1,rfl⟩
    cases q with
    | @cons x0 _ _ _ q0 q =>
     cases q with
     | @cons x1 _ _ _ q1 q =>
      cases q;refine ⟨_,rfl,a,_,0,x0,rfl,rfl,SqT.of e,rfl,_,d0,rfl,q0,fun H1 s1=>⟨_,rfl,?_⟩⟩;cases e0:nameD d0 with
      | false=>exact iteF (k0 (by rw [paired2,e0];rfl) _ s1)
      | true =>
       refine iteT ⟨_,rfl,a,_,1,x1,rfl,rfl,SqT.of (s1 _ _ e),rfl,_,d1,rfl,q1.mono s1,fun H2 s2=>⟨_,rfl,?_⟩⟩;cases e1:nameD d1 with
       | false=>exact iteF (k0 (by rw [paired2,e0,e1];rfl) _ (s1.trans s2))
       | true =>
        cases q0 with
        | str n0 _ _ =>
         cases q1 with
         | str n1 _ _ =>
          have s12:=s1.trans s2;refine iteT ⟨_,rfl,_,rfl,a,_,0,_,rfl,rfl,SqT.of (s12 _ _ e),rfl,_,rfl,a,_,1,_,rfl,rfl,SqT.of (s12 _ _ e),rfl,p,r,n0,n1,rfl,kf.same s12,ok,fun H3 s3=>?_⟩;have ev:pairOfB r.fields (.tuple [.str n0,.str n1])=hasVal r.fields n0 n1:=by rw [paired2,e0,e1];rfl
          rw [← ev];exact k _ (s12.trans s3)
         | _=>cases e1
        | _=>cases e0
   ·rw [decide_eq_false (show ¬ V.int (xs.length:Int)=V.int 2 by intro z0;injection z0 with z0;omega)];refine iteT (k0 ?_ _ (Same.refl _))
    match ds,hl with
    | [],_=>rfl
    | [_],_=>rfl
    | [_,_],hl=>exact absurd hl h2
    | _ :: _ :: _ :: _,_=>rfl
theorem scPsf:FnScope ["kind", "things"] ["kind", "things"] (defScope sPairsOf):=⟨rfl,rfl,rfl,by decide +kernel,rfl,by decide +kernel,by decide +kernel⟩
theorem ok_pairsOf {f fq fn fu fh fp C fI:Addr}{fd fdq fdn fdu fdh fdp:FuncData} (hC:Calm CX) (T:Tops K mg) (KC:KCls K mg C fI) (F:Fun K "are_pairs_of" "are_pairs_of" sPairsOf f fd) (DN:Def K mg "is_name" sIsName ["thing"] fn fdn) (DU:Def K mg "are_unlike_names" sUnlike ["things"] fu fdu)
  (DQ:Def K mg "is_pair_of" sPairOf ["kind", "thing"] fq fdq) (DH:Def K mg "has_value" sHasVal ["kind", "field", "value"] fh fdh) (DP:Def K mg "place_of" sPlaceOf ["kind", "field"] fp fdp):FnOk P w K mg base CX 4 f fd ["kind", "things"] (spPairsOf C):=by
 have GU:FnOk P w K mg base CX 2 fu fdu ["things"] spUnlike:=zDh hC T DU.fn DN;have GP:FnOk P w K mg base CX 3 fq fdq ["kind", "thing"] (spPairOf C):=ok_pairOf hC T KC DQ.fn DN DH DP;refine Fun.okC F scPsf (fun vs H Q E h=>?_) (fun cdv A outer s H vs Q E hr h=>?_)
 ·obtain ⟨p,r,v,d,rfl,_⟩:=h;rfl
 ·obtain ⟨p,r,v,d,rfl,kf,ok,hd,k⟩:=h;have hr2:=hr.mono (show 2≤3 by decide)
  refine ⟨_,zA3 (zAx (PW.pt (zCz (zAw (zAy (zA9 zAn rfl T.isinst PyProof.Rows.boot_isinstance (zA0 (pv 1) (zA0 (zB9 (v:=.ty "list") rfl T.list PyProof.Rows.boot_list rfl) zA2)))))
    (zBm (zAw (zAy (zA9 (zBi rfl) rfl T.all PyProof.Rows.boot_all (zA0 (zAr (T:=["thing"]) rfl ScOk.auto (zAh (pv 1)) (fun _ _ _ _=>zAa (i:=2) (by decide +kernel:(["kind", "things", "thing"]:List Str).Nodup) rfl (Or.inl rfl)) (fun _ _ _ _=>zB2)
    (fun _ _ _ _=>zA7 GP hr rfl DQ.at_ DQ.fn.kp DQ.bind .nil (passC hC) (zA0 (pv 0) (zA0 (pv 2) zA2)))) zA2))))))) (zA6 (zAc zBo)) zAd)
   (zA6 (zAc (zA7 GU hr2 rfl DU.at_ DU.fn.kp DU.bind .nil (passC hC) (zA0 (zAr (T:=["thing"]) rfl ScOk.auto (zAh (pv 1)) (fun _ _ _ _=>zAa (i:=2) (by decide +kernel:(["kind", "things", "thing"]:List Str).Nodup) rfl (Or.inl rfl)) (fun _ _ _ _=>zB2)
    (fun _ _ _ _=>zAi (r:=rIxT K) zAq (pv 2) zA4 (fun _ _=>rfl))) zA2)))),?_⟩
  have k0:caresB r.fields d=false→∀ H',Same H H'→Q (.bl false) H':=fun e H' s'=>by rw [← e];exact k _ s'
  refine ⟨_,rfl,?_⟩;cases hd with
  | non=>exact ⟨_,_,_,_,_,rfl,.non,rfl,rfl,_,rfl,iteT (iteT (k0 rfl _ (Same.refl _)))⟩
  | bl b=>exact ⟨_,_,_,_,_,rfl,(.bl b),rfl,rfl,_,rfl,iteT (iteT (k0 rfl _ (Same.refl _)))⟩
  | int i=>exact ⟨_,_,_,_,_,rfl,(.int i),rfl,rfl,_,rfl,iteT (iteT (k0 rfl _ (Same.refl _)))⟩
  | str x _ _=>exact ⟨_,_,_,_,_,rfl,(.str x),rfl,rfl,_,rfl,iteT (iteT (k0 rfl _ (Same.refl _)))⟩
  | tup _ e _ _=>exact ⟨_,_,_,_,_,rfl,(.tup e),rfl,rfl,_,rfl,iteT (iteT (k0 rfl _ (Same.refl _)))⟩
  | @lst a xs ds _ ha hz hx =>
   refine ⟨_,_,_,_,_,rfl,.lst ha,rfl,rfl,_,rfl,iteF ?_⟩;refine ⟨_,rfl,a,rfl,⟨xs,SqL.of ha⟩,zAl (xs:=xs) (fun i ys H'=>Same H H'∧ys=(ds.take i).map fun d=>V.bl (pairOfB r.fields d)) ⟨Same.refl _,rfl⟩ (fun i ys H' p=>SqL.of (p.1 _ _ ha)) (fun i ys H' hi p=>?_) ?_ ?_⟩
   ·rw [p.2,Z0];have:=Zt i ds;have:=small1000 hz;omega
   ·rintro i x ys H' hi ⟨s1,rfl⟩ N hN;obtain ⟨d,hd',hv⟩:=hx.get hi;refine pick ?_;refine ⟨_,rfl,_,rfl,p,r,_,d,rfl,kf.same s1,ok,hv.mono s1,fun H2 s2=>hN _ _ ⟨s1.trans s2,?_⟩⟩;rw [Zd,hd',Za];rfl
   ·rintro ys H' ⟨s1,rfl⟩ p hp;have e:(ds.take xs.length).map (fun d=>V.bl (pairOfB r.fields d))=(ds.map (pairOfB r.fields)).map V.bl:=by
     rw [hx.length,Zh,Zn];rfl
    have s2:Same H (upd H' p (.lst ((ds.take xs.length).map fun d=>V.bl (pairOfB r.fields d)))):=s1.trans (Same.new hp);refine ⟨p,ds.map (pairOfB r.fields),rfl,SqL.of (by rw [zA1,e]),_,rfl,?_⟩;have ea:(ds.map (pairOfB r.fields)).all id=ds.all (pairOfB r.fields):=by rw [Yt];rfl
    rw [ea];cases eb:ds.all (pairOfB r.fields) with
    | false =>
     refine iteT (k0 ?_ _ s2);show (ds.all (pairOfB r.fields) && _)=false;rw [eb];rfl
    | true =>
     refine iteF ?_;have ha2:=s2 _ _ ha;generalize upd H' p (.lst ((ds.take xs.length).map fun d=>V.bl (pairOfB r.fields d)))=H3 at s2 ha2 ⊢;refine ⟨_,rfl,a,rfl,⟨xs,SqL.of ha2⟩,zAl (xs:=xs) (fun i ys H'=>H'=H3∧HasAll Any H3 ys ((ds.take i).map firstD)) ⟨rfl,.nil⟩ (fun i ys H' p=>by rw [p.1];exact SqL.of ha2) (fun i ys H' hi p=>?_) ?_ ?_⟩
     ·have:=p.2.length;rw [Z0] at this;have:=Zt i ds;have:=small1000 hz;omega
     ·rintro i x ys H' hi ⟨rfl,hy⟩ N hN;obtain ⟨d,hd',hv⟩:=hx.get hi;obtain ⟨b,x0,y0,rfl,_,hb,rfl,_,_,_,x1,x2,_,_⟩:=pairOf_inv hv (zGw eb hd');refine pick ?_;refine ⟨_,rfl,b,_,_,_,rfl,rfl,SqT.of (s2 _ _ hb),rfl,hN _ _ ⟨rfl,?_⟩⟩;rw [Zd,hd',Za];exact hy.snoc (.str x0 x1 x2)
     ·rintro ys H' ⟨rfl,hy⟩ q hq;have s3:=s2.trans (Same.new (o:=.lst ys) hq);have hl:ys.length≤1000:=by
       have:=hy.length;rw [Z0] at this;have:=Zt xs.length ds;omega
      refine ⟨_,ds.map firstD,rfl,.lst trivial zA1 hl ?_,fun H4 s4=>?_⟩
      ·rw [hx.length,Zh] at hy;exact hy.mono (Same.new hq)
      ·have e1:caresB r.fields (.list ds)=unlikeB (ds.map firstD):=by
        show (ds.all (pairOfB r.fields) && unlikeB (ds.map firstD))=_;rw [eb];rfl
       rw [← e1];exact k _ (s3.trans s4)
end
end L2.W
namespace L2.W
open PySem My
theorem rowAt_of {CK C:Addr}{H:Hp}{p d:Addr}{kvs:List (Key×V)}{zs:List (Addr×Row)}{ord:List Str} (k:Ks CK C H p d kvs zs ord) {n:Str} (h:n∈ord):∃ y∈zs,valV kvs (Sum.inr n)=some (V.ref y.1)∧y.2.name=n∧rowAt (zs.map (·.2)) (.str n)=some y.2:=by
 obtain ⟨y,hy,hv,e⟩:=k.pl.get n h;refine ⟨y,hy,hv,e,?_⟩;show (zs.map (·.2)).find? (fun r=>decide (r.name=n))=_;have nd:=k.nd;clear hv h k
 induction zs with
 | nil=>cases hy
 | cons a t ih =>
  rw [Z8,Yg];rw [Z8,Yv] at nd;by_cases c:a.2.name=n
  ·rw [decide_eq_true c];rcases List.mem_cons.mp hy with h | h
   ·rw [h]
   ·exact absurd (List.mem_map.mpr ⟨y,h,e.trans c.symm⟩) nd.1
  ·rw [decide_eq_false c];rcases List.mem_cons.mp hy with h | h
   ·exact absurd (by rw [← h];exact e) c
   ·exact ih h nd.2
theorem rowAt_no {CK C:Addr}{H:Hp}{p d:Addr}{kvs:List (Key×V)}{zs:List (Addr×Row)}{ord:List Str} (k:Ks CK C H p d kvs zs ord) {n:Str} (h:n∉ord):rowAt (zs.map (·.2)) (.str n)=none:=by
 show (zs.map (·.2)).find? (fun r=>decide (r.name=n))=none;rw [List.find?_eq_none];intro r hr e;obtain ⟨y,hy,rfl⟩:=List.mem_map.mp hr;exact h (k.op.mem_iff.mpr (List.mem_map.mpr ⟨y,hy,of_decide_eq_true e⟩))
noncomputable def spIsRow (CK C:Addr):Sp:=fun vs H Q _=>∃ (p d:Addr) (kvs:List (Key×V)) (zs:List (Addr×Row)) (ord:List Str) (v:V) (dd:PyData),vs=[.ref p,v]∧Ks CK C H p d kvs zs ord∧Has Any H v dd∧∀ H',Same H H'→Q (.bl (rowB (zs.map (·.2)) dd)) H'
noncomputable def spAreRows (CK C:Addr):Sp:=fun vs H Q _=>∃ (p d:Addr) (kvs:List (Key×V)) (zs:List (Addr×Row)) (ord:List Str) (v:V) (dd:PyData),vs=[.ref p,v]∧Ks CK C H p d kvs zs ord∧Has Any H v dd∧∀ H',Same H H'→Q (.bl (rowsB (zs.map (·.2)) dd)) H'
theorem rowB3 {rs:List Row}{a m c:PyData}:rowB rs (.tuple [a,m,c])=(match rowAt rs a with | some r=>manyB m && caresB r.fields c | none=>false):=rfl
theorem whole_ty {H:Hp}{K:PySem.W.Frag}{v:V}{d:PyData} (h:Has Any H v d):∃ t b c,TyOf K H v t∧PySem.W.kitOne K t (.type "int")=some b∧PySem.W.kitOne K t (.type "bool")=some c∧(b && !c)=(match d with | .int _=>true | _=>false):=by
 cases h with
 | non=>exact ⟨_,_,_,.non,rfl,rfl,rfl⟩
 | bl b=>exact ⟨_,_,_,.bl b,rfl,rfl,rfl⟩
 | int i=>exact ⟨_,_,_,.int i,rfl,rfl,rfl⟩
 | str x _ _=>exact ⟨_,_,_,.str x,rfl,rfl,rfl⟩
 | lst _ e _ _=>exact ⟨_,_,_,.lst e,rfl,rfl,rfl⟩
 | tup _ e _ _=>exact ⟨_,_,_,.tup e,rfl,rfl,rfl⟩
section
variable {P:Program}{w:World}{K:PySem.W.Frag}{mg:Str→Option Value}{base:Heap}{CX:CXT}
theorem scIr:FnScope ["kinds", "thing"] ["kinds", "thing"] (defScope sIsRow):=⟨rfl,rfl,rfl,by decide +kernel,rfl,by decide +kernel,by decide +kernel⟩
theorem ok_isRow {f fn fi fs C fI CK fIk fOr fOf fOw:Addr}{fd fdn fdi fds fdr fdo:FuncData} (hC:Calm CX) (T:Tops K mg) (KC:KCls K mg C fI) (KS:KsCls K mg CK fIk fOr fOf fOw) (F:Fun K "is_row" "is_row" sIsRow f fd) (DN:Def K mg "is_name" sIsName ["thing"] fn fdn) (DI:Def K mg "is_whole" sIsWhole ["thing"] fi fdi)
  (DS:Def K mg "are_pairs_of" sPairsOf ["kind", "things"] fs fds) (GS:FnOk P w K mg base CX 4 fs fds ["kind", "things"] (spPairsOf C)) (FR:Fun K "order" "Kinds.order" sOrder fOr fdr) (bR:Binds K fdr ["self"] []) (FO:Fun K "of" "Kinds.of" sOf fOf fdo) (bO:Binds K fdo ["self", "name"] []) :
  FnOk P w K mg base CX 5 f fd ["kinds", "thing"] (spIsRow CK C):=by
 have GN:FnOk P w K mg base CX 1 fn fdn ["thing"] spNameD:=zCt DN.fn T;have GI:FnOk P w K mg base CX 1 fi fdi ["thing"] (spIsWhole K):=zFj DI.fn T;have GR:FnOk P w K mg base CX 1 fOr fdr ["self"] (spOrder CK):=zGf T KS FR;have GO:FnOk P w K mg base CX 2 fOf fdo ["self", "name"] (spOf CK):=ok_of hC T KS FO DN;refine Fun.okC F scIr (fun vs H Q E h=>?_) (fun cdv A outer s H vs Q E hr h=>?_)
 ·obtain ⟨p,d,kvs,zs,ord,v,dd,rfl,_⟩:=h;rfl
 ·obtain ⟨p,d,kvs,zs,ord,v,dd,rfl,ks,hd,k⟩:=h;have hr1:=hr.mono (show 1≤4 by decide);have hr2:=hr.mono (show 2≤4 by decide);obtain ⟨tm,hmost⟩:=T.mostM
  refine ⟨_,zA3 (zAx (PW.pt (zCz (zAw (zAy (zA9 zAn rfl T.isinst PyProof.Rows.boot_isinstance (zA0 (pv 1) (zA0 (zB9 (v:=.ty "tuple") rfl T.tuple PyProof.Rows.boot_tuple rfl) zA2)))))
    (zBm (zAj op_ne (zA9 zAe rfl T.len PySem.boot_len (zA0 (pv 1) zA2)) zA4 (nomark _))))) (zA6 (zAc zBo)) zAd)
   (zA3 (zAx (PW.pt (zCz (zAw (zAy (zA7 GN hr1 rfl DN.at_ DN.fn.kp DN.bind .nil (passC hC) (zA0 (zAi zAq (pv 1) zA4 (fun _ _=>rfl)) zA2))))
    (zBm (zAj zE6 (zAi zAq (pv 1) zA4 (fun _ _=>rfl)) (zCq (pv 0) KS.cl KS.mOr GR hr1 bR .nil (passC hC)) rfl)))) (zA6 (zAc zBo)) zAd)
   (zA3 (zAx (PW.pt (zCz (zAw (zAy (zA7 GI hr1 rfl DI.at_ DI.fn.kp DI.bind .nil (passC hC) (zA0 (zAi zAq (pv 1) zA4 (fun _ _=>rfl)) zA2))))
    (zBm (zAw (zDc op_le op_le zA4 (zAi zAq (pv 1) zA4 (fun _ _=>rfl)) (zB7 (v:=.int 60) rfl hmost ⟨_,rfl⟩)))))) (zA6 (zAc zBo)) zAd)
   (zA6 (zAc (zA7 GS hr rfl DS.at_ DS.fn.kp DS.bind .nil (passC hC) (zA0 (zCf (pv 0) KS.cl KS.mOf GO hr2 bO .nil (passC hC) (zA0 (zAi zAq (pv 1) zA4 (fun _ _=>rfl)) zA2)) (zA0 (zAi zAq (pv 1) zA4 (fun _ _=>rfl)) zA2))))))),?_⟩
  have k0:rowB (zs.map (·.2)) dd=false→∀ H',Same H H'→Q (.bl false) H':=fun e H' s'=>by rw [← e];exact k _ s'
  refine ⟨_,rfl,?_⟩;cases hd with
  | non=>exact ⟨_,_,_,_,_,rfl,.non,rfl,rfl,_,rfl,iteT (iteT (k0 rfl _ (Same.refl _)))⟩
  | bl b=>exact ⟨_,_,_,_,_,rfl,(.bl b),rfl,rfl,_,rfl,iteT (iteT (k0 rfl _ (Same.refl _)))⟩
  | int i=>exact ⟨_,_,_,_,_,rfl,(.int i),rfl,rfl,_,rfl,iteT (iteT (k0 rfl _ (Same.refl _)))⟩
  | str x _ _=>exact ⟨_,_,_,_,_,rfl,(.str x),rfl,rfl,_,rfl,iteT (iteT (k0 rfl _ (Same.refl _)))⟩
  | lst _ e _ _=>exact ⟨_,_,_,_,_,rfl,(.lst e),rfl,rfl,_,rfl,iteT (iteT (k0 rfl _ (Same.refl _)))⟩
  | @tup a xs ds _ e z q =>
   refine ⟨_,_,_,_,_,rfl,.tup e,rfl,rfl,_,rfl,iteF ?_⟩;refine ⟨_,rfl,a,xs,rfl,.inr (SqT.of e),rfl,_,rfl,?_⟩;have hl:=q.length;by_cases h2:xs.length=3
   ·rw [decide_eq_true (show V.int (xs.length:Int)=V.int 3 by rw [h2];rfl)];refine iteF ?_;obtain ⟨d0,d1,d2,rfl⟩:∃ d0 d1 d2,ds=[d0,d1,d2]:=by
     match ds,hl.symm.trans h2 with
     | [d0,d1,d2],_=>exact ⟨d0,d1,d2,rfl⟩
    cases q with
    | @cons x0 _ _ _ q0 q =>
     cases q with
     | @cons x1 _ _ _ q1 q =>
      cases q with
      | @cons x2 _ _ _ q2 q =>
       cases q;refine ⟨_,rfl,a,_,0,x0,rfl,rfl,SqT.of e,rfl,_,d0,rfl,q0,fun H1 s1=>⟨_,rfl,?_⟩⟩;cases e0:nameD d0 with
       | false =>
        refine iteT (iteT (k0 ?_ _ s1));rw [rowB3];cases q0 with
        | str n l1 l2 =>
         by_cases c:n∈ord
         ·have:=(ks.onm c).1;rw [show nameD (.str n)=nameB n from rfl,this] at e0;cases e0
         ·rw [rowAt_no ks c]
        | _=>rfl
       | true =>
        cases q0 with
        | str n l1 l2 =>
         have ks1:=ks.same s1;obtain ⟨⟨dx,hp⟩,rd⟩:=ks1.ka;refine iteF ⟨_,rfl,a,_,0,_,rfl,rfl,SqT.of (s1 _ _ e),rfl,_,rfl,p,dx,_,rfl,hp,zGj _ (by decide +kernel),p,d,kvs,rfl,⟨⟨dx,hp⟩,rd⟩,fun lo hlo=>⟨lo,_,rfl,.inl (SqL.of zA1),rfl,?_⟩⟩;rw [ks.pl.keys];have s2:Same H (upd H1 lo (.lst (ord.map V.str))):=s1.trans (Same.new hlo);refine ⟨flats _,_,rfl,?_⟩;rw [show (if true=true then !inV (.str n) (ord.map V.str) else inV (.str n) (ord.map V.str)) = !inV (.str n) (ord.map V.str) from rfl,zF4];generalize upd H1 lo (.lst (ord.map V.str))=H2 at s2 ⊢;by_cases c:n∈ord
         ·rw [decide_eq_true c];obtain ⟨y,hy,hv,en,er⟩:=rowAt_of ks c;refine iteF ?_;obtain ⟨t,b,c',ty,hb,hc',ew⟩:=whole_ty (K:=K) (q1.mono s2);refine ⟨_,rfl,a,_,1,x1,rfl,rfl,SqT.of (s2 _ _ e),rfl,_,t,b,c',rfl,ty,hb,hc',_,rfl,?_⟩;rw [ew];cases q1 with
          | int i =>
           refine iteF ⟨_,rfl,a,_,1,_,rfl,rfl,SqT.of (s2 _ _ e),rfl,_,_,rfl,rfl,_,rfl,?_⟩;refine ite2 (fun g1=>?_) (fun g1=>?_)
           ·refine ⟨_,_,rfl,rfl,_,rfl,?_⟩;by_cases g2:i≤60
            ·rw [decide_eq_true g2];refine iteF ?_;have em:manyB (.int i)=true:=by
              show (decide (1≤i) && decide (i≤60))=true;rw [g1,decide_eq_true g2];rfl
             have ks2:=ks.same s2;obtain ⟨⟨dx,hp⟩,rd⟩:=ks2.ka;refine ⟨_,rfl,p,dx,_,rfl,hp,zGj _ (by decide +kernel),_,rfl,a,_,0,_,rfl,rfl,SqT.of (s2 _ _ e),rfl,p,d,kvs,n,V.ref y.1,rfl,ks.onm c,⟨⟨dx,hp⟩,rd⟩,hv,fun H3 s3=>?_⟩;have s4:=s2.trans s3;refine ⟨_,rfl,a,_,2,x2,rfl,rfl,SqT.of (s4 _ _ e),rfl,y.1,y.2,_,d2,rfl,(ks.hk y hy).same s4,(ks.ok y hy).2,q2.mono s4,fun H5 s5=>?_⟩;have ev:rowB (zs.map (·.2)) (.tuple [.str n,.int i,d2])=caresB y.2.fields d2:=by rw [rowB3,er];show (manyB (.int i) && _)=_;rw [em];rfl
             rw [← ev];exact k _ (s4.trans s5)
            ·rw [decide_eq_false g2];refine iteT (k0 ?_ _ s2);rw [rowB3,er];show (manyB (.int i) && _)=false;have:manyB (.int i)=false:=by
              show (decide (1≤i) && decide (i≤60))=false;rw [decide_eq_false g2,Y4]
             rw [this];rfl
           ·refine ⟨false,rfl,iteT (k0 ?_ _ s2)⟩;rw [rowB3,er];show (manyB (.int i) && _)=false;have:manyB (.int i)=false:=by
             show (decide (1≤i) && decide (i≤60))=false;rw [Bool.eq_false_iff.mpr g1,Bool.false_and]
            rw [this];rfl
          | non=>exact iteT (iteT (k0 (by rw [rowB3,er];rfl) _ s2))
          | bl b=>exact iteT (iteT (k0 (by rw [rowB3,er];rfl) _ s2))
          | str x _ _=>exact iteT (iteT (k0 (by rw [rowB3,er];rfl) _ s2))
          | lst _ _ _ _=>exact iteT (iteT (k0 (by rw [rowB3,er];rfl) _ s2))
          | tup _ _ _ _=>exact iteT (iteT (k0 (by rw [rowB3,er];rfl) _ s2))
         ·rw [decide_eq_false c];exact iteT (k0 (by rw [rowB3,rowAt_no ks c]) _ s2)
        | _=>cases e0
   ·rw [decide_eq_false (show ¬ V.int (xs.length:Int)=V.int 3 by intro z0;injection z0 with z0;omega)];refine iteT (k0 ?_ _ (Same.refl _))
    match ds,hl with
    | [],_=>rfl
    | [_],_=>rfl
    | [_,_],_=>rfl
    | [_,_,_],hl=>exact absurd hl h2
    | _ :: _ :: _ :: _ :: _,_=>rfl
theorem scAr:FnScope ["kinds", "things"] ["kinds", "things"] (defScope sAreRows):=⟨rfl,rfl,rfl,by decide +kernel,rfl,by decide +kernel,by decide +kernel⟩
theorem ok_areRows {f fr C CK:Addr}{fd fdr:FuncData} (hC:Calm CX) (T:Tops K mg) (F:Fun K "are_rows" "are_rows" sAreRows f fd) (DR:Def K mg "is_row" sIsRow ["kinds", "thing"] fr fdr) (GR:FnOk P w K mg base CX 5 fr fdr ["kinds", "thing"] (spIsRow CK C)) :
  FnOk P w K mg base CX 6 f fd ["kinds", "things"] (spAreRows CK C):=by
 refine Fun.okC F scAr (fun vs H Q E h=>?_) (fun cdv A outer s H vs Q E hr h=>?_)
 ·obtain ⟨p,d,kvs,zs,ord,v,dd,rfl,_⟩:=h;rfl
 ·obtain ⟨p,d,kvs,zs,ord,v,dd,rfl,ks,hd,k⟩:=h
  refine ⟨_,zA6 (zAc (zBs (zA9 zAn rfl T.isinst PyProof.Rows.boot_isinstance (zA0 (pv 1) (zA0 (zB9 (v:=.ty "list") rfl T.list PyProof.Rows.boot_list rfl) zA2)))
   (zCe (zA9 (zBi rfl) rfl T.all PyProof.Rows.boot_all (zA0 (zAr (T:=["thing"]) rfl ScOk.auto (zAh (pv 1)) (fun _ _ _ _=>zAa (i:=2) (by decide +kernel:(["kinds", "things", "thing"]:List Str).Nodup) rfl (Or.inl rfl)) (fun _ _ _ _=>zB2)
    (fun _ _ _ _=>zA7 GR hr rfl DR.at_ DR.fn.kp DR.bind .nil (passC hC) (zA0 (pv 0) (zA0 (pv 2) zA2)))) zA2))))),?_⟩
  have k0:rowsB (zs.map (·.2)) dd=false→Q (.bl false) H:=fun e=>by rw [← e];exact k _ (Same.refl _)
  refine ⟨_,rfl,?_⟩;cases hd with
  | non=>exact ⟨_,_,_,_,_,rfl,.non,rfl,rfl,_,rfl,iteF (k0 rfl)⟩
  | bl b=>exact ⟨_,_,_,_,_,rfl,(.bl b),rfl,rfl,_,rfl,iteF (k0 rfl)⟩
  | int i=>exact ⟨_,_,_,_,_,rfl,(.int i),rfl,rfl,_,rfl,iteF (k0 rfl)⟩
  | str x _ _=>exact ⟨_,_,_,_,_,rfl,(.str x),rfl,rfl,_,rfl,iteF (k0 rfl)⟩
  | tup _ e _ _=>exact ⟨_,_,_,_,_,rfl,(.tup e),rfl,rfl,_,rfl,iteF (k0 rfl)⟩
  | @lst a xs ds _ ha hz hx =>
   refine ⟨_,_,_,_,_,rfl,.lst ha,rfl,rfl,_,rfl,iteT ?_⟩;refine ⟨_,rfl,a,rfl,⟨xs,SqL.of ha⟩,zAl (xs:=xs) (fun i ys H'=>Same H H'∧ys=(ds.take i).map fun d=>V.bl (rowB (zs.map (·.2)) d)) ⟨Same.refl _,rfl⟩ (fun i ys H' p=>SqL.of (p.1 _ _ ha)) (fun i ys H' hi p=>?_) ?_ ?_⟩
   ·rw [p.2,Z0];have:=Zt i ds;have:=small1000 hz;omega
   ·rintro i x ys H' hi ⟨s1,rfl⟩ N hN;obtain ⟨d1,hd',hv⟩:=hx.get hi;refine pick ?_;refine ⟨_,rfl,_,rfl,p,d,kvs,zs,ord,_,d1,rfl,ks.same s1,hv.mono s1,fun H2 s2=>hN _ _ ⟨s1.trans s2,?_⟩⟩;rw [Zd,hd',Za];rfl
   ·rintro ys H' ⟨s1,rfl⟩ b hb;have e:(ds.take xs.length).map (fun d=>V.bl (rowB (zs.map (·.2)) d))=(ds.map (rowB (zs.map (·.2)))).map V.bl:=by
     rw [hx.length,Zh,Zn];rfl
    refine ⟨b,ds.map (rowB (zs.map (·.2))),rfl,SqL.of (by rw [zA1,e]),?_⟩;have ea:(ds.map (rowB (zs.map (·.2)))).all id=rowsB (zs.map (·.2)) (.list ds):=by rw [Yt];rfl
    rw [ea];exact k _ (s1.trans (Same.new hb))
end
end L2.W
namespace L2.W
open PySem My
structure WRow where
 kind:Str
 many:Nat
 cares:List (Str×Str)
noncomputable def careD (c:Str×Str):PyData:=.tuple [.str c.1,.str c.2]
noncomputable def wD (w:WRow):PyData:=.tuple [.str w.kind,.int (w.many:Nat),.list (w.cares.map careD)]
structure WOk (rs:List Row) (w:WRow):Prop where
 row:∃ r,rowAt rs (.str w.kind)=some r∧∀ c∈w.cares,nameOk c.1∧nameOk c.2∧hasVal r.fields c.1 c.2=true
 nm:nameOk w.kind
 lo:1≤w.many
 hi:w.many≤60
 nd:(w.cares.map (·.1)).Nodup
 le:w.cares.length≤10
theorem row_ok {rs:List Row}{w:WRow} (h:WOk rs w):rowB rs (wD w)=true:=by
 obtain ⟨r,er,hc⟩:=h.row;unfold wD;rw [rowB3,er];show (manyB (.int (w.many:Nat)) && caresB r.fields (.list (w.cares.map careD)))=true;have h1:manyB (.int (w.many:Nat))=true:=by
  show (decide (1≤((w.many:Nat):Int)) && decide (((w.many:Nat):Int)≤60))=true;have:=h.lo;have:=h.hi;rw [decide_eq_true (by omega),decide_eq_true (by omega)];rfl
 rw [h1,Xm];show ((w.cares.map careD).all (pairOfB r.fields) && unlikeB ((w.cares.map careD).map firstD))=true;have h2:(w.cares.map careD).all (pairOfB r.fields)=true:=by
  rw [Yc];intro d hd;obtain ⟨c,hc',rfl⟩:=List.mem_map.mp hd;obtain ⟨a,b,e⟩:=hc c hc';show (nameB c.1 && (nameB c.2 && hasVal r.fields c.1 c.2))=true;rw [a.1,b.1,e];rfl
 have h3:(w.cares.map careD).map firstD=(w.cares.map (·.1)).map PyData.str:=by
  rw [Zn,Zn];rfl
 rw [h2,h3,zD6 (fun x hx=>?_) h.nd]
 ·rfl
 ·obtain ⟨c,hc',rfl⟩:=List.mem_map.mp hx;exact (hc c hc').1.1
theorem rows_ok {rs:List Row}{ws:List WRow} (h:∀ w∈ws,WOk rs w):rowsB rs (.list (ws.map wD))=true:=by
 show (ws.map wD).all (rowB rs)=true;rw [Yc];intro d hd;obtain ⟨w,hw,rfl⟩:=List.mem_map.mp hd;exact row_ok (h w hw)
noncomputable def each (ws:List WRow) (k:Str):Nat:=((ws.filter fun w=>decide (w.kind=k)).map (·.many)).sum
noncomputable def ownerAt (rs:List Row) (k:Str):Option Str:=(rowAt rs (.str k)).bind (·.owner)
noncomputable def cntF (rs:List Row) (ws:List WRow):Nat→Str→Nat
 | 0,_=>0
 | n + 1,k=>(match ownerAt rs k with | none=>1 | some o=>cntF rs ws n o) * each ws k
noncomputable def pathsF (rs:List Row) (ws:List WRow):Nat→Str→List (List (Str×Nat))
 | 0,_=>[]
 | n + 1,k=>(match ownerAt rs k with | none=>[[]] | some o=>pathsF rs ws n o).flatMap fun q=>(List.range (each ws k)).map fun i=>q++[(k,i)]
noncomputable def Top (rs:List Row) (ord:List Str):Prop:=∀ (i:Nat) (k:Str),ord[i]? = some k→(∃ r,rowAt rs (.str k)=some r)∧∀ o,ownerAt rs k=some o→∃ j,j < i∧ord[j]? = some o
section
variable {rs:List Row}{ws:List WRow}{ord:List Str}
theorem zFt (T:Top rs ord):∀ (m i:Nat) (k:Str),i≤m→ord[i]? = some k→∀ n,i + 1≤n→cntF rs ws n k=cntF rs ws (i + 1) k:=by
 intro m
 induction m with
 | zero =>
  intro i k hi e n hn;have:i=0:=by omega
  subst this;obtain ⟨n,rfl⟩:∃ n',n=n' + 1:=⟨n - 1,by omega⟩;unfold cntF;cases eo:ownerAt rs k with
  | none=>rfl
  | some o =>
   obtain ⟨j,hj,_⟩:=(T 0 k e).2 o eo;omega
 | succ m ih =>
  intro i k hi e n hn;obtain ⟨n,rfl⟩:∃ n',n=n' + 1:=⟨n - 1,by omega⟩;unfold cntF;cases eo:ownerAt rs k with
  | none=>rfl
  | some o =>
   obtain ⟨j,hj,ej⟩:=(T i k e).2 o eo;have a1:=ih j o (by omega) ej n (by omega);have a2:=ih j o (by omega) ej i (by omega);show cntF rs ws n o * _=cntF rs ws i o * _;rw [a1,a2]
theorem zE5 (T:Top rs ord):∀ (m i:Nat) (k:Str),i≤m→ord[i]? = some k→∀ n,i + 1≤n→pathsF rs ws n k=pathsF rs ws (i + 1) k:=by
 intro m
 induction m with
 | zero =>
  intro i k hi e n hn;have:i=0:=by omega
  subst this;obtain ⟨n,rfl⟩:∃ n',n=n' + 1:=⟨n - 1,by omega⟩;unfold pathsF;cases eo:ownerAt rs k with
  | none=>rfl
  | some o =>
   obtain ⟨j,hj,_⟩:=(T 0 k e).2 o eo;omega
 | succ m ih =>
  intro i k hi e n hn;obtain ⟨n,rfl⟩:∃ n',n=n' + 1:=⟨n - 1,by omega⟩;unfold pathsF;cases eo:ownerAt rs k with
  | none=>rfl
  | some o =>
   obtain ⟨j,hj,ej⟩:=(T i k e).2 o eo;have a1:=ih j o (by omega) ej n (by omega);have a2:=ih j o (by omega) ej i (by omega);show (pathsF rs ws n o).flatMap _=(pathsF rs ws i o).flatMap _;rw [a1,a2]
noncomputable abbrev cnt (rs:List Row) (ws:List WRow) (k:Str):Nat:=cntF rs ws 6 k
noncomputable abbrev paths (rs:List Row) (ws:List WRow) (k:Str):List (List (Str×Nat)):=pathsF rs ws 6 k
noncomputable def above (rs:List Row) (ws:List WRow) (k:Str):List (List (Str×Nat)):=match ownerAt rs k with
 | none=>[[]]
 | some o=>paths rs ws o
theorem Top.five (T:Top rs ord) (hl:ord.length≤5) {k:Str} (hk:k∈ord):cntF rs ws 5 k=cntF rs ws 6 k∧pathsF rs ws 5 k=pathsF rs ws 6 k:=by
 obtain ⟨i,hi,rfl⟩:=Zu hk;have e:ord[i]? = some ord[i]:=Z1 hi;exact ⟨(zFt T i i _ (Z5 _) e 5 (by omega)).trans (zFt T i i _ (Z5 _) e 6 (by omega)).symm,(zE5 T i i _ (Z5 _) e 5 (by omega)).trans (zE5 T i i _ (Z5 _) e 6 (by omega)).symm⟩
theorem Top.owner (T:Top rs ord) {k o:Str} (hk:k∈ord) (e:ownerAt rs k=some o):o∈ord:=by
 obtain ⟨i,hi,rfl⟩:=Zu hk;obtain ⟨j,_,ej⟩:=(T i _ (Z1 hi)).2 o e;exact Z3 ej
theorem cnt_eq (T:Top rs ord) (hl:ord.length≤5) {k:Str} (hk:k∈ord):cnt rs ws k=(match ownerAt rs k with | none=>1 | some o=>cnt rs ws o) * each ws k:=by
 show cntF rs ws 6 k=_;rw [cntF];cases eo:ownerAt rs k with
 | none=>rfl
 | some o =>
  show cntF rs ws 5 o * _=cntF rs ws 6 o * _;rw [(T.five hl (T.owner hk eo)).1]
theorem zG9 (T:Top rs ord) (hl:ord.length≤5) {k:Str} (hk:k∈ord):paths rs ws k=(above rs ws k).flatMap fun q=>(List.range (each ws k)).map fun i=>q++[(k,i)]:=by
 show pathsF rs ws 6 k=_;rw [pathsF];unfold above;cases eo:ownerAt rs k with
 | none=>rfl
 | some o =>
  show (pathsF rs ws 5 o).flatMap _=(pathsF rs ws 6 o).flatMap _;rw [(T.five hl (T.owner hk eo)).2]
theorem paths_len:∀ (n:Nat) (k:Str),(pathsF rs ws n k).length=cntF rs ws n k
 | 0,_=>rfl
 | n + 1,k=>by
  unfold pathsF cntF;have key:∀ l:List (List (Str×Nat)),(l.flatMap fun q=>(List.range (each ws k)).map fun i=>q++[(k,i)]).length=l.length * each ws k:=by
   intro l
   induction l with
   | nil=>simp
   | cons a t ih =>
    rw [Y1,Z7,ih,Z0,Y7,Zj,Ys,Nat.add_comm]
  rw [key];cases ownerAt rs k with
  | none=>rfl
  | some o=>show (pathsF rs ws n o).length * _=cntF rs ws n o * _;rw [paths_len n o]
theorem zGa {n:Nat}{k:Str}{p:List (Str×Nat)} (h:p∈pathsF rs ws (n + 1) k):∃ q i,p=q++[(k,i)]∧i < each ws k∧((ownerAt rs k=none∧q=[])∨∃ o,ownerAt rs k=some o∧q∈pathsF rs ws n o):=by
 unfold pathsF at h;obtain ⟨q,hq,hp⟩:=List.mem_flatMap.mp h;obtain ⟨i,hi,rfl⟩:=List.mem_map.mp hp;refine ⟨q,i,rfl,List.mem_range.mp hi,?_⟩;cases eo:ownerAt rs k with
 | none=>rw [eo] at hq;exact .inl ⟨rfl,List.mem_singleton.mp hq⟩
 | some o=>rw [eo] at hq;exact .inr ⟨o,rfl,hq⟩
structure PthOk (rs:List Row) (ws:List WRow) (ord:List Str) (p:List (Str×Nat)):Prop where
 le:p.length≤6
 mem:∀ q∈p,q.1∈ord∧q.2 < each ws q.1
 ch:Chain (fun k o=>ownerAt rs k=o) none p
theorem zFu {R:Str→Option Str→Prop}:∀ {p:List (Str×Nat)}{a:Option Str}{k:Str}{n:Nat},Chain R a p→R k (match p.getLast? with | none=>a | some q=>some q.1)→Chain R a (p++[(k,n)])
 | [],_,_,_,_,h=>⟨h,trivial⟩
 | [(k',n')],a,k,n,h,r=>⟨h.1,r,trivial⟩
 | (k',n') :: q :: t,a,k,n,h,r=>⟨h.1,zFu (p:=q :: t) h.2 (by
  obtain ⟨z,hz⟩:∃ z,(q :: t).getLast? = some z:=⟨_,List.getLast?_eq_some_getLast (by simp)⟩;rw [List.getLast?_cons_cons,hz] at r;rw [hz]
  exact r)⟩
theorem path_ok (T:Top rs ord):∀ (n:Nat) (k:Str) (p:List (Str×Nat)),n≤6→k∈ord→p∈pathsF rs ws n k→p.length≤n∧PthOk rs ws ord p
 | 0,_,_,_,_,h=>by cases h
 | n + 1,k,p,hn,hk,h=>by
  obtain ⟨q,i,rfl,hi,hq⟩:=zGa h;rcases hq with ⟨eo,rfl⟩ | ⟨o,eo,hq⟩
  ·refine ⟨by simp,by simp,fun x hx=>?_,⟨eo,trivial⟩⟩;have e:x=(k,i):=by simpa using hx
   rw [e];exact ⟨hk,hi⟩
  ·have ho:=T.owner hk eo;obtain ⟨l1,l2,l3,l4⟩:=path_ok T n o q (by omega) ho hq;refine ⟨by simp;omega,by simp;omega,fun x hx=>?_,zFu l4 ?_⟩
   ·rcases List.mem_append.mp hx with hx | hx
    ·exact l3 x hx
    ·rw [List.mem_singleton.mp hx];exact ⟨hk,hi⟩
   ·cases n with
    | zero=>cases hq
    | succ n =>
     obtain ⟨q',i',rfl,_,_⟩:=zGa hq;rw [List.getLast?_concat];exact eo
theorem zFy {α : Type}{a b:List α}{x y : α} (h:a++[x]=b++[y]):a=b∧x=y:=by
 have:=List.append_inj' h rfl;exact ⟨this.1,List.cons.inj this.2 |>.1⟩
theorem nodup_flat {k:Str}{m:Nat}{l:List (List (Str×Nat))} (h:l.Nodup):(l.flatMap fun q=>(List.range m).map fun i=>q++[(k,i)]).Nodup:=by
 induction l with
 | nil=>simp
 | cons a t ih =>
  rw [Yv] at h;rw [Y1,List.nodup_append];refine ⟨?_,ih h.2,fun x hx y hy e=>?_⟩
  ·refine List.Pairwise.map (R:=(·≠·)) _ (fun i j hij e=>hij ?_) List.nodup_range;have:=(zFy e).2;exact (Prod.mk.inj this).2
  ·subst e;obtain ⟨i,_,rfl⟩:=List.mem_map.mp hx;obtain ⟨b,hb,hy⟩:=List.mem_flatMap.mp hy;obtain ⟨j,_,e⟩:=List.mem_map.mp hy;rw [← (zFy e).1] at h;exact h.1 hb
theorem zEu:∀ (n:Nat) (k:Str),(pathsF rs ws n k).Nodup
 | 0,_=>Xa
 | n + 1,k=>by
  unfold pathsF;refine nodup_flat ?_;cases ownerAt rs k with
  | none=>simp
  | some o=>exact zEu n o
end
noncomputable def wishOf (fs:List (Str×List Str)) (cs:List (Str×Str)):List (Option Str):=fs.map fun f=>cs.lookup f.1
noncomputable def eachW (r:Row) (ws:List WRow):List (List (Option Str)):=ws.flatMap fun w=>if w.kind=r.name then List.replicate w.many (wishOf r.fields w.cares) else []
theorem zDj (r:Row):∀ ws:List WRow,(eachW r ws).length=each ws r.name
 | []=>rfl
 | w :: t=>by
  have ih:=zDj r t;unfold eachW each at ih ⊢;rw [Y1,Z7,ih,List.filter_cons];by_cases c:w.kind=r.name
  ·rw [if_pos c,Y8,if_pos (decide_eq_true c),Z8,Yh]
  ·rw [if_neg c,if_neg (by simp [c])];simp
noncomputable def tabOf (rs:List Row) (ws:List WRow) (k:Str):List (List (Str×Nat)×List (Option Str)):=match rowAt rs (.str k) with
 | none=>[]
 | some r=>(above rs ws k).flatMap fun q=>(eachW r ws).mapIdx fun i w=>(q++[(k,i)],w)
noncomputable def table (rs:List Row) (ws:List WRow) (ord:List Str):List (List (Str×Nat)×List (Option Str)):=ord.flatMap (tabOf rs ws)
section
variable {rs:List Row}{ws:List WRow}{ord:List Str}
theorem zDp {rs:List Row}{k:Str}{r:Row} (h:rowAt rs (.str k)=some r):r.name=k∧r∈rs:=⟨of_decide_eq_true (List.find?_some (p:=fun r:Row=>decide (r.name=k)) h),List.mem_of_find?_eq_some h⟩
theorem zEi (T:Top rs ord) (hl:ord.length≤5) {k:Str} (hk:k∈ord):(tabOf rs ws k).map (·.1)=paths rs ws k:=by
 rw [zG9 T hl hk];obtain ⟨i,hi,rfl⟩:=Zu hk;obtain ⟨⟨r,er⟩,_⟩:=T i _ (Z1 hi);unfold tabOf;rw [er];have en:=(zDp er).1;show List.map _ (List.flatMap _ _)=_;rw [List.map_flatMap]
 congr 1
 funext q;have ln:=zDj r ws;rw [en] at ln;refine List.ext_getElem? fun j=>?_;rw [Z4,List.getElem?_mapIdx,Z4];by_cases c:j < each ws ord[i]
 ·have h1:(eachW r ws)[j]? = some ((eachW r ws)[j]'(by omega)):=Z1 (by omega);have h2:(List.range (each ws ord[i]))[j]? = some j:=by simp [c]
  rw [h1,h2];rfl
 ·have h1:(eachW r ws)[j]? = none:=Yx (by omega);have h2:(List.range (each ws ord[i]))[j]? = none:=Yx (by rw [Y7];omega);rw [h1,h2];rfl
theorem zCy (T:Top rs ord) (hl:ord.length≤5):(table rs ws ord).map (·.1)=ord.flatMap (paths rs ws):=by
 unfold table;rw [List.map_flatMap];have key:∀ l:List Str,(∀ k∈l,k∈ord)→(l.flatMap fun k=>(tabOf rs ws k).map (·.1))=l.flatMap (paths rs ws):=by
  intro l
  induction l with
  | nil=>intro _;rfl
  | cons a t ih =>
   intro h;rw [Y1,Y1,ih fun k hk=>h k (Z6 _ hk),zEi T hl (h a Zb)]
 exact key ord fun _ h=>h
theorem zCs {k:Str}{p:List (Str×Nat)} (h:p∈paths rs ws k):∃ q i,p=q++[(k,i)]:=by
 obtain ⟨q,i,e,_⟩:=zGa (n:=5) h;exact ⟨q,i,e⟩
theorem all_nodup:∀ {l:List Str},l.Nodup→(l.flatMap (paths rs ws)).Nodup
 | [],_=>Xa
 | a :: t,h=>by
  rw [Yv] at h;rw [Y1,List.nodup_append];refine ⟨zEu 6 a,all_nodup h.2,fun x hx y hy e=>?_⟩;subst e;obtain ⟨b,hb,hy⟩:=List.mem_flatMap.mp hy;obtain ⟨q,i,e1⟩:=zCs hx;obtain ⟨q',i',e2⟩:=zCs hy;have:=(zFy (e1.symm.trans e2)).2;rw [(Prod.mk.inj this).1] at h;exact h.1 hb
theorem zEh (T:Top rs ord) (hl:ord.length≤5):(table rs ws ord).length=(ord.map (cnt rs ws)).sum:=by
 have h:=congrArg List.length (zCy (ws:=ws) T hl);rw [Z0] at h;rw [h];clear h;generalize ord=l
 induction l with
 | nil=>rfl
 | cons a t ih=>rw [Y1,Z7,ih,Z8,Yh];show (pathsF rs ws 6 a).length + _=_;rw [paths_len]
theorem table_perm {ord':List Str} (h:ord.Perm ord'):(table rs ws ord).Perm (table rs ws ord'):=h.flatMap_right _
theorem path_pok (T:Top rs ord) (hn:∀ k∈ord,nameOk k) (hw:∀ k,each ws k≤1000) {k:Str} (hk:k∈ord) {p:List (Str×Nat)} (h:p∈paths rs ws k):PathOk p:=by
 obtain ⟨_,l1,l2,_⟩:=path_ok T 6 k p (Z5 _) hk h;refine ⟨?_,by omega,fun q hq=>?_⟩
 ·obtain ⟨q,i,rfl⟩:=zCs h;simp
 ·obtain ⟨a,b⟩:=l2 q hq;have:=hw q.1;exact ⟨hn _ a,by omega⟩
theorem figs_inj {a b:Nat} (h:figs a=figs b):a=b:=by
 have:=congrArg (fun x:Str=>PySem.NumText.digitsVal x.cps.toList) h;simp only [zDi,PySem.W.KIN.val_back] at this;exact this
theorem words_inj:∀ {p q:List (Str×Nat)},wordsP p=wordsP q→p=q
 | [],[],_=>rfl
 | [],_ :: _,h=>by cases h
 | _ :: _,[],h=>by cases h
 | (k,n) :: t,(k',n') :: t',h=>by
  have h1:=List.cons.inj h;have h2:=List.cons.inj h1.2;rw [show k=k' from h1.1,words_inj h2.2,figs_inj h2.1]
theorem show_inj {p q:List (Str×Nat)} (hp:PathOk p) (hq:PathOk q) (h:showP p=showP q):p=q:=by
 have:=congrArg (fun x=>Txt.split x ".") h;simp only [hp.split,hq.split] at this;exact words_inj this
end
end L2.W
namespace L2.W
open PySem My
theorem w_inv {G:Addr→Prop}{H:Hp}{v:V}{w:WRow} (h:Has G H v (wD w)):∃ t lc,v=.ref t∧H t=some (.tup [.str w.kind,.int (w.many:Nat),.ref lc])∧Has G H (.ref lc) (.list (w.cares.map careD)):=by
 obtain ⟨t,xs,rfl,g,e,_,hx⟩:=h.tup_inv;cases hx with
 | cons h1 h2 =>
  cases h2 with
  | cons h3 h4 =>
   cases h4 with
   | cons h5 h6 =>
    cases h6;obtain ⟨rfl,_⟩:=h1.str_inv;cases h3;obtain ⟨lc,ys,rfl,_⟩:=id h5.list_inv;exact ⟨t,lc,rfl,e,h5⟩
theorem zD8:∀ l:List Nat,(l.map fun n=>((n:Nat):Int)).sum=((l.sum:Nat):Int)
 | []=>rfl
 | a :: t=>by rw [Z8,Yh,Yh,zD8 t];omega
theorem zFv {α β γ : Type} (f : α→β) (g : α→γ):∀ l:List α,(l.map f).zip (l.map g)=l.map fun x=>(f x,g x)
 | []=>rfl
 | a :: t=>by rw [Z8,Z8,List.zip_cons_cons,zFv f g t];rfl
noncomputable def spEach:Sp:=fun vs H Q _=>∃ (k:Str) (l:Addr) (ws:List WRow),vs=[.str k,.ref l]∧Has Any H (.ref l) (.list (ws.map wD))∧∀ H',Same H H'→Q (.int ((each ws k:Nat):Int)) H'
noncomputable def cntKV (rs:List Row) (ws:List WRow) (l:List Str):List (Key×V):=l.map fun k=>((Sum.inr k:Key),V.int ((cnt rs ws k:Nat):Int))
theorem strKV_val {f:Str→V}:∀ {l:List Str}{o:Str},o∈l→valV (l.map fun k=>((Sum.inr k:Key),f k)) (Sum.inr o)=some (f o)
 | [],_,h=>by cases h
 | a :: t,o,h=>by
  rw [Z8];by_cases c:a=o
  ·rw [zBb (by rw [c]),c]
  ·rw [zB0 (by intro z;exact c (Sum.inr.inj z))];rcases List.mem_cons.mp h with e | h
   ·exact absurd e.symm c
   ·exact strKV_val h
theorem strKV_no {f:Str→V}:∀ {l:List Str}{o:Str},o∉l→valV (l.map fun k=>((Sum.inr k:Key),f k)) (Sum.inr o)=none
 | [],_,_=>rfl
 | a :: t,o,h=>by
  rw [Z8,zB0 (by intro z;exact h (by rw [Sum.inr.inj z];exact Zb))];exact strKV_no fun z=>h (Z6 _ z)
theorem putK_no {kvs:List (Key×V)}{k:Key}{v:V} (h:valV kvs k=none):putK kvs k v=kvs++[(k,v)]:=zEd (by rw [h];rfl)
noncomputable def spCountW (CK C:Addr):Sp:=fun vs H Q _=>∃ (p d l:Addr) (kvs:List (Key×V)) (zs:List (Addr×Row)) (ord:List Str) (ws:List WRow),vs=[.ref p,.ref l]∧Ks CK C H p d kvs zs ord∧Top (zs.map (·.2)) ord∧Has Any H (.ref l) (.list (ws.map wD))∧(∀ k,each ws k≤100000) ∧
 ∀ H',Same H H'→Q (.int (((ord.map (cnt (zs.map (·.2)) ws)).sum:Nat):Int)) H'
theorem Ks.row {CK C:Addr}{H:Hp}{p d:Addr}{kvs:List (Key×V)}{zs:List (Addr×Row)}{ord:List Str} (k:Ks CK C H p d kvs zs ord) {n:Str} (h:n∈ord) :
  ∃ y∈zs,valV kvs (Sum.inr n)=some (V.ref y.1)∧y.2.name=n∧rowAt (zs.map (·.2)) (.str n)=some y.2∧ownerAt (zs.map (·.2)) n=y.2.owner:=by
 obtain ⟨y,hy,hv,e,er⟩:=rowAt_of k h;refine ⟨y,hy,hv,e,er,?_⟩;unfold ownerAt;rw [er];rfl
section
variable {P:Program}{w:World}{K:PySem.W.Frag}{mg:Str→Option Value}{base:Heap}{CX:CXT}
theorem scEa:FnScope ["kind", "rows"] ["kind", "rows"] (defScope sEach):=⟨rfl,rfl,rfl,by decide +kernel,rfl,by decide +kernel,by decide +kernel⟩
theorem ok_each {f:Addr}{fd:FuncData} (T:Tops K mg) (F:Fun K "count_of_each" "count_of_each" sEach f fd):FnOk P w K mg base CX 1 f fd ["kind", "rows"] spEach:=by
 refine Fun.okC F scEa (fun vs H Q E h=>?_) (fun cdv A outer s H vs Q E hr h=>?_)
 ·obtain ⟨k,l,ws,rfl,_⟩:=h;rfl
 ·obtain ⟨k,l,ws,rfl,hd,q⟩:=h
  refine ⟨_,zA6 (zAc (zA9 (zDl (K:=K) rfl) rfl T.sum PyProof.Rows.boot_sum (zA0 (zAr (T:=["row"]) rfl ScOk.auto (zAh (pv 1)) (fun _ _ _ _=>zAa (i:=2) (by decide +kernel:(["kind", "rows", "row"]:List Str).Nodup) rfl (Or.inl rfl))
   (fun _ _ _ _=>zEp (zAj zDw (zAi (r:=rIxT K) zAq (pv 2) zA4 (fun _ _=>rfl)) (pv 0) (nomark _))) (fun _ _ _ _=>zAi (r:=rIxT K) zAq (pv 2) zA4 (fun _ _=>rfl))) zA2))),?_⟩
  obtain ⟨l',xs,e,_,hl,hz,hx⟩:=hd.list_inv;cases e;have xl:xs.length=ws.length:=by rw [hx.length,Z0]
  refine ⟨_,rfl,l,rfl,⟨_,SqL.of hl⟩,zAl (xs:=xs) (fun i ys H'=>H=H'∧ys=(((ws.take i).filter fun w=>decide (w.kind=k)).map fun w=>((w.many:Nat):Int)).map V.int) ⟨rfl,rfl⟩ (fun i ys H' p=>by rw [← p.1];exact SqL.of hl) (fun i ys H' hi p=>?_) ?_ ?_⟩
  ·rw [p.2,Z0,Z0];have h1:=Yw (fun w:WRow=>decide (w.kind=k)) (ws.take i);have h2:(ws.take i).length≤ws.length:=by rw [Zr];omega
   have:=small1000 hz;omega
  ·rintro i x ys H' hi ⟨rfl,rfl⟩ N hN;obtain ⟨dd,hdd,hv⟩:=hx.get hi;rw [Z4] at hdd;cases ew:ws[i]? with
   | none=>rw [ew] at hdd;cases hdd
   | some w =>
    rw [ew] at hdd;cases hdd;obtain ⟨t,lc,rfl,ht,_⟩:=w_inv hv;refine ⟨_,rfl,t,_,0,_,rfl,rfl,SqT.of ht,rfl,_,rfl,rfl,_,rfl,?_⟩;show if decide (V.str w.kind=V.str k)=true then _ else _
    have fs:(ws.take (i + 1)).filter (fun w=>decide (w.kind=k))=if decide (w.kind=k)=true then (ws.take i).filter (fun w=>decide (w.kind=k))++[w] else (ws.take i).filter (fun w=>decide (w.kind=k)):=by
     rw [Zd,ew,Yu];cases e:decide (w.kind=k) <;> simp [e]
    by_cases c:w.kind=k
    ·rw [decide_eq_true (show V.str w.kind=V.str k by rw [c])];refine iteT ⟨_,rfl,t,_,1,_,rfl,rfl,SqT.of ht,rfl,hN _ _ ⟨rfl,?_⟩⟩;rw [fs,if_pos (decide_eq_true c),Za,Za];rfl
    ·rw [decide_eq_false (show ¬ V.str w.kind=V.str k by intro z;injection z with z;exact c z)];refine iteF (hN _ _ ⟨rfl,?_⟩);rw [fs,if_neg (by simp [c])]
  ·rintro ys H' ⟨rfl,rfl⟩ c hc;rw [xl,Zh];refine ⟨c,_,rfl,SqL.of zA1,rfl,?_⟩;have e:((ws.filter fun w=>decide (w.kind=k)).map fun w=>((w.many:Nat):Int)).sum=((each ws k:Nat):Int):=by
    unfold each;rw [← zD8,Zn];rfl
   rw [e];exact q _ (Same.new hc)
theorem scCw:FnScope ["kinds", "rows", "many", "kind", "owner", "owners"] ["kinds", "rows"] (defScope sCountW):=⟨rfl,rfl,rfl,by decide +kernel,rfl,by decide +kernel,by decide +kernel⟩
theorem ok_countW {f fe fn C fI CK fIk fOr fOf fOw:Addr}{fd fde fdn fdr fdo:FuncData} (hC:Calm CX) (T:Tops K mg) (KC:KCls K mg C fI) (KS:KsCls K mg CK fIk fOr fOf fOw) (F:Fun K "count_wished" "count_wished" sCountW f fd) (DN:Def K mg "is_name" sIsName ["thing"] fn fdn) (DE:Def K mg "count_of_each" sEach ["kind", "rows"] fe fde)
  (FR:Fun K "order" "Kinds.order" sOrder fOr fdr) (bR:Binds K fdr ["self"] []) (FO:Fun K "of" "Kinds.of" sOf fOf fdo) (bO:Binds K fdo ["self", "name"] []):FnOk P w K mg base CX 3 f fd ["kinds", "rows"] (spCountW CK C):=by
 have GE:FnOk P w K mg base CX 1 fe fde ["kind", "rows"] spEach:=ok_each T DE.fn;have GR:FnOk P w K mg base CX 1 fOr fdr ["self"] (spOrder CK):=zGf T KS FR;have GO:FnOk P w K mg base CX 2 fOf fdo ["self", "name"] (spOf CK):=ok_of hC T KS FO DN;refine Fun.okC F scCw (fun vs H Q E h=>?_) (fun cdv A outer s H vs Q E hr h=>?_)
 ·obtain ⟨p,d,l,kvs,zs,ord,ws,rfl,_⟩:=h;rfl
 ·obtain ⟨p,d,l,kvs,zs,ord,ws,rfl,ks,tp,hd,hw,k⟩:=h;have hr1:=hr.mono (show 1≤2 by decide);have hu:=hu_of hr;have nd:=scCw.nd
  refine ⟨_,zA3 (zAb (i:=2) nd rfl (Or.inl rfl) zC6)
   (zA3 (zBj PassesOwn.never rfl (zAh (zCq (pv 0) KS.cl KS.mOr GR hr1 bR .nil (passC hC))) (zAa (i:=3) nd rfl (Or.inl rfl))
    (zA3 (zAb (i:=4) nd rfl (Or.inl rfl) (zBg (zCf (pv 0) KS.cl KS.mOf GO hr bO .nil (passC hC) (zA0 (pv 3) zA2)) rfl))
    (zA3 (zAb (i:=5) nd rfl (Or.inl rfl) (zCr (zCa (zEt (pv 4))) zA4 (zDu hu (pv 2) (pv 4) (fun _ _=>rfl))))
    (zA6 (zDr hu (pv 2) (pv 3) (zAp zCw (pv 5) (zA7 GE hr1 rfl DE.at_ DE.fn.kp DE.bind .nil (passC hC) (zA0 (pv 3) (zA0 (pv 1) zA2)))) rfl)))))
   (zA6 (zAc (zA9 zGt rfl T.sum PyProof.Rows.boot_sum (zA0 (zEq (pv 2)) zA2))))),?_⟩
  have ol:=ks.olen;have ond:ord.Nodup:=ks.op.nodup_iff.mpr ks.nd;refine fun dm hdm=>?_;have s0:Same H (upd H dm (.dK [])):=Same.new hdm;have e0:(upd H dm (.dK [])) dm=some (.dK []):=zA1;generalize upd H dm (.dK [])=H0 at s0 e0 ⊢;obtain ⟨⟨dx0,hp0⟩,rd0⟩:=(ks.same s0).ka;refine ⟨_,rfl,p,dx0,_,rfl,hp0,zGj _ (by decide +kernel),p,d,kvs,rfl,⟨⟨dx0,hp0⟩,rd0⟩,fun lo hlo=>?_⟩;rw [ks.pl.keys]
  refine ⟨lo,rfl,⟨_,SqL.of zA1⟩,zBf (K:=K) (a:=lo) (xs:=ord.map V.str) (fun i σ H2=>∃ x3 x4 x5:Option V,σ = [some (.ref p),some (.ref l),some (.ref dm),x3,x4,x5]∧H2 dm=some (.dK (cntKV (zs.map (·.2)) ws (ord.take i)))∧Same H H2∧H2 lo=some (.lst (ord.map V.str)))
   ⟨none,none,none,rfl,(Same.new hlo) _ _ e0,s0.trans (Same.new hlo),zA1⟩ (fun i σ H2 _ hz=>by obtain ⟨_,_,_,_,_,_,q⟩:=hz;exact SqL.of q) ?_ ?_⟩
  ·rintro i x σ H2 hi ⟨x3,x4,x5,rfl,em,s2,elo⟩;rw [Z4] at hi;cases ek:ord[i]? with
   | none=>rw [ek] at hi;cases hi
   | some n =>
    rw [ek] at hi;cases hi;have hn:=Z3 ek;have il:i < ord.length:=(List.getElem?_eq_some_iff.mp ek).1;obtain ⟨y,hy,hv,en,er,eo⟩:=ks.row hn;have ks2:=ks.same s2;obtain ⟨⟨dx,hp⟩,rd⟩:=ks2.ka;refine ⟨_,rfl,p,dx,_,rfl,hp,zGj _ (by decide +kernel),_,rfl,p,d,kvs,n,V.ref y.1,rfl,ks.onm hn,⟨⟨dx,hp⟩,rd⟩,hv,fun H3 s3=>?_⟩;obtain ⟨dxy,ly,ey,_⟩:=(ks2.same s3).hk y hy;refine ⟨y.1,C,dxy,_,_,rfl,ey,KC.cl,KC.nO,zBv _ _ _,?_⟩;have s23:=s2.trans s3;have em3:=s3 _ _ em;have elo3:=s3 _ _ elo;have nmn:n∉ord.take i:=fun h=>by
     obtain ⟨j,hj,e⟩:=Zu h;rw [Zr] at hj;have e1:ord[j]? = some n:=by rw [Yz] at e;rw [← e];exact Z1 (by omega)
     have:=(Yf (by omega) ond).mp (e1.trans ek.symm);omega
    have fin:∀ (u5:V) (m:Nat),u5=.int (m:Nat)→m * each ws n=cnt (zs.map (·.2)) ws n→∀ H4,Same H H4→H4 dm=some (.dK (cntKV (zs.map (·.2)) ws (ord.take i)))→H4 lo=some (.lst (ord.map V.str)) →
      Same H (upd H4 dm (.dK (putK (cntKV (zs.map (·.2)) ws (ord.take i)) (Sum.inr n) (.int ((m:Int) * ((each ws n:Nat):Int))))))∧(upd H4 dm (.dK (putK (cntKV (zs.map (·.2)) ws (ord.take i)) (Sum.inr n) (.int ((m:Int) * ((each ws n:Nat):Int)))))) dm=some (.dK (cntKV (zs.map (·.2)) ws (ord.take (i + 1)))) ∧
      (upd H4 dm (.dK (putK (cntKV (zs.map (·.2)) ws (ord.take i)) (Sum.inr n) (.int ((m:Int) * ((each ws n:Nat):Int)))))) lo=some (.lst (ord.map V.str)):=by
     intro u5 m _ em5 H4 s4 e4 l4;refine ⟨fun b o e=>?_,?_,?_⟩
     ·rw [zA8 (zA5 e hdm)];exact s4 _ _ e
     ·rw [zA1];unfold cntKV at e4 ⊢;rw [putK_no (strKV_no nmn),Zd,ek,Za];have:(m:Int) * ((each ws n:Nat):Int)=((cnt (zs.map (·.2)) ws n:Nat):Int):=by rw [← em5];push_cast;rfl
      rw [this];rfl
     ·rw [zA8 (zBe l4 e4 (fun z=>nomatch z))];exact l4
    have lt4:∀ H4:Hp,H4 dm=some (.dK (cntKV (zs.map (·.2)) ws (ord.take i)))→(cntKV (zs.map (·.2)) ws (ord.take i)).length < sizeLine:=fun _ _=>by
     unfold cntKV;rw [Z0,Zr];exact Yi (Nat.min_le_right _ _) (small1000 (by omega))
    have ew:=hw n;have mulOk:∀ m:Int,CMul m ((each ws n:Nat):Int):=fun m=>.inr ⟨by omega,by omega⟩;have ceq:=cnt_eq (ws:=ws) tp ol hn;cases eo2:y.2.owner with
    | none =>
     refine ⟨_,rfl,_,rfl,iteT ?_⟩;rw [eo,eo2] at ceq;refine ⟨_,rfl,_,rfl,_,rfl,n,l,ws,rfl,hd.mono s23,fun H4 s4=>⟨_,_,rfl,rfl,mulOk _,?_⟩⟩;have s24:=s23.trans s4;obtain ⟨f1,f2,f3⟩:=fin (.int 1) 1 rfl ceq.symm H4 s24 (s4 _ _ em3) (s4 _ _ elo3);exact ⟨_,rfl,_,rfl,dm,_,rfl,DPut.k (k:=Sum.inr n) (s4 _ _ em3) (lt4 H4 (s4 _ _ em3)),_,_,_,rfl,f2,f1,f3⟩
    | some o =>
     refine ⟨_,rfl,_,rfl,iteF ?_⟩;rw [eo,eo2] at ceq;obtain ⟨j,hj,ej⟩:=(tp i n ek).2 o (by rw [eo,eo2]);have ho:o∈ord.take i:=by
      have:(ord.take i)[j]? = some o:=by rw [Yd hj];exact ej
      exact Z3 this
     have dg:DGet H3 dm (.str o) (some (.int ((cnt (zs.map (·.2)) ws o:Nat):Int))):=by
      have:=DGet.k (k:=Sum.inr o) em3;unfold cntKV at this;rw [strKV_val ho] at this;exact this
     refine ⟨_,rfl,_,rfl,dm,_,rfl,dg,?_⟩;refine ⟨_,rfl,_,rfl,_,rfl,n,l,ws,rfl,hd.mono s23,fun H4 s4=>⟨_,_,rfl,rfl,mulOk _,?_⟩⟩;have s24:=s23.trans s4;obtain ⟨f1,f2,f3⟩:=fin _ (cnt (zs.map (·.2)) ws o) rfl ceq.symm H4 s24 (s4 _ _ em3) (s4 _ _ elo3);exact ⟨_,rfl,_,rfl,dm,_,rfl,DPut.k (k:=Sum.inr n) (s4 _ _ em3) (lt4 H4 (s4 _ _ em3)),_,_,_,rfl,f2,f1,f3⟩
  ·rintro σ H2 ⟨x3,x4,x5,rfl,em,s2,elo⟩;rw [Z0,Zh] at em;refine ⟨_,rfl,dm,_,rfl,.inl em,fun v hv=>⟨v,dm,ord.map Sum.inr,ord.map fun k=>((cnt (zs.map (·.2)) ws k:Nat):Int),rfl,zA1,.inl ?_,by rw [Z0,Z0],rfl,?_⟩⟩
   ·rw [zA8 (zA5 em hv),em,Zn,zFv];rfl
   ·have:(ord.map fun k=>((cnt (zs.map (·.2)) ws k:Nat):Int)).sum=(((ord.map (cnt (zs.map (·.2)) ws)).sum:Nat):Int):=by
     rw [← zD8,Zn];rfl
    rw [this];exact k _ (s2.trans (Same.new hv))
end
end L2.W
namespace L2.W
open PySem My
noncomputable def wishD (o:List (Option Str)):PyData:=.tuple (o.map ownD)
noncomputable def careKV (cs:List (Str×Str)):List (Key×V):=cs.map fun c=>((Sum.inr c.1:Key),V.str c.2)
theorem care_val {f:Str}:∀ cs:List (Str×Str),(valV (careKV cs) (Sum.inr f)).getD .non=ownV (cs.lookup f)
 | []=>rfl
 | c :: t=>by
  have ih:=care_val (f:=f) t;unfold careKV at ih ⊢;rw [Z8];by_cases e:c.1=f
  ·rw [zBb (by rw [e]),Y2,show (f == c.1)=true by rw [e];exact beq_self_eq_true _];rfl
  ·rw [zB0 (by intro z;exact e (Sum.inr.inj z)),ih,Y2,show (f == c.1)=false by rw [beq_eq_false_iff_ne];exact Ne.symm e]
theorem lookup_in {α β : Type} [BEq α] [LawfulBEq α] {x : α}{v : β}:∀ {l:List (α×β)},l.lookup x=some v→(x,v)∈l
 | [],h=>by cases h
 | (y,u) :: l,h=>by
  rw [Y2] at h;cases e:x == y with
  | true =>
   rw [e] at h;have:=eq_of_beq e;subst this;cases h;exact Zb
  | false =>
   rw [e] at h;exact Z6 _ (lookup_in h)
theorem zE2 {G:Addr→Prop}{H:Hp}:∀ {cs:List (Str×Str)}{ys:List V},HasAll G H ys (cs.map careD)→∃ ts:List Addr,ys=ts.map V.ref∧∀ (i:Nat) (t:Addr) (c:Str×Str),ts[i]? = some t→cs[i]? = some c→H t=some (.tup [.str c.1,.str c.2])
 | [],_,h=>by
  cases h;exact ⟨[],rfl,fun i t c e=>by simp at e⟩
 | c :: cs,_,h=>by
  cases h with
  | cons h1 h2 =>
   obtain ⟨ts,rfl,ht⟩:=zE2 (cs:=cs) h2;obtain ⟨t,xs,rfl,_,e,_,hx⟩:=h1.tup_inv;cases hx with
   | cons a b =>
    cases b with
    | cons b d =>
     cases d;obtain ⟨rfl,_⟩:=a.str_inv;obtain ⟨rfl,_⟩:=b.str_inv;refine ⟨t :: ts,rfl,fun i t' c' e1 e2=>?_⟩;cases i with
     | zero=>simp at e1 e2;subst e1 e2;exact e
     | succ i=>exact ht i t' c' (by simpa using e1) (by simpa using e2)
structure WsOk (ws:List WRow):Prop where
 nm:∀ w∈ws,∀ c∈w.cares,nameOk c.1∧nameOk c.2
 nd:∀ w∈ws,(w.cares.map (·.1)).Nodup
 le:∀ w∈ws,w.cares.length≤10
 hi:∀ w∈ws,w.many≤60
 len:ws.length≤10
theorem zGp:∀ {ws:List WRow}{k:Str},(∀ w∈ws,w.many≤60)→each ws k≤60 * ws.length
 | [],_,_=>by simp [each]
 | w :: t,k,h=>by
  have ih:=zGp (ws:=t) (k:=k) fun x hx=>h x (Z6 _ hx);have:=h w Zb;unfold each at ih ⊢;rw [List.filter_cons,Zj];split
  ·rw [Z8,Yh];omega
  ·omega
theorem WsOk.each {ws:List WRow} (h:WsOk ws) (k:Str):each ws k≤600:=by
 have h1:=zGp (k:=k) h.hi;have h2:=h.len;omega
noncomputable def spWEach (C:Addr):Sp:=fun vs H Q _=>∃ (p l:Addr) (r:Row) (ws:List WRow),vs=[.ref p,.ref l]∧KF C Any H p r∧FieldsOk r.fields∧Has Any H (.ref l) (.list (ws.map wD))∧WsOk ws ∧
 ∀ (lf:Addr) (xs:List V) (H':Hp),H lf=none→H' lf=some (.lst xs)→HasAll (fun a=>a≠lf) H' xs ((eachW r ws).map wishD)→Same H H'→Q (.ref lf) H'
theorem zFs {r:Row}{ws:List WRow}{i:Nat}{w:WRow} (h:ws[i]? = some w):eachW r (ws.take (i + 1))=eachW r (ws.take i)++(if w.kind=r.name then List.replicate w.many (wishOf r.fields w.cares) else []):=by
 unfold eachW;rw [Zd,h,List.flatMap_append];simp
theorem flat_one {α : Type} (x : α):∀ n:Nat,(List.replicate n [x]).flatten=List.replicate n x
 | 0=>rfl
 | n + 1=>by rw [Y6,Yy,flat_one x n,Y6];rfl
theorem zFq {G:Addr→Prop}{H:Hp}{x:V}{d:PyData} (h:Has G H x d):∀ n:Nat,HasAll G H (List.replicate n x) (List.replicate n d)
 | 0=>.nil
 | n + 1=>.cons h (zFq h n)
section
variable {P:Program}{w:World}{K:PySem.W.Frag}{mg:Str→Option Value}{base:Heap}{CX:CXT}
theorem scWe:FnScope ["kind", "rows", "found", "row", "values", "wished"] ["kind", "rows"] (defScope sWEach):=⟨rfl,rfl,rfl,by decide +kernel,rfl,by decide +kernel,by decide +kernel⟩
theorem ok_wEach {f C fI:Addr}{fd:FuncData} (T:Tops K mg) (KC:KCls K mg C fI) (F:Fun K "wished_of_each" "wished_of_each" sWEach f fd):FnOk P w K mg base CX 1 f fd ["kind", "rows"] (spWEach C):=by
 refine Fun.okC F scWe (fun vs H Q E h=>?_) (fun cdv A outer s H vs Q E hr h=>?_)
 ·obtain ⟨p,l,r,ws,rfl,_⟩:=h;rfl
 ·obtain ⟨p,l,r,ws,rfl,kf,fok,hd,wok,k⟩:=h;have hu:=hu_of hr;have nd:=scWe.nd
  refine ⟨_,zA3 (zAb (i:=2) nd rfl (Or.inl rfl) (zAg zA2))
   (zA3 (zBj PassesOwn.never rfl (zAh (pv 1)) (zAa (i:=3) nd rfl (Or.inl rfl))
    (zA6 (zAx (zAj zDw (zAi zAq (pv 3) zA4 (fun _ _=>rfl)) (zBg (pv 0) rfl) (nomark _))
     (zA3 (zAb (i:=4) nd rfl (Or.inr rfl) (zB3 (zF8 (K:=K) rfl) rfl T.dict PyProof.Rows.boot_dict (zA0 (zAi zAq (pv 3) zA4 (fun _ _=>rfl)) zA2)))
     (zA3 (zAb (i:=5) nd rfl (Or.inl rfl) (zB3 zDk rfl T.tuple PyProof.Rows.boot_tuple (zA0 (zAr (T:=["field"]) rfl ScOk.auto (zAh (zBg (pv 0) rfl)) (fun _ _ _ _=>zAa (i:=6) (by decide +kernel:(["kind", "rows", "found", "row", "values", "wished", "field"]:List Str).Nodup) rfl (Or.inl rfl)) (fun _ _ _ _=>zB2)
       (fun _ _ _ _=>zG6 hu (pv 4) (zAi (r:=rIxT K) zAq (pv 6) zA4 (fun _ _=>rfl)) ⟨rfl,rfl,rfl,rfl⟩)) zA2)))
     (zA6 (zBx (zCv PySem.F.plainAttrs_list PySem.F.slot_list_extend PySem.F.type_list_extend mt_extend (pv 2) (zA0 (zAp op_rep (zAg (zA0 (pv 5) zA2)) (zAi zAq (pv 3) zA4 (fun _ _=>rfl))) zA2))))))
     zAd)))
   (zA6 (zAc (pv 2)))),?_⟩
  have small:∀ n:Nat,n≤1000→n≤sizeLine:=fun n h=>Zm (small1000 h);obtain ⟨l',xs,e,_,hl,hz,hx⟩:=hd.list_inv;cases e;have xl:xs.length=ws.length:=by rw [hx.length,Z0]
  refine ⟨Zo _,fun lf hlf=>?_⟩
  refine ⟨_,rfl,l,rfl,⟨_,SqL.of ((Same.new hlf) _ _ hl)⟩,zBf (K:=K) (a:=l) (xs:=xs) (fun i σ H2=>∃ (vs:List V) (x3 x4 x5:Option V),σ = [some (.ref p),some (.ref l),some (.ref lf),x3,x4,x5]∧H2 lf=some (.lst vs)∧HasAll (fun a=>a≠lf) H2 vs ((eachW r (ws.take i)).map wishD)∧Same H H2)
   ⟨[],none,none,none,rfl,zA1,.nil,Same.new hlf⟩ (fun i σ H2 _ hz=>by obtain ⟨_,_,_,_,_,_,_,s2⟩:=hz;exact SqL.of (s2 _ _ hl)) ?_ ?_⟩
  ·rintro i x σ H2 hi ⟨vs,x3,x4,x5,rfl,ef,hv2,s2⟩;obtain ⟨dd,hdd,hv⟩:=hx.get hi;rw [Z4] at hdd;cases ew:ws[i]? with
   | none=>rw [ew] at hdd;cases hdd
   | some wr =>
    rw [ew] at hdd;cases hdd;have mw:=Z3 ew;obtain ⟨t,lc,rfl,ht,hc⟩:=w_inv hv;obtain ⟨dx,lfs,ep,hfs⟩:=kf;refine ⟨_,rfl,t,_,0,_,rfl,rfl,SqT.of (s2 _ _ ht),rfl,_,rfl,p,C,dx,_,_,rfl,s2 _ _ ep,KC.cl,KC.nN,zEz _ _ _,rfl,_,rfl,?_⟩;show if decide (V.str wr.kind=V.str r.name)=true then _ else _
    by_cases c:wr.kind=r.name
    ·rw [decide_eq_true (show V.str wr.kind=V.str r.name by rw [c])];refine iteT ?_;obtain ⟨lc',ys,e,_,hlc,_,hy⟩:=hc.list_inv;cases e;obtain ⟨ts,rfl,hts⟩:=zE2 hy;have tsl:ts.length=wr.cares.length:=by have:=hy.length;rw [Z0,Z0] at this;exact this
     have ckl:(careKV wr.cares).length=wr.cares.length:=by unfold careKV;rw [Z0]
     have cl10:=wok.le wr mw;refine ⟨_,rfl,t,_,2,_,rfl,rfl,SqT.of (s2 _ _ ht),rfl,lc,ts,careKV wr.cares,rfl,SqL.of (s2 _ _ hlc),rfl,?_,by rw [ckl,tsl],fun j tj kj vj e1 e2=>?_,fun dv hdv=>?_⟩
     ·unfold careKV;rw [Zn];have:(fun c:Str×Str=>(Sum.inr c.1:Key))=Sum.inr ∘ fun c:Str×Str=>c.1:=rfl;show (wr.cares.map fun c:Str×Str=>(Sum.inr c.1:Key)).Nodup;rw [this,← Zn];exact List.Pairwise.map (S:=(·≠·)) Sum.inr (fun a b h e=>h (Sum.inr.inj e)) (wok.nd wr mw)
     ·unfold careKV at e2;rw [Z4] at e2;obtain ⟨cj,ec,e3⟩:=Option.map_eq_some_iff.mp e2;cases e3;exact s2 _ _ (hts j tj cj e1 ec)
     ·have s3:Same H2 (upd H2 dv (.dK (careKV wr.cares))):=Same.new hdv;have e3:(upd H2 dv (.dK (careKV wr.cares))) dv=some (.dK (careKV wr.cares)):=zA1;generalize upd H2 dv (.dK (careKV wr.cares))=H3 at s3 e3 ⊢;have s23:=s2.trans s3;obtain ⟨lfs',fxs,e,_,hlfs,_,hfx⟩:=hfs.list_inv;cases e;have fxl:fxs.length=r.fields.length:=by rw [hfx.length,Z0]
      have fl:=fok.le;refine ⟨_,rfl,p,C,dx,_,_,rfl,s23 _ _ ep,KC.cl,KC.nF,zF0 _ _ _,lfs,rfl,⟨_,SqL.of (s23 _ _ hlfs)⟩,zAl (xs:=fxs) (fun j ys H'=>H3=H'∧ys=(r.fields.take j).map fun f=>ownV (wr.cares.lookup f.1)) ⟨rfl,rfl⟩ (fun j ys H' q=>by rw [← q.1];exact SqL.of (s23 _ _ hlfs)) (fun j ys H' hj q=>?_) ?_ ?_⟩
      ·rw [q.2,Z0];have:=Zy j r.fields;exact small _ (by omega)
      ·rintro j y ys H' hj ⟨rfl,rfl⟩ N hN;obtain ⟨dd,hdd,hv⟩:=hfx.get hj;rw [Z4] at hdd;cases eq:r.fields[j]? with
       | none=>rw [eq] at hdd;cases hdd
       | some q =>
        rw [eq] at hdd;cases hdd;obtain ⟨b,lv,rfl,hb,_⟩:=zBl hv;refine pick ?_;refine ⟨_,rfl,dv,rfl,.inl ⟨_,.inl e3⟩,_,rfl,b,_,0,_,rfl,rfl,SqT.of (s23 _ _ hb),rfl,_,DGet.k (k:=Sum.inr q.1) e3,hN _ _ ⟨rfl,?_⟩⟩;rw [care_val,Zd,eq,Za];rfl
      ·rintro ys H' ⟨rfl,rfl⟩ lcx hlcx;rw [fxl,Zh];refine ⟨lcx,_,rfl,.inl ⟨SqL.of zA1,fun tw htw=>?_⟩⟩;have s4:Same H3 (upd (upd H3 lcx (.lst (r.fields.map fun f=>ownV (wr.cares.lookup f.1)))) tw (.tup (r.fields.map fun f=>ownV (wr.cares.lookup f.1)))):=(Same.new hlcx).trans (Same.new htw);have e4:(upd (upd H3 lcx (.lst (r.fields.map fun f=>ownV (wr.cares.lookup f.1)))) tw (.tup (r.fields.map fun f=>ownV (wr.cares.lookup f.1)))) tw=some (.tup (r.fields.map fun f=>ownV (wr.cares.lookup f.1))):=zA1;generalize upd (upd H3 lcx (.lst (r.fields.map fun f=>ownV (wr.cares.lookup f.1)))) tw (.tup (r.fields.map fun f=>ownV (wr.cares.lookup f.1)))=H4 at s4 e4 ⊢;have s34:=s3.trans s4;have ef4:=s34 _ _ ef;have hi60:=wok.hi wr mw;refine ⟨_,rfl,.inl ⟨rfl,_,SqL.of ef4⟩,_,rfl,small 1 (by decide),fun lw hlw=>?_⟩;have s5:Same H4 (upd H4 lw (.lst [.ref tw])):=Same.new hlw;have e5:(upd H4 lw (.lst [.ref tw])) lw=some (.lst [.ref tw]):=zA1;generalize upd H4 lw (.lst [.ref tw])=H5 at s5 e5 ⊢;have vl:vs.length≤600:=by
        have h1:=hv2.length;rw [Z0,zDj] at h1;have h2:=zGp (ws:=ws.take i) (k:=r.name) fun x hx=>wok.hi x (Xc hx);have h3:=Zy i ws;have h4:=wok.len;have:60 * (ws.take i).length≤60 * 10:=Nat.mul_le_mul_left _ (by omega);omega
       refine ⟨_,rfl,t,_,1,_,rfl,rfl,SqT.of ((s2.trans (s34.trans s5)) _ _ ht),rfl,lw,_,_,rfl,rfl,e5,by omega,by omega,by rw [show ([V.ref tw]:List V).length=1 from rfl];exact small _ (by omega),fun lr hlr=>?_⟩;rw [Ym,flat_one];have s6:Same H5 (upd H5 lr (.lst (List.replicate wr.many (V.ref tw)))):=Same.new hlr;have e6:(upd H5 lr (.lst (List.replicate wr.many (V.ref tw)))) lr=some (.lst (List.replicate wr.many (V.ref tw))):=zA1;generalize upd H5 lr (.lst (List.replicate wr.many (V.ref tw)))=H6 at s6 e6 ⊢;have s26:=s34.trans (s5.trans s6);have ef6:=s26 _ _ ef;refine ⟨lf,lr,vs,_,rfl,rfl,ef6,e6,by rw [Y8];exact small _ (by omega),?_⟩;have twf:tw≠lf:=zBe ((s5.trans s6) _ _ e4) ef6 (fun z=>nomatch z);refine ⟨vs++List.replicate wr.many (.ref tw),_,_,_,rfl,zA1,?_,fun b o e=>?_⟩
       ·rw [zFs ew,if_pos c,Za,List.map_replicate];have fr:∀ {xs:List V}{ds:List PyData},HasAll (fun a=>a≠lf) H6 xs ds→HasAll (fun a=>a≠lf) (upd H6 lf (.lst (vs++List.replicate wr.many (.ref tw)))) xs ds:=fun h=>h.frame fun b o g e=>⟨g,by rw [zA8 g];exact e⟩;refine HasAll.append (fr (hv2.mono s26)) (fr (zFq ?_ _));refine .tup twf ((s5.trans s6) _ _ e4) (by rw [Z0];omega) ?_;unfold wishOf;rw [Zn];have key:∀ fs:List (Str×List Str),HasAll (fun a=>a≠lf) H6 (fs.map fun f=>ownV (wr.cares.lookup f.1)) (fs.map (ownD ∘ fun f=>wr.cares.lookup f.1)):=by
         intro fs
         induction fs with
         | nil=>exact .nil
         | cons q t ih=>exact .cons (zGc fun x e=>(wok.nm wr mw _ (lookup_in e)).2) ih
        exact key _
       ·rw [zA8 (zA5 e hlf)];exact s26 _ _ (s2 _ _ e)
    ·rw [decide_eq_false (show ¬ V.str wr.kind=V.str r.name by intro z;injection z with z;exact c z)];refine iteF ⟨vs,_,_,_,rfl,ef,?_,s2⟩;rw [zFs ew,if_neg c,List.append_nil];exact hv2
  ·rintro σ H2 ⟨vs,x3,x4,x5,rfl,ef,hv2,s2⟩;rw [xl,Zh] at hv2;exact ⟨_,rfl,k lf vs H2 hlf ef hv2 s2⟩
end
end L2.W
namespace L2.W
open PySem My
noncomputable def nmL (l:List (List (Str×Nat))):List V:=l.map fun q=>V.str (showP q)
noncomputable def ownL (l:List (List (Str×Nat))):List V:=l.map fun q=>ownV (ownP q)
noncomputable def WAt (H:Hp) (v:V) (o:List (Option Str)):Prop:=∃ t,v=.ref t∧H t=some (.tup (o.map ownV))
noncomputable def TabE (H:Hp) (e:Key×V) (x:List (Str×Nat)×List (Option Str)):Prop:=e.1=Sum.inr (showP x.1)∧WAt H e.2 x.2
theorem WAt.keep {H H':Hp}{v:V}{o:List (Option Str)} (h:WAt H v o) (k:∀ b xs,H b=some (.tup xs)→H' b=some (.tup xs)):WAt H' v o:=let ⟨t,e,ht⟩:=h;⟨t,e,k _ _ ht⟩
theorem zD7 {H H':Hp} (k:∀ b xs,H b=some (.tup xs)→H' b=some (.tup xs)) {a:List (Key×V)}{b:List (List (Str×Nat)×List (Option Str))} (h:Paired (TabE H) a b):Paired (TabE H') a b:=Paired.mapP h fun _ _ ⟨e,w⟩=>⟨e,w.keep k⟩
theorem own_inv {G:Addr→Prop}{H:Hp}{x:V}{o:Option Str} (h:Has G H x (ownD o)):x=ownV o:=by
 cases o with
 | none=>cases h;rfl
 | some y=>exact h.str_inv.1
theorem wish_inv {G:Addr→Prop}{H:Hp}{v:V}{o:List (Option Str)} (h:Has G H v (wishD o)):WAt H v o:=by
 obtain ⟨t,xs,rfl,_,e,hz,hx⟩:=h.tup_inv;refine ⟨t,rfl,?_⟩;rw [e]
 congr 2
 clear e h hz
 induction o generalizing xs with
 | nil=>cases hx;rfl
 | cons a r ih =>
  cases hx with
  | cons q t=>rw [own_inv q,ih _ t,Z8]
theorem flat_at {α β : Type}{f : α→List β}{m:Nat}:∀ {l:List α}{a b:Nat}{x : α},(∀ y∈l,(f y).length=m)→l[a]? = some x→b < m→(l.flatMap f)[a * m + b]? = (f x)[b]?
 | [],_,_,_,_,h,_=>by simp at h
 | y :: l,0,b,x,hm,h,hb=>by
  simp at h;subst h;rw [Y1,Nat.zero_mul,Nat.zero_add,Zq (by rw [hm y Zb];exact hb)]
 | y :: l,a + 1,b,x,hm,h,hb=>by
  have e:=hm y Zb;rw [Y1,Zz (by rw [e,Ys];omega),e];have:=flat_at (l:=l) (a:=a) (b:=b) (x:=x) (fun z hz=>hm z (Z6 _ hz)) (by simpa using h) hb;rw [← this]
  congr 1
  rw [Ys];omega
theorem zGm {α β : Type}{f : α→List β}{m:Nat}:∀ {l:List α},(∀ y∈l,(f y).length=m)→(l.flatMap f).length=l.length * m
 | [],_=>by simp
 | y :: l,h=>by
  rw [Y1,Z7,h y Zb,zGm fun z hz=>h z (Z6 _ hz),Zj,Ys,Nat.add_comm]
section
variable {rs:List Row}{ws:List WRow}{ord:List Str}
theorem tab_split {i:Nat}{k:Str} (h:ord[i]? = some k):table rs ws ord=table rs ws (ord.take i)++(tabOf rs ws k++table rs ws (ord.drop (i + 1))):=by
 have hi:i < ord.length:=(List.getElem?_eq_some_iff.mp h).1;have e1:ord[i]=k:=(List.getElem?_eq_some_iff.mp h).2;have e:ord=ord.take i++k :: ord.drop (i + 1):=by
  conv=>lhs;rw [← List.take_append_drop i ord,List.drop_eq_getElem_cons hi,e1]
 conv=>lhs;rw [e]
 unfold table;rw [List.flatMap_append,Y1]
theorem tab_at {i a b:Nat}{k:Str}{r:Row}{q:List (Str×Nat)}{x:List (Option Str)} (h:ord[i]? = some k) (er:rowAt rs (.str k)=some r) (hq:(above rs ws k)[a]? = some q) (hx:(eachW r ws)[b]? = some x) :
  (table rs ws ord)[(table rs ws (ord.take i)).length + (a * (eachW r ws).length + b)]? = some (q++[(k,b)],x):=by
 rw [tab_split h,Zz (by omega),Nat.add_sub_cancel_left];have hb:b < (eachW r ws).length:=(List.getElem?_eq_some_iff.mp hx).1;have ha:a < (above rs ws k).length:=(List.getElem?_eq_some_iff.mp hq).1;have et:tabOf rs ws k=(above rs ws k).flatMap fun q=>(eachW r ws).mapIdx fun i w=>(q++[(k,i)],w):=by unfold tabOf;rw [er]
 have hm:∀ y∈above rs ws k,((eachW r ws).mapIdx fun i w=>(y++[(k,i)],w)).length=(eachW r ws).length:=fun y _=>List.length_mapIdx ..;have ln:=zGm hm;have lt:a * (eachW r ws).length + b < (above rs ws k).length * (eachW r ws).length:=by
  have:(a + 1) * (eachW r ws).length≤(above rs ws k).length * (eachW r ws).length:=Nat.mul_le_mul_right _ ha;rw [Ys] at this;omega
 rw [Zq (by rw [et,ln];exact lt),et,flat_at hm hq hb,List.getElem?_mapIdx,hx];rfl
theorem path_at (T:Top rs ord) (hl:ord.length≤5) {a b:Nat}{k:Str}{q:List (Str×Nat)} (hk:k∈ord) (hq:(above rs ws k)[a]? = some q) (hb:b < each ws k) :
  (paths rs ws k)[a * each ws k + b]? = some (q++[(k,b)]):=by
 rw [zG9 T hl hk,flat_at (m:=each ws k) (fun y _=>by rw [Z0,Y7]) hq hb,Z4];have:(List.range (each ws k))[b]? = some b:=by simp [hb]
 rw [this];rfl
theorem zFh (T:Top rs ord) (hl:ord.length≤5) {k:Str} (hk:k∈ord):(paths rs ws k).length=(above rs ws k).length * each ws k:=by
 rw [zG9 T hl hk];exact zGm fun y _=>by rw [Z0,Y7]
theorem tabOf_len (T:Top rs ord) (hl:ord.length≤5) {k:Str} (hk:k∈ord):(tabOf rs ws k).length=(above rs ws k).length * each ws k:=by
 have:=congrArg List.length (zEi (ws:=ws) T hl hk);rw [Z0] at this;rw [this,zFh T hl hk]
theorem tab_next {i:Nat}{k:Str} (h:ord[i]? = some k):(table rs ws (ord.take (i + 1))).length=(table rs ws (ord.take i)).length + (tabOf rs ws k).length:=by
 unfold table;rw [Zd,h,List.flatMap_append,Z7];simp
theorem new_ok (T:Top rs ord) (hl:ord.length≤5) {a b:Nat}{k:Str}{q:List (Str×Nat)} (hk:k∈ord) (hq:(above rs ws k)[a]? = some q) (hb:b < each ws k):q++[(k,b)]∈paths rs ws k:=Z3 (path_at T hl hk hq hb)
end
theorem chain_kof {CK C:Addr}{H:Hp}{p d:Addr}{kvs:List (Key×V)}{zs:List (Addr×Row)}{ord:List Str} (k:Ks CK C H p d kvs zs ord):∀ {q:List (Str×Nat)}{a:Option Str},Chain (fun k o=>ownerAt (zs.map (·.2)) k=o) a q→(∀ x∈q,x.1∈ord)→Chain (KOf C H kvs) a q
 | [],_,_,_=>trivial
 | (n,i) :: t,a,h,hm=>by
  refine ⟨?_,chain_kof k h.2 fun x hx=>hm x (Z6 _ hx)⟩;obtain ⟨y,hy,hv,en,_,eo⟩:=k.row (hm (n,i) Zb);obtain ⟨dx,lf,e,_⟩:=k.hk y hy;have h1:ownerAt (zs.map (·.2)) n=a:=h.1;rw [eo] at h1;rw [en,h1] at e;exact ⟨y.1,dx,lf,hv,e⟩
theorem fresh_key {H:Hp}{kv:List (Key×V)}{tb:List (List (Str×Nat)×List (Option Str))}{n:Nat}{x:List (Str×Nat)×List (Option Str)} (hp:∀ y∈tb,PathOk y.1) (nd:(tb.map (·.1)).Nodup) (h:Paired (TabE H) kv (tb.take n)) (e:tb[n]? = some x):valV kv (Sum.inr (showP x.1))=none:=by
 have hx:=Z3 e;have hn:x.1∉(tb.take n).map (·.1):=by
  intro hm;rw [Xf] at hm;obtain ⟨j,hj,ej⟩:=Zu hm;rw [Zr] at hj;have e1:(tb.map (·.1))[j]? = some x.1:=by rw [Yz] at ej;rw [← ej];exact Z1 (by omega)
  have e2:(tb.map (·.1))[n]? = some x.1:=by rw [Z4,e];rfl
  have:=(Yf (by omega) nd).mp (e1.trans e2.symm);omega
 have hp':∀ y∈tb.take n,PathOk y.1:=fun y hy=>hp y (Xc hy);clear e nd;generalize tb.take n=l at h hn hp'
 induction h with
 | nil=>rfl
 | @cons a b _ _ r t ih =>
  obtain ⟨a1,a2⟩:=a;have e1:a1=Sum.inr (showP b.1):=r.1;subst e1;rw [zB0]
  ·exact ih (fun z=>hn (by rw [Z8];exact Z6 _ z)) fun y hy=>hp' y (Z6 _ hy)
  ·intro z;have:=show_inj (hp' b Zb) (hp x hx) (Sum.inr.inj z);exact hn (by rw [Z8,this];exact Zb)
end L2.W
namespace L2.W
open PySem My
noncomputable def alKV (al:List (Str×Addr)):List (Key×V):=al.map fun a=>((Sum.inr a.1:Key),V.ref a.2)
theorem alKV_mem:∀ {al:List (Str×Addr)}{o:Str},o∈al.map (·.1)→∃ x,(o,x)∈al∧valV (alKV al) (Sum.inr o)=some (.ref x)
 | [],_,h=>by cases h
 | a :: t,o,h=>by
  unfold alKV;rw [Z8];by_cases c:a.1=o
  ·exact ⟨a.2,by rw [← c];exact Zb,by rw [zBb (by rw [c])]⟩
  ·rw [Z8] at h;rcases List.mem_cons.mp h with e | h
   ·exact absurd e.symm c
   ·obtain ⟨x,hx,e⟩:=alKV_mem h;exact ⟨x,Z6 _ hx,by rw [zB0 (by intro z;exact c (Sum.inr.inj z))];exact e⟩
theorem alKV_no:∀ {al:List (Str×Addr)}{o:Str},o∉al.map (·.1)→valV (alKV al) (Sum.inr o)=none
 | [],_,_=>rfl
 | a :: t,o,h=>by
  unfold alKV;rw [Z8,zB0 (by intro z;exact h (by rw [Z8,Sum.inr.inj z];exact Zb))];exact alKV_no fun z=>h (by rw [Z8];exact Z6 _ z)
theorem alKV_last:∀ {al:List (Str×Addr)}{o:Str}{x:Addr},o∉al.map (·.1)→valV (alKV (al++[(o,x)])) (Sum.inr o)=some (.ref x)
 | [],o,x,_=>by unfold alKV;exact zBb rfl
 | a :: t,o,x,h=>by
  unfold alKV;rw [List.cons_append,Z8,zB0 (by intro z;exact h (by rw [Z8,Sum.inr.inj z];exact Zb))];exact alKV_last fun z=>h (by rw [Z8];exact Z6 _ z)
theorem iteCT {c:Bool}{A B:Prop} (h:c=true) (x:A):if c=true then A else B:=by rw [if_pos h];exact x
theorem iteCF {c:Bool}{A B:Prop} (h:c=false) (x:B):if c=true then A else B:=by rw [if_neg (by rw [h];exact Zi)];exact x
theorem k_own {R F:Addr→Hp→Prop}{B:Prop} (t:∀ l Hx,F l Hx→R l Hx) (h:(∀ l Hx,F l Hx→R l Hx)→B):B:=h t
noncomputable def spWBy (CK C:Addr):Sp:=fun vs H Q _=>∃ (p d l:Addr) (kvs:List (Key×V)) (zs:List (Addr×Row)) (ord:List Str) (ws:List WRow),vs=[.ref p,.ref l]∧Ks CK C H p d kvs zs ord∧Top (zs.map (·.2)) ord∧Has Any H (.ref l) (.list (ws.map wD))∧WsOk ws∧(table (zs.map (·.2)) ws ord).length≤60 ∧
 ∀ (df:Addr) (kvF:List (Key×V)) (H':Hp),H df=none→H' df=some (.dK kvF)→Paired (TabE H') kvF (table (zs.map (·.2)) ws ord)→Same H H'→Q (.ref df) H'
theorem take_snoc {α : Type}{l:List α}{n:Nat}{x : α} (h:l[n]? = some x):l.take (n + 1)=l.take n++[x]:=by rw [Zd,h];rfl
section
variable {P:Program}{w:World}{K:PySem.W.Frag}{mg:Str→Option Value}{base:Heap}{CX:CXT}
theorem scWb:FnScope ["kinds", "rows", "names", "found", "kind", "owner_kind", "owners", "of_each", "owner", "number", "wished", "name"] ["kinds", "rows"] (defScope sWBy):=⟨rfl,rfl,rfl,by decide +kernel,rfl,by decide +kernel,by decide +kernel⟩
theorem ok_wBy {f fe fn C fI CK fIk fOr fOf fOw fno fi fw fh fp:Addr}{fd fde fdn fdr fdo fdno fdi fdw fdh fdp:FuncData} (hC:Calm CX) (T:Tops K mg) (KC:KCls K mg C fI) (KS:KsCls K mg CK fIk fOr fOf fOw) (F:Fun K "wished_by_name" "wished_by_name" sWBy f fd) (DN:Def K mg "is_name" sIsName ["thing"] fn fdn) (DE:Def K mg "wished_of_each" sWEach ["kind", "rows"] fe fde)
  (DI:Def K mg "is_whole" sIsWhole ["thing"] fi fdi) (DW:Def K mg "is_written_number" sWritten ["text", "most_figures"] fw fdw) (DH:Def K mg "has_form" sHasForm ["thing"] fh fdh) (DP:Def K mg "parts_of" sPartsOf ["kinds", "name"] fp fdp) (DO:Def K mg "name_of" sNameOf ["kinds", "kind", "owner", "number"] fno fdno)
  (FR:Fun K "order" "Kinds.order" sOrder fOr fdr) (bR:Binds K fdr ["self"] []) (FO:Fun K "of" "Kinds.of" sOf fOf fdo) (bO:Binds K fdo ["self", "name"] []):FnOk P w K mg base CX 5 f fd ["kinds", "rows"] (spWBy CK C):=by
 have GE:FnOk P w K mg base CX 1 fe fde ["kind", "rows"] (spWEach C):=ok_wEach T KC DE.fn;have GR:FnOk P w K mg base CX 1 fOr fdr ["self"] (spOrder CK):=zGf T KS FR;have GO:FnOk P w K mg base CX 2 fOf fdo ["self", "name"] (spOf CK):=ok_of hC T KS FO DN;have GN:FnOk P w K mg base CX 4 fno fdno ["kinds", "kind", "owner", "number"] (spNameOf CK C):=ok_nameOf hC T KC KS DO.fn DN DI DW DH DP FO bO;refine Fun.okC F scWb (fun vs H Q E h=>?_) (fun cdv A outer s H vs Q E hr h=>?_)
 ·obtain ⟨p,d,l,kvs,zs,ord,ws,rfl,_⟩:=h;rfl
 ·obtain ⟨p,d,l,kvs,zs,ord,ws,rfl,ks,tp,hd,wok,tle,k⟩:=h;have hr1:=hr.mono (show 1≤4 by decide);have hr2:=hr.mono (show 2≤4 by decide);have hu:=hu_of hr;have nd:=scWb.nd
  refine ⟨_,zA3 (zAb (i:=2) nd rfl (Or.inl rfl) zC6)
   (zA3 (zAb (i:=3) nd rfl (Or.inl rfl) zC6)
   (zA3 (zBj PassesOwn.never rfl (zAh (zCq (pv 0) KS.cl KS.mOr GR hr1 bR .nil (passC hC))) (zAa (i:=4) nd rfl (Or.inl rfl))
    (zA3 (zAb (i:=5) nd rfl (Or.inl rfl) (zBg (zCf (pv 0) KS.cl KS.mOf GO hr2 bO .nil (passC hC) (zA0 (pv 4) zA2)) rfl))
    (zA3 (zAb (i:=6) nd rfl (Or.inl rfl) (zCr (zCa (zEt (pv 5))) (zAg (zA0 zBk zA2)) (zDu hu (pv 2) (pv 5) (fun _ _=>rfl))))
    (zA3 (zAb (i:=7) nd rfl (Or.inl rfl) (zA7 GE hr1 rfl DE.at_ DE.fn.kp DE.bind .nil (passC hC) (zA0 (zCf (pv 0) KS.cl KS.mOf GO hr2 bO .nil (passC hC) (zA0 (pv 4) zA2)) (zA0 (pv 1) zA2))))
    (zA3 (zDr hu (pv 2) (pv 4) (zAg zA2) rfl)
    (zA6 (zBj PassesOwn.never rfl (zAh (pv 6)) (zAa (i:=8) nd rfl (Or.inl rfl))
     (zA6 (zBj PassesOwn.never rfl (zG3 rfl T.enum (zA0 (pv 7) zA2)) (zCb rfl (zAf (zAa (i:=9) nd rfl (Or.inl rfl)) (zAf (zAa (i:=10) nd rfl (Or.inl rfl)) zBc)))
      (zA3 (zAb (i:=11) nd rfl (Or.inl rfl) (zA7 GN hr rfl DO.at_ DO.fn.kp DO.bind .nil (passC hC) (zA0 (pv 0) (zA0 (pv 4) (zA0 (pv 8) (zA0 (pv 9) zA2))))))
      (zA3 (zBx (zCv PySem.F.plainAttrs_list PySem.F.slot_list_append PySem.F.type_list_append zCk (zDu hu (pv 2) (pv 4) (fun _ _=>rfl)) (zA0 (pv 11) zA2)))
      (zA6 (zDr hu (pv 3) (pv 11) (pv 10) rfl)))))))))))))
   (zA6 (zAc (pv 3))))),?_⟩
  have small:∀ n:Nat,n≤1000→n≤sizeLine:=fun n h=>Zm (small1000 h);have ol:=ks.olen;have ond:ord.Nodup:=ks.op.nodup_iff.mpr ks.nd;have tpk:∀ y∈table (zs.map (·.2)) ws ord,PathOk y.1:=fun y hy=>by
   have hm:y.1∈ord.flatMap (paths (zs.map (·.2)) ws):=by rw [← zCy tp ol];exact List.mem_map_of_mem hy
   obtain ⟨kk,hk1,hk2⟩:=List.mem_flatMap.mp hm;exact path_pok tp (fun z hz=>ks.onm hz) (fun z=>by have:=wok.each z;omega) hk1 hk2
  have tnd:((table (zs.map (·.2)) ws ord).map (·.1)).Nodup:=by rw [zCy tp ol];exact all_nodup ond
  refine fun dn hdn=>?_;have s0:Same H (upd H dn (.dK [])):=Same.new hdn;have e0:(upd H dn (.dK [])) dn=some (.dK []):=zA1;generalize upd H dn (.dK [])=H0 at s0 e0 ⊢;refine fun df hdf=>?_;have ndf:dn≠df:=zA5 e0 hdf;have hdfH:H df=none:=s0.free hdf;have s1:Same H (upd H0 df (.dK [])):=s0.trans (Same.new hdf);have e1:(upd H0 df (.dK [])) dn=some (.dK []):=(Same.new hdf) _ _ e0;have f1:(upd H0 df (.dK [])) df=some (.dK []):=zA1;generalize upd H0 df (.dK [])=H1 at s1 e1 f1 ⊢;obtain ⟨⟨dx0,hp0⟩,rd0⟩:=(ks.same s1).ka;refine ⟨_,rfl,p,dx0,_,rfl,hp0,zGj _ (by decide +kernel),p,d,kvs,rfl,⟨⟨dx0,hp0⟩,rd0⟩,fun lo hlo=>?_⟩;rw [ks.pl.keys]
  refine ⟨lo,rfl,⟨_,SqL.of zA1⟩,zBf (K:=K) (a:=lo) (xs:=ord.map V.str) (fun i σ H2=>∃ (x4 x5 x6 x7 x8 x9 x10 x11:Option V) (al:List (Str×Addr)) (kvF:List (Key×V)),σ = [some (.ref p),some (.ref l),some (.ref dn),some (.ref df),x4,x5,x6,x7,x8,x9,x10,x11] ∧
    H2 dn=some (.dK (alKV al))∧al.map (·.1)=ord.take i∧(∀ a∈al,H2 a.2=some (.lst (nmL (paths (zs.map (·.2)) ws a.1))))∧H2 df=some (.dK kvF)∧Paired (TabE H2) kvF ((table (zs.map (·.2)) ws ord).take (table (zs.map (·.2)) ws (ord.take i)).length)∧Same H H2∧H2 lo=some (.lst (ord.map V.str)))
   ⟨none,none,none,none,none,none,none,none,[],[],rfl,(Same.new hlo) _ _ e1,rfl,(fun a ha=>nomatch ha),(Same.new hlo) _ _ f1,.nil,s1.trans (Same.new hlo),zA1⟩ (fun i σ H2 _ hz=>by obtain ⟨_,_,_,_,_,_,_,_,_,_,_,_,_,_,_,_,_,q⟩:=hz;exact SqL.of q) ?_ ?_⟩
  ·rintro i x σ H2 hi ⟨x4,x5,x6,x7,x8,x9,x10,x11,al,kvF,rfl,en,ea,hal,ef,htab,s2,elo⟩;rw [Z4] at hi;cases ek:ord[i]? with
   | none=>rw [ek] at hi;cases hi
   | some n =>
    rw [ek] at hi;cases hi;have hn:=Z3 ek;have il:i < ord.length:=(List.getElem?_eq_some_iff.mp ek).1;obtain ⟨y,hy,hv,eyn,er,eo⟩:=ks.row hn;have ks2:=ks.same s2;obtain ⟨⟨dx,hp⟩,rd⟩:=ks2.ka;have nmn:n∉al.map (·.1):=fun h=>by
     rw [ea] at h;obtain ⟨j,hj,e⟩:=Zu h;rw [Zr] at hj;have e1:ord[j]? = some n:=by rw [Yz] at e;rw [← e];exact Z1 (by omega)
     have:=(Yf (by omega) ond).mp (e1.trans ek.symm);omega
    refine ⟨_,rfl,p,dx,_,rfl,hp,zGj _ (by decide +kernel),_,rfl,p,d,kvs,n,V.ref y.1,rfl,ks.onm hn,⟨⟨dx,hp⟩,rd⟩,hv,fun H3 s3=>?_⟩;obtain ⟨dxy,ly,ey,_⟩:=(ks2.same s3).hk y hy;refine ⟨y.1,C,dxy,_,_,rfl,ey,KC.cl,KC.nO,zBv _ _ _,?_⟩;refine' k_own (F:=fun lo2 H4=>Same H3 H4∧H4 lo2=some (.lst (ownL (above (zs.map (·.2)) ws n)))) _ (fun kr=>_);rotate_left 2
    ·by_cases c:y.2.owner=none
     ·refine ⟨_,rfl,_,rfl,iteCT (by rw [c];rfl) ⟨small 1 (by decide),fun lo2 hlo2=>?_⟩⟩;have s4:Same H3 (upd H3 lo2 (.lst [.non])):=Same.new hlo2;have e4:(upd H3 lo2 (.lst [.non])) lo2=some (.lst [.non]):=zA1;generalize upd H3 lo2 (.lst [.non])=H4 at s4 e4 ⊢;refine kr lo2 H4 ⟨s4,?_⟩;rw [e4];unfold above;rw [eo,c];rfl
     ·obtain ⟨o,eo2⟩:=Option.ne_none_iff_exists'.mp c;obtain ⟨j,hj,ej⟩:=(tp i n ek).2 o (by rw [eo,eo2]);have ho:o∈al.map (·.1):=by
       rw [ea];have:(ord.take i)[j]? = some o:=by rw [Yd hj];exact ej
       exact Z3 this
      obtain ⟨lo2,hm,ev⟩:=alKV_mem ho;have dg:DGet H3 dn (ownV y.2.owner) (some (.ref lo2)):=by
       have:=DGet.k (k:=Sum.inr o) (s3 _ _ en);rw [ev] at this;rw [eo2];exact this
      refine ⟨_,rfl,_,rfl,iteCF (by rw [eo2];rfl) ⟨_,rfl,_,rfl,dn,_,rfl,dg,kr lo2 H3 ⟨Same.refl _,?_⟩⟩⟩;rw [s3 _ _ (hal _ hm)];unfold above ownL nmL;rw [eo,eo2];have:∀ q∈paths (zs.map (·.2)) ws o,V.str (showP q)=ownV (ownP q):=fun q hq=>by
       obtain ⟨q',i',rfl⟩:=zCs hq;unfold ownP;rw [if_neg (by simp)];rfl
      exact congrArg (fun z=>some (HO.lst z)) (List.map_congr_left this)
    ·rintro lo2 H4 ⟨s4,e4⟩;have s24:=s3.trans s4;have ks4:=ks2.same s24;obtain ⟨⟨dx4,hp4⟩,rd4⟩:=ks4.ka;refine ⟨_,rfl,p,dx4,_,rfl,hp4,zGj _ (by decide +kernel),_,rfl,p,d,kvs,n,V.ref y.1,rfl,ks.onm hn,⟨⟨dx4,hp4⟩,rd4⟩,hv,fun H5 s5=>⟨_,rfl,y.1,l,y.2,ws,rfl,(ks4.same s5).hk y hy,(ks.ok y hy).2,hd.mono (s2.trans (s24.trans s5)),wok,fun le xs H6 hle ele hxs s6=>?_⟩⟩;have s46:=s5.trans s6;have s26:=s24.trans s46;have en6:=s26 _ _ en;have ef6:=s26 _ _ ef;have e46:=s46 _ _ e4;have elo6:=s26 _ _ elo;have hal6:∀ a∈al,H6 a.2=some (.lst (nmL (paths (zs.map (·.2)) ws a.1))):=fun a ha=>s26 _ _ (hal a ha);have htab6:Paired (TabE H6) kvF ((table (zs.map (·.2)) ws ord).take (table (zs.map (·.2)) ws (ord.take i)).length):=zD7 (fun b xs e=>s26 _ _ e) htab;have hxw:∀ (j:Nat) (v:V),xs[j]? = some v→∃ o,(eachW y.2 ws)[j]? = some o∧WAt H6 v o:=fun j v e=>by
      obtain ⟨dd,hdd,hh⟩:=hxs.get e;rw [Z4] at hdd;obtain ⟨o,eo,rfl⟩:=Option.map_eq_some_iff.mp hdd;exact ⟨o,eo,wish_inv hh⟩
     have xl:xs.length=(eachW y.2 ws).length:=by rw [hxs.length,Z0]
     have sH6:Same H H6:=s2.trans s26;have ell:(alKV al).length < sizeLine:=by
      unfold alKV;rw [Z0,← Z0 (f:=fun a:Str×Addr=>a.1),ea,Zr];exact Yi (Nat.min_le_right _ _) (small1000 (by omega))
     refine ⟨Zo _,fun ln hln=>?_⟩;have nln:∀ {b o},H6 b=some o→b≠ln:=fun e=>zA5 e hln;refine ⟨_,rfl,_,rfl,dn,_,rfl,DPut.k (k:=Sum.inr n) ((Same.new hln) _ _ en6) ell,?_⟩;have kp:∀ b o,H6 b=some o→b≠dn→(upd (upd H6 ln (.lst [])) dn (.dK (putK (alKV al) (Sum.inr n) (.ref ln)))) b=some o:=fun b o e nb=>by rw [zA8 nb];exact (Same.new hln) _ _ e
     have edn:(upd (upd H6 ln (.lst [])) dn (.dK (putK (alKV al) (Sum.inr n) (.ref ln)))) dn=some (.dK (alKV (al++[(n,ln)]))):=by
      rw [zA1,putK_no (alKV_no nmn)];unfold alKV;rw [Za];rfl
     have eln:(upd (upd H6 ln (.lst [])) dn (.dK (putK (alKV al) (Sum.inr n) (.ref ln)))) ln=some (.lst []):=by rw [zA8 (Ne.symm (nln en6)),zA1]
     have sS:Same H (upd (upd H6 ln (.lst [])) dn (.dK (putK (alKV al) (Sum.inr n) (.ref ln)))):=fun b o e=>kp _ _ (sH6 _ _ e) (zA5 e hdn);generalize upd (upd H6 ln (.lst [])) dn (.dK (putK (alKV al) (Sum.inr n) (.ref ln)))=Hs at kp edn eln sS ⊢;have lst_dn:∀ {b z},H6 b=some (.lst z)→b≠dn:=fun e=>zBe e en6 (fun z=>nomatch z);have lst_df:∀ {b z},H6 b=some (.lst z)→b≠df:=fun e=>zBe e ef6 (fun z=>nomatch z);have nldf:ln≠df:=Ne.symm (nln ef6);have efs:=kp _ _ ef6 (Ne.symm ndf);have elos:=kp _ _ elo6 (lst_dn elo6);have els:=kp _ _ ele (lst_dn ele);have e4s:=kp _ _ e46 (lst_dn e46);have hals:∀ a∈al,Hs a.2=some (.lst (nmL (paths (zs.map (·.2)) ws a.1))):=fun a ha=>kp _ _ (hal6 a ha) (lst_dn (hal6 a ha));have tkp:∀ b xs,H6 b=some (.tup xs)→Hs b=some (.tup xs):=fun b xs e=>kp _ _ e (zBe e en6 (fun z=>nomatch z));have htabs:=zD7 tkp htab6;have hxs2:∀ (j:Nat) (v:V),xs[j]? = some v→∃ o,(eachW y.2 ws)[j]? = some o∧WAt Hs v o:=fun j v e=>let ⟨o,e1,e2⟩:=hxw j v e;⟨o,e1,e2.keep tkp⟩;have eE:(eachW y.2 ws).length=each ws n:=by rw [zDj,eyn]
     have hfr:∀ (b o),H b=some o→b≠ln∧b≠df:=fun b o e=>⟨nln (sH6 _ _ e),zA5 e hdfH⟩;obtain ⟨n0,en0⟩:∃ n0,(table (zs.map (·.2)) ws (ord.take i)).length=n0:=⟨_,rfl⟩;rw [en0] at htabs;have tlen:(paths (zs.map (·.2)) ws n).length≤60:=by
      have h1:=congrArg List.length (zEi (ws:=ws) tp ol hn);rw [Z0] at h1;have h2:=congrArg List.length (tab_split (rs:=(zs.map (·.2))) (ws:=ws) ek);rw [Z7,Z7] at h2;omega
     refine ⟨_,rfl,lo2,rfl,⟨_,SqL.of e4s⟩,zBf (K:=K) (a:=lo2) (xs:=ownL (above (zs.map (·.2)) ws n)) (fun a σ H7=>∃ (x8 x9 x10 x11:Option V) (kvG:List (Key×V)),σ = [some (.ref p),some (.ref l),some (.ref dn),some (.ref df),some (.str n),some (ownV y.2.owner),some (.ref lo2),some (.ref le),x8,x9,x10,x11] ∧
       H7 ln=some (.lst (nmL ((paths (zs.map (·.2)) ws n).take (a * each ws n))))∧H7 df=some (.dK kvG)∧Paired (TabE H7) kvG ((table (zs.map (·.2)) ws ord).take (n0 + a * each ws n))∧∀ b o,Hs b=some o→b≠ln→b≠df→H7 b=some o)
      ⟨_,_,_,_,kvF,rfl,by rw [Nat.zero_mul];exact eln,efs,by rw [Nat.zero_mul];exact htabs,fun b o e _ _=>e⟩ (fun a σ H7 _ hz=>by obtain ⟨_,_,_,_,_,_,_,_,_,q⟩:=hz;exact SqL.of (q _ _ e4s (nln e46) (lst_df e46))) ?_ ?_⟩
     ·rintro a xo σ H7 ha ⟨x8,x9,x10,x11,kvG,rfl,gln,gf,gtab,gk⟩;unfold ownL at ha;rw [Z4] at ha;obtain ⟨q,hq,rfl⟩:=Option.map_eq_some_iff.mp ha
      refine ⟨_,rfl,le,rfl,⟨_,SqL.of (gk _ _ els (nln ele) (lst_df ele))⟩,for_enum (K:=K) (a:=le) (xs:=xs) (fun b σ H8=>∃ (x9 x10 x11:Option V) (kvG:List (Key×V)),σ = [some (.ref p),some (.ref l),some (.ref dn),some (.ref df),some (.str n),some (ownV y.2.owner),some (.ref lo2),some (.ref le),some (ownV (ownP q)),x9,x10,x11] ∧
        H8 ln=some (.lst (nmL ((paths (zs.map (·.2)) ws n).take (a * each ws n + b))))∧H8 df=some (.dK kvG)∧Paired (TabE H8) kvG ((table (zs.map (·.2)) ws ord).take (n0 + (a * each ws n + b)))∧∀ b o,Hs b=some o→b≠ln→b≠df→H8 b=some o)
       ⟨_,_,_,kvG,rfl,gln,gf,gtab,gk⟩ (fun b σ H8 _ hz=>by obtain ⟨_,_,_,_,_,_,_,_,q⟩:=hz;exact SqL.of (q _ _ els (nln ele) (lst_df ele))) ?_ ?_⟩
      ·rintro b x σ H8 pt hb ⟨x9,x10,x11,kvG,rfl,gln,gf,gtab,gk⟩ hpt;obtain ⟨o,eob,ho⟩:=hxs2 b x hb;have bE:b < each ws n:=by rw [← eE];exact (List.getElem?_eq_some_iff.mp eob).1
       have sN:=Same.new (o:=.tup [.int (b:Nat),x]) hpt;replace gln:=sN _ _ gln;replace gf:=sN _ _ gf;replace gtab:=zD7 (fun b xs e=>sN _ _ e) gtab;replace gk:∀ b o,Hs b=some o→b≠ln→b≠df→_:=fun b o e n1 n2=>sN _ _ (gk b o e n1 n2);have hpt2:(upd H8 pt (.tup [.int (b:Nat),x])) pt=some (.tup [.int (b:Nat),x]):=zA1;generalize upd H8 pt (.tup [.int (b:Nat),x])=H9 at gln gf gtab gk hpt2 ⊢;refine ⟨pt,_,rfl,SqT.of hpt2,rfl,_,_,rfl,_,_,rfl,rfl,?_⟩;have s9:Same H H9:=fun b o e=>gk _ _ (sS _ _ e) (hfr _ _ e).1 (hfr _ _ e).2;have ks9:=ks.same s9;have hnew:=new_ok tp ol hn hq bE;have pok:=path_pok tp (fun z hz=>ks.onm hz) (fun z=>by have:=wok.each z;omega) hn hnew;obtain ⟨_,pth⟩:=path_ok tp 6 n _ (Z5 _) hn hnew;have tat:=tab_at (rs:=(zs.map (·.2))) (ws:=ws) ek er hq eob;rw [eE,en0] at tat;refine ⟨_,rfl,_,rfl,_,rfl,_,rfl,p,d,kvs,q,n,b,rfl,ks9.ka,pok,chain_kof ks9 pth.ch (fun x hx=>(pth.mem x hx).1),fun H10 s10=>?_⟩;have gln10:=s10 _ _ gln;have gf10:=s10 _ _ gf;have edn10:=s10 _ _ (gk _ _ edn (nln en6) ndf);have dg:DGet H10 dn (.str n) (some (.ref ln)):=by
        have:=DGet.k (k:=Sum.inr n) edn10;rw [alKV_last nmn] at this;exact this
       have ll:(nmL ((paths (zs.map (·.2)) ws n).take (a * each ws n + b))).length < sizeLine:=by
        unfold nmL;rw [Z0];exact Yi (Zy _ _) (small1000 (by omega))
       refine ⟨_,rfl,_,rfl,dn,_,rfl,dg,.inl ⟨rfl,_,SqL.of gln10⟩,_,rfl,ln,_,_,rfl,rfl,gln10,ll,?_⟩;have kl:kvG.length < sizeLine:=by
        have:=Paired.length gtab;rw [Zr] at this;exact small1000 (by omega)
       refine ⟨_,rfl,_,rfl,_,rfl,df,_,rfl,DPut.k (k:=Sum.inr (showP (q++[(n,b)]))) (by rw [zA8 (Ne.symm nldf)];exact gf10) kl,?_⟩;rw [putK_no (fresh_key tpk tnd gtab tat)];refine ⟨_,_,_,_,rfl,?_,zA1,?_,fun b' o' e n1 n2=>?_⟩
       ·rw [zA8 nldf,zA1,← Xn,take_snoc (path_at tp ol hn hq bE)];unfold nmL;rw [Za];rfl
       ·rw [← Xn,← Xn,take_snoc (by rw [Xn];exact tat),Xn];have tk:∀ b' xs,H9 b'=some (.tup xs)→(upd (upd H10 ln (.lst (nmL ((paths (zs.map (·.2)) ws n).take (a * each ws n + b))++[.str (showP (q++[(n,b)]))]))) df (.dK (kvG++[(Sum.inr (showP (q++[(n,b)])),x)]))) b'=some (.tup xs):=fun b' xs e=>by
         rw [zA8 (zBe e gf (fun z=>nomatch z)),zA8 (zBe e gln (fun z=>nomatch z))];exact s10 _ _ e
        refine zD2 (zD7 tk gtab) ⟨rfl,?_⟩;exact ho.keep fun b' xs e=>tk _ _ (gk _ _ e (zBe e eln (fun z=>nomatch z)) (zBe e efs (fun z=>nomatch z)))
       ·rw [zA8 n2,zA8 n1];exact s10 _ _ (gk _ _ e n1 n2)
      ·rintro σ H8 ⟨x9,x10,x11,kvG,rfl,gln,gf,gtab,gk⟩;rw [xl,eE,← Ys] at gln gtab;exact ⟨_,_,_,_,kvG,rfl,gln,gf,gtab,gk⟩
     ·rintro σ H7 ⟨x8,x9,x10,x11,kvG,rfl,gln,gf,gtab,gk⟩;have al2:(ownL (above (zs.map (·.2)) ws n)).length=(above (zs.map (·.2)) ws n).length:=by unfold ownL;rw [Z0]
      rw [al2,← zFh tp ol hn,Zh] at gln;rw [al2,← tabOf_len tp ol hn,← en0,← tab_next ek] at gtab;refine ⟨_,_,_,_,_,_,_,_,al++[(n,ln)],kvG,rfl,gk _ _ edn (nln en6) ndf,?_,fun a ha=>?_,gf,gtab,fun b o e=>gk _ _ (sS _ _ e) (hfr _ _ e).1 (hfr _ _ e).2,gk _ _ elos (nln elo6) (lst_df elo6)⟩
      ·rw [Za,ea,Zd,ek];rfl
      ·rcases List.mem_append.mp ha with ha | ha
       ·exact gk _ _ (hals a ha) (nln (hal6 a ha)) (lst_df (hal6 a ha))
       ·rw [List.mem_singleton.mp ha];exact gln
  ·rintro σ H2 ⟨x4,x5,x6,x7,x8,x9,x10,x11,al,kvF,rfl,en,ea,hal,ef,htab,s2,elo⟩;rw [Z0,Zh,Zh] at htab;exact ⟨_,rfl,k df kvF H2 hdfH ef htab s2⟩
end
end L2.W
namespace L2.W
open PySem My
noncomputable def wF (a b c:V):List (Str×V):=putF "by_name" c (putF "rows" b (putF "kinds" a []))
theorem wf_rows (a b c:V):(wF a b c).lookup ("rows" : Str)=some b:=by
 unfold wF;rw [zAm,if_neg (by decide +kernel),zAm,if_pos rfl]
theorem wf_by (a b c:V):(wF a b c).lookup ("by_name" : Str)=some c:=by
 unfold wF;rw [zAm,if_pos rfl]
theorem wf_no {m:Str} (a b c:V) (h1:¬ m = "by_name") (h2:¬ m = "rows") (h3:¬ m = "kinds"):(wF a b c).lookup m=none:=by
 unfold wF;rw [zAm,if_neg h1,zAm,if_neg h2,zAm,if_neg h3];rfl
structure WCls (K:PySem.W.Frag) (mg:Str→Option Value) (CW fI fWd fWn:Addr):Prop where
 cl:Cls K CW
 nK:NoAttr K CW "kinds"
 nR:NoAttr K CW "rows"
 nB:NoAttr K CW "by_name"
 mgC:mg "Wishes" = some (.ref CW)
 mkd:Mk K CW fI
 mWd:Meth K CW "wished" fWd
 mWn:Meth K CW "names" fWn
theorem Ks.but {CK C CW:Addr}{H H':Hp}{p d pw dx:Addr}{kvs:List (Key×V)}{zs:List (Addr×Row)}{ord:List Str} (k:Ks CK C H p d kvs zs ord) (hp:H pw=some (.ins CW dx [])) (fr:∀ b o,H b=some o→b≠pw→H' b=some o):Ks CK C H' p d kvs zs ord:=by
 obtain ⟨⟨⟨dk,e⟩,rd⟩,hk,pl,op,nd,le,ok⟩:=k
 have n1:p≠pw:=zBe e hp (fun z=>by
  have h:=ks_by (.ref d);injection z with _ _ z;rw [z] at h
  cases h)
 refine ⟨⟨⟨dk,fr _ _ e n1⟩,?_⟩,fun y hy=>?_,pl,op,nd,le,ok⟩
 ·rcases rd with rd | ⟨o,rd⟩
  ·exact .inl (fr _ _ rd (zBe rd hp (fun z=>nomatch z)))
  ·exact .inr ⟨o,fr _ _ rd (zBe rd hp (fun z=>nomatch z))⟩
 ·obtain ⟨dy,l,ey,h⟩:=hk y hy;refine ⟨dy,l,fr _ _ ey (zBe ey hp (fun z=>?_)),h.frameS fun b o g hs e=>⟨g,fr _ _ e (zBe e hp (by rintro rfl;exact hs))⟩⟩;have h:=zBv (.str y.2.name) (.ref l) (ownV y.2.owner);injection z with _ _ z;rw [z] at h;cases h
theorem WOk.all {rs:List Row}{ws:List WRow} (h:∀ w∈ws,WOk rs w) (hl:ws.length≤10):WsOk ws:=by
 refine ⟨fun w hw c hc=>?_,fun w hw=>(h w hw).nd,fun w hw=>(h w hw).le,fun w hw=>(h w hw).hi,hl⟩;obtain ⟨r,_,hc2⟩:=(h w hw).row;exact ⟨(hc2 c hc).1,(hc2 c hc).2.1⟩
noncomputable def NewT (H:Hp) (a:Addr):Prop:=H a=none∨∃ xs,H a=some (.tup xs)
noncomputable def spInitW (CW CK C:Addr):Sp:=fun vs H Q _=>∃ (pw dx p d l:Addr) (kvs:List (Key×V)) (zs:List (Addr×Row)) (ord:List Str) (ws:List WRow),vs=[.ref pw,.ref p,.ref l]∧H pw=some (.ins CW dx [])∧Ks CK C H p d kvs zs ord∧Top (zs.map (·.2)) ord∧Has Any H (.ref l) (.list (ws.map wD))∧(∀ w∈ws,WOk (zs.map (·.2)) w)∧ws.length≤10∧(table (zs.map (·.2)) ws ord).length≤60 ∧
 ∀ (lr df:Addr) (kvF:List (Key×V)) (H':Hp),H' pw=some (.ins CW dx (wF (.ref p) (.ref lr) (.ref df)))→H lr=none→Has (NewT H) H' (.ref lr) (.list (ws.map wD))→H df=none→H' df=some (.dK kvF)→Paired (TabE H') kvF (table (zs.map (·.2)) ws ord)→(∀ b o,H b=some o→b≠pw→H' b=some o)→Q .non H'
noncomputable def WishAt (CW:Addr) (H:Hp) (pw p lr df:Addr):Prop:=∃ dx,H pw=some (.ins CW dx (wF (.ref p) (.ref lr) (.ref df)))
noncomputable def spWNames (CW:Addr):Sp:=fun vs H Q _=>∃ (pw p lr df:Addr) (kvF:List (Key×V)) (ks:List Str),vs=[.ref pw]∧WishAt CW H pw p lr df∧H df=some (.dK kvF)∧kvF.map (·.1)=ks.map Sum.inr∧ks.length < 64 ∧
 ∀ (l:Addr) (ks':List Str),H l=none→ks'.Perm ks→ks'.Pairwise (fun a b=>¬ ltS b a)→Q (.ref l) (upd H l (.lst (ks'.map V.str)))
section
variable {P:Program}{w:World}{K:PySem.W.Frag}{mg:Str→Option Value}{base:Heap}{CX:CXT}
theorem scIw:FnScope ["self", "kinds", "rows"] ["self", "kinds", "rows"] (defScope sInitW):=⟨rfl,rfl,rfl,by decide +kernel,rfl,by decide +kernel,by decide +kernel⟩
theorem scWn:FnScope ["self"] ["self"] (defScope sWNames):=⟨rfl,rfl,rfl,by decide +kernel,rfl,by decide +kernel,by decide +kernel⟩
theorem ok_initW {f CW fIw fWd fWn CK C fa fc fb:Addr}{fd fda fdc fdb:FuncData} (hC:Calm CX) (T:Tops K mg) (KSm:mg "Kinds" = some (.ref CK)) (KSc:Cls K CK) (KI:KIsi K CK) (WC:WCls K mg CW fIw fWd fWn) (F:Fun K "__init__" "Wishes.__init__" sInitW f fd)
  (DA:Def K mg "are_rows" sAreRows ["kinds", "things"] fa fda) (GA:FnOk P w K mg base CX 6 fa fda ["kinds", "things"] (spAreRows CK C)) (DC:Def K mg "count_wished" sCountW ["kinds", "rows"] fc fdc) (GC:FnOk P w K mg base CX 3 fc fdc ["kinds", "rows"] (spCountW CK C))
  (DB:Def K mg "wished_by_name" sWBy ["kinds", "rows"] fb fdb) (GB:FnOk P w K mg base CX 5 fb fdb ["kinds", "rows"] (spWBy CK C)):FnOk P w K mg base CX 7 f fd ["self", "kinds", "rows"] (spInitW CW CK C):=by
 refine Fun.okC F scIw (fun vs H Q E h=>?_) (fun cdv A outer s H vs Q E hr h=>?_)
 ·obtain ⟨pw,dx,p,d,l,kvs,zs,ord,ws,rfl,_⟩:=h;rfl
 ·obtain ⟨pw,dx,p,d,l,kvs,zs,ord,ws,rfl,hp,ks,tp,hd,hw,hl10,tle,k⟩:=h;have hr3:=hr.mono (show 3≤6 by decide);have hr5:=hr.mono (show 5≤6 by decide);obtain ⟨tm,hmost⟩:=T.mostW
  refine ⟨_,zA3 (zAx (zAw (zAy (zA9 zAn rfl T.isinst PyProof.Rows.boot_isinstance (zA0 (pv 1) (zA0 (zB7 (v:=.ref CK) rfl KSm rfl) zA2))))) zAo zAd)
   (zA3 (zAx (zAw (zAy (zA7 GA hr rfl DA.at_ DA.fn.kp DA.bind .nil (passC hC) (zA0 (pv 1) (zA0 (pv 2) zA2))))) zAo zAd)
   (zA3 (zAx (zAj zGd (zA7 GC hr3 rfl DC.at_ DC.fn.kp DC.bind .nil (passC hC) (zA0 (pv 1) (zA0 (pv 2) zA2))) (zB7 (v:=.int 60) rfl hmost ⟨_,rfl⟩) (nomark _)) zAo zAd)
   (zA3 (zDd (pv 0) (pv 1) rfl)
   (zA3 (zDd (pv 0) (zAr (T:=["row"]) rfl ScOk.auto (zAh (pv 2)) (fun _ _ _ _=>zAa (i:=3) (by decide +kernel:(["self", "kinds", "rows", "row"]:List Str).Nodup) rfl (Or.inl rfl)) (fun _ _ _ _=>zB2)
    (fun _ _ _ _=>zAs (zA0 (zAi (r:=rIxT K) zAq (pv 3) zA4 (fun _ _=>rfl)) (zA0 (zAi (r:=rIxT K) zAq (pv 3) zA4 (fun _ _=>rfl)) (zA0 (zB3 (r:=fun xs H Q=>∃ p ys,xs=[.ref p]∧(SqL K H p ys∨SqT K H p ys)∧∀ l,H l=none→Q (.ref l) (upd H l (.lst ys))) zBw rfl T.list PyProof.Rows.boot_list (zA0 (zAi (r:=rIxT K) zAq (pv 3) zA4 (fun _ _=>rfl)) zA2)) zA2))))) rfl)
   (zA6 (zDd (pv 0) (zA7 GB hr5 rfl DB.at_ DB.fn.kp DB.bind .nil (passC hC) (zA0 (pv 1) (zA0 (pv 2) zA2))) rfl)))))),?_⟩
  have small:∀ n:Nat,n≤1000→n≤sizeLine:=fun n h=>Zm (small1000 h);have wok:WsOk ws:=WOk.all hw hl10;obtain ⟨⟨dk,ek⟩,_⟩:=ks.ka;refine ⟨_,rfl,_,_,_,_,_,rfl,.ins ek KSc KI.ha KI.hn KI.htk KI.hm,rfl,KI.one,_,rfl,iteF ?_⟩;refine ⟨_,rfl,_,rfl,p,d,kvs,zs,ord,.ref l,_,rfl,ks,hd,fun H1 s1=>⟨_,rfl,?_⟩⟩;rw [rows_ok hw];refine iteF ⟨_,rfl,_,rfl,p,d,l,kvs,zs,ord,ws,rfl,ks.same s1,tp,hd.mono s1,(fun z=>by have:=wok.each z;omega),fun H2 s2=>⟨_,_,rfl,rfl,_,rfl,?_⟩⟩;have tl2:=tle;rw [zEh tp ks.olen] at tl2;refine ite2 (fun h=>absurd (of_decide_eq_true h) (by omega)) (fun _=>?_);have s12:=s1.trans s2;refine ⟨_,rfl,_,rfl,pw,CW,dx,[],rfl,s12 _ _ hp,WC.cl,WC.nK,(by show 0 < 1000;decide),?_⟩;have k4:∀ b o,H b=some o→b≠pw→(upd H2 pw (.ins CW dx (putF "kinds" (.ref p) []))) b=some o:=fun b o e hb=>by rw [zA8 hb];exact s12 _ _ e
  have hp4:(upd H2 pw (.ins CW dx (putF "kinds" (.ref p) []))) pw=some (.ins CW dx (putF "kinds" (.ref p) [])):=zA1;generalize upd H2 pw (.ins CW dx (putF "kinds" (.ref p) []))=H4 at k4 hp4 ⊢;have free4:∀ {H':Hp}{b:Addr},Same H4 H'→H' b=none→H b=none:=fun {H' b} s e=>by
   cases q:H b with
   | none=>rfl
   | some o =>
    by_cases hb:b=pw
    ·rw [hb,s _ _ hp4] at e;cases e
    ·rw [s _ _ (k4 b o q hb)] at e;cases e
  have seqn:∀ {b:Addr}{o:HO},H b=some o→isSeq o→b≠pw:=fun e hs=>zBe e hp (by rintro rfl;exact hs);have hd4:Has Any H4 (.ref l) (.list (ws.map wD)):=hd.frameS fun b o g hs e=>⟨g,k4 _ _ e (seqn e hs)⟩;obtain ⟨l',xs,e,_,hl,hz,hx⟩:=hd.list_inv;cases e;have hl4:=k4 _ _ hl (seqn hl trivial);have xl:xs.length=ws.length:=by rw [hx.length,Z0]
  refine ⟨_,rfl,l,rfl,⟨xs,SqL.of hl4⟩,zAl (xs:=xs) (fun i ys H'=>Same H4 H'∧HasAll (NewT H) H' ys ((ws.take i).map wD)) ⟨Same.refl _,.nil⟩ (fun i ys H' q=>SqL.of (q.1 _ _ hl4)) (fun i ys H' hi q=>?_) ?_ ?_⟩
  ·have:=q.2.length;rw [Z0] at this;have:=Zy i ws;exact small _ (by omega)
  ·rintro i x ys H' hi ⟨s5,hy⟩ N hN;obtain ⟨dd,hdd,hv⟩:=hx.get hi;rw [Z4] at hdd;cases ew:ws[i]? with
   | none=>rw [ew] at hdd;cases hdd
   | some wr =>
    rw [ew] at hdd;cases hdd;have mw:=Z3 ew;obtain ⟨t,lc,rfl,ht,hc⟩:=w_inv hv;obtain ⟨lc',zs',e,_,hlc,hlz,hcx⟩:=hc.list_inv;cases e;have ht5:=s5 _ _ (k4 _ _ ht (seqn ht trivial));have hlc5:=s5 _ _ (k4 _ _ hlc (seqn hlc trivial));obtain ⟨ts,rfl,hts⟩:=zE2 hcx;have tsl:ts.length=wr.cares.length:=by have:=hcx.length;rw [Z0,Z0] at this;exact this
    have okm:=wok.nm wr mw;refine pick ?_;refine ⟨_,rfl,t,_,_,_,rfl,rfl,SqT.of ht5,rfl,_,rfl,t,_,_,_,rfl,rfl,SqT.of ht5,rfl,_,rfl,t,_,_,_,rfl,rfl,SqT.of ht5,rfl,lc,_,rfl,.inl (SqL.of hlc5),fun l2 hl2=>⟨by show 3≤sizeLine;decide,fun t2 ht2=>hN _ _ ⟨?_,?_⟩⟩⟩
    ·exact (s5.trans (Same.new hl2)).trans (Same.new ht2)
    ·rw [Zd,ew,Za];have s6:Same H' (upd (upd H' l2 (.lst (ts.map V.ref))) t2 (.tup [.str wr.kind,.int (wr.many:Nat),.ref l2])):=(Same.new hl2).trans (Same.new ht2);have kn:=(hw wr mw).nm;refine (hy.mono s6).snoc (.tup (.inl (free4 s5 ((Same.new (o:=.lst (ts.map V.ref)) hl2).free ht2))) zA1 (by show 3≤1000;decide) (.cons (.str _ (by have:=kn.2.2;omega) kn.2.1) (.cons (.int _) (.cons (.lst (.inl (free4 s5 hl2)) ((Same.new ht2) _ _ zA1) hlz ?_) .nil))));have key:∀ (cs:List (Str×Str)) (us:List Addr),us.length=cs.length→(∀ (i:Nat) (t:Addr) (c:Str×Str),us[i]? = some t→cs[i]? = some c→H t=some (.tup [.str c.1,.str c.2]))→(∀ c∈cs,nameOk c.1∧nameOk c.2)→HasAll (NewT H) (upd (upd H' l2 (.lst (ts.map V.ref))) t2 (.tup [.str wr.kind,.int (wr.many:Nat),.ref l2])) (us.map V.ref) (cs.map careD):=by
      intro cs
      induction cs with
      | nil =>
       intro us hl _ _;cases us with
       | nil=>exact .nil
       | cons a t=>cases hl
      | cons c cs ih =>
       intro us hl h1 h2;cases us with
       | nil=>cases hl
       | cons a us =>
        have ha:=h1 0 a c rfl rfl;obtain ⟨n1,n2⟩:=h2 c Zb;refine .cons (.tup (.inr ⟨_,ha⟩) (s6 _ _ (s5 _ _ (k4 _ _ ha (seqn ha trivial)))) (by show 2≤1000;decide) (.cons (.str _ (by have:=n1.2.2;omega) n1.2.1) (.cons (.str _ (by have:=n2.2.2;omega) n2.2.1) .nil))) (ih us (by simpa using hl) (fun i t c' e1 e2=>h1 (i + 1) t c' (by simpa using e1) (by simpa using e2)) fun c' hc'=>h2 c' (Z6 _ hc'))
     exact key wr.cares ts tsl hts okm
  ·rintro ys H' ⟨s5,hy⟩ lr hlr;rw [xl,Zh] at hy;have yl:ys.length=ws.length:=by rw [hy.length,Z0]
   have s6:Same H4 (upd H' lr (.lst ys)):=s5.trans (Same.new hlr);have hlrH:H lr=none:=free4 s5 hlr;have h6:Has (NewT H) (upd H' lr (.lst ys)) (.ref lr) (.list (ws.map wD)):=.lst (.inl hlrH) zA1 (by omega) (hy.mono (Same.new hlr));generalize upd H' lr (.lst ys)=H6 at s6 h6 ⊢;have hp6:=s6 _ _ hp4;refine ⟨_,rfl,pw,CW,dx,_,rfl,hp6,WC.cl,WC.nR,(by show 1 < 1000;decide),?_⟩;have npw:∀ {b},NewT H b→b≠pw:=fun g e=>by
    rw [e] at g;rcases g with g | ⟨_,g⟩
    ·rw [hp] at g;cases g
    ·rw [hp] at g;cases g
   have k7:∀ b o,H b=some o→b≠pw→(upd H6 pw (.ins CW dx (putF "rows" (.ref lr) (putF "kinds" (.ref p) [])))) b=some o:=fun b o e hb=>by rw [zA8 hb];exact s6 _ _ (k4 _ _ e hb)
   have h7:Has (NewT H) (upd H6 pw (.ins CW dx (putF "rows" (.ref lr) (putF "kinds" (.ref p) [])))) (.ref lr) (.list (ws.map wD)):=h6.frame fun b o g e=>⟨g,by rw [zA8 (npw g)];exact e⟩;have hp7:(upd H6 pw (.ins CW dx (putF "rows" (.ref lr) (putF "kinds" (.ref p) [])))) pw=some (.ins CW dx (putF "rows" (.ref lr) (putF "kinds" (.ref p) []))):=zA1;generalize upd H6 pw (.ins CW dx (putF "rows" (.ref lr) (putF "kinds" (.ref p) [])))=H7 at k7 h7 hp7 ⊢;have hd7:Has Any H7 (.ref l) (.list (ws.map wD)):=hd.frameS fun b o g hs e=>⟨g,k7 _ _ e (seqn e hs)⟩;refine ⟨_,rfl,_,rfl,p,d,l,kvs,zs,ord,ws,rfl,ks.but hp k7,tp,hd7,wok,tle,fun df kvF H9 hdf edf htab s9=>?_⟩;have hp9:=s9 _ _ hp7;refine ⟨_,rfl,pw,CW,dx,_,rfl,hp9,WC.cl,WC.nB,(by have:=zC8 "rows" (V.ref lr) (putF "kinds" (V.ref p) []);have:(putF "kinds" (V.ref p) []).length=1:=rfl;omega),?_⟩;refine k lr df kvF _ zA1 hlrH ((h7.mono s9).frame fun b o g e=>⟨g,by rw [zA8 (npw g)];exact e⟩) ?_ ?_ (zD7 (fun b xs e=>?_) htab) fun b o e hb=>?_
   ·cases q:H df with
    | none=>rfl
    | some o =>
     by_cases hb:df=pw
     ·rw [hb,hp7] at hdf;cases hdf
     ·rw [k7 _ _ q hb] at hdf;cases hdf
   ·rw [zA8 (zBe edf hp9 (fun z=>nomatch z))];exact edf
   ·rw [zA8 (zBe e hp9 (fun z=>nomatch z))];exact e
   ·rw [zA8 hb];exact s9 _ _ (k7 _ _ e hb)
theorem ok_wNames {f CW fIw fWd fWn:Addr}{fd:FuncData} (T:Tops K mg) (WC:WCls K mg CW fIw fWd fWn) (F:Fun K "names" "Wishes.names" sWNames f fd):FnOk P w K mg base CX 1 f fd ["self"] (spWNames CW):=by
 refine Fun.okC F scWn (fun vs H Q E h=>?_) (fun cdv A outer s H vs Q E hr h=>?_)
 ·obtain ⟨pw,p,lr,df,kvF,ks,rfl,_⟩:=h;rfl
 ·obtain ⟨pw,p,lr,df,kvF,ks,rfl,⟨dx,hp⟩,hdf,ek,h64,k⟩:=h;refine ⟨_,zA6 (zAc (zA9 zEb rfl T.sorted PyProof.Rows.boot_sorted (zA0 (zBg (pv 0) rfl) zA2))),?_⟩;exact ⟨_,rfl,pw,CW,dx,_,_,rfl,hp,WC.cl,WC.nB,wf_by _ _ _,df,kvF,ks,rfl,.inl hdf,ek,h64,rfl,fun l ks' h1 h2 h3=>k l ks' h1 h2 h3⟩
end
end L2.W
namespace L2.W
open PySem My
theorem zDa {rs:List Row} (nd:(rs.map (·.name)).Nodup) {k:Str}{r:Row}:rowAt rs (.str k)=some r ↔ r∈rs∧r.name=k:=by
 refine ⟨fun h=>⟨(zDp h).2,(zDp h).1⟩,fun h=>?_⟩;obtain ⟨hr,e⟩:=id h;clear h;show rs.find? (fun r=>decide (r.name=k))=_
 induction rs with
 | nil=>cases hr
 | cons a t ih =>
  rw [Z8,Yv] at nd;rw [Yg];by_cases c:a.name=k
  ·rw [decide_eq_true c];rcases List.mem_cons.mp hr with h | h
   ·rw [h]
   ·exact absurd (List.mem_map.mpr ⟨r,h,e.trans c.symm⟩) nd.1
  ·rw [decide_eq_false c];rcases List.mem_cons.mp hr with h | h
   ·exact absurd (by rw [← h];exact e) c
   ·exact ih nd.2 h
theorem zCp {rs rs':List Row} (p:rs.Perm rs') (nd:(rs.map (·.name)).Nodup) (k:Str):rowAt rs (.str k)=rowAt rs' (.str k):=by
 have nd':(rs'.map (·.name)).Nodup:=(p.map _).nodup_iff.mp nd;refine Option.ext fun r=>?_;rw [zDa nd,zDa nd',p.mem_iff]
theorem zBt {rs rs':List Row} (p:rs.Perm rs') (nd:(rs.map (·.name)).Nodup) (k:Str):ownerAt rs k=ownerAt rs' k:=by
 unfold ownerAt;rw [zCp p nd]
theorem cntF_perm {rs rs':List Row} (p:rs.Perm rs') (nd:(rs.map (·.name)).Nodup) (ws:List WRow):∀ (n:Nat) (k:Str),cntF rs ws n k=cntF rs' ws n k
 | 0,_=>rfl
 | n + 1,k=>by
  unfold cntF;rw [zBt p nd];cases ownerAt rs' k with
  | none=>rfl
  | some o=>show cntF rs ws n o * _=cntF rs' ws n o * _;rw [cntF_perm p nd ws n o]
theorem zEv {rs rs':List Row} (p:rs.Perm rs') (nd:(rs.map (·.name)).Nodup) (ws:List WRow):∀ (n:Nat) (k:Str),pathsF rs ws n k=pathsF rs' ws n k
 | 0,_=>rfl
 | n + 1,k=>by
  unfold pathsF;rw [zBt p nd];cases ownerAt rs' k with
  | none=>rfl
  | some o=>show (pathsF rs ws n o).flatMap _=(pathsF rs' ws n o).flatMap _;rw [zEv p nd ws n o]
theorem tabOf_perm {rs rs':List Row} (p:rs.Perm rs') (nd:(rs.map (·.name)).Nodup) (ws:List WRow) (k:Str):tabOf rs ws k=tabOf rs' ws k:=by
 have ha:above rs ws k=above rs' ws k:=by
  unfold above;rw [zBt p nd];cases ownerAt rs' k with
  | none=>rfl
  | some o=>exact zEv p nd ws 6 o
 unfold tabOf;rw [zCp p nd,ha]
theorem table_rows {rs rs':List Row} (p:rs.Perm rs') (nd:(rs.map (·.name)).Nodup) (ws:List WRow) (ord:List Str):table rs ws ord=table rs' ws ord:=by
 unfold table
 congr 1
 funext k;exact tabOf_perm p nd ws k
theorem RowsOk.row {rs:List Row} (ok:RowsOk rs) {r:Row} (h:r∈rs):rowAt rs (.str r.name)=some r∧ownerAt rs r.name=r.owner:=by
 have e:=(zDa ok.nd).mpr ⟨h,rfl⟩;refine ⟨e,?_⟩;unfold ownerAt;rw [e];rfl
theorem RowsOk.top {rs:List Row} (ok:RowsOk rs):Top rs (rs.map (·.name)):=by
 intro i k h;rw [Z4] at h;obtain ⟨r,er,rfl⟩:=Option.map_eq_some_iff.mp h;obtain ⟨h1,h2⟩:=ok.row (Z3 er);refine ⟨⟨r,h1⟩,fun o eo=>?_⟩;rw [h2] at eo;obtain ⟨j,r',hj,ej,e⟩:=ok.own i r o er eo;exact ⟨j,hj,by rw [Z4,ej,← e];rfl⟩
theorem zFr {rs':List Row}{ord:List Str} (nd:(rs'.map (·.name)).Nodup) (g:Greedy (·∈rs') ord):Top rs' ord:=by
 intro i k h;obtain ⟨⟨r,hr,e,hrd⟩,_⟩:=g i k h;have er:=(zDa nd).mpr ⟨hr,e⟩;refine ⟨⟨r,er⟩,fun o eo=>?_⟩;unfold ownerAt at eo;rw [er] at eo;have ho:=hrd.2 o eo;obtain ⟨j,hj,e2⟩:=Zu ho;rw [Zr] at hj;exact ⟨j,by omega,by rw [← e2,Yz];exact Z1 (by omega)⟩
theorem pe_odispP {X:Cx}{P:Program}{w:World}{k v:Expr}{tk tv:TE}{pos:Pos} (hP:X.prog=P) (hw:X.w=w) (hk:PE X k tk) (hv:PE X v tv):PE X (.Dict [some k] [v] pos) (tODisp P w tk tv):=by subst hP hw;exact zG4 hk hv
theorem pe_ogetP {X:Cx}{P:Program}{w:World}{o i:Expr}{td ty:TE}{pos:Pos} (hP:X.prog=P) (hw:X.w=w) (ho:PE X o td) (hi:PE X i ty) (hs:NoSl i):PE X (.Subscript o i pos) (tOGet P w td ty):=by subst hP hw;exact pe_oget ho hi hs
theorem ps_oputP {X:Cx}{P:Program}{w:World}{o i value:Expr}{td ty tv:TE}{pos pos':Pos} (hP:X.prog=P) (hw:X.w=w) (ho:PE X o td) (hi:PE X i ty) (hv:PE X value tv) (hs:swapsWith value (some (.Subscript o i pos')) pos.line X.env=pure false) :
  PS X (.Assign [.Subscript o i pos'] value pos) (sOPut P w td ty tv):=by subst hP hw;exact ps_oput ho hi hv hs
theorem pe_ovaluesP {X:Cx}{P:Program}{w:World}{o:Expr}{td:TE}{apos cpos:Pos} (hP:X.prog=P) (hw:X.w=w) (ho:PE X o td) (hbase:attributeBase o "values" X.env (eval o X.env)=eval o X.env:=by rfl) (hline:(apos.endLine == cpos.line)=true:=by rfl) :
  PE X (.Call (.Attribute o "values" apos) [] [] cpos) (tOValues P w td):=by subst hP hw;exact zDt ho hbase hline
noncomputable def cOKV (rs:List Row) (ws:List WRow) (l:List Row):List (OKey×V):=(none,.int 1) :: l.map fun r=>(some r.name,V.int ((cnt rs ws r.name:Nat):Int))
theorem oKV_val {f:Row→V}:∀ {l:List Row}{r:Row},r∈l→(l.map (·.name)).Nodup→valV (l.map fun r=>((some r.name:OKey),f r)) (some r.name)=some (f r)
 | [],_,h,_=>by cases h
 | a :: t,r,h,nd=>by
  rw [Z8,Yv] at nd;rw [Z8];rcases List.mem_cons.mp h with e | h
  ·rw [← e,zBb rfl]
  ·rw [zB0 (by intro z;exact nd.1 (by rw [Zk z];exact List.mem_map_of_mem h)),oKV_val h nd.2]
theorem oKV_no {f:Row→V}:∀ {l:List Row}{k:Str},k∉l.map (·.name)→valV (l.map fun r=>((some r.name:OKey),f r)) (some k)=none
 | [],_,_=>rfl
 | a :: t,k,h=>by
  rw [Z8,zB0 (by intro z;exact h (by rw [Z8,Zk z];exact Zb))];exact oKV_no fun z=>h (by rw [Z8];exact Z6 _ z)
theorem putK_noO {kvs:List (OKey×V)}{k:OKey}{v:V} (h:valV kvs k=none):putK kvs k v=kvs++[(k,v)]:=L2.zEd v h
theorem take_not_in {rs:List Row} (nd:(rs.map (·.name)).Nodup) {i:Nat}{r:Row} (er:rs[i]? = some r):r.name∉(rs.take i).map (·.name):=fun h=>by
 rw [Xf] at h;obtain ⟨j,hj,e⟩:=Zu h;have il:i < rs.length:=(List.getElem?_eq_some_iff.mp er).1;rw [Zr,Z0] at hj;have e1:(rs.map (·.name))[j]? = some r.name:=by rw [Yz] at e;rw [← e];exact Z1 (by rw [Z0];omega)
 have e2:(rs.map (·.name))[i]? = some r.name:=by rw [Z4,er];rfl
 have:=(Yf (by rw [Z0];omega) nd).mp (e1.trans e2.symm);omega
noncomputable def spMany:Sp:=fun vs H Q _=>∃ (l lw:Addr) (rs:List Row) (ws:List WRow),vs=[.ref l,.ref lw]∧Has Any H (.ref l) (.list (rs.map rowD))∧RowsOk rs∧Has Any H (.ref lw) (.list (ws.map wD))∧(∀ k,each ws k≤100000) ∧
 ∀ H',Same H H'→Q (.int (((rs.map fun r=>cnt rs ws r.name).sum:Nat):Int)) H'
section
variable {P:Program}{w:World}{K:PySem.W.Frag}{mg:Str→Option Value}{base:Heap}{CX:CXT}
theorem scMy:FnScope ["_law_specs_here", "_law_rows_here", "_law_counts", "_law_kind", "_law_fields_here", "_law_owner"] ["_law_specs_here", "_law_rows_here"] (defScope sMany):=⟨rfl,rfl,rfl,by decide +kernel,rfl,by decide +kernel,by decide +kernel⟩
theorem ok_many {f:Addr}{fd:FuncData} (T:Tops K mg) (F:Fun K "_law_many" "_law_many" sMany f fd):FnOk P w K mg base CX 1 f fd ["_law_specs_here", "_law_rows_here"] spMany:=by
 refine Fun.okC F scMy (fun vs H Q E h=>?_) (fun cdv A outer s H vs Q E hr h=>?_)
 ·obtain ⟨l,lw,rs,ws,rfl,_⟩:=h;rfl
 ·obtain ⟨l,lw,rs,ws,rfl,hl,ok,hd,hw,q⟩:=h;have nd:=scMy.nd
  refine ⟨_,zA3 (zAb (i:=2) nd rfl (Or.inl rfl) (pe_odispP (P:=P) (w:=w) rfl rfl zBk zA4))
   (zA3 (zBj PassesOwn.never rfl (zAh (pv 0)) (zCb rfl (zAf (zAa (i:=3) nd rfl (Or.inr rfl)) (zAf (zAa (i:=4) nd rfl (Or.inl rfl)) (zAf (zAa (i:=5) nd rfl (Or.inl rfl)) zBc))))
    (zA6 (ps_oputP (P:=P) (w:=w) rfl rfl (pv 2) (pv 3) (zAp zCw (pe_ogetP (P:=P) (w:=w) rfl rfl (pv 2) (pv 5) (fun _ _=>rfl)) (zA9 (zDl (K:=K) rfl) rfl T.sum PyProof.Rows.boot_sum (zA0 (zAr (T:=["_law_row"]) rfl ScOk.auto (zAh (pv 1)) (fun _ _ _ _=>zAa (i:=6) (by decide +kernel:(["_law_specs_here", "_law_rows_here", "_law_counts", "_law_kind", "_law_fields_here", "_law_owner", "_law_row"]:List Str).Nodup) rfl (Or.inl rfl))
     (fun _ _ _ _=>zEp (zAj zDw (zAi (r:=rIxT K) zAq (pv 6) zA4 (fun _ _=>rfl)) (pv 3) (nomark _))) (fun _ _ _ _=>zAi (r:=rIxT K) zAq (pv 6) zA4 (fun _ _=>rfl))) zA2))) rfl)))
   (zA6 (zAc (zAp op_sub (zA9 (zFb (P:=P) (w:=w) rfl rfl) rfl T.sum PyProof.Rows.boot_sum (zA0 (pe_ovaluesP (P:=P) (w:=w) rfl rfl (pv 2)) zA2)) zA4)))),?_⟩
  obtain ⟨l',xs,e,_,hl1,hz,hx⟩:=hl.list_inv;cases e;have xl:xs.length=rs.length:=by rw [hx.length,Z0]
  have r5:=ok.le;refine fun dn fdn=>⟨zA1,none,rfl,?_⟩;rw [upd_upd];have s0:Same H (upd H dn (DO P w dn [(none,.int 1)])):=Same.new fdn;have e0:(upd H dn (DO P w dn [(none,.int 1)])) dn=some (DO P w dn [(none,.int 1)]):=zA1;generalize upd H dn (DO P w dn [(none,.int 1)])=H0 at s0 e0 ⊢
  refine ⟨_,rfl,l,rfl,⟨_,SqL.of (s0 _ _ hl1)⟩,zBf (K:=K) (a:=l) (xs:=xs) (fun i σ H2=>∃ x3 x4 x5:Option V,σ = [some (.ref l),some (.ref lw),some (.ref dn),x3,x4,x5]∧H2 dn=some (DO P w dn (cOKV rs ws (rs.take i)))∧Same H H2)
   ⟨none,none,none,rfl,e0,s0⟩ (fun i σ H2 _ hz=>by obtain ⟨_,_,_,_,_,s2⟩:=hz;exact SqL.of (s2 _ _ hl1)) ?_ ?_⟩
  ·rintro i x σ H2 hi ⟨x3,x4,x5,rfl,ed,s2⟩;obtain ⟨dd,hdd,hv⟩:=hx.get hi;rw [Z4] at hdd;obtain ⟨r,er,rfl⟩:=Option.map_eq_some_iff.mp hdd;have il:i < rs.length:=(List.getElem?_eq_some_iff.mp er).1;have mr:=Z3 er;obtain ⟨t,lf,rfl,ht,hf⟩:=zEj hv;refine ⟨t,_,rfl,SqT.of (s2 _ _ ht),rfl,_,_,rfl,_,_,rfl,_,_,rfl,rfl,?_⟩;have ntk:r.name∉(rs.take i).map (·.name):=take_not_in ok.nd er;obtain ⟨m,em,emv⟩:∃ m:Nat,valV (cOKV rs ws (rs.take i)) r.owner=some (.int (m:Nat))∧m * each ws r.name=cnt rs ws r.name:=by
    have ceq:=cnt_eq (ws:=ws) ok.top (by rw [Z0];exact r5) (List.mem_map_of_mem (f:=fun r:Row=>r.name) mr);rw [(ok.row mr).2] at ceq;cases eo:r.owner with
    | none=>exact ⟨1,zBb rfl,by rw [eo] at ceq;exact ceq.symm⟩
    | some o =>
     obtain ⟨j,r',hj,ej,rfl⟩:=ok.own i r o er eo;refine ⟨cnt rs ws r'.name,?_,by rw [eo] at ceq;exact ceq.symm⟩;unfold cOKV;rw [zB0 (by intro z;cases z)];refine oKV_val (f:=fun r=>V.int ((cnt rs ws r.name:Nat):Int)) (Z3 (i:=j) (by rw [Yd hj];exact ej)) ?_;rw [Xf];exact ok.nd.sublist (List.take_sublist _ _)
   have own_oV:ownV r.owner=oV r.owner:=by cases r.owner <;> rfl
   obtain ⟨lw',ys,e,_,hlw,hlz,hy⟩:=hd.list_inv;cases e;have yl:ys.length=ws.length:=by rw [hy.length,Z0]
   refine ⟨_,rfl,_,rfl,dn,_,r.owner,_,rfl,ed,own_oV,em,?_⟩;refine ⟨_,rfl,lw,rfl,⟨_,SqL.of (s2 _ _ hlw)⟩,zAl (xs:=ys) (fun i ys H'=>H2=H'∧ys=(((ws.take i).filter fun w=>decide (w.kind=r.name)).map fun w=>((w.many:Nat):Int)).map V.int) ⟨rfl,rfl⟩ (fun i ys H' p=>by rw [← p.1];exact SqL.of (s2 _ _ hlw)) (fun j ys H' hi p=>?_) ?_ ?_⟩
   ·rw [p.2,Z0,Z0];have h1:=Yw (fun w:WRow=>decide (w.kind=r.name)) (ws.take j);have h2:(ws.take j).length≤ws.length:=by rw [Zr];omega
    have:=small1000 hlz;omega
   ·rintro j x ys' H' hj ⟨rfl,rfl⟩ N hN;obtain ⟨dd,hdd,hv⟩:=hy.get hj;rw [Z4] at hdd;obtain ⟨wr,ew,rfl⟩:=Option.map_eq_some_iff.mp hdd;obtain ⟨t',lc,rfl,ht',_⟩:=w_inv hv;have ht2:=s2 _ _ ht';refine ⟨_,rfl,t',_,0,_,rfl,rfl,SqT.of ht2,rfl,_,rfl,rfl,_,rfl,?_⟩;show if decide (V.str wr.kind=V.str r.name)=true then _ else _
    have fs:(ws.take (j + 1)).filter (fun w=>decide (w.kind=r.name))=if decide (wr.kind=r.name)=true then (ws.take j).filter (fun w=>decide (w.kind=r.name))++[wr] else (ws.take j).filter (fun w=>decide (w.kind=r.name)):=by
     rw [Zd,ew,Yu];cases e:decide (wr.kind=r.name) <;> simp [e]
    by_cases c:wr.kind=r.name
    ·rw [decide_eq_true (show V.str wr.kind=V.str r.name by rw [c])];refine iteT ⟨_,rfl,t',_,1,_,rfl,rfl,SqT.of ht2,rfl,hN _ _ ⟨rfl,?_⟩⟩;rw [fs,if_pos (decide_eq_true c),Za,Za];rfl
    ·rw [decide_eq_false (show ¬ V.str wr.kind=V.str r.name by intro z;injection z with z;exact c z)];refine iteF (hN _ _ ⟨rfl,?_⟩);rw [fs,if_neg (by simp [c])]
   ·rintro ys' H' ⟨rfl,rfl⟩ c hc;rw [yl,Zh];have s3:Same H2 (upd H2 c (.lst (((ws.filter fun w=>decide (w.kind=r.name)).map fun w=>((w.many:Nat):Int)).map V.int))):=Same.new hc;have e3:(upd H2 c (.lst (((ws.filter fun w=>decide (w.kind=r.name)).map fun w=>((w.many:Nat):Int)).map V.int))) c=some (.lst (((ws.filter fun w=>decide (w.kind=r.name)).map fun w=>((w.many:Nat):Int)).map V.int)):=zA1;generalize upd H2 c (.lst (((ws.filter fun w=>decide (w.kind=r.name)).map fun w=>((w.many:Nat):Int)).map V.int))=H3 at s3 e3 ⊢;have es:((ws.filter fun w=>decide (w.kind=r.name)).map fun w=>((w.many:Nat):Int)).sum=((each ws r.name:Nat):Int):=by
     unfold each;rw [← zD8,Zn];rfl
    have ew:=hw r.name;have ed3:=s3 _ _ ed;have lt:(cOKV rs ws (rs.take i)).length < sizeLine:=by
     unfold cOKV;rw [Zj,Z0,Zr];exact small1000 (by omega)
    refine ⟨c,_,rfl,SqL.of e3,rfl,_,_,rfl,rfl,?_,?_⟩
    ·rw [es];exact .inr ⟨by omega,by omega⟩
    ·rw [es];refine ⟨_,rfl,_,rfl,dn,_,some r.name,rfl,ed3,rfl,lt,?_⟩;refine ⟨_,_,_,rfl,?_,fun b o e=>?_⟩
     ·rw [zA1];show some (DO P w dn (putK (cOKV rs ws (rs.take i)) (some r.name) (V.int ((m:Int) * ((each ws r.name:Nat):Int)))))=_;have h1:(m:Int) * ((each ws r.name:Nat):Int)=((cnt rs ws r.name:Nat):Int):=by rw [← emv];push_cast;rfl
      rw [h1]
      congr 2
      unfold cOKV;rw [putK_noO]
      ·rw [Zd,er,Za];rfl
      ·rw [zB0 (by intro z;cases z)];exact oKV_no ntk
     ·rw [zA8 (zA5 e fdn)];exact s3 _ _ (s2 _ _ e)
  ·rintro σ H2 ⟨x3,x4,x5,rfl,ed,s2⟩;rw [xl,Zh] at ed;refine ⟨_,rfl,dn,_,rfl,ed,fun v hv=>⟨v,dn,none :: rs.map (fun r=>some r.name),1 :: rs.map (fun r=>((cnt rs ws r.name:Nat):Int)),rfl,zA1,?_,by simp,rfl,_,_,rfl,rfl,?_⟩⟩
   ·rw [zA8 (zA5 ed hv),ed];unfold cOKV;rw [Z8,List.zip_cons_cons,Zn,zFv];rfl
   ·have:(1 :: rs.map (fun r=>((cnt rs ws r.name:Nat):Int))).sum - 1=(((rs.map fun r=>cnt rs ws r.name).sum:Nat):Int):=by
     rw [Yh,← zD8,Zn];show 1 + _ - 1=_;have:∀ z:Int,1 + z - 1=z:=by omega
     rw [this];rfl
    show Q (V.int ((1 :: rs.map (fun r=>((cnt rs ws r.name:Nat):Int))).sum - 1)) _;rw [this];exact q _ (s2.trans (Same.new hv))
end
end L2.W
namespace L2.W
open PySem My
theorem ne_same {G G':Addr→Prop}{H:Hp}{x y:V}{Q:VK}{d:PyData} (hx:Has G H x d) (hy:Has G' H y d) (hd:d.depth≤64) (q:Q (.bl false) H):rNeD x y H Q:=⟨d,d,hx.any,hy.any,hd,hd,by rw [hx.eqv];exact q⟩
theorem eq_same {G G':Addr→Prop}{H:Hp}{x y:V}{Q:VK}{d:PyData} (hx:Has G H x d) (hy:Has G' H y d) (hd:d.depth≤64) (q:Q (.bl true) H):rEqD x y H Q:=⟨d,d,hx.any,hy.any,hd,hd,by rw [hx.eqv];exact q⟩
theorem has_grown {G:Addr→Prop}{H H':Hp}{v:V}{d:PyData}{Pt:Addr}{pos:Pos}{q:Str} (h:Has G H v d) (T:TabOk H Pt pos q) (g:GrownBut Pt H H'):Has G H' v d :=
 h.frameS fun a o ga hs e=>⟨ga,g a o e (T.ne e (by rintro ps rfl;exact hs))⟩
theorem cut_ints (ns:List Int) (lo hi:Option Int):∃ ms:List Int,cutV (ns.map V.int) lo hi=ms.map V.int∧ms.length≤ns.length:=by
 unfold cutV;rw [← List.map_drop,← Xf];exact ⟨_,rfl,by rw [Zr,Yo];omega⟩
theorem zE0:∀ ks:List Str,PyData.depthAll (ks.map PyData.str)≤1
 | []=>by decide
 | k :: r=>by
  have:=zE0 r;show max (PyData.depth (.str k)) (PyData.depthAll (r.map PyData.str))≤1;have h1:PyData.depth (.str k)≤1:=by first | decide | (show 0≤1;decide) | (show 1≤1;decide) | simp [PyData.depth]
  omega
theorem depth_list (ks:List Str):PyData.depth (.list (ks.map PyData.str))≤64:=by
 have:=zE0 ks;show PyData.depthAll (ks.map PyData.str) + 1≤64;omega
theorem zE8:∀ fs:List (Str×List Str),PyData.depthAll (fs.map fieldD)≤4
 | []=>by decide
 | f :: r=>by
  have h2:=zE8 r;have h1:=zE0 f.2;show max (PyData.depth (fieldD f)) (PyData.depthAll (r.map fieldD))≤4;have h3:PyData.depth (fieldD f)≤4:=by
   show max (PyData.depth (.str f.1)) (max (PyData.depthAll (f.2.map PyData.str) + 1) (PyData.depthAll [])) + 1≤4;have h4:PyData.depth (.str f.1)≤1:=by simp [PyData.depth]
   have h5:PyData.depthAll []≤1:=by decide
   omega
  omega
theorem depth_flist (fs:List (Str×List Str)):PyData.depth (.list (fs.map fieldD))≤64:=by
 have:=zE8 fs;show PyData.depthAll (fs.map fieldD) + 1≤64;omega
theorem ord_perm {rt:List Row}{ord:List Str} (g:Greedy (·∈rt) ord) (h:ord.length=rt.length) (nd:(rt.map (·.name)).Nodup):ord.Perm (rt.map (·.name)):=by
 refine (List.perm_ext_iff_of_nodup g.nodup nd).mpr fun n=>⟨fun hn=>?_,fun hn=>?_⟩
 ·obtain ⟨r,m,e⟩:=g.mem hn;exact List.mem_map.mpr ⟨r,m,e⟩
 ·refine Classical.byContradiction fun hno=>?_;have:=zFw (a:=n :: ord) (b:=rt.map (·.name)) (List.nodup_cons.mpr ⟨hno,g.nodup⟩) fun x hx=>by
   rcases List.mem_cons.mp hx with e | hx
   ·rw [e];exact hn
   ·obtain ⟨r',m',e⟩:=g.mem hx;exact List.mem_map.mpr ⟨r',m',e⟩
  rw [Zj,Z0] at this;omega
theorem strOk_iff (z:Str):PyData.strOk z=true ↔ ∀ c∈z.cps.toList,c < 0x110000:=by
 unfold PyData.strOk;rw [← Array.all_toList,Yc];exact ⟨fun h c hc=>of_decide_eq_true (h c hc),fun h c hc=>decide_eq_true (h c hc)⟩
theorem row0 {H:Hp}{l t:Addr}{n:Str}{o:Option Str} (hl:H l=none) (ht:(upd H l (.lst [])) t=none) (hn:nameOk n) (ho:∀ x,o=some x→nameOk x) :
  Same H (upd (upd H l (.lst [])) t (.tup [.str n,.ref l,ownV o]))∧Has Any (upd (upd H l (.lst [])) t (.tup [.str n,.ref l,ownV o])) (.ref t) (rowD ⟨n,[],o⟩):=by
 refine ⟨(Same.new hl).trans (Same.new ht),.tup trivial zA1 (by show 3≤1000;decide) (.cons (.str n (Zl hn.2.2 (by decide)) hn.2.1) (.cons (.lst trivial ((Same.new ht) _ _ zA1) (by show 0≤1000;decide) .nil) (.cons (zGc ho) .nil)))⟩
theorem k_gen {R F:Hp→Prop}{B:Prop} (t:∀ Hx,F Hx→R Hx) (h:(∀ Hx,F Hx→R Hx)→B):B:=h t
theorem WOk.perm {rs rs':List Row} (p:rs.Perm rs') (nd:(rs.map (·.name)).Nodup) {w:WRow} (h:WOk rs w):WOk rs' w:=by
 obtain ⟨⟨r,e,hc⟩,a,b,c,d,f⟩:=h;exact ⟨⟨r,by rw [← zCp p nd];exact e,hc⟩,a,b,c,d,f⟩
theorem table_keys {H:Hp}{kv:List (Key×V)}{tb:List (List (Str×Nat)×List (Option Str))} (h:Paired (TabE H) kv tb):kv.map (·.1)=(tb.map fun x=>showP x.1).map Sum.inr:=by
 induction h with
 | nil=>rfl
 | @cons a b _ _ r _ ih=>rw [Z8,ih,Z8,Z8,r.1]
theorem zF6:∀ cs:List (Str×Str),PyData.depthAll (cs.map careD)≤2
 | []=>by decide
 | c :: t=>by
  have ih:=zF6 t;rw [Z8];show max _ _≤2;have:PyData.depth (careD c)≤2:=by show max 0 (max 0 0) + 1≤2;decide
  omega
theorem depth_ws:∀ ws:List WRow,PyData.depthAll (ws.map wD)≤5
 | []=>by decide
 | w :: t=>by
  have ih:=depth_ws t;have h2:=zF6 w.cares;rw [Z8];show max (PyData.depthAll [.str w.kind,.int _,.list (w.cares.map careD)] + 1) _≤5;have:PyData.depthAll [.str w.kind,.int (w.many:Nat),.list (w.cares.map careD)]≤4:=by
   show max _ (max _ (max (PyData.depthAll (w.cares.map careD) + 1) _))≤4;have a1:PyData.depth (.str w.kind)≤1:=Zo 1;have a2:PyData.depth (.int (w.many:Nat))≤1:=Zo 1;have a3:PyData.depthAll []≤1:=by decide
   omega
  omega
theorem depth_wlist (ws:List WRow):PyData.depth (.list (ws.map wD))≤64:=by
 have:=depth_ws ws;show PyData.depthAll (ws.map wD) + 1≤64;omega
theorem nma:nameOk "a":=by refine ⟨?_,?_,?_⟩ <;> decide +kernel
end L2.W
namespace L2.W
open PySem My
structure XTop (K:PySem.W.Frag) (mg:Str→Option Value) (x:Str) (CN:Addr):Prop where
 at_:mg x=some (.ref CN)
 cl:PySem.W.excIn K CN [.type "ValueError",.type "Exception",.type "BaseException",.type "object"] "ValueError.__new__" = true
noncomputable def NoRows (rs:List Row) (H:Hp) (v:V):Prop:=(∃ dd,Has Any H v dd∧rowsB rs dd=false)∨∃ (a:Addr) (kvs:List (Key×V)),v=.ref a∧H a=some (.dK kvs)
theorem NoRows.same {rs:List Row}{H H':Hp}{v:V} (h:NoRows rs H v) (s:Same H H'):NoRows rs H' v:=by
 rcases h with ⟨dd,h1,h2⟩ | ⟨a,kvs,h1,h2⟩
 ·exact .inl ⟨dd,h1.mono s,h2⟩
 ·exact .inr ⟨a,kvs,h1,s _ _ h2⟩
noncomputable def spAreN:Sp:=fun vs H Q _=>∃ (p a:Addr) (kvs:List (Key×V)),vs=[.ref p,.ref a]∧H a=some (.dK kvs)∧Q (.bl false) H
noncomputable def spBadW (CW CK C C2:Addr):Sp:=fun vs H _ E=>∃ (pw dx p d:Addr) (v:V) (kvs:List (Key×V)) (zs:List (Addr×Row)) (ord:List Str),vs=[.ref pw,.ref p,v]∧H pw=some (.ins CW dx [])∧Ks CK C H p d kvs zs ord∧NoRows (zs.map (·.2)) H v ∧
 ∀ (e:Addr) (H':Hp),H e=none→H' e=some (XO C2 e)→Same H H'→E (.ref C2) (some e) H'
structure RefsQ (K:PySem.W.Frag) (mg:Str→Option Value) (C1 C2 C3 CN CR:Addr):Prop where
 t2:XTop K mg "NoWish" C2
 x2:XCls K C2
 rest:mg "RestError" = some (.ref CR)
 n0:mg "NoKind" = some (.ref CN)
 n1:mg "NoName" = some (.ref C1)
 n3:mg "TooMany" = some (.ref C3)
 ve:mg "ValueError" = none
 exm2:PySem.W.exmOne K (.ref C2) (.ref CR)=some true
 k22:PySem.W.kitOne K (.ref C2) (.ref C2)=some true
 v2:PySem.W.kitOne K (.ref C2) (.type "ValueError")=some true
 oth:PySem.W.kitAny K (.ref C2) [.ref CN,.ref C1,.ref C3]=some false
noncomputable def spRefd (CK C:Addr):Sp:=fun vs H Q _=>∃ (p d:Addr) (v:V) (kvs:List (Key×V)) (zs:List (Addr×Row)) (ord:List Str),vs=[.ref p,v]∧Ks CK C H p d kvs zs ord∧NoRows (zs.map (·.2)) H v∧∀ H',Same H H'→Q (.bl true) H'
section
variable {P:Program}{w:World}{K:PySem.W.Frag}{mg:Str→Option Value}{base:Heap}
theorem ok_areRowsN {f fr C CK:Addr}{fd fdr:FuncData}{CX:CXT} (hC:Calm CX) (T:Tops K mg) (F:Fun K "are_rows" "are_rows" sAreRows f fd) (DR:Def K mg "is_row" sIsRow ["kinds", "thing"] fr fdr) (GR:FnOk P w K mg base CX 5 fr fdr ["kinds", "thing"] (spIsRow CK C)) :
  FnOk P w K mg base CX 6 f fd ["kinds", "things"] spAreN:=by
 refine Fun.okC F scAr (fun vs H Q E h=>?_) (fun cdv A outer s H vs Q E hr h=>?_)
 ·obtain ⟨p,a,kvs,rfl,_⟩:=h;rfl
 ·obtain ⟨p,a,kvs,rfl,e,k⟩:=h
  refine ⟨_,zA6 (zAc (zBs (zA9 zAn rfl T.isinst PyProof.Rows.boot_isinstance (zA0 (pv 1) (zA0 (zB9 (v:=.ty "list") rfl T.list PyProof.Rows.boot_list rfl) zA2)))
   (zCe (zA9 (zBi rfl) rfl T.all PyProof.Rows.boot_all (zA0 (zAr (T:=["thing"]) rfl ScOk.auto (zAh (pv 1)) (fun _ _ _ _=>zAa (i:=2) (by decide +kernel:(["kinds", "things", "thing"]:List Str).Nodup) rfl (Or.inl rfl)) (fun _ _ _ _=>zB2)
    (fun _ _ _ _=>zA7 GR hr rfl DR.at_ DR.fn.kp DR.bind .nil (passC hC) (zA0 (pv 0) (zA0 (pv 2) zA2)))) zA2))))),?_⟩
  exact ⟨_,rfl,_,_,_,_,_,rfl,.dK e,rfl,rfl,_,rfl,iteF k⟩
theorem ok_badW {f CW CK C C1 C2 C3 CN CR fa:Addr}{fd fda:FuncData} (T:Tops K mg) (KSm:mg "Kinds" = some (.ref CK)) (KSc:Cls K CK) (KI:KIsi K CK) (R:RefsQ K mg C1 C2 C3 CN CR) (F:Fun K "__init__" "Wishes.__init__" sInitW f fd)
  (DA:Def K mg "are_rows" sAreRows ["kinds", "things"] fa fda) (GA:FnOk P w K mg base (CXM P w) 6 fa fda ["kinds", "things"] (spAreRows CK C)) (GA2:FnOk P w K mg base (CXM P w) 6 fa fda ["kinds", "things"] spAreN) :
  FnOk P w K mg base (CXM P w) 7 f fd ["self", "kinds", "rows"] (spBadW CW CK C C2):=by
 have GB:=GA.or GA2;refine Fun.okX F scIw (fun vs H Q E h=>?_) (fun cdv A outer s H vs Q E hr h=>?_)
 ·obtain ⟨pw,dx,p,d,v,kvs,zs,ord,rfl,_⟩:=h;rfl
 ·obtain ⟨pw,dx,p,d,v,kvs,zs,ord,rfl,hp,ks,hd,k⟩:=h
  refine ⟨_,zA3 (zAx (zAw (zAy (zA9 zAn rfl T.isinst PyProof.Rows.boot_isinstance (zA0 (pv 1) (zA0 (zB7 (v:=.ref CK) rfl KSm rfl) zA2))))) zAo zAd)
   (zA3 (zAx (zAw (zAy (zA7 GB hr rfl DA.at_ DA.fn.kp DA.bind .nil (passC calmM) (zA0 (pv 1) (zA0 (pv 2) zA2))))) (zA6 (zG2 (C:=C2) (W:=fun _ e H'=>E (.ref C2) (some e) H') R.t2.cl rfl R.t2.at_ rfl (zA0 zBa zA2) (fun pins σ H s e I he fr w=>xe_new I he (.inl fr) w))) zAd)
   zAo),?_⟩
  have one:(1:Nat)≤sizeLine:=Zm (small1000 (by decide));obtain ⟨⟨dk,ek⟩,_⟩:=ks.ka;refine ⟨_,rfl,_,_,_,_,_,rfl,.ins ek KSc KI.ha KI.hn KI.htk KI.hm,rfl,KI.one,_,rfl,iteF ?_⟩;rcases hd with ⟨dd,hd,hb⟩ | ⟨a,kv2,rfl,ha⟩
  ·refine ⟨_,rfl,_,rfl,.inl ⟨p,d,kvs,zs,ord,v,dd,rfl,ks,hd,fun H1 s1=>⟨_,rfl,?_⟩⟩⟩;rw [hb];exact iteT ⟨one,fun e he=>k e _ (s1.free he) zA1 (s1.trans (Same.new he))⟩
  ·refine ⟨_,rfl,_,rfl,.inr ⟨p,a,kv2,rfl,ha,_,rfl,?_⟩⟩;exact iteT ⟨one,fun e he=>k e _ he zA1 (Same.new he)⟩
theorem scRf:FnScope ["_law_kinds", "_law_rows_here", "_law_got", "_law_others", "e"] ["_law_kinds", "_law_rows_here"] (defScope sRefused):=⟨rfl,rfl,rfl,by decide +kernel,rfl,by decide +kernel,by decide +kernel⟩
theorem ok_refd {f CW fIw fWd fWn CK C C1 C2 C3 CN CR:Addr}{fd fdw:FuncData} (T:Tops K mg) (R:RefsQ K mg C1 C2 C3 CN CR) (WC:WCls K mg CW fIw fWd fWn) (F:Fun K "_law_refused" "_law_refused" sRefused f fd)
  (GB:FnOk P w K mg base (CXM P w) 7 fIw fdw ["self", "kinds", "rows"] (spBadW CW CK C C2)) (bW:Binds K fdw ["self", "kinds", "rows"] []) :
  FnOk P w K mg base (CXM P w) 9 f fd ["_law_kinds", "_law_rows_here"] (spRefd CK C):=by
 refine Fun.okX F scRf (fun vs H Q E h=>?_) (fun cdv A outer s H vs Q E hr h=>?_)
 ·obtain ⟨p,d,v,kvs,zs,ord,rfl,_⟩:=h;rfl
 ·obtain ⟨p,d,v,kvs,zs,ord,rfl,ks,hd,k⟩:=h;have nd:=scRf.nd
  refine ⟨_,zA3 (zAb (i:=2) nd rfl (Or.inl rfl) zBo)
   (zA3 (ps_try (i:=4) (B:=CR) rfl rfl rfl nd rfl rfl rfl R.rest (fun pins W=>zA6 (zBx (zCg WC.mkd GB hr rfl WC.mgC bW .nil (pass_try rfl) (zA0 (pv 0) (zA0 (pv 1) zA2)))))
    (fun e=>zA3 (zAb (i:=3) nd rfl (Or.inl rfl) (zA9 (call_isinstT (K:=K) rfl) rfl T.isinst PyProof.Rows.boot_isinstance (zA0 (pv 4) (zA0 (zAs (zA0 (zB7 (v:=.ref CN) rfl R.n0 rfl) (zA0 (zB7 (v:=.ref C1) rfl R.n1 rfl) (zA0 (zB7 (v:=.ref C3) rfl R.n3 rfl) zA2)))) zA2))))
     (zA6 (zAb (i:=2) nd rfl (Or.inl rfl) (zBs (zA9 (zE9 (K:=K) rfl) rfl T.isinst PyProof.Rows.boot_isinstance (zA0 (pv 4) (zA0 (zB7 (v:=.ref C2) rfl R.t2.at_ rfl) zA2)))
       (zBs (zA9 (zE9 (K:=K) rfl) rfl T.isinst PyProof.Rows.boot_isinstance (zA0 (pv 4) (zA0 (zB9 (v:=.ty "ValueError") rfl R.ve (by decide +kernel) rfl) zA2)))
        (zCe (pe_not (pv 3)))))))))
   (zA6 (zAc (pv 2)))),?_⟩
  refine ⟨fun σ' e C' H'=>C'=C2∧σ'=[some (.ref p),some v,some (.bl false),none,none]∧Same H H',?_,?_⟩
  ·refine ⟨_,rfl,_,rfl,fun x dx hx hdx ne=>?_⟩;have hx2:(upd H dx (.own x)) x=none:=by rw [zA8 ne.symm];exact hx
   have s1:Same H (upd (upd H dx (.own x)) x (.ins CW dx [])):=(Same.new hdx).trans (Same.new hx2);have hx1:(upd (upd H dx (.own x)) x (.ins CW dx [])) x=some (.ins CW dx []):=zA1;generalize upd (upd H dx (.own x)) x (.ins CW dx [])=H1 at s1 hx1 ⊢;exact ⟨x,dx,p,d,v,kvs,zs,ord,rfl,hx1,ks.same s1,hd.same s1,fun e H' hn he s2=>⟨e,C2,rfl,rfl,rfl,rfl,s1.trans s2⟩⟩
  ·rintro σ' e C' H' he ⟨rfl,rfl,s0⟩;refine ⟨R.exm2,?_⟩;refine ⟨_,rfl,by show 3≤sizeLine;decide,fun t ht=>⟨e,_,t,[CN,C1,C3],false,rfl,(Same.new ht) _ _ he,R.x2,zA1,R.oth,?_⟩⟩;have s1:Same H' (upd H' t (.tup [.ref CN,.ref C1,.ref C3])):=Same.new ht;have he1:=s1 _ _ he;generalize upd H' t (.tup [.ref CN,.ref C1,.ref C3])=H1 at s1 he1 ⊢;refine ⟨_,rfl,e,_,_,.ref C',true,rfl,he1,R.x2,rfl,R.k22,(fun z=>absurd rfl (z C')),_,rfl,iteT ?_⟩;refine ⟨_,rfl,e,_,_,.type "ValueError",true,rfl,he1,R.x2,rfl,R.v2,(fun _=>⟨_,rfl⟩),_,rfl,iteT ?_⟩;refine ⟨_,rfl,_,rfl,?_⟩;exact ⟨_,rfl,k H1 (s0.trans s1)⟩
end
end L2.W
namespace L2.W
open PySem My
theorem _root_.My.Src.nw {H:Hp}{p b:Addr}{k:Int} (S:Src H p k) (h:H b=none):b≠p:=by obtain ⟨_,_,_,e,_⟩:=S;exact Ne.symm (zA5 e h)
theorem _root_.My.Src.up {H H':Hp}{p:Addr}{k:Int} (S:Src H p k) (s:Same H H'):Src H' p k:=by obtain ⟨a,c,i,e,r⟩:=S;exact ⟨a,c,i,s _ _ e,r⟩
noncomputable def odd1:List PyData:=[.tuple [.str "qq",.str "a"],.tuple [.str "",.str "a"],.tuple [.none,.str "a"],.tuple [.int 7,.str "a"],.tuple [.list [.str "a"],.str "a"],.str "a",.tuple [.str "a"],.none]
noncomputable def odd2:List PyData:=[.tuple [.str "a",.str "b",.str "c"],.list [.str "a",.str "b"]]
noncomputable def oddV (v:Str) (us:List Str):List PyData:=[.str "qq",.none,.bool true,.list [.str v],.tuple [.str v]]++us.map .str
noncomputable def odd3 (f v:Str):List PyData:=[.tuple [.str f,.str v,.int 1],.list [.str f,.str v],.tuple [.str f]]
theorem hasVal_none {fs:List (Str×List Str)}{f v:Str} (h:f∉fs.map (·.1)):hasVal fs f v=false:=by
 unfold hasVal;cases e:placeOf fs f with
 | none=>rfl
 | some i=>exact absurd (Z3 (zC0 e).1) h
theorem zFp {fs:List (Str×List Str)} (nd:(fs.map (·.1)).Nodup) {f:Str×List Str}{v:Str} (hf:f∈fs) (hv:v∉f.2):hasVal fs f.1 v=false:=by
 obtain ⟨i,hi,e⟩:=Zu hf;have ep:placeOf fs f.1=some i:=by
  cases h:placeOf fs f.1 with
  | none=>exact absurd (List.mem_map.mpr ⟨f,hf,rfl⟩) (zDs h)
  | some j =>
   have hj:=(zC0 h).1;have hi':(fs.map (·.1))[i]? = some f.1:=by rw [Z4,Z1 hi,e];rfl
   have jl:j < (fs.map (·.1)).length:=(List.getElem?_eq_some_iff.mp hj).1;rw [(Yf jl nd).mp (hj.trans hi'.symm)]
 unfold hasVal;rw [ep];show (match fs[i]? with | some p=>decide (v∈p.2) | none=>false)=false;rw [Z1 hi,e];exact decide_eq_false hv
theorem odd12_ok {fs:List (Str×List Str)} (fok:FieldsOk fs):∀ d∈odd1++odd2,pairOfB fs d=false:=by
 have hq:pairOfB fs (.tuple [.str "qq",.str "a"])=false:=by
  rw [paired2];show (_ && (_ && hasVal fs "qq" "a"))=false;rw [hasVal_none (fun h=>by obtain ⟨f,hf,e⟩:=List.mem_map.mp h;exact fok.nq f hf e),Y4,Y4]
 have h1:nameD (.str "")=false:=by decide +kernel
 intro d hd;simp only [odd1,odd2,List.cons_append,List.nil_append,Zw,Zp,or_false] at hd;rcases hd with rfl | rfl | rfl | rfl | rfl | rfl | rfl | rfl | rfl | rfl
 ·exact hq
 ·rw [paired2,h1];rfl
 all_goals rfl
theorem oddV_ok {fs:List (Str×List Str)} (fok:FieldsOk fs) {f:Str×List Str} (hf:f∈fs) {v:Str}{us:List Str} (hu:∀ u∈us,u∉f.2):∀ d∈oddV v us,pairOfB fs (.tuple [.str f.1,d])=false:=by
 intro d hd;rw [paired2];rcases List.mem_append.mp hd with hd | hd
 ·simp only [Zw,Zp,or_false] at hd;rcases hd with rfl | rfl | rfl | rfl | rfl
  ·show (_ && (_ && hasVal fs f.1 "qq"))=false;rw [zFp fok.nd hf (fun h=>(fok.ok f hf).2.nq _ h rfl),Y4,Y4]
  all_goals exact Y4 _
 ·obtain ⟨u,hu',rfl⟩:=List.mem_map.mp hd;show (_ && (_ && hasVal fs f.1 u))=false;rw [zFp fok.nd hf (hu u hu'),Y4,Y4]
theorem odd3_ok {fs:List (Str×List Str)}{f v:Str}:∀ d∈odd3 f v,pairOfB fs d=false:=by
 intro d hd;simp only [odd3,Zw,Zp,or_false] at hd;rcases hd with rfl | rfl | rfl <;> rfl
theorem cut_one {xs:List V}:cutV xs none (some 1)=xs.take 1:=by
 unfold cutV HT.sIx;simp
noncomputable def spOddC:Sp:=fun vs H Q _=>∃ (p lf:Addr) (fs:List (Str×List Str)) (k:Int),vs=[.ref p,.ref lf]∧Src H p k∧k≤900000∧Has Any H (.ref lf) (.list (fs.map fieldD))∧FieldsOk fs∧lf≠p ∧
 ∀ (l:Addr) (x:V) (d:PyData) (H':Hp),pairOfB fs d=false→H l=none→H' l=some (.lst [x])→Has (fun a=>H a=none) H' x d→Src H' p (k + 1)→(∀ b o,H b=some o→b≠p→H' b=some o)→Q (.ref l) H'
noncomputable def allV (fs:List (Str×List Str)):List Str:=(fs.map (·.2)).flatten
theorem allV_len {fs:List (Str×List Str)} (fok:FieldsOk fs):(allV fs).length≤24:=by
 have h3:=fok.le;have h8:∀ f∈fs,f.2.length≤8:=fun f hf=>(fok.ok f hf).2.le;have:∀ l:List (Str×List Str),(∀ f∈l,f.2.length≤8)→(allV l).length≤8 * l.length:=by
  intro l
  induction l with
  | nil=>intro _;exact Z5 _
  | cons a t ih =>
   intro h;have h1:=ih fun f hf=>h f (Z6 _ hf);have h2:=h a Zb;show (a.2++allV t).length≤_;rw [Z7,Zj];omega
 have:=this fs h8;omega
section
variable {P:Program}{w:World}{K:PySem.W.Frag}{mg:Str→Option Value}{base:Heap}{CX:CXT}
noncomputable abbrev nOc:List Str:=["_law_source", "_law_fields_here", "_law_some", "_law_every", "_law_field", "_law_values", "_law_strange"]
noncomputable abbrev nOc':List Str:=["_law_source", "_law_fields_here", "_law_some", "_law_every", "0", "1", "_law_strange"]
theorem ndOc':nOc'.Nodup:=by decide +kernel
theorem sameOc:sameN nOc nOc' [4,5]:=by unfold sameN;decide +kernel
theorem ndOc2:(nOc'++(["_law_field", "_law_values"]:List Str)).Nodup:=by decide +kernel
theorem scOc:FnScope nOc ["_law_source", "_law_fields_here"] (defScope sOddCares):=⟨rfl,rfl,rfl,by decide +kernel,rfl,by decide +kernel,by decide +kernel⟩
set_option maxHeartbeats 4000000 in
theorem ok_oddC {f fm fn:Addr}{fd fdm fdn:FuncData} (hC:Calm CX) (T:Tops K mg) (F:Fun K "_law_odd_cares" "_law_odd_cares" sOddCares f fd) (DM:Def K mg "_law_mixed" sMixed ["_law_cell", "_law_k"] fm fdm)
  (DN:Def K mg "_law_next" sNext ["_law_source", "_law_many_here"] fn fdn):FnOk P w K mg base CX 3 f fd ["_law_source", "_law_fields_here"] spOddC:=by
 have GN:FnOk P w K mg base CX 2 fn fdn ["_law_source", "_law_many_here"] spNext:=zBy hC DN.fn DM;refine Fun.okC F scOc (fun vs H Q E h=>?_) (fun cdv A outer s H vs Q E hr h=>?_)
 ·obtain ⟨p,lf,fs,k,rfl,_⟩:=h;rfl
 ·obtain ⟨p,lf,fs,k,rfl,S0,hk,hd,fok,nlf,q⟩:=h;have nd:=scOc.nd
  refine ⟨_,zA3 (zAb (i:=2) nd rfl (Or.inl rfl) (zEs (d:=.list odd1) 9 (by kernel_rfl)))
     (zA3 (zAb (i:=2) nd rfl (Or.inl rfl) (zAp zCi (pv 2) (zEs (d:=.list odd2) 9 (by kernel_rfl))))
     (zA3 ((ps_re nOc' [4,5] sameOc (zAb (i:=3) ndOc' rfl (Or.inl rfl) (zA9 (zFc (K:=K) rfl) rfl T.sum PyProof.Rows.boot_sum (zA0 (zAr (T:=["_law_field", "_law_values"]) rfl ScOk.auto (zAh (pv 1)) (fun _ _ _ _=>zEo (K:=K) (n:=2) rfl rfl (zAf (zAa (i:=7) ndOc2 rfl (Or.inl rfl)) (zAf (zAa (i:=8) ndOc2 rfl (Or.inl rfl)) zBc))) (fun _ _ _ _=>zB2) (fun _ _ _ _=>pv 8)) (zA0 (zAg zA2) zA2))))))
     (zA3 (zBj PassesOwn.never rfl (zAh (pv 1)) (zCb rfl (zAf (zAa (i:=4) nd rfl (Or.inr rfl)) (zAf (zAa (i:=5) nd rfl (Or.inr rfl)) zBc)))
     (zA3 (zBh (T:=["_law_value"]) (i:=6) rfl ScOk.auto (zAh (pv 3)) (fun _ _ _ _=>zAa (i:=7) (by decide +kernel:(["_law_source", "_law_fields_here", "_law_some", "_law_every", "_law_field", "_law_values", "_law_strange", "_law_value"]:List Str).Nodup) rfl (Or.inl rfl)) (fun _ _ _ _=>zEp (zAj (r:=rIn K true) zE6 (pv 7) (pv 5) rfl)) (fun _ _ _ _=>(pv 7)) nd rfl rfl rfl)
     (zA3 (zAb (i:=2) nd rfl (Or.inl rfl) (zAp zCi (pv 2) (zAr (T:=["_law_one"]) rfl ScOk.auto (zAh (zAp zCi (zAg (zA0 zBa (zA0 zBk (zA0 zBo (zA0 (zAg (zA0 (zAi zAk (pv 5) zA4 (fun _ _=>rfl)) zA2)) (zA0 (zAs (zA0 (zAi zAk (pv 5) zA4 (fun _ _=>rfl)) zA2)) zA2)))))) (zBd zC3 (pv 6) zC5 (zBn zA4)))) (fun _ _ _ _=>zAa (i:=7) (by decide +kernel:(["_law_source", "_law_fields_here", "_law_some", "_law_every", "_law_field", "_law_values", "_law_strange", "_law_one"]:List Str).Nodup) rfl (Or.inl rfl)) (fun _ _ _ _=>zB2) (fun _ _ _ _=>(zAs (zA0 (pv 4) (zA0 (pv 7) zA2)))))))
     (zA6 (zAb (i:=2) nd rfl (Or.inl rfl) (zAp zCi (pv 2) (zAg (zA0 (zAs (zA0 (pv 4) (zA0 (zAi zAk (pv 5) zA4 (fun _ _=>rfl)) (zA0 zA4 zA2)))) (zA0 (zAg (zA0 (pv 4) (zA0 (zAi zAk (pv 5) zA4 (fun _ _=>rfl)) zA2))) (zA0 (zAs (zA0 (pv 4) zA2)) zA2))))))))))
     (zA6 (zAc (zAg (zA0 (zAi zAk (pv 2) (zA7 GN hr rfl DN.at_ DN.fn.kp DN.bind .nil (passC hC) (zA0 (pv 0) (zA0 (zA9 zAe rfl T.len PySem.boot_len (zA0 (pv 2) zA2)) zA2))) (fun _ _=>rfl)) zA2))))))),?_⟩
  have small:∀ n:Nat,n≤1000→n≤sizeLine:=fun n h=>Zm (small1000 h);obtain ⟨lf',xs,e,_,hl,hz,hx⟩:=hd.list_inv;cases e;have xl:xs.length=fs.length:=by rw [hx.length,Z0]
  have f3:=fok.le;have al:=allV_len fok;intro v1 H1 s1 h1;obtain ⟨l1,y1,e,g1,hl1,_,hy1⟩:=h1.list_inv;cases e;refine ⟨_,rfl,fun v2 H2 s2 h2=>?_⟩;obtain ⟨l2,y2,e,g2,hl2,_,hy2⟩:=h2.list_inv;cases e;have len1:y1.length=8:=hy1.length;have len2:y2.length=2:=hy2.length;refine ⟨l1,l2,y1,y2,rfl,rfl,s2 _ _ hl1,hl2,by rw [len1,len2];exact small _ (by decide),fun l3 f3'=>?_⟩;have n3:H l3=none:=(s1.trans s2).free f3';have s3:Same H (upd H2 l3 (.lst (y1++y2))):=(s1.trans s2).trans (Same.new f3');have hl3:(upd H2 l3 (.lst (y1++y2))) l3=some (.lst (y1++y2)):=zA1;have hy3:HasAll (fun a=>H a=none) (upd H2 l3 (.lst (y1++y2))) (y1++y2) (odd1++odd2):=zAu ((hy1.mono s2).mono (Same.new f3')) ((hy2.frame fun b o g e=>⟨s1.free g,e⟩).mono (Same.new f3'));generalize upd H2 l3 (.lst (y1++y2))=H3 at s3 hl3 hy3 ⊢;refine ⟨_,rfl,lf,rfl,⟨_,SqL.of (s3 _ _ hl)⟩,zAl (xs:=xs) (fun i ys H'=>H3=H'∧∃ zs:List (Addr×List V),ys=zs.map (fun z=>V.ref z.1)∧(∀ z∈zs,H3 z.1=some (.lst z.2))∧zs.map (·.2)=(fs.take i).map (fun f=>f.2.map V.str)) ⟨rfl,[],rfl,(fun z h=>nomatch h),rfl⟩ (fun i ys H' z=>by rw [← z.1];exact SqL.of (s3 _ _ hl)) (fun i ys H' hi z=>?_) ?_ ?_⟩
  ·obtain ⟨_,zs,rfl,_,ez⟩:=z;have:=congrArg List.length ez;rw [Z0,Z0] at this;have:=Zy i fs;rw [Z0];exact small _ (by omega)
  ·rintro i x ys H' hi ⟨rfl,zs,rfl,hz',ez⟩ N hN;obtain ⟨dd,hdd,hv⟩:=hx.get hi;rw [Z4] at hdd;obtain ⟨fl,ef,rfl⟩:=Option.map_eq_some_iff.mp hdd;obtain ⟨t,lv,rfl,ht,hlv⟩:=zBl hv;refine pickT (SqT.of (s3 _ _ ht)) ?_;refine ⟨_,rfl,hN _ _ ⟨rfl,zs++[(lv,fl.2.map V.str)],by rw [Za];rfl,fun z hz=>?_,?_⟩⟩
   ·rcases List.mem_append.mp hz with hz | hz
    ·exact hz' z hz
    ·rw [List.mem_singleton.mp hz];exact s3 _ _ hlv
   ·rw [Za,ez,Zd,ef,Za];rfl
  rintro ys H' ⟨rfl,zs,rfl,hz',ez⟩ lc hlc;rw [xl,Zh] at ez;have eall:(zs.map (·.2)).flatten=(allV fs).map V.str:=by
   rw [ez];unfold allV;rw [List.map_flatten,Zn];rfl
  refine ⟨Zo _,fun st hst=>?_⟩;have s5:Same H3 (upd (upd H3 lc (.lst (zs.map fun z=>V.ref z.1))) st (.lst [])):=(Same.new hlc).trans (Same.new hst);have e5:(upd (upd H3 lc (.lst (zs.map fun z=>V.ref z.1))) st (.lst [])) st=some (.lst []):=zA1;have c5:(upd (upd H3 lc (.lst (zs.map fun z=>V.ref z.1))) st (.lst [])) lc=some (.lst (zs.map fun z=>V.ref z.1)):=(Same.new hst) _ _ zA1;generalize upd (upd H3 lc (.lst (zs.map fun z=>V.ref z.1))) st (.lst [])=H5 at s5 e5 c5 ⊢;refine ⟨lc,st,zs,rfl,SqL.of c5,e5,fun z hz=>s5 _ _ (hz' z hz),by rw [eall,Z0];exact small _ (by omega),rfl,fun le Hx hc6=>?_⟩;obtain ⟨s6,e6⟩:Same H3 Hx∧Hx le=some (.lst ((allV fs).map V.str)):=by
   rcases hc6 with ⟨z0,rfl,rfl⟩ | ⟨hp5,rfl⟩
   ·refine ⟨s5,?_⟩;rw [← eall,z0];exact e5
   ·rw [eall];exact ⟨s5.trans (Same.new hp5),zA1⟩
  clear hc6;dsimp only [gName,Ends.hid,hide,List.set];have s0:=s3.trans s6
  refine ⟨_,rfl,lf,rfl,⟨_,SqL.of (s0 _ _ hl)⟩,zBf (K:=K) (a:=lf) (xs:=xs) (fun i σ H'=>∃ (ls:Addr) (ys:List V) (ds:List PyData) (x4 x5 x6:Option V),σ = [some (.ref p),some (.ref lf),some (.ref ls),some (.ref le),x4,x5,x6]∧H' ls=some (.lst ys)∧HasAll (fun a=>H a=none) H' ys ds∧(∀ d∈ds,pairOfB fs d=false)∧0 < ds.length∧ds.length≤10 + 9 * i∧Same Hx H'∧H ls=none)
   ⟨l3,_,_,none,none,none,rfl,s6 _ _ hl3,hy3.mono s6,odd12_ok fok,by decide,by decide,Same.refl _,n3⟩ (fun i σ H' _ hz=>by obtain ⟨_,_,_,_,_,_,_,_,_,_,_,_,s,_⟩:=hz;exact SqL.of (s _ _ (s0 _ _ hl))) ?_ ?_⟩
  ·rintro i x σ H' hi ⟨ls,ys,ds,x4,x5,x6,rfl,hls,hys,hodd,d0,dl,s7,nls⟩;obtain ⟨dd,hdd,hv⟩:=hx.get hi;rw [Z4] at hdd;obtain ⟨fl,ef,rfl⟩:=Option.map_eq_some_iff.mp hdd;have mf:=Z3 ef;have il:i < fs.length:=(List.getElem?_eq_some_iff.mp ef).1;obtain ⟨fn1,fv⟩:=fok.ok fl mf;obtain ⟨t,lv,rfl,ht,hlv⟩:=zBl hv;have s8:=s0.trans s7;refine ⟨t,_,rfl,SqT.of (s8 _ _ ht),rfl,_,_,rfl,_,_,rfl,rfl,?_⟩;have he':=s7 _ _ e6;refine ⟨_,rfl,le,rfl,⟨_,SqL.of he'⟩,zAl (xs:=(allV fs).map V.str) (fun j ys H2=>H'=H2∧∃ us:List Str,ys=us.map V.str∧us.length≤j∧(∀ u∈us,u∉fl.2∧u∈allV fs)) ⟨rfl,[],rfl,Z5 _,(fun u h=>nomatch h)⟩ (fun j ys H2 z=>by rw [← z.1];exact SqL.of he') (fun j ys H2 hj z=>?_) ?_ ?_⟩
   ·obtain ⟨_,us,rfl,ul,_⟩:=z;rw [Z0] at hj ⊢;exact small _ (by omega)
   ·rintro j y zs' H2 hj ⟨rfl,us,rfl,ul,uo⟩ N hN;rw [Z4] at hj;obtain ⟨u,eu,rfl⟩:=Option.map_eq_some_iff.mp hj;refine ⟨_,rfl,_,rfl,lv,_,rfl,.inl (SqL.of (s8 _ _ hlv)),rfl,flats _,_,rfl,?_⟩;rw [show (if true=true then !inV (.str u) (fl.2.map V.str) else inV (.str u) (fl.2.map V.str)) = !inV (.str u) (fl.2.map V.str) from rfl,zF4];by_cases c:u∈fl.2
    ·rw [decide_eq_true c];exact iteF (hN _ _ ⟨rfl,us,rfl,by omega,uo⟩)
    ·rw [decide_eq_false c];refine iteT ⟨_,rfl,hN _ _ ⟨rfl,us++[u],by rw [Za];rfl,by rw [Z7];show _ + 1≤_;omega,fun u' hu'=>?_⟩⟩;rcases List.mem_append.mp hu' with h | h
     ·exact uo u' h
     ·rw [List.mem_singleton.mp h];exact ⟨c,Z3 eu⟩
   rintro zs' H2 ⟨rfl,us,rfl,ul,uo⟩ lu hlu;have s9:Same H' (upd H' lu (.lst (us.map V.str))):=Same.new hlu;have e9:(upd H' lu (.lst (us.map V.str))) lu=some (.lst (us.map V.str)):=zA1;generalize upd H' lu (.lst (us.map V.str))=H9 at s9 e9 ⊢;have s89:=s8.trans s9;obtain ⟨v0,ev0⟩:∃ v0,fl.2[0]? = some v0:=⟨_,Z1 fv.ne⟩;have av:atI (fl.2.map V.str) 0=some (.str v0):=zB1 (j:=0) (by rw [Z4,ev0];rfl);have nv:=fv.ok v0 (Z3 ev0);have back:∀ {Hy:Hp}{b:Addr},Same H Hy→Hy b=none→H b=none:=fun s e=>s.free e;dsimp only [gName,List.set];refine ⟨_,rfl,?_⟩;refine ⟨_,rfl,lv,_,0,_,rfl,rfl,SqL.of (s89 _ _ hlv),av,small 1 (by decide),fun a1 h1=>?_⟩;have t1:Same H9 (upd H9 a1 (.lst [.str v0])):=Same.new h1;have g1:(upd H9 a1 (.lst [.str v0])) a1=some (.lst [.str v0]):=zA1;have b1:H a1=none:=s89.free h1;generalize upd H9 a1 (.lst [.str v0])=Ha at t1 g1 ⊢;have s1a:=s89.trans t1;refine ⟨_,rfl,lv,_,0,_,rfl,rfl,SqL.of (s1a _ _ hlv),av,small 1 (by decide),fun a2 h2=>?_⟩;have t2:Same Ha (upd Ha a2 (.tup [.str v0])):=Same.new h2;have g2:(upd Ha a2 (.tup [.str v0])) a2=some (.tup [.str v0]):=zA1;have b2:H a2=none:=s1a.free h2;generalize upd Ha a2 (.tup [.str v0])=Hb at t2 g2 ⊢;have s2a:=s1a.trans t2;refine ⟨small 5 (by decide),fun l5 h5=>?_⟩;have t3:Same Hb (upd Hb l5 (.lst [.str "qq",.non,.bl true,.ref a1,.ref a2])):=Same.new h5;have g3:(upd Hb l5 (.lst [.str "qq",.non,.bl true,.ref a1,.ref a2])) l5=some (.lst [.str "qq",.non,.bl true,.ref a1,.ref a2]):=zA1;generalize upd Hb l5 (.lst [.str "qq",.non,.bl true,.ref a1,.ref a2])=Hc at t3 g3 ⊢;have t23:=t2.trans t3;have t13:=t1.trans t23;refine ⟨_,rfl,_,rfl,lu,_,rfl,SqL.of (t13 _ _ e9),fun l6 h6=>?_⟩;rw [cut_one,← Xf];have t4:Same Hc (upd Hc l6 (.lst ((us.take 1).map V.str))):=Same.new h6;have g4:(upd Hc l6 (.lst ((us.take 1).map V.str))) l6=some (.lst ((us.take 1).map V.str)):=zA1;generalize upd Hc l6 (.lst ((us.take 1).map V.str))=Hd at t4 g4 ⊢;have ut:(us.take 1).length≤1:=Zt 1 us;refine ⟨l5,l6,_,_,rfl,rfl,t4 _ _ g3,g4,?_,fun l7 h7=>?_⟩
   ·rw [Z0];show 5 + _≤_;exact small _ (by omega)
   have t5:Same Hd (upd Hd l7 (.lst ([.str "qq",.non,.bl true,.ref a1,.ref a2]++(us.take 1).map V.str))):=Same.new h7;have g5:(upd Hd l7 (.lst ([.str "qq",.non,.bl true,.ref a1,.ref a2]++(us.take 1).map V.str))) l7=some (.lst ([.str "qq",.non,.bl true,.ref a1,.ref a2]++(us.take 1).map V.str)):=zA1;generalize upd Hd l7 (.lst ([.str "qq",.non,.bl true,.ref a1,.ref a2]++(us.take 1).map V.str))=He at t5 g5 ⊢;have t9e:=t13.trans (t4.trans t5);have ok_us:∀ u∈us.take 1,nameOk u:=fun u hu=>by
    obtain ⟨l,hl',hu'⟩:=List.mem_flatten.mp (uo u (Xc hu)).2;obtain ⟨f',hf',rfl⟩:=List.mem_map.mp hl';exact (fok.ok f' hf').2.ok u hu'
   have hmid:HasAll (fun a=>H a=none) He ([.str "qq",.non,.bl true,.ref a1,.ref a2]++(us.take 1).map V.str) (oddV v0 (us.take 1)):=by
    refine zAu (.cons (.str "qq" (by decide +kernel) (by decide +kernel)) (.cons .non (.cons (.bl true) (.cons (.lst b1 (t5 _ _ (t4 _ _ (t23 _ _ g1))) (by show 1≤1000;decide) (.cons (.str v0 (Zl nv.2.2 (by decide)) nv.2.1) .nil)) (.cons (.tup b2 (t5 _ _ (t4 _ _ (t3 _ _ g2))) (by show 1≤1000;decide) (.cons (.str v0 (Zl nv.2.2 (by decide)) nv.2.1) .nil)) .nil))))) (zCj ok_us)
   have mlen:=hmid.length;have dlen:(oddV v0 (us.take 1)).length≤6:=by
    unfold oddV;rw [Z7,Z0];show 5 + _≤6;omega
   generalize ([.str "qq",.non,.bl true,.ref a1,.ref a2]++(us.take 1).map V.str:List V)=mid at g5 hmid mlen ⊢;refine ⟨l7,rfl,⟨_,SqL.of g5⟩,zAl (xs:=mid) (fun j zz H2=>Same He H2∧HasAll (fun a=>H a=none) H2 zz (((oddV v0 (us.take 1)).take j).map fun d=>.tuple [.str fl.1,d])) ⟨Same.refl _,.nil⟩ (fun j zz H2 z=>SqL.of (z.1 _ _ g5)) (fun j zz H2 hj z=>?_) ?_ ?_⟩
   ·have:=z.2.length;rw [Z0] at this;have:=Zy j (oddV v0 (us.take 1));exact small _ (by omega)
   ·rintro j y zz H2 hj ⟨se,hzz⟩ N hN;obtain ⟨d,ed,hyd⟩:=hmid.get hj;refine pick ?_;refine ⟨_,rfl,_,rfl,small 2 (by decide),fun tt htt=>hN _ _ ⟨se.trans (Same.new htt),?_⟩⟩;rw [Zd,ed,Za];refine HasAll.snoc (hzz.mono (Same.new htt)) (.tup ((s89.trans (t9e.trans se)).free htt) zA1 (by show 2≤1000;decide) (.cons (.str fl.1 (Zl fn1.2.2 (by decide)) fn1.2.1) (.cons ((hyd.mono se).mono (Same.new htt)) .nil)))
   rintro zz H2 ⟨se,hzz⟩ l8 h8;rw [mlen,Zh] at hzz;have t6:Same He (upd H2 l8 (.lst zz)):=se.trans (Same.new h8);have g6:(upd H2 l8 (.lst zz)) l8=some (.lst zz):=zA1;have hzz6:=hzz.mono (Same.new (o:=.lst zz) h8);generalize upd H2 l8 (.lst zz)=Hf at t6 g6 hzz6 ⊢;have t9f:=s9.trans (t9e.trans t6);have zl:=hzz.length;rw [Z0] at zl;have yl:=hys.length;refine ⟨ls,l8,ys,zz,rfl,rfl,t9f _ _ hls,g6,small _ (by omega),fun l9 h9=>?_⟩;have t7:Same Hf (upd Hf l9 (.lst (ys++zz))):=Same.new h9;have g7:(upd Hf l9 (.lst (ys++zz))) l9=some (.lst (ys++zz)):=zA1;have t79:=t9f.trans t7;have hh7:HasAll (fun a=>H a=none) (upd Hf l9 (.lst (ys++zz))) (ys++zz) (ds++(oddV v0 (us.take 1)).map fun d=>.tuple [.str fl.1,d]):=zAu (hys.mono t79) (hzz6.mono t7);generalize upd Hf l9 (.lst (ys++zz))=Hg at t7 g7 t79 hh7 ⊢;dsimp only [gName,List.set];have sg:=s8.trans t79;refine ⟨_,rfl,?_⟩;refine ⟨_,rfl,_,rfl,lv,_,0,_,rfl,rfl,SqL.of (sg _ _ hlv),av,small 3 (by decide),fun c1 k1=>?_⟩;have w1:Same Hg (upd Hg c1 (.tup [.str fl.1,.str v0,.int 1])):=Same.new k1;have x1:(upd Hg c1 (.tup [.str fl.1,.str v0,.int 1])) c1=some (.tup [.str fl.1,.str v0,.int 1]):=zA1;have n1:H c1=none:=sg.free k1;generalize upd Hg c1 (.tup [.str fl.1,.str v0,.int 1])=Hh at w1 x1 ⊢;have sh:=sg.trans w1;refine ⟨_,rfl,_,rfl,lv,_,0,_,rfl,rfl,SqL.of (sh _ _ hlv),av,small 2 (by decide),fun c2 k2=>?_⟩;have w2:Same Hh (upd Hh c2 (.lst [.str fl.1,.str v0])):=Same.new k2;have x2:(upd Hh c2 (.lst [.str fl.1,.str v0])) c2=some (.lst [.str fl.1,.str v0]):=zA1;have n2:H c2=none:=sh.free k2;generalize upd Hh c2 (.lst [.str fl.1,.str v0])=Hi at w2 x2 ⊢;have si:=sh.trans w2;refine ⟨_,rfl,small 1 (by decide),fun c3 k3=>?_⟩;have w3:Same Hi (upd Hi c3 (.tup [.str fl.1])):=Same.new k3;have x3:(upd Hi c3 (.tup [.str fl.1])) c3=some (.tup [.str fl.1]):=zA1;have n3':H c3=none:=si.free k3;generalize upd Hi c3 (.tup [.str fl.1])=Hj at w3 x3 ⊢;refine ⟨small 3 (by decide),fun c4 k4=>?_⟩;have w4:Same Hj (upd Hj c4 (.lst [.ref c1,.ref c2,.ref c3])):=Same.new k4;have x4:(upd Hj c4 (.lst [.ref c1,.ref c2,.ref c3])) c4=some (.lst [.ref c1,.ref c2,.ref c3]):=zA1;generalize upd Hj c4 (.lst [.ref c1,.ref c2,.ref c3])=Hk at w4 x4 ⊢;have sk:Same Hg Hk:=w1.trans (w2.trans (w3.trans w4));refine ⟨l9,c4,_,_,rfl,rfl,sk _ _ g7,x4,by rw [Z7];show _ + 3≤_;exact small _ (by omega),fun c5 k5=>?_⟩;have w5:Same Hk (upd Hk c5 (.lst ((ys++zz)++[.ref c1,.ref c2,.ref c3]))):=Same.new k5;have sF:Same H' (upd Hk c5 (.lst ((ys++zz)++[.ref c1,.ref c2,.ref c3]))):=t79.trans (sk.trans w5);have nf:Has (fun a=>H a=none) (upd Hk c5 (.lst ((ys++zz)++[.ref c1,.ref c2,.ref c3]))) (.str fl.1) (.str fl.1):=.str fl.1 (Zl fn1.2.2 (by decide)) fn1.2.1;have nv0:Has (fun a=>H a=none) (upd Hk c5 (.lst ((ys++zz)++[.ref c1,.ref c2,.ref c3]))) (.str v0) (.str v0):=.str v0 (Zl nv.2.2 (by decide)) nv.2.1;refine ⟨c5,_,_,_,_,_,rfl,zA1,zAu (hh7.mono (sk.trans w5)) (.cons (.tup n1 (w5 _ _ (w4 _ _ (w3 _ _ (w2 _ _ x1)))) (by show 3≤1000;decide) (.cons nf (.cons nv0 (.cons (.int 1) .nil)))) (.cons (.lst n2 (w5 _ _ (w4 _ _ (w3 _ _ x2))) (by show 2≤1000;decide) (.cons nf (.cons nv0 .nil))) (.cons (.tup n3' (w5 _ _ (w4 _ _ x3)) (by show 1≤1000;decide) (.cons nf .nil)) .nil))),fun d hd=>?_,?_,?_,s7.trans sF,(sg.trans sk).free k5⟩
   ·rcases List.mem_append.mp hd with hd | hd
    ·rcases List.mem_append.mp hd with hd | hd
     ·exact hodd d hd
     ·obtain ⟨d',hd',rfl⟩:=List.mem_map.mp hd;exact oddV_ok fok mf (fun u hu=>(uo u (Xc hu)).1) d' hd'
    ·exact odd3_ok (f:=fl.1) (v:=v0) d hd
   ·rw [Z7,Z7];omega
   ·rw [Z7,Z7,Z0];show _ + 3≤_;omega
  ·rintro σ H' ⟨ls,ys,ds,x4,x5,x6,rfl,hls,hys,hodd,d0,dl,s7,nls⟩;have yl:=hys.length;rw [xl] at dl;refine ⟨_,rfl,_,rfl,_,rfl,ls,ys,rfl,.inl (SqL.of hls),p,_,_,rfl,S0.up (s0.trans s7),by omega,by omega,by omega,fun r H8 a0 a1 S8 k8=>?_⟩;obtain ⟨j,rfl⟩:∃ j:Nat,r=(j:Int):=⟨r.toNat,by omega⟩;have lsp:ls≠p:=S0.nw nls;obtain ⟨y,ey⟩:∃ y,ys[j]? = some y:=⟨_,Z1 (by omega)⟩;obtain ⟨d,ed,hyd⟩:=hys.get ey;have hls8:H8 ls=some (.lst ys):=by rw [k8 _ lsp];exact hls
   refine ⟨ls,ys,(j:Int),y,rfl,rfl,SqL.of hls8,zB1 ey,small 1 (by decide),fun ln hln=>?_⟩;have np:∀ {b:Addr},H b=none→b≠p:=fun g=>S0.nw g;have f8:∀ b o,H b=some o→b≠p→H8 b=some o:=fun b o e nb=>by rw [k8 b nb];exact s7 _ _ (s0 _ _ e)
   have fln:H ln=none:=by
    cases z:H ln with
    | none=>rfl
    | some o =>
     have:=S8.nw hln;rw [f8 _ _ z this] at hln;cases hln
   exact q ln y d _ (hodd d (Z3 ed)) fln zA1 (hyd.frame fun b o g e=>⟨g,(Same.new hln) _ _ (by rw [k8 b (np g)];exact e)⟩) (S8.up (Same.new hln)) fun b o e nb=>(Same.new hln) _ _ (f8 b o e nb)
end
end L2.W
namespace L2.W
open PySem My
structure CaresOk (fs:List (Str×List Str)) (cs:List (Str×Str)):Prop where
 ok:∀ c∈cs,nameOk c.1∧nameOk c.2∧hasVal fs c.1 c.2=true
 nd:(cs.map (·.1)).Nodup
 le:cs.length≤3
theorem hasVal_of {fs:List (Str×List Str)} (nd:(fs.map (·.1)).Nodup) {f:Str×List Str}{v:Str} (hf:f∈fs) (hv:v∈f.2):hasVal fs f.1 v=true:=by
 obtain ⟨i,hi,e⟩:=Zu hf;have ep:placeOf fs f.1=some i:=by
  cases h:placeOf fs f.1 with
  | none=>exact absurd (List.mem_map.mpr ⟨f,hf,rfl⟩) (zDs h)
  | some j =>
   have hj:=(zC0 h).1;have hi':(fs.map (·.1))[i]? = some f.1:=by rw [Z4,Z1 hi,e];rfl
   have jl:j < (fs.map (·.1)).length:=(List.getElem?_eq_some_iff.mp hj).1;rw [(Yf jl nd).mp (hj.trans hi'.symm)]
 unfold hasVal;rw [ep];show (match fs[i]? with | some p=>decide (v∈p.2) | none=>false)=true;rw [Z1 hi,e];exact decide_eq_true hv
theorem CaresOk.rev {fs:List (Str×List Str)}{cs:List (Str×Str)} (h:CaresOk fs cs):CaresOk fs cs.reverse:=⟨fun c hc=>h.ok c (List.mem_reverse.mp hc),by rw [List.map_reverse];exact (List.reverse_perm _).nodup_iff.mpr h.nd,by rw [List.length_reverse];exact h.le⟩
theorem strs_ne {ks:List Str}{a b c:Int}:HO.lst (ks.map V.str)≠HO.lst [.int a,.int b,.int c]:=by
 intro z;cases ks with
 | nil=>cases z
 | cons x t=>cases z
noncomputable def spCares:Sp:=fun vs H Q _=>∃ (p lf:Addr) (fs:List (Str×List Str)) (k:Int),vs=[.ref p,.ref lf]∧Src H p k∧k≤900000∧Has Any H (.ref lf) (.list (fs.map fieldD))∧FieldsOk fs∧lf≠p ∧
 ∀ (l:Addr) (cs:List (Str×Str)) (H':Hp),CaresOk fs cs→Has (fun a=>H a=none) H' (.ref l) (.list (cs.map careD))→Src H' p (k + 10)→(∀ b o,H b=some o→b≠p→H' b=some o)→Q (.ref l) H'
section
variable {P:Program}{w:World}{K:PySem.W.Frag}{mg:Str→Option Value}{base:Heap}{CX:CXT}
theorem scCa:FnScope ["_law_source", "_law_fields_here", "_law_got", "_law_field", "_law_values"] ["_law_source", "_law_fields_here"] (defScope sCares):=⟨rfl,rfl,rfl,by decide +kernel,rfl,by decide +kernel,by decide +kernel⟩
theorem ok_cares {f fm fn:Addr}{fd fdm fdn:FuncData} (hC:Calm CX) (T:Tops K mg) (F:Fun K "_law_cares" "_law_cares" sCares f fd) (DM:Def K mg "_law_mixed" sMixed ["_law_cell", "_law_k"] fm fdm)
  (DN:Def K mg "_law_next" sNext ["_law_source", "_law_many_here"] fn fdn):FnOk P w K mg base CX 3 f fd ["_law_source", "_law_fields_here"] spCares:=by
 have GN:FnOk P w K mg base CX 2 fn fdn ["_law_source", "_law_many_here"] spNext:=zBy hC DN.fn DM;refine Fun.okC F scCa (fun vs H Q E h=>?_) (fun cdv A outer s H vs Q E hr h=>?_)
 ·obtain ⟨p,lf,fs,k,rfl,_⟩:=h;rfl
 ·obtain ⟨p,lf,fs,k,rfl,S0,hk,hd,fok,nlf,q⟩:=h;have nd:=scCa.nd
  refine ⟨_,zA3 (zAb (i:=2) nd rfl (Or.inl rfl) (zAg zA2))
   (zA3 (zBj PassesOwn.never rfl (zAh (pv 1)) (zCb rfl (zAf (zAa (i:=3) nd rfl (Or.inl rfl)) (zAf (zAa (i:=4) nd rfl (Or.inl rfl)) zBc)))
    (zA6 (zAx (zAj zDw (zA7 GN hr rfl DN.at_ DN.fn.kp DN.bind .nil (passC hC) (zA0 (pv 0) (zA0 zA4 zA2))) zA4 (nomark _))
     (zA6 (zBx (zCv PySem.F.plainAttrs_list PySem.F.slot_list_append PySem.F.type_list_append zCk (pv 2) (zA0 (zAs (zA0 (pv 3) (zA0 (zAi zAk (pv 4) (zA7 GN hr rfl DN.at_ DN.fn.kp DN.bind .nil (passC hC) (zA0 (pv 0) (zA0 (zA9 zAe rfl T.len PySem.boot_len (zA0 (pv 4) zA2)) zA2))) (fun _ _=>rfl)) zA2))) zA2))))
     zAd)))
   (zA6 (zAc (zAi zAk (zAg (zA0 (pv 2) (zA0 (pe_rev (pv 2)) zA2))) (zA7 GN hr rfl DN.at_ DN.fn.kp DN.bind .nil (passC hC) (zA0 (pv 0) (zA0 zA4 zA2))) (fun _ _=>rfl))))),?_⟩
  have small:∀ n:Nat,n≤1000→n≤sizeLine:=fun n h=>Zm (small1000 h);have src:∀ {H1 H2:Hp}{j:Int},Src H1 p j→(∀ o,H1 p=some o→H2 p=some o)→Src H2 p j:=fun ⟨a,c,i,e,r⟩ h=>⟨a,c,i,h _ e,r⟩;obtain ⟨lf',xs,e,_,hl,hz,hx⟩:=hd.list_inv;cases e;have xl:xs.length=fs.length:=by rw [hx.length,Z0]
  have f3:=fok.le;refine ⟨Zo _,fun lg hlg=>?_⟩;have ngp:lg≠p:=by obtain ⟨_,_,_,e,_⟩:=S0;exact Ne.symm (zA5 e hlg)
  have tne:∀ {H1:Hp}{j:Int}{b:Addr}{o:HO},Src H1 p j→H1 b=some o→(∀ a b c:Int,o≠.lst [.int a,.int b,.int c])→b≠p:=fun ⟨_,_,_,e',_⟩ e h=>zBe e e' (h _ _ _)
  refine ⟨_,rfl,lf,rfl,⟨_,SqL.of ((Same.new hlg) _ _ hl)⟩,zBf (K:=K) (a:=lf) (xs:=xs) (fun i σ H2=>∃ (cs:List (Str×Str)) (ys:List V) (x3 x4:Option V),σ = [some (.ref p),some (.ref lf),some (.ref lg),x3,x4]∧H2 lg=some (.lst ys)∧HasAll (fun a=>H a=none∧a≠lg) H2 ys (cs.map careD)∧cs.length≤i∧(cs.map (·.1)).Sublist ((fs.take i).map (·.1))∧(∀ c∈cs,∃ f∈fs,c.1=f.1∧c.2∈f.2)∧Src H2 p (k + 2 * (i:Int))∧(∀ b o,H b=some o→b≠p→H2 b=some o))
   ⟨[],[],none,none,rfl,zA1,.nil,Z5 _,List.Sublist.refl _,(fun c h=>nomatch h),src (S0.mono (by omega)) (fun o e=>(Same.new hlg) _ _ e),fun b o e _=>(Same.new hlg) _ _ e⟩ (fun i σ H2 _ hz=>by obtain ⟨_,_,_,_,_,_,_,_,_,_,_,fr⟩:=hz;exact SqL.of (fr _ _ hl nlf)) ?_ ?_⟩
  ·rintro i x σ H2 hi ⟨cs,ys,x3,x4,rfl,hg2,hys,csl,csb,csf,S2,fr⟩;obtain ⟨dd,hdd,hv⟩:=hx.get hi;rw [Z4] at hdd;obtain ⟨fl,ef,rfl⟩:=Option.map_eq_some_iff.mp hdd;have il:i < fs.length:=(List.getElem?_eq_some_iff.mp ef).1;have mf:=Z3 ef;obtain ⟨fn1,fv⟩:=fok.ok fl mf;obtain ⟨t,lv,rfl,ht,hlv⟩:=zBl hv;have ntp:t≠p:=tne S0 ht (fun _ _ _ z=>nomatch z);have nvp:lv≠p:=tne S0 hlv (fun _ _ _=>strs_ne);refine ⟨t,_,rfl,SqT.of (fr _ _ ht ntp),rfl,_,_,rfl,_,_,rfl,rfl,?_⟩;refine ⟨_,rfl,p,_,_,rfl,S2,by omega,by decide,by decide,fun r H3 r0 r1 S3 k3=>⟨rfl,_,rfl,?_⟩⟩;have fr3:∀ b o,H b=some o→b≠p→H3 b=some o:=fun b o e nb=>by rw [k3 b nb];exact fr b o e nb
   have hg3:H3 lg=some (.lst ys):=by rw [k3 _ ngp];exact hg2
   have keep:∀ {H9:Hp},(∀ b,b≠p→H9 b=H3 b)→HasAll (fun a=>H a=none∧a≠lg) H9 ys (cs.map careD):=fun {H9} h=>hys.frame fun b o g e=>⟨g,by
    have nb:b≠p:=by rintro rfl;obtain ⟨_,_,_,e',_⟩:=S0;rw [e'] at g;exact nomatch g.1
    rw [h b nb,k3 b nb]
    exact e⟩
   refine ite2 (fun c1=>?_) (fun c1=>?_)
   ·have vl:(fl.2.map V.str).length=fl.2.length:=Z0 _;have v0:=fv.ne;have v8:=fv.le;refine ⟨_,rfl,.inl ⟨rfl,_,SqL.of hg3⟩,_,rfl,_,rfl,_,rfl,_,rfl,lv,_,rfl,.inl (SqL.of (fr3 _ _ hlv nvp)),p,_,_,rfl,S3,by omega,by omega,by omega,fun r2 H4 a0 a1 S4 k4=>?_⟩;obtain ⟨j,rfl⟩:∃ j:Nat,r2=(j:Int):=⟨r2.toNat,by omega⟩;obtain ⟨v,ev⟩:∃ v,fl.2[j]? = some v:=⟨_,Z1 (by omega)⟩;have ev2:(fl.2.map V.str)[j]? = some (.str v):=by rw [Z4,ev];rfl
    have fr4:∀ b o,H b=some o→b≠p→H4 b=some o:=fun b o e nb=>by rw [k4 b nb];exact fr3 b o e nb
    have hg4:H4 lg=some (.lst ys):=by rw [k4 _ ngp];exact hg3
    have onv:=fv.ok v (Z3 ev);refine ⟨lv,_,(j:Int),_,rfl,rfl,SqL.of (fr4 _ _ hlv nvp),zB1 ev2,by show 2≤sizeLine;decide,fun t2 ht2=>⟨lg,_,_,rfl,rfl,(Same.new ht2) _ _ hg4,by have:=hys.length;rw [Z0] at this;exact small1000 (by omega),?_⟩⟩;have nt2:t2≠lg:=Ne.symm (zA5 hg4 ht2);have nt2p:t2≠p:=by obtain ⟨_,_,_,e,_⟩:=S4;exact Ne.symm (zA5 e ht2)
    have fr5:∀ b o,H4 b=some o→b≠lg→(upd (upd H4 t2 (.tup [.str fl.1,.str v])) lg (.lst (ys++[.ref t2]))) b=some o:=fun b o e nb=>by rw [zA8 nb];exact (Same.new ht2) _ _ e
    have free:H t2=none:=by
     cases z:H t2 with
     | none=>rfl
     | some o=>rw [fr4 _ _ z nt2p] at ht2;cases ht2
    refine ⟨cs++[(fl.1,v)],ys++[.ref t2],_,_,rfl,zA1,?_,by rw [Z7];show _ + 1≤_;omega,?_,fun c hc=>?_,?_,fun b o e nb=>fr5 _ _ (fr4 _ _ e nb) (zA5 e hlg)⟩
    ·rw [Za];refine HasAll.snoc ((keep fun b nb=>k4 b nb).frame fun b o g e=>⟨g,fr5 _ _ e g.2⟩) (.tup ⟨free,nt2⟩ (by rw [zA8 nt2];exact zA1) (by show 2≤1000;decide) (.cons (.str fl.1 (by have:=fn1.2.2;omega) fn1.2.1) (.cons (.str v (by have:=onv.2.2;omega) onv.2.1) .nil)))
    ·rw [Za,Zd,ef,Za];exact csb.append (List.Sublist.refl _)
    ·rcases List.mem_append.mp hc with hc | hc
     ·exact csf c hc
     ·rw [List.mem_singleton.mp hc];exact ⟨fl,mf,rfl,Z3 ev⟩
    ·exact src (S4.mono (by push_cast;omega)) fun o e=>fr5 _ _ e (Ne.symm ngp)
   ·refine ⟨cs,ys,_,_,rfl,hg3,keep fun b _=>rfl,by omega,?_,csf,S3.mono (by push_cast;omega),fr3⟩;rw [Zd,Za];exact csb.trans (List.sublist_append_left _ _)
  ·rintro σ H2 ⟨cs,ys,x3,x4,rfl,hg2,hys,csl,csb,csf,S2,fr⟩;rw [xl] at csl S2;have csl3:cs.length≤3:=by omega
   have cok:CaresOk fs cs:=by
    refine ⟨fun c hc=>?_,?_,csl3⟩
    ·obtain ⟨f,hf,e1,e2⟩:=csf c hc;obtain ⟨a,b⟩:=fok.ok f hf;exact ⟨by rw [e1];exact a,b.ok _ e2,by rw [e1];exact hasVal_of fok.nd hf e2⟩
    ·have:=csb.trans ((List.take_sublist xs.length fs).map (·.1));exact fok.nd.sublist this
   have yl:ys.length=cs.length:=by rw [hys.length,Z0]
   refine ⟨_,rfl,_,rfl,lg,_,rfl,SqL.of hg2,fun p4 f4=>?_⟩;have s4:Same H2 (upd H2 p4 (.lst ys.reverse)):=Same.new f4;have hp4:(upd H2 p4 (.lst ys.reverse)) p4=some (.lst ys.reverse):=zA1;generalize upd H2 p4 (.lst ys.reverse)=H4 at s4 hp4 ⊢;refine ⟨by show 2≤sizeLine;decide,fun p5 f5=>?_⟩;have s5:Same H2 (upd H4 p5 (.lst [.ref lg,.ref p4])):=s4.trans (Same.new f5);have h4:=(Same.new (o:=.lst [.ref lg,.ref p4]) f5) _ _ hp4;have h5:(upd H4 p5 (.lst [.ref lg,.ref p4])) p5=some (.lst [.ref lg,.ref p4]):=zA1;have n5:H2 p5=none:=s4.free f5;generalize upd H4 p5 (.lst [.ref lg,.ref p4])=H5 at s5 h4 h5 ⊢;have np:∀ {b:Addr},H2 b=none→b≠p:=fun {b} e=>by obtain ⟨_,_,_,e',_⟩:=S2;exact Ne.symm (zA5 e' e)
   have S5:Src H5 p (k + 2 * (fs.length:Int)):=src S2 fun o e=>s5 _ _ e;refine ⟨_,rfl,p,_,_,rfl,S5,by omega,by decide,by decide,fun r H6 r0 r1 S6 k6=>?_⟩;have frame:∀ b o,H b=some o→b≠p→H6 b=some o:=fun b o e nb=>by
    rw [k6 b nb];exact s5 _ _ (fr b o e nb)
   have hys6:HasAll (fun a=>H a=none) H6 ys (cs.map careD):=hys.frame fun b o g e=>⟨g.1,by
    have nb:b≠p:=by rintro rfl;obtain ⟨_,_,_,e',_⟩:=S0;rw [e'] at g;exact nomatch g.1
    rw [k6 b nb]
    exact s5 _ _ e⟩
   have back:∀ {b:Addr},H2 b=none→H b=none:=fun {b} e=>by
    cases z:H b with
    | none=>rfl
    | some o=>rw [fr _ _ z (np e)] at e;cases e
   have hp5:H6 p5=some (.lst [.ref lg,.ref p4]):=by rw [k6 _ (np n5)];exact h5
   by_cases c:r=0
   ·subst c;refine ⟨p5,_,0,_,rfl,rfl,SqL.of hp5,rfl,q lg cs H6 cok (.lst hlg ?_ (by omega) hys6) (S6.mono (by omega)) frame⟩;rw [k6 _ ngp];exact s5 _ _ hg2
   ·obtain rfl:r=1:=by omega
    refine ⟨p5,_,1,_,rfl,rfl,SqL.of hp5,rfl,q p4 cs.reverse H6 cok.rev (.lst (xs:=ys.reverse) (back f4) ?_ (by rw [List.length_reverse];omega) ?_) (S6.mono (by omega)) frame⟩
    ·rw [k6 _ (np f4)];exact h4
    ·rw [List.map_reverse];exact zDy hys6
end
end L2.W
namespace L2.W
open PySem My
noncomputable def spRows:Sp:=fun vs H Q _=>∃ (p l:Addr) (rs:List Row) (k:Int),vs=[.ref p,.ref l]∧Src H p k∧k≤890000∧Has (fun a=>a≠p) H (.ref l) (.list (rs.map rowD))∧RowsOk rs ∧
 ∀ (lw:Addr) (ys:List V) (ws:List WRow) (H':Hp),(∀ w∈ws,WOk rs w)→ws.length≤6→H lw=none→H' lw=some (.lst ys)→HasAll (fun a=>H a=none∧a≠lw) H' ys (ws.map wD)→Src H' p (k + 100)→(∀ b o,H b=some o→b≠p→H' b=some o)→Q (.ref lw) H'
noncomputable def spFew:Sp:=fun vs H Q _=>∃ (p l:Addr) (rs:List Row) (k:Int),vs=[.ref p,.ref l]∧Src H p k∧k≤890000∧Has (fun a=>a≠p) H (.ref l) (.list (rs.map rowD))∧RowsOk rs ∧
 ∀ (lw:Addr) (ws:List WRow) (H':Hp),(∀ w∈ws,WOk rs w)→ws.length≤6→(rs.map fun r=>cnt rs ws r.name).sum≤60→Has (fun a=>H a=none) H' (.ref lw) (.list (ws.map wD))→Src H' p (k + 200)→(∀ b o,H b=some o→b≠p→H' b=some o)→Q (.ref lw) H'
theorem hasAll_neF {G:Addr→Prop}{H:Hp}{xs:List V}{fs:List (Str×List Str)}{a b c:Int} (h:HasAll G H xs (fs.map fieldD)):HO.lst xs≠HO.lst [.int a,.int b,.int c]:=by
 intro z;injection z with z;subst z;cases fs with
 | nil=>cases h
 | cons r t =>
  cases h with
  | cons h _=>exact nomatch h
theorem at3 {r:Int} (h0:0≤r) (h1:r < 3):∃ m:Int,atI ([.int 2,.int 3,.int 12]:List V) r=some (.int m)∧2≤m∧m≤12:=by
 have:r=0∨r=1∨r=2:=by omega
 rcases this with rfl | rfl | rfl
 ·exact ⟨2,rfl,by decide,by decide⟩
 ·exact ⟨3,rfl,by decide,by decide⟩
 ·exact ⟨12,rfl,by decide,by decide⟩
theorem each_le2 {ws:List WRow}{rs:List Row} (h:∀ w∈ws,WOk rs w) (hl:ws.length≤6) (k:Str):each ws k≤100000:=by
 have:=zGp (k:=k) fun w hw=>(h w hw).hi;omega
theorem zE7 {G:Addr→Prop}{H:Hp}:∀ (n:Nat) {xs:List V}{ds:List PyData},HasAll G H xs ds→HasAll G H (xs.eraseIdx n) (ds.eraseIdx n)
 | _,_,_,.nil=>.nil
 | 0,_,_,.cons _ t=>t
 | n + 1,_,_,.cons a t=>.cons a (zE7 n t)
section
variable {P:Program}{w:World}{K:PySem.W.Frag}{mg:Str→Option Value}{base:Heap}{CX:CXT}
theorem scRw:FnScope ["_law_source", "_law_specs_here", "_law_got", "_law_k", "_law_name", "_law_fields_here", "_law_owner", "_law_many_here"] ["_law_source", "_law_specs_here"] (defScope sRows):=⟨rfl,rfl,rfl,by decide +kernel,rfl,by decide +kernel,by decide +kernel⟩
theorem ok_rows {f fm fn fc:Addr}{fd fdm fdn fdc:FuncData} (hC:Calm CX) (T:Tops K mg) (F:Fun K "_law_rows" "_law_rows" sRows f fd) (DM:Def K mg "_law_mixed" sMixed ["_law_cell", "_law_k"] fm fdm)
  (DN:Def K mg "_law_next" sNext ["_law_source", "_law_many_here"] fn fdn) (DC:Def K mg "_law_cares" sCares ["_law_source", "_law_fields_here"] fc fdc):FnOk P w K mg base CX 4 f fd ["_law_source", "_law_specs_here"] spRows:=by
 have GN:FnOk P w K mg base CX 2 fn fdn ["_law_source", "_law_many_here"] spNext:=zBy hC DN.fn DM;have GC:FnOk P w K mg base CX 3 fc fdc ["_law_source", "_law_fields_here"] spCares:=ok_cares hC T DC.fn DM DN;refine Fun.okC F scRw (fun vs H Q E h=>?_) (fun cdv A outer s H vs Q E hr h=>?_)
 ·obtain ⟨p,l,rs,k,rfl,_⟩:=h;rfl
 ·obtain ⟨p,l,rs,k,rfl,S0,hk,hd,ok,q⟩:=h;have nd:=scRw.nd;have hr2:=hr.mono (show 2≤3 by decide)
  refine ⟨_,zA3 (zAb (i:=2) nd rfl (Or.inl rfl) (zAg zA2))
   (zA3 (zBj PassesOwn.never rfl (zCd rfl T.range (zA0 (zA7 GN hr2 rfl DN.at_ DN.fn.kp DN.bind .nil (passC hC) (zA0 (pv 0) (zA0 zA4 zA2))) zA2)) (zAa (i:=3) nd rfl (Or.inl rfl))
    (zA3 (zEm (zAi zAk (pv 1) (zA7 GN hr2 rfl DN.at_ DN.fn.kp DN.bind .nil (passC hC) (zA0 (pv 0) (zA0 (zA9 zAe rfl T.len PySem.boot_len (zA0 (pv 1) zA2)) zA2))) (fun _ _=>rfl)) (zCb rfl (zAf (zAa (i:=4) nd rfl (Or.inl rfl)) (zAf (zAa (i:=5) nd rfl (Or.inl rfl)) (zAf (zAa (i:=6) nd rfl (Or.inl rfl)) zBc)))))
    (zA3 (zAb (i:=7) nd rfl (Or.inl rfl) (zAp zBu zA4 (zA7 GN hr2 rfl DN.at_ DN.fn.kp DN.bind .nil (passC hC) (zA0 (pv 0) (zA0 (zAi zAk (zAg (zA0 zA4 (zA0 zA4 (zA0 zA4 zA2)))) (zA7 GN hr2 rfl DN.at_ DN.fn.kp DN.bind .nil (passC hC) (zA0 (pv 0) (zA0 zA4 zA2))) (fun _ _=>rfl)) zA2)))))
    (zA6 (zBx (zCv PySem.F.plainAttrs_list PySem.F.slot_list_append PySem.F.type_list_append zCk (pv 2) (zA0 (zAs (zA0 (pv 4) (zA0 (pv 7) (zA0 (zA7 GC hr rfl DC.at_ DC.fn.kp DC.bind .nil (passC hC) (zA0 (pv 0) (zA0 (pv 5) zA2))) zA2)))) zA2)))))))
   (zA6 (zAc (pv 2)))),?_⟩
  have small:∀ n:Nat,n≤1000→n≤sizeLine:=fun n h=>Zm (small1000 h);have src:∀ {H1 H2:Hp}{j:Int},Src H1 p j→(∀ o,H1 p=some o→H2 p=some o)→Src H2 p j:=fun ⟨a,c,i,e,r⟩ h=>⟨a,c,i,h _ e,r⟩;have tne:∀ {H1:Hp}{j:Int}{b:Addr}{o:HO},Src H1 p j→H1 b=some o→(∀ a b c:Int,o≠.lst [.int a,.int b,.int c])→b≠p:=fun ⟨_,_,_,e',_⟩ e h=>zBe e e' (h _ _ _);obtain ⟨l',xs,e,nl,hl,hz,hx⟩:=hd.list_inv;cases e;have xl:xs.length=rs.length:=by rw [hx.length,Z0]
  have r5:=ok.le;have r0':=ok.ne;refine ⟨Zo _,fun lg hlg=>?_⟩;have ngp:lg≠p:=by obtain ⟨_,_,_,e,_⟩:=S0;exact Ne.symm (zA5 e hlg)
  have S0g:Src (upd H lg (.lst [])) p k:=src S0 fun o e=>(Same.new hlg) _ _ e;refine ⟨_,rfl,p,_,k,rfl,S0g,by omega,by decide,by decide,fun r H1 r0 r1 S1 k1=>⟨r,rfl,by omega,by omega,?_⟩⟩;obtain ⟨m,rfl⟩:∃ m:Nat,r=(m:Int):=⟨r.toNat,by omega⟩;have hg1:H1 lg=some (.lst []):=by rw [k1 _ ngp];exact zA1
  have fr1:∀ b o,H b=some o→b≠p→H1 b=some o:=fun b o e nb=>by rw [k1 b nb];exact (Same.new hlg) _ _ e
  refine for_range (fun i σ H2=>∃ (ws:List WRow) (ys:List V) (x3 x4 x5 x6 x7:Option V),σ = [some (.ref p),some (.ref l),some (.ref lg),x3,x4,x5,x6,x7]∧H2 lg=some (.lst ys)∧HasAll (fun a=>H a=none∧a≠lg) H2 ys (ws.map wD)∧ws.length=i∧(∀ w∈ws,WOk rs w)∧Src H2 p (k + 1 + 14 * (i:Int))∧(∀ b o,H b=some o→b≠p→H2 b=some o))
   ⟨[],[],none,none,none,none,none,rfl,hg1,.nil,rfl,(fun w h=>nomatch h),S1.mono (by omega),fr1⟩ ?_ ?_
  ·rintro i σ H2 hi ⟨ws,ys,x3,x4,x5,x6,x7,rfl,hg2,hys,wsl,wok,S2,fr⟩;have i6:i < 6:=by rw [Ym] at hi;omega
   refine ⟨_,rfl,_,rfl,_,rfl,l,xs,rfl,.inl (SqL.of (fr _ _ hl nl)),p,_,_,rfl,S2,by omega,by omega,by omega,fun r2 H3 a0 a1 S3 k3=>?_⟩;obtain ⟨j,rfl⟩:∃ j:Nat,r2=(j:Int):=⟨r2.toNat,by omega⟩;obtain ⟨y,ey⟩:∃ y,xs[j]? = some y:=⟨_,Z1 (by omega)⟩;obtain ⟨dd,hdd,hv⟩:=hx.get ey;rw [Z4] at hdd;obtain ⟨r,er,rfl⟩:=Option.map_eq_some_iff.mp hdd;have mr:=Z3 er;obtain ⟨onm,ofs⟩:=ok.ok r mr;obtain ⟨t,lf,rfl,ht,hf⟩:=zEj hv;obtain ⟨lf',fxs,e,_,hlf,_,hfx⟩:=id hf.list_inv;cases e;have ntp:t≠p:=tne S0 ht (fun _ _ _ z=>nomatch z);have nfp:lf≠p:=tne S0 hlf (fun _ _ _=>hasAll_neF hfx);have fr3:∀ b o,H b=some o→b≠p→H3 b=some o:=fun b o e nb=>by rw [k3 b nb];exact fr b o e nb
   refine ⟨l,xs,(j:Int),_,rfl,rfl,SqL.of (fr3 _ _ hl nl),zB1 ey,?_⟩;refine ⟨t,_,rfl,SqT.of (fr3 _ _ ht ntp),rfl,_,_,rfl,_,_,rfl,_,_,rfl,rfl,?_⟩;have hg3:H3 lg=some (.lst ys):=by rw [k3 _ ngp];exact hg2
   refine ⟨_,rfl,by show 3≤sizeLine;decide,fun l3 hl3=>?_⟩;have s4:Same H3 (upd H3 l3 (.lst [.int 2,.int 3,.int 12])):=Same.new hl3;have e4:(upd H3 l3 (.lst [.int 2,.int 3,.int 12])) l3=some (.lst [.int 2,.int 3,.int 12]):=zA1;generalize upd H3 l3 (.lst [.int 2,.int 3,.int 12])=H4 at s4 e4 ⊢;have n3p:l3≠p:=by obtain ⟨_,_,_,e,_⟩:=S3;exact Ne.symm (zA5 e hl3)
   have S4:=src S3 fun o e=>s4 _ _ e;refine ⟨_,rfl,p,_,_,rfl,S4,by omega,by decide,by decide,fun r5 H5 b0 b1 S5 k5=>?_⟩;obtain ⟨mm,em,m0,m1⟩:=at3 b0 b1;refine ⟨l3,_,r5,_,rfl,rfl,SqL.of (by rw [k5 _ n3p];exact e4),em,p,mm,_,rfl,S5,by omega,by omega,by omega,fun r6 H6 c0 c1 S6 k6=>⟨_,_,rfl,rfl,?_⟩⟩;obtain ⟨jj,rfl⟩:∃ j:Nat,r6=(j:Int):=⟨r6.toNat,by omega⟩;have k36:∀ b o,H3 b=some o→b≠p→H6 b=some o:=fun b o e nb=>by rw [k6 b nb,k5 b nb];exact s4 _ _ e
   have hg6:=k36 _ _ hg3 ngp;have fr6:∀ b o,H b=some o→b≠p→H6 b=some o:=fun b o e nb=>k36 _ _ (fr3 b o e nb) nb;refine ⟨_,rfl,.inl ⟨rfl,_,SqL.of hg6⟩,_,rfl,_,rfl,_,rfl,_,rfl,p,lf,r.fields,_,rfl,S6,by omega,hf.frame (fun b o g e=>⟨trivial,fr6 _ _ e g⟩),ofs,nfp,fun lc cs H7 cok hcs S7 k7=>?_⟩;have yl:ys.length=ws.length:=by rw [hys.length,Z0]
   have hg7:=k7 _ _ hg6 ngp;refine ⟨by show 3≤sizeLine;decide,fun t3 ht3=>⟨lg,_,_,rfl,rfl,(Same.new ht3) _ _ hg7,by exact small1000 (by omega),?_⟩⟩;have nt3:t3≠lg:=Ne.symm (zA5 hg7 ht3);have nt3p:t3≠p:=by obtain ⟨_,_,_,e,_⟩:=S7;exact Ne.symm (zA5 e ht3)
   have fr7:∀ b o,H b=some o→b≠p→H7 b=some o:=fun b o e nb=>k7 _ _ (fr6 _ _ e nb) nb;have free:H t3=none:=by
    cases z:H t3 with
    | none=>rfl
    | some o=>rw [fr7 _ _ z nt3p] at ht3;cases ht3
   have bk6:∀ b,H6 b=none→H b=none∧b≠lg:=fun b e=>by
    have nbp:b≠p:=by obtain ⟨_,_,_,e',_⟩:=S6;exact Ne.symm (zA5 e' e)
    refine ⟨?_,Ne.symm (zA5 hg6 e)⟩;cases z:H b with
    | none=>rfl
    | some o=>rw [fr6 _ _ z nbp] at e;cases e
   have eI:(1:Int) + (jj:Int)=((1 + jj:Nat):Int):=by push_cast;rfl
   have fr8:∀ b o,H7 b=some o→b≠lg→(upd (upd H7 t3 (.tup [.str r.name,.int (1 + (jj:Int)),.ref lc])) lg (.lst (ys++[.ref t3]))) b=some o:=fun b o e nb=>by rw [zA8 nb];exact (Same.new ht3) _ _ e
   refine ⟨ws++[⟨r.name,1 + jj,cs⟩],ys++[.ref t3],_,_,_,_,_,rfl,zA1,?_,by rw [Z7,wsl];rfl,fun w' hw'=>?_,?_,fun b o e nb=>fr8 _ _ (fr7 _ _ e nb) (zA5 e hlg)⟩
   ·rw [Za];have np0:∀ {b},H b=none→b≠p:=fun {b} g=>by rintro rfl;obtain ⟨_,_,_,e',_⟩:=S0;rw [e'] at g;exact nomatch g
    refine HasAll.snoc (hys.frame fun b o g e=>⟨g,fr8 _ _ (k7 _ _ (k36 _ _ (by rw [k3 b (np0 g.1)];exact e) (np0 g.1)) (np0 g.1)) g.2⟩) ?_;refine .tup (xs:=[.str r.name,.int (1 + (jj:Int)),.ref lc]) ⟨free,nt3⟩ (by rw [zA8 nt3];exact zA1) (by show 3≤1000;decide) (.cons (.str r.name (by have:=onm.2.2;omega) onm.2.1) (.cons ?_ (.cons (hcs.frame fun b o g e=>⟨bk6 b g,fr8 _ _ e (bk6 b g).2⟩) .nil)));rw [eI];exact .int _
   ·rcases List.mem_append.mp hw' with hw' | hw'
    ·exact wok w' hw'
    ·rw [List.mem_singleton.mp hw'];exact ⟨⟨r,(ok.row mr).1,cok.ok⟩,onm,by show 1≤1 + jj;omega,by show 1 + jj≤60;omega,cok.nd,by show cs.length≤10;have:=cok.le;omega⟩
   ·exact src (S7.mono (by push_cast;omega)) fun o e=>fr8 _ _ e (Ne.symm ngp)
  ·rintro σ H2 ⟨ws,ys,x3,x4,x5,x6,x7,rfl,hg2,hys,wsl,wok,S2,fr⟩;rw [Ym] at wsl;exact ⟨_,rfl,q lg ys ws H2 wok (by omega) hlg hg2 hys (S2.mono (by rw [Ym];omega)) fr⟩
theorem cnt_nil {rs:List Row}:∀ (n:Nat) (k:Str),cntF rs [] n k=0
 | 0,_=>rfl
 | n + 1,k=>by
  unfold cntF;rw [show each [] k=0 from rfl,Nat.mul_zero]
theorem sum_nil {rs:List Row}:∀ l:List Row,(l.map fun r=>cnt rs [] r.name).sum=0
 | []=>rfl
 | a :: t=>by rw [Z8,Yh,sum_nil t];show cntF rs [] 6 a.name + 0=0;rw [cnt_nil]
theorem erase_map {α β : Type} (f : α→β):∀ (l:List α) (n:Nat),(l.eraseIdx n).map f=(l.map f).eraseIdx n
 | [],_=>rfl
 | _ :: _,0=>rfl
 | a :: t,n + 1=>by rw [Z8,List.eraseIdx_cons_succ,List.eraseIdx_cons_succ,Z8,erase_map f t n]
theorem seqIx {j n:Nat} (h:j < n):PySem.seqIndex? (j:Int) n=some j:=by
 have:=PySem.StrLaws.seqIndex_nonneg (i:=(j:Int)) (n:=n) (by omega) (by omega);rw [Ym] at this;exact this
theorem scFw:FnScope ["_law_source", "_law_specs_here", "_law_rows_here"] ["_law_source", "_law_specs_here"] (defScope sFew):=⟨rfl,rfl,rfl,by decide +kernel,rfl,by decide +kernel,by decide +kernel⟩
theorem ok_few {f fm fn fc fr fy:Addr}{fd fdm fdn fdc fdr fdy:FuncData} (hC:Calm CX) (T:Tops K mg) (F:Fun K "_law_few_rows" "_law_few_rows" sFew f fd) (DM:Def K mg "_law_mixed" sMixed ["_law_cell", "_law_k"] fm fdm)
  (DN:Def K mg "_law_next" sNext ["_law_source", "_law_many_here"] fn fdn) (DC:Def K mg "_law_cares" sCares ["_law_source", "_law_fields_here"] fc fdc) (DR:Def K mg "_law_rows" sRows ["_law_source", "_law_specs_here"] fr fdr) (DY:Def K mg "_law_many" sMany ["_law_specs_here", "_law_rows_here"] fy fdy):FnOk P w K mg base CX 5 f fd ["_law_source", "_law_specs_here"] spFew:=by
 have GN:FnOk P w K mg base CX 2 fn fdn ["_law_source", "_law_many_here"] spNext:=zBy hC DN.fn DM;have GR:FnOk P w K mg base CX 4 fr fdr ["_law_source", "_law_specs_here"] spRows:=ok_rows hC T DR.fn DM DN DC;have GM:FnOk P w K mg base CX 1 fy fdy ["_law_specs_here", "_law_rows_here"] spMany:=ok_many T DY.fn;refine Fun.okC F scFw (fun vs H Q E h=>?_) (fun cdv A outer s H vs Q E hr h=>?_)
 ·obtain ⟨p,l,rs,k,rfl,_⟩:=h;rfl
 ·obtain ⟨p,l,rs,k,rfl,S0,hk,hd,ok,q⟩:=h;have nd:=scFw.nd;have hr1:=hr.mono (show 1≤4 by decide);have hr2:=hr.mono (show 2≤4 by decide)
  refine ⟨_,zA3 (zAb (i:=2) nd rfl (Or.inl rfl) (zA7 GR hr rfl DR.at_ DR.fn.kp DR.bind .nil (passC hC) (zA0 (pv 0) (zA0 (pv 1) zA2))))
   (zA3 (zEe PassesOwn.never (zAj zGd (zA7 GM hr1 rfl DY.at_ DY.fn.kp DY.bind .nil (passC hC) (zA0 (pv 1) (zA0 (pv 2) zA2))) zA4 (nomark _))
    (zA6 (zBx (zCv PySem.F.plainAttrs_list PySem.F.slot_list_pop PySem.F.type_list_pop mt_popAt (pv 2) (zA0 (zA7 GN hr2 rfl DN.at_ DN.fn.kp DN.bind .nil (passC hC) (zA0 (pv 0) (zA0 (zA9 zAe rfl T.len PySem.boot_len (zA0 (pv 2) zA2)) zA2))) zA2)))))
   (zA6 (zAc (pv 2)))),?_⟩
  have src:∀ {H1 H2:Hp}{j:Int},Src H1 p j→(∀ o,H1 p=some o→H2 p=some o)→Src H2 p j:=fun ⟨a,c,i,e,r⟩ h=>⟨a,c,i,h _ e,r⟩;refine ⟨_,rfl,_,rfl,p,l,rs,k,rfl,S0,hk,hd,ok,fun lw ys ws H1 wok wsl hlw hg1 hys S1 fr1=>?_⟩;have np0:∀ {b},H b=none→b≠p:=fun {b} g=>by rintro rfl;obtain ⟨_,_,_,e',_⟩:=S0;rw [e'] at g;exact nomatch g
  have nwp:=np0 hlw
  refine ⟨fun m σ H2=>∃ (ws:List WRow) (ys:List V),m=ws.length∧σ = [some (.ref p),some (.ref l),some (.ref lw)]∧H2 lw=some (.lst ys)∧HasAll (fun a=>H a=none∧a≠lw) H2 ys (ws.map wD)∧(∀ w∈ws,WOk rs w)∧ws.length≤6∧Src H2 p (k + 106 - (ws.length:Int))∧(∀ b o,H b=some o→b≠p→H2 b=some o),
   ⟨_,ws,ys,rfl,rfl,hg1,hys,wok,wsl,S1.mono (by omega),fr1⟩,?_⟩
  clear wok wsl hg1 hys S1 fr1;rintro m σ H2 ⟨ws,ys,rfl,rfl,hg2,hys,wok,wsl,S2,fr⟩;have yl:ys.length=ws.length:=by rw [hys.length,Z0]
  refine ⟨_,rfl,_,rfl,l,lw,rs,ws,rfl,hd.frame (fun b o g e=>⟨trivial,fr _ _ e g⟩),ok,.lst trivial hg2 (by omega) (hys.frame fun b o g e=>⟨trivial,e⟩),each_le2 wok wsl,fun H3 s3=>⟨_,_,rfl,rfl,_,rfl,?_⟩⟩;have fr3:∀ b o,H b=some o→b≠p→H3 b=some o:=fun b o e nb=>s3 _ _ (fr b o e nb);have hg3:=s3 _ _ hg2;have S3:=src S2 fun o e=>s3 _ _ e;refine ite2 (fun c1=>?_) (fun c1=>?_)
  ·have c2:=of_decide_eq_true c1;have ne:0 < ws.length:=by
    cases ws with
    | nil=>rw [sum_nil] at c2;omega
    | cons a t=>simp
   refine ⟨fun σ' H'=>∃ m',m' < ws.length∧∃ (ws:List WRow) (ys:List V),m'=ws.length∧σ'=[some (.ref p),some (.ref l),some (.ref lw)]∧H' lw=some (.lst ys)∧HasAll (fun a=>H a=none∧a≠lw) H' ys (ws.map wD)∧(∀ w∈ws,WOk rs w)∧ws.length≤6∧Src H' p (k + 106 - (ws.length:Int))∧(∀ b o,H b=some o→b≠p→H' b=some o),fun _ _ h=>h,?_⟩;refine ⟨_,rfl,.inl ⟨rfl,_,SqL.of hg3⟩,_,rfl,_,rfl,lw,ys,rfl,.inl (SqL.of hg3),p,_,_,rfl,S3,by omega,by omega,by omega,fun r H4 r0 r1 S4 k4=>?_⟩;obtain ⟨j,rfl⟩:∃ j:Nat,r=(j:Int):=⟨r.toNat,by omega⟩;have jl:j < ys.length:=by omega
   obtain ⟨y,ey⟩:∃ y,ys[j]? = some y:=⟨_,Z1 jl⟩;have hg4:H4 lw=some (.lst ys):=by rw [k4 _ nwp];exact hg3
   refine ⟨lw,ys,(j:Int),j,y,rfl,rfl,hg4,by omega,by omega,seqIx jl,ey,?_⟩;have el:(ws.eraseIdx j).length=ws.length - 1:=List.length_eraseIdx_of_lt (by omega);refine ⟨_,?_,ws.eraseIdx j,ys.eraseIdx j,rfl,rfl,zA1,?_,fun w' hw'=>wok w' (List.mem_of_mem_eraseIdx hw'),by omega,?_,fun b o e nb=>?_⟩
   ·omega
   ·rw [erase_map];refine zE7 j (hys.frame fun b o g e=>⟨g,?_⟩);rw [zA8 g.2,k4 b (np0 g.1)];exact s3 _ _ e
   ·rw [el];exact src (S4.mono (by omega)) fun o e=>by rw [zA8 (Ne.symm nwp)];exact e
   ·rw [zA8 (zA5 e hlw),k4 b nb];exact fr3 _ _ e nb
  ·have c2:(rs.map fun r=>cnt rs ws r.name).sum≤60:=by
    refine Nat.le_of_not_lt fun z=>c1 (decide_eq_true ?_);omega
   exact ⟨_,rfl,q lw ws H3 wok wsl c2 (.lst hlw hg3 (by omega) (hys.frame fun b o g e=>⟨g.1,s3 _ _ e⟩)) (S3.mono (by omega)) fr3⟩
end
end L2.W
namespace L2.W
open PySem My
noncomputable def od0 (n:Str):List PyData:=[.str "qq",.str "",.none,.int 7,.list [.str n],.str (n++".")]
noncomputable def od1:List PyData:=[.int 0,.int 61,.int (-1),.bool true,.none,.str "1",.list [.int 1],.int (10 ^ 9)]
noncomputable def od2 (n:Str):List PyData:=[.tuple [.str n,.int 1],.tuple [.str n,.int 1,.list [],.list []],.list [.str n,.int 1,.list []],.str n,.none,.tuple [.str n,.int 1,.none],.tuple [.str n,.int 1,.tuple []]]
theorem zEk {rs:List Row}{n:Str} (h:∀ r∈rs,r.name≠n):rowAt rs (.str n)=none:=by
 show rs.find? (fun r=>decide (r.name=n))=none;rw [List.find?_eq_none];intro r hr e;exact h r hr (of_decide_eq_true e)
theorem od0_ok {rs:List Row} (ok:RowsOk rs) {n:Str}:∀ d∈od0 n,rowAt rs d=none:=by
 intro d hd;simp only [od0,Zw,Zp,or_false] at hd;rcases hd with rfl | rfl | rfl | rfl | rfl | rfl
 ·exact zEk ok.nq
 ·exact zEk fun r hr e=>by
   have:=(ok.ok r hr).1.1;rw [e] at this;exact absurd this (by decide +kernel)
 ·rfl
 ·rfl
 ·rfl
 ·exact zEk fun r hr e=>name_free (ok.ok r hr).1 46 (by rw [e,zB5];exact Zx _ (by decide +kernel)) rfl
theorem od1_ok:∀ d∈od1,manyB d=false:=by
 intro d hd;simp only [od1,Zw,Zp,or_false] at hd;rcases hd with rfl | rfl | rfl | rfl | rfl | rfl | rfl | rfl <;> decide
theorem rowB_none {rs:List Row}{a m c:PyData} (h:rowAt rs a=none):rowB rs (.tuple [a,m,c])=false:=by rw [rowB3,h]
theorem rowB_many {rs:List Row}{a m c:PyData} (h:manyB m=false):rowB rs (.tuple [a,m,c])=false:=by
 rw [rowB3];cases rowAt rs a with
 | none=>rfl
 | some r =>
  show (manyB m && _)=false;rw [h];rfl
theorem zCo {rs:List Row}{r:Row}{n:Str}{m c:PyData} (e:rowAt rs (.str n)=some r) (h:caresB r.fields c=false):rowB rs (.tuple [.str n,m,c])=false:=by
 rw [rowB3,e];show (_ && caresB r.fields c)=false;rw [h,Y4]
theorem od2_ok {rs:List Row}{r:Row}{n:Str} (e:rowAt rs (.str n)=some r):∀ d∈od2 n,rowB rs d=false:=by
 intro d hd;simp only [od2,Zw,Zp,or_false] at hd;rcases hd with rfl | rfl | rfl | rfl | rfl | rfl | rfl
 ·rfl
 ·rfl
 ·rfl
 ·rfl
 ·rfl
 ·exact zCo e rfl
 ·exact zCo e rfl
theorem cares_twice {fs:List (Str×List Str)}{f a b:Str}:caresB fs (.list [.tuple [.str f,.str a],.tuple [.str f,.str b]])=false:=by
 show (_ && unlikeB [.str f,.str f])=false;have:unlikeB [.str f,.str f]=false:=by
  show (_ && decide (List.Nodup [f,f]))=false;rw [decide_eq_false (by simp),Y4]
 rw [this,Y4]
theorem cares_in {fs:List (Str×List Str)}{ds:List PyData}{d:PyData} (hd:d∈ds) (h:pairOfB fs d=false):caresB fs (.list ds)=false:=by
 show (ds.all (pairOfB fs) && _)=false;rw [List.all_eq_false.mpr ⟨d,hd,by rw [h];decide⟩];rfl
theorem cut_take {xs:List V}{j:Nat} (h:j≤xs.length):cutV xs none (some (j:Int))=xs.take j:=by
 have n:¬ ((j:Int) < 0):=by omega
 unfold cutV HT.sIx;simp [n,Nat.min_eq_left h]
theorem cut_drop {xs:List V}{j:Nat} (h:j≤xs.length):cutV xs (some (j:Int)) none=xs.drop j:=by
 have n:¬ ((j:Int) < 0):=by omega
 unfold cutV HT.sIx;simp [n,Nat.min_eq_left h];rw [List.take_of_length_le (by rw [Yo];omega)]
noncomputable def spOddR:Sp:=fun vs H Q _=>∃ (p l:Addr) (rs:List Row) (k:Int),vs=[.ref p,.ref l]∧Src H p k∧k≤890000∧Has (fun a=>a≠p) H (.ref l) (.list (rs.map rowD))∧RowsOk rs ∧
 ∀ (y:V) (d:PyData) (H':Hp),rowB rs d=false→Has (fun a=>H a=none) H' y d→Src H' p (k + 30)→(∀ b o,H b=some o→b≠p→H' b=some o)→Q y H'
section
variable {P:Program}{w:World}{K:PySem.W.Frag}{mg:Str→Option Value}{base:Heap}{CX:CXT}
theorem scOdR:FnScope ["_law_source", "_law_specs_here", "_law_name", "_law_fields_here", "_law_owner", "_law_way", "_law_some", "_law_field", "_law_values", "_law_cares_here", "_law_at"] ["_law_source", "_law_specs_here"] (defScope sOddRow):=⟨rfl,rfl,rfl,by decide +kernel,rfl,by decide +kernel,by decide +kernel⟩
set_option maxHeartbeats 4000000 in
theorem ok_oddR {f fm fn fc fo:Addr}{fd fdm fdn fdc fdo:FuncData} (hC:Calm CX) (T:Tops K mg) (F:Fun K "_law_odd_row" "_law_odd_row" sOddRow f fd) (DM:Def K mg "_law_mixed" sMixed ["_law_cell", "_law_k"] fm fdm)
  (DN:Def K mg "_law_next" sNext ["_law_source", "_law_many_here"] fn fdn) (DC:Def K mg "_law_cares" sCares ["_law_source", "_law_fields_here"] fc fdc) (DO:Def K mg "_law_odd_cares" sOddCares ["_law_source", "_law_fields_here"] fo fdo):FnOk P w K mg base CX 4 f fd ["_law_source", "_law_specs_here"] spOddR:=by
 have GN:FnOk P w K mg base CX 2 fn fdn ["_law_source", "_law_many_here"] spNext:=zBy hC DN.fn DM;have GC:FnOk P w K mg base CX 3 fc fdc ["_law_source", "_law_fields_here"] spCares:=ok_cares hC T DC.fn DM DN;have GO:FnOk P w K mg base CX 3 fo fdo ["_law_source", "_law_fields_here"] spOddC:=ok_oddC hC T DO.fn DM DN;refine Fun.okC F scOdR (fun vs H Q E h=>?_) (fun cdv A outer s H vs Q E hr h=>?_)
 ·obtain ⟨p,l,rs,k,rfl,_⟩:=h;rfl
 ·obtain ⟨p,l,rs,k,rfl,S0,hk,hd,ok,q⟩:=h;have nd:=scOdR.nd;have hr2:=hr.mono (show 2≤3 by decide)
  refine ⟨_,zA3 (zEm (zAi zAk (pv 1) (zA7 GN hr2 rfl DN.at_ DN.fn.kp DN.bind .nil (passC hC) (zA0 (pv 0) (zA0 (zA9 zAe rfl T.len PySem.boot_len (zA0 (pv 1) zA2)) zA2))) (fun _ _=>rfl)) (zCb rfl (zAf (zAa (i:=2) nd rfl (Or.inl rfl)) (zAf (zAa (i:=3) nd rfl (Or.inl rfl)) (zAf (zAa (i:=4) nd rfl (Or.inl rfl)) zBc)))))
     (zA3 (zAb (i:=5) nd rfl (Or.inl rfl) (zA7 GN hr2 rfl DN.at_ DN.fn.kp DN.bind .nil (passC hC) (zA0 (pv 0) (zA0 zA4 zA2))))
     (zA3 (zAx (zAj zDw (pv 5) zA4 (nomark _))
     (zA6 (zAc (zAs (zA0 (zAi zAk (zAg (zA0 zBa (zA0 zBa (zA0 zBk (zA0 zA4 (zA0 (zAg (zA0 (pv 2) zA2)) (zA0 (zAp op_add_str (pv 2) zBa) zA2))))))) (zA7 GN hr2 rfl DN.at_ DN.fn.kp DN.bind .nil (passC hC) (zA0 (pv 0) (zA0 zA4 zA2))) (fun _ _=>rfl)) (zA0 zA4 (zA0 (zAg zA2) zA2)))))) zAd)
     (zA3 (zAx (zAj zDw (pv 5) zA4 (nomark _))
     (zA6 (zAc (zAs (zA0 (pv 2) (zA0 (zAi zAk (zEs (d:=.list od1) 9 (by kernel_rfl)) (zA7 GN hr2 rfl DN.at_ DN.fn.kp DN.bind .nil (passC hC) (zA0 (pv 0) (zA0 zA4 zA2))) (fun _ _=>rfl)) (zA0 (zAg zA2) zA2)))))) zAd)
     (zA3 (zAx (zAj zDw (pv 5) zA4 (nomark _))
     (zA3 (zAb (i:=6) nd rfl (Or.inl rfl) (zAg (zA0 (zAs (zA0 (pv 2) (zA0 zA4 zA2))) (zA0 (zAs (zA0 (pv 2) (zA0 zA4 (zA0 (zAg zA2) (zA0 (zAg zA2) zA2))))) (zA0 (zAg (zA0 (pv 2) (zA0 zA4 (zA0 (zAg zA2) zA2)))) (zA0 (pv 2) (zA0 zBk (zA0 (zAs (zA0 (pv 2) (zA0 zA4 (zA0 zBk zA2)))) (zA0 (zAs (zA0 (pv 2) (zA0 zA4 (zA0 (zAs zA2) zA2)))) zA2)))))))))
     (zA6 (zAc (zAi zAk (pv 6) (zA7 GN hr2 rfl DN.at_ DN.fn.kp DN.bind .nil (passC hC) (zA0 (pv 0) (zA0 zA4 zA2))) (fun _ _=>rfl))))) zAd)
     (zA3 (zAx (PW.pt (zEl (zAj zDw (pv 5) zA4 (nomark _)) (zD0 (zAj (op_neD hr.units) (pv 3) (zAg zA2) (nomark _)))))
     (zA3 (zEm (zAi zAk (pv 3) (zA7 GN hr2 rfl DN.at_ DN.fn.kp DN.bind .nil (passC hC) (zA0 (pv 0) (zA0 (zA9 zAe rfl T.len PySem.boot_len (zA0 (pv 3) zA2)) zA2))) (fun _ _=>rfl)) (zCb rfl (zAf (zAa (i:=7) nd rfl (Or.inl rfl)) (zAf (zAa (i:=8) nd rfl (Or.inl rfl)) zBc))))
     (zA6 (zAc (zAs (zA0 (pv 2) (zA0 zA4 (zA0 (zAg (zA0 (zAs (zA0 (pv 7) (zA0 (zAi zAk (pv 8) zA4 (fun _ _=>rfl)) zA2))) (zA0 (zAs (zA0 (pv 7) (zA0 (zAi zAk (pv 8) (pe_un un_neg zA4) (fun _ _=>rfl)) zA2))) zA2))) zA2))))))) zAd)
     (zA3 (zAb (i:=9) nd rfl (Or.inl rfl) (zA7 GC hr rfl DC.at_ DC.fn.kp DC.bind .nil (passC hC) (zA0 (pv 0) (zA0 (pv 3) zA2))))
     (zA3 (zAb (i:=10) nd rfl (Or.inl rfl) (zA7 GN hr2 rfl DN.at_ DN.fn.kp DN.bind .nil (passC hC) (zA0 (pv 0) (zA0 (zAp zBu (zA9 zAe rfl T.len PySem.boot_len (zA0 (pv 9) zA2)) zA4) zA2))))
     (zA6 (zAc (zAs (zA0 (pv 2) (zA0 zA4 (zA0 (zAp zCi (zAp zCi (zBd zC3 (pv 9) zC5 (zBn (pv 10))) (zA7 GO hr rfl DO.at_ DO.fn.kp DO.bind .nil (passC hC) (zA0 (pv 0) (zA0 (pv 3) zA2)))) (zBd zC3 (pv 9) (zBn (pv 10)) zC5)) zA2))))))))))))),?_⟩
  have small:∀ n:Nat,n≤1000→n≤sizeLine:=fun n h=>Zm (small1000 h);obtain ⟨l',xs,e,nl,hl,hz,hx⟩:=hd.list_inv;cases e;have xl:xs.length=rs.length:=by rw [hx.length,Z0]
  have r5:=ok.le;have r0:=ok.ne;refine ⟨_,rfl,_,rfl,_,rfl,l,xs,rfl,.inl (SqL.of hl),p,_,_,rfl,S0,by omega,by omega,by omega,fun r2 H3 a0 a1 S3 k3=>?_⟩;obtain ⟨j,rfl⟩:∃ j:Nat,r2=(j:Int):=⟨r2.toNat,by omega⟩;obtain ⟨y,ey⟩:∃ y,xs[j]? = some y:=⟨_,Z1 (by omega)⟩;obtain ⟨dd,hdd,hv⟩:=hx.get ey;rw [Z4] at hdd;obtain ⟨r,er,rfl⟩:=Option.map_eq_some_iff.mp hdd;have mr:=Z3 er;obtain ⟨onm,ofs⟩:=ok.ok r mr;have era:=(ok.row mr).1;obtain ⟨t,lf,rfl,ht,hf⟩:=zEj hv;obtain ⟨lf',fxs,e,gfp,hlf,_,hfx⟩:=id hf.list_inv;cases e;have f3:∀ b o,H b=some o→b≠p→H3 b=some o:=fun b o e nb=>by rw [k3 b nb];exact e
  have ntp:t≠p:=by obtain ⟨_,_,_,e',_⟩:=S0;exact zBe ht e' (fun z=>nomatch z)
  refine ⟨l,xs,(j:Int),_,rfl,rfl,SqL.of (f3 _ _ hl nl),zB1 ey,?_⟩;refine ⟨t,_,rfl,SqT.of (f3 _ _ ht ntp),rfl,_,_,rfl,_,_,rfl,_,_,rfl,rfl,?_⟩;refine ⟨_,rfl,p,_,_,rfl,S3,by omega,by decide,by decide,fun way H4 w0 w6 S4 k4=>?_⟩;have f4:∀ b o,H b=some o→b≠p→H4 b=some o:=fun b o e nb=>by rw [k4 b nb];exact f3 b o e nb
  have hn:∀ {G:Addr→Prop}{Hy:Hp},Has G Hy (.str r.name) (.str r.name):=fun {G Hy}=>.str _ (Zl onm.2.2 (by decide)) onm.2.1;have bk:∀ {Hy:Hp}{kk:Int}{b:Addr},(∀ b o,H b=some o→b≠p→Hy b=some o)→Src Hy p kk→Hy b=none→H b=none:=fun {Hy kk b} fr S e=>by
   cases z:H b with
   | none=>rfl
   | some o=>rw [fr _ _ z (S.nw e)] at e;cases e
  dsimp only [gName,List.set];refine ⟨_,rfl,rfl,_,rfl,?_⟩;refine ite2 (fun c0=>?_) (fun c0=>?_)
  ·refine ⟨_,rfl,small 1 (by decide),fun a1 h1=>?_⟩;have t1:Same H4 (upd H4 a1 (.lst [.str r.name])):=Same.new h1;have g1:(upd H4 a1 (.lst [.str r.name])) a1=some (.lst [.str r.name]):=zA1;have b1:H a1=none:=bk f4 S4 h1;generalize upd H4 a1 (.lst [.str r.name])=Ha at t1 g1 ⊢;have ld:("." : Str).length=1:=by decide +kernel
   have ln8:=onm.2.2;refine ⟨_,rfl,_,_,rfl,rfl,by have:=small1000 (show 9≤1000 by decide);omega,?_⟩;refine ⟨small 6 (by decide),fun l6 h6=>?_⟩;have t2:Same Ha (upd Ha l6 (.lst [.str "qq",.str "",.non,.int 7,.ref a1,.str (r.name++".")])):=Same.new h6;have g2:(upd Ha l6 (.lst [.str "qq",.str "",.non,.int 7,.ref a1,.str (r.name++".")])) l6=some (.lst [.str "qq",.str "",.non,.int 7,.ref a1,.str (r.name++".")]):=zA1;have n6:l6≠p:=(S4.up t1).nw h6;generalize upd Ha l6 (.lst [.str "qq",.str "",.non,.int 7,.ref a1,.str (r.name++".")])=Hb at t2 g2 ⊢;have S5:=S4.up (t1.trans t2);refine ⟨_,rfl,p,_,_,rfl,S5,by omega,by decide,by decide,fun r6 H6 c0' c6 S6 k6=>?_⟩;have hall:HasAll (fun a=>H a=none) H6 [.str "qq",.str "",.non,.int 7,.ref a1,.str (r.name++".")] (od0 r.name):=by
    refine .cons (.str _ (by decide +kernel) (by decide +kernel)) (.cons (.str _ (by decide +kernel) (by decide +kernel)) (.cons .non (.cons (.int 7) (.cons (.lst b1 (by rw [k6 _ (S0.nw b1)];exact t2 _ _ g1) (by show 1≤1000;decide) (.cons hn .nil)) (.cons (.str _ ?_ ?_) .nil)))))
    ·rw [zAv];omega
    ·have h1:=onm.2.1;rw [strOk_iff] at h1 ⊢;intro c hc;rw [zB5] at hc;rcases List.mem_append.mp hc with hc | hc
     ·exact h1 c hc
     ·exact (by decide +kernel:∀ c∈("." : Str).cps.toList,c < 0x110000) c hc
   obtain ⟨i,rfl⟩:∃ i:Nat,r6=(i:Int):=⟨r6.toNat,by omega⟩;generalize ([.str "qq",.str "",.non,.int 7,.ref a1,.str (r.name++".")]:List V)=mid at g2 hall ⊢;have ml:mid.length=6:=hall.length;obtain ⟨yy,eyy⟩:∃ yy,mid[i]? = some yy:=⟨_,Z1 (by omega)⟩;obtain ⟨d,ed,hyd⟩:=hall.get eyy;refine ⟨l6,mid,(i:Int),yy,rfl,rfl,SqL.of (by rw [k6 _ n6];exact g2),zB1 eyy,Zo _,fun l7 h7=>⟨small 3 (by decide),fun t8 h8=>?_⟩⟩;have f6:∀ b o,H b=some o→b≠p→H6 b=some o:=fun b o e nb=>by rw [k6 b nb];exact t2 _ _ (t1 _ _ (f4 b o e nb))
   have s8:Same H6 (upd (upd H6 l7 (.lst [])) t8 (.tup [yy,.int 1,.ref l7])):=(Same.new h7).trans (Same.new h8);exact q _ (.tuple [d,.int 1,.list []]) _ (rowB_none (od0_ok ok d (Z3 ed))) (.tup (bk (fun b o e nb=>(Same.new h7) _ _ (f6 b o e nb)) (S6.up (Same.new h7)) h8) zA1 (by show 3≤1000;decide) (.cons (hyd.mono s8) (.cons (.int 1) (.cons (.lst (bk f6 S6 h7) ((Same.new h8) _ _ zA1) (by show 0≤1000;decide) .nil) .nil)))) ((S6.up s8).mono (by omega)) fun b o e nb=>s8 _ _ (f6 b o e nb)
  refine ⟨_,rfl,rfl,_,rfl,?_⟩;refine ite2 (fun c1=>?_) (fun c1=>?_)
  ·refine ⟨_,rfl,?_⟩;intro v1 H5 s5 hv1;obtain ⟨l6,mid,e,n6,g2,_,hall⟩:=hv1.list_inv;cases e;have S5:=S4.up s5;have n6p:l6≠p:=S4.nw n6;refine ⟨_,rfl,p,_,_,rfl,S5,by omega,by decide,by decide,fun r6 H6 c0' c6 S6 k6=>?_⟩;obtain ⟨i,rfl⟩:∃ i:Nat,r6=(i:Int):=⟨r6.toNat,by omega⟩;have ml:mid.length=8:=hall.length;obtain ⟨yy,eyy⟩:∃ yy,mid[i]? = some yy:=⟨_,Z1 (by omega)⟩;obtain ⟨d,ed,hyd⟩:=hall.get eyy;refine ⟨l6,mid,(i:Int),yy,rfl,rfl,SqL.of (by rw [k6 _ n6p];exact g2),zB1 eyy,Zo _,fun l7 h7=>⟨small 3 (by decide),fun t8 h8=>?_⟩⟩;have f6:∀ b o,H b=some o→b≠p→H6 b=some o:=fun b o e nb=>by rw [k6 b nb];exact s5 _ _ (f4 b o e nb)
   have s8:Same H6 (upd (upd H6 l7 (.lst [])) t8 (.tup [.str r.name,yy,.ref l7])):=(Same.new h7).trans (Same.new h8);have hyd6:Has (fun a=>H a=none) H6 yy d:=hyd.frame fun b o g e=>⟨bk f4 S4 g,by rw [k6 b (S4.nw g)];exact e⟩;exact q _ (.tuple [.str r.name,d,.list []]) _ (rowB_many (od1_ok d (Z3 ed))) (.tup (bk (fun b o e nb=>(Same.new h7) _ _ (f6 b o e nb)) (S6.up (Same.new h7)) h8) zA1 (by show 3≤1000;decide) (.cons hn (.cons (hyd6.mono s8) (.cons (.lst (bk f6 S6 h7) ((Same.new h8) _ _ zA1) (by show 0≤1000;decide) .nil) .nil)))) ((S6.up s8).mono (by omega)) fun b o e nb=>s8 _ _ (f6 b o e nb)
  refine ⟨_,rfl,rfl,_,rfl,?_⟩;refine ite2 (fun c2=>?_) (fun c2=>?_)
  ·refine ⟨_,rfl,small 2 (by decide),fun t1 ht1=>?_⟩;have u1:Same H4 (upd H4 t1 (.tup [.str r.name,.int 1])):=Same.new ht1;have g1:(upd H4 t1 (.tup [.str r.name,.int 1])) t1=some (.tup [.str r.name,.int 1]):=zA1;have n1:H t1=none:=bk f4 S4 ht1;generalize upd H4 t1 (.tup [.str r.name,.int 1])=X1 at u1 g1 ⊢;have v1:=u1;refine ⟨_,rfl,small 0 (by decide),fun e1 he1=>?_⟩;have u2:Same X1 (upd X1 e1 (.lst [])):=Same.new he1;have g2:(upd X1 e1 (.lst [])) e1=some (.lst []):=zA1;have n2:H e1=none:=bk f4 S4 (v1.free he1);generalize upd X1 e1 (.lst [])=X2 at u2 g2 ⊢;have v2:=v1.trans u2;refine ⟨small 0 (by decide),fun e2 he2=>?_⟩;have u3:Same X2 (upd X2 e2 (.lst [])):=Same.new he2;have g3:(upd X2 e2 (.lst [])) e2=some (.lst []):=zA1;have n3:H e2=none:=bk f4 S4 (v2.free he2);generalize upd X2 e2 (.lst [])=X3 at u3 g3 ⊢;have v3:=v2.trans u3;refine ⟨small 4 (by decide),fun t2 ht2=>?_⟩;have u4:Same X3 (upd X3 t2 (.tup [.str r.name,.int 1,.ref e1,.ref e2])):=Same.new ht2;have g4:(upd X3 t2 (.tup [.str r.name,.int 1,.ref e1,.ref e2])) t2=some (.tup [.str r.name,.int 1,.ref e1,.ref e2]):=zA1;have n4:H t2=none:=bk f4 S4 (v3.free ht2);generalize upd X3 t2 (.tup [.str r.name,.int 1,.ref e1,.ref e2])=X4 at u4 g4 ⊢;have v4:=v3.trans u4;refine ⟨_,rfl,small 0 (by decide),fun e3 he3=>?_⟩;have u5:Same X4 (upd X4 e3 (.lst [])):=Same.new he3;have g5:(upd X4 e3 (.lst [])) e3=some (.lst []):=zA1;have n5:H e3=none:=bk f4 S4 (v4.free he3);generalize upd X4 e3 (.lst [])=X5 at u5 g5 ⊢;have v5:=v4.trans u5;refine ⟨small 3 (by decide),fun t3 ht3=>?_⟩;have u6:Same X5 (upd X5 t3 (.lst [.str r.name,.int 1,.ref e3])):=Same.new ht3;have g6:(upd X5 t3 (.lst [.str r.name,.int 1,.ref e3])) t3=some (.lst [.str r.name,.int 1,.ref e3]):=zA1;have n6:H t3=none:=bk f4 S4 (v5.free ht3);generalize upd X5 t3 (.lst [.str r.name,.int 1,.ref e3])=X6 at u6 g6 ⊢;have v6:=v5.trans u6;refine ⟨_,rfl,_,rfl,small 3 (by decide),fun t4 ht4=>?_⟩;have u7:Same X6 (upd X6 t4 (.tup [.str r.name,.int 1,.non])):=Same.new ht4;have g7:(upd X6 t4 (.tup [.str r.name,.int 1,.non])) t4=some (.tup [.str r.name,.int 1,.non]):=zA1;have n7:H t4=none:=bk f4 S4 (v6.free ht4);generalize upd X6 t4 (.tup [.str r.name,.int 1,.non])=X7 at u7 g7 ⊢;have v7:=v6.trans u7;refine ⟨_,rfl,small 0 (by decide),fun t5 ht5=>?_⟩;have u8:Same X7 (upd X7 t5 (.tup [])):=Same.new ht5;have g8:(upd X7 t5 (.tup [])) t5=some (.tup []):=zA1;have n8:H t5=none:=bk f4 S4 (v7.free ht5);generalize upd X7 t5 (.tup [])=X8 at u8 g8 ⊢;have v8:=v7.trans u8;refine ⟨small 3 (by decide),fun t6 ht6=>?_⟩;have u9:Same X8 (upd X8 t6 (.tup [.str r.name,.int 1,.ref t5])):=Same.new ht6;have g9:(upd X8 t6 (.tup [.str r.name,.int 1,.ref t5])) t6=some (.tup [.str r.name,.int 1,.ref t5]):=zA1;have n9:H t6=none:=bk f4 S4 (v8.free ht6);generalize upd X8 t6 (.tup [.str r.name,.int 1,.ref t5])=X9 at u9 g9 ⊢;have v9:=v8.trans u9;refine ⟨small 7 (by decide),fun l6 hl6=>?_⟩;have u10:Same X9 (upd X9 l6 (.lst [.ref t1,.ref t2,.ref t3,.str r.name,.non,.ref t4,.ref t6])):=Same.new hl6;have g10:(upd X9 l6 (.lst [.ref t1,.ref t2,.ref t3,.str r.name,.non,.ref t4,.ref t6])) l6=some (.lst [.ref t1,.ref t2,.ref t3,.str r.name,.non,.ref t4,.ref t6]):=zA1;have n10:H l6=none:=bk f4 S4 (v9.free hl6);generalize upd X9 l6 (.lst [.ref t1,.ref t2,.ref t3,.str r.name,.non,.ref t4,.ref t6])=X10 at u10 g10 ⊢;have v10:=v9.trans u10;have S5:=S4.up v10;have hi:HasAll (fun a=>H a=none) X10 [.ref t1,.ref t2,.ref t3,.str r.name,.non,.ref t4,.ref t6] (od2 r.name) :=
    (.cons (.tup n1 (u10 _ _ (u9 _ _ (u8 _ _ (u7 _ _ (u6 _ _ (u5 _ _ (u4 _ _ (u3 _ _ (u2 _ _ g1))))))))) (by show 2≤1000;decide) (.cons hn (.cons (.int 1) .nil))) (.cons (.tup n4 (u10 _ _ (u9 _ _ (u8 _ _ (u7 _ _ (u6 _ _ (u5 _ _ g4)))))) (by show 4≤1000;decide) (.cons hn (.cons (.int 1) (.cons (.lst n2 (u10 _ _ (u9 _ _ (u8 _ _ (u7 _ _ (u6 _ _ (u5 _ _ (u4 _ _ (u3 _ _ g2)))))))) (by show 0≤1000;decide) .nil) (.cons (.lst n3 (u10 _ _ (u9 _ _ (u8 _ _ (u7 _ _ (u6 _ _ (u5 _ _ (u4 _ _ g3))))))) (by show 0≤1000;decide) .nil) .nil))))) (.cons (.lst n6 (u10 _ _ (u9 _ _ (u8 _ _ (u7 _ _ g6)))) (by show 3≤1000;decide) (.cons hn (.cons (.int 1) (.cons (.lst n5 (u10 _ _ (u9 _ _ (u8 _ _ (u7 _ _ (u6 _ _ g5))))) (by show 0≤1000;decide) .nil) .nil)))) (.cons hn (.cons .non (.cons (.tup n7 (u10 _ _ (u9 _ _ (u8 _ _ g7))) (by show 3≤1000;decide) (.cons hn (.cons (.int 1) (.cons .non .nil)))) (.cons (.tup n9 (u10 _ _ g9) (by show 3≤1000;decide) (.cons hn (.cons (.int 1) (.cons (.tup n8 (u10 _ _ (u9 _ _ g8)) (by show 0≤1000;decide) .nil) .nil)))) .nil)))))))
   generalize ([.ref t1,.ref t2,.ref t3,.str r.name,.non,.ref t4,.ref t6]:List V)=mid at g10 hi ⊢;dsimp only [gName,List.set];refine ⟨_,rfl,_,rfl,p,_,_,rfl,S5,by omega,by decide,by decide,fun r6 H6 c0' c6 S6 k6=>?_⟩;obtain ⟨i,rfl⟩:∃ i:Nat,r6=(i:Int):=⟨r6.toNat,by omega⟩;have ml:mid.length=7:=hi.length;obtain ⟨yy,eyy⟩:∃ yy,mid[i]? = some yy:=⟨_,Z1 (by omega)⟩;obtain ⟨d,ed,hyd⟩:=hi.get eyy;have f6:∀ b o,H b=some o→b≠p→H6 b=some o:=fun b o e nb=>by rw [k6 b nb];exact v10 _ _ (f4 b o e nb)
   refine ⟨l6,mid,(i:Int),yy,rfl,rfl,SqL.of (by rw [k6 _ (S0.nw n10)];exact g10),zB1 eyy,?_⟩;exact q yy d H6 (od2_ok era d (Z3 ed)) (hyd.frame fun b o g e=>⟨g,by rw [k6 b (S0.nw g)];exact e⟩) (S6.mono (by omega)) f6
  refine' k_gen (F:=fun Hx=>Same H4 Hx) _ (fun kk=>_);rotate_left 2
  ·refine ⟨_,rfl,rfl,_,rfl,?_⟩;refine ite2 (fun c3=>?_) (fun c3=>iteF (kk H4 (Same.refl _)));refine ⟨_,rfl,Zo _,fun le hle=>?_⟩;have u1:Same H4 (upd H4 le (.lst [])):=Same.new hle;have g1:(upd H4 le (.lst [])) le=some (.lst []):=zA1;generalize upd H4 le (.lst [])=H5 at u1 g1 ⊢;have hf5:Has Any H5 (.ref lf) (.list (r.fields.map fieldD)):=hf.frame fun b o g e=>⟨trivial,u1 _ _ (f4 b o e g)⟩;refine ⟨_,.list [],hf5,.lst trivial g1 (by show 0≤1000;decide) .nil,depth_flist _,by decide,_,rfl,?_⟩;cases efs:r.fields with
   | nil=>exact iteF (kk H5 u1)
   | cons fa ft =>
    refine iteT ?_;have fl0:fxs.length=r.fields.length:=by rw [hfx.length,Z0]
    have fpos:0 < fxs.length:=by rw [fl0,efs];exact Nat.succ_pos _
    have fle:=ofs.le;have f5:∀ b o,H b=some o→b≠p→H5 b=some o:=fun b o e nb=>u1 _ _ (f4 b o e nb);have S5:=S4.up u1;refine ⟨_,rfl,_,rfl,_,rfl,lf,fxs,rfl,.inl (SqL.of (f5 _ _ hlf gfp)),p,_,_,rfl,S5,by omega,by omega,by omega,fun r7 H7 z0 z1 S7 k7=>?_⟩;obtain ⟨i,rfl⟩:∃ i:Nat,r7=(i:Int):=⟨r7.toNat,by omega⟩;obtain ⟨yf,eyf⟩:∃ yf,fxs[i]? = some yf:=⟨_,Z1 (by omega)⟩;obtain ⟨df,edf,hyf⟩:=hfx.get eyf;rw [Z4] at edf;obtain ⟨fl,ef,rfl⟩:=Option.map_eq_some_iff.mp edf;have mf:=Z3 ef;obtain ⟨fn1,fv⟩:=ofs.ok fl mf;obtain ⟨tf,lv,rfl,htf,hlv⟩:=zBl hyf;have ntf:tf≠p:=by obtain ⟨_,_,_,e',_⟩:=S0;exact zBe htf e' (fun z=>nomatch z)
    have nlv:lv≠p:=by obtain ⟨_,_,_,e',_⟩:=S0;exact zBe hlv e' strs_ne
    have f7:∀ b o,H b=some o→b≠p→H7 b=some o:=fun b o e nb=>by rw [k7 b nb];exact f5 b o e nb
    refine ⟨lf,fxs,(i:Int),_,rfl,rfl,SqL.of (f7 _ _ hlf gfp),zB1 eyf,?_⟩;refine ⟨tf,_,rfl,SqT.of (f7 _ _ htf ntf),rfl,_,_,rfl,_,_,rfl,rfl,?_⟩;dsimp only [gName,List.set];obtain ⟨v0,ev0⟩:∃ v0,fl.2[0]? = some v0:=⟨_,Z1 fv.ne⟩;have av:atI (fl.2.map V.str) 0=some (.str v0):=zB1 (j:=0) (by rw [Z4,ev0];rfl);have nv:=fv.ok v0 (Z3 ev0);obtain ⟨v1,bv,mv1⟩:∃ v1,atI (fl.2.map V.str) (-1)=some (.str v1)∧v1∈fl.2:=by
     have hne:=fv.ne;obtain ⟨v1,e1⟩:∃ v1,fl.2[fl.2.length - 1]? = some v1:=⟨_,Z1 (by omega)⟩;refine ⟨v1,?_,Z3 e1⟩;unfold atI ixN;rw [if_neg (by decide),Z0,if_pos (by omega)];show (fl.2.map V.str)[((-1:Int) + (fl.2.length:Int)).toNat]? = _;rw [show ((-1:Int) + (fl.2.length:Int)).toNat=fl.2.length - 1 by omega,Z4,e1];rfl
    have nv1:=fv.ok v1 mv1;have hs:∀ {x:Str}{G:Addr→Prop}{Hy:Hp},nameOk x→Has G Hy (.str x) (.str x):=fun {x G Hy} h=>.str _ (Zl h.2.2 (by decide)) h.2.1;have elv:=f7 _ _ hlv nlv;refine ⟨_,rfl,_,rfl,_,rfl,lv,_,0,_,rfl,rfl,SqL.of elv,av,small 2 (by decide),fun c1' h1=>?_⟩;have w1:Same H7 (upd H7 c1' (.tup [.str fl.1,.str v0])):=Same.new h1;have x1:(upd H7 c1' (.tup [.str fl.1,.str v0])) c1'=some (.tup [.str fl.1,.str v0]):=zA1;have n1:H c1'=none:=bk f7 S7 h1;generalize upd H7 c1' (.tup [.str fl.1,.str v0])=H8 at w1 x1 ⊢;refine ⟨_,rfl,_,rfl,_,rfl,lv,_,-1,_,rfl,rfl,SqL.of (w1 _ _ elv),bv,small 2 (by decide),fun c2' h2=>?_⟩;have w2:Same H8 (upd H8 c2' (.tup [.str fl.1,.str v1])):=Same.new h2;have x2:(upd H8 c2' (.tup [.str fl.1,.str v1])) c2'=some (.tup [.str fl.1,.str v1]):=zA1;have n2:H c2'=none:=bk f7 S7 (w1.free h2);generalize upd H8 c2' (.tup [.str fl.1,.str v1])=H9 at w2 x2 ⊢;refine ⟨small 2 (by decide),fun l3 h3=>?_⟩;have w3:Same H9 (upd H9 l3 (.lst [.ref c1',.ref c2'])):=Same.new h3;have x3:(upd H9 l3 (.lst [.ref c1',.ref c2'])) l3=some (.lst [.ref c1',.ref c2']):=zA1;have n3:H l3=none:=bk f7 S7 ((w1.trans w2).free h3);generalize upd H9 l3 (.lst [.ref c1',.ref c2'])=Ha at w3 x3 ⊢;refine ⟨small 3 (by decide),fun t4 h4=>?_⟩;have w13:=w1.trans (w2.trans w3);have w4:=Same.new (o:=.tup [.str r.name,.int 1,.ref l3]) h4;exact q _ (.tuple [.str r.name,.int 1,.list [.tuple [.str fl.1,.str v0],.tuple [.str fl.1,.str v1]]]) _ (zCo era cares_twice)
     (.tup (bk f7 S7 (w13.free h4)) zA1 (by show 3≤1000;decide) (.cons hn (.cons (.int 1) (.cons (.lst n3 (w4 _ _ x3) (by show 2≤1000;decide) (.cons (.tup n1 (w4 _ _ (w3 _ _ (w2 _ _ x1))) (by show 2≤1000;decide) (.cons (hs fn1) (.cons (hs nv) .nil))) (.cons (.tup n2 (w4 _ _ (w3 _ _ x2)) (by show 2≤1000;decide) (.cons (hs fn1) (.cons (hs nv1) .nil))) .nil))) .nil)))) ((S7.up (w13.trans w4)).mono (by omega)) fun b o e nb=>w4 _ _ (w13 _ _ (f7 b o e nb))
  intro H5 u1;have f5:∀ b o,H b=some o→b≠p→H5 b=some o:=fun b o e nb=>u1 _ _ (f4 b o e nb);have S5:=S4.up u1;have hf5:Has Any H5 (.ref lf) (.list (r.fields.map fieldD)):=hf.frame fun b o g e=>⟨trivial,f5 b o e g⟩;refine ⟨_,rfl,_,rfl,p,lf,r.fields,_,rfl,S5,by omega,hf5,ofs,gfp,fun lc cs H7 cok hcs S7 k7=>?_⟩;have f7:∀ b o,H b=some o→b≠p→H7 b=some o:=fun b o e nb=>k7 b o (f5 b o e nb) nb;obtain ⟨lc',ycs,e,nlc,hlc,_,hycs⟩:=id hcs.list_inv;cases e;have nlcp:lc≠p:=S5.nw nlc;have ycl:ycs.length=cs.length:=by rw [hycs.length,Z0]
  have c3:=cok.le;dsimp only [gName,List.set];refine ⟨_,rfl,_,rfl,lc,ycs,rfl,.inl (SqL.of hlc),_,_,rfl,rfl,p,_,_,rfl,S7,by omega,by omega,by omega,fun r8 H8 z0 z1 S8 k8=>?_⟩;obtain ⟨i,rfl⟩:∃ i:Nat,r8=(i:Int):=⟨r8.toNat,by omega⟩;have f8:∀ b o,H b=some o→b≠p→H8 b=some o:=fun b o e nb=>by rw [k8 b nb];exact f7 b o e nb
  have il:i≤ycs.length:=by omega
  have hlc8:H8 lc=some (.lst ycs):=by rw [k8 _ nlcp];exact hlc
  have hy8:HasAll (fun a=>H a=none) H8 ycs (cs.map careD):=hycs.frame fun b o g e=>⟨bk f5 S5 g,by rw [k8 b (S5.nw g)];exact e⟩;refine ⟨_,rfl,_,rfl,_,rfl,_,rfl,lc,ycs,rfl,SqL.of hlc8,fun l1 h1=>?_⟩;rw [cut_take il];have w1:Same H8 (upd H8 l1 (.lst (ycs.take i))):=Same.new h1;have x1:(upd H8 l1 (.lst (ycs.take i))) l1=some (.lst (ycs.take i)):=zA1;have n1:l1≠p:=S8.nw h1;generalize upd H8 l1 (.lst (ycs.take i))=H9 at w1 x1 ⊢;have S9:=S8.up w1;have f9:∀ b o,H b=some o→b≠p→H9 b=some o:=fun b o e nb=>w1 _ _ (f8 b o e nb);refine ⟨_,rfl,_,rfl,p,lf,r.fields,_,rfl,S9,by omega,hf.frame (fun b o g e=>⟨trivial,f9 b o e g⟩),ofs,gfp,fun l2 x d H10 hodd n2 hl2 hxd S10 k10=>?_⟩;have f10:∀ b o,H b=some o→b≠p→H10 b=some o:=fun b o e nb=>k10 _ _ (f9 b o e nb) nb;have tl:(ycs.take i).length≤3:=by have:=Zy i ycs;omega
  have dl:(ycs.drop i).length≤3:=by rw [Yo];omega
  refine ⟨l1,l2,_,_,rfl,rfl,k10 _ _ x1 n1,hl2,by show _ + 1≤_;exact small _ (by omega),fun l3 h3=>?_⟩;have w3:Same H10 (upd H10 l3 (.lst (ycs.take i++[x]))):=Same.new h3;have x3:(upd H10 l3 (.lst (ycs.take i++[x]))) l3=some (.lst (ycs.take i++[x])):=zA1;generalize upd H10 l3 (.lst (ycs.take i++[x]))=H11 at w3 x3 ⊢;refine ⟨_,rfl,_,rfl,_,rfl,lc,ycs,rfl,SqL.of (w3 _ _ (k10 _ _ (w1 _ _ hlc8) nlcp)),fun l4 h4=>?_⟩;rw [cut_drop il];have w4:Same H11 (upd H11 l4 (.lst (ycs.drop i))):=Same.new h4;have x4:(upd H11 l4 (.lst (ycs.drop i))) l4=some (.lst (ycs.drop i)):=zA1;generalize upd H11 l4 (.lst (ycs.drop i))=H12 at w4 x4 ⊢;refine ⟨l3,l4,_,_,rfl,rfl,w4 _ _ x3,x4,by rw [Z7];show _ + 1 + _≤_;exact small _ (by omega),fun l5 h5=>?_⟩;have w5:Same H12 (upd H12 l5 (.lst (ycs.take i++[x]++ycs.drop i))):=Same.new h5;have x5:(upd H12 l5 (.lst (ycs.take i++[x]++ycs.drop i))) l5=some (.lst (ycs.take i++[x]++ycs.drop i)):=zA1;have w35:=w3.trans (w4.trans w5);have n5:H l5=none:=bk f10 S10 ((w3.trans w4).free h5);generalize upd H12 l5 (.lst (ycs.take i++[x]++ycs.drop i))=H13 at w5 x5 w35 ⊢;refine ⟨small 3 (by decide),fun t6 h6=>?_⟩;have w6:=Same.new (o:=.tup [.str r.name,.int 1,.ref l5]) h6;have w36:=w35.trans w6;have np:∀ {b:Addr},H b=none→b≠p:=fun g=>S0.nw g;have hy10:HasAll (fun a=>H a=none) H10 ycs (cs.map careD):=hy8.frame fun b o g e=>⟨g,k10 _ _ (w1 _ _ e) (np g)⟩;have hx10:Has (fun a=>H a=none) H10 x d:=hxd.frame fun b o g e=>⟨bk f9 S9 g,e⟩;have hlst:HasAll (fun a=>H a=none) (upd H13 t6 (.tup [.str r.name,.int 1,.ref l5])) (ycs.take i++[x]++ycs.drop i) ((cs.map careD).take i++[d]++(cs.map careD).drop i):=zAu (zAu ((zBp i hy10).mono w36) (.cons (hx10.mono w36) .nil)) ((zBq i hy10).mono w36);exact q _ (.tuple [.str r.name,.int 1,.list ((cs.map careD).take i++[d]++(cs.map careD).drop i)]) _ (zCo era (cares_in (by simp) hodd))
   (.tup (bk f10 S10 (w35.free h6)) zA1 (by show 3≤1000;decide) (.cons hn (.cons (.int 1) (.cons (.lst n5 (w6 _ _ x5) (by rw [Z7,Z7];show _ + 1 + _≤_;omega) hlst) .nil)))) ((S10.up w36).mono (by omega)) fun b o e nb=>w36 _ _ (f10 b o e nb)
end
end L2.W
namespace L2.W
open PySem My
theorem strs_has {G:Addr→Prop}{H:Hp}:∀ {ps:List Str},(∀ s∈ps,s.length≤1000∧PyData.strOk s=true)→HasAll G H (ps.map V.str) (ps.map PyData.str)
 | [],_=>.nil
 | s :: t,h=>.cons (.str s (h s Zb).1 (h s Zb).2) (strs_has fun x hx=>h x (Z6 _ hx))
theorem w0G {G:Addr→Prop}{H:Hp}{l t:Addr}{n:Str}{m:Nat} (ht:(upd H l (.lst [])) t=none) (hn:nameOk n) (gl:G l) (gt:G t):Has G (upd (upd H l (.lst [])) t (.tup [.str n,.int (m:Nat),.ref l])) (.ref t) (wD ⟨n,m,[]⟩) :=
 .tup gt zA1 (by show 3≤1000;decide) (.cons (.str n (Zl hn.2.2 (by decide)) hn.2.1) (.cons (.int _) (.cons (.lst gl ((Same.new ht) _ _ zA1) (by show 0≤1000;decide) .nil) .nil)))
theorem sum_one {rs:List Row}{ws:List WRow}{ord:List Str}{n:Str} (tp:Top rs ord) (ol:ord.length≤5) (nd:ord.Nodup) (hn:n∈ord) (ho:ownerAt rs n=none) (h0:∀ k,k≠n→each ws k=0):(table rs ws ord).length=each ws n:=by
 rw [zEh tp ol];have c0:∀ k∈ord,k≠n→cnt rs ws k=0:=fun k hk e=>by rw [cnt_eq tp ol hk,h0 k e,Nat.mul_zero]
 have c1:cnt rs ws n=each ws n:=by rw [cnt_eq tp ol hn,ho];exact Nat.one_mul _
 have key:∀ l:List Str,l.Nodup→(∀ k∈l,k∈ord)→(l.map (cnt rs ws)).sum=if n∈l then each ws n else 0:=by
  intro l
  induction l with
  | nil=>intro _ _;simp
  | cons a t ih =>
   intro hd hm;rw [Yv] at hd;rw [Z8,Yh,ih hd.2 fun k hk=>hm k (Z6 _ hk)];by_cases c:a=n
   ·subst c;rw [if_neg hd.1,if_pos Zb,c1,Nat.add_zero]
   ·rw [c0 a (hm a Zb) c,Nat.zero_add];by_cases d:n∈t
    ·rw [if_pos d,if_pos (Z6 _ d)]
    ·rw [if_neg d,if_neg (fun z=>by rcases List.mem_cons.mp z with e | e;exact c e.symm;exact d e)]
 rw [key ord nd fun _ h=>h,if_pos hn]
theorem one_ok {rs:List Row}{r:Row} (ok:RowsOk rs) (hr:r∈rs) {m:Nat} (h1:1≤m) (h2:m≤60):WOk rs ⟨r.name,m,[]⟩:=⟨⟨r,(ok.row hr).1,fun c hc=>nomatch hc⟩,(ok.ok r hr).1,h1,h2,Xa,Zo _⟩
noncomputable def rowsA:List Row:=[⟨"a",[],none⟩]
theorem okA:RowsOk rowsA:=by
 have ok0:FieldsOk []:=⟨by decide,Xa,fun f h=>by simp at h,by decide,fun f h=>by simp at h⟩;refine ⟨by decide,by decide,by decide +kernel,fun r hr=>?_,fun i r o e eo=>?_,by decide +kernel⟩
 ·rw [List.mem_singleton.mp hr];exact ⟨nma,ok0⟩
 ·match i,e with
  | 0,e=>cases e;cases eo
  | _ + 1,e=>simp [rowsA] at e
noncomputable def wsA1:List WRow:=[⟨"a",1,[]⟩]
theorem tableA:(table rowsA wsA1 ["a"]).map (fun x=>showP x.1)=(["a.0"]:List Str):=by decide +kernel
theorem lenA1:(table rowsA wsA1 ["a"]).length=1:=by decide +kernel
theorem wokA1:∀ w∈wsA1,WOk rowsA w:=fun w hw=>by
 rw [List.mem_singleton.mp hw];exact one_ok (r:=⟨"a",[],none⟩) okA (List.mem_singleton.mpr rfl) (by decide) (by decide)
theorem rowAt_permD {rs rs':List Row} (p:rs.Perm rs') (nd:(rs.map (·.name)).Nodup) (a:PyData):rowAt rs a=rowAt rs' a:=by
 cases a with
 | str k=>exact zCp p nd k
 | _=>rfl
theorem rowB_perm {rs rs':List Row} (p:rs.Perm rs') (nd:(rs.map (·.name)).Nodup) (d:PyData):rowB rs d=rowB rs' d:=by
 unfold rowB;split
 ·rw [rowAt_permD p nd]
 ·rfl
theorem rowsB_perm {rs rs':List Row} (p:rs.Perm rs') (nd:(rs.map (·.name)).Nodup) (d:PyData):rowsB rs d=rowsB rs' d:=by
 unfold rowsB;split
 ·rw [show rowB rs=rowB rs' from funext (rowB_perm p nd)]
 ·rfl
theorem rows_in {rs:List Row}{ds:List PyData}{d:PyData} (hd:d∈ds) (h:rowB rs d=false):rowsB rs (.list ds)=false:=by
 show ds.all (rowB rs)=false;exact List.all_eq_false.mpr ⟨d,hd,by rw [h];decide⟩
theorem NoRows.perm {rs rs':List Row} (p:rs.Perm rs') (nd:(rs.map (·.name)).Nodup) {H:Hp}{v:V} (h:NoRows rs' H v):NoRows rs H v:=by
 rcases h with ⟨dd,h1,h2⟩ | h
 ·exact .inl ⟨dd,h1,by rw [rowsB_perm p nd];exact h2⟩
 ·exact .inr h
theorem k_ownV {R F:V→Hp→Prop}{B:Prop} (t:∀ l Hx,F l Hx→R l Hx) (h:(∀ l Hx,F l Hx→R l Hx)→B):B:=h t
noncomputable def spLaw12 (K:PySem.W.Frag) (Pt:Addr):Sp:=fun vs H Q _=>∃ (a:Addr) (ns:List Int),vs=[.ref a]∧SqL K H a (ns.map V.int)∧ns.length≤63∧TabOk H Pt lamPos lamQ∧∀ H',Q (.bl true) H'
structure Asks12 (P:Program) (w:World) (K:PySem.W.Frag) (mg:Str→Option Value) (base:Heap) (C CK CW Pt fI fWd fWn fd fn fS fT fM fF fO fR:Addr) (dI dWn dd dn dS dT dM dF dO dR:FuncData):Prop where
 T:Tops K mg
 WC:WCls K mg CW fI fWd fWn
 bI:Binds K dI ["self", "kinds", "rows"] []
 bWn:Binds K dWn ["self"] []
 GI:FnOk P w K mg base (CXM P w) 7 fI dI ["self", "kinds", "rows"] (spInitW CW CK C)
 GWn:FnOk P w K mg base (CXM P w) 1 fWn dWn ["self"] (spWNames CW)
 d:Def K mg "_law_digits" sDigits ["_law_cell"] fd dd
 Gd:FnOk P w K mg base (CXM P w) 1 fd dd ["_law_cell"] spDigits
 n:Def K mg "_law_next" sNext ["_law_source", "_law_many_here"] fn dn
 Gn:FnOk P w K mg base (CXM P w) 2 fn dn ["_law_source", "_law_many_here"] spNext
 S:Def K mg "_law_specs" sSpecs ["_law_source"] fS dS
 GS:FnOk P w K mg base (CXM P w) 5 fS dS ["_law_source"] spSpecs
 Tu:Def K mg "_law_turned" sTurned ["_law_source", "_law_things"] fT dT
 GT:FnOk P w K mg base (CXM P w) 3 fT dT ["_law_source", "_law_things"] (spTurned K)
 M:Def K mg "_law_made" sMade ["_law_specs_here"] fM dM
 GM:FnOk P w K mg base (CXM P w) 7 fM dM ["_law_specs_here"] (spMade CK C Pt)
 F:Def K mg "_law_few_rows" sFew ["_law_source", "_law_specs_here"] fF dF
 GF:FnOk P w K mg base (CXM P w) 5 fF dF ["_law_source", "_law_specs_here"] spFew
 O:Def K mg "_law_odd_row" sOddRow ["_law_source", "_law_specs_here"] fO dO
 GO:FnOk P w K mg base (CXM P w) 4 fO dO ["_law_source", "_law_specs_here"] spOddR
 R:Def K mg "_law_refused" sRefused ["_law_kinds", "_law_rows_here"] fR dR
 GR:FnOk P w K mg base (CXM P w) 9 fR dR ["_law_kinds", "_law_rows_here"] (spRefd CK C)
section
variable {P:Program}{w:World}{K:PySem.W.Frag}{mg:Str→Option Value}{base:Heap}
noncomputable abbrev nL12:List Str:=["_law_script", "_law_cell", "_law_source", "_law_specs_here", "_law_kinds", "_law_rows_here", "_law_turn", "_law_at", "_law_bad"]
theorem scL12:FnScope nL12 ["_law_script"] (defScope sLaw):=⟨rfl,rfl,rfl,by decide +kernel,rfl,by decide +kernel,by decide +kernel⟩
set_option maxHeartbeats 4000000 in
theorem ok_law12 {f C CK CW Pt fI fWd fWn fd fn fS fT fM fF fO fR:Addr}{fdl dI dWn dd dn dS dT dM dF dO dR:FuncData} (F:Fun K "law" "law" sLaw f fdl) (A:Asks12 P w K mg base C CK CW Pt fI fWd fWn fd fn fS fT fM fF fO fR dI dWn dd dn dS dT dM dF dO dR) :
  FnOk P w K mg base (CXM P w) 10 f fdl ["_law_script"] (spLaw12 K Pt):=by
 have T:=A.T;refine Fun.okC F scL12 (fun vs H Q E h=>?_) (fun cdv Ar outer s H vs Q E hr h=>?_)
 ·obtain ⟨a,ns,rfl,_⟩:=h;rfl
 ·obtain ⟨a,ns,rfl,hS,hlen,hT,k⟩:=h;have hr1:=hr.mono (show 1≤9 by decide);have hr2:=hr.mono (show 2≤9 by decide);have hr3:=hr.mono (show 3≤9 by decide);have hr4:=hr.mono (show 4≤9 by decide);have hr5:=hr.mono (show 5≤9 by decide);have hr7:=hr.mono (show 7≤9 by decide);have hr8:=hr.mono (show 8≤9 by decide);have nd:=scL12.nd;have hC:Calm (CXM P w):=calmM
  refine ⟨_,zA3 (zBj PassesOwn.never rfl (zAh (zBd zC3 (pv 0) zC5 (zBn zA4))) (zAa (i:=1) nd rfl (Or.inl rfl))
     (zA3 (zAb (i:=2) nd rfl (Or.inl rfl) (zA7 A.Gd hr1 rfl A.d.at_ A.d.fn.kp A.d.bind .nil (passC hC) (zA0 (pv 1) zA2)))
     (zA3 (zAb (i:=3) nd rfl (Or.inl rfl) (zA7 A.GS hr5 rfl A.S.at_ A.S.fn.kp A.S.bind .nil (passC hC) (zA0 (pv 2) zA2)))
     (zA3 (zAb (i:=4) nd rfl (Or.inl rfl) (zA7 A.GM hr7 rfl A.M.at_ A.M.fn.kp A.M.bind .nil (passC hC) (zA0 (zA7 A.GT hr3 rfl A.Tu.at_ A.Tu.fn.kp A.Tu.bind .nil (passC hC) (zA0 (pv 2) (zA0 (pv 3) zA2))) zA2)))
     (zA3 (zAb (i:=5) nd rfl (Or.inl rfl) (zA7 A.GF hr5 rfl A.F.at_ A.F.fn.kp A.F.bind .nil (passC hC) (zA0 (pv 2) (zA0 (pv 3) zA2))))
     (zA3 (zBj PassesOwn.never rfl (zCd rfl T.range (zA0 zA4 zA2)) (zAa (i:=6) nd rfl (Or.inl rfl))
     (zA3 (zAb (i:=7) nd rfl (Or.inl rfl) (zA7 A.Gn hr2 rfl A.n.at_ A.n.fn.kp A.n.bind .nil (passC hC) (zA0 (pv 2) (zA0 (zAp zBu (zA9 zAe rfl T.len PySem.boot_len (zA0 (pv 5) zA2)) zA4) zA2))))
     (zA3 (zAb (i:=8) nd rfl (Or.inl rfl) (zAp zCi (zAp zCi (zBd zC3 (pv 5) zC5 (zBn (pv 7))) (zAg (zA0 (zA7 A.GO hr4 rfl A.O.at_ A.O.fn.kp A.O.bind .nil (passC hC) (zA0 (pv 2) (zA0 (pv 3) zA2))) zA2))) (zBd zC3 (pv 5) (zBn (pv 7)) zC5)))
     (zA3 (zAx (zAj zDw (zA7 A.Gn hr2 rfl A.n.at_ A.n.fn.kp A.n.bind .nil (passC hC) (zA0 (pv 2) (zA0 zA4 zA2))) zA4 (nomark _))
     (zA6 (zAb (i:=8) nd rfl (Or.inl rfl) (zAp zCi (pv 8) (zAg (zA0 (zAs (zA0 (zAi zAq (zAi zAk (pv 3) zA4 (fun _ _=>rfl)) zA4 (fun _ _=>rfl)) (zA0 zA4 (zA0 (zAg zA2) zA2)))) (zA0 (zAs (zA0 (zAi zAq (zAi zAk (pv 3) zA4 (fun _ _=>rfl)) zA4 (fun _ _=>rfl)) (zA0 zA4 (zA0 (zAg zA2) zA2)))) zA2)))))) zAd)
     (zA3 (zAx (zAj zDw (zA7 A.Gn hr2 rfl A.n.at_ A.n.fn.kp A.n.bind .nil (passC hC) (zA0 (pv 2) (zA0 zA4 zA2))) zA4 (nomark _))
     (zA6 (zAb (i:=8) nd rfl (Or.inl rfl) (zAi zAk (zAg (zA0 zBk (zA0 (zB3 zDk rfl T.tuple PyProof.Rows.boot_tuple (zA0 (pv 5) zA2)) (zA0 zC6 (zA0 zBa (zA0 zA4 (zA0 (zAs (zA0 (zAi zAq (zAi zAk (pv 3) zA4 (fun _ _=>rfl)) zA4 (fun _ _=>rfl)) (zA0 zA4 (zA0 (zAg zA2) zA2)))) zA2))))))) (zA7 A.Gn hr2 rfl A.n.at_ A.n.fn.kp A.n.bind .nil (passC hC) (zA0 (pv 2) (zA0 zA4 zA2))) (fun _ _=>rfl)))) zAd)
     (zA6 (zAx (zAw (zAy (zA7 A.GR hr rfl A.R.at_ A.R.fn.kp A.R.bind .nil (passC hC) (zA0 (pv 4) (zA0 (pv 8) zA2)))))
     (zA6 (zAc zBo)) zAd)))))))
     (zA6 (zAx (PW.pt (zCz (zAj (op_neD hr.units) (zBg (zCg A.WC.mkd A.GI hr8 rfl A.WC.mgC A.bI .nil (passC hC) (zA0 (pv 4) (zA0 (zB3 zBw rfl T.list PyProof.Rows.boot_list (zA0 (pv 5) zA2)) zA2))) rfl) (pv 5) (nomark _)) (zBm (zAj op_ne (zAi zAq (zAi zAk (zBg (zCg A.WC.mkd A.GI hr8 rfl A.WC.mgC A.bI .nil (passC hC) (zA0 (pv 4) (zA0 (zAg (zA0 (zAs (zA0 (zAi zAq (zAi zAk (pv 3) zA4 (fun _ _=>rfl)) zA4 (fun _ _=>rfl)) (zA0 zA4 (zA0 (zAg zA2) zA2)))) zA2)) zA2))) rfl) zA4 (fun _ _=>rfl)) zA4 (fun _ _=>rfl)) zA4 (nomark _)))))
     (zA6 (zAc zBo)) zAd))))))))
     (zA6 (zAc (zC7 (op_eqD hr.units) (zCq (zCg A.WC.mkd A.GI hr8 rfl A.WC.mgC A.bI .nil (passC hC) (zA0 (zA7 A.GM hr7 rfl A.M.at_ A.M.fn.kp A.M.bind .nil (passC hC) (zA0 (zAg (zA0 (zAs (zA0 zBa (zA0 (zAg zA2) (zA0 zBk zA2)))) zA2)) zA2)) (zA0 (zAg (zA0 (zAs (zA0 zBa (zA0 zA4 (zA0 (zAg zA2) zA2)))) zA2)) zA2))) A.WC.cl A.WC.mWn A.GWn hr1 A.bWn .nil (passC hC)) (zAg (zA0 zBa zA2)) (nomark _)))),?_⟩
  have small:∀ n:Nat,n≤1000→n≤sizeLine:=fun n h=>Zm (small1000 h);obtain ⟨ms,ems,hms⟩:=cut_ints ns none (some 20);refine ⟨_,rfl,_,rfl,a,_,rfl,hS,fun p hp=>?_⟩;rw [ems]
  refine ⟨p,rfl,⟨_,SqL.of zA1⟩,zBf (K:=K) (a:=p) (xs:=ms.map V.int) (fun i σ H2=>∃ u1 u2 u3 u4 u5 u6 u7 u8:Option V,σ = [some (.ref a),u1,u2,u3,u4,u5,u6,u7,u8]∧H2 p=some (.lst (ms.map V.int))∧TabOk H2 Pt lamPos lamQ)
   ⟨none,none,none,none,none,none,none,none,rfl,zA1,hT.same (Same.new hp)⟩ (fun i σ H2 _ hz=>by obtain ⟨_,_,_,_,_,_,_,_,_,q,_⟩:=hz;exact SqL.of q) ?_ ?_⟩
  ·rintro i y σ H2 hi ⟨u1,u2,u3,u4,u5,u6,u7,u8,rfl,hp2,hT2⟩;obtain ⟨z,rfl⟩:∃ z,y=V.int z:=by
    rw [Z4] at hi;cases e:ms[i]? with
    | none=>rw [e] at hi;cases hi
    | some z=>rw [e] at hi;exact ⟨z,(Zk hi).symm⟩
   refine ⟨_,rfl,z,rfl,fun q H3 hq S3 s3 k3=>?_⟩;have pq:p≠q:=zA5 hp2 hq;have fq:∀ {b:Addr},H3 b=none→b≠q:=fun {b} h=>by obtain ⟨_,_,_,e,_⟩:=S3;exact (zA5 e h).symm
   have hT3:=hT2.same s3;refine ⟨_,rfl,q,0,rfl,S3,by decide,fun l rs H4 ok hd4 S4 k4=>?_⟩;have hp4:H4 p=some (.lst (ms.map V.int)):=k4 _ _ (s3 _ _ hp2) pq;have hT4:TabOk H4 Pt lamPos lamQ:=by
    obtain ⟨_,_,_,e,_⟩:=S3;exact hT3.but e (fun _ z=>nomatch z) (fun _ z=>nomatch z) k4
   have hd4':Has (fun a=>a≠q) H4 (.ref l) (.list (rs.map rowD)):=hd4.frame fun b o g e=>⟨fq g,e⟩;have r5:=ok.le;have r0:=ok.ne;obtain ⟨l',xs,e,gl,hl4,hz4,hx4⟩:=id hd4'.list_inv;cases e;have xl:xs.length=rs.length:=by rw [hx4.length,Z0]
   refine ⟨_,rfl,_,rfl,q,l,xs,_,rfl,SqL.of hl4,gl,S4,by omega,by omega,by omega,fun r tb bb H7 hr7' fr7 S7 k7=>?_⟩;have hd7r:Has Any H7 (.ref r) (.list ((turnL tb bb rs).map rowD)):=by
    refine .lst trivial hr7' (by rw [turnL_len];omega) ?_;rw [← turnL_map];exact hasAll_turn tb bb (hx4.frame fun b o g e=>⟨trivial,k7 _ _ e g⟩)
   have hp7:=k7 _ _ hp4 pq;have hd7:Has (fun a=>a≠q) H7 (.ref l) (.list (rs.map rowD)):=hd4'.frame fun b o g e=>⟨g,k7 _ _ e g⟩;have hT7:TabOk H7 Pt lamPos lamQ:=by
    obtain ⟨_,_,_,e,_⟩:=S4;exact hT4.but e (fun _ z=>nomatch z) (fun _ z=>nomatch z) k7
   have rp:RowsP (turnL tb bb rs):=⟨rs,ok,zDo tb bb rs⟩;refine ⟨r,turnL tb bb rs,rfl,hd7r,rp,hT7,fun kq d ord kvs zs H8 KX fk8 fd8 ZX KF8 hzs hpl gro lno TX gG=>?_⟩;have hp8:=gG _ _ hp7 (hT7.ne hp7 fun _ z=>nomatch z);have hd8:=has_grown hd7 hT7 gG;have S8:Src H8 q 302:=by
    obtain ⟨a',c',j',e,r⟩:=S7;exact ⟨a',c',j',gG _ _ e (hT7.ne e fun _ z=>nomatch z),r.1,by omega⟩
   refine ⟨_,rfl,_,rfl,q,l,rs,302,rfl,S8,by decide,hd8,ok,fun lw ws H9 wok wsl sum60 hw9 S9 k9=>?_⟩;have hzr:(zs.map (·.2)).Perm rs:=by rw [hzs];exact zDo tb bb rs
   have ndz:((zs.map (·.2)).map (·.name)).Nodup:=(hzr.map _).nodup_iff.mpr ok.nd;have hop:ord.Perm ((zs.map (·.2)).map (·.name)):=by
    rw [hzs];exact ord_perm gro lno rp.nd
   have tp:Top (zs.map (·.2)) ord:=by
    rw [hzs];exact zFr rp.nd gro
   have zl:zs.length=rs.length:=by have:=hzr.length_eq;rw [Z0] at this;exact this
   have insq:∀ {b:Addr}{C0 dx0:Addr}{fs:List (Str×V)},H8 b=some (.ins C0 dx0 fs)→b≠q:=fun {b}{C0}{dx0}{fs} e=>by obtain ⟨_,_,_,e',_⟩:=S8;exact zBe e e' (fun z=>nomatch z)
   have ksAt:∀ {Hx:Hp},(∀ b o,H8 b=some o→b≠q→Hx b=some o)→Ks CK C Hx kq d kvs zs ord:=fun {Hx} kx=>by
    refine ⟨KX.mono fun b o e hs=>kx _ _ e ?_,fun y hy=>(KF8 y hy).frame (fun b o e ⟨_,_,_,eo⟩=>kx _ _ e (by rw [eo] at e;exact insq e)) fun b o g _ e=>⟨trivial,kx _ _ e ?_⟩,hpl,by rw [Zn] at hop;exact hop,by rw [Zn] at ndz;exact ndz,by omega,fun y hy=>ok.ok _ (hzr.mem_iff.mp (List.mem_map.mpr ⟨y,hy,rfl⟩))⟩
    ·obtain ⟨_,_,_,e',_⟩:=S8;rcases hs with ⟨_,_,_,rfl⟩ | ⟨_,rfl⟩ | ⟨_,_,rfl⟩
     ·exact zBe e e' (fun z=>nomatch z)
     ·exact zBe e e' (fun z=>nomatch z)
     ·exact zBe e e' (fun z=>nomatch z)
    ·obtain ⟨_,_,_,e',_⟩:=S7;exact Ne.symm (zA5 e' g)
   have ol:=(ksAt k9).olen;have tperm:(table (zs.map (·.2)) ws ord).Perm (table rs ws (rs.map (·.name))):=by
    rw [table_rows hzr ndz];exact table_perm (hop.trans (hzr.map _))
   have tl2:(table rs ws (rs.map (·.name))).length≤60:=by
    rw [zEh ok.top (by rw [Z0];exact r5),Zn];exact sum60
   have tl1:(table (zs.map (·.2)) ws ord).length≤60:=by rw [tperm.length_eq];exact tl2
   have wsok:WsOk ws:=WOk.all wok (by omega);have qw:∀ {b},H8 b=none→b≠q:=fun {b} g=>S8.nw g;have hwq:Has (fun a=>a≠q) H9 (.ref lw) (.list (ws.map wD)):=hw9.frame fun b o g e=>⟨qw g,e⟩;have hd9:Has (fun a=>a≠q) H9 (.ref l) (.list (rs.map rowD)):=hd8.frame fun b o g e=>⟨g,k9 _ _ e g⟩;clear hw9;obtain ⟨lw',yw,e,gw,hlw9,hlwz,hyw⟩:=id hwq.list_inv;cases e;have ywl:yw.length=ws.length:=by rw [hyw.length,Z0]
   obtain ⟨r1,er1⟩:∃ r1,rs[0]? = some r1:=⟨_,Z1 r0⟩;have m1:=Z3 er1;have nm1:=(ok.ok r1 m1).1;obtain ⟨lq,xq,e,glq,hl9,_,hx9⟩:=id hd9.list_inv;cases e;have xql:xq.length=rs.length:=by rw [hx9.length,Z0]
   obtain ⟨y1,ey1⟩:∃ y1,xq[0]? = some y1:=⟨_,Z1 (by omega)⟩;obtain ⟨t1,lf1,rfl,ht1,nt1⟩:∃ t1 lf1,y1=.ref t1∧H9 t1=some (.tup [.str r1.name,.ref lf1,ownV r1.owner])∧t1≠q:=by
    obtain ⟨dd,hdd,hv1⟩:=hx9.get ey1;rw [Z4,er1] at hdd;cases hdd;obtain ⟨t1,lf1,rfl,ht1,_⟩:=zEj hv1;exact ⟨t1,lf1,rfl,ht1,by obtain ⟨_,_,_,e',_⟩:=S9;exact zBe ht1 e' (fun z=>nomatch z)⟩
   have FR0:∀ b o,H9 b=some o→b≠q→H9 b=some o:=fun b o e _=>e;refine ⟨4,rfl,by decide,by decide,for_range (n:=4) (fun i σ H'=>∃ x6 x7 x8:Option V,σ = [some (.ref a),some (.int z),some (.ref q),some (.ref l),some (.ref kq),some (.ref lw),x6,x7,x8]∧Src H' q (502 + 40 * (i:Int))∧∀ b o,H9 b=some o→b≠q→H' b=some o) ⟨_,_,_,rfl,S9.mono (by omega),FR0⟩ ?_ ?_⟩
   ·rintro i σ H' hi ⟨x6,x7,x8,rfl,Si,FR⟩;dsimp only [gName,List.set];refine ⟨_,rfl,_,rfl,lw,yw,rfl,.inl (SqL.of (FR _ _ hlw9 gw)),_,_,rfl,rfl,q,_,_,rfl,Si,by omega,by omega,by omega,fun r7 Ha a0 a1 Sa ka=>?_⟩;obtain ⟨j,rfl⟩:∃ j:Nat,r7=(j:Int):=⟨r7.toNat,by omega⟩;have jl:j≤yw.length:=by omega
    have Fa:∀ b o,H9 b=some o→b≠q→Ha b=some o:=fun b o e nb=>by rw [ka b nb];exact FR b o e nb
    dsimp only [gName,List.set];refine ⟨_,rfl,_,rfl,_,rfl,lw,yw,rfl,SqL.of (Fa _ _ hlw9 gw),fun l1 h1=>?_⟩;rw [cut_take jl];have w1:Same Ha (upd Ha l1 (.lst (yw.take j))):=Same.new h1;have x1:(upd Ha l1 (.lst (yw.take j))) l1=some (.lst (yw.take j)):=zA1;have n1:l1≠q:=Sa.nw h1;generalize upd Ha l1 (.lst (yw.take j))=Hb at w1 x1 ⊢;have Sb:=Sa.up w1;have Fb:∀ b o,H9 b=some o→b≠q→Hb b=some o:=fun b o e nb=>w1 _ _ (Fa b o e nb);refine ⟨_,rfl,_,rfl,q,l,rs,_,rfl,Sb,by omega,hd9.frame (fun b o g e=>⟨g,Fb b o e g⟩),ok,fun y dy Hc hrow hyd Sc kc=>?_⟩;have Fc:∀ b o,H9 b=some o→b≠q→Hc b=some o:=fun b o e nb=>kc _ _ (Fb b o e nb) nb;refine ⟨small 1 (by decide),fun l2 h2=>?_⟩;have w2:Same Hc (upd Hc l2 (.lst [y])):=Same.new h2;have x2:(upd Hc l2 (.lst [y])) l2=some (.lst [y]):=zA1;generalize upd Hc l2 (.lst [y])=Hd at w2 x2 ⊢;have tl:(yw.take j).length≤6:=by have:=Zy j yw;omega
    have dl:(yw.drop j).length≤6:=by rw [Yo];omega
    refine ⟨l1,l2,_,_,rfl,rfl,w2 _ _ (kc _ _ x1 n1),x2,by show _ + 1≤_;exact small _ (by omega),fun l3 h3=>?_⟩;have w3:Same Hd (upd Hd l3 (.lst (yw.take j++[y]))):=Same.new h3;have x3:(upd Hd l3 (.lst (yw.take j++[y]))) l3=some (.lst (yw.take j++[y])):=zA1;generalize upd Hd l3 (.lst (yw.take j++[y]))=He at w3 x3 ⊢;have w23:=w2.trans w3;refine ⟨_,rfl,_,rfl,_,rfl,lw,yw,rfl,SqL.of (w23 _ _ (Fc _ _ hlw9 gw)),fun l4 h4=>?_⟩;rw [cut_drop jl];have w4:Same He (upd He l4 (.lst (yw.drop j))):=Same.new h4;have x4:(upd He l4 (.lst (yw.drop j))) l4=some (.lst (yw.drop j)):=zA1;generalize upd He l4 (.lst (yw.drop j))=Hf at w4 x4 ⊢;refine ⟨l3,l4,_,_,rfl,rfl,w4 _ _ x3,x4,by rw [Z7];show _ + 1 + _≤_;exact small _ (by omega),fun l5 h5=>?_⟩;have w5:Same Hf (upd Hf l5 (.lst (yw.take j++[y]++yw.drop j))):=Same.new h5;have x5:(upd Hf l5 (.lst (yw.take j++[y]++yw.drop j))) l5=some (.lst (yw.take j++[y]++yw.drop j)):=zA1;have n5:l5≠q:=(Sc.up (w23.trans w4)).nw h5;generalize upd Hf l5 (.lst (yw.take j++[y]++yw.drop j))=Hg at w5 x5 ⊢;have w25:=w23.trans (w4.trans w5);have Sg:=Sc.up w25;have Fg:∀ b o,H9 b=some o→b≠q→Hg b=some o:=fun b o e nb=>w25 _ _ (Fc b o e nb);have hyw':HasAll (fun a=>a≠q) Hg yw (ws.map wD):=hyw.frame fun b o g e=>⟨g,Fg b o e g⟩;have hlst:HasAll (fun a=>a≠q) Hg (yw.take j++[y]++yw.drop j) ((ws.map wD).take j++[dy]++(ws.map wD).drop j):=zAu (zAu (zBp j hyw') (.cons ((hyd.frame fun b o g e=>⟨Sb.nw g,w25 _ _ e⟩)) .nil)) (zBq j hyw');have hlen5:(yw.take j++[y]++yw.drop j).length≤13:=by
     rw [Z7,Z7];show _ + 1 + _≤_;omega
    have bad5:rowsB rs (.list ((ws.map wD).take j++[dy]++(ws.map wD).drop j))=false:=rows_in (d:=dy) (by simp) hrow;generalize (yw.take j++[y]++yw.drop j)=ys5 at x5 hlst hlen5;generalize (ws.map wD).take j++[dy]++(ws.map wD).drop j=ds5 at hlst bad5;dsimp only [gName,List.set];refine' k_own (F:=fun lb Hx=>Src Hx q (502 + 40 * (i:Int) + 35)∧(∀ b o,H9 b=some o→b≠q→Hx b=some o)∧∃ ds,Has (fun a=>a≠q) Hx (.ref lb) (.list ds)∧rowsB rs (.list ds)=false) _ (fun kk=>_);rotate_left 2
    ·refine ⟨_,rfl,q,_,_,rfl,Sg,by omega,by decide,by decide,fun r8 Hh b0 b1 Sh kh=>⟨rfl,_,rfl,?_⟩⟩;have Fh:∀ b o,H9 b=some o→b≠q→Hh b=some o:=fun b o e nb=>by rw [kh b nb];exact Fg b o e nb
     have hl5:Has (fun a=>a≠q) Hh (.ref l5) (.list ds5):=.lst n5 (by rw [kh _ n5];exact x5) (by omega) (hlst.frame fun b o g e=>⟨g,by rw [kh b g];exact e⟩);generalize l5=l6 at hl5 ⊢;refine ite2 (fun c=>?_) (fun c=>kk l6 Hh ⟨Sh.mono (by omega),Fh,ds5,hl5,bad5⟩);obtain ⟨l6',ys6,e,n6,x6',_,hys6⟩:=id hl5.list_inv;cases e;have yl6:ys6.length≤13:=by rw [hys6.length];have:=hlst.length;omega
     refine ⟨_,rfl,?_⟩;refine ⟨_,rfl,l,xq,0,_,rfl,rfl,SqL.of (Fh _ _ hl9 glq),zB1 (j:=0) ey1,t1,_,0,_,rfl,rfl,SqT.of (Fh _ _ ht1 nt1),rfl,Zo _,fun m1' g1=>⟨small 3 (by decide),fun v1 gv1=>?_⟩⟩;have s9':Same Hh (upd (upd Hh m1' (.lst [])) v1 (.tup [.str r1.name,.int 60,.ref m1'])):=(Same.new g1).trans (Same.new gv1);have d9':Has (fun a=>a≠q) (upd (upd Hh m1' (.lst [])) v1 (.tup [.str r1.name,.int 60,.ref m1'])) (.ref v1) (wD ⟨r1.name,60,[]⟩):=w0G (m:=60) gv1 nm1 (Sh.nw g1) ((Sh.up (Same.new g1)).nw gv1);generalize upd (upd Hh m1' (.lst [])) v1 (.tup [.str r1.name,.int 60,.ref m1'])=Hi at s9' d9' ⊢;refine ⟨_,rfl,l,xq,0,_,rfl,rfl,SqL.of (s9' _ _ (Fh _ _ hl9 glq)),zB1 (j:=0) ey1,t1,_,0,_,rfl,rfl,SqT.of (s9' _ _ (Fh _ _ ht1 nt1)),rfl,Zo _,fun m2 g2=>⟨small 3 (by decide),fun v2 gv2=>?_⟩⟩;have s10:Same Hi (upd (upd Hi m2 (.lst [])) v2 (.tup [.str r1.name,.int 60,.ref m2])):=(Same.new g2).trans (Same.new gv2);have d10:Has (fun a=>a≠q) (upd (upd Hi m2 (.lst [])) v2 (.tup [.str r1.name,.int 60,.ref m2])) (.ref v2) (wD ⟨r1.name,60,[]⟩):=w0G (m:=60) gv2 nm1 ((Sh.up s9').nw g2) (((Sh.up s9').up (Same.new g2)).nw gv2);generalize upd (upd Hi m2 (.lst [])) v2 (.tup [.str r1.name,.int 60,.ref m2])=Hj at s10 d10 ⊢;refine ⟨small 2 (by decide),fun m3 g3=>?_⟩;have s11:Same Hj (upd Hj m3 (.lst [.ref v1,.ref v2])):=Same.new g3;have x11:(upd Hj m3 (.lst [.ref v1,.ref v2])) m3=some (.lst [.ref v1,.ref v2]):=zA1;generalize upd Hj m3 (.lst [.ref v1,.ref v2])=Hk at s11 x11 ⊢;have s9k:=s9'.trans (s10.trans s11);refine ⟨l6,m3,_,_,rfl,rfl,s9k _ _ x6',x11,by show _ + 2≤_;exact small _ (by omega),fun c5 k5=>?_⟩;have s12:Same Hk (upd Hk c5 (.lst (ys6++[.ref v1,.ref v2]))):=Same.new k5;have s912:=s9k.trans s12;refine kk c5 _ ⟨(Sh.up s912).mono (by omega),fun b o e nb=>s912 _ _ (Fh b o e nb),ds5++[wD ⟨r1.name,60,[]⟩,wD ⟨r1.name,60,[]⟩],.lst ((Sh.up s9k).nw k5) zA1 (by rw [Z7];show _ + 2≤_;omega) (zAu (hys6.mono s912) (.cons (d9'.mono (s10.trans (s11.trans s12))) (.cons (d10.mono (s11.trans s12)) .nil))),?_⟩;show (ds5++_).all (rowB rs)=false;rw [List.all_append,show ds5.all (rowB rs)=false from bad5];rfl
    rintro lb Hx ⟨Sx,Fx,ds,hlb,hbad⟩;refine' k_ownV (F:=fun v Hx=>Src Hx q (502 + 40 * (i:Int) + 37)∧(∀ b o,H9 b=some o→b≠q→Hx b=some o)∧NoRows rs Hx v) _ (fun kk=>_);rotate_left 2
    ·refine ⟨_,rfl,q,_,_,rfl,Sx,by omega,by decide,by decide,fun r9 Hy b0 b1 Sy ky=>⟨rfl,_,rfl,?_⟩⟩;have Fy:∀ b o,H9 b=some o→b≠q→Hy b=some o:=fun b o e nb=>by rw [ky b nb];exact Fx b o e nb
     have hlb':Has (fun a=>a≠q) Hy (.ref lb) (.list ds):=hlb.frame fun b o g e=>⟨g,by rw [ky b g];exact e⟩;obtain ⟨vb,evb⟩:∃ vb,vb=V.ref lb:=⟨_,rfl⟩;rw [← evb] at hlb' ⊢;refine ite2 (fun c=>?_) (fun c=>kk vb Hy ⟨Sy.mono (by omega),Fy,.inl ⟨_,hlb'.any,hbad⟩⟩);refine ⟨_,rfl,lw,yw,rfl,.inl ⟨SqL.of (Fy _ _ hlw9 gw),fun tw htw=>?_⟩⟩;have s1:Same Hy (upd Hy tw (.tup yw)):=Same.new htw;have x1':(upd Hy tw (.tup yw)) tw=some (.tup yw):=zA1;have n1':tw≠q:=Sy.nw htw;generalize upd Hy tw (.tup yw)=Ha' at s1 x1' ⊢;intro dd hdd;have s2:Same Ha' (upd Ha' dd (.dK [])):=Same.new hdd;have x2':(upd Ha' dd (.dK [])) dd=some (.dK []):=zA1;have n2':dd≠q:=(Sy.up s1).nw hdd;generalize upd Ha' dd (.dK [])=Hb' at s2 x2' ⊢;have s12:=s1.trans s2;refine ⟨_,rfl,l,xq,0,_,rfl,rfl,SqL.of (s12 _ _ (Fy _ _ hl9 glq)),zB1 (j:=0) ey1,t1,_,0,_,rfl,rfl,SqT.of (s12 _ _ (Fy _ _ ht1 nt1)),rfl,Zo _,fun m2 g2=>⟨small 3 (by decide),fun v2 gv2=>?_⟩⟩;have s3:Same Hb' (upd (upd Hb' m2 (.lst [])) v2 (.tup [.str r1.name,.int 1,.ref m2])):=(Same.new g2).trans (Same.new gv2);have d3:Has (fun a=>a≠q) (upd (upd Hb' m2 (.lst [])) v2 (.tup [.str r1.name,.int 1,.ref m2])) (.ref v2) (wD ⟨r1.name,1,[]⟩):=w0G (m:=1) gv2 nm1 ((Sy.up s12).nw g2) (((Sy.up s12).up (Same.new g2)).nw gv2);generalize upd (upd Hb' m2 (.lst [])) v2 (.tup [.str r1.name,.int 1,.ref m2])=Hc' at s3 d3 ⊢;refine ⟨small 6 (by decide),fun l6 h6=>?_⟩;have s4:Same Hc' (upd Hc' l6 (.lst [.non,.ref tw,.ref dd,.str "",.int 0,.ref v2])):=Same.new h6;have x6':(upd Hc' l6 (.lst [.non,.ref tw,.ref dd,.str "",.int 0,.ref v2])) l6=some (.lst [.non,.ref tw,.ref dd,.str "",.int 0,.ref v2]):=zA1;have n6:l6≠q:=(Sy.up (s12.trans s3)).nw h6;generalize upd Hc' l6 (.lst [.non,.ref tw,.ref dd,.str "",.int 0,.ref v2])=Hd' at s4 x6' ⊢;have s14:=s12.trans (s3.trans s4);refine ⟨_,rfl,q,_,_,rfl,Sy.up s14,by omega,by decide,by decide,fun r6 Hz z0 z1 Sz kz=>?_⟩;have Fz:∀ b o,H9 b=some o→b≠q→Hz b=some o:=fun b o e nb=>by rw [kz b nb];exact s14 _ _ (Fy b o e nb)
     obtain ⟨j6,rfl⟩:∃ j:Nat,r6=(j:Int):=⟨r6.toNat,by omega⟩;obtain ⟨yy,eyy⟩:∃ yy,([.non,.ref tw,.ref dd,.str "",.int 0,.ref v2]:List V)[j6]? = some yy:=⟨_,Z1 (by show j6 < 6;omega)⟩;have bad:NoRows rs Hz yy:=by
      have hm:=Z3 eyy;simp only [Zw,Zp,or_false] at hm;rcases hm with rfl | rfl | rfl | rfl | rfl | rfl
      ·exact .inl ⟨_,.non,rfl⟩
      ·exact .inl ⟨.tuple (ws.map wD),.tup trivial (by rw [kz _ n1'];exact s4 _ _ (s3 _ _ (s2 _ _ x1'))) (by omega) (hyw.frame fun b o g e=>⟨trivial,Fz b o e g⟩),rfl⟩
      ·exact .inr ⟨dd,_,rfl,by rw [kz _ n2'];exact s4 _ _ (s3 _ _ x2')⟩
      ·exact .inl ⟨_,.str "" (by decide +kernel) (by decide +kernel),rfl⟩
      ·exact .inl ⟨_,.int 0,rfl⟩
      ·exact .inl ⟨_,d3.frame fun b o g e=>⟨trivial,by rw [kz b g];exact s4 _ _ e⟩,rfl⟩
     refine ⟨l6,_,(j6:Int),yy,rfl,rfl,SqL.of (by rw [kz _ n6];exact x6'),zB1 eyy,?_⟩;exact kk yy Hz ⟨Sz.mono (by omega),Fz,bad⟩
    rintro v Hy ⟨Sy,Fy,bad⟩;refine ⟨_,rfl,_,rfl,kq,d,v,kvs,zs,ord,rfl,ksAt (fun b o e nb=>Fy _ _ (k9 _ _ e nb) nb),bad.perm hzr ndz,fun Hz sz=>⟨_,rfl,iteF ?_⟩⟩;exact ⟨_,_,_,rfl,(Sy.up sz).mono (by push_cast;omega),fun b o e nb=>sz _ _ (Fy b o e nb)⟩
   ·rintro σ H' ⟨x6,x7,x8,rfl,Si,FR⟩;have hT9:TabOk H9 Pt lamPos lamQ:=by
     obtain ⟨_,_,_,e,_⟩:=S8;exact TX.but e (fun _ z=>nomatch z) (fun _ z=>nomatch z) k9
    have hT':TabOk H' Pt lamPos lamQ:=by
     obtain ⟨_,_,_,e,_⟩:=S9;exact hT9.but e (fun _ z=>nomatch z) (fun _ z=>nomatch z) FR
    have hp':H' p=some (.lst (ms.map V.int)):=FR _ _ (k9 _ _ hp8 pq) pq;have ks':Ks CK C H' kq d kvs zs ord:=ksAt fun b o e nb=>FR _ _ (k9 _ _ e nb) nb;have hw':Has Any H' (.ref lw) (.list (ws.map wD)):=hwq.frame fun b o g e=>⟨trivial,FR b o e g⟩;have el':=FR _ _ hl9 glq;have et':=FR _ _ ht1 nt1;have elw':=FR _ _ hlw9 gw;refine ⟨_,rfl,_,rfl,lw,yw,rfl,.inl (SqL.of elw'),fun lh hlh=>?_⟩;have s10:Same H' (upd H' lh (.lst yw)):=Same.new hlh;have hd10:Has Any (upd H' lh (.lst yw)) (.ref lh) (.list (ws.map wD)):=.lst trivial zA1 hlwz (hyw.frame fun b o g e=>⟨trivial,s10 _ _ (FR b o e g)⟩);generalize upd H' lh (.lst yw)=H10 at s10 hd10 ⊢;intro x dx hx hdx hne;have hx2:(upd H10 dx (.own x)) x=none:=by rw [zA8 hne.symm];exact hx
    have s11:Same H10 (upd (upd H10 dx (.own x)) x (.ins CW dx [])):=(Same.new hdx).trans (Same.new hx2);have e11:(upd (upd H10 dx (.own x)) x (.ins CW dx [])) x=some (.ins CW dx []):=zA1;generalize upd (upd H10 dx (.own x)) x (.ins CW dx [])=H11 at s11 e11 ⊢;refine ⟨x,dx,kq,d,lh,kvs,zs,ord,ws,rfl,e11,ks'.same (s10.trans s11),tp,hd10.mono s11,fun w' hw'=>(wok w' hw').perm hzr.symm ok.nd,by omega,tl1,fun lr df kvF H12 e12 hlr hrw hdf edf htab fr12=>⟨rfl,?_⟩⟩;have k1012:Same H10 H12:=fun b o e=>fr12 _ _ (s11 _ _ e) (zA5 e hx);have k12:=s10.trans k1012;refine ⟨x,CW,dx,_,_,rfl,e12,A.WC.cl,A.WC.nR,wf_rows _ _ _,_,rfl,ne_same hrw (hw'.mono k12) (depth_wlist ws) ⟨_,rfl,iteF ?_⟩⟩;refine ⟨_,rfl,_,rfl,l,xq,0,_,rfl,rfl,SqL.of (k12 _ _ el'),zB1 (j:=0) ey1,t1,_,0,_,rfl,rfl,SqT.of (k12 _ _ et'),rfl,Zo _,fun m2 g2=>⟨small 3 (by decide),fun v2 gv2=>?_⟩⟩;have s13:Same H12 (upd (upd H12 m2 (.lst [])) v2 (.tup [.str r1.name,.int 60,.ref m2])):=(Same.new g2).trans (Same.new gv2);have d13:Has Any (upd (upd H12 m2 (.lst [])) v2 (.tup [.str r1.name,.int 60,.ref m2])) (.ref v2) (wD ⟨r1.name,60,[]⟩):=w0G (m:=60) gv2 nm1 trivial trivial;generalize upd (upd H12 m2 (.lst [])) v2 (.tup [.str r1.name,.int 60,.ref m2])=H13 at s13 d13 ⊢;refine ⟨small 1 (by decide),fun m3 g3=>?_⟩;have s14:Same H13 (upd H13 m3 (.lst [.ref v2])):=Same.new g3;have d14:Has Any (upd H13 m3 (.lst [.ref v2])) (.ref m3) (.list (([⟨r1.name,60,[]⟩]:List WRow).map wD)):=.lst trivial zA1 (by show 1≤1000;decide) (.cons (d13.mono s14) .nil);generalize upd H13 m3 (.lst [.ref v2])=H14 at s14 d14 ⊢;intro x' dx' hx' hdx' hne';have hx2':(upd H14 dx' (.own x')) x'=none:=by rw [zA8 hne'.symm];exact hx'
    have s15:Same H14 (upd (upd H14 dx' (.own x')) x' (.ins CW dx' [])):=(Same.new hdx').trans (Same.new hx2');have e15:(upd (upd H14 dx' (.own x')) x' (.ins CW dx' [])) x'=some (.ins CW dx' []):=zA1;generalize upd (upd H14 dx' (.own x')) x' (.ins CW dx' [])=H15 at s15 e15 ⊢;have k14:=k12.trans (s13.trans s14);have own1:r1.owner=none:=by
     cases eo:r1.owner with
     | none=>rfl
     | some o =>
      obtain ⟨j0,_,hj,_⟩:=ok.own 0 r1 o er1 eo;exact absurd hj (Nat.not_lt_zero _)
    have w60:WOk (zs.map (·.2)) ⟨r1.name,60,[]⟩:=(one_ok ok m1 (by decide) (by decide)).perm hzr.symm ok.nd;have t60:(table (zs.map (·.2)) [⟨r1.name,60,[]⟩] ord).length≤60:=by
     rw [sum_one (n:=r1.name) tp ol (hop.nodup_iff.mpr ndz) ((hop.trans (hzr.map _)).mem_iff.mpr (List.mem_map.mpr ⟨r1,m1,rfl⟩)) (by rw [zBt hzr ndz,(ok.row m1).2];exact own1) (fun k' hk'=>?_)]
     ·show each [⟨r1.name,60,[]⟩] r1.name≤60;unfold each;simp
     ·unfold each;simp [Ne.symm hk']
    refine ⟨x',dx',kq,d,m3,kvs,zs,ord,[⟨r1.name,60,[]⟩],rfl,e15,ks'.same (k14.trans s15),tp,d14.mono s15,(fun w' hw'=>by rw [List.mem_singleton.mp hw'];exact w60),by show 1≤10;decide,t60,fun lr2 df2 kvF2 H16 e16 hlr2 hrw2 hdf2 edf2 htab2 fr16=>⟨rfl,?_⟩⟩;have k1416:Same H14 H16:=fun b o e=>fr16 _ _ (s15 _ _ e) (zA5 e hx');have k16:=k14.trans k1416;refine ⟨x',CW,dx',_,_,rfl,e16,A.WC.cl,A.WC.nR,wf_rows _ _ _,?_⟩;obtain ⟨lr',yr,e,_,elr,_,hyr⟩:=id hrw2.list_inv;cases e;have yl1:yr.length=1:=hyr.length;obtain ⟨yz,eyz⟩:∃ yz,yr[0]? = some yz:=⟨_,Z1 (by omega)⟩;obtain ⟨dz,edz,hyz⟩:=hyr.get eyz;cases edz;obtain ⟨tz,lz,rfl,htz,_⟩:=w_inv hyz;refine ⟨lr2,yr,0,_,rfl,rfl,SqL.of elr,zB1 (j:=0) eyz,tz,_,1,_,rfl,rfl,SqT.of htz,rfl,rfl,_,rfl,iteF ?_⟩;exact ⟨_,_,_,_,_,_,_,_,rfl,k16 _ _ hp',hT'.same k16⟩
  ·rintro σ H2 ⟨u1,u2,u3,u4,u5,u6,u7,u8,rfl,hp2,hT2⟩;refine ⟨Zo _,fun l1 h1=>⟨by show 3≤sizeLine;exact small 3 (by decide),fun t1 ht1=>?_⟩⟩;obtain ⟨s1,d1⟩:=row0 (n:="a") (o:=none) h1 ht1 nma fun x e=>nomatch e;have s1':Same H2 (upd (upd H2 l1 (.lst [])) t1 (.tup [.str "a",.ref l1,.non])):=s1;have d1':Has Any (upd (upd H2 l1 (.lst [])) t1 (.tup [.str "a",.ref l1,.non])) (.ref t1) (rowD ⟨"a",[],none⟩):=d1;clear s1 d1;generalize upd (upd H2 l1 (.lst [])) t1 (.tup [.str "a",.ref l1,.non])=H3 at s1' d1' ⊢;refine ⟨small 1 (by decide),fun l3 h3=>?_⟩;have s3:Same H3 (upd H3 l3 (.lst [.ref t1])):=Same.new h3;refine ⟨l3,rowsA,rfl,.lst trivial zA1 (by show 1≤1000;decide) (.cons (d1'.mono s3) .nil),⟨rowsA,okA,.refl _⟩,(hT2.same s1').same s3,fun kq d ord kvs zs H8 KX _ _ ZX KF8 hzs hpl gro lno TX gG=>?_⟩;have ndz:((zs.map (·.2)).map (·.name)).Nodup:=by rw [hzs];exact okA.nd
   have hop:ord.Perm ((zs.map (·.2)).map (·.name)):=by
    rw [hzs];exact ord_perm gro lno okA.nd
   have tp:Top (zs.map (·.2)) ord:=by
    rw [hzs];exact zFr okA.nd gro
   have ks8:Ks CK C H8 kq d kvs zs ord:=by
    refine ⟨KX,fun y hy=>(KF8 y hy).frame (fun b o e _=>e) fun b o g _ e=>⟨trivial,e⟩,hpl,by rw [Zn] at hop;exact hop,by rw [Zn] at ndz;exact ndz,?_,fun y hy=>okA.ok _ (by rw [← hzs];exact List.mem_map.mpr ⟨y,hy,rfl⟩)⟩;have:=congrArg List.length hzs;rw [Z0] at this;rw [this]
    decide
   have eord:ord=(["a"]:List Str):=List.perm_singleton.mp (by rw [hzs] at hop;exact hop);subst eord;have t1e:(table (zs.map (·.2)) wsA1 (["a"]:List Str)).length≤60:=by rw [hzs,lenA1];decide
   refine ⟨Zo _,fun m2 g2=>⟨small 3 (by decide),fun v2 gv2=>?_⟩⟩;have s13:Same H8 (upd (upd H8 m2 (.lst [])) v2 (.tup [.str "a",.int 1,.ref m2])):=(Same.new g2).trans (Same.new gv2);have d13:Has Any (upd (upd H8 m2 (.lst [])) v2 (.tup [.str "a",.int 1,.ref m2])) (.ref v2) (wD ⟨"a",1,[]⟩):=w0G (m:=1) gv2 nma trivial trivial;generalize upd (upd H8 m2 (.lst [])) v2 (.tup [.str "a",.int 1,.ref m2])=H13 at s13 d13 ⊢;refine ⟨small 1 (by decide),fun m3 g3=>?_⟩;have s14:Same H13 (upd H13 m3 (.lst [.ref v2])):=Same.new g3;have d14:Has Any (upd H13 m3 (.lst [.ref v2])) (.ref m3) (.list (wsA1.map wD)):=.lst trivial zA1 (by show 1≤1000;decide) (.cons (d13.mono s14) .nil);generalize upd H13 m3 (.lst [.ref v2])=H14 at s14 d14 ⊢;intro x' dx' hx' hdx' hne';have hx2':(upd H14 dx' (.own x')) x'=none:=by rw [zA8 hne'.symm];exact hx'
   have s15:Same H14 (upd (upd H14 dx' (.own x')) x' (.ins CW dx' [])):=(Same.new hdx').trans (Same.new hx2');refine ⟨x',dx',kq,d,m3,kvs,zs,["a"],wsA1,rfl,zA1,ks8.same ((s13.trans s14).trans s15),tp,d14.mono s15,by rw [hzs];exact wokA1,by decide,t1e,fun lr df kvF H16 e16 hlr hrw hdf edf htab fr16=>⟨rfl,?_⟩⟩;have kF:=table_keys htab;refine ⟨x',dx',_,rfl,e16,wf_no _ _ _ (by decide +kernel) (by decide +kernel) (by decide +kernel),x',kq,lr,df,kvF,_,rfl,⟨dx',e16⟩,edf,kF,by rw [Z0];omega,fun lg gks hlg pg sg=>?_⟩;have eg:gks=(["a.0"]:List Str):=by
    rw [hzs,tableA] at pg;exact List.perm_singleton.mp pg
   subst eg;refine ⟨small 1 (by decide),fun le hle=>?_⟩;have ok1:∀ s∈(["a.0"]:List Str),s.length≤1000∧PyData.strOk s=true:=by decide +kernel
   have has1:∀ {Hx:Hp}{lx:Addr},Hx lx=some (.lst ((["a.0"]:List Str).map V.str))→Has Any Hx (.ref lx) (.list ((["a.0"]:List Str).map PyData.str)):=fun e=>.lst trivial e (by show 1≤1000;decide) (strs_has ok1);exact eq_same (G:=Any) (G':=Any) (has1 ((Same.new hle) _ _ zA1)) (has1 zA1) (depth_list _) (k _)
end
end L2.W
namespace L2.W
open PySem My
theorem len1 {α : Type}{us:List α} (h:us.length=1):∃ a,us=[a]:=List.length_eq_one_iff.mp h
theorem len2 {α : Type}{us:List α} (h:us.length=2):∃ a0 a1,us=[a0,a1]:=by
 cases us with
 | nil=>cases h
 | cons a0 r=>obtain ⟨a1,rfl⟩:=len1 (show r.length=1 from Nat.succ.inj h);exact ⟨a0,a1,rfl⟩
theorem len3 {α : Type}{us:List α} (h:us.length=3):∃ a0 a1 a2,us=[a0,a1,a2]:=by
 cases us with
 | nil=>cases h
 | cons a0 r=>obtain ⟨a1,a2,rfl⟩:=len2 (show r.length=2 from Nat.succ.inj h);exact ⟨a0,a1,a2,rfl⟩
theorem len4 {α : Type}{us:List α} (h:us.length=4):∃ a0 a1 a2 a3,us=[a0,a1,a2,a3]:=by
 cases us with
 | nil=>cases h
 | cons a0 r=>obtain ⟨a1,a2,a3,rfl⟩:=len3 (show r.length=3 from Nat.succ.inj h);exact ⟨a0,a1,a2,a3,rfl⟩
structure DL (K:PySem.W.Frag) (x:Str) (st:Stmt) (f:Addr) (fd:FuncData):Prop where
 a:PySem.W.nsIn K mainGlobals x=some (some (.ref f))
 F:Fun K x x st f fd
structure ML (K:PySem.W.Frag) (C:Addr) (x q:Str) (st:Stmt) (f:Addr) (fd:FuncData):Prop where
 a:PySem.W.findIn K (.ref C) x=some (some (.ref f))
 i:PySem.W.isFn K (.ref f)=true
 F:Fun K x q st f fd
theorem mkD {K:PySem.W.Frag}{h:Heap}{mg:Str→Option Value}{x:Str}{st:Stmt}{f:Addr}{fd:FuncData}{ps:List Str} (X:K.In h) (G:h.Ns mainGlobals mg) (D:DL K x st f fd) (hb:∀ (kV doc pm:Value) (an:Option Addr) (cdv ct:Value) (us:List Value),us.length=ps.length→bindArgs (PySem.W.fnOf x x (defArgs st) (defBody st) (defScope st) .none kV doc pm an cdv ct) ⟨us,[]⟩=pure (ps.zip us)):Def K mg x st ps f fd:=⟨D.F,PySem.W.mg_of X G D.a,D.F.binds hb⟩
theorem zB6 {K:PySem.W.Frag}{x:Str}{st:Stmt}{f:Addr}{oc:Value}{od an:Option Addr}{osl:Array (Option Value)}{kV doc pm cdv ct:Value} (a:PySem.W.nsIn K mainGlobals x=some (some (.ref f))) (l:K.lookup f=some ⟨oc,od,.func (PySem.W.fnOf x x (defArgs st) (defBody st) (defScope st) .none kV doc pm an cdv ct),osl⟩)
  (c:PySem.W.codeIn K cdv x=true) (k:PySem.W.keepIn K (.ref f)=true):DL K x st f (PySem.W.fnOf x x (defArgs st) (defBody st) (defScope st) .none kV doc pm an cdv ct):=⟨a,fun_mk l c k⟩
theorem ml_mk {K:PySem.W.Frag}{C:Addr}{x q:Str}{st:Stmt}{f:Addr}{oc:Value}{od an:Option Addr}{osl:Array (Option Value)}{kV doc pm cdv ct:Value} (a:PySem.W.findIn K (.ref C) x=some (some (.ref f))) (i:PySem.W.isFn K (.ref f)=true) (l:K.lookup f=some ⟨oc,od,.func (PySem.W.fnOf x q (defArgs st) (defBody st) (defScope st) .none kV doc pm an cdv ct),osl⟩)
  (c:PySem.W.codeIn K cdv q=true) (k:PySem.W.keepIn K (.ref f)=true):ML K C x q st f (PySem.W.fnOf x q (defArgs st) (defBody st) (defScope st) .none kV doc pm an cdv ct):=⟨a,i,fun_mk l c k⟩
theorem all_mk {l:PySem.W.OpenLaw}{w:World}{K:PySem.W.Frag}{h:Heap}{mg:Str→Option Value}{fx:Addr} (X:K.In h) (G:h.Ns mainGlobals mg) (hfa:mg "law" = some (.ref fx))
  {fN fW fU fP fF fCt fPl fHv fA fWn fHf fPo fNo fPf fPs fIr fAr fEa fCw fWe fWb fm fd fn fg fa fl fS fTu fM fCa fRo fMy fFw fOc fOo fRf fIk fOr fOf fOw fIw fWd fWs:Addr}{dN dW dU dP dF dCt dPl dHv dA dWn dHf dPo dNo dPf dPs dIr dAr dEa dCw dWe dWb dm dd dn dg da dl dS dTu dM dCa dRo dMy dFw dOc dOo dRf dIk dOr dOf dOw dIw dWd dWs:FuncData}{C1 C2 C3 CN CR:Addr}{C CK CW fI TD c Pt:Addr}{ocI kVI dcI pmI cdI ctI:Value}{odI anI:Option Addr}{slI:Array (Option Value)}{ocT:Value}{odT:Option Addr}{slT:Array (Option Value)}{nT:Nat}{t0 t1 t2 t3 t4 t5 t6 t7:Tok}
  {fp:Addr}{ocp kVp dcp pmp ctp:Value}{odp anp:Option Addr}{slp:Array (Option Value)}
  {fL:Addr}{ocL kVL dcL pmL ctL:Value}{odL anL:Option Addr}{slL:Array (Option Value)}{cdL:Value}
  (aCK:PySem.W.nsIn K mainGlobals "Kinds" = some (some (.ref CK))) (aCW:PySem.W.nsIn K mainGlobals "Wishes" = some (some (.ref CW)))
  (xN:DL K "is_name" sIsName fN dN)
  (xW:DL K "is_whole" sIsWhole fW dW)
  (xU:DL K "are_unlike_names" sUnlike fU dU)
  (xP:DL K "is_pair_with_values" sPair fP dP)
  (xF:DL K "are_fields" sFields fF dF)
  (xCt:DL K "count_states" sCount fCt dCt)
  (xPl:DL K "place_of" sPlaceOf fPl dPl)
  (xHv:DL K "has_value" sHasVal fHv dHv)
  (xA:DL K "are_kinds" sAreKinds fA dA)
  (xap:PySem.W.nsIn K mainGlobals "placed_by_owners" = some (some (.ref fp))) (xlp:K.lookup fp=some ⟨ocp,odp,.func (PySem.W.fnOf "placed_by_owners" "placed_by_owners" (defArgs sPlaced) (defBody sPlaced) (defScope sPlaced) .none kVp dcp pmp anp (.ref c) ctp),slp⟩) (xcp:PySem.W.codeIn K (.ref c) "placed_by_owners" = true) (xkp:PySem.W.keepIn K (.ref fp)=true)
  (xWn:DL K "is_written_number" sWritten fWn dWn)
  (xHf:DL K "has_form" sHasForm fHf dHf)
  (xPo:DL K "parts_of" sPartsOf fPo dPo)
  (xNo:DL K "name_of" sNameOf fNo dNo)
  (xPf:DL K "is_pair_of" sPairOf fPf dPf)
  (xPs:DL K "are_pairs_of" sPairsOf fPs dPs)
  (xIr:DL K "is_row" sIsRow fIr dIr)
  (xAr:DL K "are_rows" sAreRows fAr dAr)
  (xEa:DL K "count_of_each" sEach fEa dEa)
  (xCw:DL K "count_wished" sCountW fCw dCw)
  (xWe:DL K "wished_of_each" sWEach fWe dWe)
  (xWb:DL K "wished_by_name" sWBy fWb dWb)
  (xm:DL K "_law_mixed" sMixed fm dm)
  (xd:DL K "_law_digits" sDigits fd dd)
  (xn:DL K "_law_next" sNext fn dn)
  (xg:DL K "_law_sign" sSign fg dg)
  (xa:DL K "_law_names" sNames fa da)
  (xl:DL K "_law_fields" sLFields fl dl)
  (xS:DL K "_law_specs" sSpecs fS dS)
  (xTu:DL K "_law_turned" sTurned fTu dTu)
  (xM:DL K "_law_made" sMade fM dM)
  (xCa:DL K "_law_cares" sCares fCa dCa)
  (xRo:DL K "_law_rows" sRows fRo dRo)
  (xMy:DL K "_law_many" sMany fMy dMy)
  (xFw:DL K "_law_few_rows" sFew fFw dFw)
  (xOc:DL K "_law_odd_cares" sOddCares fOc dOc)
  (xOo:DL K "_law_odd_row" sOddRow fOo dOo)
  (xRf:DL K "_law_refused" sRefused fRf dRf)
  (xaL:PySem.W.nsIn K mainGlobals "law" = some (some (.ref fL))) (xlL:K.lookup fL=some ⟨ocL,odL,.func (PySem.W.fnOf "law" "law" (defArgs sLaw) (defBody sLaw) (defScope sLaw) .none kVL dcL pmL anL cdL ctL),slL⟩) (xcL:PySem.W.codeIn K cdL "law" = true) (xkL:PySem.W.keepIn K (.ref fL)=true)
  (xIk:ML K CK "__init__" "Kinds.__init__" sInitKs fIk dIk)
  (xOr:ML K CK "order" "Kinds.order" sOrder fOr dOr)
  (xOf:ML K CK "of" "Kinds.of" sOf fOf dOf)
  (xOw:ML K CK "owned" "Kinds.owned" sOwned fOw dOw)
  (xIw:ML K CW "__init__" "Wishes.__init__" sInitW fIw dIw)
  (xWd:ML K CW "wished" "Wishes.wished" sWished fWd dWd)
  (xWs:ML K CW "names" "Wishes.names" sWNames fWs dWs)
  (aC:PySem.W.nsIn K mainGlobals "Kind" = some (some (.ref C))) (aI:PySem.W.findIn K (.ref C) "__init__" = some (some (.ref fI))) (iI:PySem.W.isFn K (.ref fI)=true)
  (lI:K.lookup fI=some ⟨ocI,odI,.func (PySem.W.fnOf "__init__" "Kind.__init__" (defArgs sInit) (defBody sInit) (defScope sInit) (.ref TD) kVI dcI pmI anI cdI ctI),slI⟩) (cI:PySem.W.codeIn K cdI "Kind.__init__" = true)
  (lT:K.lookup TD=some ⟨ocT,odT,.seq #[.none] nT,slT⟩)
  (kpg:PySem.W.plainGet K C Str.empty=true) (khd:PySem.W.hasDictIn K C=true) (kpo:PySem.W.plainOver K C=true) (ksa:PySem.W.findIn K (.ref C) "__setattr__" = some (some (.builtin "object.__setattr__"))) (kmk:PySem.W.makesIn K C=true) (kkc:PySem.W.keepIn K (.ref C)=true) (kno0:PySem.W.findIn K (.ref C) "name" = some none) (kno1:PySem.W.findIn K (.ref C) "fields" = some none) (kno2:PySem.W.findIn K (.ref C) "owner" = some none)
  (gpg:PySem.W.plainGet K CK Str.empty=true) (ghd:PySem.W.hasDictIn K CK=true) (gpo:PySem.W.plainOver K CK=true) (gsa:PySem.W.findIn K (.ref CK) "__setattr__" = some (some (.builtin "object.__setattr__"))) (gmk:PySem.W.makesIn K CK=true) (gkc:PySem.W.keepIn K (.ref CK)=true) (gno0:PySem.W.findIn K (.ref CK) "by_name" = some none)
  (wpg:PySem.W.plainGet K CW Str.empty=true) (whd:PySem.W.hasDictIn K CW=true) (wpo:PySem.W.plainOver K CW=true) (wsa:PySem.W.findIn K (.ref CW) "__setattr__" = some (some (.builtin "object.__setattr__"))) (wmk:PySem.W.makesIn K CW=true) (wkc:PySem.W.keepIn K (.ref CW)=true) (wno0:PySem.W.findIn K (.ref CW) "kinds" = some none) (wno1:PySem.W.findIn K (.ref CW) "rows" = some none) (wno2:PySem.W.findIn K (.ref CW) "by_name" = some none)
  (hn:PySem.W.specialIn K (.builtin "object.__class__") "__get__" = some (some (.builtin "getset_descriptor.__get__"))) (htk:PySem.W.takesIn K (.builtin "object.__class__")=some true)
  (iha:PySem.W.findIn K (.ref C) "__class__" = some (some (.builtin "object.__class__"))) (ihm:PySem.W.mroIn K C (.type "object")=some true) (ihki:PySem.W.kitOne K (.ref C) (.ref C)=some true)
  (jha:PySem.W.findIn K (.ref CK) "__class__" = some (some (.builtin "object.__class__"))) (jhm:PySem.W.mroIn K CK (.type "object")=some true) (jhki:PySem.W.kitOne K (.ref CK) (.ref CK)=some true)
  (hcd:PySem.W.codeHdIn K c Pt=true) (hout:K.lookup Pt=none)
  (c0:PySem.W.nsIn K mainGlobals "LETTERS" = some (some (.str letters t0)))
  (c1:PySem.W.nsIn K mainGlobals "MOST_LETTERS" = some (some (.int 8 t1)))
  (c2:PySem.W.nsIn K mainGlobals "MOST_STATES" = some (some (.int 8 t2)))
  (c3:PySem.W.nsIn K mainGlobals "FIGURES" = some (some (.str "0123456789" t3)))
  (c4:PySem.W.nsIn K mainGlobals "MOST_FIGURES" = some (some (.int 6 t4)))
  (c5:PySem.W.nsIn K mainGlobals "MOST_NUMBER" = some (some (.int 999999 t5)))
  (c6:PySem.W.nsIn K mainGlobals "MOST_MANY" = some (some (.int 60 t6)))
  (c7:PySem.W.nsIn K mainGlobals "MOST_WISHED" = some (some (.int 60 t7)))
  (a2:PySem.W.nsIn K mainGlobals "NoWish" = some (some (.ref C2)))
  (a3:PySem.W.nsIn K mainGlobals "TooMany" = some (some (.ref C3)))
  (a0:PySem.W.nsIn K mainGlobals "NoKind" = some (some (.ref CN)))
  (a1:PySem.W.nsIn K mainGlobals "NoName" = some (some (.ref C1)))
  (aR:PySem.W.nsIn K mainGlobals "RestError" = some (some (.ref CR)))
  (zVE:PySem.W.nsIn K mainGlobals "ValueError" = some none)
  (xex2:PySem.W.excIn K C2 [.type "ValueError",.type "Exception",.type "BaseException",.type "object"] "ValueError.__new__" = true)
  (xga2:PySem.W.findIn K (.ref C2) "__getattribute__" = some (some (.builtin "BaseException.__getattribute__")))
  (xgt2:PySem.W.findIn K (.ref C2) "__getattr__" = some none)
  (xcf2:PySem.W.findIn K (.ref C2) "__class__" = some (some (.builtin "object.__class__")))
  (xob2:PySem.W.mroIn K C2 (.type "object")=some true)
  (xem2:PySem.W.exmOne K (.ref C2) (.ref CR)=some true)
  (xon:PySem.W.kitOne K (.ref C2) (.ref C2)=some true)
  (xva:PySem.W.kitOne K (.ref C2) (.type "ValueError")=some true)
  (xot:PySem.W.kitAny K (.ref C2) [.ref CN,.ref C1,.ref C3]=some false)
  (z_isinstance:PySem.W.nsIn K mainGlobals "isinstance" = some none)
  (z_len:PySem.W.nsIn K mainGlobals "len" = some none)
  (z_all:PySem.W.nsIn K mainGlobals "all" = some none)
  (z_set:PySem.W.nsIn K mainGlobals "set" = some none)
  (z_range:PySem.W.nsIn K mainGlobals "range" = some none)
  (z_str:PySem.W.nsIn K mainGlobals "str" = some none)
  (z_list:PySem.W.nsIn K mainGlobals "list" = some none)
  (z_tuple:PySem.W.nsIn K mainGlobals "tuple" = some none)
  (z_zip:PySem.W.nsIn K mainGlobals "zip" = some none)
  (z_dict:PySem.W.nsIn K mainGlobals "dict" = some none)
  (z_min:PySem.W.nsIn K mainGlobals "min" = some none)
  (z_sorted:PySem.W.nsIn K mainGlobals "sorted" = some none)
  (z_enumerate:PySem.W.nsIn K mainGlobals "enumerate" = some none)
  (z_int:PySem.W.nsIn K mainGlobals "int" = some none)
  (z_bool:PySem.W.nsIn K mainGlobals "bool" = some none)
  (z_sum:PySem.W.nsIn K mainGlobals "sum" = some none) :
  ∃ fd:FuncData,(∀ (s:Shared) (v:Value),BindsTo s fd ⟨[v],[]⟩ [("_law_script",v)])∧K.lookup Pt=none∧(∃ c,PySem.W.codeHdIn K c Pt=true)∧∀ base:Heap,K.In base→base.Ns mainGlobals mg→BltAt mg base→FnOk l.prog w K mg base CX0 10 fx fd ["_law_script"] (spLaw12 K Pt):=by
 have e:=hfa.symm.trans (PySem.W.mg_of X G xaL);cases e;have T:Tops K mg:=⟨PySem.W.mg_none_of X G z_isinstance,PySem.W.mg_none_of X G z_len,PySem.W.mg_none_of X G z_all,PySem.W.mg_none_of X G z_set,PySem.W.mg_none_of X G z_range,PySem.W.mg_none_of X G z_str,PySem.W.mg_none_of X G z_list,PySem.W.mg_none_of X G z_tuple,PySem.W.mg_none_of X G z_zip,PySem.W.mg_none_of X G z_dict,PySem.W.mg_none_of X G z_min,PySem.W.mg_none_of X G z_sorted,PySem.W.mg_none_of X G z_enumerate,PySem.W.mg_none_of X G z_int,PySem.W.mg_none_of X G z_bool,PySem.W.mg_none_of X G z_sum,⟨_,PySem.W.mg_of X G c0⟩,⟨_,PySem.W.mg_of X G c1⟩,⟨_,PySem.W.mg_of X G c2⟩,⟨_,PySem.W.mg_of X G c3⟩,⟨_,PySem.W.mg_of X G c4⟩,⟨_,PySem.W.mg_of X G c5⟩,⟨_,PySem.W.mg_of X G c6⟩,⟨_,PySem.W.mg_of X G c7⟩⟩;have DN:=mkD X G xN (ps:=["thing"]) fun _ _ _ _ _ _ us hl=>by obtain ⟨z0,rfl⟩:=len1 hl;rfl
 have DW:=mkD X G xW (ps:=["thing"]) fun _ _ _ _ _ _ us hl=>by obtain ⟨z0,rfl⟩:=len1 hl;rfl
 have DU:=mkD X G xU (ps:=["things"]) fun _ _ _ _ _ _ us hl=>by obtain ⟨z0,rfl⟩:=len1 hl;rfl
 have DP:=mkD X G xP (ps:=["thing"]) fun _ _ _ _ _ _ us hl=>by obtain ⟨z0,rfl⟩:=len1 hl;rfl
 have DF:=mkD X G xF (ps:=["things"]) fun _ _ _ _ _ _ us hl=>by obtain ⟨z0,rfl⟩:=len1 hl;rfl
 have DCt:=mkD X G xCt (ps:=["fields"]) fun _ _ _ _ _ _ us hl=>by obtain ⟨z0,rfl⟩:=len1 hl;rfl
 have DPl:=mkD X G xPl (ps:=["kind", "field"]) fun _ _ _ _ _ _ us hl=>by obtain ⟨z0,z1,rfl⟩:=len2 hl;rfl
 have DHv:=mkD X G xHv (ps:=["kind", "field", "value"]) fun _ _ _ _ _ _ us hl=>by obtain ⟨z0,z1,z2,rfl⟩:=len3 hl;rfl
 have DA:=mkD X G xA (ps:=["things"]) fun _ _ _ _ _ _ us hl=>by obtain ⟨z0,rfl⟩:=len1 hl;rfl
 have Fp:FunL K "placed_by_owners" "placed_by_owners" sPlaced fp _ c:=⟨⟨ocp,odp,kVp,dcp,pmp,anp,ctp,slp,rfl,xlp,xcp⟩,xkp⟩;have bp:=Fp.fn.binds (ps:=["kinds"]) fun _ _ _ _ _ _ us hl=>by obtain ⟨z0,rfl⟩:=len1 hl;rfl
 have DWn:=mkD X G xWn (ps:=["text", "most_figures"]) fun _ _ _ _ _ _ us hl=>by obtain ⟨z0,z1,rfl⟩:=len2 hl;rfl
 have DHf:=mkD X G xHf (ps:=["thing"]) fun _ _ _ _ _ _ us hl=>by obtain ⟨z0,rfl⟩:=len1 hl;rfl
 have DPo:=mkD X G xPo (ps:=["kinds", "name"]) fun _ _ _ _ _ _ us hl=>by obtain ⟨z0,z1,rfl⟩:=len2 hl;rfl
 have DNo:=mkD X G xNo (ps:=["kinds", "kind", "owner", "number"]) fun _ _ _ _ _ _ us hl=>by obtain ⟨z0,z1,z2,z3,rfl⟩:=len4 hl;rfl
 have DPf:=mkD X G xPf (ps:=["kind", "thing"]) fun _ _ _ _ _ _ us hl=>by obtain ⟨z0,z1,rfl⟩:=len2 hl;rfl
 have DPs:=mkD X G xPs (ps:=["kind", "things"]) fun _ _ _ _ _ _ us hl=>by obtain ⟨z0,z1,rfl⟩:=len2 hl;rfl
 have DIr:=mkD X G xIr (ps:=["kinds", "thing"]) fun _ _ _ _ _ _ us hl=>by obtain ⟨z0,z1,rfl⟩:=len2 hl;rfl
 have DAr:=mkD X G xAr (ps:=["kinds", "things"]) fun _ _ _ _ _ _ us hl=>by obtain ⟨z0,z1,rfl⟩:=len2 hl;rfl
 have DEa:=mkD X G xEa (ps:=["kind", "rows"]) fun _ _ _ _ _ _ us hl=>by obtain ⟨z0,z1,rfl⟩:=len2 hl;rfl
 have DCw:=mkD X G xCw (ps:=["kinds", "rows"]) fun _ _ _ _ _ _ us hl=>by obtain ⟨z0,z1,rfl⟩:=len2 hl;rfl
 have DWe:=mkD X G xWe (ps:=["kind", "rows"]) fun _ _ _ _ _ _ us hl=>by obtain ⟨z0,z1,rfl⟩:=len2 hl;rfl
 have DWb:=mkD X G xWb (ps:=["kinds", "rows"]) fun _ _ _ _ _ _ us hl=>by obtain ⟨z0,z1,rfl⟩:=len2 hl;rfl
 have Dm:=mkD X G xm (ps:=["_law_cell", "_law_k"]) fun _ _ _ _ _ _ us hl=>by obtain ⟨z0,z1,rfl⟩:=len2 hl;rfl
 have Dd:=mkD X G xd (ps:=["_law_cell"]) fun _ _ _ _ _ _ us hl=>by obtain ⟨z0,rfl⟩:=len1 hl;rfl
 have Dn:=mkD X G xn (ps:=["_law_source", "_law_many_here"]) fun _ _ _ _ _ _ us hl=>by obtain ⟨z0,z1,rfl⟩:=len2 hl;rfl
 have Dg:=mkD X G xg (ps:=["_law_sign_here", "_law_turn"]) fun _ _ _ _ _ _ us hl=>by obtain ⟨z0,z1,rfl⟩:=len2 hl;rfl
 have Da:=mkD X G xa (ps:=["_law_source", "_law_many_here"]) fun _ _ _ _ _ _ us hl=>by obtain ⟨z0,z1,rfl⟩:=len2 hl;rfl
 have Dl:=mkD X G xl (ps:=["_law_source"]) fun _ _ _ _ _ _ us hl=>by obtain ⟨z0,rfl⟩:=len1 hl;rfl
 have DS:=mkD X G xS (ps:=["_law_source"]) fun _ _ _ _ _ _ us hl=>by obtain ⟨z0,rfl⟩:=len1 hl;rfl
 have DTu:=mkD X G xTu (ps:=["_law_source", "_law_things"]) fun _ _ _ _ _ _ us hl=>by obtain ⟨z0,z1,rfl⟩:=len2 hl;rfl
 have DM:=mkD X G xM (ps:=["_law_specs_here"]) fun _ _ _ _ _ _ us hl=>by obtain ⟨z0,rfl⟩:=len1 hl;rfl
 have DCa:=mkD X G xCa (ps:=["_law_source", "_law_fields_here"]) fun _ _ _ _ _ _ us hl=>by obtain ⟨z0,z1,rfl⟩:=len2 hl;rfl
 have DRo:=mkD X G xRo (ps:=["_law_source", "_law_specs_here"]) fun _ _ _ _ _ _ us hl=>by obtain ⟨z0,z1,rfl⟩:=len2 hl;rfl
 have DMy:=mkD X G xMy (ps:=["_law_specs_here", "_law_rows_here"]) fun _ _ _ _ _ _ us hl=>by obtain ⟨z0,z1,rfl⟩:=len2 hl;rfl
 have DFw:=mkD X G xFw (ps:=["_law_source", "_law_specs_here"]) fun _ _ _ _ _ _ us hl=>by obtain ⟨z0,z1,rfl⟩:=len2 hl;rfl
 have DOc:=mkD X G xOc (ps:=["_law_source", "_law_fields_here"]) fun _ _ _ _ _ _ us hl=>by obtain ⟨z0,z1,rfl⟩:=len2 hl;rfl
 have DOo:=mkD X G xOo (ps:=["_law_source", "_law_specs_here"]) fun _ _ _ _ _ _ us hl=>by obtain ⟨z0,z1,rfl⟩:=len2 hl;rfl
 have DRf:=mkD X G xRf (ps:=["_law_kinds", "_law_rows_here"]) fun _ _ _ _ _ _ us hl=>by obtain ⟨z0,z1,rfl⟩:=len2 hl;rfl
 have FL:=fun_mk (st:=sLaw) xlL xcL xkL;obtain ⟨xaIk,xiIk,FIk⟩:=xIk;have bIk:=FIk.binds (ps:=["self", "kinds"]) fun _ _ _ _ _ _ us hl=>by obtain ⟨z0,z1,rfl⟩:=len2 hl;rfl
 obtain ⟨xaOr,xiOr,FOr⟩:=xOr;have bOr:=FOr.binds (ps:=["self"]) fun _ _ _ _ _ _ us hl=>by obtain ⟨z0,rfl⟩:=len1 hl;rfl
 obtain ⟨xaOf,xiOf,FOf⟩:=xOf;have bOf:=FOf.binds (ps:=["self", "name"]) fun _ _ _ _ _ _ us hl=>by obtain ⟨z0,z1,rfl⟩:=len2 hl;rfl
 obtain ⟨xaOw,xiOw,FOw⟩:=xOw;have bOw:=FOw.binds (ps:=["self", "name"]) fun _ _ _ _ _ _ us hl=>by obtain ⟨z0,z1,rfl⟩:=len2 hl;rfl
 obtain ⟨xaIw,xiIw,FIw⟩:=xIw;have bIw:=FIw.binds (ps:=["self", "kinds", "rows"]) fun _ _ _ _ _ _ us hl=>by obtain ⟨z0,z1,z2,rfl⟩:=len3 hl;rfl
 obtain ⟨xaWd,xiWd,FWd⟩:=xWd;have bWd:=FWd.binds (ps:=["self", "name"]) fun _ _ _ _ _ _ us hl=>by obtain ⟨z0,z1,rfl⟩:=len2 hl;rfl
 obtain ⟨xaWs,xiWs,FWs⟩:=xWs;have bWs:=FWs.binds (ps:=["self"]) fun _ _ _ _ _ _ us hl=>by obtain ⟨z0,rfl⟩:=len1 hl;rfl
 have FI:FunD K "__init__" "Kind.__init__" sInit (.ref TD) fI _:=⟨⟨ocI,odI,kVI,dcI,pmI,anI,cdI,ctI,slI,rfl,lI,cI⟩⟩;have KC:KCls K mg C fI:=⟨⟨kpg,khd,kpo,ksa⟩,kno0,kno1,kno2,PySem.W.mg_of X G aC,⟨kmk,aI,iI,kkc⟩⟩;have KS:KsCls K mg CK fIk fOr fOf fOw:=⟨⟨gpg,ghd,gpo,gsa⟩,gno0,PySem.W.mg_of X G aCK,⟨gmk,xaIk,xiIk,gkc⟩,⟨xaOr,xiOr,FOr.kp⟩,⟨xaOf,xiOf,FOf.kp⟩,⟨xaOw,xiOw,FOw.kp⟩⟩;have WC:WCls K mg CW fIw fWd fWs:=⟨⟨wpg,whd,wpo,wsa⟩,wno0,wno1,wno2,PySem.W.mg_of X G aCW,⟨wmk,xaIw,xiIw,wkc⟩,⟨xaWd,xiWd,FWd.kp⟩,⟨xaWs,xiWs,FWs.kp⟩⟩;have KIc:KIsi K C:=⟨iha,hn,htk,ihm,ihki⟩;have KIk:KIsi K CK:=⟨jha,hn,htk,jhm,jhki⟩;have bK:Binds K (PySem.W.fnOf "__init__" "Kind.__init__" (defArgs sInit) (defBody sInit) (defScope sInit) (.ref TD) kVI dcI pmI anI cdI ctI) ["self", "name", "fields", "owner"] []:=by
  intro s us hK hl;rw [List.append_nil] at hl ⊢;obtain ⟨a,n,f,o,rfl⟩:=len4 hl;exact PySem.W.binds_K hK rfl lT rfl (by rfl) (by rfl)
 refine ⟨PySem.W.fnOf "law" "law" (defArgs sLaw) (defBody sLaw) (defScope sLaw) .none kVL dcL pmL anL cdL ctL,fun s v=>.of_eq rfl,hout,⟨c,hcd⟩,fun base _ _ bl=>?_⟩;have hC:Calm (CXM l.prog w):=calmM;have LT:LamTxt K mg base c Pt:=⟨hcd,bl⟩;have GK:=ok_init (P:=l.prog) (w:=w) (base:=base) hC T FI KC DN DU DP DF DCt;have GIk:=ok_initKs (P:=l.prog) (w:=w) (base:=base) hC T KC KIc KS LT FIk DN DU DA Fp (PySem.W.mg_of X G xap) bp;have GM:=ok_made (P:=l.prog) (w:=w) (base:=base) hC T KC KS GK bK GIk bIk DM.fn;have GPo:=ok_parts (P:=l.prog) (w:=w) (base:=base) hC T KC KS DPo.fn DN DWn DHf FOf bOf;have GPs:=ok_pairsOf (P:=l.prog) (w:=w) (base:=base) hC T KC DPs.fn DN DU DPf DHv DPl;have GIr:=ok_isRow (P:=l.prog) (w:=w) (base:=base) hC T KC KS DIr.fn DN DW DPs GPs FOr bOr FOf bOf;have GAr:=ok_areRows (P:=l.prog) (w:=w) (base:=base) hC T DAr.fn DIr GIr;have GCw:=ok_countW (P:=l.prog) (w:=w) (base:=base) hC T KC KS DCw.fn DN DEa FOr bOr FOf bOf;have GWb:=ok_wBy (P:=l.prog) (w:=w) (base:=base) hC T KC KS DWb.fn DN DWe DW DWn DHf DPo DNo FOr bOr FOf bOf;have GIw:=ok_initW (P:=l.prog) (w:=w) (base:=base) hC T (PySem.W.mg_of X G aCK) KS.cl KIk WC FIw DAr GAr DCw GCw DWb GWb;have GWs:=ok_wNames (P:=l.prog) (w:=w) (base:=base) (CX:=(CXM l.prog w)) T WC FWs;have Gd:=ok_digits (P:=l.prog) (w:=w) (base:=base) (CX:=(CXM l.prog w)) (mg:=mg) Dd.fn;have Gn:=zBy (P:=l.prog) (w:=w) (base:=base) hC Dn.fn Dm;have GS:=ok_specs (P:=l.prog) (w:=w) (base:=base) hC T DS.fn Dm Dn Dg Da Dl;have GT:=ok_turned (P:=l.prog) (w:=w) (base:=base) hC T DTu.fn Dm Dn;have GF:=ok_few (P:=l.prog) (w:=w) (base:=base) hC T DFw.fn Dm Dn DCa DRo DMy;have R:RefsQ K mg C1 C2 C3 CN CR:=⟨⟨PySem.W.mg_of X G a2,xex2⟩,⟨xex2,xga2,xgt2,xcf2,xob2⟩,PySem.W.mg_of X G aR,PySem.W.mg_of X G a0,PySem.W.mg_of X G a1,PySem.W.mg_of X G a3,PySem.W.mg_none_of X G zVE,xem2,xon,xva,xot⟩;have GBw:FnOk l.prog w K mg base (CXM l.prog w) 7 fIw _ ["self", "kinds", "rows"] (spBadW CW CK C C2):=ok_badW T (PySem.W.mg_of X G aCK) KS.cl KIk R FIw DAr GAr (ok_areRowsN calmM T DAr.fn DIr GIr);have GRf:=ok_refd (P:=l.prog) (w:=w) (base:=base) T R WC DRf.fn GBw bIw;have GOo:=ok_oddR (P:=l.prog) (w:=w) (base:=base) hC T DOo.fn Dm Dn DCa DOc;exact (ok_law12 FL ⟨T,WC,bIw,bWs,GIw,GWs,Dd,Gd,Dn,Gn,DS,GS,DTu,GT,DM,GM,DFw,GF,DOo,GOo,DRf,GRf⟩).calm calmM
theorem walk {l:PySem.W.OpenLaw}{q:Program}{loose:List Str}{XP:(Str→Option Value)→Heap→Prop}{YP:World→Heap→Prop}{d:DefRec}{K:Params→PySem.W.Frag}{Pt:Addr} (hn:l.most=some 63) (hdf:d.params.defaults=[])
  (hY:∀ (w:World) (h:Heap),YP w h→(K w.params).In h∧h.get? Pt=some (PySem.W.tabObj #[]))
  (F:∀ (w:World) (mg:Str→Option Value) (fa:Addr) (h:Heap),(K w.params).In h→h.Ns mainGlobals mg→mg d.name=some (.ref fa) →
   ∃ fd:FuncData,(∀ (s:Shared) (u:Value),BindsTo s fd ⟨[u],[]⟩ [("_law_script",u)])∧(K w.params).lookup Pt=none∧(∃ c,PySem.W.codeHdIn (K w.params) c Pt=true)∧∀ base:Heap,(K w.params).In base→base.Ns mainGlobals mg→BltAt mg base→FnOk l.prog w (K w.params) mg base CX0 10 fa fd ["_law_script"] (spLaw12 (K w.params) Pt)) :
  PySem.W.WalkO q loose XP YP l.row.toRowW d [] (fun f vs=>PySem.call f vs):=by
 refine Att.attach_call hn hdf fun w s₀ s₁ mg mb fa o pm cd doc a vs ns G Y ho hd hcd hmg hobj hints hlen hg=>?_;obtain ⟨KX,hT⟩:=hY w _ Y;obtain ⟨fd,hb,hout,⟨c,hc⟩,hF⟩:=F w mg fa _ KX G.T.g hmg;exact law_callT KX G.T.g G.T.b G.T.builtins G.T.nolimit hg (blt_of G.T) hT hout hc hobj hints (Zl hlen (by decide)) ⟨rfl,by decide,by decide⟩ hF hb (fun H hO hS=>⟨a,ns,rfl,hS,hlen,.inl hO.1,fun _=>rfl⟩) fun _ _ _ z=>z
end L2.W
theorem PySem.W.Fast.tw13896487703716838959:True:=trivial
theorem PySem.W.Fast.tw12914509664834463758:True:=trivial
theorem PySem.W.Fast.tw14771527499816209279:True:=trivial
theorem PySem.W.Fast.tw13842157665336987308:True:=trivial
theorem PySem.W.Fast.tw9872219110122200563:True:=trivial
theorem PySem.W.Fast.tw15413574385456493600:True:=trivial
theorem PySem.W.Fast.tw12436414769706810083:True:=trivial
theorem PySem.W.Fast.tw10374795928026995713:True:=trivial
theorem PySem.W.Fast.tw6809723543782075844:True:=trivial
theorem PySem.W.Fast.tw12571176010271815516:True:=trivial
theorem PySem.W.Fast.tw6644367164843769130:True:=trivial
theorem PySem.W.Fast.tw18084685431644044979:True:=trivial
theorem PySem.W.Fast.tw15283127154427577785:True:=trivial
theorem PySem.W.Fast.tw10737858618905125107:True:=trivial
theorem PySem.W.Fast.tw5705037892542763542:True:=trivial
theorem PySem.W.Fast.tw2976770336746399670:True:=trivial
theorem PySem.W.Fast.tw5844732671542380904:True:=trivial
theorem PySem.W.Fast.tw17756136472490958633:True:=trivial
theorem PySem.W.Fast.tw12982956236613931475:True:=trivial
theorem PySem.W.Fast.tw4123694603718918992:True:=trivial
theorem PySem.W.Fast.tw17804755520678963885:True:=trivial
theorem PySem.W.Fast.tw5563198614223936285:True:=trivial
theorem PySem.W.Fast.tw9321910401261573093:True:=trivial
theorem PySem.W.Fast.tw18287711287966931026:True:=trivial
theorem PySem.W.Fast.tw6199095275184205937:True:=trivial
theorem PySem.W.Fast.tw7494376865667142636:True:=trivial
theorem PySem.W.Fast.tw2180567619523452391:True:=trivial
theorem PySem.W.Fast.tw13557392120523131466:True:=trivial
theorem PySem.W.Fast.tw9636859059724195596:True:=trivial
theorem PySem.W.Fast.tw17288007713818189486:True:=trivial
theorem PySem.W.Fast.tw16291638935755981560:True:=trivial
theorem PySem.W.Fast.tw2023183725841909485:True:=trivial
theorem PySem.W.Fast.tw5013346135505816416:True:=trivial
theorem PySem.W.Fast.tw5959434460803363924:True:=trivial
theorem PySem.W.Fast.tw15008253216124293363:True:=trivial
theorem PySem.W.Fast.tw3592599871368324507:True:=trivial
theorem PySem.W.Fast.tw9046279033822535638:True:=trivial
theorem PySem.W.Fast.tw17826606694962500262:True:=trivial
theorem PySem.W.Fast.tw15121637786016232532:True:=trivial
theorem PySem.W.Fast.tw2796465399104331978:True:=trivial
theorem PySem.W.Fast.tw12043582528779650626:True:=trivial
theorem PySem.W.Fast.tw2021470852204147377:True:=trivial
theorem PySem.W.Fast.tw4619263889318570162:True:=trivial
theorem PySem.W.Fast.tw1426798161867701075:True:=trivial
theorem PySem.W.Fast.tw15773244395736374243:True:=trivial
theorem PySem.W.Fast.tw1339837822538120943:True:=trivial
theorem PySem.W.Fast.tw4053374717151897364:True:=trivial
theorem PySem.W.Fast.tw17759819508590470202:True:=trivial
theorem PySem.W.Fast.tw17499866622262813873:True:=trivial
theorem PySem.W.Fast.tw14022689266866050029:True:=trivial
theorem PySem.W.Fast.tw16007737969266437422:True:=trivial
theorem PySem.W.Fast.tw17889256285888424930:True:=trivial
theorem PySem.W.Fast.tw1338543621740732144:True:=trivial
theorem PySem.W.Fast.tw3327882790617133327:True:=trivial
theorem PySem.W.Fast.tw8731063261017134961:True:=trivial
theorem PySem.W.Fast.tw10657873225720060826:True:=trivial
theorem PySem.W.Fast.tw2177462206098119404:True:=trivial
theorem PySem.W.Fast.tw10154577852360137352:True:=trivial
theorem PySem.W.Fast.tw317524955904114905:True:=trivial
theorem PySem.W.Fast.tw13956724880520106744:True:=trivial
theorem PySem.W.Fast.tw12102506207473133573:True:=trivial
theorem PySem.W.Fast.tw7584369139585210337:True:=trivial
theorem PySem.W.Fast.tw3798554442791700395:True:=trivial
theorem PySem.W.Fast.tw6801420418297781645:True:=trivial
theorem PySem.W.Fast.tw12828396435195630108:True:=trivial
theorem PySem.W.Fast.tw7196948252008217517:True:=trivial
theorem PySem.W.Fast.tw1119496653772334589:True:=trivial
theorem PySem.W.Fast.tw12874231939503913652:True:=trivial
theorem PySem.W.Fast.tw3047583293606405755:True:=trivial
theorem PySem.W.Fast.tw7275413312606790935:True:=trivial
theorem PySem.W.Fast.tw27862293085892490:True:=trivial
theorem PySem.W.Fast.tw16806683251153409112:True:=trivial
theorem PySem.W.Fast.tw2884880197610966233:True:=trivial
theorem PySem.W.Fast.tw973514728244965085:True:=trivial
theorem PySem.W.Fast.tw7848535925967880635:True:=trivial
theorem PySem.W.Fast.tw12638357612194308909:True:=trivial
theorem PySem.W.Fast.tw550533961215505487:True:=trivial
theorem PySem.W.Fast.tw12705829272801537263:True:=trivial
theorem PySem.W.Fast.tw7842558712926187779:True:=trivial
theorem PySem.W.Fast.tw17314116321941430543:True:=trivial
theorem PySem.W.Fast.tw14368528226344463712:True:=trivial
theorem PySem.W.Fast.tw2496905206696071075:True:=trivial
theorem PySem.W.Fast.tw12234799796764127852:True:=trivial
theorem PySem.W.Fast.tw513902204048262732:True:=trivial
theorem PySem.W.Fast.tw5489319664869041758:True:=trivial
theorem PySem.W.Fast.tw6452531991500733915:True:=trivial
theorem PySem.W.Fast.tw3380594436238124600:True:=trivial
theorem PySem.W.Fast.tw11838789112991446362:True:=trivial
theorem PySem.W.Fast.tw17266095057380795639:True:=trivial
theorem PySem.W.Fast.tw5138163251364311032:True:=trivial
theorem PySem.W.Fast.tw16680060647757381534:True:=trivial
theorem PySem.W.Fast.tw17739590924887675526:True:=trivial
theorem PySem.W.Fast.tw10839317950881897107:True:=trivial
theorem PySem.W.Fast.tw3826546395924406092:True:=trivial
theorem PySem.W.Fast.tw3795038780306803962:True:=trivial
theorem PySem.W.Fast.tw15575130726131879983:True:=trivial
theorem PySem.W.Fast.tw8464989403727106982:True:=trivial
theorem PySem.W.Fast.tw1079859794339997237:True:=trivial
theorem PySem.W.Fast.tw2534500790926946270:True:=trivial
theorem PySem.W.Fast.tw9061261935605725859:True:=trivial
theorem PySem.W.Fast.tw6072711754313082844:True:=trivial
theorem PySem.W.Fast.tw13517325951585684458:True:=trivial
theorem PySem.W.Fast.tw6190646544944251283:True:=trivial
theorem PySem.W.Fast.tw5031313824273374414:True:=trivial
theorem PySem.W.Fast.tw17789750873179580451:True:=trivial
theorem PySem.W.Fast.tw7285721517086845520:True:=trivial
theorem PySem.W.Fast.tw9363978291934299562:True:=trivial
theorem PySem.W.Fast.tw5738017944278841083:True:=trivial
theorem PySem.W.Fast.tw2307172021215880355:True:=trivial
theorem PySem.W.Fast.tw10265219630127863677:True:=trivial
open PySem PySem.W PyProof.Rows
set_option maxRecDepth 100000 in
set_option maxHeartbeats 0 in
theorem PySem.Challenge.cw_cometorest_k12_what_makes_no_wishes_holds : PySem.Challenge.rw_cometorest_k12_what_makes_no_wishes.Holds := by
 w_on;o_law;k_head;(case hw=>w_witness2)
 k_fill
 refine L2.W.walk (l:=PySem.Challenge.rw_cometorest_k12_what_makes_no_wishes) rfl rfl (fun w h Y=>⟨PySem.W.km_in_of Y,PySem.W.km_tabs_of Y _ (List.Mem.head _)⟩) ?F
 case F =>
  intro w mg fa h KX G hmg;refine' L2.W.all_mk KX G hmg ?aCK ?aCW ?xN ?xW ?xU ?xP ?xF ?xCt ?xPl ?xHv ?xA ?xap ?xlp ?xcp ?xkp ?xWn ?xHf ?xPo ?xNo ?xPf ?xPs ?xIr ?xAr ?xEa ?xCw ?xWe ?xWb ?xm ?xd ?xn ?xg ?xa ?xl ?xS ?xTu ?xM ?xCa ?xRo ?xMy ?xFw ?xOc ?xOo ?xRf ?xaL ?xlL ?xcL ?xkL ?xIk ?xOr ?xOf ?xOw ?xIw ?xWd ?xWs ?aC ?aI ?iI ?lI ?cI ?lT ?kpg ?khd ?kpo ?ksa ?kmk ?kkc ?kno0 ?kno1 ?kno2 ?gpg ?ghd ?gpo ?gsa ?gmk ?gkc ?gno0 ?wpg ?whd ?wpo ?wsa ?wmk ?wkc ?wno0 ?wno1 ?wno2 ?hn ?htk ?iha ?ihm ?ihki ?jha ?jhm ?jhki ?hcd ?hout ?c0 ?c1 ?c2 ?c3 ?c4 ?c5 ?c6 ?c7 ?a2 ?a3 ?a0 ?a1 ?aR ?zVE ?xex2 ?xga2 ?xgt2 ?xcf2 ?xob2 ?xem2 ?xon ?xva ?xot ?z_isinstance ?z_len ?z_all ?z_set ?z_range ?z_str ?z_list ?z_tuple ?z_zip ?z_dict ?z_min ?z_sorted ?z_enumerate ?z_int ?z_bool ?z_sum
  (case aCK=>k_is)
  (case aCW=>k_is)
  (case xN=>apply L2.W.zB6;iterate 4 k_is)
  (case xW=>apply L2.W.zB6;iterate 4 k_is)
  (case xU=>apply L2.W.zB6;iterate 4 k_is)
  (case xP=>apply L2.W.zB6;iterate 4 k_is)
  (case xF=>apply L2.W.zB6;iterate 4 k_is)
  (case xCt=>apply L2.W.zB6;iterate 4 k_is)
  (case xPl=>apply L2.W.zB6;iterate 4 k_is)
  (case xHv=>apply L2.W.zB6;iterate 4 k_is)
  (case xA=>apply L2.W.zB6;iterate 4 k_is)
  (case xap=>k_is)
  (case xlp=>k_is)
  (case xcp=>k_is)
  (case xkp=>k_is)
  (case xWn=>apply L2.W.zB6;iterate 4 k_is)
  (case xHf=>apply L2.W.zB6;iterate 4 k_is)
  (case xPo=>apply L2.W.zB6;iterate 4 k_is)
  (case xNo=>apply L2.W.zB6;iterate 4 k_is)
  (case xPf=>apply L2.W.zB6;iterate 4 k_is)
  (case xPs=>apply L2.W.zB6;iterate 4 k_is)
  (case xIr=>apply L2.W.zB6;iterate 4 k_is)
  (case xAr=>apply L2.W.zB6;iterate 4 k_is)
  (case xEa=>apply L2.W.zB6;iterate 4 k_is)
  (case xCw=>apply L2.W.zB6;iterate 4 k_is)
  (case xWe=>apply L2.W.zB6;iterate 4 k_is)
  (case xWb=>apply L2.W.zB6;iterate 4 k_is)
  (case xm=>apply L2.W.zB6;iterate 4 k_is)
  (case xd=>apply L2.W.zB6;iterate 4 k_is)
  (case xn=>apply L2.W.zB6;iterate 4 k_is)
  (case xg=>apply L2.W.zB6;iterate 4 k_is)
  (case xa=>apply L2.W.zB6;iterate 4 k_is)
  (case xl=>apply L2.W.zB6;iterate 4 k_is)
  (case xS=>apply L2.W.zB6;iterate 4 k_is)
  (case xTu=>apply L2.W.zB6;iterate 4 k_is)
  (case xM=>apply L2.W.zB6;iterate 4 k_is)
  (case xCa=>apply L2.W.zB6;iterate 4 k_is)
  (case xRo=>apply L2.W.zB6;iterate 4 k_is)
  (case xMy=>apply L2.W.zB6;iterate 4 k_is)
  (case xFw=>apply L2.W.zB6;iterate 4 k_is)
  (case xOc=>apply L2.W.zB6;iterate 4 k_is)
  (case xOo=>apply L2.W.zB6;iterate 4 k_is)
  (case xRf=>apply L2.W.zB6;iterate 4 k_is)
  (case xaL=>k_is)
  (case xlL=>k_is)
  (case xcL=>k_is)
  (case xkL=>k_is)
  (case xIk=>apply L2.W.ml_mk;iterate 5 k_is)
  (case xOr=>apply L2.W.ml_mk;iterate 5 k_is)
  (case xOf=>apply L2.W.ml_mk;iterate 5 k_is)
  (case xOw=>apply L2.W.ml_mk;iterate 5 k_is)
  (case xIw=>apply L2.W.ml_mk;iterate 5 k_is)
  (case xWd=>apply L2.W.ml_mk;iterate 5 k_is)
  (case xWs=>apply L2.W.ml_mk;iterate 5 k_is)
  (case aC=>k_is)
  (case aI=>k_is)
  (case iI=>k_is)
  (case lI=>k_is)
  (case cI=>k_is)
  (case lT=>k_is)
  (case kpg=>k_is)
  (case khd=>k_is)
  (case kpo=>k_is)
  (case ksa=>k_is)
  (case kmk=>k_is)
  (case kkc=>k_is)
  (case kno0=>k_is)
  (case kno1=>k_is)
  (case kno2=>k_is)
  (case gpg=>k_is)
  (case ghd=>k_is)
  (case gpo=>k_is)
  (case gsa=>k_is)
  (case gmk=>k_is)
  (case gkc=>k_is)
  (case gno0=>k_is)
  (case wpg=>k_is)
  (case whd=>k_is)
  (case wpo=>k_is)
  (case wsa=>k_is)
  (case wmk=>k_is)
  (case wkc=>k_is)
  (case wno0=>k_is)
  (case wno1=>k_is)
  (case wno2=>k_is)
  (case hn=>k_is)
  (case htk=>k_is)
  (case iha=>k_is)
  (case ihm=>k_is)
  (case ihki=>first | k_is | rfl | kernel_rfl | decide +kernel)
  (case jha=>k_is)
  (case jhm=>k_is)
  (case jhki=>first | k_is | rfl | kernel_rfl | decide +kernel)
  (case hcd=>first | k_is | rfl | kernel_rfl | decide +kernel)
  (case hout=>first | k_is | rfl | kernel_rfl | decide +kernel)
  (case c0=>k_is)
  (case c1=>k_is)
  (case c2=>k_is)
  (case c3=>k_is)
  (case c4=>k_is)
  (case c5=>k_is)
  (case c6=>k_is)
  (case c7=>k_is)
  (case a2=>first | k_is | rfl | kernel_rfl | decide +kernel)
  (case a3=>first | k_is | rfl | kernel_rfl | decide +kernel)
  (case a0=>first | k_is | rfl | kernel_rfl | decide +kernel)
  (case a1=>first | k_is | rfl | kernel_rfl | decide +kernel)
  (case aR=>first | k_is | rfl | kernel_rfl | decide +kernel)
  (case zVE=>first | k_is | rfl | kernel_rfl | decide +kernel)
  (case xex2=>first | k_is | rfl | kernel_rfl | decide +kernel)
  (case xga2=>first | k_is | rfl | kernel_rfl | decide +kernel)
  (case xgt2=>first | k_is | rfl | kernel_rfl | decide +kernel)
  (case xcf2=>first | k_is | rfl | kernel_rfl | decide +kernel)
  (case xob2=>first | k_is | rfl | kernel_rfl | decide +kernel)
  (case xem2=>first | k_is | rfl | kernel_rfl | decide +kernel)
  (case xon=>first | k_is | rfl | kernel_rfl | decide +kernel)
  (case xva=>first | k_is | rfl | kernel_rfl | decide +kernel)
  (case xot=>first | k_is | rfl | kernel_rfl | decide +kernel)
  (case z_isinstance=>k_is)
  (case z_len=>k_is)
  (case z_all=>k_is)
  (case z_set=>k_is)
  (case z_range=>k_is)
  (case z_str=>k_is)
  (case z_list=>k_is)
  (case z_tuple=>k_is)
  (case z_zip=>k_is)
  (case z_dict=>k_is)
  (case z_min=>k_is)
  (case z_sorted=>k_is)
  (case z_enumerate=>k_is)
  (case z_int=>k_is)
  (case z_bool=>k_is)
  (case z_sum=>k_is)
