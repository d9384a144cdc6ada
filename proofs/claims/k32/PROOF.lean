import PyProof.Rows.All
import Wide.All
import OpenK.AllK
import Wide.FinOn
import Lean
import PyProof.EqAt
import PyProof.EqKinds
import PyProof.TupleCall
import PySem.Challenge.RW_cometorest_k32_no_conditions_no_rules
import KE.KMinKey
import KE.KLam
import KE.KNestM
import KE.KDictList
import PyProof.EnumMake
import PyProof.EnumFor
import PyProof.EnumStmt
import PyProof.AttrMissHeap
import KE.KDictOf
import PyProof.StrLawsChain
import PyProof.StrLawsTight
import PyProof.Rows.StrItems
import PyProof.Rows.StrSplitCount
import PyProof.FString
import KE.KIntText
import KE.KTryMore
import PyProof.NsDelKeeps
import PyProof.ExcClass3
import PyProof.ExcBaseAll.ValueError
import PyProof.ExcAttrAll.ValueError
import PyProof.NeKinds
import PyProof.FactsAll.dict
import KE.KDictSum
import PyProof.DictItems
import KE.KPairComp
import KE.KxWritten
import PyProof.SumAny
import PyProof.Rows.StrLen
import PyProof.CallStr
import PyProof.StrCalls6
import PyProof.Rows.StrCase
import OpenK.KMake
import KE.KSortTup
set_option Elab.async false
set_option linter.all false
set_option maxRecDepth 100000
abbrev Z0:=@PySem.Heap.get?_push_of_some
abbrev Z1:=@Nat.lt_of_lt_of_le
abbrev Z2:=@Bool.false_ne_true
abbrev Z3:=@List.size_toArray
abbrev Z4:=@PySem.Heap.lt_size
abbrev Z5:=@Nat.le_refl
abbrev Z6:=@Nat.ne_of_lt
abbrev Z7:=@List.length_cons
abbrev Z8:=@PySem.Heap.get?_push_size
abbrev Z9:=@List.mem_cons_of_mem
abbrev Za:=@Nat.le_of_lt
abbrev Zb:=@Option.some.inj
abbrev Zc:=@List.length_append
abbrev Zd:=@List.mem_append_right
abbrev Ze:=@List.length_map
abbrev Zf:=@List.not_mem_nil
abbrev Zg:=@Nat.le_trans
abbrev Zh:=@List.mem_cons
abbrev Zi:=@List.getElem?_append_left
abbrev Zj:=@List.mem_cons_self
abbrev Zk:=@Bool.and_eq_true
abbrev Zl:=@List.lookup_cons
abbrev Zm:=@List.mem_append_left
abbrev Zn:=@List.filterMap_cons
abbrev Zo:=@List.replicate_succ
abbrev Zp:=@Nat.lt_succ_self
abbrev Zq:=@List.map_cons
abbrev Zr:=@List.getElem?_set_ne
abbrev Zs:=@Nat.zero_le
abbrev Zt:=@List.getElem?_append_right
abbrev Zu:=@Nat.lt_irrefl
abbrev Zv:=@List.getElem?_eq_getElem
abbrev Zw:=@Bool.eq_iff_iff
abbrev Zx:=@List.foldl_cons
abbrev Zy:=@Int.emod_lt_of_pos
abbrev Zz:=@PySem.Heap.size_push
abbrev Y0:=@List.flatten_cons
abbrev Y1:=@List.take_add_one
abbrev Y2:=@List.all_cons
namespace L2
open PySem PySem.Spec PyProof.Rows
noncomputable abbrev Key:=Sum Int Str
noncomputable def keyIs:Key→Value→Bool
 | .inl k,v=>Value.isInt k v
 | .inr x,v=>Value.isStrOf x v
noncomputable def keyH (w:World):Key→Int
 | .inl k=>hashInt k
 | .inr x=>hashStr w x
theorem zAq:∀ {k:Key}{v:Value},keyIs k v=true→(∃ i t,k=Sum.inl i∧v=Value.int i t)∨(∃ x t,k=Sum.inr x∧v=Value.str x t)
 | .inl i,v,h=>by
  obtain ⟨t,e⟩:=Value.isInt_shape (k:=i) (v:=v) h;exact .inl ⟨i,t,rfl,e⟩
 | .inr x,v,h=>by
  obtain ⟨t,e⟩:=Value.isStrOf_shape (x:=x) (v:=v) h;exact .inr ⟨x,t,rfl,e⟩
theorem keyIs_int (i:Int) (t:Tok):keyIs (.inl i) (.int i t)=true:=by simp [keyIs,Value.isInt]
theorem keyIs_str (x:Str) (t:Tok):keyIs (.inr x) (.str x t)=true:=by simp [keyIs,Value.isStrOf]
theorem key_ll (a b:Int):decide ((Sum.inl a:Key)=Sum.inl b)=(a == b):=by
 by_cases e:a=b
 ·subst e;simp
 ·have h:¬ (Sum.inl a:Key)=Sum.inl b:=fun q=>e (Sum.inl.inj q);rw [decide_eq_false h];exact (beq_eq_false_iff_ne.mpr e).symm
theorem key_rr (a b:Str):decide ((Sum.inr a:Key)=Sum.inr b)=decide (a=b):=by
 by_cases e:a=b
 ·subst e;simp
 ·have h:¬ (Sum.inr a:Key)=Sum.inr b:=fun q=>e (Sum.inr.inj q);rw [decide_eq_false h,decide_eq_false e]
theorem key_lr (a:Int) (b:Str):decide ((Sum.inl a:Key)=Sum.inr b)=false:=decide_eq_false (fun q=>nomatch q)
theorem key_rl (a:Str) (b:Int):decide ((Sum.inr a:Key)=Sum.inl b)=false:=decide_eq_false (fun q=>nomatch q)
noncomputable def mixKind (prog:Program) (w:World):PySem.KeyKind prog w Key where
 is:=keyIs
 hash:=keyH w
 inj:=fun v a b ha hb=>by
  rcases zAq ha with ⟨i,t,rfl,rfl⟩ | ⟨x,t,rfl,rfl⟩
  ·rcases zAq hb with ⟨j,u,rfl,e⟩ | ⟨y,u,rfl,e⟩
   ·injection e with e1 _;rw [e1]
   ·exact nomatch e
  ·rcases zAq hb with ⟨j,u,rfl,e⟩ | ⟨y,u,rfl,e⟩
   ·exact nomatch e
   ·injection e with e1 _;rw [e1]
 byValue:=fun k v h=>by
  rcases zAq h with ⟨i,t,rfl,rfl⟩ | ⟨x,t,rfl,rfl⟩ <;> rfl
 pyHash:=fun hv h=>by
  rcases zAq hv with ⟨i,t,rfl,rfl⟩ | ⟨x,t,rfl,rfl⟩
  ·exact wpAny_pyHash_int h
  ·exact wpAny_pyHash_str h
 eqBool:=fun hu hv h=>by
  rcases zAq hu with ⟨i,t,rfl,rfl⟩ | ⟨x,t,rfl,rfl⟩
  ·rcases zAq hv with ⟨j,u,rfl,rfl⟩ | ⟨y,u,rfl,rfl⟩
   ·rw [key_ll] at h;exact wpAny_eqBool_int h
   ·rw [key_lr] at h;exact SeqAt.EqAt.int_str i t y u _ _ _ _ h
  ·rcases zAq hv with ⟨j,u,rfl,rfl⟩ | ⟨y,u,rfl,rfl⟩
   ·rw [key_rl] at h;exact SeqAt.EqAt.str_int x t j u _ _ _ _ h
   ·rw [key_rr] at h;exact wpAny_eqBool_str h
 «strs»:=fun k x t v h=>by
  rcases zAq h with ⟨i,u,rfl,e⟩ | ⟨y,u,rfl,e⟩
  ·exact nomatch e
  ·injection e with e1 _;subst e1;cases v <;> rfl
theorem mixKind_int (prog:Program) (w:World) (i:Int) (t:Tok):(mixKind prog w).is (.inl i) (.int i t)=true:=keyIs_int i t
theorem mixKind_str (prog:Program) (w:World) (x:Str) (t:Tok):(mixKind prog w).is (.inr x) (.str x t)=true:=keyIs_str x t
end L2
namespace L2
open PySem PySem.Spec PyProof.Rows
inductive V where
 | non | bl (b:Bool) | int (i:Int) | str (x:Str) | byt (b:Array UInt8) | flt (b:UInt64) | ref (a:Addr) | ty (n:String)
 deriving DecidableEq
noncomputable def RelV:V→Value→Prop
 | .non,u=>u=Value.none
 | .bl b,u=>u=Value.bool b
 | .int i,u=>∃ t,u=Value.int i t
 | .str x,u=>∃ t,u=Value.str x t
 | .byt b,u=>∃ t,u=Value.bytes b t
 | .flt b,u=>∃ t,u=Value.float b t
 | .ref a,u=>u=Value.ref a
 | .ty n,u=>u=Value.type n
noncomputable abbrev Vals:List V→List Value→Prop:=Paired RelV
theorem Vals.length {xs:List V}{us:List Value} (r:Vals xs us):xs.length=us.length:=Paired.length r
theorem Vals.get:∀ {xs:List V}{us:List Value}{i:Nat}{x:V},Vals xs us→xs[i]? = some x→∃ u,us[i]? = some u∧RelV x u
 | _,_,_,_,.nil,e=>by simp at e
 | _,_,0,_,.cons r _,e=>by simp at e;subst e;exact ⟨_,rfl,r⟩
 | _,_,i + 1,x,.cons _ t,e=>by
  obtain ⟨u,h1,h2⟩:=Vals.get (i:=i) (x:=x) t (by simpa using e);exact ⟨u,by simpa using h1,h2⟩
theorem Vals.set {x:V}{u:Value} (r:RelV x u):∀ {xs:List V}{us:List Value} (i:Nat),Vals xs us→Vals (xs.set i x) (us.set i u)
 | _,_,_,.nil=>.nil
 | _,_,0,.cons _ t=>.cons r t
 | _,_,i + 1,.cons q t=>.cons q (Vals.set r i t)
theorem Vals.append:∀ {xs ys:List V}{us ws:List Value},Vals xs us→Vals ys ws→Vals (xs++ys) (us++ws)
 | _,_,_,_,.nil,s=>s
 | _,_,_,_,.cons r t,s=>.cons r (Vals.append t s)
theorem Vals.take:∀ {xs:List V}{us:List Value} (n:Nat),Vals xs us→Vals (xs.take n) (us.take n)
 | _,_,0,_=>.nil
 | _,_,_ + 1,.nil=>.nil
 | _,_,n + 1,.cons r t=>.cons r (Vals.take n t)
theorem Vals.drop:∀ {xs:List V}{us:List Value} (n:Nat),Vals xs us→Vals (xs.drop n) (us.drop n)
 | _,_,0,r=>r
 | _,_,_ + 1,.nil=>.nil
 | _,_,n + 1,.cons _ t=>Vals.drop n t
noncomputable def RelO:Option V→Option Value→Prop
 | some v,some u=>RelV v u
 | none,none=>True
 | _,_=>False
noncomputable def KV {κ : Type}:List (κ×V)→List (κ×Value)→Prop:=Paired fun (p : κ×V) (q : κ×Value)=>p.1=q.1∧RelV p.2 q.2
noncomputable def kV:Key→V
 | .inl i=>.int i
 | .inr x=>.str x
inductive HO where
 | lst (xs:List V)
 | tup (xs:List V)
 | dK (kvs:List (Key×V)) | dT (kvs:List (List Key×V))
 | set (S:Int→Bool) (n:Nat)
 | ins (C dx:Addr) (fs:List (Str×V))
 | own (x:Addr)
 | xd (fs:List (Str×V))
 | met (f x:Addr)
 | rng (lo hi:Int)
 | frz (o:Obj) (u:HO)
 | tbl (ps:Array Value)
 | ext (φ : Heap→Prop)
noncomputable abbrev Hp:=Addr→Option HO
noncomputable def upd (H:Hp) (a:Addr) (o:HO):Hp:=fun b=>if b=a then some o else H b
theorem zA1 {H:Hp}{a:Addr}{o:HO}:upd H a o a=some o:=by unfold upd;rw [if_pos rfl]
theorem zAa {H:Hp}{a b:Addr}{o:HO} (h:b≠a):upd H a o b=H b:=by unfold upd;rw [if_neg h]
theorem upd_upd {H:Hp}{a:Addr}{o u:HO}:upd (upd H a o) a u=upd H a u:=by
 funext b;unfold upd;split <;> rfl
theorem zA4 {H:Hp}{a b:Addr}{o:HO} (h:H a=some o) (h':H b=none):a≠b:=by
 intro e;subst e;rw [h] at h';cases h'
section
variable (P:Program) (w:World)
noncomputable def ObjOk (H:Hp) (h:Heap) (a:Addr):HO→Prop
 | .lst xs=>xs.length≤sizeLine∧∃ (its:List Value) (n:Nat),Vals xs its∧h.get? a=some { cls:=.type "list",data:=.seq its.toArray n }
 | .tup xs=>xs.length≤sizeLine∧∃ its:List Value,Vals xs its∧IsTup h a its.toArray
 | .dK kvs=>kvs.length≤sizeLine∧(a == sysModules)=false∧∃ vs,KV kvs vs∧h.DictOf (mixKind P w) a vs
 | .dT kvs=>kvs.length≤sizeLine∧(a == sysModules)=false∧∃ xs:List (List Key×Addr×Value),
   Paired (fun (p:List Key×V) (q:List Key×Addr×Value)=>p.1=q.1∧H q.2.1=some (.tup (p.1.map kV))∧RelV p.2 q.2.2) kvs xs ∧
   ∃ o es ep,h.get? a=some o∧o.ExactDict∧o.data=.dict es ep∧es.toList=xs.map (entryOfKey (tupleKind (mixKind P w)))∧(xs.map (·.1)).Nodup
 | .set S n=>h.SetOf (intKind P w) a S n
 | .ins C dx fs=>H dx=some (.own a)∧fs.length≤1000∧dx≠a∧h.get? a=some (PySem.W.instObj C dx) ∧
   ∃ mA,h.Ns1 dx mA∧(∀ f,RelO (fs.lookup f) (mA f))∧PySem.Within mA (fs.map (·.1))
 | .own _=>∃ o,h.get? a=some o
 | .xd fs=>∃ mA,h.Ns1 a mA∧∀ f,RelO (fs.lookup f) (mA f)
 | .rng lo hi=>∃ t u v,h.get? a=some { cls:=.type "range",data:=.fields #[.int lo t,.int hi u,.int 1 v] }
 | .frz o u=>h.get? a=some o∧ObjOk H h a u
 | .tbl ps=>h.get? a=some { cls:=.none,data:=.fields ps }
 | .met f x=>h.get? a=some (PySem.W.methodObj (.ref f) (.ref x))
 | .ext φ=>φ h∧(∃ o,h.get? a=some o)∧∀ h1 h2:Heap,φ h1→(∀ o,h1.get? a=some o→h2.get? a=some o)→φ h2
noncomputable def HOk (H:Hp) (h:Heap):Prop:=∀ a o,H a=some o→ObjOk P w H h a o
end
section
variable {P:Program}{w:World}{H H':Hp}{h h':Heap}{a:Addr}{o:HO}
theorem ObjOk.lt (x:ObjOk P w H h a o):a < h.objs.size:=by
 cases o with
 | lst xs=>obtain ⟨_,_,_,_,e⟩:=x;exact Z4 e
 | tup xs=>obtain ⟨_,_,_,p⟩:=x;exact p.lt
 | dK kvs=>obtain ⟨_,_,_,_,o,_,_,e,_⟩:=x;exact Z4 e
 | dT kvs=>obtain ⟨_,_,_,_,o,_,_,e,_⟩:=x;exact Z4 e
 | set S n=>obtain ⟨o,_,_,_,e,_⟩:=x;exact Z4 e
 | ins C dx fs=>obtain ⟨_,_,_,e,_⟩:=x;exact Z4 e
 | own y=>obtain ⟨_,e⟩:=x;exact Z4 e
 | xd fs=>obtain ⟨_,⟨_,_,_,e,_⟩,_⟩:=x;exact Z4 e
 | rng lo hi=>obtain ⟨_,_,_,e⟩:=x;exact Z4 e
 | frz ob u=>obtain ⟨e,_⟩:=x;exact Z4 e
 | tbl ps=>exact Z4 (show h.get? a=some _ from x)
 | met f y=>exact Z4 (show h.get? a=some _ from x)
 | ext φ=>obtain ⟨_,⟨_,e⟩,_⟩:=x;exact Z4 e
theorem Paired.mapP {α β : Type}{F G : α→β→Prop}:∀ {l₁ : List α}{l₂ : List β},Paired F l₁ l₂→(∀ a b,F a b→G a b)→Paired G l₁ l₂
 | _,_,.nil,_=>.nil
 | _,_,.cons r t,f=>.cons (f _ _ r) (Paired.mapP t f)
theorem ObjOk.stay (x:ObjOk P w H h a o) (k:∀ b u,(b=a∨H b=some (.own a))→h.get? b=some u→h'.get? b=some u)
  (ho:∀ b,H b=some (.own a)→H' b=some (.own a)) (ht:∀ b xs,H b=some (.tup xs)→H' b=some (.tup xs)):ObjOk P w H' h' a o:=by
 induction o with
 | lst xs=>obtain ⟨z,its,n,r,e⟩:=x;exact ⟨z,its,n,r,k _ _ (.inl rfl) e⟩
 | tup xs=>obtain ⟨z,its,r,ob,e,c⟩:=x;exact ⟨z,its,r,ob,k _ _ (.inl rfl) e,c⟩
 | dK kvs=>obtain ⟨z,y,vs,r,ob,es,ep,e,c⟩:=x;exact ⟨z,y,vs,r,ob,es,ep,k _ _ (.inl rfl) e,c⟩
 | dT kvs =>
  obtain ⟨z,y,xs,r,ob,es,ep,e,c⟩:=x;exact ⟨z,y,xs,Paired.mapP r fun p q z=>⟨z.1,ht _ _ z.2.1,z.2.2⟩,ob,es,ep,k _ _ (.inl rfl) e,c⟩
 | set S n=>obtain ⟨ob,es,ep,t,e,c⟩:=x;exact ⟨ob,es,ep,t,k _ _ (.inl rfl) e,c⟩
 | ins C dx fs =>
  obtain ⟨d,z,ne,e,mA,⟨od,es,ep,e2,c⟩,r⟩:=x;exact ⟨ho _ d,z,ne,k _ _ (.inl rfl) e,mA,⟨od,es,ep,k _ _ (.inr d) e2,c⟩,r⟩
 | own y=>obtain ⟨ob,e⟩:=x;exact ⟨ob,k _ _ (.inl rfl) e⟩
 | xd fs=>obtain ⟨mA,⟨od,es,ep,e,c⟩,r⟩:=x;exact ⟨mA,⟨od,es,ep,k _ _ (.inl rfl) e,c⟩,r⟩
 | rng lo hi=>obtain ⟨t,u,v,e⟩:=x;exact ⟨t,u,v,k _ _ (.inl rfl) e⟩
 | frz ob u ih=>obtain ⟨e,q⟩:=x;exact ⟨k _ _ (.inl rfl) e,ih q⟩
 | tbl ps =>
  have e:h.get? a=some { cls:=.none,data:=.fields ps }:=x;show h'.get? a=some { cls:=.none,data:=.fields ps };exact k a _ (.inl rfl) e
 | met f y =>
  have e:h.get? a=some (PySem.W.methodObj (.ref f) (.ref y)):=x;show h'.get? a=some (PySem.W.methodObj (.ref f) (.ref y));exact k a _ (.inl rfl) e
 | ext φ=>obtain ⟨p,⟨o,e⟩,st⟩:=x;exact ⟨st _ _ p fun o q=>k _ _ (.inl rfl) q,⟨o,k _ _ (.inl rfl) e⟩,st⟩
theorem HOk.lt (x:HOk P w H h) (e:H a=some o):a < h.objs.size:=(x a o e).lt
theorem HOk.fresh (x:HOk P w H h) (e:h.objs.size≤a):H a=none:=by
 cases q:H a with
 | none=>rfl
 | some u=>exact absurd (Z1 (x.lt q) e) (Zu _)
theorem HOk.kept (x:HOk P w H h) (k:∀ b u,h.get? b=some u→h'.get? b=some u):HOk P w H h':=fun a o e =>
 (x a o e).stay (fun b u _ q=>k b u q) (fun _ q=>q) fun _ _ q=>q
theorem HOk.laid (x:HOk P w H h) (k:∀ b u,h.get? b=some u→h'.get? b=some u) (hp:h.objs.size≤a) (new:ObjOk P w (upd H a o) h' a o):HOk P w (upd H a o) h':=fun b u e=>by
 have hn:=x.fresh hp;by_cases hb:b=a
 ·subst hb;rw [zA1] at e;cases e;exact new
 ·rw [zAa hb] at e;exact (x b u e).stay (fun c v _ q=>k c v q) (fun c q=>by rw [zAa (zA4 q hn)];exact q) fun c xs q=>by rw [zAa (zA4 q hn)];exact q
end
noncomputable def Rd (H:Hp) (a:Addr) (u:HO):Prop:=H a=some u∨∃ o,H a=some (.frz o u)
theorem Rd.ok {P:Program}{w:World}{H:Hp}{h:Heap}{a:Addr}{u:HO} (r:Rd H a u) (x:HOk P w H h):ObjOk P w H h a u:=by
 rcases r with r | ⟨o,r⟩
 ·exact x a u r
 ·obtain ⟨_,q⟩:=x a _ r;exact q
noncomputable def Mut:Option HO→Prop
 | some (.lst _)=>True
 | some (.dK _)=>True
 | some (.dT _)=>True
 | some (.set _ _)=>True
 | some (.ins _ _ _)=>True
 | some (.ext _)=>True
 | _=>False
section
variable {P:Program}{w:World}{H:Hp}{h h':Heap}{x e:Addr}{o':HO}
theorem HOk.write (ok:HOk P w H h) (mu:Mut (H x)) (he:e=x∨H e=some (.own x)) (k:∀ b u,b≠e→h.get? b=some u→h'.get? b=some u) (heo:∃ u,h'.get? e=some u)
  (new:ObjOk P w (upd H x o') h' x o'):HOk P w (upd H x o') h':=fun b u q=>by
 have nown:∀ c y,H c=some (.own y)→c≠x:=fun c y r z=>by subst z;rw [r] at mu;exact mu
 have ntup:∀ c xs,H c=some (.tup xs)→c≠x:=fun c xs r z=>by subst z;rw [r] at mu;exact mu
 by_cases hb:b=x
 ·subst hb;rw [zA1] at q;cases q;exact new
 ·rw [zAa hb] at q;by_cases hbe:b=e
  ·have q':H b=some (.own x):=by
    rcases he with z | z
    ·exact absurd (hbe.trans z) hb
    ·rw [hbe];exact z
   rw [q] at q';cases q';obtain ⟨v,hv⟩:=heo;exact ⟨v,by rw [hbe];exact hv⟩
  ·refine (ok b u q).stay (fun c v hc r=>k c v ?_ r) (fun c r=>by rw [zAa (nown c b r)];exact r) fun c xs r=>by rw [zAa (ntup c xs r)];exact r
   rcases hc with rfl | hc
   ·exact hbe
   ·rintro rfl;rcases he with z | z
    ·exact nown c b hc z
    ·rw [hc] at z;cases z;exact hb rfl
end
structure Un (fs ex:List Addr) (H H':Hp) (h h':Heap):Prop where
 keep:∀ b o,h.get? b=some o→H b=none→b∉fs→b∉ex→h'.get? b=some o
 slot:∀ b o,h.get? b=some o→H b=none→b∈fs→b∉ex→∃ sl,h'.get? b=some { o with slots:=sl }
 free:∀ b o,h.get? b=some o→H b=none→b∉ex→H' b=none
 there:∀ b o,h.get? b=some o→b∉ex→∃ o',h'.get? b=some o'
 tups:∀ b xs,H b=some (.tup xs)→H' b=some (.tup xs)
 frzs:∀ b o u,H b=some (.frz o u)→H' b=some (.frz o u)
 tbls:∀ b ps,H b=some (.tbl ps)→∃ more,H' b=some (.tbl (ps++more))
section
variable {fs fs' ex ex':List Addr}{H H1 H2:Hp}{h h1 h2 h':Heap}{a x e:Addr}{o:HO}
theorem Un.any (u:Un fs ex H H1 h h1) {b:Addr}{ob:Obj} (q:h.get? b=some ob) (n:H b=none) (hx:b∉ex):∃ sl,h1.get? b=some { ob with slots:=sl }:=by
 by_cases hb:b∈fs
 ·exact u.slot b ob q n hb hx
 ·exact ⟨ob.slots,u.keep b ob q n hb hx⟩
theorem Un.trans (a:Un fs ex H H1 h h1) (b:Un fs ex H1 H2 h1 h2):Un fs ex H H2 h h2 where
 keep:=fun c ob q n hc hx=>b.keep c ob (a.keep c ob q n hc hx) (a.free c ob q n hx) hc hx
 slot:=fun c ob q n hc hx=>by
  obtain ⟨sl,e1⟩:=a.slot c ob q n hc hx;obtain ⟨sl',e2⟩:=b.slot c _ e1 (a.free c ob q n hx) hc hx;exact ⟨sl',e2⟩
 free:=fun c ob q n hx=>by
  obtain ⟨o',e1⟩:=a.there c ob q hx;exact b.free c o' e1 (a.free c ob q n hx) hx
 there:=fun c ob q hx=>by
  obtain ⟨o',e1⟩:=a.there c ob q hx;exact b.there c o' e1 hx
 tups:=fun c xs q=>b.tups c xs (a.tups c xs q)
 frzs:=fun c ob xs q=>b.frzs c ob xs (a.frzs c ob xs q)
 tbls:=fun c ps q=>by
  obtain ⟨m1,e1⟩:=a.tbls c ps q;obtain ⟨m2,e2⟩:=b.tbls c _ e1;exact ⟨m1++m2,by rw [e2,Array.append_assoc]⟩
theorem Un.kept (k:∀ b u,h.get? b=some u→h'.get? b=some u):Un fs ex H H h h' :=
 ⟨fun b ob q _ _ _=>k b ob q,fun b ob q _ _ _=>⟨ob.slots,k b ob q⟩,fun _ _ _ n _=>n,fun b ob q _=>⟨ob,k b ob q⟩,fun _ _ q=>q,fun _ _ _ q=>q,fun _ ps q=>⟨#[],by rw [q];simp⟩⟩
theorem Un.refl:Un fs ex H H h h:=Un.kept fun _ _ q=>q
theorem Un.laid (k:∀ b u,h.get? b=some u→h'.get? b=some u) (hp:h.objs.size≤a) (hn:H a=none):Un fs ex H (upd H a o) h h' where
 keep:=fun b u q _ _ _=>k b u q
 slot:=fun b u q _ _ _=>⟨u.slots,k b u q⟩
 free:=fun b u q n _=>by rw [zAa (Z6 (Z1 (Z4 q) hp))];exact n
 there:=fun b u q _=>⟨u,k b u q⟩
 tups:=fun b xs q=>by rw [zAa (zA4 q hn)];exact q
 frzs:=fun b u xs q=>by rw [zAa (zA4 q hn)];exact q
 tbls:=fun b ps q=>⟨#[],by rw [zAa (zA4 q hn),q];simp⟩
theorem Un.write (mu:Mut (H x)) (he:e=x∨H e=some (.own x)) (k:∀ b u,b≠e→h.get? b=some u→h'.get? b=some u) (heo:∃ u,h'.get? e=some u):Un fs ex H (upd H x o) h h':=by
 have hx:∀ b,H b=none→b≠x:=fun b n z=>by subst z;rw [n] at mu;exact mu
 have hb:∀ b,H b=none→b≠e:=fun b n z=>by
  subst z;rcases he with r | r
  ·exact hx b n r
  ·rw [n] at r;cases r
 have hm:∀ b u,H b=some u→¬ Mut (some u)→b≠x:=fun b u q nm z=>by subst z;rw [q] at mu;exact nm mu
 refine ⟨fun b u q n _ _=>k b u (hb b n) q,fun b u q n _ _=>⟨u.slots,k b u (hb b n) q⟩,fun b u q n _=>by rw [zAa (hx b n)];exact n,fun b u q _=>?_,
  fun b xs q=>by rw [zAa (hm b _ q fun z=>z)];exact q,fun b u xs q=>by rw [zAa (hm b _ q fun z=>z)];exact q,fun b ps q=>⟨#[],by rw [zAa (hm b _ q fun z=>z),q];simp⟩⟩
 by_cases hbe:b=e
 ·subst hbe;exact heo
 ·exact ⟨u,k b u hbe q⟩
end
noncomputable def trk (h:Heap) (H:Hp):List Addr:=(List.range h.objs.size).filter fun a=>(H a).isSome
noncomputable def hidT (h:Heap) (H:Hp):Heap:=PySem.W.hideAll h (trk h H)
theorem hidT_size (h:Heap) (H:Hp):(hidT h H).objs.size=h.objs.size:=PySem.W.hideAll_size _ _
theorem hidT_get {h:Heap}{H:Hp}{b:Addr}{o:Obj} (e:h.get? b=some o) (n:H b=none):(hidT h H).get? b=some o :=
 PySem.W.hideAll_get _ e fun hm=>by
  have q:(H b).isSome=true:=(List.mem_filter.mp hm).2;rw [n] at q;simp at q
theorem of_hidT {h:Heap}{H:Hp}{b:Addr}{o:Obj} (e:(hidT h H).get? b=some o):h.get? b=some o∧H b=none:=by
 have e':h.get? b=some o:=PySem.W.of_hideAll (trk h H) e;refine ⟨e',?_⟩;cases q:H b with
 | none=>rfl
 | some x =>
  have hm:b∈trk h H:=List.mem_filter.mpr ⟨List.mem_range.mpr (Z4 e'),by simp [q]⟩;have z:(hidT h H).get? b=none:=PySem.W.hideAll_none (trk h H) hm;rw [z] at e;cases e
noncomputable def allNews (g h:Heap) (L:Addr):List (Addr×Obj):=(List.range h.objs.size).filterMap fun a=>if a=L∨(g.get? a).isSome=true then none else (h.get? a).map fun o=>(a,o)
noncomputable def rest (g h:Heap) (L d:Addr):List (Addr×Obj):=(allNews g h L).filter fun p=>decide (p.1≠d)
end L2
namespace L2
open PySem PySem.Spec PyProof.Rows
structure Mod (K:PySem.W.Frag) (mg:Str→Option Value) (base:Heap):Prop where
 kin:K.In base
 glob:base.Ns mainGlobals mg
 blt:∃ mb,base.Ns builtinsNs mb∧∀ x:Str,x≠"__name__"→mb x=bootBuiltins x
 nolimit:base.NoLimit
structure Cx where
 prog:Program
 w:World
 K:PySem.W.Frag
 mg:Str→Option Value
 base:Heap
 A:Around
 N:List Str
 s₀ : Shared
 H₀ : Hp
 env:Env
 outer:List Env
 stack:List Env
 ex:List Addr
 fn:Str→Bool
 calm:Bool
 pn:List (Addr×Obj)
 xe:Value→Shared→Prop
noncomputable def frs (l:List Env):List Addr:=l.filterMap (·.frame)
noncomputable abbrev Cx.fs (X:Cx):List Addr:=frs X.outer
noncomputable def Vis (sc:Scope) (x:Str):Prop:=sc.names.lookup x=some .local∨sc.names.lookup x=some .cell∨sc.names.lookup x=some .free
noncomputable def Loc (sc:Scope) (x:Str):Prop:=sc.names.lookup x=some .local∨sc.names.lookup x=some .cell
noncomputable def Look (env:Env) (h:Heap) (m:Str→Option Value) (x:Str) (u:Value):Prop :=
 (env.kindOf x=some .local∧m x=some u)∨((env.kindOf x=some .cell∨env.kindOf x=some .free)∧∃ c,env.cells.lookup x=some c∧h.IsCell c (some u))
structure Cx.Ok (X:Cx):Prop where
 mod:Mod X.K X.mg X.base
 kind:X.env.scope.kind=.function
 glob:X.env.globals=mainGlobals
 blt:X.env.builtins=builtinsNs
 above:X.s₀.heap.objs.size≤X.env.locals
 inj:∀ x y c,X.env.cells.lookup x=some c→X.env.cells.lookup y=some c→x=y
 has:∀ x,(X.env.kindOf x=some .cell∨X.env.kindOf x=some .free)→∃ c,X.env.cells.lookup x=some c
 cab:∀ x c,X.fn x=true→X.env.cells.lookup x=some c→X.s₀.heap.objs.size≤c
 hd:X.calm=true→X.A.handled=none
 frames:X.A.frames=some X.stack
 stk:X.stack=X.outer∨(X.stack=X.env :: X.outer∧X.env.frame=some X.env.locals)
 exf:∀ b∈X.ex,b≠X.env.locals∧∀ x c,X.env.cells.lookup x=some c→c≠b
 bs:∀ b o,X.base.get? b=some o→X.s₀.heap.get? b=some o∧X.H₀ b=none
 bsz:X.base.objs.size≤X.s₀.heap.objs.size
 noex:∀ b o,X.base.get? b=some o→b∉X.ex
 exfs:∀ b∈X.ex,b∉X.fs
 funs:X.s₀.heap.FunFrames X.base X.outer
 frf:∀ b∈X.fs,X.H₀ b=none
structure Inv (X:Cx) (pins:List (Addr×Obj)) (σ : List (Option V)) (H:Hp) (s:Shared):Prop where
 ok:X.Ok
 os:s.os=X.s₀.os
 bare:AllBare s.gens
 base:Un X.fs X.ex X.H₀ H X.s₀.heap s.heap
 loc:∃ m,s.heap.Ns X.env.locals m∧∀ (i:Nat) (x:Str) (v:V),X.N[i]? = some x→σ[i]? = some (some v)→Vis X.env.scope x→∃ u,RelV v u∧Look X.env s.heap m x u
 cell:∀ x c,X.env.cells.lookup x=some c→∃ v,s.heap.IsCell c v
 free:H X.env.locals=none
 freeC:∀ x c,X.env.cells.lookup x=some c→H c=none
 pin:∀ p∈X.pn++pins,s.heap.get? p.1=some p.2∧H p.1=none∧p.1≠X.env.locals∧p.1∉X.fs∧∀ v,p.2.data≠.cell v
 hok:HOk X.prog X.w H s.heap
 len : σ.length=X.N.length
section
variable {X:Cx}{pins:List (Addr×Obj)}{σ : List (Option V)}{H H':Hp}{s:Shared}{h':Heap}
theorem Cx.Ok.nofr (ok:X.Ok) {b:Addr}{o:Obj} (e:X.base.get? b=some o):b∉X.fs:=fun hb=>by
 have:=(ok.funs.mem hb).1;rw [e] at this;cases this
theorem Inv.bs (I:Inv X pins σ H s):∀ b o,X.base.get? b=some o→s.heap.get? b=some o∧H b=none:=fun b o e =>
 ⟨I.base.keep b o (I.ok.bs b o e).1 (I.ok.bs b o e).2 (I.ok.nofr e) (I.ok.noex b o e),I.base.free b o (I.ok.bs b o e).1 (I.ok.bs b o e).2 (I.ok.noex b o e)⟩
theorem Inv.bk (I:Inv X pins σ H s):∀ b o,X.base.get? b=some o→s.heap.get? b=some o:=fun b o e=>(I.bs b o e).1
theorem Inv.mod (I:Inv X pins σ H s):Mod X.K X.mg X.base:=I.ok.mod
theorem Inv.kIn (I:Inv X pins σ H s):X.K.In s.heap:=I.ok.mod.kin.keeps I.bk
theorem Inv.lt (I:Inv X pins σ H s):X.env.locals < s.heap.objs.size:=let ⟨_,hn,_⟩:=I.loc;hn.lt
theorem Inv.sz (I:Inv X pins σ H s):X.s₀.heap.objs.size≤s.heap.objs.size:=Zg I.ok.above (Za I.lt)
theorem Inv.nofs (I:Inv X pins σ H s) {a:Addr} (h:s.heap.objs.size≤a):a∉X.fs:=fun hb=>by
 obtain ⟨_,o,ho,_⟩:=I.ok.funs.mem hb;exact absurd (Z1 (Z4 ho) (Zg I.sz h)) (Zu _)
theorem Inv.cne (I:Inv X pins σ H s):∀ x c,X.env.cells.lookup x=some c→c≠X.env.locals:=fun x c e z=>by
 obtain ⟨v,o,ho,hd⟩:=I.cell x c e;obtain ⟨m,⟨o',es,ep,ho',hd',_⟩,_⟩:=I.loc;rw [z,ho'] at ho;cases ho;rw [hd'] at hd;cases hd
theorem Inv.funs (I:Inv X pins σ H s):s.heap.FunFrames X.base X.outer:=by
 have all:∀ (l:List Env),(∀ b∈frs l,b∈X.fs)→X.s₀.heap.FunFrames X.base l→s.heap.FunFrames X.base l:=by
  intro l
  induction l with
  | nil=>intro _ _;trivial
  | cons env r ih =>
   intro hs hl;obtain ⟨hk,⟨L,o,hf,hn,ho,hd⟩,hr⟩:=hl;have hL:L∈X.fs:=hs L (by unfold frs;rw [Zn,hf];exact Zj);obtain ⟨sl,e⟩:=I.base.slot L o ho (I.ok.frf L hL) hL fun z=>I.ok.exfs L z hL;exact ⟨hk,⟨L,_,hf,hn,e,hd⟩,ih (fun b hb=>hs b (by unfold frs;rw [Zn,hf];exact Z9 _ hb)) hr⟩
 exact all X.outer (fun _ hb=>hb) I.ok.funs
theorem Inv.stack (I:Inv X pins σ H s):s.heap.FunFrames X.base X.stack:=by
 rcases I.ok.stk with e | ⟨e,hf⟩
 ·rw [e];exact I.funs
 ·rw [e];obtain ⟨m,hn,_⟩:=I.loc;refine .cons (by rw [I.ok.kind];decide) hf hn ?_ I.funs;exact Heap.get?_none_of_le (Zg I.ok.bsz I.ok.above)
theorem Inv.stkSub (I:Inv X pins σ H s):∀ b∈frs X.stack,b∈X.env.locals :: X.fs:=fun b hb=>by
 rcases I.ok.stk with e | ⟨e,hf⟩
 ·rw [e] at hb;exact Z9 _ hb
 ·rw [e] at hb;unfold frs at hb;rw [Zn,hf] at hb;exact hb
theorem Inv.stkFree (I:Inv X pins σ H s):∀ b∈frs X.stack,H b=none:=fun b hb=>by
 rcases List.mem_cons.mp (I.stkSub b hb) with e | hb
 ·rw [e];exact I.free
 ·obtain ⟨_,o,ho,_⟩:=I.ok.funs.mem hb;exact I.base.free b o ho (I.ok.frf b hb) fun z=>I.ok.exfs b z hb
theorem Inv.step {g':Array GenState}{t':Nat}{d':Drawn}{ch:List Addr} (I:Inv X pins σ H s)
  (hch:∀ b∈ch,(b∈X.ex∨X.s₀.heap.get? b=none)∧b≠X.env.locals∧(∀ x c,X.env.cells.lookup x=some c→c≠b)∧∀ p∈X.pn++pins,p.1≠b)
  (keep:∀ b o,b≠X.env.locals→b∉X.fs→b∉ch→s.heap.get? b=some o→H b=none→h'.get? b=some o)
  (slot:∀ b o,b≠X.env.locals→b∈X.fs→b∉ch→s.heap.get? b=some o→H b=none→∃ sl,h'.get? b=some { o with slots:=sl }) (free:∀ b o,b∉ch→s.heap.get? b=some o→H b=none→H' b=none)
  (there:∀ b o,b∉ch→s.heap.get? b=some o→∃ o',h'.get? b=some o')
  (tups:∀ b xs,H b=some (.tup xs)→H' b=some (.tup xs)) (frzs:∀ b o u,H b=some (.frz o u)→H' b=some (.frz o u)) (tbls:∀ b ps,H b=some (.tbl ps)→∃ more,H' b=some (.tbl (ps++more)))
  (ns:∀ m,s.heap.Ns X.env.locals m→h'.Ns X.env.locals m) (hok:HOk X.prog X.w H' h') (hg:AllBare g') :
  Inv X pins σ H' { s with heap:=h',gens:=g',drawn:=d',toks:=t' }:=by
 have neL:∀ b o,X.s₀.heap.get? b=some o→b≠X.env.locals:=fun b o e=>Z6 (Z1 (Z4 e) I.ok.above);have neC:∀ b o,X.s₀.heap.get? b=some o→b∉X.ex→b∉ch:=fun b o e hx hb=>by
  rcases (hch b hb).1 with z | z
  ·exact hx z
  ·rw [z] at e;cases e
 have cellK:∀ x c,X.env.cells.lookup x=some c→∀ v,s.heap.IsCell c v→h'.IsCell c v:=fun x c e v ⟨o,ho,hd⟩=>by
  have nch:c∉ch:=fun z=>(hch c z).2.2.1 x c e rfl;by_cases hc:c∈X.fs
  ·obtain ⟨sl,q⟩:=slot c o (I.cne x c e) hc nch ho (I.freeC x c e);exact ⟨_,q,hd⟩
  ·exact ⟨o,keep c o (I.cne x c e) hc nch ho (I.freeC x c e),hd⟩
 refine ⟨I.ok,I.os,hg,⟨fun b o e n hb hx=>?_,fun b o e n hb hx=>?_,fun b o e n hx=>?_,fun b o e hx=>?_,fun b xs e=>tups b xs (I.base.tups b xs e),fun b o xs e=>frzs b o xs (I.base.frzs b o xs e),fun b ps e=>?_⟩,?_,fun x c e=>?_,?_,fun x c e=>?_,fun p hp=>?_,hok,I.len⟩
 ·exact keep b o (neL b o e) hb (neC b o e hx) (I.base.keep b o e n hb hx) (I.base.free b o e n hx)
 ·obtain ⟨sl,e1⟩:=I.base.slot b o e n hb hx;obtain ⟨sl',e2⟩:=slot b _ (neL b o e) hb (neC b o e hx) e1 (I.base.free b o e n hx);exact ⟨sl',e2⟩
 ·obtain ⟨o',e1⟩:=I.base.there b o e hx;exact free b o' (neC b o e hx) e1 (I.base.free b o e n hx)
 ·obtain ⟨o',e1⟩:=I.base.there b o e hx;exact there b o' (neC b o e hx) e1
 ·obtain ⟨m1,e1⟩:=I.base.tbls b ps e;obtain ⟨m2,e2⟩:=tbls b _ e1;exact ⟨m1++m2,by rw [e2,Array.append_assoc]⟩
 ·obtain ⟨m,hn,hl⟩:=I.loc;refine ⟨m,ns m hn,fun i x v e1 e2 e3=>?_⟩;obtain ⟨u,r,l⟩:=hl i x v e1 e2 e3;refine ⟨u,r,?_⟩;rcases l with l | ⟨k,c,e,z⟩
  ·exact .inl l
  ·exact .inr ⟨k,c,e,cellK x c e _ z⟩
 ·obtain ⟨v,z⟩:=I.cell x c e;exact ⟨v,cellK x c e v z⟩
 ·obtain ⟨m,⟨o,_,_,ho,_⟩,_⟩:=I.loc;exact free _ o (fun z=>(hch _ z).2.1 rfl) ho I.free
 ·obtain ⟨v,o,ho,hd⟩:=I.cell x c e;exact free c o (fun z=>(hch c z).2.2.1 x c e rfl) ho (I.freeC x c e)
 ·obtain ⟨e,n,ne,nf,d⟩:=I.pin p hp;have nch:p.1∉ch:=fun z=>(hch p.1 z).2.2.2 p hp rfl;exact ⟨keep p.1 p.2 ne nf nch e n,free p.1 p.2 nch e n,ne,nf,d⟩
theorem Inv.un {t':Nat} (I:Inv X pins σ H s) (u:Un X.fs [] H H' s.heap h') (hok:HOk X.prog X.w H' h'):Inv X pins σ H' { s with heap:=h',toks:=t' }:=by
 obtain ⟨m,⟨o,es,ep,ho,r⟩,_⟩:=id I.loc;obtain ⟨sl,hL⟩:=u.any ho I.free (by simp)
 exact I.step (g':=s.gens) (d':=s.drawn) (ch:=[]) (fun _ z=>nomatch z) (fun b o _ hb _ e n=>u.keep b o e n hb (by simp)) (fun b o _ hb _ e n=>u.slot b o e n hb (by simp)) (fun b o _ e n=>u.free b o e n (by simp)) (fun b o _ e=>u.there b o e (by simp)) u.tups u.frzs u.tbls (fun m' hm=>by
  obtain ⟨o',es',ep',ho',r'⟩:=hm;rw [ho] at ho';cases ho'
  exact ⟨_,es',ep',hL,r'⟩) hok I.bare
theorem Inv.call {g':Array GenState}{t':Nat}{d':Drawn}{ch:List Addr} (I:Inv X pins σ H s) (u:Un (frs X.stack) ch H H' s.heap h') (hok:HOk X.prog X.w H' h') (hg:AllBare g')
  (hch:∀ b∈ch,(b∈X.ex∨X.s₀.heap.objs.size≤b)∧b≠X.env.locals∧(∀ x c,X.env.cells.lookup x=some c→c≠b)∧∀ p∈X.pn++pins,p.1≠b) :
  Inv X pins σ H' { s with heap:=h',gens:=g',drawn:=d',toks:=t' }:=by
 obtain ⟨m,⟨o,es,ep,ho,r⟩,_⟩:=id I.loc;obtain ⟨sl,hL⟩:=u.any ho I.free fun z=>(hch _ z).2.1 rfl
 exact I.step (ch:=ch) (fun b hb=>⟨(hch b hb).1.imp_right fun z=>Heap.get?_none_of_le z,(hch b hb).2⟩) (fun b o hL hb hc e n=>u.keep b o e n (fun z=>(List.mem_cons.mp (I.stkSub b z)).elim hL hb) hc) (fun b o _ _ hc e n=>u.any e n hc) (fun b o hc e n=>u.free b o e n hc) (fun b o hc e=>u.there b o e hc) u.tups u.frzs u.tbls (fun m' hm=>by
  obtain ⟨o',es',ep',ho',r'⟩:=hm;rw [ho] at ho';cases ho'
  exact ⟨_,es',ep',hL,r'⟩) hok hg
theorem Inv.turned {t':Nat}{it:Addr} (I:Inv X pins σ H s) (k:∀ b o,b≠it→s.heap.get? b=some o→h'.get? b=some o) (hn:H it=none) (hL:it≠X.env.locals)
  (h1:it∈X.ex∨X.s₀.heap.objs.size≤it) (h2:∀ x c,X.env.cells.lookup x=some c→c≠it) (h3:∀ p∈X.pn++pins,p.1≠it):Inv X pins σ H { s with heap:=h',toks:=t' }:=by
 have nit:∀ b u,H b=some u→b≠it:=fun b u e z=>by rw [z,hn] at e;cases e
 refine I.step (g':=s.gens) (d':=s.drawn) (ch:=[it]) (fun b hb=>?_) (fun b o _ _ hc e _=>k b o (fun z=>hc (by simp [z])) e) (fun b o _ _ hc e _=>⟨o.slots,k b o (fun z=>hc (by simp [z])) e⟩) (fun _ _ _ _ n=>n)
  (fun b o hc e=>⟨o,k b o (fun z=>hc (by simp [z])) e⟩) (fun _ _ e=>e) (fun _ _ _ e=>e) (fun b ps e=>⟨#[],by rw [e];simp⟩) (fun m hm=>?_) (fun b u e=>?_) I.bare
 ·have e:b=it:=by simpa using hb
  subst e;exact ⟨h1.imp_right fun z=>Heap.get?_none_of_le z,hL,h2,h3⟩
 ·obtain ⟨o,es,ep,ho,r⟩:=hm;exact ⟨o,es,ep,k _ o (Ne.symm hL) ho,r⟩
 ·refine (I.hok b u e).stay (fun c v hc q=>k c v ?_ q) (fun _ q=>q) fun _ _ q=>q;rcases hc with z | z
  ·rw [z];exact nit b u e
  ·exact nit c _ z
theorem Inv.tok (I:Inv X pins σ H s) (t:Nat):Inv X pins σ H { s with toks:=t }:=I.un (h':=s.heap) (t':=t) Un.refl I.hok
theorem Inv.kept {t':Nat} (I:Inv X pins σ H s) (k:∀ b u,s.heap.get? b=some u→h'.get? b=some u):Inv X pins σ H { s with heap:=h',toks:=t' }:=I.un (Un.kept k) (I.hok.kept k)
theorem Inv.laid {a:Addr}{o:HO}{t':Nat} (I:Inv X pins σ H s) (k:∀ b u,s.heap.get? b=some u→h'.get? b=some u) (hp:s.heap.objs.size≤a) (new:ObjOk X.prog X.w (upd H a o) h' a o) :
  Inv X pins σ (upd H a o) { s with heap:=h',toks:=t' }:=I.un (Un.laid k hp (I.hok.fresh hp)) (I.hok.laid k hp new)
theorem Inv.write {x e:Addr}{o:HO}{t':Nat} (I:Inv X pins σ H s) (mu:Mut (H x)) (he:e=x∨H e=some (.own x)) (k:∀ b u,b≠e→s.heap.get? b=some u→h'.get? b=some u) (heo:∃ u,h'.get? e=some u)
  (new:ObjOk X.prog X.w (upd H x o) h' x o):Inv X pins σ (upd H x o) { s with heap:=h',toks:=t' }:=I.un (Un.write mu he k heo) (I.hok.write mu he k heo new)
theorem Inv.pins_of {pins':List (Addr×Obj)} (I:Inv X pins σ H s) (h:∀ p∈pins',s.heap.get? p.1=some p.2∧H p.1=none∧p.1≠X.env.locals∧p.1∉X.fs∧∀ v,p.2.data≠.cell v):Inv X pins' σ H s :=
 ⟨I.ok,I.os,I.bare,I.base,I.loc,I.cell,I.free,I.freeC,fun p hp=>(List.mem_append.mp hp).elim (fun z=>I.pin p (Zm _ z)) (h p),I.hok,I.len⟩
theorem zD0 {N:List Str} (hN:N.Nodup) {i j:Nat}{x:Str} (a:N[i]? = some x) (b:N[j]? = some x):i=j:=by
 obtain ⟨h1,e1⟩:=List.getElem?_eq_some_iff.mp a;obtain ⟨h2,e2⟩:=List.getElem?_eq_some_iff.mp b;exact (List.getElem_inj hN).mp (e1.trans e2.symm)
theorem store_ok2 {M:Model}{A:Around}{E:Value→Shared→Prop}{i:Nat}{x:Str}{v:V}{u:Value}{Q:Unit→Shared→Prop} (I:Inv X pins σ H s) (hN:X.N.Nodup) (hi:X.N[i]? = some x) (hx:Loc X.env.scope x) (r:RelV v u)
  (h:∀ s',Inv X pins (σ.set i (some v)) H s'→(∃ a,Heap.SameBut a s.heap s'.heap∧(a=X.env.locals∨X.env.cells.lookup x=some a))→Q () s') (hf:X.fn x=true∨X.env.scope.names.lookup x=some .local:=by first | exact .inl rfl | exact .inr rfl | assumption):wpAny M A (storeName X.env x u) Q E s:=by
 obtain ⟨m,hn,hl⟩:=id I.loc;have hcls:(X.env.scope.kind == .class || (X.env.scope.kind == .module && X.env.locals != X.env.globals))=false:=by rw [I.ok.kind];rfl
 have hiσ : i < σ.length:=by rw [I.len];exact (List.getElem?_eq_some_iff.mp hi).1
 have cne:=I.cne;have tracked:∀ {a:Addr}{h':Heap},(∃ o,s.heap.get? a=some o∧H a=none)→Heap.SameBut a s.heap h'→HOk X.prog X.w H h':=fun {a h'} ha hs b ob e=>by
  obtain ⟨_,_,hfree⟩:=ha;refine (I.hok b ob e).stay (fun c w' hc q=>(hs.2 c ?_).trans q) (fun _ q=>q) fun _ _ q=>q;rintro rfl;rcases hc with rfl | hc
  ·rw [hfree] at e;cases e
  ·rw [hfree] at hc;cases hc
 rcases hx with hk | hk
 ·refine wpAny_storeName_local hk hn (fun h' hn' hs=>?_) hcls;obtain ⟨oL,_,_,hoL,_⟩:=id hn;refine h _ ⟨I.ok,I.os,I.bare,⟨fun b o e n hb hx=>?_,fun b o e n hb hx=>?_,I.base.free,fun b o e hx=>?_,I.base.tups,I.base.frzs,I.base.tbls⟩,⟨_,hn',fun j y v' e1 e2 e3=>?_⟩,fun y c e=>?_,I.free,I.freeC,fun p hp=>?_,tracked ⟨oL,hoL,I.free⟩ hs,by simpa using I.len⟩ ⟨_,hs,.inl rfl⟩
  ·exact (hs.2 b (Z6 (Z1 (Z4 e) I.ok.above))).trans (I.base.keep b o e n hb hx)
  ·obtain ⟨sl,e1⟩:=I.base.slot b o e n hb hx;exact ⟨sl,(hs.2 b (Z6 (Z1 (Z4 e) I.ok.above))).trans e1⟩
  ·obtain ⟨o',e1⟩:=I.base.there b o e hx;exact ⟨o',(hs.2 b (Z6 (Z1 (Z4 e) I.ok.above))).trans e1⟩
  ·by_cases hj:j=i
   ·subst hj;rw [hi] at e1;cases e1;rw [List.getElem?_set_self hiσ] at e2;cases e2;exact ⟨u,r,.inl ⟨hk,by simp⟩⟩
   ·rw [Zr (Ne.symm hj)] at e2;obtain ⟨u',r',q⟩:=hl j y v' e1 e2 e3;refine ⟨u',r',?_⟩;rcases q with ⟨k,e⟩ | ⟨k,c,e,z⟩
    ·refine .inl ⟨k,?_⟩;have:y≠x:=fun e=>hj (zD0 hN e1 (e ▸ hi));simp [this,e]
    ·exact .inr ⟨k,c,e,z.sameBut hs (cne y c e)⟩
  ·obtain ⟨w',z⟩:=I.cell y c e;exact ⟨w',z.sameBut hs (cne y c e)⟩
  ·obtain ⟨e,n,ne,nf,d⟩:=I.pin p hp;exact ⟨(hs.2 p.1 ne).trans e,n,ne,nf,d⟩
 ·have hfn:X.fn x=true:=by
   rcases hf with z | z
   ·exact z
   ·rw [z] at hk;cases hk
  obtain ⟨c,hc⟩:=I.ok.has x (.inl hk);obtain ⟨w',z⟩:=I.cell x c hc;refine wpAny_storeName_cell I.ok.kind hk hc z (fun h' hc' hs=>?_);obtain ⟨oc,hoc,hocd⟩:=id z;refine h { s with heap:=h' } ⟨I.ok,I.os,I.bare,⟨fun b o e n hb hx=>?_,fun b o e n hb hx=>?_,I.base.free,fun b o e hx=>?_,I.base.tups,I.base.frzs,I.base.tbls⟩,⟨m,hn.sameBut hs (Ne.symm (cne x c hc)),fun j y v' e1 e2 e3=>?_⟩,fun y c' e=>?_,I.free,I.freeC,fun p hp=>?_,tracked ⟨oc,hoc,I.freeC x c hc⟩ hs,by simpa using I.len⟩ ⟨c,hs,.inr hc⟩
  ·exact (hs.2 b (Z6 (Z1 (Z4 e) (I.ok.cab x c hfn hc)))).trans (I.base.keep b o e n hb hx)
  ·obtain ⟨sl,e1⟩:=I.base.slot b o e n hb hx;exact ⟨sl,(hs.2 b (Z6 (Z1 (Z4 e) (I.ok.cab x c hfn hc)))).trans e1⟩
  ·obtain ⟨o',e1⟩:=I.base.there b o e hx;exact ⟨o',(hs.2 b (Z6 (Z1 (Z4 e) (I.ok.cab x c hfn hc)))).trans e1⟩
  ·by_cases hj:j=i
   ·subst hj;rw [hi] at e1;cases e1;rw [List.getElem?_set_self hiσ] at e2;cases e2;exact ⟨u,r,.inr ⟨.inl hk,c,hc,hc'⟩⟩
   ·rw [Zr (Ne.symm hj)] at e2;obtain ⟨u',r',q⟩:=hl j y v' e1 e2 e3;refine ⟨u',r',?_⟩;rcases q with q | ⟨k,c',e,z'⟩
    ·exact .inl q
    ·refine .inr ⟨k,c',e,z'.sameBut hs ?_⟩;rintro rfl;exact hj (zD0 hN e1 (I.ok.inj _ _ _ e hc ▸ hi))
  ·by_cases hcc:c'=c
   ·subst hcc;exact ⟨_,hc'⟩
   ·obtain ⟨w2,z2⟩:=I.cell y c' e;exact ⟨w2,z2.sameBut hs hcc⟩
  ·obtain ⟨e,n,ne,nf,d⟩:=I.pin p hp;refine ⟨(hs.2 p.1 ?_).trans e,n,ne,nf,d⟩;intro q;rw [q,hoc] at e;have q':oc=p.2:=Zb e;exact d w' (by rw [← q'];exact hocd)
theorem zCr {M:Model}{A:Around}{E:Value→Shared→Prop}{i:Nat}{x:Str}{v:V}{u:Value}{Q:Unit→Shared→Prop} (I:Inv X pins σ H s) (hN:X.N.Nodup) (hi:X.N[i]? = some x) (hx:Loc X.env.scope x) (r:RelV v u)
  (h:∀ s',Inv X pins (σ.set i (some v)) H s'→Q () s') (hf:X.fn x=true∨X.env.scope.names.lookup x=some .local:=by first | exact .inl rfl | exact .inr rfl | assumption):wpAny M A (storeName X.env x u) Q E s :=
 store_ok2 I hN hi hx r (fun s' I' _=>h s' I') hf
theorem Inv.call' {s':Shared}{ch:List Addr} (I:Inv X pins σ H s) (ho:s'.os=s.os) (u:Un (frs X.stack) ch H H' s.heap s'.heap) (hok:HOk X.prog X.w H' s'.heap) (hg:AllBare s'.gens)
  (hch:∀ b∈ch,(b∈X.ex∨X.s₀.heap.objs.size≤b)∧b≠X.env.locals∧(∀ x c,X.env.cells.lookup x=some c→c≠b)∧∀ p∈X.pn++pins,p.1≠b):Inv X pins σ H' s':=by
 obtain ⟨h',g',d',t',o'⟩:=s';have e:o'=s.os:=ho;subst e;exact I.call (g':=g') (t':=t') (d':=d') u hok hg hch
end
noncomputable abbrev XK:=Value→Option Addr→Hp→Prop
noncomputable abbrev St:=List (Option V)
noncomputable abbrev VK:=V→Hp→Prop
noncomputable abbrev TE:=St→Hp→VK→Prop
noncomputable abbrev TT:=St→Hp→(Bool→Hp→Prop)→Prop
noncomputable abbrev TA:=St→Hp→(List V→Hp→Prop)→Prop
structure Ends where
 nx:St→Hp→Prop
 rt:VK
 bk:St→Hp→Prop:=fun _ _=>False
 ct:St→Hp→Prop:=fun _ _=>False
noncomputable abbrev TS:=Ends→St→Hp→Prop
noncomputable def EP (X:Cx) (pins:List (Addr×Obj)) (σ : St) (Q:VK) (u:Value) (s':Shared):Prop:=∃ v H',Inv X pins σ H' s'∧RelV v u∧Q v H'
noncomputable def TP (X:Cx) (pins:List (Addr×Obj)) (σ : St) (Q:Bool→Hp→Prop) (b:Bool) (s':Shared):Prop:=∃ H',Inv X pins σ H' s'∧Q b H'
noncomputable def AP (X:Cx) (pins:List (Addr×Obj)) (σ : St) (Q:List V→Hp→Prop) (us:List Value) (s':Shared):Prop:=∃ vs H',Inv X pins σ H' s'∧Vals vs us∧Q vs H'
noncomputable def SP (X:Cx) (pins:List (Addr×Obj)) (D:Ends) (f:Flow) (s':Shared):Prop :=
 match f with
 | .next=>∃ σ' H',Inv X pins σ' H' s'∧D.nx σ' H'
 | .brk=>∃ σ' H',Inv X pins σ' H' s'∧D.bk σ' H'
 | .cont=>∃ σ' H',Inv X pins σ' H' s'∧D.ct σ' H'
 | .ret u=>∃ v σ' H',Inv X pins σ' H' s'∧RelV v u∧D.rt v H'
noncomputable def PE (X:Cx) (e:Expr) (t:TE):Prop :=
 ∀ (pins:List (Addr×Obj)) (s:Shared) (σ : St) (H:Hp) (Q:VK),Inv X pins σ H s→t σ H Q→wpAny (model X.prog X.w) X.A (eval e X.env) (EP X pins σ Q) X.xe s
noncomputable def PT (X:Cx) (e:Expr) (t:TT):Prop :=
 ∀ (pins:List (Addr×Obj)) (s:Shared) (σ : St) (H:Hp) (Q:Bool→Hp→Prop),Inv X pins σ H s→t σ H Q→wpAny (model X.prog X.w) X.A (isTrue e X.env (eval e X.env)) (TP X pins σ Q) X.xe s
noncomputable def PW (X:Cx) (e:Expr) (t:TT):Prop :=
 ∀ (whole:Sem Value) (pins:List (Addr×Obj)) (s:Shared) (σ : St) (H:Hp) (Q:Bool→Hp→Prop),Inv X pins σ H s→t σ H Q→wpAny (model X.prog X.w) X.A (isTrue e X.env whole) (TP X pins σ Q) X.xe s
theorem PW.pt {X:Cx}{e:Expr}{t:TT} (h:PW X e t):PT X e t:=h _
noncomputable def PA (X:Cx) (es:List Expr) (t:TA):Prop :=
 ∀ (pos:Pos) (pins:List (Addr×Obj)) (s:Shared) (σ : St) (H:Hp) (Q:List V→Hp→Prop),Inv X pins σ H s→t σ H Q→wpAny (model X.prog X.w) X.A (spliced (backTo pos (starEach es X.env))) (AP X pins σ Q) X.xe s
noncomputable def PS (X:Cx) (st:Stmt) (t:TS):Prop :=
 ∀ (pins:List (Addr×Obj)) (s:Shared) (σ : St) (H:Hp) (D:Ends),Inv X pins σ H s→t D σ H→wpAny (model X.prog X.w) X.A (exec st X.env) (SP X pins D) X.xe s
noncomputable def PSs (X:Cx) (st:List Stmt) (t:TS):Prop :=
 ∀ (pins:List (Addr×Obj)) (s:Shared) (σ : St) (H:Hp) (D:Ends),Inv X pins σ H s→t D σ H→wpAny (model X.prog X.w) X.A (execs st X.env) (SP X pins D) X.xe s
theorem thn {α : Type}{t:Sem α}{Q Q' : α→Shared→Prop}{M:Model}{A:Around}{E:Value→Shared→Prop}{s:Shared} (h:wpAny M A t Q E s) (hQ:∀ a s,Q a s→Q' a s):wpAny M A t Q' E s:=wpAny_mono h hQ fun _ _ x=>x
end L2
namespace L2
open PySem PySem.Spec PyProof.Rows
section
variable {X:Cx}
theorem bin {a b:Expr}{ta tb:TE} (ha:PE X a ta) (hb:PE X b tb) {pins:List (Addr×Obj)}{s:Shared}{σ : St}{H:Hp}{R:V→V→Hp→Prop} (I:Inv X pins σ H s) (h:ta σ H fun x H1=>tb σ H1 fun y H2=>R x y H2)
  {α : Type}{Q : α→Shared→Prop}{f:Value→Value→Sem α}
  (hf:∀ v u s2 x y H2,Inv X pins σ H2 s2→RelV x v→RelV y u→R x y H2→wpAny (model X.prog X.w) X.A (f v u) Q X.xe s2) :
  wpAny (model X.prog X.w) X.A (eval a X.env) (fun v s₁=>wpAny (model X.prog X.w) X.A (eval b X.env) (fun u s₂=>wpAny (model X.prog X.w) X.A (f v u) Q X.xe s₂) X.xe s₁) X.xe s:=by
 refine thn (ha pins s σ H _ I h) fun v s1 ⟨x,H1,I1,r1,q1⟩=>?_;refine thn (hb pins s1 σ H1 _ I1 q1) fun u s2 ⟨y,H2,I2,r2,q2⟩=>?_;exact hf v u s2 x y H2 I2 r1 r2 q2
noncomputable def tVar (i:Nat):TE:=fun σ H Q=>∃ v,σ[i]? = some (some v)∧Q v H
noncomputable def tC (v:V):TE:=fun _ H Q=>Q v H
theorem pe_var {i:Nat}{x:Str}{pos:Pos} (hN:X.N[i]? = some x) (hv:Vis X.env.scope x) (hd:(x == ("__debug__" : Str))=false:=by decide) (hcd:(x == ("__classdict__" : Str))=false:=by decide):PE X (.Name x pos) (tVar i):=by
 intro pins s σ H Q I h;obtain ⟨v,e,h⟩:=h;obtain ⟨m,hn,hl⟩:=I.loc;obtain ⟨u,r,l⟩:=hl i x v hN e hv;have fin:EP X pins σ Q u s:=⟨v,H,I,r,h⟩;rcases l with ⟨hk,hm⟩ | ⟨hk,c,hc,hcell⟩
 ·exact wpAny_Name (wpAny_loadName_local I.ok.kind hk hn hm fin) hd
 ·rcases hk with hk | hk
  ·exact wpAny_Name (wpAny_loadName_cell I.ok.kind hk hc hcell fin) hd
  ·exact wpAny_Name (wpAny_loadName_free I.ok.kind hk hc hcell fin hcd) hd
theorem zA5 {i j pos}:PE X (.Constant (.int i) j pos) (tC (.int i)):=fun _ _ _ H _ I h=>wpAny_Constant_int ⟨.int i,H,I.tok _,⟨_,rfl⟩,h⟩
theorem zBu {b j pos}:PE X (.Constant (.bool b) j pos) (tC (.bl b)):=fun _ _ _ H _ I h=>Constant_bool ⟨.bl b,H,I,rfl,h⟩
theorem zBa {j pos}:PE X (.Constant .none j pos) (tC .non):=fun _ _ _ H _ I h=>Constant_none ⟨.non,H,I,rfl,h⟩
theorem zA7 {x j pos}:PE X (.Constant (.str x) j pos) (tC (.str x)):=fun _ _ _ H _ I h=>Calls.Constant_str ⟨.str x,H,I.tok _,⟨_,rfl⟩,h⟩
noncomputable def Gl (X:Cx) (x:Str):Prop:=X.env.kindOf x=some .globalImplicit
theorem zBl {E:Value→Shared→Prop}{pins:List (Addr×Obj)}{s:Shared}{σ : St}{H:Hp}{x:Str}{u:Value}{pos:Pos}{Q:Value→Shared→Prop} (I:Inv X pins σ H s) (hg:Gl X x) (hm:X.mg x=some u) (h:Q u s)
  (hd:(x == ("__debug__" : Str))=false:=by decide):wpAny (model X.prog X.w) X.A (eval (.Name x pos) X.env) Q E s :=
 Calls.Name_function_global I.ok.kind hg (Calls.loadGlobal_global (by rw [I.ok.glob];exact I.mod.glob.keeps I.bk) hm h) hd
theorem ld_blt {E:Value→Shared→Prop}{pins:List (Addr×Obj)}{s:Shared}{σ : St}{H:Hp}{x:Str}{u:Value}{pos:Pos}{Q:Value→Shared→Prop} (I:Inv X pins σ H s) (hg:Gl X x) (hm:X.mg x=none) (hv:bootBuiltins x=some u) (h:Q u s)
  (hn:x≠"__name__":=by decide) (hd:(x == ("__debug__" : Str))=false:=by decide):wpAny (model X.prog X.w) X.A (eval (.Name x pos) X.env) Q E s:=by
 obtain ⟨mb,h1,h2⟩:=I.mod.blt;exact Calls.Name_function_global I.ok.kind hg (Calls.loadGlobal_builtin (by rw [I.ok.glob];exact I.mod.glob.keeps I.bk) hm (by rw [I.ok.blt];exact h1.keeps I.bk) ((h2 x hn).trans hv) h) hd
theorem zAk {x:Str}{v:V}{u:Value}{pos:Pos} (hg:Gl X x) (hm:X.mg x=some u) (r:RelV v u) (hd:(x == ("__debug__" : Str))=false:=by decide):PE X (.Name x pos) (tC v) :=
 fun _ _ _ H _ I h=>zBl I hg hm ⟨v,H,I,r,h⟩ hd
theorem zBj {x:Str}{v:V}{u:Value}{pos:Pos} (hg:Gl X x) (hm:X.mg x=none) (hv:bootBuiltins x=some u) (r:RelV v u) (hn:x≠"__name__":=by decide) (hd:(x == ("__debug__" : Str))=false:=by decide):PE X (.Name x pos) (tC v) :=
 fun _ _ _ H _ I h=>ld_blt I hg hm hv ⟨v,H,I,r,h⟩ hn hd
variable {a b:Expr}{ta tb:TE}{pos:Pos}
noncomputable def PC (X:Cx) (op:CmpOp) (a b:Expr) (t:TE):Prop :=
 ∀ (pins:List (Addr×Obj)) (s:Shared) (σ : St) (H:Hp) (Q:VK),Inv X pins σ H s→t σ H Q →
  wpAny (model X.prog X.w) X.A (eval a X.env) (fun v s₁=>wpAny (model X.prog X.w) X.A (eval b X.env) (fun u s₂=>wpAny (model X.prog X.w) X.A (compareOp op v u) (EP X pins σ Q) X.xe s₂) X.xe s₁) X.xe s
theorem nobehind (b:Expr) {op:CmpOp} (h:op≠.In) (h2:op≠.NotIn):behindInMarks op b=false:=by
 have e1:(op == CmpOp.In)=false:=by cases op <;> first | rfl | exact absurd rfl h
 have e2:(op == CmpOp.NotIn)=false:=by cases op <;> first | rfl | exact absurd rfl h2
 cases b <;> simp [behindInMarks,e1,e2]
noncomputable def tNotN (ta:TE):TE:=fun σ H Q=>ta σ H fun x H1=>Q (.bl (!decide (x=.non))) H1
theorem RelV.none_iff {x:V}{v:Value} (r:RelV x v):(v == Value.none)=decide (x=.non):=by
 cases x with
 | non=>cases r;rfl
 | bl _=>cases r;rfl
 | int _=>obtain ⟨t,rfl⟩:=r;rfl
 | str _=>obtain ⟨t,rfl⟩:=r;rfl
 | byt _=>obtain ⟨t,rfl⟩:=r;rfl
 | flt _=>obtain ⟨t,rfl⟩:=r;rfl
 | ref _=>cases r;rfl
 | ty _=>cases r;rfl
theorem pc_notN {j pos'} (ha:PE X a ta):PC X .IsNot a (.Constant .none j pos') (tNotN ta):=by
 intro pins s σ H Q I h;refine thn (ha pins s σ H _ I h) fun v s1 ⟨x,H1,I1,r1,q1⟩=>?_;exact Constant_none (isnot_none_gen ⟨.bl _,H1,I1,by rw [r1.none_iff];rfl,q1⟩)
noncomputable def tB (t:TE):TT:=fun σ H Q=>t σ H fun x H1=>∃ c,x=.bl c∧Q c H1
theorem pt_cmp {op:CmpOp}{t:TE} (h:PC X op a b t) (h1:behindInMarks op b=false:=by first | exact nobehind _ (by decide) (by decide) | rfl):PT X (.Compare a [op] [b] pos) (tB t):=by
 intro pins s σ H Q I hw;refine wpAny_isTrue_Compare1 (thn (h pins s σ H _ I hw) fun v s1 h1=>thn h1 fun u s2 h2=>thn h2 fun c s3 ⟨x,H1,I1,r1,q1⟩=>?_) h1;obtain ⟨d,rfl,q⟩:=q1;cases r1;exact wpAny_truthy_bool ⟨H1,I1,q⟩
theorem zAy {e:Expr}{t:TE} (h:PE X e t) (he:∀ whole,isTrue e X.env whole=(do let v ← whole;standAt e.pos;holding [v] (truthy v)):=by intro _;rfl):PT X e (tB t):=by
 intro pins s σ H Q I hw;refine isTrue_plain (thn (h pins s σ H _ I hw) fun v s1 ⟨x,H1,I1,r1,q1⟩=>?_) (he _);obtain ⟨d,rfl,q⟩:=q1;cases r1;exact wpAny_truthy_bool ⟨H1,I1,q⟩
variable {tA tB':TT}{rest:List Expr}
noncomputable def tAnd (t u:TT):TT:=fun σ H Q=>t σ H fun c H1=>if c=true then u σ H1 Q else Q false H1
noncomputable def tOr (t u:TT):TT:=fun σ H Q=>t σ H fun c H1=>if c=true then Q true H1 else u σ H1 Q
noncomputable def tNot (t:TT):TT:=fun σ H Q=>t σ H fun c H1=>Q (!c) H1
theorem zCv (ha:PT X a tA):PW X (.BoolOp .And [a] pos) tA:=by
 intro wh pins s σ H Q I h;refine isTrue_and (thn (ha pins s σ H Q I h) fun c s1 e=>?_);cases c with
 | true=>exact isTrue_and_nil e
 | false=>exact e
theorem zCe (ha:PT X a tA):PW X (.BoolOp .Or [a] pos) tA:=by
 intro wh pins s σ H Q I h;refine isTrue_or (thn (ha pins s σ H Q I h) fun c s1 e=>?_);cases c with
 | false=>exact isTrue_or_nil e
 | true=>exact e
theorem pw_and (ha:PT X a tA) (hb:PW X (.BoolOp .And (b :: rest) pos) tB'):PW X (.BoolOp .And (a :: b :: rest) pos) (tAnd tA tB'):=by
 intro wh pins s σ H Q I h;refine isTrue_and (thn (ha pins s σ H _ I h) fun c s1 ⟨H1,I1,q1⟩=>?_);cases c with
 | true=>exact hb wh pins s1 σ H1 Q I1 q1
 | false=>exact ⟨H1,I1,q1⟩
theorem zCu (ha:PT X a tA) (hb:PW X (.BoolOp .Or (b :: rest) pos) tB'):PW X (.BoolOp .Or (a :: b :: rest) pos) (tOr tA tB'):=by
 intro wh pins s σ H Q I h;refine isTrue_or (thn (ha pins s σ H _ I h) fun c s1 ⟨H1,I1,q1⟩=>?_);cases c with
 | true=>exact ⟨H1,I1,q1⟩
 | false=>exact hb wh pins s1 σ H1 Q I1 q1
theorem zB1 (ha:PT X a tA):PT X (.UnaryOp .Not a pos) (tNot tA):=by
 intro pins s σ H Q I h;exact isTrue_not (ha pins s σ H (fun c H1=>Q (!c) H1) I h)
noncomputable def tAndV (ta tb:TE):TE:=fun σ H Q=>ta σ H fun x H1=>∃ c,x=.bl c∧if c=true then tb σ H1 Q else Q (.bl false) H1
theorem zCf {op}{t:TE} (h:PE X a t):PE X (.BoolOp op [a] pos) t:=fun pins s σ H Q I hw=>BoolOp_one (h pins s σ H Q I hw)
theorem zBq (ha:PE X a ta) (hb:PE X (.BoolOp .And (b :: rest) pos) tb):PE X (.BoolOp .And (a :: b :: rest) pos) (tAndV ta tb):=by
 intro pins s σ H Q I h;refine BoolOp_and (thn (ha pins s σ H _ I h) fun v s1 ⟨x,H1,I1,r1,q1⟩=>?_);obtain ⟨c,rfl,q1⟩:=q1;cases r1;refine wpAny_truthy_bool ?_;cases c with
 | true=>exact hb pins s1 σ H1 Q I1 q1
 | false=>exact ⟨.bl false,H1,I1,rfl,q1⟩
end
end L2
namespace L2
open PySem PySem.Spec PyProof.Rows
noncomputable def SqL (K:PySem.W.Frag) (H:Hp) (a:Addr) (xs:List V):Prop :=
 Rd H a (.lst xs) ∨
  ∃ (o:Obj) (its:Array Value) (n:Nat),K.lookup a=some o∧o.cls=.type "list"∧o.dict=none∧o.data=.seq its n∧its.size≤sizeLine∧Vals xs its.toList
noncomputable def SqT (K:PySem.W.Frag) (H:Hp) (a:Addr) (xs:List V):Prop :=
 Rd H a (.tup xs) ∨
  ∃ (o:Obj) (its:Array Value) (n:Nat),K.lookup a=some o∧o.cls=.type "tuple"∧o.data=.seq its n∧its.size≤sizeLine∧Vals xs its.toList
noncomputable def absV:Value→Option V
 | .none=>some .non
 | .bool b=>some (.bl b)
 | .int i _=>some (.int i)
 | .str x _=>some (.str x)
 | .bytes b _=>some (.byt b)
 | .float b _=>some (.flt b)
 | .ref a=>some (.ref a)
 | .type n=>some (.ty n)
 | _=>none
theorem RelV.abs {x:V}{u:Value} (r:RelV x u):absV u=some x:=by
 cases x with
 | non=>cases r;rfl
 | bl _=>cases r;rfl
 | int _=>obtain ⟨t,rfl⟩:=r;rfl
 | str _=>obtain ⟨t,rfl⟩:=r;rfl
 | byt _=>obtain ⟨t,rfl⟩:=r;rfl
 | flt _=>obtain ⟨t,rfl⟩:=r;rfl
 | ref _=>cases r;rfl
 | ty _=>cases r;rfl
theorem RelV.inj {x y:V}{u:Value} (r:RelV x u) (q:RelV y u):x=y:=Zb (r.abs.symm.trans q.abs)
theorem Vals.inj:∀ {xs ys:List V}{us:List Value},Vals xs us→Vals ys us→xs=ys
 | _,_,_,.nil,.nil=>rfl
 | _,_,_,.cons r t,.cons r' t'=>by rw [r.inj r',Vals.inj t t']
section
variable {X:Cx}{pins:List (Addr×Obj)}{σ : St}{H:Hp}{s:Shared}{a:Addr}{xs ys:List V}
theorem SqL.of {K:PySem.W.Frag} (h:H a=some (.lst xs)):SqL K H a xs:=.inl (.inl h)
theorem SqT.of {K:PySem.W.Frag} (h:H a=some (.tup xs)):SqT K H a xs:=.inl (.inl h)
theorem Inv.list (I:Inv X pins σ H s) (h:SqL X.K H a xs):∃ its:List Value,Vals xs its∧PlainL s.heap a its.toArray∧xs.length≤sizeLine:=by
 rcases h with h | ⟨o,its,n,hk,hc,hd,hs,hz,r⟩
 ·obtain ⟨z,its,n,r,e⟩:=h.ok I.hok;exact ⟨its,r,⟨_,n,e,rfl,rfl,rfl⟩,z⟩
 ·refine ⟨its.toList,r,⟨o,n,I.kIn a o hk,hc,hd,by simpa using hs⟩,?_⟩;have e:=r.length;simp only [Array.length_toList] at e;omega
theorem Inv.tuple (I:Inv X pins σ H s) (h:SqT X.K H a xs):∃ its:List Value,Vals xs its∧IsTup s.heap a its.toArray∧xs.length≤sizeLine:=by
 rcases h with h | ⟨o,its,n,hk,hc,hs,hz,r⟩
 ·obtain ⟨z,its,r,p⟩:=h.ok I.hok;exact ⟨its,r,p,z⟩
 ·refine ⟨its.toList,r,⟨o,I.kIn a o hk,hc,n,by simpa using hs⟩,?_⟩;have e:=r.length;simp only [Array.length_toList] at e;omega
theorem Inv.list_inj (I:Inv X pins σ H s) (h:SqL X.K H a xs) (h':SqL X.K H a ys):xs=ys:=by
 obtain ⟨its,r,⟨o,n,e,_,_,d⟩,_⟩:=I.list h;obtain ⟨its',r',⟨o',n',e',_,_,d'⟩,_⟩:=I.list h';rw [e] at e';cases e';rw [d] at d';injection d' with d1 _;have:its=its':=by simpa using congrArg Array.toList d1
 subst this;exact r.inj r'
end
noncomputable abbrev Cx.wish (X:Cx) (E:Value→Shared→Prop):Cx:={ X with xe:=E }
noncomputable abbrev Cx.nox (X:Cx):Cx:=X.wish fun _ _=>False
theorem Cx.Ok.wish {X:Cx} (ok:X.Ok) (E:Value→Shared→Prop):(X.wish E).Ok :=
 ⟨ok.mod,ok.kind,ok.glob,ok.blt,ok.above,ok.inj,ok.has,ok.cab,ok.hd,ok.frames,ok.stk,ok.exf,ok.bs,ok.bsz,ok.noex,ok.exfs,ok.funs,ok.frf⟩
theorem Cx.Ok.unwish {X:Cx}{E:Value→Shared→Prop} (ok:(X.wish E).Ok):X.Ok :=
 ⟨ok.mod,ok.kind,ok.glob,ok.blt,ok.above,ok.inj,ok.has,ok.cab,ok.hd,ok.frames,ok.stk,ok.exf,ok.bs,ok.bsz,ok.noex,ok.exfs,ok.funs,ok.frf⟩
section
variable {X:Cx}{pins:List (Addr×Obj)}{σ : St}{H:Hp}{s:Shared}{E:Value→Shared→Prop}
theorem Inv.wish (I:Inv X pins σ H s) (E:Value→Shared→Prop):Inv (X.wish E) pins σ H s:=⟨I.ok.wish E,I.os,I.bare,I.base,I.loc,I.cell,I.free,I.freeC,I.pin,I.hok,I.len⟩
theorem Inv.unwish (I:Inv (X.wish E) pins σ H s):Inv X pins σ H s:=⟨I.ok.unwish,I.os,I.bare,I.base,I.loc,I.cell,I.free,I.freeC,I.pin,I.hok,I.len⟩
theorem SP.unwish {D:Ends}{f:Flow}{s':Shared} (h:SP (X.wish E) pins D f s'):SP X pins D f s':=by
 cases f with
 | next=>obtain ⟨σ',H',I,q⟩:=h;exact ⟨σ',H',I.unwish,q⟩
 | brk=>obtain ⟨σ',H',I,q⟩:=h;exact ⟨σ',H',I.unwish,q⟩
 | cont=>obtain ⟨σ',H',I,q⟩:=h;exact ⟨σ',H',I.unwish,q⟩
 | ret u=>obtain ⟨v,σ',H',I,r,q⟩:=h;exact ⟨v,σ',H',I.unwish,r,q⟩
theorem PE.nox {e:Expr}{t:TE} (h:PE X.nox e t):PE X e t:=fun pins s σ H Q I hw =>
 wpAny_mono (h pins s σ H Q (I.wish _) hw) (fun _ _ ⟨v,H',I',r,q⟩=>⟨v,H',I'.unwish,r,q⟩) fun _ _ z=>False.elim z
theorem PT.nox {e:Expr}{t:TT} (h:PT X.nox e t):PT X e t:=fun pins s σ H Q I hw =>
 wpAny_mono (h pins s σ H Q (I.wish _) hw) (fun _ _ ⟨H',I',q⟩=>⟨H',I'.unwish,q⟩) fun _ _ z=>False.elim z
theorem PSs.nox {st:List Stmt}{t:TS} (h:PSs X.nox st t):PSs X st t:=fun pins s σ H D I hw =>
 wpAny_mono (h pins s σ H D (I.wish _) hw) (fun _ _ q=>q.unwish) fun _ _ z=>False.elim z
end
section
variable {X:Cx}{st:Stmt}{rest:List Stmt}{t u:TS}{e:Expr}{te:TE}{pos:Pos}
noncomputable def tNext:TS:=fun D σ H=>D.nx σ H
noncomputable def tSeq (t u:TS):TS:=fun D σ H=>t { D with nx:=u D } σ H
theorem zAe:PSs X [] tNext:=fun _ _ σ H _ I h=>wpAny_execs_nil ⟨σ,H,I,h⟩
theorem zA8 (h1:PS X st t) (h2:PSs X rest u):PSs X (st :: rest) (tSeq t u):=by
 intro pins s σ H D I h;refine wpAny_execs_cons (thn (h1 pins s σ H { D with nx:=u D } I h) fun f s1 q=>?_);cases f with
 | next =>
  obtain ⟨σ',H',I',q⟩:=q;exact h2 pins s1 σ' H' D I' q
 | ret v=>exact q
 | brk=>exact q
 | cont=>exact q
theorem zA3 (h1:PS X st t):PSs X [st] t:=by
 intro pins s σ H D I h;refine wpAny_execs_cons (thn (h1 pins s σ H D I h) fun f s1 q=>?_);cases f with
 | next=>exact wpAny_execs_nil q
 | ret v=>exact q
 | brk=>exact q
 | cont=>exact q
theorem Inv.quiet {pins:List (Addr×Obj)}{σ : St}{H:Hp}{s:Shared} (I:Inv X pins σ H s):interactive X.env=false:=by simp [interactive,I.ok.kind]
noncomputable def tDrop (te:TE):TS:=fun D σ H=>te σ H fun _ H1=>D.nx σ H1
theorem zAs (he:PE X e te) (hs:swapsWith e none pos.line X.env=pure false:=by rfl):PS X (.Expr e pos) (tDrop te):=by
 intro pins s σ H D I h;exact wpAny_Expr_any (thn (he pins s σ H _ I h) fun v s1 ⟨x,H1,I1,r1,q1⟩=>⟨σ,H1,I1,q1⟩) I.quiet hs
noncomputable def tRet (te:TE):TS:=fun D σ H=>te σ H D.rt
theorem zAj (he:PE X e te):PS X (.Return (some e) pos) (tRet te):=by
 intro pins s σ H D I h;exact wpAny_Return_some (thn (he pins s σ H _ I h) fun v s1 ⟨x,H1,I1,r1,q1⟩=>⟨x,σ,H1,I1,r1,q1⟩)
noncomputable def tIfS (c:TT) (t u:TS):TS:=fun D σ H=>c σ H fun b H1=>if b=true then t D σ H1 else u D σ H1
theorem zAp {c:Expr}{a b:List Stmt}{tc:TT} (hc:PT X c tc) (ha:PSs X a t) (hb:PSs X b u):PS X (.If c a b pos) (tIfS tc t u):=by
 intro pins s σ H D I h;refine wpAny_If (thn (hc pins s σ H _ I h) fun d s1 ⟨H1,I1,q1⟩=>?_);cases d with
 | true=>exact ha pins s1 σ H1 D I1 q1
 | false=>exact hb pins s1 σ H1 D I1 q1
end
noncomputable abbrev TG:=V→St→Hp→(St→Hp→Prop)→Prop
noncomputable def PG (X:Cx) (target:Expr) (t:TG):Prop :=
 ∀ (pins:List (Addr×Obj)) (s:Shared) (σ : St) (H:Hp) (v:V) (u:Value) (Q:St→Hp→Prop),Inv X pins σ H s→RelV v u→t v σ H Q →
  wpAny (model X.prog X.w) X.A (assign target X.env u) (fun _ s'=>∃ σ' H',Inv X pins σ' H' s'∧Q σ' H') X.xe s
noncomputable abbrev TSet:=V→V→V→Hp→(Hp→Prop)→Prop
noncomputable def PSet (X:Cx) (t:TSet):Prop :=
 ∀ (pins:List (Addr×Obj)) (s:Shared) (σ : St) (H:Hp) (o i v:V) (ov iv u:Value) (Q:Hp→Prop),Inv X pins σ H s→RelV o ov→RelV i iv→RelV v u→t o i v H Q →
  wpAny (model X.prog X.w) X.A (setItem ov iv u) (fun _ s'=>∃ H',Inv X pins σ H' s'∧Q H') X.xe s
section
variable {X:Cx}{pos:Pos}
noncomputable def gName (i:Nat):TG:=fun v σ H Q=>Q (σ.set i (some v)) H
theorem zBb {i:Nat}{x:Str} (hN:X.N.Nodup) (hi:X.N[i]? = some x) (hx:Loc X.env.scope x) (hf:X.fn x=true∨X.env.scope.names.lookup x=some .local:=by first | exact .inl rfl | exact .inr rfl | assumption):PG X (.Name x pos) (gName i):=by
 intro pins s σ H v u Q I r h;exact wpAny_assign_Name (zCr I hN hi hx r (fun s' I'=>⟨_,H,I',h⟩) hf)
noncomputable def gSub (to ti:TE) (t:TSet):TG:=fun v σ H Q=>to σ H fun o H1=>ti σ H1 fun i H2=>t o i v H2 fun H3=>Q σ H3
theorem pg_sub {o i:Expr}{to ti:TE}{t:TSet} (ho:PE X o to) (hi:PE X i ti) (hs:PSet X t)
  (ha:∀ v,assign (.Subscript o i pos) X.env v=(do
   let ov ← holding [v] (eval o X.env)
   let iv ← holding [v,ov] (eval i X.env)
   standAt pos
   holding [v,ov,iv] (setItem ov iv v)
   release [v,ov,iv] []):=by intro _;rfl):PG X (.Subscript o i pos) (gSub to ti t):=by
 intro pins s σ H v u Q I r h;rw [ha];refine wpAny_bind (wpAny_holding (thn (ho pins s σ H _ I h) fun ov s1 ⟨x,H1,I1,r1,q1⟩=>?_));refine wpAny_bind (wpAny_holding (thn (hi pins s1 σ H1 _ I1 q1) fun iv s2 ⟨y,H2,I2,r2,q2⟩=>?_));refine wpAny_bind (wpAny_standAt (wpAny_bind (wpAny_holding (thn (hs pins s2 σ H2 x y v ov iv u _ I2 r1 r2 r q2) fun _ s3 ⟨H3,I3,q3⟩=>?_))));exact wpAny_release ⟨σ,H3,I3,q3⟩
noncomputable def tAsg (te:TE) (g:TG):TS:=fun D σ H=>te σ H fun x H1=>g x σ H1 D.nx
theorem ps_asg {tg e:Expr}{te:TE}{g:TG} (he:PE X e te) (hg:PG X tg g) (hs:swapsWithSole [tg] e pos.line X.env=pure false:=by rfl) (hw:swappedStores [tg] e X.env=pure none:=by rfl)
  (h1:(assignEach [tg] X.env).map (·.2)=[assign tg X.env]:=by rfl):PS X (.Assign [tg] e pos) (tAsg te g):=by
 intro pins s σ H D I h;refine wpAny_Assign_stores (thn (he pins s σ H _ I h) fun v s1 ⟨x,H1,I1,r1,q1⟩=>?_) hs hw;rw [h1];exact thn (hg pins s1 σ H1 x v _ I1 r1 q1) fun _ s2 q=>q
theorem zAn {i:Nat}{x:Str}{e:Expr}{te:TE}{pos':Pos} (hN:X.N.Nodup) (hi:X.N[i]? = some x) (hx:Loc X.env.scope x) (he:PE X e te) (hs:swapsWith e (some (.Name x pos')) pos.line X.env=pure false:=by rfl) (hf:X.fn x=true∨X.env.scope.names.lookup x=some .local:=by first | exact .inl rfl | exact .inr rfl | assumption) :
  PS X (.Assign [.Name x pos'] e pos) (tAsg te (gName i)):=by
 intro pins s σ H D I h;refine wpAny_Assign_Name (thn (he pins s σ H _ I h) fun v s1 ⟨y,H1,I1,r1,q1⟩=>?_) hs;exact zCr I1 hN hi hx r1 (fun s2 I2=>⟨_,H1,I2,q1⟩) hf
end
section
variable {X:Cx}{pos:Pos}
end
structure It where
 go:Nat→Hp→Prop
 yld:Nat→Hp→V→Hp→Prop
 stop:Nat→Hp→Prop
noncomputable def FpOk (X:Cx) (pins:List (Addr×Obj)) (H:Hp) (b:Addr):Prop :=
 H b=none∧b≠X.env.locals∧b∉X.fs∧(b∈X.ex∨X.s₀.heap.objs.size≤b)∧(∀ x c,X.env.cells.lookup x=some c→c≠b)∧∀ p∈X.pn++pins,p.1≠b
theorem Inv.fpOk {X:Cx}{pins:List (Addr×Obj)}{σ : St}{H H':Hp}{s:Shared}{b:Addr} (I:Inv X pins σ H s) (hb:s.heap.objs.size≤b) (hn:H' b=none):FpOk X pins H' b:=by
 refine ⟨hn,Nat.ne_of_gt (Z1 I.lt hb),I.nofs hb,.inr (Zg I.sz hb),fun x c e z=>?_,fun p hp z=>?_⟩
 ·obtain ⟨v,q⟩:=I.cell x c e;exact absurd (Z1 q.lt (by rw [z];exact hb)) (Zu _)
 ·exact absurd (Z1 (Z4 (I.pin p hp).1) (by rw [z];exact hb)) (Zu _)
structure TurnP (Φ : Cx→Prop) (P:Program) (w:World) (K:PySem.W.Frag) (tg:Expr) (J:It) (fp:List Addr) (it:Addr) (tn:Nat→Heap→Prop):Prop where
 mem:it∈fp
 obj:∀ i h,tn i h→∀ b∈fp,∃ o,h.get? b=some o∧∀ v,o.data≠.cell v
 keep:∀ i h h',tn i h→(∀ b∈fp,∀ o,h.get? b=some o→h'.get? b=some o)→tn i h'
 item:∀ (X:Cx),X.prog=P→X.w=w→X.K=K→Φ X→∀ (i:Nat) (pins:List (Addr×Obj)) (s:Shared) (σ : St) (H:Hp) (E:Value→Shared→Prop),Inv X pins σ H s→(∀ b∈fp,FpOk X pins H b)→tn i s.heap→J.go i H →
  wpAny (model P w) X.A (pyNext (.ref it)) (fun r s1=>∃ u,r=some u ∧
   wpAny (model P w) X.A (letOwnedTupleGo tg (.ref it) u) (fun _ s2=>∃ x H',Inv X pins σ H' s2∧RelV x u∧J.yld i H x H'∧tn (i + 1) s2.heap∧∀ b∈fp,H' b=none) E s1) E s
 done:∀ (X:Cx),X.prog=P→X.w=w→X.K=K→Φ X→∀ (i:Nat) (pins:List (Addr×Obj)) (s:Shared) (σ : St) (H:Hp) (E:Value→Shared→Prop),Inv X pins σ H s→(∀ b∈fp,FpOk X pins H b)→tn i s.heap→J.stop i H →
  wpAny (model P w) X.A (pyNext (.ref it)) (fun r s1=>r=none∧Inv X pins σ H s1) E s
 self:∀ (A:Around) (i:Nat) (s:Shared) (Q:Value→Shared→Prop) (E:Value→Shared→Prop),tn i s.heap→Q (.ref it) s→wpAny (model P w) A (pyIter (.ref it)) Q E s
noncomputable abbrev Turn:=TurnP fun X=>X.calm=true
noncomputable abbrev TI:=St→Hp→(It→Hp→Prop)→Prop
noncomputable def PIE (X:Cx) (pins:List (Addr×Obj)) (σ : St) (tg:Expr) (R:It→Hp→Prop) (itv:Value) (s2:Shared):Prop :=
 ∃ (it:Addr) (fp:List Addr) (tn:Nat→Heap→Prop) (J:It) (H':Hp),itv=.ref it∧Inv X pins σ H' s2∧Turn X.prog X.w X.K tg J fp it tn∧tn 0 s2.heap∧(∀ b∈fp,FpOk X pins H' b)∧R J H'
noncomputable def PI (X:Cx) (tg iter:Expr) (wi:TI):Prop :=
 ∀ (pins:List (Addr×Obj)) (s:Shared) (σ : St) (H:Hp) (R:It→Hp→Prop),Inv X pins σ H s→wi σ H R →
  wpAny (model X.prog X.w) X.A (eval iter X.env) (fun v s1=>wpAny (model X.prog X.w) X.A (pyIter v) (PIE X pins σ tg R) X.xe s1) X.xe s
theorem go_of {M:Model}{A:Around}{E:Value→Shared→Prop}{s:Shared}{tg:Expr}{it:Addr}{u:Value}{o:Obj}{n:String}{vs:Array Value}{Q:Unit→Shared→Prop} (ho:s.heap.get? it=some o) (hc:o.cls=.type n) (hd:o.data=.fields vs)
  (hn:["enumerate", "zip", "dict_itemiterator", "dict_reverseitemiterator", "odict_iterator", "itertools.zip_longest", "itertools.pairwise"].contains n=false) (hQ:Q () s):wpAny M A (letOwnedTupleGo tg (.ref it) u) Q E s:=by
 unfold letOwnedTupleGo
 cases tg <;> first
  | exact wpAny_pure hQ
  | (cases u <;> first
    | exact wpAny_pure hQ
    | (refine wpAny_bind (wpAny_load ho ?_)
       rw [hc,hd];show wpAny M A (if (["enumerate", "zip", "dict_itemiterator", "dict_reverseitemiterator", "odict_iterator", "itertools.zip_longest", "itertools.pairwise"].contains n && vs[0]? == some (rawInt _))=true then _ else _) Q E s;rw [if_neg (by intro h;rw [hn,Bool.false_and] at h;cases h)]
       exact wpAny_pure hQ))
noncomputable def Itl (K:PySem.W.Frag) (a:Addr):It :=
 ⟨fun i H=>∃ xs x,SqL K H a xs∧xs[i]? = some x,fun i H x H'=>H'=H∧∀ xs,SqL K H a xs→xs[i]? = some x,fun i H=>∃ xs,SqL K H a xs∧xs.length≤i⟩
noncomputable def Itr (lo:Int) (n:Nat):It:=⟨fun i _=>i < n,fun i H x H'=>H'=H∧x=.int (lo + i),fun i _=>n≤i⟩
theorem turn_list {P:Program}{w:World}{K:PySem.W.Frag}{tg:Expr} (a it:Addr):Turn P w K tg (Itl K a) [it] it (fun i h=>h.IsListIter it a i) where
 mem:=by simp
 obj:=fun i h st b hb=>by
  have e:b=it:=by simpa using hb
  subst e;obtain ⟨o,e,c,d⟩:=st;exact ⟨o,e,fun v z=>by rw [d] at z;cases z⟩
 keep:=fun i h h' st k=>st.at fun o e=>k it (by simp) o e
 item:=by
  intro X hP hw hK hc i pins s σ H E I hf st hg;subst hP hw hK;obtain ⟨xs,x,hq,hx⟩:=hg;obtain ⟨its,rv,p,hz⟩:=I.list hq;obtain ⟨u,hu,ru⟩:=rv.get hx;obtain ⟨f0,f1,f2,f3,f4,f5⟩:=hf it (by simp);refine wpAny_pyNext_list_item st p.isList (x:=u) (by simpa using hu) fun h' st' sb=>?_;have I1:Inv X pins σ H { s with heap:=h' }:=I.turned (t':=s.toks) (fun b o hb e=>(sb.2 b hb).trans e) f0 f1 f3 f4 f5;obtain ⟨o,e,c,d⟩:=id st';exact ⟨u,rfl,go_of (s:={ s with heap:=h' }) e c d (by decide) ⟨x,H,I1,ru,⟨rfl,fun ys hy=>by rw [I.list_inj hy hq];exact hx⟩,st',fun b hb=>(hf b hb).1⟩⟩
 done:=by
  intro X hP hw hK hc i pins s σ H E I hf st hg;subst hP hw hK;obtain ⟨xs,hq,hx⟩:=hg;obtain ⟨its,rv,p,hz⟩:=I.list hq;obtain ⟨f0,f1,f2,f3,f4,f5⟩:=hf it (by simp);have hl:=rv.length;exact wpAny_pyNext_list_end (I.ok.hd hc) st p.isList (by simp;omega) fun h' eb=>⟨rfl,I.turned (t':=s.toks) (fun b o hb e=>eb b o hb e) f0 f1 f3 f4 f5⟩
 self:=fun _ _ _ _ _ st h=>wpAny_pyIter_listiter st h
theorem turn_range {P:Program}{w:World}{K:PySem.W.Frag}{tg:Expr} (it:Addr) (lo:Int) (n:Nat):Turn P w K tg (Itr lo n) [it] it (fun i h=>IsRangeIter h it (lo + (i:Nat) * 1) ((n:Int) - (i:Nat)) 1) where
 mem:=by simp
 obj:=fun i h st b hb=>by
  have e:b=it:=by simpa using hb
  subst e
  exact ⟨_,st,fun v z=>by
   have z':Data.fields _=Data.cell v:=z
   cases z'⟩
 keep:=fun i h h' st k=>k it (by simp) _ st
 item:=by
  intro X hP hw hK hc i pins s σ H E I hf st hg;subst hP hw hK;obtain ⟨f0,f1,f2,f3,f4,f5⟩:=hf it (by simp);have W:=Walks.range (prog:=X.prog) (w:=X.w) (I.ok.hd hc) it lo 1 n;refine W.item i s _ _ hg st fun v h' tk hv st' kk=>?_;obtain ⟨t,rfl⟩:=hv;have I1:Inv X pins σ H { s with heap:=h',toks:=tk }:=I.turned (fun b o hb e=>kk b o (by simpa using hb) e) f0 f1 f3 f4 f5;refine ⟨_,rfl,go_of (s:={ s with heap:=h',toks:=tk }) (n:="range_iterator") st' rfl rfl (by decide) ⟨.int (lo + i),H,I1,⟨t,?_⟩,⟨rfl,rfl⟩,st',fun b hb=>(hf b hb).1⟩⟩;rw [Int.mul_one]
 done:=by
  intro X hP hw hK hc i pins s σ H E I hf st hg;subst hP hw hK;obtain ⟨f0,f1,f2,f3,f4,f5⟩:=hf it (by simp);exact wpAny_pyNext_range_end (I.ok.hd hc) st (by have:n≤i:=hg;omega) fun h' eb=>⟨rfl,I.turned (t':=s.toks) (fun b o hb e=>eb b o hb e) f0 f1 f3 f4 f5⟩
 self:=fun _ _ _ _ _ st h=>wpAny_pyIter_rangeiter st h
end L2
namespace L2
open PySem PySem.Spec PyProof.Rows
section
variable {X:Cx}{tg:Expr}
noncomputable def iList (K:PySem.W.Frag) (tl:TE):TI:=fun σ H R=>tl σ H fun x H1=>∃ a,x=.ref a∧(∃ xs,SqL K H1 a xs)∧R (Itl K a) H1
theorem zC3 {l:Expr}{tl:TE} (hl:PE X l tl):PI X tg l (iList X.K tl):=by
 intro pins s σ H R I h;refine thn (hl pins s σ H _ I h) fun v s1 ⟨x,H1,I1,r1,q1⟩=>?_;obtain ⟨a,e,⟨xs,hq⟩,q⟩:=q1;subst e;cases r1;obtain ⟨its,rv,p,hz⟩:=I1.list hq;refine wpAny_pyIter_list p.isList ?_;refine ⟨s1.heap.objs.size,[s1.heap.objs.size],_,_,H1,rfl,I1.kept (t':=s1.toks) fun b o e=>Z0 _ e,turn_list a _,⟨_,Z8 _ rfl,rfl,rfl⟩,fun b hb=>?_,q⟩;have e:b=s1.heap.objs.size:=by simpa using hb
 subst e;exact I1.fpOk (Z5 _) (I1.hok.fresh (Z5 _))
theorem range_it {pins:List (Addr×Obj)}{σ : St}{H:Hp}{s:Shared}{R:It→Hp→Prop}{E:Value→Shared→Prop}{lo hi:Int}{t u v:Tok}{tk:Nat} (I:Inv X pins σ H s) (h1 : -(2 ^ 62)≤lo) (h2:lo < 2 ^ 62) (h3 : -(2 ^ 62)≤hi) (h4:hi < 2 ^ 62)
  (q:R (Itr lo (hi - lo).toNat) H):wpAny (model X.prog X.w) X.A (pyIter (.ref s.heap.objs.size)) (PIE X pins σ tg R) E { s with heap:=s.heap.push { cls:=.type "range",data:=.fields #[.int lo t,.int hi u,.int 1 v] },toks:=tk }:=by
 refine wpAny_pyIter_range (IsRange.new ..) (small_one h1 h2 h3 h4) ?_;have I1:Inv X pins σ H { s with heap:=s.heap.push { cls:=.type "range",data:=.fields #[.int lo t,.int hi u,.int 1 v] },toks:=tk }:=I.kept fun b o e=>Z0 _ e
 refine ⟨(s.heap.push { cls:=.type "range",data:=.fields #[.int lo t,.int hi u,.int 1 v] }).objs.size,[(s.heap.push { cls:=.type "range",data:=.fields #[.int lo t,.int hi u,.int 1 v] }).objs.size],_,_,H,rfl,
  I1.kept (t':=tk) fun b o e=>Z0 _ e,turn_range _ lo (hi - lo).toNat,?_,fun b hb=>?_,q⟩
 ·have e1:lo + ((0:Nat):Int) * 1=lo:=by simp
  have e2:(((hi - lo).toNat:Nat):Int) - ((0:Nat):Int)=Builtin.Range.rangeSize lo hi 1:=by rw [rangeSize_one];split <;> omega
  show IsRangeIter _ _ (lo + ((0:Nat):Int) * 1) ((((hi - lo).toNat:Nat):Int) - ((0:Nat):Int)) 1;rw [e1,e2];exact Z8 _ rfl
 ·have e:b=(s.heap.push { cls:=.type "range",data:=.fields #[.int lo t,.int hi u,.int 1 v] }).objs.size:=by simpa using hb
  subst e;exact I1.fpOk (Z5 _) (I1.hok.fresh (Z5 _))
noncomputable def iRng1 (ta:TA):TI:=fun σ H R=>ta σ H fun vs H1=>∃ j:Int,vs=[.int j]∧-(2 ^ 62)≤j∧j < 2 ^ 62∧R (Itr 0 j.toNat) H1
theorem zBh {a:Expr}{ta:TA}{p pos:Pos} (hg:Gl X "range") (hm:X.mg "range" = none) (ha:PA X [a] ta) (hs:starEach [a] X.env=[(false,eval a X.env)]:=by rfl):PI X tg (.Call (.Name "range" p) [a] [] pos) (iRng1 ta):=by
 intro pins s σ H R I h;refine Call_ (ld_blt I hg hm boot_range (PyProof.Rows.callWith_type1 (thn (ha pos pins s σ H _ I h) fun us s1 ⟨vs,H1,I1,r1,q1⟩=>?_) hs rfl));obtain ⟨j,e,q1,q2,q⟩:=q1;subst e;cases r1 with
 | cons r rr =>
  cases rr;obtain ⟨t,rfl⟩:=r;exact call_range_1 (range_it I1 (by omega) (by omega) q1 q2 (by simpa using q))
noncomputable def tFor (wi:TI) (g:TG) (tb:TS):TS:=fun D σ H=>wi σ H fun J H1=>∃ W:Nat→Nat→St→Hp→Prop,(∃ m,W 0 m σ H1)∧∀ i m σ H,W i m σ H →
 (J.stop i H∧D.nx σ H)∨(J.go i H∧∃ N:St→Hp→Prop,(∀ σ' H',N σ' H'→∃ m',m' < m∧W (i + 1) m' σ' H')∧∀ x H',J.yld i H x H'→g x σ H' fun σ2 H2=>tb { D with nx:=N,ct:=N,bk:=D.nx } σ2 H2)
noncomputable def pinsAt (fp:List Addr) (h:Heap):List (Addr×Obj):=fp.filterMap fun b=>(h.get? b).map fun o=>(b,o)
theorem zC4 {fp:List Addr}{h:Heap}{b:Addr}{o:Obj} (hb:b∈fp) (e:h.get? b=some o):(b,o)∈pinsAt fp h:=List.mem_filterMap.mpr ⟨b,hb,by rw [e];rfl⟩
theorem of_pinsAt {fp:List Addr}{h:Heap}{p:Addr×Obj} (hp:p∈pinsAt fp h):p.1∈fp∧h.get? p.1=some p.2:=by
 obtain ⟨b,hb,e⟩:=List.mem_filterMap.mp hp;cases q:h.get? b with
 | none=>rw [q] at e;cases e
 | some o =>
  rw [q] at e;have e':(b,o)=p:=Zb e;subst e';exact ⟨hb,q⟩
theorem Inv.pinned {pins:List (Addr×Obj)}{σ : St}{H:Hp}{s:Shared}{fp:List Addr} (I:Inv X pins σ H s) (hf:∀ b∈fp,FpOk X pins H b) (ho:∀ b∈fp,∃ o,s.heap.get? b=some o∧∀ v,o.data≠.cell v):Inv X (pins++pinsAt fp s.heap) σ H s :=
 I.pins_of fun p hp=>(List.mem_append.mp hp).elim (fun z=>I.pin p (Zd _ z)) fun z=>by
  obtain ⟨hb,e⟩:=of_pinsAt z;obtain ⟨f0,f1,f2,_⟩:=hf p.1 hb;obtain ⟨o,e',d⟩:=ho p.1 hb;rw [e] at e';cases e';exact ⟨e,f0,f1,f2,d⟩
theorem Inv.unpinned {pins pl:List (Addr×Obj)}{σ : St}{H:Hp}{s:Shared} (I:Inv X (pins++pl) σ H s):Inv X pins σ H s:=I.pins_of fun p hp=>I.pin p (Zd _ (Zm _ hp))
theorem ps_for {iter:Expr}{body:List Stmt}{wi:TI}{g:TG}{tb:TS}{pos:Pos} (hp:PassesOwn (model X.prog X.w) X.A X.env X.xe) (hc:X.calm=true) (hi:PI X tg iter wi) (hg:PG X tg g) (hb:PSs X body tb)
  (hs:∀ x,foldedSetIterable iter X.env x=pure x:=by intro _;rfl):PS X (.For tg iter body [] pos) (tFor wi g tb):=by
 intro pins s σ H D I h;refine wpAny_For (thn (hi pins s σ H _ I h) fun v s1 h1=>thn h1 fun itv s2 h2=>?_) hs;obtain ⟨it,fp,tn,J,H2,e,I2,T,st2,f2,W,⟨m0,w0⟩,turn⟩:=h2;subst e;have stat:∀ {H':Hp},(∀ b∈fp,H' b=none)→∀ b∈fp,FpOk X pins H' b:=fun hn b hb=>⟨hn b hb,(f2 b hb).2⟩;refine codeAny_forLoop_any (fun n s'=>∃ i σ' H',Inv X pins σ' H' s'∧tn i s'.heap∧(∀ b∈fp,H' b=none)∧W i n σ' H') ?_ m0 ⟨0,σ,H2,I2,st2,fun b hb=>(f2 b hb).1,w0⟩;rintro n s3 ⟨i,σ3,H3,I3,st3,fr3,w3⟩;rcases turn i n σ3 H3 w3 with ⟨stop,qn⟩ | ⟨go,N,hN,step⟩
 ·refine wpAny_passesOwn hp (thn (T.done X rfl rfl rfl hc i pins s3 σ3 H3 X.xe I3 (stat fr3) st3 stop) fun r s4 ⟨hr,I4⟩=>?_);subst hr;exact wpAny_execs_nil ⟨σ3,H3,I4,qn⟩
 ·refine wpAny_passesOwn hp (thn (T.item X rfl rfl rfl hc i pins s3 σ3 H3 X.xe I3 (stat fr3) st3 go) fun r s4 ⟨u,hr,h4⟩=>?_);subst hr;refine wpAny_passesOwn hp (thn h4 fun _ s5 ⟨x,H5,I5,r5,y5,st5,fr5⟩=>?_);have I5':=I5.pinned (stat fr5) (T.obj _ _ st5);refine wpAny_passesOwn hp (thn (hg _ s5 σ3 H5 x u _ I5' r5 (step x H5 y5)) fun _ s6 ⟨σ6,H6,I6,q6⟩=>?_);refine wpAny_passesOwn hp (thn (hb _ s6 σ6 H6 _ I6 q6) fun f s7 q7=>?_);have again:∀ {σ7:St}{H7:Hp},Inv X (pins++pinsAt fp s5.heap) σ7 H7 s7→N σ7 H7→∃ m,m < n∧∃ i σ' H',Inv X pins σ' H' s7∧tn i s7.heap∧(∀ b∈fp,H' b=none)∧W i m σ' H':=fun {σ7 H7} I7 n7=>by
   obtain ⟨m',hm,w7⟩:=hN σ7 H7 n7;refine ⟨m',hm,i + 1,σ7,H7,I7.unpinned,T.keep _ _ _ st5 fun b hb o e=>(I7.pin (b,o) (Zd _ (Zd _ (zC4 hb e)))).1,fun b hb=>?_,w7⟩;obtain ⟨o,e,d⟩:=T.obj _ _ st5 b hb;exact (I7.pin (b,o) (Zd _ (Zd _ (zC4 hb e)))).2.1
  cases f with
  | next=>obtain ⟨σ7,H7,I7,n7⟩:=q7;exact again I7 n7
  | cont=>obtain ⟨σ7,H7,I7,n7⟩:=q7;exact again I7 n7
  | brk=>obtain ⟨σ7,H7,I7,q7⟩:=q7;exact ⟨σ7,H7,I7.unpinned,q7⟩
  | ret v=>obtain ⟨x7,σ7,H7,I7,r7,q7⟩:=q7;exact ⟨x7,σ7,H7,I7.unpinned,r7,q7⟩
end
theorem for_range {lo:Int}{n:Nat}{g:TG}{tb:TS}{D:Ends}{σ : St}{H:Hp} (Pv:Nat→St→Hp→Prop) (h0:Pv 0 σ H)
  (hs:∀ i σ H,i < n→Pv i σ H→g (.int (lo + i)) σ H fun σ2 H2=>tb { D with nx:=Pv (i + 1),ct:=Pv (i + 1),bk:=D.nx } σ2 H2) (hd:∀ σ H,Pv n σ H→D.nx σ H) :
  ∃ W:Nat→Nat→St→Hp→Prop,(∃ m,W 0 m σ H)∧∀ i m σ H,W i m σ H →
   ((Itr lo n).stop i H∧D.nx σ H)∨((Itr lo n).go i H∧∃ N:St→Hp→Prop,(∀ σ' H',N σ' H'→∃ m',m' < m∧W (i + 1) m' σ' H')∧∀ x H',(Itr lo n).yld i H x H'→g x σ H' fun σ2 H2=>tb { D with nx:=N,ct:=N,bk:=D.nx } σ2 H2):=by
 refine ⟨fun i m σ H=>m=n - i∧i≤n∧Pv i σ H,⟨n,by simp,Zs _,h0⟩,?_⟩;rintro i m σ H ⟨rfl,hi,p⟩;by_cases hlt:i < n
 ·refine .inr ⟨hlt,Pv (i + 1),fun σ' H' p'=>⟨n - (i + 1),by omega,rfl,hlt,p'⟩,fun x H' y=>?_⟩;obtain ⟨e,y⟩:=y;subst e y;exact hs i σ _ hlt p
 ·have e:i=n:=by omega
  subst e;exact .inl ⟨Z5 _,hd σ H p⟩
end L2
namespace L2
open PySem PySem.Spec PyProof.Rows
noncomputable abbrev R2:=V→V→Hp→VK→Prop
noncomputable def OpR (X:Cx) (f:Value→Value→Sem Value) (r:R2):Prop :=
 ∀ (pins:List (Addr×Obj)) (s:Shared) (σ : St) (H:Hp) (x y:V) (v u:Value) (Q:VK),Inv X pins σ H s→RelV x v→RelV y u→r x y H Q →
  wpAny (model X.prog X.w) X.A (f v u) (EP X pins σ Q) X.xe s
noncomputable def UnR (X:Cx) (f:Value→Sem Value) (r:V→Hp→VK→Prop):Prop :=
 ∀ (pins:List (Addr×Obj)) (s:Shared) (σ : St) (H:Hp) (x:V) (v:Value) (Q:VK),Inv X pins σ H s→RelV x v→r x H Q →
  wpAny (model X.prog X.w) X.A (f v) (EP X pins σ Q) X.xe s
noncomputable def CallR (X:Cx) (f:Value) (r:List V→Hp→VK→Prop):Prop :=
 ∀ (pins:List (Addr×Obj)) (s:Shared) (σ : St) (H:Hp) (xs:List V) (us:List Value) (Q:VK),Inv X pins σ H s→Vals xs us→r xs H Q →
  wpAny (model X.prog X.w) X.A (call f us) (EP X pins σ Q) X.xe s
noncomputable def tOp (r:R2) (ta tb:TE):TE:=fun σ H Q=>ta σ H fun x H1=>tb σ H1 fun y H2=>r x y H2 Q
noncomputable def tUn (r:V→Hp→VK→Prop) (ta:TE):TE:=fun σ H Q=>ta σ H fun x H1=>r x H1 Q
noncomputable def rI (C:Int→Int→Prop) (g:Int→Int→V):R2:=fun x y H Q=>∃ i j,x=.int i∧y=.int j∧C i j∧Q (g i j) H
noncomputable def rI0 (g:Int→Int→V):R2:=fun x y H Q=>∃ i j,x=.int i∧y=.int j∧Q (g i j) H
noncomputable def rU (g:Int→V):V→Hp→VK→Prop:=fun x H Q=>∃ i,x=.int i∧Q (g i) H
section
variable {X:Cx}{a b c:Expr}{ta tb tc:TE}{pos:Pos}
theorem binT (ha:PE X a ta) (hb:PE X b tb) {pins:List (Addr×Obj)}{s:Shared}{σ : St}{H:Hp}{R:V→V→Hp→Prop} (I:Inv X pins σ H s)
  (h:ta σ H fun x H1=>tb σ H1 fun y H2=>R x y H2) {Q:Value→Shared→Prop}{f:Value→Value→Sem Value}
  (hf:∀ v u s2 x y H2,Inv X pins σ H2 s2→RelV x v→RelV y u→R x y H2→wpAny (model X.prog X.w) X.A (f v u) Q X.xe s2) :
  wpAny (model X.prog X.w) X.A (eval a X.env) (fun v s₁=>wpAny (model X.prog X.w) X.A (eval b X.env) (fun u s₂=>wpAny (model X.prog X.w) X.A (f v u) Q X.xe s₂) X.xe s₁) X.xe s:=by
 refine thn (ha pins s σ H _ I h) fun v s1 ⟨x,H1,I1,r1,q1⟩=>?_;refine thn (hb pins s1 σ H1 _ I1 q1) fun u s2 ⟨y,H2,I2,r2,q2⟩=>?_;exact hf v u s2 x y H2 I2 r1 r2 q2
theorem zB0 {op:Operator}{r:R2} (ho:OpR X (binaryOp op) r) (ha:PE X a ta) (hb:PE X b tb):PE X (.BinOp a op b pos) (tOp r ta tb):=by
 intro pins s σ H Q I h;exact wpAny_BinOp (binT ha hb I h fun v u s2 x y H2 I2 rx ry q=>ho pins s2 σ H2 x y v u Q I2 rx ry q)
theorem pe_un {op:UnaryOp}{r:V→Hp→VK→Prop} (ho:UnR X (unaryOp op) r) (ha:PE X a ta):PE X (.UnaryOp op a pos) (tUn r ta):=by
 intro pins s σ H Q I h;exact UnaryOp_ (thn (ha pins s σ H _ I h) fun v s1 ⟨x,H1,I1,r1,q1⟩=>ho pins s1 σ H1 x v Q I1 r1 q1)
theorem opI {f:Value→Value→Sem Value}{C:Int→Int→Prop}{g:Int→Int→Int}
  (rule:∀ (i j:Int) (t u:Tok) (s:Shared) (Q:Value→Shared→Prop) (E:Value→Shared→Prop),C i j→Q (.int (g i j) s.toks) { s with toks:=s.toks + 1 }→wpAny (model X.prog X.w) X.A (f (.int i t) (.int j u)) Q E s) :
  OpR X f (rI C fun i j=>.int (g i j)):=by
 intro pins s σ H x y v u Q I rx ry h;obtain ⟨i,j,rfl,rfl,hc,q⟩:=h;obtain ⟨t,rfl⟩:=rx;obtain ⟨t',rfl⟩:=ry;exact rule i j t t' s _ _ hc ⟨.int (g i j),H,I.tok _,⟨_,rfl⟩,q⟩
theorem opI0 {f:Value→Value→Sem Value}{g:Int→Int→Int}
  (rule:∀ (i j:Int) (t u:Tok) (s:Shared) (Q:Value→Shared→Prop) (E:Value→Shared→Prop),Q (.int (g i j) s.toks) { s with toks:=s.toks + 1 }→wpAny (model X.prog X.w) X.A (f (.int i t) (.int j u)) Q E s) :
  OpR X f (rI0 fun i j=>.int (g i j)):=by
 intro pins s σ H x y v u Q I rx ry h;obtain ⟨i,j,rfl,rfl,q⟩:=h;obtain ⟨t,rfl⟩:=rx;obtain ⟨t',rfl⟩:=ry;exact rule i j t t' s _ _ ⟨.int (g i j),H,I.tok _,⟨_,rfl⟩,q⟩
theorem opB0 {f:Value→Value→Sem Value}{g:Int→Int→Bool}
  (rule:∀ (i j:Int) (t u:Tok) (s:Shared) (Q:Value→Shared→Prop) (E:Value→Shared→Prop),Q (.bool (g i j)) s→wpAny (model X.prog X.w) X.A (f (.int i t) (.int j u)) Q E s) :
  OpR X f (rI0 fun i j=>.bl (g i j)):=by
 intro pins s σ H x y v u Q I rx ry h;obtain ⟨i,j,rfl,rfl,q⟩:=h;obtain ⟨t,rfl⟩:=rx;obtain ⟨t',rfl⟩:=ry;exact rule i j t t' s _ _ ⟨.bl (g i j),H,I,rfl,q⟩
noncomputable def CDiv (i j:Int):Prop:=0 < j∧j < 1073741824
noncomputable def CPow (i j:Int):Prop:=0≤j∧j≤1000000∧i.natAbs < 2 ^ 64
noncomputable def CMul (i j:Int):Prop:=(-(2 ^ 64) < i∧i < 2 ^ 64)∨(-(2 ^ 64) < j∧j < 2 ^ 64)
theorem CMul.ok {i j:Int} (h:CMul i j):IntMulOk i j:=by
 rcases h with ⟨h1,h2⟩ | ⟨h1,h2⟩
 ·exact .of_left (intBits_le_64 h1 h2)
 ·exact .of_right (intBits_le_64 h1 h2)
theorem zCh:OpR X (binaryOp .Add) (rI0 fun i j=>.int (i + j)):=opI0 fun _ _ _ _ _ _ _ q=>add_int q
theorem op_sub:OpR X (binaryOp .Sub) (rI0 fun i j=>.int (i - j)):=opI0 fun _ _ _ _ _ _ _ q=>sub_int q
theorem zCp:OpR X (binaryOp .Mult) (rI CMul fun i j=>.int (i * j)):=opI fun _ _ _ _ _ _ _ hc q=>mul_int q hc.ok
theorem zCz:OpR X (binaryOp .FloorDiv) (rI CDiv fun i j=>.int (i / j)):=opI fun i j _ _ _ _ _ hc q=>by
 have h1:(0:Int) < j:=hc.1;have h2:j < 1073741824:=hc.2;exact floordiv_int (by omega) (by rw [Int.fdiv_eq_ediv_of_nonneg i (by omega)];exact q) (.inl (PyProof.noPylong_small (by omega)))
theorem zC7:OpR X (binaryOp .Mod) (rI (fun _ j=>0 < j) fun i j=>.int (i % j)):=opI fun i j _ _ _ _ _ hc q=>by
 have h1:(0:Int) < j:=hc;exact mod_int' (by omega) (by rw [Int.fmod_eq_emod_of_nonneg i (by omega)];exact q)
theorem op_pow:OpR X (binaryOp .Pow) (rI CPow fun i j=>.int (i ^ j.toNat)):=opI fun _ _ _ _ _ _ _ hc q=>pow_int_small hc.1 hc.2.1 hc.2.2 q
theorem unI {f:Value→Sem Value}{g:Int→Int}
  (rule:∀ (i:Int) (t:Tok) (s:Shared) (Q:Value→Shared→Prop) (E:Value→Shared→Prop),Q (.int (g i) s.toks) { s with toks:=s.toks + 1 }→wpAny (model X.prog X.w) X.A (f (.int i t)) Q E s) :
  UnR X f (rU fun i=>.int (g i)):=by
 intro pins s σ H x v Q I rx h;obtain ⟨i,rfl,q⟩:=h;obtain ⟨t,rfl⟩:=rx;exact rule i t s _ _ ⟨.int (g i),H,I.tok _,⟨_,rfl⟩,q⟩
theorem un_neg:UnR X (unaryOp .USub) (rU fun i=>.int (-i)):=unI fun _ _ _ _ _ q=>neg_int q
end
noncomputable def scal:V→V→Bool
 | .non,.non=>true | .non,.int _=>true | .int _,.non=>true | .non,.bl _=>true | .bl _,.non=>true | .non,.str _=>true | .str _,.non=>true
 | .int _,.int _=>true | .bl _,.bl _=>true | .str _,.str _=>true | .byt _,.byt _=>true
 | .int _,.str _=>true | .str _,.int _=>true | .bl _,.str _=>true | .str _,.bl _=>true
 | _,_=>false
noncomputable def rEq:R2:=fun x y H Q=>scal x y=true∧Q (.bl (decide (x=y))) H
noncomputable def rNe:R2:=fun x y H Q=>scal x y=true∧Q (.bl (!decide (x=y))) H
theorem dec_int {i j:Int}:decide (V.int i=V.int j)=(i == j):=by
 rw [Zw];simp
theorem dec_bl {i j:Bool}:decide (V.bl i=V.bl j)=(i == j):=by
 rw [Zw];simp
theorem dec_str {i j:Str}:decide (V.str i=V.str j)=(i == j):=by
 rw [Zw];simp
theorem dec_byt {i j:Array UInt8}:decide (V.byt i=V.byt j)=(i.toList == j.toList):=by
 rw [Zw];cases i;cases j;simp
section
variable {X:Cx}{a b c:Expr}{ta tb tc:TE}{pos:Pos}
theorem zAm {pins:List (Addr×Obj)}{σ : St}{H:Hp}{s:Shared}{Q:VK}{k k':Bool} (I:Inv X pins σ H s) (q:Q (.bl k) H) (e:k=k'):EP X pins σ Q (.bool k') s:=by
 subst e;exact ⟨.bl k,H,I,rfl,q⟩
theorem zBk:OpR X (compareOp .Eq) rEq:=by
 intro pins s σ H x y v u Q I rx ry h;obtain ⟨hs,q⟩:=h;cases x with
 | non =>
  cases rx;cases y with
  | non=>cases ry;exact PySem.EqNone.eq_none_none (zAm I q (by simp))
  | bl j=>cases ry;exact PySem.EqNone.eq_none_bool (zAm I q (by simp))
  | int j=>obtain ⟨t',rfl⟩:=ry;exact PySem.EqNone.eq_none_int (zAm I q (by simp))
  | str j=>obtain ⟨t',rfl⟩:=ry;exact PySem.EqNone.eq_none_str (zAm I q (by simp))
  | _=>exact absurd (show false=true from hs) Z2
 | bl i =>
  cases rx;cases y with
  | non=>cases ry;exact PySem.EqNone.eq_bool_none (zAm I q (by simp))
  | bl j=>cases ry;exact eq_bool (zAm I q dec_bl)
  | str j=>obtain ⟨t',rfl⟩:=ry;exact PySem.EqMixed.eq_bool_str (zAm I q (by simp))
  | _=>exact absurd (show false=true from hs) Z2
 | int i =>
  obtain ⟨t,rfl⟩:=rx;cases y with
  | non=>cases ry;exact PySem.EqNone.eq_int_none (zAm I q (by simp))
  | int j=>obtain ⟨t',rfl⟩:=ry;exact eq_int (zAm I q dec_int)
  | str j=>obtain ⟨t',rfl⟩:=ry;exact PySem.EqMixed.eq_int_str (zAm I q (by simp))
  | _=>exact absurd (show false=true from hs) Z2
 | str i =>
  obtain ⟨t,rfl⟩:=rx;cases y with
  | non=>cases ry;exact PySem.EqNone.eq_str_none (zAm I q (by simp))
  | bl j=>cases ry;exact PySem.EqMixed.eq_str_bool (zAm I q (by simp))
  | int j=>obtain ⟨t',rfl⟩:=ry;exact PySem.EqMixed.eq_str_int (zAm I q (by simp))
  | str j=>obtain ⟨t',rfl⟩:=ry;exact eq_str (zAm I q dec_str)
  | _=>exact absurd (show false=true from hs) Z2
 | byt i =>
  obtain ⟨t,rfl⟩:=rx;cases y with
  | byt j=>obtain ⟨t',rfl⟩:=ry;exact PySem.W.eq_bytes (zAm I q dec_byt)
  | _=>exact absurd (show false=true from hs) Z2
 | _=>cases y <;> exact absurd (show false=true from hs) Z2
theorem op_ne:OpR X (compareOp .NotEq) rNe:=by
 intro pins s σ H x y v u Q I rx ry h;obtain ⟨hs,q⟩:=h;cases x with
 | non =>
  cases rx;cases y with
  | non=>cases ry;exact PySem.EqNone.ne_none_none (zAm I q (by simp))
  | bl j=>cases ry;exact PySem.EqNone.ne_none_bool (zAm I q (by simp))
  | int j=>obtain ⟨t',rfl⟩:=ry;exact PySem.EqNone.ne_none_int (zAm I q (by simp))
  | str j=>obtain ⟨t',rfl⟩:=ry;exact PySem.EqNone.ne_none_str (zAm I q (by simp))
  | _=>exact absurd (show false=true from hs) Z2
 | bl i =>
  cases rx;cases y with
  | non=>cases ry;exact PySem.EqNone.ne_bool_none (zAm I q (by simp))
  | bl j=>cases ry;exact ne_bool (zAm I q (congrArg not dec_bl))
  | str j=>obtain ⟨t',rfl⟩:=ry;exact PySem.EqMixed.ne_bool_str (zAm I q (by simp))
  | _=>exact absurd (show false=true from hs) Z2
 | int i =>
  obtain ⟨t,rfl⟩:=rx;cases y with
  | non=>cases ry;exact PySem.EqNone.ne_int_none (zAm I q (by simp))
  | int j=>obtain ⟨t',rfl⟩:=ry;exact ne_int (zAm I q (congrArg not dec_int))
  | str j=>obtain ⟨t',rfl⟩:=ry;exact PySem.EqMixed.ne_int_str (zAm I q (by simp))
  | _=>exact absurd (show false=true from hs) Z2
 | str i =>
  obtain ⟨t,rfl⟩:=rx;cases y with
  | non=>cases ry;exact PySem.EqNone.ne_str_none (zAm I q (by simp))
  | bl j=>cases ry;exact PySem.EqMixed.ne_str_bool (zAm I q (by simp))
  | int j=>obtain ⟨t',rfl⟩:=ry;exact PySem.EqMixed.ne_str_int (zAm I q (by simp))
  | str j=>obtain ⟨t',rfl⟩:=ry;exact ne_str (zAm I q (congrArg not dec_str))
  | _=>exact absurd (show false=true from hs) Z2
 | byt i =>
  obtain ⟨t,rfl⟩:=rx;cases y with
  | byt j=>obtain ⟨t',rfl⟩:=ry;exact PySem.W.ne_bytes (zAm I q (congrArg not dec_byt))
  | _=>exact absurd (show false=true from hs) Z2
 | _=>cases y <;> exact absurd (show false=true from hs) Z2
theorem op_lt:OpR X (compareOp .Lt) (rI0 fun i j=>.bl (decide (i < j))):=opB0 fun _ _ _ _ _ _ _ q=>lt_int q
theorem op_le:OpR X (compareOp .LtE) (rI0 fun i j=>.bl (decide (i≤j))):=opB0 fun _ _ _ _ _ _ _ q=>le_int q
theorem op_gt:OpR X (compareOp .Gt) (rI0 fun i j=>.bl (decide (j < i))):=opB0 fun _ _ _ _ _ _ _ q=>gt_int q
theorem op_in_str:OpR X (compareOp .In) (fun x y H Q=>∃ i j,x=.str i∧y=.str j∧Q (.bl (!(Builtin.Str.occurrences j i 0 j.length 1).isEmpty)) H):=by
 intro pins s σ H x y v u Q I rx ry h;obtain ⟨i,j,rfl,rfl,q⟩:=h;obtain ⟨t,rfl⟩:=rx;obtain ⟨t',rfl⟩:=ry;exact in_str (zAm I q rfl)
theorem op_isN:OpR X (compareOp .Is) (fun x y H Q=>y=.non∧Q (.bl (decide (x=.non))) H):=by
 intro pins s σ H x y v u Q I rx ry h;obtain ⟨rfl,q⟩:=h;cases ry;refine is_none_gen (zAm I q ?_)
 cases x <;> first
  | (cases rx;rfl)
  | (obtain ⟨t,rfl⟩:=rx;rfl)
theorem nomark (b:Expr) {op:CmpOp} (h:op≠.In:=by decide) (h2:op≠.NotIn:=by decide):behindInMarks op b=false:=by
 have e1:(op == CmpOp.In)=false:=by cases op <;> first | rfl | exact absurd rfl h
 have e2:(op == CmpOp.NotIn)=false:=by cases op <;> first | rfl | exact absurd rfl h2
 cases b <;> simp [behindInMarks,e1,e2]
theorem zB7 {op:CmpOp}{r:R2} (ho:OpR X (compareOp op) r) (ha:PE X a ta) (hb:PE X b tb) (hm:behindInMarks op b=false):PE X (.Compare a [op] [b] pos) (tOp r ta tb):=by
 intro pins s σ H Q I h;exact wpAny_Compare1 (binT ha hb I h fun v u s2 x y H2 I2 rx ry q=>ho pins s2 σ H2 x y v u Q I2 rx ry q) hm
noncomputable def tTest (t:TE):TT:=fun σ H Q=>t σ H fun x H'=>∃ k,x=.bl k∧Q k H'
theorem zAi {op:CmpOp}{r:R2} (ho:OpR X (compareOp op) r) (ha:PE X a ta) (hb:PE X b tb) (hm:behindInMarks op b=false):PT X (.Compare a [op] [b] pos) (tTest (tOp r ta tb)):=by
 intro pins s σ H Q I h
 refine wpAny_isTrue_Compare1 (thn (ha pins s σ H _ I h) fun v s1 ⟨x,H1,I1,r1,q1⟩=>thn (hb pins s1 σ H1 _ I1 q1) fun u s2 ⟨y,H2,I2,r2,q2⟩ =>
  thn (ho pins s2 σ H2 x y v u _ I2 r1 r2 q2) fun c s3 ⟨z,H3,I3,r3,k,e,q3⟩=>?_) hm
 subst e;cases r3;exact wpAny_truthy_bool ⟨H3,I3,q3⟩
noncomputable def tChain (r r':R2) (ta tb tc:TE):TE:=fun σ H Q=>ta σ H fun x H1=>tb σ H1 fun y H2=>r x y H2 fun z H3=>∃ k,z=.bl k ∧
 (if k=true then tc σ H3 fun w' H4=>r' y w' H4 Q else Q (.bl false) H3)
theorem zCx {op op':CmpOp}{r r':R2} (ho:OpR X (compareOp op) r) (ho':OpR X (compareOp op') r') (ha:PE X a ta) (hb:PE X b tb) (hc:PE X c tc)
  (hm:lastMarks [op,op'] [b,c]=false:=by with_unfolding_all rfl):PE X (.Compare a [op,op'] [b,c] pos) (tChain r r' ta tb tc):=by
 intro pins s σ H Q I h
 refine Compare_chain (thn (ha pins s σ H _ I h) fun v s1 ⟨x,H1,I1,r1,q1⟩=>chain_link (thn (hb pins s1 σ H1 _ I1 q1) fun u s2 ⟨y,H2,I2,r2,q2⟩ =>
  thn (ho pins s2 σ H2 x y v u _ I2 r1 r2 q2) fun d s3 ⟨z,H3,I3,r3,k,e,q3⟩=>?_)) hm
 subst e;cases r3;refine wpAny_truthy_bool ?_;cases k with
 | false=>exact ite_ff ⟨.bl false,H3,I3,rfl,q3⟩
 | true=>exact ite_tt (chain_last (thn (hc pins s3 σ H3 _ I3 q3) fun w' s4 ⟨z',H4,I4,r4,q4⟩=>ho' pins s4 σ H4 y z' u w' Q I4 r2 r4 q4))
theorem line63:(sizeLine:Nat) < 2 ^ 63:=by rw [sizeLine_eq];decide
theorem vals1 {x:V}{us:List Value} (r:Vals [x] us):∃ u,us=[u]∧RelV x u:=by
 cases r with
 | cons r1 r2=>cases r2;exact ⟨_,rfl,r1⟩
theorem call_int1:CallR X (.type "int") (fun xs H Q=>(∃ i,xs=[.int i]∧Q (.int i) H)∨∃ k,xs=[.bl k]∧Q (.int (if k then 1 else 0)) H):=by
 intro pins s σ H xs us Q I r h;rcases h with ⟨i,rfl,q⟩ | ⟨k,rfl,q⟩
 ·obtain ⟨u,rfl,t,rfl⟩:=vals1 r;exact call_int_int ⟨.int i,H,I,⟨_,rfl⟩,q⟩
 ·obtain ⟨u,rfl,r1⟩:=vals1 r;cases r1;exact call_int_bool ⟨.int (if k then 1 else 0),H,I.tok _,⟨_,rfl⟩,q⟩
end
end L2
namespace L2
open PySem PySem.Spec PyProof.Rows
structure ObjM (h:Heap) (x dx C:Addr) (mA:Str→Option Value):Prop where
 obj:h.get? x=some (PySem.W.instObj C dx)
 ns:h.Ns1 dx mA
 ne:dx≠x
theorem lookIn_ns {h:Heap}{dx:Addr}{mA:Str→Option Value} (n:h.Ns1 dx mA):∃ od,h.get? dx=some od∧∀ name,PySem.W.lookIn name od=some (mA name):=by
 obtain ⟨o,es,ep,ho,hd,hk,_,hm⟩:=n;refine ⟨o,ho,fun name=>?_⟩;have e:=hm name;unfold nsFind findBy at e;rw [← Array.find?_toList] at e;unfold PySem.W.lookIn;rw [hd];dsimp only;split
 ·rename_i y q
  rw [q] at e;exact congrArg some e
 ·rename_i q
  rw [q] at e;have a:es.toList.any (·.refKey)=false:=by
   rw [List.any_eq_false];intro y hy;obtain ⟨z,t,hkey⟩:=hk y (Array.mem_toList_iff.mp hy);simp [DictEntry.refKey,hkey]
  have a':¬ es.toList.any (·.refKey)=true:=by rw [a];exact Z2
  rw [if_neg a'];exact congrArg some e
theorem ObjM.look {h:Heap}{x dx C:Addr}{mA:Str→Option Value} (I:ObjM h x dx C mA):∃ od,PySem.W.InstAt h x (PySem.W.instObj C dx) C (some od)∧∀ name,PySem.W.lookIn name od=some (mA name) :=
 let ⟨od,ho,hl⟩:=lookIn_ns I.ns
 ⟨od,⟨I.obj,rfl,rfl,ho⟩,hl⟩
section
variable {prog:Program}{w:World}{A:Around}{E:Value→Shared→Prop}{s:Shared}{K:PySem.W.Frag}{x dx C f:Addr}{mA:Str→Option Value}{name:Str}{v:Value}
theorem get_map {expr:Bool}{Q:Value→Shared→Prop} (X:K.In s.heap) (I:ObjM s.heap x dx C mA) (hg:PySem.W.plainGet K C name=true) (hh:PySem.W.hasDictIn K C=true)
  (ha:PySem.W.findIn K (.ref C) name=some none) (hv:mA name=some v) (hv':PySem.W.handedIn v=true) (h:Q v { s with toks:=s.toks + 1 }) :
  wpAny (model prog w) A (getAttr (.ref x) name expr) Q E s:=by
 obtain ⟨od,J,hl⟩:=I.look;exact PySem.W.get_value X J (PySem.W.plainGet_of hg).1 (PySem.W.findObj_own hh ha rfl (by rw [hl,hv])) hv' h
theorem set_map {ns:List Str}{Q:Unit→Shared→Prop} (X:K.In s.heap) (I:ObjM s.heap x dx C mA)
  (hs:PySem.W.findIn K (.ref C) "__setattr__" = some (some (.builtin "object.__setattr__"))) (hp:PySem.W.plainOver K C=true) (ht:PySem.W.takerIn K C name=some none) (hh:PySem.W.hasDictIn K C=true)
  (hw:PySem.Within mA ns) (hsz:ns.length≤sizeLine)
  (h:∀ h',ObjM h' x dx C (fun y=>if y=name then some v else mA y)→Heap.SameBut dx s.heap h'→Q () { s with heap:=h',toks:=s.toks + 2 }) :
  wpAny (model prog w) A (setAttr (.ref x) name v) Q E s:=by
 obtain ⟨od,J,hl⟩:=I.look;refine PySem.W.set_plain X J hs (PySem.W.osa_open (s:={ s with toks:=s.toks + 1 }) (r:=none) X J hp ht fun b=>?_);obtain ⟨cd,hc,hd'⟩:=PySem.W.any_some hh;have hx:s.heap.get? x=some ⟨.ref C,some dx,.plain,#[]⟩:=I.obj;refine wpAny_bind (wpAny_pure (wpAny_bind (wpAny_bind (wpAny_loadPart hx (wpAny_bind (PySem.W.Looks.here (s:={ s with toks:=s.toks + 1 }) (PySem.W.looks_clsIn X hc) ?_))))));rw [hd'];refine wpAny_pure (a:=some dx) (wpAny_bind (wpAny_pure (wpAny_bind ?_)));refine wpAny_nsSet1 (s:={ s with toks:=s.toks + 1 }) I.ns fun h' hn2 hs2=>?_;obtain ⟨oD,esD,epD,hoD,hdD,hcD⟩:=hn2.count (PySem.Within.cons name v hw);refine wpAny_bind (wpAny_lookBehind hoD (by rw [hdD];exact pastItsLine_dict (Zg hcD (by rw [Z7];omega))) ?_);exact wpAny_pure (h _ ⟨(hs2.2 _ (Ne.symm I.ne)).trans I.obj,hn2,I.ne⟩ hs2)
theorem make_map {R:Result→Shared→Prop}{vs:List Value}{kw:List (Str×Value)} (X:K.In s.heap) (hm:PySem.W.makesIn K C=true)
  (hi:PySem.W.findIn K (.ref C) "__init__" = some (some (.ref f))) (hf:PySem.W.typeIn K (.ref f)=some (.type "function"))
  (h:codeAny (model prog w) (A.under (.builtin "type.__call__" ⟨.ref C :: vs,kw⟩)) (.call (.ref f) ⟨.ref (s.heap.objs.size + 1) :: vs,kw⟩) (PySem.W.InitBack (s.heap.objs.size + 1) R)
   { s with heap:=(s.heap.push PySem.W.emptyDict).push (PySem.W.instObj C s.heap.objs.size) }) :
  codeAny (model prog w) A (.call (.ref C) ⟨vs,kw⟩) R s:=by
 obtain ⟨hh,g,d,t,os⟩:=s;exact PySem.W.make_core (PySem.W.makes_of X hm) (PySem.W.looks_findIn X hi) (fun self=>PySem.W.bind_fn X self hf) (.inl rfl) h
theorem make_map0 {R:Result→Shared→Prop} (X:K.In s.heap) (hm:PySem.W.makesIn K C=true)
  (hi:PySem.W.findIn K (.ref C) "__init__" = some (some (.builtin "object.__init__")))
  (hb:∀ self,PySem.W.Looks (model prog w) s.heap (bindSpecial (.builtin "object.__init__") self) (.builtin "object.__init__",[self]))
  (h:codeAny (model prog w) (A.under (.builtin "type.__call__" ⟨[.ref C],[]⟩)) (.call (.builtin "object.__init__") ⟨[.ref (s.heap.objs.size + 1)],[]⟩) (PySem.W.InitBack (s.heap.objs.size + 1) R)
   { s with heap:=(s.heap.push PySem.W.emptyDict).push (PySem.W.instObj C s.heap.objs.size) }) :
  codeAny (model prog w) A (.call (.ref C) ⟨[],[]⟩) R s:=by
 obtain ⟨hh,g,d,t,os⟩:=s;exact PySem.W.make_core (PySem.W.makes_of X hm) (PySem.W.looks_findIn X hi) hb (.inr ⟨rfl,rfl⟩) h
end
noncomputable def putF (f:Str) (v:V):List (Str×V)→List (Str×V)
 | []=>[(f,v)]
 | (g,x) :: r=>if g=f then (g,v) :: r else (g,x) :: putF f v r
theorem zAg (f g:Str) (v:V):∀ fs:List (Str×V),(putF f v fs).lookup g=if g=f then some v else fs.lookup g
 | []=>by
  show List.lookup g [(f,v)]=_;by_cases h:g=f
  ·have hb:(g == f)=true:=beq_iff_eq.mpr h;simp only [List.lookup,hb,if_pos h]
  ·have hb:(g == f)=false:=beq_eq_false_iff_ne.mpr h;simp only [List.lookup,hb,if_neg h]
 | (k,x) :: r=>by
  have ih:=zAg f g v r;rw [show putF f v ((k,x) :: r)=(if k=f then (k,v) :: r else (k,x) :: putF f v r) from rfl];by_cases hk:k=f
  ·rw [if_pos hk];by_cases h:g=k
   ·have hb:(g == k)=true:=beq_iff_eq.mpr h;simp only [List.lookup,hb,if_pos (h.trans hk)]
   ·have hb:(g == k)=false:=beq_eq_false_iff_ne.mpr h;simp only [List.lookup,hb,if_neg (fun e:g=f=>h (e.trans hk.symm))]
  ·rw [if_neg hk];by_cases h:g=k
   ·have hb:(g == k)=true:=beq_iff_eq.mpr h;simp only [List.lookup,hb,if_neg (fun e:g=f=>hk (h.symm.trans e))]
   ·have hb:(g == k)=false:=beq_eq_false_iff_ne.mpr h;simp only [List.lookup,hb];exact ih
theorem zCj (f:Str) (v:V):∀ fs:List (Str×V),f∈(putF f v fs).map (·.1)∧∀ g,g∈fs.map (·.1)→g∈(putF f v fs).map (·.1)
 | []=>⟨by simp [putF],fun g h=>by simp at h⟩
 | (k,x) :: r=>by
  obtain ⟨i1,i2⟩:=zCj f v r;rw [show putF f v ((k,x) :: r)=(if k=f then (k,v) :: r else (k,x) :: putF f v r) from rfl];by_cases hk:k=f
  ·rw [if_pos hk];subst hk;exact ⟨by simp,fun g h=>by simpa using h⟩
  ·rw [if_neg hk];refine ⟨?_,fun g h=>?_⟩
   ·rw [Zq];exact Z9 _ i1
   ·rw [Zq] at h ⊢;rcases List.mem_cons.mp h with e | e
    ·exact List.mem_cons.mpr (.inl e)
    ·exact Z9 _ (i2 g e)
theorem zCi (f:Str) (v:V):∀ fs:List (Str×V),(putF f v fs).length≤fs.length + 1
 | []=>by simp [putF]
 | (k,x) :: r=>by
  have ih:=zCi f v r;rw [show putF f v ((k,x) :: r)=(if k=f then (k,v) :: r else (k,x) :: putF f v r) from rfl];by_cases hk:k=f
  ·rw [if_pos hk,Z7,Z7];omega
  ·rw [if_neg hk,Z7,Z7];omega
theorem RelO.some_of {v:V}{o:Option Value} (r:RelO (some v) o):∃ u,o=some u∧RelV v u:=by
 cases o with
 | none=>exact (show False from r).elim
 | some u=>exact ⟨u,rfl,r⟩
theorem handed_of {v:V}{u:Value} (r:RelV v u):PySem.W.handedIn u=true:=by
 cases v with
 | non=>cases (show u=Value.none from r);rfl
 | bl b=>cases (show u=Value.bool b from r);rfl
 | int i=>obtain ⟨t,e⟩:=(show ∃ t,u=Value.int i t from r);cases e;rfl
 | str x=>obtain ⟨t,e⟩:=(show ∃ t,u=Value.str x t from r);cases e;rfl
 | byt b=>obtain ⟨t,e⟩:=(show ∃ t,u=Value.bytes b t from r);cases e;rfl
 | flt b=>obtain ⟨t,e⟩:=(show ∃ t,u=Value.float b t from r);cases e;rfl
 | ref a=>cases (show u=Value.ref a from r);rfl
 | ty n=>cases (show u=Value.type n from r);rfl
section
variable {P:Program}{w:World}{H H':Hp}{h h':Heap}{a C dx:Addr}{fs fs':List (Str×V)}
theorem ins_get (hok:HOk P w H h) (e:H a=some (.ins C dx fs)):∃ mA,ObjM h a dx C mA∧(∀ f,RelO (fs.lookup f) (mA f))∧PySem.Within mA (fs.map (·.1))∧fs.length≤1000∧H dx=some (.own a):=by
 obtain ⟨d,z,ne,ob,mA,n,r,q⟩:=(show ObjOk P w H h a (.ins C dx fs) from hok a _ e);exact ⟨mA,⟨ob,n,ne⟩,r,q,z,d⟩
end
structure Cls (K:PySem.W.Frag) (C:Addr):Prop where
 pg:PySem.W.plainGet K C Str.empty=true
 hd:PySem.W.hasDictIn K C=true
 po:PySem.W.plainOver K C=true
 sa:PySem.W.findIn K (.ref C) "__setattr__" = some (some (.builtin "object.__setattr__"))
theorem Cls.get {K:PySem.W.Frag}{C:Addr} (c:Cls K C) (f:Str):PySem.W.plainGet K C f=true:=c.pg
noncomputable def NoAttr (K:PySem.W.Frag) (C:Addr) (f:Str):Prop:=PySem.W.findIn K (.ref C) f=some none
theorem NoAttr.taker {K:PySem.W.Frag}{C:Addr}{f:Str} (n:NoAttr K C f):PySem.W.takerIn K C f=some none:=by
 unfold PySem.W.takerIn;rw [show PySem.W.findIn K (.ref C) f=some none from n];rfl
section
variable {X:Cx}{pins:List (Addr×Obj)}{σ : St}{H:Hp}{s:Shared}{a C dx:Addr}{fs:List (Str×V)}{f:Str}{v:V}{A:Around}{E:Value→Shared→Prop}
theorem getattr_ok {b:Bool}{Q:Value→Shared→Prop} (I:Inv X pins σ H s) (e:H a=some (.ins C dx fs)) (c:Cls X.K C) (n:NoAttr X.K C f) (l:fs.lookup f=some v)
  (h:∀ u s',Inv X pins σ H s'→RelV v u→Q u s'):wpAny (model X.prog X.w) A (getAttr (.ref a) f b) Q E s:=by
 obtain ⟨mA,O,r,_,_,_⟩:=ins_get I.hok e;obtain ⟨u,hu,ru⟩:=RelO.some_of (v:=v) (o:=mA f) (by rw [← l];exact r f);exact get_map I.kIn O (c.get f) c.hd n hu (handed_of ru) (h u _ (I.tok _) ru)
theorem setattr_ok {y:V}{u:Value}{Q:Unit→Shared→Prop} (I:Inv X pins σ H s) (e:H a=some (.ins C dx fs)) (c:Cls X.K C) (n:NoAttr X.K C f) (hl:fs.length < 1000) (ry:RelV y u)
  (h:∀ s',Inv X pins σ (upd H a (.ins C dx (putF f y fs))) s'→Q () s'):wpAny (model X.prog X.w) A (setAttr (.ref a) f u) Q E s:=by
 obtain ⟨mA,O,r,wi,_,ho⟩:=ins_get I.hok e;have hz:(fs.map (·.1)).length≤sizeLine:=by rw [Ze,sizeLine_eq];omega
 refine set_map I.kIn O c.sa c.po n.taker c.hd wi hz fun h' O' sb=>h _ ?_;have hd:∃ o,h'.get? dx=some o:=let ⟨o,_,_,e',_⟩:=O'.ns;⟨o,e'⟩;refine I.write (x:=a) (e:=dx) (by rw [e];exact True.intro) (.inr ho) (fun b q hb z=>(sb.2 b hb).trans z) hd ?_;refine ⟨by rw [zAa O.ne];exact ho,?_,O.ne,O'.obj,_,O'.ns,fun g=>?_,fun g hg=>?_⟩
 ·have:=zCi f y fs;omega
 ·show RelO ((putF f y fs).lookup g) (if g=f then some u else mA g);rw [zAg];by_cases q:g=f
  ·rw [if_pos q,if_pos q];exact ry
  ·rw [if_neg q,if_neg q];exact r g
 ·by_cases q:g=f
  ·rw [q];exact (zCj f y fs).1
  ·refine (zCj f y fs).2 g (wi g fun z=>hg ?_);show (if g=f then some u else mA g)=none;rw [if_neg q];exact z
theorem Inv.made (I:Inv X pins σ H s):Inv X pins σ (upd (upd H s.heap.objs.size (.own (s.heap.objs.size + 1))) (s.heap.objs.size + 1) (.ins C s.heap.objs.size []))
  { s with heap:=(s.heap.push PySem.W.emptyDict).push (PySem.W.instObj C s.heap.objs.size) }:=by
 have e1:(s.heap.push PySem.W.emptyDict).get? s.heap.objs.size=some PySem.W.emptyDict:=Z8 s.heap rfl;have e2:((s.heap.push PySem.W.emptyDict).push (PySem.W.instObj C s.heap.objs.size)).get? (s.heap.objs.size + 1)=some (PySem.W.instObj C s.heap.objs.size):=by
  have:=Z8 (s.heap.push PySem.W.emptyDict) (o:=PySem.W.instObj C s.heap.objs.size) rfl
  rwa [Zz] at this
 have e3:(s.heap.push PySem.W.emptyDict).Ns s.heap.objs.size (fun _=>none):=⟨PySem.W.emptyDict,#[],_,e1,rfl,(fun e he=>absurd he (by simp)),fun _=>rfl⟩;have I1:=I.laid (a:=s.heap.objs.size) (o:=.own (s.heap.objs.size + 1)) (h':=s.heap.push PySem.W.emptyDict) (t':=s.toks) (fun b u q=>Z0 _ q) (Z5 _) ⟨_,e1⟩;refine I1.laid (a:=s.heap.objs.size + 1) (o:=.ins C s.heap.objs.size []) (t':=s.toks) (fun b u q=>Z0 _ q) (Nat.le_of_eq (Zz _ _)) ?_;have ne:s.heap.objs.size≠s.heap.objs.size + 1:=Z6 (Zp _);refine ⟨by rw [zAa ne,zA1],Zs _,ne,e2,fun _=>none,(Heap.Ns1.of_empty e3).at fun o q=>Z0 _ q,fun _=>True.intro,fun y hy=>absurd rfl hy⟩
theorem attr_of {prog:Program}{w:World}{env:Env}{e:Expr}{f:Str}{pos:Pos}{s:Shared}{Q:Value→Shared→Prop} (hb:attributeBase e f env (eval e env)=eval e env)
  (h:wpAny (model prog w) A (eval e env) (fun o s₁=>wpAny (model prog w) A (getAttr o f true) Q E s₁) E s):wpAny (model prog w) A (eval (.Attribute e f pos) env) Q E s :=
 Attribute_any_ h (by rw [arm_eval_Attribute,hb])
end
noncomputable def tFld (K:PySem.W.Frag) (ta:TE) (f:Str):TE:=fun σ H Q=>ta σ H fun x H1=>∃ a C dx fs v,x=.ref a∧H1 a=some (.ins C dx fs)∧Cls K C∧NoAttr K C f∧fs.lookup f=some v∧Q v H1
noncomputable def sFld (K:PySem.W.Frag) (ta tv:TE) (f:Str):TS:=fun D σ H=>tv σ H fun y H1=>ta σ H1 fun x H2=>∃ a C dx fs,x=.ref a∧H2 a=some (.ins C dx fs)∧Cls K C∧NoAttr K C f∧fs.length < 1000 ∧
 D.nx σ (upd H2 a (.ins C dx (putF f y fs)))
section
variable {X:Cx}{o e value:Expr}{f:Str}{pos pos' tpos:Pos}{ta tv:TE}
theorem zAo (he:PE X e ta) (hb:attributeBase e f X.env (eval e X.env)=eval e X.env):PE X (.Attribute e f pos) (tFld X.K ta f):=by
 intro pins s σ H Q I h;refine attr_of hb (thn (he pins s σ H _ I h) fun u s1 ⟨x,H1,I1,rx,a,C,dx,fs,v,ex,ea,c,n,l,q⟩=>?_);subst ex;obtain rfl:u=Value.ref a:=rx;exact getattr_ok I1 ea c n l fun u' s2 I2 ru=>⟨v,H1,I2,ru,q⟩
theorem zB3 (ha:PE X o ta) (hv:PE X value tv) (hs:swapsWith value (some (.Attribute o f pos')) pos.line X.env=pure false):PS X (.Assign [.Attribute o f pos'] value pos) (sFld X.K ta tv f):=by
 intro pins s σ H D I h;refine plainObj_wpAny_Assign_Attribute (thn (hv pins s σ H _ I h) fun u s1 ⟨y,H1,I1,ry,q⟩=>thn (ha pins s1 σ H1 _ I1 q) fun ov s2 ⟨x,H2,I2,rx,a,C,dx,fs,ex,ea,c,n,l,q2⟩=>?_) hs;subst ex;obtain rfl:ov=Value.ref a:=rx;exact setattr_ok I2 ea c n l ry fun s3 I3=>⟨σ,_,I3,q2⟩
end
section
variable {X:Cx}{pins:List (Addr×Obj)}{σ : St}{H:Hp}{s:Shared}{A:Around}{E:Value→Shared→Prop}{Q:Value→Shared→Prop}{c:Value}{b:Bool}
inductive TyOf (K:PySem.W.Frag) (H:Hp):V→Value→Prop where
 | non:TyOf K H .non (.type "NoneType")
 | bl (x:Bool):TyOf K H (.bl x) (.type "bool")
 | int (i:Int):TyOf K H (.int i) (.type "int")
 | str (x:Str):TyOf K H (.str x) (.type "str")
 | flt (x:UInt64):TyOf K H (.flt x) (.type "float")
 | lst {a:Addr}{xs:List V} (e:H a=some (.lst xs)):TyOf K H (.ref a) (.type "list")
 | frz {a:Addr}{o:Obj}{xs:List V} (e:H a=some (.frz o (.lst xs))):TyOf K H (.ref a) (.type "list")
 | tup {a:Addr}{xs:List V} (e:H a=some (.tup xs)):TyOf K H (.ref a) (.type "tuple")
 | dK {a:Addr}{kvs:List (Key×V)} (e:H a=some (.dK kvs)):TyOf K H (.ref a) (.type "dict")
 | dT {a:Addr}{kvs:List (List Key×V)} (e:H a=some (.dT kvs)):TyOf K H (.ref a) (.type "dict")
 | ins {a C dx:Addr}{fs:List (Str×V)} (e:H a=some (.ins C dx fs)) (cl:Cls K C) (ha:PySem.W.findIn K (.ref C) "__class__" = some (some (.builtin "object.__class__")))
   (hn:PySem.W.specialIn K (.builtin "object.__class__") "__get__" = some (some (.builtin "getset_descriptor.__get__"))) (htk:PySem.W.takesIn K (.builtin "object.__class__")=some true)
   (hm:PySem.W.mroIn K C (.type "object")=some true):TyOf K H (.ref a) (.ref C)
theorem isinst_ok {x:V}{u t:Value} (I:Inv X pins σ H s) (rx:RelV x u) (ty:TyOf X.K H x t) (e:PySem.W.kitOne X.K t c=some b) (h:∀ tk,Q (.bool b) { s with toks:=tk }) :
  wpAny (model X.prog X.w) A (call (.builtin "isinstance") [u,c]) Q E s:=by
 cases ty with
 | non=>cases (show u=Value.none from rx);exact PySem.W.kia_one PySem.W.kitx_none I.kIn True.intro e (fun z=>nomatch z) h
 | bl y=>cases (show u=Value.bool y from rx);exact PySem.W.kia_one PySem.W.kitx_bool I.kIn True.intro e (fun z=>nomatch z) h
 | int i=>obtain ⟨t,q⟩:=(show ∃ t,u=Value.int i t from rx);cases q;exact PySem.W.kia_one PySem.W.kitx_int I.kIn True.intro e (fun z=>nomatch z) h
 | str y=>obtain ⟨t,q⟩:=(show ∃ t,u=Value.str y t from rx);cases q;exact PySem.W.kia_one PySem.W.kitx_str I.kIn True.intro e (fun z=>nomatch z) h
 | flt y=>obtain ⟨t,q⟩:=(show ∃ t,u=Value.float y t from rx);cases q;exact PySem.W.kia_one PySem.W.kitx_float I.kIn True.intro e (fun z=>nomatch z) h
 | @lst a xs ea =>
  cases (show u=Value.ref a from rx);obtain ⟨_,_,n,_,h1⟩:=(show ObjOk X.prog X.w H s.heap a (.lst xs) from I.hok a _ ea);exact PySem.W.kia_one PySem.W.kitx_list I.kIn ⟨_,h1,rfl⟩ e (fun z=>nomatch z) h
 | @frz a ob xs ea =>
  cases (show u=Value.ref a from rx);obtain ⟨_,_,_,n,_,h1⟩:=(show ObjOk X.prog X.w H s.heap a (.frz ob (.lst xs)) from I.hok a _ ea);exact PySem.W.kia_one PySem.W.kitx_list I.kIn ⟨_,h1,rfl⟩ e (fun z=>nomatch z) h
 | @tup a xs ea =>
  cases (show u=Value.ref a from rx);obtain ⟨_,_,_,p⟩:=(show ObjOk X.prog X.w H s.heap a (.tup xs) from I.hok a _ ea);obtain ⟨o,h1,h2,_⟩:=p;exact PySem.W.kia_one PySem.W.kitx_tuple I.kIn ⟨o,h1,h2⟩ e (fun z=>nomatch z) h
 | @dK a kvs ea =>
  cases (show u=Value.ref a from rx);obtain ⟨_,_,vs,_,p⟩:=(show ObjOk X.prog X.w H s.heap a (.dK kvs) from I.hok a _ ea);obtain ⟨o,es,ep,h1,h2,_⟩:=p;exact PySem.W.kia_one PySem.W.kitx_dict I.kIn ⟨o,h1,h2.1⟩ e (fun z=>nomatch z) h
 | @dT a kvs ea =>
  cases (show u=Value.ref a from rx);obtain ⟨_,_,xs,_,o,es,ep,h1,h2,_⟩:=(show ObjOk X.prog X.w H s.heap a (.dT kvs) from I.hok a _ ea);exact PySem.W.kia_one PySem.W.kitx_dict I.kIn ⟨o,h1,h2.1⟩ e (fun z=>nomatch z) h
 | @ins a C dx fs ea cl ha hn htk hm =>
  cases (show u=Value.ref a from rx);obtain ⟨mA,O,_⟩:=ins_get I.hok ea;obtain ⟨od,J,_⟩:=O.look;exact PySem.W.kia_one (PySem.W.kitx_own (cl.get _) cl.hd ha hn htk hm) I.kIn J e (fun z=>nomatch z) h
end
end L2
namespace L2
open PySem PySem.Spec PyProof.Rows
structure RoomQ (q:Bool) (k:Nat) (A:Around):Prop where
 hd:q=true→A.handled=none
 dp:A.depth + 3 * k + 5 < recursionLimit
 un:A.units + 16 * k + 200 < cLine
noncomputable abbrev Room:=RoomQ true
theorem RoomQ.mono {q:Bool}{j k:Nat}{A:Around} (r:RoomQ q k A) (h:j≤k):RoomQ q j A:=⟨r.hd,by have:=r.dp;omega,by have:=r.un;omega⟩
theorem RoomQ.deeper {q:Bool}{k:Nat}{A:Around} (r:RoomQ q (k + 1) A) (env:Env):RoomQ q k (A.deeper env) :=
 ⟨r.hd,by have:=r.dp;show A.depth + 1 + 3 * k + 5 < _;omega,by have:=r.un;show A.units + 3 + 16 * k + 200 < _;omega⟩
theorem make_depth {A:Around}{C:Addr}{us:List Value}{kw:List (Str×Value)}:(A.under (.builtin "type.__call__" ⟨.ref C :: us,kw⟩)).depth=A.depth + 1:=by
 first | rfl | simp [Around.under,Code.weight,Code.isCreation,Code.isGuard,Code.isCaller,Code.frames,Code.isFrame,guardIds]
theorem make_units {A:Around}{C:Addr}{us:List Value}{kw:List (Str×Value)}:(A.under (.builtin "type.__call__" ⟨.ref C :: us,kw⟩)).units=A.units + 1:=by
 first | rfl | simp [Around.under,Code.cUnits,Code.frames,Code.isFrame]
theorem RoomQ.make {q:Bool}{k:Nat}{A:Around} (r:RoomQ q (k + 1) A) (C:Addr) (us:List Value) (kw:List (Str×Value)):RoomQ q k (A.under (.builtin "type.__call__" ⟨.ref C :: us,kw⟩)) :=
 ⟨r.hd,by have:=r.dp;rw [make_depth];omega,by have:=r.un;rw [make_units];omega⟩
theorem RoomQ.depth {q:Bool}{k:Nat}{A:Around} (r:RoomQ q k A):A.depth < recursionLimit:=by have:=r.dp;omega
theorem RoomQ.units {q:Bool}{k:Nat}{A:Around} (r:RoomQ q k A):A.units + 64 < cLine:=by have:=r.un;omega
noncomputable def tNil:TA:=fun _ H Q=>Q [] H
noncomputable def tCons (ta:TE) (tr:TA):TA:=fun σ H Q=>ta σ H fun x H1=>tr σ H1 fun xs H2=>Q (x :: xs) H2
section
variable {X:Cx}{e:Expr}{es:List Expr}{te:TE}{t:TA}{pos:Pos}
theorem zA2:PA X [] tNil:=fun _ _ _ _ H Q I h=>Calls.spliced_nil ⟨[],H,I,.nil,h⟩
theorem zA0 (ha:PE X e te) (hr:PA X es t) (hs:starEach (e :: es) X.env=(false,eval e X.env) :: starEach es X.env:=by rfl):PA X (e :: es) (tCons te t):=by
 intro pos pins s σ H Q I h;rw [hs];show wpAny _ _ (spliced ((false,eval e X.env) :: backTo pos (starEach es X.env))) _ _ s;refine Calls.spliced_cons (thn (ha pins s σ H _ I h) fun u s1 ⟨x,H1,I1,r1,q1⟩=>?_);exact thn (hr pos pins s1 σ H1 _ I1 q1) fun us s2 ⟨xs,H2,I2,r2,q2⟩=>⟨x :: xs,H2,I2,.cons r1 r2,q2⟩
noncomputable def tTup (t:TA):TE:=fun σ H Q=>t σ H fun xs H1=>xs.length≤sizeLine∧∀ p,H1 p=none→Q (.ref p) (upd H1 p (.tup xs))
noncomputable def tLst (t:TA):TE:=fun σ H Q=>t σ H fun xs H1=>xs.length≤sizeLine∧∀ p,H1 p=none→Q (.ref p) (upd H1 p (.lst xs))
theorem zBc {x1} (h:PA X es t):PE X (.Tuple es x1 pos) (tTup t):=by
 intro pins s σ H Q I hq;refine wpAny_Tuple_spliced (thn (h pos pins s σ H _ I hq) fun us s1 ⟨xs,H1,I1,r,z,q⟩=>⟨by rw [← r.length];exact z,?_⟩);have hf:H1 s1.heap.objs.size=none:=I1.hok.fresh (Z5 _);refine ⟨.ref s1.heap.objs.size,upd H1 s1.heap.objs.size (.tup xs),I1.laid (t':=s1.toks) (fun b u e=>Z0 _ e) (Z5 _) ?_,rfl,q _ hf⟩;exact ⟨z,us,r,⟨_,Z8 _ rfl,rfl,_,rfl⟩⟩
theorem zA9 (h:PA X es t):PE X (.List es pos) (tLst t):=by
 intro pins s σ H Q I hq;refine wpAny_List_spliced (thn (h pos pins s σ H _ I hq) fun us s1 ⟨xs,H1,I1,r,z,q⟩=>⟨by rw [← r.length];exact z,?_⟩);have hf:H1 s1.heap.objs.size=none:=I1.hok.fresh (Z5 _);refine ⟨.ref s1.heap.objs.size,upd H1 s1.heap.objs.size (.lst xs),I1.laid (t':=s1.toks) (fun b u e=>Z0 _ e) (Z5 _) ?_,rfl,q _ hf⟩;exact ⟨z,us,0,r,Z8 _ rfl⟩
end
noncomputable abbrev Sp:=List V→Hp→VK→XK→Prop
noncomputable abbrev CXT:=List Env→Hp→Shared→XK→Value→Shared→Prop
structure Env0 (P:Program) (w:World) (K:PySem.W.Frag) (mg:Str→Option Value) (base:Heap) (A:Around) (outer:List Env) (s:Shared) (H:Hp):Prop where
 frames:A.frames=some outer
 mod:Mod K mg base
 bs:∀ b o,base.get? b=some o→s.heap.get? b=some o∧H b=none
 bsz:base.objs.size≤s.heap.objs.size
 funs:s.heap.FunFrames base outer
 frf:∀ b∈frs outer,H b=none
 hok:HOk P w H s.heap
 bare:AllBare s.gens
noncomputable def CE (outer:List Env) (P:Program) (w:World) (H:Hp) (s:Shared) (Q:VK) (u:Value) (s':Shared):Prop :=
 ∃ v H',s'.os=s.os∧AllBare s'.gens∧Un (frs outer) [] H H' s.heap s'.heap∧HOk P w H' s'.heap∧RelV v u∧Q v H'
noncomputable def CR (CX:CXT) (outer:List Env) (P:Program) (w:World) (H:Hp) (s:Shared) (Q:VK) (E:XK) (r:Result) (s':Shared):Prop :=
 match r with
 | .ok (.ret u)=>CE outer P w H s Q u s'
 | .ok _=>False
 | .error e=>CX outer H s E e s'
structure FnOkQ (q:Bool) (P:Program) (w:World) (K:PySem.W.Frag) (mg:Str→Option Value) (base:Heap) (CX:CXT) (k:Nat) (f:Addr) (fd:FuncData) (ps:List Str) (sp:Sp):Prop where
 len:∀ vs H Q E,sp vs H Q E→vs.length=ps.length
 run:∀ (A:Around) (outer:List Env) (s:Shared) (H:Hp) (args:Args) (us:List Value) (vs:List V) (Q:VK) (E:XK),RoomQ q k A→Env0 P w K mg base A outer s H→BindsTo s fd args (ps.zip us)→Vals vs us→sp vs H Q E →
  codeAny (model P w) A (.call (.ref f) args) (CR CX outer P w H s Q E) s
noncomputable abbrev FnOk:=FnOkQ true
theorem FnOk.imp {P:Program}{w:World}{K:PySem.W.Frag}{mg:Str→Option Value}{base:Heap}{CX:CXT}{k:Nat}{f:Addr}{fd:FuncData}{ps:List Str}{sp sp':Sp} (F:FnOk P w K mg base CX k f fd ps sp)
  (h:∀ vs H Q E,sp' vs H Q E→sp vs H Q E):FnOk P w K mg base CX k f fd ps sp' :=
 ⟨fun vs H Q E q=>F.len vs H Q E (h _ _ _ _ q),fun A outer s H args us vs Q E hr he hb hv hs=>F.run A outer s H args us vs Q E hr he hb hv (h _ _ _ _ hs)⟩
theorem Env0.make {P:Program}{w:World}{K:PySem.W.Frag}{mg:Str→Option Value}{base:Heap}{A:Around}{outer:List Env}{s:Shared}{H:Hp} (e:Env0 P w K mg base A outer s H) (C:Addr) (us:List Value) (kw:List (Str×Value)) :
  Env0 P w K mg base (A.under (.builtin "type.__call__" ⟨.ref C :: us,kw⟩)) outer s H:=⟨by first | exact e.frames | (simpa [Around.under,Code.envs,Code.isFrame,pushEnvs] using e.frames),e.mod,e.bs,e.bsz,e.funs,e.frf,e.hok,e.bare⟩
section
variable {X:Cx}{pins:List (Addr×Obj)}{σ : St}{H:Hp}{s s':Shared}
theorem Inv.env0 (I:Inv X pins σ H s):Env0 X.prog X.w X.K X.mg X.base X.A X.stack s H :=
 ⟨I.ok.frames,I.ok.mod,I.bs,Zg I.ok.bsz I.sz,I.stack,I.stkFree,I.hok,I.bare⟩
theorem Inv.after {Q:VK}{u:Value} (I:Inv X pins σ H s) (h:CE X.stack X.prog X.w H s Q u s'):EP X pins σ Q u s':=by
 obtain ⟨v,H',os,bare,un,hok,r,q⟩:=h;obtain ⟨hh,g,d,t,os'⟩:=s';obtain rfl:os'=s.os:=os;exact ⟨v,H',I.call (h':=hh) (g':=g) (d':=d) (t':=t) (ch:=[]) un hok bare (fun b z=>absurd z (by simp)),r,q⟩
end
noncomputable def tCall (sp:Sp) (dvs:List V) (E:St→XK) (t:TA):TE:=fun σ H Q=>t σ H fun vs H1=>sp (vs++dvs) H1 Q (E σ)
noncomputable def tMake (C:Addr) (sp:Sp) (dvs:List V) (E:St→XK) (t:TA):TE:=fun σ H Q=>t σ H fun vs H1=>∀ x dx,H1 x=none→H1 dx=none→dx≠x →
 sp (.ref x :: (vs++dvs)) (upd (upd H1 dx (.own x)) x (.ins C dx [])) (fun v H2=>v=.non∧Q (.ref x) H2) (E σ)
noncomputable def Binds (K:PySem.W.Frag) (fd:FuncData) (ps:List Str) (ds:List Value):Prop :=
 ∀ (s:Shared) (us:List Value),K.In s.heap→(us++ds).length=ps.length→BindsTo s fd ⟨us,[]⟩ (ps.zip (us++ds))
theorem Binds.all {K:PySem.W.Frag}{fd:FuncData}{ps:List Str} (h:∀ us:List Value,us.length=ps.length→bindArgs fd ⟨us,[]⟩=pure (ps.zip us)):Binds K fd ps []:=fun s us _ hl=>by
 rw [List.append_nil] at hl ⊢;exact .of_eq (h us hl)
noncomputable def Passes (CX:CXT) (X:Cx) (E:St→XK):Prop:=∀ (pins:List (Addr×Obj)) (σ : St) (H:Hp) (s:Shared) (e:Value) (s':Shared),Inv X pins σ H s→CX X.stack H s (E σ) e s'→X.xe e s'
section
variable {X:Cx}{CX:CXT}{k:Nat}{f C:Addr}{fd:FuncData}{ps:List Str}{sp:Sp}{dvs:List V}{ds:List Value}{E:St→XK}{x m:Str}{p pos apos:Pos}{e o:Expr}{es:List Expr}{ta:TE}{t:TA}
theorem run_fn {pins:List (Addr×Obj)}{σ : St}{H:Hp}{s:Shared}{Q:VK}{us:List Value}{vs:List V}{q:Bool} (F:FnOkQ q X.prog X.w X.K X.mg X.base CX k f fd ps sp) (hr:RoomQ q k X.A) (hb:Binds X.K fd ps ds) (hd:Vals dvs ds) (hx:Passes CX X E)
  (I:Inv X pins σ H s) (r:Vals vs us) (h:sp (vs++dvs) H Q (E σ)):wpAny (model X.prog X.w) X.A (call (.ref f) us) (EP X pins σ Q) X.xe s:=by
 have r2:Vals (vs++dvs) (us++ds):=r.append hd;have hl:(us++ds).length=ps.length:=by rw [← r2.length];exact F.len _ _ _ _ h
 refine wpAny_call (codeAny_mono (F.run X.A X.stack s H ⟨us,[]⟩ (us++ds) (vs++dvs) Q (E σ) hr I.env0 (hb s us I.kIn hl) r2 h) fun r s' hq=>?_);cases r with
 | error e=>exact hx pins σ H s e s' I hq
 | ok fl =>
  cases fl with
  | ret u=>exact I.after hq
  | next=>exact False.elim hq
  | brk=>exact False.elim hq
  | cont=>exact False.elim hq
theorem zAd {q:Bool} (F:FnOkQ q X.prog X.w X.K X.mg X.base CX k f fd ps sp) (hr:RoomQ q k X.A) (hg:Gl X x) (hm:X.mg x=some (.ref f)) (hk:PySem.W.keepIn X.K (.ref f)=true) (hb:Binds X.K fd ps ds) (hd:Vals dvs ds) (hx:Passes CX X E)
  (ha:PA X (e :: es) t) (hdb:(x == ("__debug__" : Str))=false:=by decide) (he:starEach (e :: es) X.env=(false,eval e X.env) :: starEach es X.env:=by rfl) (hpl:(backTo pos (starEach es X.env)).any (·.1)=false:=by rfl) :
  PE X (.Call (.Name x p) (e :: es) [] pos) (tCall sp dvs E t):=by
 intro pins s σ H Q I h;refine wpAny_Call_Name_kw (zBl I hg hm ?_ hdb);refine PySem.W.callWith_K (h₀:=X.base) I.ok.mod.kin hk (thn (ha pos pins s σ H _ I h) fun us s1 ⟨vs,H1,I1,r,q⟩=>⟨I1.kIn,?_⟩) he hpl;exact run_fn F hr hb hd hx I1 r q
theorem zCy (F:FnOk X.prog X.w X.K X.mg X.base CX k f fd ps sp) (hr:Room k X.A) (hg:Gl X x) (hm:X.mg x=some (.ref f)) (hk:PySem.W.keepIn X.K (.ref f)=true) (hb:Binds X.K fd ps ds) (hd:Vals dvs ds) (hx:Passes CX X E)
  (hdb:(x == ("__debug__" : Str))=false:=by decide):PE X (.Call (.Name x p) [] [] pos) (tCall sp dvs E tNil):=by
 intro pins s σ H Q I h;refine wpAny_Call_Name_kw (zBl I hg hm ?_ hdb);exact PySem.W.callWith_K0 I.kIn hk (run_fn (us:=[]) F hr hb hd hx I .nil h)
structure Mk (K:PySem.W.Frag) (C f:Addr):Prop where
 makes:PySem.W.makesIn K C=true
 init:PySem.W.findIn K (.ref C) "__init__" = some (some (.ref f))
 fn:PySem.W.isFn K (.ref f)=true
 kp:PySem.W.keepIn K (.ref C)=true
theorem run_make {pins:List (Addr×Obj)}{σ : St}{H:Hp}{s:Shared}{Q:VK}{us:List Value}{vs:List V} (M:Mk X.K C f) (F:FnOk X.prog X.w X.K X.mg X.base CX k f fd ps sp) (hr:Room (k + 1) X.A) (hb:Binds X.K fd ps ds) (hd:Vals dvs ds)
  (hx:Passes CX X E) (I:Inv X pins σ H s) (r:Vals vs us)
  (h:∀ x dx,H x=none→H dx=none→dx≠x→sp (.ref x :: (vs++dvs)) (upd (upd H dx (.own x)) x (.ins C dx [])) (fun v H2=>v=.non∧Q (.ref x) H2) (E σ)) :
  wpAny (model X.prog X.w) X.A (call (.ref C) us) (EP X pins σ Q) X.xe s:=by
 have hq:=h (s.heap.objs.size + 1) s.heap.objs.size (I.hok.fresh (Nat.le_succ _)) (I.hok.fresh (Z5 _)) (Z6 (Zp _));have I2:=Inv.made (C:=C) I;have r2:Vals (V.ref (s.heap.objs.size + 1) :: (vs++dvs)) (Value.ref (s.heap.objs.size + 1) :: (us++ds)):=.cons rfl (r.append hd);have hl:(Value.ref (s.heap.objs.size + 1) :: us++ds).length=ps.length:=by
  have e:=r2.length;rw [F.len _ _ _ _ hq] at e;exact e.symm
 refine wpAny_call (make_map (f:=f) I.kIn M.makes M.init (beq_iff_eq.mp M.fn) (codeAny_mono (F.run _ X.stack _ _ ⟨Value.ref (s.heap.objs.size + 1) :: us,[]⟩ (Value.ref (s.heap.objs.size + 1) :: (us++ds)) _ _ (E σ) (hr.make C us [])
  (I2.env0.make C us []) (hb _ (Value.ref (s.heap.objs.size + 1) :: us) I2.kIn hl) r2 hq) fun r s' hq'=>?_))
 cases r with
 | error e=>exact hx pins σ _ _ e s' I2 hq'
 | ok fl =>
  cases fl with
  | ret u =>
   obtain ⟨v,H',I3,rv,ev,q3⟩:=I2.after hq';subst ev;exact ⟨rv,⟨V.ref (s.heap.objs.size + 1),H',I3,rfl,q3⟩⟩
  | next=>exact False.elim hq'
  | brk=>exact False.elim hq'
  | cont=>exact False.elim hq'
theorem zAx (M:Mk X.K C f) (F:FnOk X.prog X.w X.K X.mg X.base CX k f fd ps sp) (hr:Room (k + 1) X.A) (hg:Gl X x) (hm:X.mg x=some (.ref C)) (hb:Binds X.K fd ps ds) (hd:Vals dvs ds) (hx:Passes CX X E)
  (ha:PA X (e :: es) t) (hdb:(x == ("__debug__" : Str))=false:=by decide) (he:starEach (e :: es) X.env=(false,eval e X.env) :: starEach es X.env:=by rfl) (hpl:(backTo pos (starEach es X.env)).any (·.1)=false:=by rfl) :
  PE X (.Call (.Name x p) (e :: es) [] pos) (tMake C sp dvs E t):=by
 intro pins s σ H Q I h;refine wpAny_Call_Name_kw (zBl I hg hm ?_ hdb);refine PySem.W.callWith_K (h₀:=X.base) I.ok.mod.kin M.kp (thn (ha pos pins s σ H _ I h) fun us s1 ⟨vs,H1,I1,r,q⟩=>⟨I1.kIn,?_⟩) he hpl;exact run_make M F hr hb hd hx I1 r q
end
noncomputable def PK (X:Cx) (kws:List Keyword) (t:TA):Prop :=
 ∀ (pos:Pos) (pins:List (Addr×Obj)) (s:Shared) (σ : St) (H:Hp) (Q:List V→Hp→Prop),Inv X pins σ H s→t σ H Q→wpAny (model X.prog X.w) X.A (evalAll ((backToKw pos (keywordEach kws X.env)).map (·.2))) (AP X pins σ Q) X.xe s
section
variable {X:Cx}{CX:CXT}{k:Nat}{f C:Addr}{fd:FuncData}{ps ks:List Str}{sp:Sp}{E:St→XK}{x m:Str}{p pos apos kpos:Pos}{e o:Expr}{es:List Expr}{kws:List Keyword}{te ta:TE}{t tk:TA}{nm:Option Str}
theorem zBp:PK X [] tNil:=fun _ _ _ _ H Q I h=>wpAny_evalAll_nil ⟨[],H,I,.nil,h⟩
theorem zAu (ha:PE X e te) (hr:PK X kws t):PK X (⟨nm,e,kpos⟩ :: kws) (tCons te t):=by
 intro pos pins s σ H Q I h;show wpAny _ _ (evalAll ((do let v ← eval e X.env;standAt pos;pure v) :: (backToKw pos (keywordEach kws X.env)).map (·.2))) _ _ s;refine wpAny_evalAll_cons (wpAny_bind (thn (ha pins s σ H _ I h) fun u s1 ⟨x,H1,I1,r1,q1⟩=>wpAny_bind (wpAny_standAt (wpAny_pure ?_))));exact thn (hr pos pins s1 σ H1 _ I1 q1) fun us s2 ⟨xs,H2,I2,r2,q2⟩=>⟨x :: xs,H2,I2,.cons r1 r2,q2⟩
structure KBinds (K:PySem.W.Frag) (fd:FuncData) (ps ks:List Str) (g:List Value→List Value→List Value) (gV:List V→List V→List V):Prop where
 to:∀ (s:Shared) (us ws:List Value),K.In s.heap→(g us ws).length=ps.length→BindsTo s fd ⟨us,ks.zip ws⟩ (ps.zip (g us ws))
 rel:∀ {vs:List V}{us:List Value}{zs:List V}{ws:List Value},Vals vs us→Vals zs ws→Vals (gV vs zs) (g us ws)
variable {g:List Value→List Value→List Value}{gV:List V→List V→List V}
end
structure FnScope (N P:List Str) (sc:Scope):Prop where
 kind:sc.kind=.function
 co:sc.isCoroutine=false
 gen:sc.isGenerator=false
 nd:N.Nodup
 pre:N.take P.length=P
 par:∀ x∈P,sc.names.lookup x=some .local∨sc.names.lookup x=some .cell
 nofree:∀ y∈sc.names,y.2≠.free
theorem bindL_out {kindOf:Str→Option NameKind}{x:Str}:∀ {binds:List (Str×Value)}{m:Str→Option Value},(∀ v,(x,v)∉binds)→bindL kindOf binds m x=m x
 | [],_,_=>rfl
 | (n,v) :: r,m,h=>by
  unfold bindL;rw [bindL_out fun w hw=>h w (Z9 _ hw)];split
  ·have:x≠n:=by rintro rfl;exact h v Zj
   simp [this]
  ·rfl
theorem bindC_out {kindOf:Str→Option NameKind}{x:Str}:∀ {binds:List (Str×Value)}{m:Str→Option Value},(∀ v,(x,v)∉binds)→bindC kindOf binds m x=m x
 | [],_,_=>rfl
 | (n,v) :: r,m,h=>by
  unfold bindC;rw [bindC_out fun w hw=>h w (Z9 _ hw)];split
  ·rfl
  ·have:x≠n:=by rintro rfl;exact h v Zj
   simp [this]
theorem bindL_get {kindOf:Str→Option NameKind}{x:Str}{v:Value}:∀ {P:List Str}{vs:List Value}{i:Nat}{m:Str→Option Value},P.Nodup→P[i]? = some x→vs[i]? = some v→kindOf x=some .local →
  bindL kindOf (P.zip vs) m x=some v
 | [],_,_,_,_,h,_,_=>by simp at h
 | _ :: _,[],_,_,_,_,h,_=>by simp at h
 | p :: P,w :: vs,0,m,nd,h1,h2,hk=>by
  simp at h1 h2;subst h1;subst h2;show bindL kindOf ((p,w) :: P.zip vs) m p=_;unfold bindL;rw [bindL_out fun v hv=>(List.nodup_cons.mp nd).1 (List.of_mem_zip hv).1,if_pos hk];simp
 | p :: P,w :: vs,i + 1,m,nd,h1,h2,hk=>by
  show bindL kindOf ((p,w) :: P.zip vs) m x=_;unfold bindL;exact bindL_get (i:=i) (List.nodup_cons.mp nd).2 (by simpa using h1) (by simpa using h2) hk
theorem bindC_get {kindOf:Str→Option NameKind}{x:Str}{v:Value}:∀ {P:List Str}{vs:List Value}{i:Nat}{m:Str→Option Value},P.Nodup→P[i]? = some x→vs[i]? = some v→kindOf x≠some .local →
  bindC kindOf (P.zip vs) m x=some v
 | [],_,_,_,_,h,_,_=>by simp at h
 | _ :: _,[],_,_,_,_,h,_=>by simp at h
 | p :: P,w :: vs,0,m,nd,h1,h2,hk=>by
  simp at h1 h2;subst h1;subst h2;show bindC kindOf ((p,w) :: P.zip vs) m p=_;unfold bindC;rw [bindC_out fun v hv=>(List.nodup_cons.mp nd).1 (List.of_mem_zip hv).1,if_neg hk];simp
 | p :: P,w :: vs,i + 1,m,nd,h1,h2,hk=>by
  show bindC kindOf ((p,w) :: P.zip vs) m x=_;unfold bindC;exact bindC_get (i:=i) (List.nodup_cons.mp nd).2 (by simpa using h1) (by simpa using h2) hk
noncomputable def start (N:List Str) (vs:List V):St:=vs.map some++List.replicate (N.length - vs.length) none
noncomputable def cxOfC (q:Bool) (CX:CXT) (P:Program) (w:World) (K:PySem.W.Frag) (mg:Str→Option Value) (base:Heap) (N:List Str) (qual:Str) (scope:Scope) (f:Addr) (cd:Value) (A:Around) (outer:List Env) (s:Shared) (H:Hp) (E:XK):Cx where
 prog:=P
 w:=w
 K:=K
 mg:=mg
 base:=base
 A:=A.deeper (envOfC qual scope s.heap.objs.size f cd)
 N:=N
 s₀:=s
 H₀:=H
 env:=envOfC qual scope s.heap.objs.size f cd
 outer:=outer
 stack:=envOfC qual scope s.heap.objs.size f cd :: outer
 ex:=[]
 calm:=q
 fn:=fun _=>true
 pn:=[]
 xe:=fun e s'=>wpAny (model P w) (A.deeper (envOfC qual scope s.heap.objs.size f cd)) (leaving (envOfC qual scope s.heap.objs.size f cd) e) (fun _ s''=>CX outer H s E e s'') (fun e' s''=>CX outer H s E e' s'') s'
noncomputable abbrev cxOf:=cxOfC true
theorem cell_has {sc:Scope}{n:Nat}{x:Str} (h:sc.names.lookup x=some .cell):∃ c,(cellsFrom n sc.names []).lookup x=some c:=by
 have q:=PySem.W.cellsFrom_some sc.names n [] (.inl h);exact Option.isSome_iff_exists.mp q
theorem inv_start {q:Bool}{CX:CXT}{P:Program}{w:World}{K:PySem.W.Frag}{mg:Str→Option Value}{base:Heap}{N ps:List Str}{qual:Str}{scope:Scope}{f:Addr}{cd:Value}{A:Around}{outer:List Env}{s s1:Shared}{H:Hp}{E:XK}{us:List Value}{vs:List V}
  (S:FnScope N ps scope) (hd:q=true→A.handled=none) (e0:Env0 P w K mg base A outer s H) (hl:vs.length=ps.length) (r:Vals vs us)
  (x:InCallC s s.heap.objs.size (bindL (envOfC qual scope s.heap.objs.size f cd).kindOf (ps.zip us) fun _=>none) (cellsFrom (s.heap.objs.size + 1) scope.names []) (bindC (envOfC qual scope s.heap.objs.size f cd).kindOf (ps.zip us) fun _=>none) s1) :
  Inv (cxOfC q CX P w K mg base N qual scope f cd A outer s H E) [] (start N vs) H s1:=by
 have hpl:ps.length≤N.length:=by have:=congrArg List.length S.pre;rw [List.length_take] at this;omega
 obtain ⟨h1,tk,rfl,hk⟩:=x.done;have noA:∀ b:Addr,b∉(cxOfC q CX P w K mg base N qual scope f cd A outer s H E).ex:=fun b z=>absurd (show b∈([]:List Addr) from z) (by simp)
 refine ⟨⟨e0.mod,S.kind,rfl,rfl,Z5 _,fun y z c h1 h2=>?_,fun y hy=>?_,fun y c _ h=>?_,hd,Around.frames_deeper e0.frames,.inr ⟨rfl,rfl⟩,fun b z=>absurd z (noA b),e0.bs,e0.bsz,fun b _ _=>noA b,fun b z=>absurd z (noA b),e0.funs,e0.frf⟩,
  rfl,e0.bare,Un.kept hk,⟨_,x.toInCall.ns,fun i y v h1 h2 h3=>?_⟩,fun y c h=>⟨_,x.cell y c h⟩,e0.hok.fresh (Z5 _),fun y c h=>?_,fun p hp=>absurd (show p∈([]:List (Addr×Obj)) from hp) (by simp),e0.hok.kept hk,?_⟩
 ·exact name_of_addr x.apart (PySem.mem_of_lookup h1) (PySem.mem_of_lookup h2)
 ·have hy:scope.names.lookup y=some .cell∨scope.names.lookup y=some .free:=hy;rcases hy with hy | hy
  ·exact cell_has hy
  ·exact absurd rfl (S.nofree _ (PySem.mem_of_lookup hy))
 ·exact Za (x.above y c (PySem.mem_of_lookup h))
 ·have hi:i < vs.length:=by
   unfold start at h2;by_cases hi:i < vs.length
   ·exact hi
   ·rw [Zt (by simpa using hi)] at h2;rw [List.getElem?_replicate] at h2;split at h2 <;> cases h2
  have ha:vs[i]? = some v:=by
   unfold start at h2;rw [Zi (by simpa using hi),List.getElem?_map] at h2;cases e:vs[i]? with
   | none=>rw [e] at h2;cases h2
   | some a=>rw [e] at h2;cases h2;rfl
  obtain ⟨u,hu,rv⟩:=r.get ha;have hp:ps[i]? = some y:=by
   rw [← S.pre,List.getElem?_take_of_lt (by omega)];exact h1
  have ndP:ps.Nodup:=by rw [← S.pre];exact S.nd.sublist (List.take_sublist _ _)
  refine ⟨u,rv,?_⟩;rcases S.par y (List.mem_of_getElem? hp) with k | k
  ·exact .inl ⟨k,bindL_get ndP hp hu k⟩
  ·obtain ⟨c,e⟩:=cell_has (n:=s.heap.objs.size + 1) k;refine .inr ⟨.inl k,c,e,?_⟩;have q:=x.cell y c e;rw [bindC_get ndP hp hu (by show scope.names.lookup y≠_;rw [k];decide)] at q;exact q
 ·exact e0.hok.fresh (Za (x.above y c (PySem.mem_of_lookup h)))
 ·unfold start;show _=N.length;rw [Zc,Ze,List.length_replicate];omega
theorem fn_of {q:Bool}{CX:CXT}{P:Program}{w:World}{K:PySem.W.Frag}{mg:Str→Option Value}{base:Heap}{k:Nat}{f:Addr}{name qual:Str}{params:Arguments}{body:List Stmt}{scope:Scope}{dV kV doc pm cdv ct oc:Value}{an od:Option Addr}
  {osl:Array (Option Value)}{N ps:List Str}{sp:Sp} (lk:K.lookup f=some ⟨oc,od,.func (PySem.W.fnOf name qual params body scope dV kV doc pm an cdv ct),osl⟩) (hcd:PySem.W.codeIn K cdv qual=true) (S:FnScope N ps scope)
  (len:∀ vs H Q E,sp vs H Q E→vs.length=ps.length)
  (hbody:∀ (A:Around) (outer:List Env) (s:Shared) (H:Hp) (vs:List V) (Q:VK) (E:XK),RoomQ q k (A.deeper (envOfC qual scope s.heap.objs.size f cdv))→sp vs H Q E →
   ∃ t,PSs (cxOfC q CX P w K mg base N qual scope f cdv A outer s H E) body t∧t { nx:=fun _ H'=>Q .non H',rt:=Q } (start N vs) H) :
  FnOkQ q P w K mg base CX (k + 1) f (PySem.W.fnOf name qual params body scope dV kV doc pm an cdv ct) ps sp:=by
 refine ⟨len,fun A outer s H args us vs Q E hr e0 hb r hsp=>?_⟩;have hl:=len _ _ _ _ hsp;have KX:K.In s.heap:=e0.mod.kin.keeps fun b o e=>(e0.bs b o e).1;have lim:s.heap.NoLimit:=e0.mod.nolimit.keeps fun b o e=>(e0.bs b o e).1;have hkind:∀ y∈ps.zip us,scope.names.lookup y.1=some .local∨(scope.names.lookup y.1=some .cell∧((cellsFrom (s.heap.objs.size + 1) scope.names []).lookup y.1).isSome=true):=fun ⟨n,v⟩ hy=>by
  rcases S.par n (List.of_mem_zip hy).1 with q | q
  ·exact .inl q
  ·exact .inr ⟨q,PySem.W.cellsFrom_some _ _ _ (.inl q)⟩
 refine codeAny_call_function hr.depth (KX _ _ lk) rfl S.co S.gen rfl (PySem.W.codeRec_of KX hcd) (hb _ _ _ _ ?_);refine wpAny_newFunctionEnv_cells S.kind hkind fun env he s1 x=>?_;subst he;refine ⟨lim.keeps x.toInCall.keep,codeAny_func ?_⟩;obtain ⟨t,ht,hq⟩:=hbody A outer s H vs Q E (hr.deeper _) hsp;have I:Inv (cxOfC q CX P w K mg base N qual scope f cdv A outer s H E) [] (start N vs) H s1:=inv_start S hr.hd e0 hl r x;refine wpAny_mono (ht [] s1 (start N vs) H _ I hq) (fun fl s' hs=>?_) fun e s' hs=>hs;have fin:∀ {σ':St}{H':Hp}{v:V}{u:Value},Inv (cxOfC q CX P w K mg base N qual scope f cdv A outer s H E) [] σ' H' s'→RelV v u→Q v H'→CE outer P w H s Q u s' :=
  fun {σ' H' v u} J rv z=>⟨v,H',J.os,J.bare,J.base,J.hok,rv,z⟩
 cases fl with
 | ret u =>
  obtain ⟨v,σ',H',J,rv,q⟩:=hs;exact fin J rv q
 | next =>
  obtain ⟨σ',H',J,q⟩:=hs;exact fin (v:=V.non) (u:=Value.none) J rfl q
 | brk =>
  obtain ⟨_,_,_,q⟩:=hs;exact False.elim q
 | cont =>
  obtain ⟨_,_,_,q⟩:=hs;exact False.elim q
end L2
namespace L2
open PySem PySem.Spec PyProof.Rows
section
variable {X:Cx}{x:Str}{p pos:Pos}{e:Expr}{es:List Expr}{t:TA}{id T:String}{r:List V→Hp→VK→Prop}
noncomputable def tCB (r:List V→Hp→VK→Prop) (t:TA):TE:=fun σ H Q=>t σ H fun vs H1=>r vs H1 Q
theorem zAb (hc:CallR X (.builtin id) r) (hg:Gl X x) (hm:X.mg x=none) (hv:bootBuiltins x=some (.builtin id)) (ha:PA X (e :: es) t) (hn:x≠"__name__":=by decide) (hdb:(x == ("__debug__" : Str))=false:=by decide)
  (he:starEach (e :: es) X.env=(false,eval e X.env) :: starEach es X.env:=by rfl) (hpl:(backTo pos (starEach es X.env)).any (·.1)=false:=by rfl):PE X (.Call (.Name x p) (e :: es) [] pos) (tCB r t):=by
 intro pins s σ H Q I h;refine wpAny_Call_Name_kw (ld_blt I hg hm hv ?_ hn hdb);exact PyProof.Rows.callWith_builtin1 (thn (ha pos pins s σ H _ I h) fun us s1 ⟨vs,H1,I1,r1,q1⟩=>hc pins s1 σ H1 vs us Q I1 r1 q1) he hpl
theorem zB4 (hc:CallR X (.type T) r) (hg:Gl X x) (hm:X.mg x=none) (hv:bootBuiltins x=some (.type T)) (ha:PA X (e :: es) t) (hn:x≠"__name__":=by decide) (hdb:(x == ("__debug__" : Str))=false:=by decide)
  (he:starEach (e :: es) X.env=(false,eval e X.env) :: starEach es X.env:=by rfl) (hpl:(backTo pos (starEach es X.env)).any (·.1)=false:=by rfl):PE X (.Call (.Name x p) (e :: es) [] pos) (tCB r t):=by
 intro pins s σ H Q I h;refine wpAny_Call_Name_kw (ld_blt I hg hm hv ?_ hn hdb);exact PyProof.Rows.callWith_type1 (thn (ha pos pins s σ H _ I h) fun us s1 ⟨vs,H1,I1,r1,q1⟩=>hc pins s1 σ H1 vs us Q I1 r1 q1) he hpl
end
end L2
namespace HT
open PySem PyProof.Rows
section
open PySem.SeqAt
open PySem.AutoSeq1 (wpAny_loadPart')
open PySem.MeetsSeq PySem.MeetsSeq2 PySem.MeetsSeq3
end
section
variable {prog:Program}{w:World}{A:Around}{E:Value→Shared→Prop}{s:Shared}
noncomputable def sIx (n d:Nat):Option Int→Nat
 | none=>d
 | some v=>if v < 0 then (v + (n:Int)).toNat else min v.toNat n
end
end HT
namespace L2
open PySem PySem.Spec PyProof.Rows
noncomputable abbrev TO:=St→Hp→(Option Int→Hp→Prop)→Prop
section
variable {X:Cx}{e:Expr}{te:TE}{lo hi:Option Expr}{tl th:TO}{pos p2:Pos}
noncomputable def SlR (X:Cx) (r:V→Option Int→Option Int→Hp→VK→Prop):Prop :=
 ∀ (pins:List (Addr×Obj)) (s:Shared) (σ : St) (H:Hp) (x:V) (v vl vu:Value) (lo hi:Option Int) (sl:Addr) (Q:VK),Inv X pins σ H s→RelV x v→s.heap.IsSliceOf sl vl vu .none→IsPart vl lo→IsPart vu hi→r x lo hi H Q →
  ∃ T id,typeLookup (.type T) "__getitem__" = pure (some (.builtin id))∧s.TypeIs v T∧wpAny (model X.prog X.w) X.A (getItem v (.ref sl)) (EP X pins σ Q) X.xe s
noncomputable def cutV (xs:List V) (lo hi:Option Int):List V:=(xs.drop (HT.sIx xs.length 0 lo)).take (HT.sIx xs.length xs.length hi - HT.sIx xs.length 0 lo)
theorem cutV_length (xs:List V) (lo hi:Option Int):(cutV xs lo hi).length≤xs.length:=by
 unfold cutV;rw [List.length_take,List.length_drop];omega
end
end L2
namespace L2
open PySem PySem.Spec PyProof.Rows
noncomputable def ixN (n:Nat) (i:Int):Option Nat:=if 0≤i then (if i < n then some i.toNat else none) else if -(n:Int)≤i then some (i + n).toNat else none
noncomputable def atI {α : Type} (xs:List α) (i:Int):Option α:=(ixN xs.length i).bind fun j=>xs[j]?
theorem ixN_seq {n:Nat}{i:Int}{j:Nat} (h:ixN n i=some j):seqIndex? i n=some j∧j < n∧-(n:Int)≤i∧i < n:=by
 unfold ixN at h;by_cases h0:0≤i
 ·rw [if_pos h0] at h;by_cases h1:i < n
  ·rw [if_pos h1] at h;have e:i.toNat=j:=Zb h;exact ⟨by rw [seqIndex_of h0 h1,e],by omega,by omega,h1⟩
  ·rw [if_neg h1] at h;cases h
 ·rw [if_neg h0] at h;by_cases h1 : -(n:Int)≤i
  ·rw [if_pos h1] at h;have e:(i + n).toNat=j:=Zb h;exact ⟨by rw [seqIndex_neg (by omega) h1,e],by omega,h1,by omega⟩
  ·rw [if_neg h1] at h;cases h
theorem atI_get {α : Type}{xs:List α}{i:Int}{v : α} (h:atI xs i=some v):∃ j,seqIndex? i xs.length=some j∧xs[j]? = some v∧j < xs.length∧-(xs.length:Int)≤i∧i < xs.length:=by
 unfold atI at h;cases e:ixN xs.length i with
 | none=>rw [e] at h;cases h
 | some j =>
  rw [e] at h;obtain ⟨h1,h2,h3,h4⟩:=ixN_seq e;exact ⟨j,h1,h,h2,h3,h4⟩
theorem atI_nat {α : Type}{xs:List α}{j:Nat}{v : α} (h:xs[j]? = some v):atI xs (j:Int)=some v:=by
 have hj:j < xs.length:=(List.getElem?_eq_some_iff.mp h).1;have e:ixN xs.length (j:Int)=some j:=by
  unfold ixN;rw [if_pos (by omega),if_pos (by omega)];simp
 unfold atI;rw [e];exact h
noncomputable def PlainIx (b:Expr):Prop:=∀ o i,subscripted b false o i=operate [o,i] (getItem o i)
noncomputable def IxR (X:Cx) (r:R2):Prop :=
 ∀ (value slice:Expr) (pins:List (Addr×Obj)) (s:Shared) (σ : St) (H:Hp) (x y:V) (v u:Value) (Q:VK),Inv X pins σ H s→RelV x v→RelV y u→r x y H Q →
  subscripted slice false v u=operate [v,u] (getItem v u)→wpAny (model X.prog X.w) X.A (subscriptTail value slice v u) (EP X pins σ Q) X.xe s
noncomputable def MtR (X:Cx) (id:String) (r:V→List V→Hp→VK→Prop):Prop :=
 ∀ (pins:List (Addr×Obj)) (s:Shared) (σ : St) (H:Hp) (x:V) (xs:List V) (v:Value) (us:List Value) (Q:VK),Inv X pins σ H s→RelV x v→Vals xs us→r x xs H Q →
  wpAny (model X.prog X.w) X.A (call (.builtin id) (v :: us)) (EP X pins σ Q) X.xe s
section
variable {X:Cx}{a b:Expr}{ta tb:TE}{pos:Pos}
theorem zAv {r:R2} (hr:IxR X r) (ha:PE X a ta) (hb:PE X b tb) (hs:PlainIx b):PE X (.Subscript a b pos) (tOp r ta tb):=by
 intro pins s σ H Q I h;exact Subscript_ (binT ha hb I h fun v u s2 x y H2 I2 rx ry q=>hr a b pins s2 σ H2 x y v u Q I2 rx ry q (hs _ _))
noncomputable def rIxL (K:PySem.W.Frag):R2:=fun x y H Q=>∃ p xs i v,x=.ref p∧y=.int i∧SqL K H p xs∧atI xs i=some v∧Q v H
theorem zAc:IxR X (rIxL X.K):=by
 intro value slice pins s σ H x y v u Q I rx ry h hs;obtain ⟨p,xs,i,z,rfl,rfl,hq,he,q⟩:=h;cases rx;obtain ⟨t,rfl⟩:=ry;obtain ⟨its,r,pl,hz⟩:=I.list hq;obtain ⟨j,h1,h2,h3,h4,h5⟩:=atI_get he;obtain ⟨w,ew,rw'⟩:=r.get h2;have hl:=r.length;have hn:=line63;have fin:EP X pins σ Q w s:=⟨z,H,I,rw',q⟩;by_cases h0:0≤i
 ·have hj:i.toNat=j:=by
   rw [seqIndex_of h0 h5] at h1;exact Zb h1
  exact item_listR pl.isList h0 (by omega) (by rw [hj];simpa using ew) fin hs
 ·have hj:(i + (its.toArray.size:Int)).toNat=j:=by
   rw [seqIndex_neg (by omega) h4] at h1;rw [Z3,← hl];exact Zb h1
  exact subscriptTail_builtinR (x:=w) pl.isList.typeIs slot_list_getitem.lookup
   (wpAny_getItem_list_neg (Q:=fun r s'=>r=w∧EP X pins σ Q r s') pl.isList (by omega) (by rw [Z3] <;> omega) (by omega) (by rw [hj];simpa using ew) ⟨rfl,fin⟩) hs
theorem mapSeq_set (its:List Value) (n j:Nat) (u:Value):Obj.mapSeq (·.setIfInBounds j u) { cls:=.type "list",data:=.seq its.toArray n }={ cls:=.type "list",data:=.seq (its.set j u).toArray n }:=by
 simp [Obj.mapSeq]
theorem Inv.lst {pins:List (Addr×Obj)}{σ : St}{H:Hp}{s:Shared}{p:Addr}{xs:List V} (I:Inv X pins σ H s) (h:H p=some (.lst xs)) :
  ∃ (its:List Value) (n:Nat),Vals xs its∧s.heap.get? p=some { cls:=.type "list",data:=.seq its.toArray n }∧xs.length≤sizeLine:=by
 obtain ⟨z,its,n,r,e⟩:=I.hok p _ h;exact ⟨its,n,r,e,z⟩
theorem Inv.lstUpd {pins:List (Addr×Obj)}{σ : St}{H:Hp}{s:Shared}{p:Addr}{xs ys:List V}{its its':List Value}{n n':Nat}{f:Obj→Obj} (I:Inv X pins σ H s) (h:H p=some (.lst xs))
  (ho:s.heap.get? p=some { cls:=.type "list",data:=.seq its.toArray n }) (hf:f { cls:=.type "list",data:=.seq its.toArray n }={ cls:=.type "list",data:=.seq its'.toArray n' }) (r:Vals ys its') (hz:ys.length≤sizeLine) (t:Nat) :
  Inv X pins σ (upd H p (.lst ys)) { s with heap:=s.heap.update p f,toks:=t }:=by
 have e:(s.heap.update p f).get? p=some { cls:=.type "list",data:=.seq its'.toArray n' }:=by
  rw [Heap.get?_update_self f ho (by rw [hf] <;> rfl),hf]
 refine I.write (x:=p) (e:=p) (by rw [h];trivial) (.inl rfl) (fun b u hb q=>(Heap.get?_update_other _ _ (Ne.symm hb)).trans q) ⟨_,e⟩ ?_;exact ⟨hz,its',n',r,e⟩
noncomputable def rSetL:V→V→V→Hp→(Hp→Prop)→Prop:=fun o i v H Q=>∃ p xs k j,o=.ref p∧i=.int k∧H p=some (.lst xs)∧ixN xs.length k=some j∧Q (upd H p (.lst (xs.set j v)))
theorem zCt:PSet X rSetL:=by
 intro pins s σ H o i v ov iv u Q I ro ri rv h;obtain ⟨p,xs,k,j,rfl,rfl,hp,hj,q⟩:=h;cases ro;obtain ⟨t,rfl⟩:=ri;obtain ⟨its,n,r,ho,hz⟩:=I.lst hp;obtain ⟨h1,h2,h3,h4⟩:=ixN_seq hj;have hl:=r.length;have hn:=line63;have I':Inv X pins σ (upd H p (.lst (xs.set j v))) { s with heap:=s.heap.update p (Obj.mapSeq (·.setIfInBounds j u)) } :=
  I.lstUpd hp ho (mapSeq_set its n j u) (r.set rv j) (by rw [List.length_set];exact hz) s.toks
 by_cases h0:0≤k
 ·have hk:k.toNat=j:=by
   rw [seqIndex_of h0 h4] at h1;exact Zb h1
  exact PySem.W.ki_setAt ho h0 (by omega) (by rw [Z3,← hl];exact h4) (by rw [hk];exact ⟨_,I',q⟩)
 ·have hk:(k + (its.toArray.size:Int)).toNat=j:=by
   rw [seqIndex_neg (by omega) h3] at h1;rw [Z3,← hl];exact Zb h1
  exact PySem.W.ki_setBack ho (by omega) (by rw [Z3,← hl];exact h3) (by omega) (by rw [hk];exact ⟨_,I',q⟩)
theorem slice_bounds (lo hi:Option Int) (n:Nat):(sliceBounds lo hi none n).1=((HT.sIx n 0 lo:Nat):Int)∧(sliceBounds lo hi none n).2.1=((HT.sIx n n hi:Nat):Int)∧(sliceBounds lo hi none n).2.2=1:=by
 refine ⟨?_,?_,rfl⟩
 ·cases lo with
  | none=>simp [sliceBounds,HT.sIx]
  | some i =>
   simp only [sliceBounds,HT.sIx,Option.getD_none,show (1:Int) > 0 by decide,if_true];by_cases h:i < 0
   ·simp only [h,if_true] <;> omega
   ·simp only [h,if_false] <;> omega
 ·cases hi with
  | none=>simp [sliceBounds,HT.sIx]
  | some i =>
   simp only [sliceBounds,HT.sIx,Option.getD_none,show (1:Int) > 0 by decide,if_true];by_cases h:i < 0
   ·simp only [h,if_true] <;> omega
   ·simp only [h,if_false] <;> omega
theorem zCs (its:List Value) (lo hi:Option Int):slicePick its.toArray lo hi none=((its.drop (HT.sIx its.length 0 lo)).take (HT.sIx its.length its.length hi - HT.sIx its.length 0 lo)).toArray:=by
 obtain ⟨h1,h2,h3⟩:=slice_bounds lo hi its.toArray.size;unfold slicePick;rw [h1,h2,h3];simp only [sliceRange_one,pick_run,Z3] <;> rfl
noncomputable def rSlL (K:PySem.W.Frag):V→Option Int→Option Int→Hp→VK→Prop:=fun x lo hi H Q=>∃ a xs,x=.ref a∧SqL K H a xs∧∀ p,H p=none→Q (.ref p) (upd H p (.lst (cutV xs lo hi)))
theorem sl_list:SlR X (rSlL X.K):=by
 intro pins s σ H x v vl vu lo hi sl Q I rx hs pl pu h;obtain ⟨a,xs,rfl,hx,q⟩:=h;cases rx;obtain ⟨its,r,ht,hz⟩:=I.list hx;have hlen:=r.length;refine ⟨"list",_,slot_list_getitem.lookup,ht.isList.typeIs,?_⟩;refine wpAny_getItem_list_slice ht.isList hs pl pu .none (by simp) ?_ (by rw [Z3] <;> omega);rw [zCs,← hlen];refine ⟨.ref s.heap.objs.size,_,I.laid (t':=s.toks) (o:=.lst (cutV xs lo hi)) (fun b ob q=>Z0 _ q) (Z5 _) ?_,rfl,q _ (I.hok.fresh (Z5 _))⟩;exact ⟨Zg (cutV_length xs lo hi) hz,_,0,(r.drop (HT.sIx xs.length 0 lo)).take (HT.sIx xs.length xs.length hi - HT.sIx xs.length 0 lo),Z8 _ rfl⟩
noncomputable def flatV:V→Bool
 | .non=>true
 | .bl _=>true
 | .int _=>true
 | .str _=>true
 | _=>false
noncomputable def eqV:V→V→Bool
 | .non,.non=>true
 | .bl a,.bl b=>a == b
 | .bl a,.int b=>(if a then 1 else 0) == b
 | .int a,.bl b=>a == (if b then 1 else 0)
 | .int a,.int b=>a == b
 | .str a,.str b=>a == b
 | _,_=>false
theorem eqAt_V {A:Around}{s:Shared}{y x:V}{u v:Value} (ry:RelV y u) (rx:RelV x v) (fy:flatV y=true) (fx:flatV x=true):SeqAt.EqAt A s u v (eqV y x):=by
 cases y with
 | non =>
  cases ry;cases x with
  | non=>cases rx;exact SeqAt.EqAt.same _
  | bl b=>cases rx;exact SeqAt.EqAt.none_bool b
  | int b=>obtain ⟨t,rfl⟩:=rx;exact SeqAt.EqAt.none_int b t
  | str b=>obtain ⟨t,rfl⟩:=rx;exact SeqAt.EqAt.none_str b t
  | _=>exact absurd (show false=true from fx) Z2
 | bl a =>
  cases ry;cases x with
  | non=>cases rx;exact SeqAt.EqAt.bool_none a
  | bl b=>cases rx;exact SeqAt.EqAt.bool_bool a b
  | int b=>obtain ⟨t,rfl⟩:=rx;exact SeqAt.EqAt.bool_int a b t
  | str b=>obtain ⟨t,rfl⟩:=rx;exact SeqAt.EqAt.bool_str a b t
  | _=>exact absurd (show false=true from fx) Z2
 | int a =>
  obtain ⟨t',rfl⟩:=ry;cases x with
  | non=>cases rx;exact SeqAt.EqAt.int_none a t'
  | bl b=>cases rx;exact SeqAt.EqAt.int_bool a t' b
  | int b=>obtain ⟨t,rfl⟩:=rx;exact SeqAt.EqAt.int_int a t' b t
  | str b=>obtain ⟨t,rfl⟩:=rx;exact SeqAt.EqAt.int_str a t' b t
  | _=>exact absurd (show false=true from fx) Z2
 | str a =>
  obtain ⟨t',rfl⟩:=ry;cases x with
  | non=>cases rx;exact SeqAt.EqAt.str_none a t'
  | bl b=>cases rx;exact SeqAt.EqAt.str_bool a t' b
  | int b=>obtain ⟨t,rfl⟩:=rx;exact SeqAt.EqAt.str_int a t' b t
  | str b=>obtain ⟨t,rfl⟩:=rx;exact SeqAt.EqAt.str_str a t' b t
  | _=>exact absurd (show false=true from fx) Z2
 | _=>exact absurd (show false=true from fy) Z2
noncomputable def eqU (x:V) (u:Value):Bool:=match u with
 | .none=>eqV .non x
 | .bool b=>eqV (.bl b) x
 | .int i _=>eqV (.int i) x
 | .str z _=>eqV (.str z) x
 | _=>false
theorem eqU_of {x y:V}{u:Value} (r:RelV y u) (f:flatV y=true):eqU x u=eqV y x:=by
 cases y with
 | non=>cases r;rfl
 | bl b=>cases r;rfl
 | int i=>obtain ⟨t,rfl⟩:=r;rfl
 | str z=>obtain ⟨t,rfl⟩:=r;rfl
 | _=>exact absurd (show false=true from f) Z2
theorem zCm {x:V}:∀ {xs:List V}{us:List Value},Vals xs us→xs.all flatV=true→us.any (eqU x)=xs.any fun y=>eqV y x
 | _,_,.nil,_=>rfl
 | y :: xs,u :: us,.cons r t,f=>by
  rw [Y2,Zk] at f;rw [List.any_cons,List.any_cons,eqU_of r f.1,zCm t f.2]
theorem zBx {A:Around}{s:Shared}{x:V}{v:Value} (rx:RelV x v) (fx:flatV x=true):∀ {xs:List V}{us:List Value},Vals xs us→xs.all flatV=true→∀ u∈us,SeqAt.EqAt A s u v (eqU x u)
 | _,_,.nil,_=>fun u hu=>by cases hu
 | y :: xs,u :: us,.cons r t,f=>fun u' hu=>by
  rw [Y2,Zk] at f;rcases List.mem_cons.mp hu with rfl | hu
  ·rw [eqU_of r f.1];exact eqAt_V r rx f.1 fx
  ·exact zBx rx fx t f.2 u' hu
noncomputable def inV (x:V) (xs:List V):Bool:=xs.any fun y=>eqV y x
noncomputable def rIn (K:PySem.W.Frag) (neg:Bool):R2:=fun x y H Q=>∃ p xs,y=.ref p∧(SqL K H p xs∨SqT K H p xs)∧flatV x=true∧xs.all flatV=true∧Q (.bl (if neg then !inV x xs else inV x xs)) H
theorem op_in_seq:OpR X (compareOp .In) (rIn X.K false):=by
 intro pins s σ H x y v u Q I rx ry h;obtain ⟨p,xs,rfl,hq,fx,fs,q⟩:=h;cases ry;rcases hq with hq | hq
 ·obtain ⟨its,r,pl,hz⟩:=I.list hq;refine SeqAt.in_listAt (eqU x) pl.isList (fun w hw=>zBx rx fx r fs w (by simpa using hw)) ⟨.bl _,H,I,rfl,?_⟩;rw [show its.toArray.any (eqU x)=its.any (eqU x) by simp,zCm r fs];exact q
 ·obtain ⟨its,r,pl,hz⟩:=I.tuple hq;refine SeqAt.in_tupleAt (eqU x) pl (fun w hw=>zBx rx fx r fs w (by simpa using hw)) ⟨.bl _,H,I,rfl,?_⟩;rw [show its.toArray.any (eqU x)=its.any (eqU x) by simp,zCm r fs];exact q
theorem op_notIn_seq:OpR X (compareOp .NotIn) (rIn X.K true):=by
 intro pins s σ H x y v u Q I rx ry h;obtain ⟨p,xs,rfl,hq,fx,fs,q⟩:=h;cases ry;rcases hq with hq | hq
 ·obtain ⟨its,r,pl,hz⟩:=I.list hq;refine SeqAt.notIn_listAt (eqU x) pl.isList (fun w hw=>zBx rx fx r fs w (by simpa using hw)) ⟨.bl _,H,I,rfl,?_⟩;rw [show its.toArray.any (eqU x)=its.any (eqU x) by simp,zCm r fs];exact q
 ·obtain ⟨its,r,pl,hz⟩:=I.tuple hq;refine SeqAt.notIn_tupleAt (eqU x) pl (fun w hw=>zBx rx fx r fs w (by simpa using hw)) ⟨.bl _,H,I,rfl,?_⟩;rw [show its.toArray.any (eqU x)=its.any (eqU x) by simp,zCm r fs];exact q
theorem zB2:CallR X (.builtin "len") (fun xs H Q=>∃ p ys,xs=[.ref p]∧(SqL X.K H p ys∨SqT X.K H p ys)∧Q (.int ys.length) H):=by
 intro pins s σ H xs us Q I r h;obtain ⟨p,ys,rfl,hq,q⟩:=h;obtain ⟨u,rfl,rx⟩:=vals1 r;cases rx;have hn:=line63;rcases hq with hq | hq
 ·obtain ⟨its,r',pl,hz⟩:=I.list hq;have hlen:=r'.length;exact Calls.call_len_list pl.isList (by simp only [Z3] <;> omega) ⟨.int ys.length,H,I.tok _,⟨s.toks + 1,by rw [Z3,hlen]⟩,q⟩
 ·obtain ⟨its,r',pl,hz⟩:=I.tuple hq;have hlen:=r'.length;exact len_tuple pl (by simp only [Z3] <;> omega) ⟨.int ys.length,H,I.tok _,⟨s.toks + 1,by rw [Z3,hlen]⟩,q⟩
theorem call_len_str:CallR X (.builtin "len") (fun xs H Q=>∃ z,xs=[.str z]∧z.length≤sizeLine∧Q (.int z.length) H):=by
 intro pins s σ H xs us Q I r h;obtain ⟨z,rfl,hz,q⟩:=h;obtain ⟨u,rfl,t,rfl⟩:=vals1 r;have hn:=line63;exact len_str (by omega) ⟨.int z.length,H,I.tok _,⟨_,rfl⟩,q⟩
theorem zB6:CallR X (.type "list") (fun xs H Q=>∃ p ys,xs=[.ref p]∧(SqL X.K H p ys∨SqT X.K H p ys)∧∀ l,H l=none→Q (.ref l) (upd H l (.lst ys))):=by
 intro pins s σ H xs us Q I r h;obtain ⟨p,ys,rfl,hq,q⟩:=h;obtain ⟨u,rfl,rx⟩:=vals1 r;cases rx
 have fin:∀ (its:List Value),Vals ys its→ys.length≤sizeLine→∀ (h':Heap) (c':Nat),(∀ b o',s.heap.get? b=some o'→h'.get? b=some o') →
   h'.get? s.heap.objs.size=some { cls:=.type "list",dict:=none,data:=.seq its.toArray c',slots:=#[] }→EP X pins σ Q (.ref s.heap.objs.size) { s with heap:=h' }:=fun its r' hz h' c' kp e =>
  ⟨.ref s.heap.objs.size,_,I.laid (t':=s.toks) kp (Z5 _) (show ObjOk X.prog X.w _ h' _ (.lst ys) from ⟨hz,its,c',r',e⟩),rfl,q _ (I.hok.fresh (Z5 _))⟩
 rcases hq with hq | hq
 ·obtain ⟨its,r',pl,hz⟩:=I.list hq;have hlen:=r'.length;obtain ⟨o,ho,hc,n,hd⟩:=pl.isList;exact call_list_seq p (.inl rfl) ho hc hd (fun h' c' kp e=>fin its r' hz h' c' kp e) (by simp only [Z3] <;> omega)
 ·obtain ⟨its,r',pl,hz⟩:=I.tuple hq;have hlen:=r'.length;obtain ⟨o,ho,hc,n,hd⟩:=pl;exact call_list_seq p (.inr rfl) ho hc hd (fun h' c' kp e=>fin its r' hz h' c' kp e) (by simp only [Z3] <;> omega)
noncomputable def tyV (K:PySem.W.Frag) (T:String) (x:V) (H:Hp):Prop:=match x with
 | .str _=>T = "str"
 | .int _=>T = "int"
 | .ref p=>(T = "list"∧∃ xs,SqL K H p xs)∨(T = "tuple"∧∃ o,K.lookup p=some o∧o.cls=.type "tuple"∧o.dict=none) ∨
   (T = "dict"∧((∃ kvs,H p=some (.dK kvs))∨∃ kvs,H p=some (.dT kvs)))∨(T = "set"∧∃ S n,H p=some (.set S n))
 | _=>False
theorem tyV_is {pins:List (Addr×Obj)}{σ : St}{H:Hp}{s:Shared}{T:String}{x:V}{v:Value} (I:Inv X pins σ H s) (r:RelV x v) (ty:tyV X.K T x H) :
  s.TypeIs v T∧∀ a,v=.ref a→∃ ob,s.heap.get? a=some ob∧ob.dict=none:=by
 cases x with
 | str z =>
  obtain ⟨t,rfl⟩:=r;cases (show T = "str" from ty);exact ⟨typeIs_str s z t,fun _ e=>nomatch e⟩
 | int i =>
  obtain ⟨t,rfl⟩:=r;cases (show T = "int" from ty);exact ⟨typeIs_int s i t,fun _ e=>nomatch e⟩
 | ref p =>
  cases r;rcases ty with ⟨rfl,xs,hq⟩ | ⟨rfl,o,hk,hc,hd⟩ | ⟨rfl,hk⟩ | ⟨rfl,S,n,hk⟩
  ·obtain ⟨its,_,pl,_⟩:=I.list hq;refine ⟨pl.isList.typeIs,fun a e=>?_⟩;cases e;obtain ⟨o,n,e,c,hd,_⟩:=pl;exact ⟨o,e,hd⟩
  ·refine ⟨⟨o,I.kIn p o hk,hc⟩,fun a e=>?_⟩;cases e;exact ⟨o,I.kIn _ o hk,hd⟩
  ·have z:∃ o,s.heap.get? p=some o∧o.ExactDict:=by
    rcases hk with ⟨kvs,hk⟩ | ⟨kvs,hk⟩
    ·obtain ⟨_,_,_,_,o,_,_,e,ex,_⟩:=I.hok p _ hk;exact ⟨o,e,ex⟩
    ·obtain ⟨_,_,_,_,o,_,_,e,ex,_⟩:=I.hok p _ hk;exact ⟨o,e,ex⟩
   obtain ⟨o,e,ex⟩:=z;refine ⟨⟨o,e,ex.1⟩,fun a e2=>?_⟩;cases e2;exact ⟨o,e,ex.2.1⟩
  ·obtain ⟨o,_,_,_,e,ex,_⟩:=I.hok p _ hk;refine ⟨⟨o,e,ex.1⟩,fun a e2=>?_⟩;cases e2;exact ⟨o,e,ex.2.1⟩
 | _=>exact False.elim ty
noncomputable def tBM0 (K:PySem.W.Frag) (T:String) (r:V→List V→Hp→VK→Prop) (to:TE):TE:=fun σ H Q=>to σ H fun x H1=>tyV K T x H1∧r x [] H1 Q
noncomputable def tBM (K:PySem.W.Frag) (T:String) (r:V→List V→Hp→VK→Prop) (to:TE) (t:TA):TE:=fun σ H Q=>to σ H fun x H1=>tyV K T x H1∧t σ H1 fun xs H2=>r x xs H2 Q
variable {o e:Expr}{es:List Expr}{to:TE}{t:TA}{name:Str}{apos cpos:Pos}{T id:String}{r:V→List V→Hp→VK→Prop}
theorem pe_bm0 (pa:PlainAttrs T) (slot:Slot T name id) (hty:typeOf (.builtin id)=pure (.type "method_descriptor")) (hm:MtR X id r) (ho:PE X o to)
  (hbase:attributeBase o name X.env (eval o X.env)=eval o X.env:=by rfl) (hline:(apos.endLine == cpos.line)=true:=by rfl):PE X (.Call (.Attribute o name apos) [] [] cpos) (tBM0 X.K T r to):=by
 intro pins s σ H Q I h;refine wpAny_Call_method0_late hbase hline (thn (ho pins s σ H _ I h) fun v s1 ⟨x,H1,I1,r1,ty,q1⟩=>?_);obtain ⟨h1,h2⟩:=tyV_is I1 r1 ty;exact ⟨T,id,pa,slot,hty,h1,h2,Calls.callWith_builtin rfl (PySem.evalArgs_none (hm pins s1 σ H1 x [] v [] Q I1 r1 .nil q1))⟩
theorem pe_bm (pa:PlainAttrs T) (slot:Slot T name id) (hty:typeOf (.builtin id)=pure (.type "method_descriptor")) (hm:MtR X id r) (ho:PE X o to) (ha:PA X (e :: es) t)
  (hbase:attributeBase o name X.env (eval o X.env)=eval o X.env:=by rfl)
  (hfew:((backTo cpos (starEach (e :: es) X.env)).all (fun x=>!x.1) && (backToKw cpos (keywordEach [] X.env)).all (fun x=>x.1.isSome)
   && decide ((e :: es).length + ([]:List Keyword).length + (if ([]:List Keyword).isEmpty then 0 else 1) < 30))=true:=by rfl)
  (hline:(apos.endLine == cpos.line)=true:=by rfl) (hs:starEach (e :: es) X.env=(false,eval e X.env) :: starEach es X.env:=by rfl) (hplain:(backTo cpos (starEach es X.env)).any (·.1)=false:=by rfl) :
  PE X (.Call (.Attribute o name apos) (e :: es) [] cpos) (tBM X.K T r to t):=by
 intro pins s σ H Q I h;refine wpAny_Call_method_late hbase hfew hline rfl (thn (ho pins s σ H _ I h) fun v s1 ⟨x,H1,I1,r1,ty,q1⟩=>?_);obtain ⟨h1,h2⟩:=tyV_is I1 r1 ty;refine ⟨T,id,pa,slot,hty,h1,h2,?_⟩;have hA:=ha cpos pins s1 σ H1 _ I1 q1;rw [hs] at hA ⊢;refine Calls.callWith_builtin (by show (false || (backTo cpos (starEach es X.env)).any (·.1))=false;rw [hplain] <;> rfl) (Calls.evalArgs_plain ?_);exact thn hA fun us s2 ⟨vs,H2,I2,r2,q2⟩=>hm pins s2 σ H2 x vs v us Q I2 r1 r2 q2
end
end L2
namespace L2
open PySem PySem.Spec PyProof.Rows
noncomputable def MtM (X:Cx) (id:String) (r:V→List V→Hp→VK→Prop):Prop :=
 ∀ (pins:List (Addr×Obj)) (s:Shared) (σ : St) (H:Hp) (x:V) (xs:List V) (v:Value) (us:List Value) (Q:VK),Inv X pins σ H s→RelV x v→Vals xs us→r x xs H Q →
  wpAny (model X.prog X.w) X.A (call (.builtin id) (v :: us)) (EP X pins σ Q) X.xe s
theorem Vals.one:∀ {x:V}{us:List Value},Vals [x] us→∃ u,us=[u]∧RelV x u
 | _,_,.cons r .nil=>⟨_,rfl,r⟩
theorem Vals.zero:∀ {us:List Value},Vals [] us→us=[]
 | _,.nil=>rfl
theorem Vals.dropLast {xs:List V}{us:List Value} (h:Vals xs us):Vals xs.dropLast us.dropLast:=by
 induction h with
 | nil=>exact .nil
 | cons r t ih =>
  cases t with
  | nil=>exact .nil
  | cons q t'=>exact .cons r ih
theorem Vals.rep {xs:List V}{us:List Value} (h:Vals xs us):∀ k:Nat,Vals (List.replicate k xs).flatten (List.replicate k us).flatten
 | 0=>.nil
 | k + 1=>by
  rw [Zo,Zo,Y0,Y0];exact Vals.append h (Vals.rep h k)
theorem erase_last {α : Type} (l:List α):l.eraseIdx (l.length - 1)=l.dropLast:=by
 induction l with
 | nil=>rfl
 | cons a r ih =>
  cases r with
  | nil=>rfl
  | cons b r =>
   have e:(a :: b :: r).length - 1=((b :: r).length - 1) + 1:=by
    have h1:(a :: b :: r).length=r.length + 2:=rfl;have h2:(b :: r).length=r.length + 1:=rfl;omega
   rw [e,List.eraseIdx_cons_succ,ih]
   all_goals rfl
theorem foldl_rep (its:List Value):∀ (k:Nat) (acc:List Value),
  List.foldl (fun x1 x2=>x1++x2) acc.toArray (List.replicate k its.toArray)=(acc++(List.replicate k its).flatten).toArray
 | 0,acc=>by simp
 | k + 1,acc=>by
  have e:acc.toArray++its.toArray=(acc++its).toArray:=by simp
  have e2:(acc++its)++(List.replicate k its).flatten=acc++(List.replicate (k + 1) its).flatten:=by
   rw [Zo,Y0,List.append_assoc]
  rw [← e2,← foldl_rep its k (acc++its),← e,Zo,Zx]
section
variable {X:Cx}{pins:List (Addr×Obj)}{σ : St}{H:Hp}{s:Shared}{l b:Addr}{xs ys zs:List V}
theorem Inv.lset {its its':List Value}{n:Nat}{f:Array Value→Array Value}{t':Nat} (I:Inv X pins σ H s) (hH:H l=some (.lst xs))
  (e:s.heap.get? l=some { cls:=.type "list",data:=.seq its.toArray n }) (hf:f its.toArray=its'.toArray) (hv:Vals ys its') (hz:ys.length≤sizeLine) :
  Inv X pins σ (upd H l (.lst ys)) { s with heap:=s.heap.update l (Obj.mapSeq f),toks:=t' }:=by
 have q:=PySem.IsL.update e f;rw [hf] at q;refine I.write (x:=l) (e:=l) (by rw [hH];exact trivial) (.inl rfl) (fun b' u hb hu=>(Heap.get?_update_other s.heap (Obj.mapSeq f) (Ne.symm hb)).trans hu) ⟨_,q⟩ ?_;exact ⟨hz,its',_,hv,q⟩
theorem Inv.lnew {its:List Value}{t':Nat} (I:Inv X pins σ H s) (hv:Vals ys its) (hz:ys.length≤sizeLine) :
  Inv X pins σ (upd H s.heap.objs.size (.lst ys)) { s with heap:=s.heap.push { cls:=.type "list",data:=.seq its.toArray },toks:=t' } :=
 I.laid (fun _ _ q=>Z0 _ q) (Z5 _) ⟨hz,its,0,hv,Z8 _ rfl⟩
theorem Inv.fresh (I:Inv X pins σ H s):H s.heap.objs.size=none:=I.hok.fresh (Z5 _)
theorem Inv.lstM (I:Inv X pins σ H s) (hH:H l=some (.lst xs)):xs.length≤sizeLine∧∃ (its:List Value) (n:Nat),Vals xs its∧xs.length=its.length∧s.heap.get? l=some { cls:=.type "list",data:=.seq its.toArray n }:=by
 obtain ⟨z,its,n,r,e⟩:=I.hok l _ hH;exact ⟨z,its,n,r,r.length,e⟩
theorem notLongL {n:Nat} (h:n≤sizeLine):Builtin.List.listTooLong n=false:=by
 unfold Builtin.List.listTooLong;exact decide_eq_false (by omega)
end
section
variable {X:Cx}
noncomputable def rAppend:V→List V→Hp→VK→Prop:=fun x vs H Q=>∃ l xs y,x=.ref l∧vs=[y]∧H l=some (.lst xs)∧xs.length < sizeLine∧Q .non (upd H l (.lst (xs++[y])))
theorem mt_append:MtM X "list.append" rAppend:=by
 intro pins s σ H x vs v us Q I rx rv h;obtain ⟨l,xs,y,rfl,rfl,hH,hz,q⟩:=h;cases rx;obtain ⟨u,rfl,ru⟩:=rv.one;obtain ⟨z,its,n,r,hl,e⟩:=I.lstM hH;refine call_meets F.slot_list_append ⟨_,e,rfl⟩ F.entry_list_append (F.args_list_append_2 _ _) (PySem.list_append l its.toArray n u (by rw [Z3];omega)) ⟨e,?_⟩;refine ⟨.non,_,I.lset (its':=its++[u]) hH e (by simp) (r.append (.cons ru .nil)) ?_,rfl,q⟩;rw [Zc,List.length_singleton];omega
noncomputable def rExtend:V→List V→Hp→VK→Prop:=fun x vs H Q=>∃ l b xs zs,x=.ref l∧vs=[.ref b]∧H l=some (.lst xs)∧H b=some (.lst zs)∧xs.length + zs.length≤sizeLine∧Q .non (upd H l (.lst (xs++zs)))
theorem mt_extend:MtM X "list.extend" rExtend:=by
 intro pins s σ H x vs v us Q I rx rv h;obtain ⟨l,b,xs,zs,rfl,rfl,hH,hB,hz,q⟩:=h;cases rx;obtain ⟨u,rfl,ru⟩:=rv.one;cases ru;obtain ⟨z,its,n,r,hl,e⟩:=I.lstM hH;obtain ⟨z2,its2,n2,r2,hl2,e2⟩:=I.lstM hB;have hsz:its.toArray.size + its2.toArray.size≤sizeLine:=by rw [Z3,Z3];omega
 have hlong:¬ (!its.toArray.isEmpty && Builtin.List.listTooLong (its.toArray.size + its2.toArray.size))=true:=by
  rw [notLongL hsz,Bool.and_false];exact Z2
 refine call_meets F.slot_list_extend ⟨_,e,rfl⟩ F.entry_list_extend (F.args_list_extend_2 _ _)
  (AutoSeq1.list_extend_list_list_0 l its.toArray n b its2.toArray n2 hlong (by rw [Z3];omega) (by omega)) ⟨e,e2,?_⟩
 refine ⟨.non,_,I.lset (its':=its++its2) hH e (by simp) (r.append r2) ?_,rfl,q⟩;rw [Zc];omega
noncomputable def rPop:V→List V→Hp→VK→Prop:=fun x vs H Q=>∃ l xs y,x=.ref l∧vs=[]∧H l=some (.lst xs)∧xs[xs.length - 1]? = some y∧Q y (upd H l (.lst xs.dropLast))
theorem mt_pop:MtM X "list.pop" rPop:=by
 intro pins s σ H x vs v us Q I rx rv h;obtain ⟨l,xs,y,rfl,rfl,hH,hy,q⟩:=h;cases rx;have hus:=rv.zero;subst hus;obtain ⟨z,its,n,r,hl,e⟩:=I.lstM hH;obtain ⟨u,hu,ru⟩:=r.get hy;have hy':its.toArray[its.toArray.size - 1]? = some u:=by
  show its.toArray[its.length - 1]? = some u;rw [← Array.getElem?_toList,← hl];exact hu
 refine call_meets F.slot_list_pop ⟨_,e,rfl⟩ F.entry_list_pop (F.args_list_pop_1 _) (MeetsSeq.list_pop_last l its.toArray n u hy' (by rw [Z3];omega)) ⟨e,?_⟩;refine ⟨y,_,I.lset (its':=its.dropLast) hH e ?_ r.dropLast ?_,ru,q⟩
 ·show its.toArray.eraseIdxIfInBounds (its.toArray.size - 1)=its.dropLast.toArray;rw [Z3,List.eraseIdxIfInBounds_toArray,erase_last]
 ·rw [List.length_dropLast];omega
noncomputable def rCat:R2:=fun x y H Q=>∃ l b xs zs,x=.ref l∧y=.ref b∧H l=some (.lst xs)∧H b=some (.lst zs)∧xs.length + zs.length≤sizeLine∧∀ p,H p=none→Q (.ref p) (upd H p (.lst (xs++zs)))
theorem op_cat:OpR X (binaryOp .Add) rCat:=by
 intro pins s σ H x y v u Q I rx ry h;obtain ⟨l,b,xs,zs,rfl,rfl,hH,hB,hz,q⟩:=h;cases rx;cases ry;obtain ⟨z,its,n,r,hl,e⟩:=I.lstM hH;obtain ⟨z2,its2,n2,r2,hl2,e2⟩:=I.lstM hB;refine PySem.P.add_list e e2 ?_ (by rw [Z3,Z3];omega);have ea:its.toArray++its2.toArray=(its++its2).toArray:=by simp
 rw [ea];exact ⟨.ref _,_,I.lnew (t':=s.toks) (r.append r2) (by rw [Zc];omega),rfl,q _ I.fresh⟩
noncomputable def rRep:R2:=fun x y H Q=>∃ l k xs,x=.ref l∧y=.int k∧H l=some (.lst xs)∧-(2 ^ 63)≤k∧k < 2 ^ 63∧xs.length * k.toNat≤sizeLine ∧
 ∀ p,H p=none→Q (.ref p) (upd H p (.lst (List.replicate k.toNat xs).flatten))
theorem len_rep {α : Type} (xs:List α) (k:Nat):(List.replicate k xs).flatten.length=k * xs.length:=by
 induction k with
 | zero=>simp
 | succ k ih=>rw [Zo,Y0,Zc,ih,Nat.succ_mul,Nat.add_comm]
theorem op_rep:OpR X (binaryOp .Mult) rRep:=by
 intro pins s σ H x y v u Q I rx ry h;obtain ⟨l,k,xs,rfl,rfl,hH,h1,h2,hz,q⟩:=h;cases rx;obtain ⟨t,rfl⟩:=ry;obtain ⟨z,its,n,r,hl,e⟩:=I.lstM hH;have hlen:its.toArray.size * k.toNat≤sizeLine:=by rw [Z3,← hl];exact hz
 have hcap:¬ its.toArray.size * k.toNat > (2 ^ 63 - 1) / 8:=by
  have:(sizeLine:Nat)≤(2 ^ 63 - 1) / 8:=by decide
  omega
 have hfit:¬ (!Builtin.List.listFitsIndex k)=true:=by
  rw [fitsIndex_both h1 h2];exact Z2
 have hlong:¬ Builtin.List.listTooLong (its.toArray.size * k.toNat)=true:=by
  rw [notLongL hlen];exact Z2
 have hnew:List.foldl (fun x1 x2=>x1++x2) #[] (List.replicate (if its.toArray.isEmpty=true then 0 else k.toNat) its.toArray)=(List.replicate k.toNat its).flatten.toArray:=by
  have f0:∀ m:Nat,List.foldl (fun x1 x2=>x1++x2) #[] (List.replicate m its.toArray)=(List.replicate m its).flatten.toArray:=fun m=>by
   have:=foldl_rep its m [];rw [List.nil_append] at this;exact this
  rw [f0];cases its with
  | nil=>simp
  | cons a r'=>rw [if_neg (by simp)]
 refine wpAny_binaryOp_repeat_ref (T:="list") (U:="int") (by decide) ⟨_,e,rfl⟩ (fun s'=>typeIs_int s' k t) noFill_list_mul F.fills_int_mul F.slot_int_rmul repeat_list F.slot_int_index.lookup
  (call_meets F.slot_int_rmul (typeIs_int s k t) F.entry_int_rmul (F.args_int_rmul_2 _ _) (int___rmul___int_list k t l its.toArray n)
   ⟨e,rfl,⟨_,e,rfl⟩,call_meets F.slot_list_mul ⟨_,e,rfl⟩ F.entry_list_mul (F.args_list_mul_2 _ _) (AutoListH.list___mul___list_int_3 l its.toArray n k t hfit hcap hlong) ⟨e,?_⟩⟩)
 rw [hnew];exact ⟨.ref _,_,I.lnew (t':=s.toks) (r.rep k.toNat) (by rw [len_rep,Nat.mul_comm];exact hz),rfl,q _ I.fresh⟩
end
section
variable {prog:Program}{w:World}{A:Around}{E:Value→Shared→Prop}{s:Shared}
set_option maxRecDepth 100000 in
end
section
variable {X:Cx}
end
end L2
namespace Att
open PySem PySem.W PySem.Calls PyProof.Rows
theorem zCk {P:Params}{h:Heap}:∀ (ns:List Int) (vs:List Value),WellAll P h vs (ns.map WData.int)→IntsAre vs ns:=by
 intro ns
 induction ns with
 | nil =>
  intro vs w;rw [List.map_nil] at w;cases w;exact .nil
 | cons n ns ih =>
  intro vs w;rw [Zq] at w;cases w with
  | cons a b =>
   cases a;exact .cons _ _ (ih _ b)
theorem script_of {l:OpenLaw}{n:Nat} (hn:l.most=some n) {P:Params}{h:Heap}{args:List WData}{vals:List Value}
  (hpre:l.row.toRowW.claim.pre args=true) (hwl:WellAll P h vals args) :
  ∃ a vs ns,vals=[Value.ref a]∧args=[WData.list (ns.map WData.int)]∧h.get? a=some { cls:=.type "list",data:=.seq vs.toArray }∧IntsAre vs ns∧ns.length≤n:=by
 have hsh:WShape.hasAll [] args [.list .int]=true:=(pre_splitW hpre).1;have hc:l.pre.holds [] { args:=args }=true:=(pre_splitW hpre).2;obtain ⟨d,r,rfl,h1,h2⟩:=hasAllW_cons hsh;obtain rfl:=hasAllW_nil h2;obtain ⟨xs,rfl,h3⟩:=hasW_list h1;obtain ⟨ns,rfl⟩:=items_int h3;have hlen:ns.length≤n:=by
  unfold OpenLaw.pre at hc;have h4:(WTm.not (.lt (.lit (.int (n:Int))) (.len (.arg 0)))).holds [] { args:=[.list (ns.map .int)] }=true:=by
   have h4:=(holds_andW hc).1;rw [hn] at h4;exact h4
  have h5:=condW_of h4 (w_not (w_lt w_lit (w_len_list (w_arg rfl))));rw [Ze] at h5;refine Nat.le_of_not_lt fun q=>?_;have q':(n:Int) < ((ns.length:Nat):Int):=by omega
  first
   | (rw [decide_eq_true q'] at h5;exact absurd h5 (by decide))
   | (simp at h5;omega)
 cases hwl with
 | cons w1 w2 =>
  cases w2;cases w1 with
  | list ho hall=>exact ⟨_,_,ns,rfl,rfl,ho,zCk ns _ hall,hlen⟩
theorem post_true (l:OpenLaw) (args:List WData):l.row.toRowW.claim.post args (.bool true) args=true :=
 postW_of (r:=l.row.toRowW) (X:=(true == true))
  (show WShape.has [] (.bool true) .bool=true by first | rfl | decide | simp [WShape.has,WShape.arms,WShape.armsAll])
  (show (WTm.eq .res (.lit (.bool true))).value [] { args:=args,res:=some (.bool true),after:=args }=some (.bool (true == true)) from w_eq_bool (w_res rfl) w_lit) rfl
theorem attach_call {l:OpenLaw}{n:Nat}{q:Program}{loose:List Str}{XP:(Str→Option Value)→Heap→Prop}{YP:World→Heap→Prop}{d:DefRec}
  (hn:l.most=some n) (hdf:d.params.defaults=[])
  (call:∀ (w:World) (s₀ s₁ : Shared) (mg mb:Str→Option Value) (fa:Addr) (o:Obj) (pm cd doc:Value) (a:Addr) (vs:List Value) (ns:List Int),
   Ground q loose [] XP w s₀ mg mb s₁.heap→YP w s₁.heap →
   s₁.heap.get? fa=some o→o.data=.func (docDef d.name d.params d.body d.scope pm cd doc)→s₁.heap.CodeRec cd d.name→mg d.name=some (.ref fa) →
   s₁.heap.get? a=some { cls:=.type "list",data:=.seq vs.toArray }→IntsAre vs ns→ns.length≤n→s₁.gens = #[] →
   codeAny (model l.prog w) callerA (.call (.ref fa) ⟨[.ref a],[]⟩) (fun r s'=>r=.ok (.ret (.bool true))∧OldK s₁.heap s'.heap∧s'.os=s₁.os∧AllBare s'.gens) s₁) :
  WalkO q loose XP YP l.row.toRowW d [] (fun f vs=>PySem.call f vs):=by
 intro w s₀ s₁ mg mb G Y fa o pm cd doc dV kV ho hd hcd hD hmg hg args vals as hpre hlay hrd hwl hlo;obtain rfl:dV=.none:=Dflts.none hD hdf;obtain rfl:kV=.none:=Dflts.noKw hD;obtain ⟨a,vs,ns,rfl,rfl,hobj,hints,hlen⟩:=script_of hn hpre hwl;refine enter_call (codeAny_mono (call w s₀ s₁ mg mb fa o pm cd doc a vs ns G Y ho (fd_plain hd) hcd hmg hobj hints hlen hg) fun r s' hq=>?_);obtain ⟨rfl,h2,h3,h4⟩:=hq;exact ⟨.inl ⟨.bool true,.bool true,[],rfl,fun _=>rfl,.bool true,post_true l _,fun _=>⟨List.Pairwise.nil,fun _ hm=>(nomatch hm)⟩⟩,h2,h3,h4⟩
section
variable {prog:Program}{w:World}{A:Around}{E:Value→Shared→Prop}{s:Shared}{K:Frag}
noncomputable def ledger (h:Heap) (L d:Addr):List (Addr×Obj):=(List.range h.objs.size).filterMap fun a=>if a=L∨a=d then none else (h.get? a).map fun o=>(a,o)
end
end Att
namespace L2
open PySem PySem.Spec PyProof.Rows
theorem vals_ints:∀ {vs:List Value}{ns:List Int},IntsAre vs ns→Vals (ns.map V.int) vs
 | _,_,.nil=>.nil
 | _,_,.cons n t h=>.cons ⟨t,rfl⟩ (vals_ints h)
end L2
namespace L2
open PySem PySem.Spec PyProof.Rows
noncomputable abbrev KOf {K:PySem.W.Frag}{h:Heap} (_:K.In h):PySem.W.Frag:=K
end L2
namespace L2
open PySem PySem.Spec PyProof.Rows
noncomputable def inClass (s:Stmt) (j:Nat):Stmt:=match s with
 | .ClassDef _ _ _ body _ _ _ _ _ _ _=>body.getD j (.Pass ⟨0,0,0,0⟩)
 | _=>.Pass ⟨0,0,0,0⟩
noncomputable def defArgs (s:Stmt):Arguments:=match s with
 | .FunctionDef _ a _ _ _ _ _ _ _ _=>a
 | _=>{ posonlyargs:=[],args:=[],vararg:=none,kwonlyargs:=[],kw_defaults:=[],kwarg:=none,defaults:=[] }
noncomputable def defBody (s:Stmt):List Stmt:=match s with
 | .FunctionDef _ _ b _ _ _ _ _ _ _=>b
 | _=>[]
noncomputable def defScope (s:Stmt):Scope:=match s with
 | .FunctionDef _ _ _ _ _ _ sc _ _ _=>sc
 | _=>{ kind:=.function,names:=[],isGenerator:=false,isCoroutine:=false }
noncomputable abbrev CX0:CXT:=fun _ _ _ _ _ _=>False
noncomputable abbrev E0:St→XK:=fun _ _ _ _=>False
structure Fun (K:PySem.W.Frag) (x qual:Str) (st:Stmt) (f:Addr) (fd:FuncData):Prop where
 ex:∃ (oc:Value) (od:Option Addr) (kV doc pm:Value) (an:Option Addr) (cdv ct:Value) (osl:Array (Option Value)),
  fd=PySem.W.fnOf x qual (defArgs st) (defBody st) (defScope st) .none kV doc pm an cdv ct∧K.lookup f=some ⟨oc,od,.func fd,osl⟩∧PySem.W.codeIn K cdv qual=true
 kp:PySem.W.keepIn K (.ref f)=true
section
variable {P:Program}{w:World}{K:PySem.W.Frag}{mg:Str→Option Value}{base:Heap}
theorem Fun.ok {x qual:Str}{st:Stmt}{f:Addr}{fd:FuncData}{N ps:List Str}{k:Nat}{sp:Sp} (F:Fun K x qual st f fd) (S:FnScope N ps (defScope st)) (len:∀ vs H Q E,sp vs H Q E→vs.length=ps.length)
  (hbody:∀ (cdv:Value) (A:Around) (outer:List Env) (s:Shared) (H:Hp) (vs:List V) (Q:VK) (E:XK),Room k (A.deeper (envOfC qual (defScope st) s.heap.objs.size f cdv))→sp vs H Q E →
   ∃ t,PSs (cxOf CX0 P w K mg base N qual (defScope st) f cdv A outer s H E).nox (defBody st) t∧t { nx:=fun _ H'=>Q .non H',rt:=Q } (start N vs) H):FnOk P w K mg base CX0 (k + 1) f fd ps sp:=by
 obtain ⟨oc,od,kV,doc,pm,an,cdv,ct,osl,rfl,lk,hcd⟩:=F.ex;refine fn_of lk hcd S len fun A outer s H vs Q E hr hsp=>?_;obtain ⟨t,h,q⟩:=hbody cdv A outer s H vs Q E hr hsp;exact ⟨t,h.nox,q⟩
theorem Fun.binds {x qual:Str}{st:Stmt}{f:Addr}{fd:FuncData}{ps:List Str} (F:Fun K x qual st f fd)
  (h:∀ (kV doc pm:Value) (an:Option Addr) (cdv ct:Value) (us:List Value),us.length=ps.length→bindArgs (PySem.W.fnOf x qual (defArgs st) (defBody st) (defScope st) .none kV doc pm an cdv ct) ⟨us,[]⟩=pure (ps.zip us)):Binds K fd ps []:=by
 obtain ⟨oc,od,kV,doc,pm,an,cdv,ct,osl,rfl,lk,hcd⟩:=F.ex;exact .all (h kV doc pm an cdv ct)
theorem fun_mk {x qual:Str}{st:Stmt}{f:Addr}{oc:Value}{od an:Option Addr}{osl:Array (Option Value)}{kV doc pm cdv ct:Value} (l:K.lookup f=some ⟨oc,od,.func (PySem.W.fnOf x qual (defArgs st) (defBody st) (defScope st) .none kV doc pm an cdv ct),osl⟩)
  (c:PySem.W.codeIn K cdv qual=true) (k:PySem.W.keepIn K (.ref f)=true):Fun K x qual st f (PySem.W.fnOf x qual (defArgs st) (defBody st) (defScope st) .none kV doc pm an cdv ct):=⟨⟨oc,od,kV,doc,pm,an,cdv,ct,osl,rfl,l,c⟩,k⟩
end
theorem small1000 {n:Nat} (h:n≤1000):n < sizeLine:=Nat.lt_of_le_of_lt h (by decide)
section
variable {X:Cx}
theorem pv (i:Nat) {x:Str}{pos:Pos} (hN:X.N[i]? = some x:=by rfl) (hv:Vis X.env.scope x:=by first | exact Or.inl rfl | exact Or.inr (Or.inl rfl) | exact Or.inr (Or.inr rfl)) (hd:(x == ("__debug__" : Str))=false:=by decide)
  (hcd:(x == ("__classdict__" : Str))=false:=by decide):PE X (.Name x pos) (tVar i):=pe_var hN hv hd hcd
end
theorem iteF {A B:Prop} (h:B):if false=true then A else B:=by
 rw [if_neg Z2];exact h
theorem iteT {A B:Prop} (h:A):if true=true then A else B:=by
 rw [if_pos rfl];exact h
theorem ite2 {c A B:Prop} [Decidable c] (h1:c→A) (h2:¬ c→B):if c then A else B:=by
 by_cases h:c
 ·rw [if_pos h];exact h1 h
 ·rw [if_neg h];exact h2 h
noncomputable def Same (H H':Hp):Prop:=∀ b o,H b=some o→H' b=some o
theorem Same.refl (H:Hp):Same H H:=fun _ _ h=>h
theorem Same.trans {H H1 H2:Hp} (a:Same H H1) (b:Same H1 H2):Same H H2:=fun c o h=>b c o (a c o h)
theorem Same.free {H H':Hp} (e:Same H H') {l:Addr} (h:H' l=Option.none):H l=Option.none:=by
 cases q:H l with
 | none=>rfl
 | some o =>
  rw [e l o q] at h;cases h
end L2
namespace L2
open PySem PySem.Spec PyProof.Rows
section
variable {κ : Type} [DecidableEq κ]
noncomputable def valV (kvs:List (κ×V)) (k : κ):Option V:=(kvs.find? fun kv=>decide (kv.1=k)).map (·.2)
noncomputable def putK (kvs:List (κ×V)) (k : κ) (v:V):List (κ×V) :=
 if (kvs.any fun kv=>decide (kv.1=k))=true then kvs.map (fun kv=>if kv.1=k then (kv.1,v) else kv) else kvs++[(k,v)]
noncomputable def dropK (kvs:List (κ×V)) (k : κ):List (κ×V):=kvs.filter fun kv=>decide (kv.1≠k)
theorem length_putK (kvs:List (κ×V)) (k : κ) (v:V):(putK kvs k v).length≤kvs.length + 1:=by
 unfold putK;split
 ·rw [Ze];omega
 ·rw [Zc,Z7,List.length_nil];omega
theorem KV.any {kvs:List (κ×V)}{vs:List (κ×Value)} (r:KV kvs vs) (k : κ):(kvs.any fun kv=>decide (kv.1=k))=vs.any fun kv=>decide (kv.1=k):=by
 unfold KV at r
 induction r with
 | nil=>rfl
 | cons h t ih=>rw [List.any_cons,List.any_cons,ih,h.1]
theorem KV.repl {kvs:List (κ×V)}{vs:List (κ×Value)} (r:KV kvs vs) (k : κ) {y:V}{u:Value} (ry:RelV y u) :
  KV (kvs.map fun kv=>if kv.1=k then (kv.1,y) else kv) (vs.map fun kv=>if kv.1=k then (kv.1,u) else kv):=by
 unfold KV at r ⊢
 induction r with
 | nil=>exact .nil
 | @cons p q ps qs h t ih =>
  rw [Zq,Zq];refine .cons ?_ ih;obtain ⟨h1,h2⟩:=h;by_cases e:p.1=k
  ·rw [if_pos e,if_pos (h1.symm.trans e)];exact ⟨h1,ry⟩
  ·rw [if_neg e,if_neg (fun z=>e (h1.trans z))];exact ⟨h1,h2⟩
theorem KV.put {kvs:List (κ×V)}{vs:List (κ×Value)} (r:KV kvs vs) (k : κ) {y:V}{u:Value} (ry:RelV y u):KV (putK kvs k y) (stored vs k u):=by
 unfold putK stored;rw [r.any k];by_cases e:(vs.any fun kv=>decide (kv.1=k))=true
 ·rw [if_pos e,if_pos e];exact r.repl k ry
 ·rw [if_neg e,if_neg e];exact Paired.snoc r ⟨rfl,ry⟩
theorem KV.drop {kvs:List (κ×V)}{vs:List (κ×Value)} (r:KV kvs vs) (k : κ):KV (dropK kvs k) (without vs k):=by
 unfold KV at r ⊢;unfold dropK without
 induction r with
 | nil=>exact .nil
 | @cons p q ps qs h t ih =>
  obtain ⟨h1,h2⟩:=h;rw [List.filter_cons,List.filter_cons];by_cases e:p.1=k
  ·have a:¬ decide (p.1≠k)=true:=by simp [e]
   have b:¬ decide (q.1≠k)=true:=by simp [h1.symm.trans e]
   rw [if_neg a,if_neg b];exact ih
  ·have e':¬ q.1=k:=fun z=>e (h1.trans z);have a:decide (p.1≠k)=true:=by simp [e]
   have b:decide (q.1≠k)=true:=by simp [e']
   rw [if_pos a,if_pos b];exact .cons ⟨h1,h2⟩ ih
theorem KV.length {kvs:List (κ×V)}{vs:List (κ×Value)} (r:KV kvs vs):kvs.length=vs.length:=Paired.length r
end
theorem kV_is {P:Program}{w:World}{k:Key}{u:Value} (r:RelV (kV k) u):(mixKind P w).is k u=true:=by
 cases k with
 | inl i=>obtain ⟨t,e⟩:=(show ∃ t,u=Value.int i t from r);subst e;exact mixKind_int P w i t
 | inr x=>obtain ⟨t,e⟩:=(show ∃ t,u=Value.str x t from r);subst e;exact mixKind_str P w x t
section
variable {P:Program}{w:World}{H:Hp}{h:Heap}{a:Addr}
theorem rd_of {u:HO} (ok:HOk P w H h) (e:Rd H a u):ObjOk P w H h a u:=e.ok ok
theorem dk_rd {kvs:List (Key×V)} (ok:HOk P w H h) (e:Rd H a (.dK kvs)):kvs.length≤sizeLine∧(a == sysModules)=false∧∃ vs,KV kvs vs∧h.DictOf (mixKind P w) a vs :=
 show ObjOk P w H h a (.dK kvs) from rd_of ok e
theorem dk_of {kvs:List (Key×V)} (ok:HOk P w H h) (e:H a=some (.dK kvs)):kvs.length≤sizeLine∧(a == sysModules)=false∧∃ vs,KV kvs vs∧h.DictOf (mixKind P w) a vs:=dk_rd ok (.inl e)
end
noncomputable def DGet (H:Hp) (a:Addr) (y:V) (r:Option V):Prop :=
 (∃ kvs k,Rd H a (.dK kvs)∧y=kV k∧r=valV kvs k)∨∃ kvs k b,Rd H a (.dT kvs)∧y=.ref b∧H b=some (.tup (k.map kV))∧r=valV kvs k
noncomputable def DPut (H:Hp) (a:Addr) (y v:V) (H':Hp):Prop :=
 (∃ kvs k,H a=some (.dK kvs)∧y=kV k∧kvs.length < sizeLine∧H'=upd H a (.dK (putK kvs k v))) ∨
 ∃ kvs k b,H a=some (.dT kvs)∧y=.ref b∧H b=some (.tup (k.map kV))∧kvs.length < sizeLine∧H'=upd H a (.dT (putK kvs k v))
theorem DGet.k {H:Hp}{a:Addr}{kvs:List (Key×V)}{k:Key} (e:H a=some (.dK kvs)):DGet H a (kV k) (valV kvs k):=.inl ⟨kvs,k,.inl e,rfl,rfl⟩
theorem DGet.t {H:Hp}{a b:Addr}{kvs:List (List Key×V)}{k:List Key} (e:H a=some (.dT kvs)) (eb:H b=some (.tup (k.map kV))):DGet H a (.ref b) (valV kvs k):=.inr ⟨kvs,k,b,.inl e,rfl,eb,rfl⟩
theorem DPut.k {H:Hp}{a:Addr}{kvs:List (Key×V)}{k:Key}{v:V} (e:H a=some (.dK kvs)) (hl:kvs.length < sizeLine):DPut H a (kV k) v (upd H a (.dK (putK kvs k v))):=.inl ⟨kvs,k,e,rfl,hl,rfl⟩
theorem DPut.t {H:Hp}{a b:Addr}{kvs:List (List Key×V)}{k:List Key}{v:V} (e:H a=some (.dT kvs)) (eb:H b=some (.tup (k.map kV))) (hl:kvs.length < sizeLine) :
  DPut H a (.ref b) v (upd H a (.dT (putK kvs k v))):=.inr ⟨kvs,k,b,e,rfl,eb,hl,rfl⟩
section
variable {X:Cx}{pins:List (Addr×Obj)}{σ : St}{H:Hp}{s:Shared}{a:Addr}{y v:V}{u r:Value}{o:Option V}{A:Around}{E:Value→Shared→Prop}
theorem Inv.big (I:Inv X pins σ H s):sysModules < s.heap.objs.size:=by
 have h:mainGlobals < s.heap.objs.size:=(I.mod.glob.keeps I.bk).lt;exact Nat.lt_trans (by decide) h
theorem d_write {h':Heap}{t':Nat}{ob:HO} (I:Inv X pins σ H s) (mu:Mut (H a)) (hs:Heap.SameBut a s.heap h') (he:∃ q,h'.get? a=some q) (new:ObjOk X.prog X.w (upd H a ob) h' a ob) :
  Inv X pins σ (upd H a ob) { s with heap:=h',toks:=t' } :=
 I.write (x:=a) (e:=a) mu (.inl rfl) (fun b q hb z=>(hs.2 b hb).trans z) he new
theorem dk_new {P:Program}{w:World}{H':Hp}{h':Heap}{kvs:List (Key×V)}{vs:List (Key×Value)} (z:kvs.length≤sizeLine) (hd:(a == sysModules)=false) (rel:KV kvs vs) (dd:h'.DictOf (mixKind P w) a vs) :
  ObjOk P w H' h' a (.dK kvs):=⟨z,hd,vs,rel,dd⟩
end
section
variable {X:Cx}{pins:List (Addr×Obj)}{σ : St}{H:Hp}{s:Shared}{a:Addr}{kvs:List (Key×V)}{k:Key}{u:Value}{A:Around}{E:Value→Shared→Prop}
end
section
variable {X:Cx}{o i e value:Expr}{pos pos' tpos:Pos}{td ty tv:TE}
end
theorem dk_empty {P:Program}{w:World}{H:Hp} (h:Heap) (hb:sysModules < h.objs.size):ObjOk P w H (h.push { cls:=.type "dict",data:=.dict #[] }) h.objs.size (.dK []) :=
 ⟨Zs _,beq_eq_false_iff_ne.mpr (Ne.symm (Z6 hb)),[],.nil,Heap.DictOf.new h⟩
noncomputable def tDNewK:TE:=fun _ H Q=>∀ p,H p=none→Q (.ref p) (upd H p (.dK []))
section
variable {X:Cx}{pos:Pos}
theorem zCd:PE X (.Dict [] [] pos) tDNewK:=fun pins s σ H Q I h =>
 wpAny_Dict_empty ⟨.ref s.heap.objs.size,_,I.laid (a:=s.heap.objs.size) (o:=.dK []) (t':=s.toks) (fun _ _ q=>Z0 _ q) (Z5 _) (dk_empty s.heap I.big),rfl,h _ (I.hok.fresh (Z5 _))⟩
end
noncomputable def tPairs:List (TE×TE)→St→Hp→(List (V×V)→Hp→Prop)→Prop
 | [],_,H,Q=>Q [] H
 | (tk,tv) :: r,σ,H,Q=>tk σ H fun x H1=>tv σ H1 fun y H2=>tPairs r σ H2 fun ps H3=>Q ((x,y) :: ps) H3
noncomputable abbrev VV:List (V×V)→List (Value×Value)→Prop:=Paired fun p q=>RelV p.1 q.1∧RelV p.2 q.2
noncomputable def PPs (X:Cx) (pos:Pos) (keys:List (Option Expr)) (values:List Expr) (trs:List (TE×TE)):Prop :=
 ∀ (pins:List (Addr×Obj)) (s:Shared) (σ : St) (H:Hp) (Q:List (V×V)→Hp→Prop),Inv X pins σ H s→tPairs trs σ H Q →
  wpAny (model X.prog X.w) X.A (evalPairs (pairTrees keys values X.env pos)) (fun vs s'=>∃ ps H',Inv X pins σ H' s'∧VV ps vs∧Q ps H') X.xe s
theorem pps_nil {X:Cx}{pos:Pos}:PPs X pos [] [] []:=fun pins s σ H Q I h=>pairTrees_nil_walk ⟨[],H,I,.nil,h⟩
theorem zCw {X:Cx}{pos:Pos}{k v:Expr}{ks:List (Option Expr)}{vs:List Expr}{tk tv:TE}{trs:List (TE×TE)} (hk:PE X k tk) (hv:PE X v tv) (hr:PPs X pos ks vs trs) :
  PPs X pos (some k :: ks) (v :: vs) ((tk,tv) :: trs):=fun pins s σ H Q I h =>
 pairTrees_cons_walk (thn (hk pins s σ H _ I h) fun u s1 ⟨x,H1,I1,rx,q1⟩=>thn (hv pins s1 σ H1 _ I1 q1) fun w2 s2 ⟨y,H2,I2,ry,q2⟩ =>
  thn (hr pins s2 σ H2 _ I2 q2) fun ws s3 ⟨ps,H3,I3,rel,q3⟩=>⟨(x,y) :: ps,H3,I3,.cons ⟨rx,ry⟩ rel,q3⟩)
noncomputable def mergeK (kvs more:List (Key×V)):List (Key×V):=more.foldl (fun acc kv=>putK acc kv.1 kv.2) kvs
theorem KV.merge:∀ {more:List (Key×V)}{rs:List (Key×Value)}{kvs:List (Key×V)}{vs:List (Key×Value)},KV more rs→KV kvs vs→KV (mergeK kvs more) (merged vs rs):=by
 intro more rs kvs vs r;unfold KV at r
 induction r generalizing kvs vs with
 | nil=>intro q;exact q
 | @cons p q ps qs h t ih =>
  intro r0;have e:KV (putK kvs p.1 p.2) (stored vs q.1 q.2):=by
   have:=r0.put p.1 h.2;rw [← h.1];exact this
  exact ih e
theorem zBy:∀ (more kvs:List (Key×V)),(mergeK kvs more).length≤kvs.length + more.length
 | [],kvs=>by show kvs.length≤kvs.length + 0;omega
 | p :: r,kvs=>by
  have h1:=zBy r (putK kvs p.1 p.2);have h2:=length_putK kvs p.1 p.2;show (mergeK (putK kvs p.1 p.2) r).length≤_;rw [Z7];omega
theorem zCq {P:Program}{w:World}:∀ {kvs:List (Key×V)}{ws:List (Value×Value)},VV (kvs.map fun kv=>(kV kv.1,kv.2)) ws→∃ rs,Carries (mixKind P w) ws rs∧KV kvs rs
 | [],_,r=>by rw [List.map_nil] at r;cases r;exact ⟨[],True.intro,.nil⟩
 | p :: kvs,_,r=>by
  rw [Zq] at r;cases r with
  | @cons a b as bs h t =>
   obtain ⟨rs,c,q⟩:=zCq (P:=P) (w:=w) t;obtain ⟨b1,b2⟩:=b;exact ⟨(p.1,b2) :: rs,⟨kV_is h.1,rfl,c⟩,.cons ⟨rfl,h.2⟩ q⟩
noncomputable def tDisp (trs:List (TE×TE)):TE:=fun σ H Q=>∀ p,H p=none→tPairs trs σ (upd H p (.dK [])) fun ps H2=>H2 p=some (.dK [])∧∃ kvs:List (Key×V),ps=kvs.map (fun kv=>(kV kv.1,kv.2))∧kvs.length≤15∧Q (.ref p) (upd H2 p (.dK (mergeK [] kvs)))
theorem pe_disp {X:Cx}{pos:Pos}{keys:List (Option Expr)}{values:List Expr}{trs:List (TE×TE)} (h:PPs X pos keys values trs) (hall:keys.all (·.isSome)=true) (hl:keys.length=values.length) (h0:keys≠[])
  (h15:keys.length≤15):PE X (.Dict keys values pos) (tDisp trs):=by
 intro pins s σ H Q I q;have hn:=I.hok.fresh (Z5 s.heap.objs.size);have I1:=I.laid (a:=s.heap.objs.size) (o:=.dK []) (h':=s.heap.push { cls:=.type "dict",data:=.dict #[] }) (t':=s.toks) (fun _ _ q=>Z0 _ q) (Z5 _) (dk_empty s.heap I.big);refine wpAny_Dict_walk (knd:=mixKind X.prog X.w) hall hl h0 h15 (thn (h pins _ σ _ _ I1 (q _ hn)) fun ws s2 ⟨ps,H2,I2,rel,e,kvs,ep,lk,q2⟩=>?_);subst ep;obtain ⟨rs,c,rk⟩:=zCq (P:=X.prog) (w:=X.w) rel;obtain ⟨z,hd,vs0,r0,dd⟩:=dk_of I2.hok e;cases r0;refine ⟨rs,c,dd,fun h' dd' hs=>⟨.ref s.heap.objs.size,_,?_,rfl,q2⟩⟩;have hz:(mergeK [] kvs).length≤sizeLine:=by
  have h1:=zBy kvs [];rw [List.length_nil] at h1;rw [sizeLine_eq];omega
 have he:∃ q,h'.get? s.heap.objs.size=some q:=let ⟨q,_,_,hq,_⟩:=dd';⟨q,hq⟩;exact d_write I2 (by rw [e];exact True.intro) hs he (dk_new hz hd (rk.merge .nil) dd')
section
variable {X:Cx}{pins:List (Addr×Obj)}{σ : St}{H:Hp}{s:Shared}{a:Addr}{y d:V}{u r:Value}{o:Option V}{A:Around}{E:Value→Shared→Prop}
end
section
variable {X:Cx}{o e f:Expr}{apos cpos:Pos}{td ty tx:TE}
end
section
variable {X:Cx}{pins:List (Addr×Obj)}{σ : St}{H:Hp}{s:Shared}{a:Addr}{kvs:List (Key×V)}{A:Around}{E:Value→Shared→Prop}
end
section
variable {X:Cx}{pins:List (Addr×Obj)}{σ : St}{H:Hp}{s:Shared}{a:Addr}{y:V}{u:Value}{A:Around}{E:Value→Shared→Prop}
end
end L2
namespace L2
open PySem PySem.Spec PyProof.Rows
noncomputable def PFs (X:Cx) (ifs:List Expr) (t:TT):Prop :=
 ∀ (pins:List (Addr×Obj)) (s:Shared) (σ : St) (H:Hp) (Q:Bool→Hp→Prop),Inv X pins σ H s→t σ H Q →
  wpAny (model X.prog X.w) X.A (forIn ifs true fun c r=>if r=true then do let ok ← isTrue c X.env (eval c X.env);pure (ForInStep.yield ok) else pure (ForInStep.yield r)) (TP X pins σ Q) X.xe s
noncomputable def tYes:TT:=fun _ H Q=>Q true H
theorem zC6 {X:Cx}:PFs X [] tYes:=fun _ _ _ H _ I h=>wpAny_tests_nil ⟨H,I,h⟩
section
variable {prog:Program}{w:World}{A:Around}{R:Result→Shared→Prop}
theorem comp_loop {elt tg iter:Expr}{ifs:List Expr}{sc:Scope}{pos:Pos}{it acc:Value}{env:Env} (J:Nat→Shared→Prop) (N:Value→Shared→Prop)
  (hN:N=notedBy (model prog w) A env fun e z=>R (.error e) z)
  (turn:∀ k z,J k z→wpAny (model prog w) A (pyNext it) (fun r z1=>match r with
   | none=>R (.ok .next) z1
   | some v=>wpAny (model prog w) A (letOwnedTupleGo tg it v) (fun _ z2=>wpAny (model prog w) A (assign tg env v) (fun _ z3 =>
     wpAny (model prog w) A (forIn ifs true fun c r=>if r=true then do let ok ← isTrue c env (eval c env);pure (ForInStep.yield ok) else pure (ForInStep.yield r)) (fun ok z4 =>
      if ok=true then wpAny (model prog w) A (eval elt env) (fun y z5=>wpAny (model prog w) A (call (.builtin "list.append") [acc,y]) (fun _ z6=>∃ j,j < k∧J j z6) N z5) N z4
      else ∃ j,j < k∧J j z4) N z3) N z2) N z1) N z)
  {z:Shared} (k:Nat) (h:J k z):codeAny (model prog w) A (.compLoop (.ListComp elt [⟨tg,iter,ifs,0⟩] sc pos) 0 it acc env) R z:=by
 subst hN;refine codeAny_loop rfl J (fun k z hJ=>?_) k h;show wpAny _ A ((compTurn (.ListComp elt [⟨tg,iter,ifs,0⟩] sc pos) 0 it acc env).onRaise (fun x=>do noteFrame x env;theTreesLotGoes x)) _ _ z;refine wpAny_noted ?_;rw [compTurn_list];refine wpAny_bind (wpAny_standAt (wpAny_bind (thn (turn k z hJ) fun r z1 h1=>?_)));cases r with
 | none=>exact wpAny_pure h1
 | some v =>
  refine wpAny_bind (thn h1 fun _ z2 h2=>?_);refine wpAny_bind (thn h2 fun _ z3 h3=>?_);refine wpAny_bind (thn h3 fun ok z4 h4=>?_);cases ok with
  | false=>exact wpAny_pure ⟨rfl,h4⟩
  | true=>exact wpAny_bind (wpAny_bind (thn h4 fun y z5 h5=>wpAny_bind (thn h5 fun _ z6 h6=>wpAny_pure (wpAny_pure ⟨rfl,h6⟩))))
end
noncomputable def cxComp (X:Cx) (sc:Scope) (cl:List (Str×Addr)) (T:List Str) (C:Addr) (s2:Shared) (H2:Hp) (fp:List Addr):Cx where
 prog:=X.prog
 w:=X.w
 K:=X.K
 mg:=X.mg
 base:=X.base
 A:=X.A
 N:=X.N++T
 s₀:=s2
 H₀:=H2
 env:=compEnvC sc cl C X.env
 outer:=X.stack
 stack:=X.stack
 ex:=fp
 fn:=fun _=>false
 calm:=X.calm
 pn:=[]
 xe:=fun _ _=>False
noncomputable def ClOk (X:Cx):List (Str×Addr)→Prop
 | []=>True
 | p :: r=>X.env.cells.lookup p.1=some p.2∧ClOk X r
theorem ClOk.look {X:Cx}:∀ {cl:List (Str×Addr)},ClOk X cl→∀ x c,cl.lookup x=some c→X.env.cells.lookup x=some c
 | [],_,_,_,h=>by cases h
 | p :: r,k,x,c,h=>by
  cases e:x == p.1 with
  | true =>
   rw [Zl,e] at h;have ex:x=p.1:=by simpa using e
   rw [ex,k.1];exact h
  | false =>
   rw [Zl,e] at h;exact ClOk.look k.2 x c h
structure ScOk (X:Cx) (sc:Scope) (cl:List (Str×Addr)) (T:List Str):Prop where
 clos:closureFor sc X.env=pure cl
 cell:∀ y∈sc.names,y.2≠.cell
 kind:sc.kind=.function
 names:∀ x∈sc.names,x.2=.local→sc.names.lookup x.1=some .local
 cls:ClOk X cl
 has:∀ x∈sc.names,x.2=.free→(cl.lookup x.1).isSome=true∧(X.env.scope.names.lookup x.1=some .cell∨X.env.scope.names.lookup x.1=some .free)
 out:∀ x∈X.N,sc.names.lookup x≠some .local
theorem zC2 {sc:Scope}{env:Env}{x:Str}{k:NameKind}:∀ {names:List (Str×NameKind)},
  (names.map fun (n,k)=>if (k == NameKind.free && env.scope.kind == .function && env.kindOf n == some .cell) then (n,NameKind.cell) else (n,k)).lookup x=some k →
  ∃ j,(x,j)∈names∧names.lookup x=some j∧(j=k∨(j=.free∧k=.cell))
 | [],h=>by cases h
 | (n,j) :: r,h=>by
  cases e:x == n with
  | true =>
   have ex:x=n:=by simpa using e
   subst ex;refine ⟨j,Zj,by rw [Zl,e],?_⟩;have h':List.lookup x ((if (j == NameKind.free && env.scope.kind == .function && env.kindOf x == some .cell)=true then (x,NameKind.cell) else (x,j)) :: _)=some k:=h;by_cases c:(j == NameKind.free && env.scope.kind == .function && env.kindOf x == some .cell)=true
   ·rw [if_pos c,Zl,e] at h';have c1:(j == NameKind.free)=true:=by
     cases q:(j == NameKind.free) with
     | true=>rfl
     | false=>rw [q] at c;simp at c
    exact .inr ⟨by simpa using c1,(Zb h').symm⟩
   ·rw [if_neg c,Zl,e] at h';exact .inl (Zb h')
  | false =>
   have h':List.lookup x ((if (j == NameKind.free && env.scope.kind == .function && env.kindOf n == some .cell)=true then (n,NameKind.cell) else (n,j)) :: _)=some k:=h;have h2:(List.map (fun (n,k)=>if (k == NameKind.free && env.scope.kind == .function && env.kindOf n == some .cell) then (n,NameKind.cell) else (n,k)) r).lookup x=some k:=by
    by_cases c:(j == NameKind.free && env.scope.kind == .function && env.kindOf n == some .cell)=true
    ·rw [if_pos c,Zl,e] at h';exact h'
    ·rw [if_neg c,Zl,e] at h';exact h'
   obtain ⟨i,m,l,q⟩:=zC2 (sc:=sc) (env:=env) h2;exact ⟨i,Z9 _ m,by rw [Zl,e];exact l,q⟩
section
variable {X:Cx}{sc:Scope}{cl:List (Str×Addr)}{T:List Str}
theorem ScOk.seen (S:ScOk X sc cl T) {C:Addr}{x:Str} (h:(compEnvC sc cl C X.env).scope.names.lookup x=some .cell∨(compEnvC sc cl C X.env).scope.names.lookup x=some .free) :
  (∃ c,cl.lookup x=some c)∧(X.env.scope.names.lookup x=some .cell∨X.env.scope.names.lookup x=some .free):=by
 have key:∀ k,(k=.cell∨k=.free)→(relabel sc X.env).names.lookup x=some k→(∃ c,cl.lookup x=some c)∧(X.env.scope.names.lookup x=some .cell∨X.env.scope.names.lookup x=some .free):=by
  intro k hk h;obtain ⟨j,m,l,q⟩:=zC2 (sc:=sc) (env:=X.env) h;have jf:j=.free:=by
   rcases q with rfl | ⟨q,_⟩
   ·rcases hk with rfl | rfl
    ·exact absurd rfl (S.cell _ m)
    ·rfl
   ·exact q
  subst jf;obtain ⟨a,b⟩:=S.has _ m rfl;exact ⟨Option.isSome_iff_exists.mp a,b⟩
 rcases h with h | h
 ·exact key _ (.inl rfl) h
 ·exact key _ (.inr rfl) h
theorem ScOk.local_out (S:ScOk X sc cl T) {C:Addr}{x:Str} (hx:x∈X.N):(compEnvC sc cl C X.env).scope.names.lookup x≠some .local:=by
 intro h;obtain ⟨j,m,l,q⟩:=zC2 (sc:=sc) (env:=X.env) h;rcases q with rfl | ⟨_,q⟩
 ·exact S.out x hx l
 ·cases q
variable {pins:List (Addr×Obj)}{σ : St}{H:Hp}{s:Shared}{fp:List Addr}{C:Addr}
theorem comp_ok (S:ScOk X sc cl T) (I:Inv X pins σ H s) (hf:∀ b∈fp,FpOk X pins H b) (hl:∀ b∈fp,b < s.heap.objs.size) (hC:s.heap.objs.size≤C):(cxComp X sc cl T C s H fp).Ok where
 mod:=I.ok.mod
 kind:=S.kind
 glob:=I.ok.glob
 blt:=I.ok.blt
 above:=hC
 inj:=fun x y c h1 h2=>I.ok.inj x y c (S.cls.look x c h1) (S.cls.look y c h2)
 has:=fun x hx=>(S.seen hx).1
 cab:=fun x c h=>by cases h
 hd:=I.ok.hd
 frames:=I.ok.frames
 stk:=.inl rfl
 exf:=fun b hb=>⟨Z6 (Z1 (hl b hb) hC),fun x c h=>(hf b hb).2.2.2.2.1 x c (S.cls.look x c h)⟩
 bs:=I.bs
 bsz:=Zg I.ok.bsz I.sz
 noex:=fun b o e hb=>by
  rcases (hf b hb).2.2.2.1 with z | z
  ·exact I.ok.noex b o e z
  ·exact absurd (Z1 (Z4 e) (Zg I.ok.bsz z)) (Zu _)
 exfs:=fun b hb z=>by
  rcases List.mem_cons.mp (I.stkSub b z) with e | e
  ·exact (hf b hb).2.1 e
  ·exact (hf b hb).2.2.1 e
 funs:=I.stack
 frf:=I.stkFree
theorem comp_inv (S:ScOk X sc cl T) (I:Inv X pins σ H s) (hf:∀ b∈fp,FpOk X pins H b) (hl:∀ b∈fp,b < s.heap.objs.size) (hC:s.heap.objs.size≤C) {h1:Heap}{m:Str→Option Value}{t1:Nat}
  (k:∀ b o,s.heap.get? b=some o→h1.get? b=some o) (hn:h1.Ns C m):Inv (cxComp X sc cl T C s H fp) [] (σ++List.replicate T.length none) H { s with heap:=h1,toks:=t1 } where
 ok:=comp_ok S I hf hl hC
 os:=rfl
 bare:=I.bare
 base:=Un.kept k
 loc:=by
  refine ⟨m,hn,fun i x v e1 e2 e3=>?_⟩;have hi:i < σ.length:=by
   by_cases hi:i < σ.length
   ·exact hi
   ·rw [Zt (Nat.not_lt.mp hi),List.getElem?_replicate] at e2;split at e2 <;> cases e2
  rw [Zi hi] at e2;have e1':X.N[i]? = some x:=by
   have e:(X.N++T)[i]? = some x:=e1
   rwa [Zi (by rw [← I.len];exact hi)] at e
  have hx:x∈X.N:=List.mem_of_getElem? e1';have e3':(compEnvC sc cl C X.env).scope.names.lookup x=some .cell∨(compEnvC sc cl C X.env).scope.names.lookup x=some .free:=by
   rcases e3 with z | z | z
   ·exact absurd z (S.local_out hx)
   ·exact .inl z
   ·exact .inr z
  obtain ⟨⟨c,hc⟩,ko⟩:=S.seen e3';obtain ⟨m0,hn0,hl0⟩:=I.loc;obtain ⟨u,r,l⟩:=hl0 i x v e1' e2 (.inr ko);refine ⟨u,r,.inr ⟨e3',c,hc,?_⟩⟩;have hc':=S.cls.look x c hc;rcases l with ⟨kl,_⟩ | ⟨_,c',hc2,z⟩
  ·have kl':X.env.scope.names.lookup x=some .local:=kl;rcases ko with q | q
   ·rw [q] at kl';cases kl'
   ·rw [q] at kl';cases kl'
  ·rw [hc'] at hc2;cases hc2;obtain ⟨o,ho,hd⟩:=z;exact ⟨o,k _ _ ho,hd⟩
 cell:=fun x c hc=>by
  obtain ⟨v,o,ho,hd⟩:=I.cell x c (S.cls.look x c hc);exact ⟨v,o,k _ _ ho,hd⟩
 free:=I.hok.fresh hC
 freeC:=fun x c hc=>I.freeC x c (S.cls.look x c hc)
 pin:=fun p hp=>absurd (show p∈([]:List (Addr×Obj)) from hp) (by simp)
 hok:=I.hok.kept k
 len:=by
  show (σ++List.replicate T.length none).length=(X.N++T).length;rw [Zc,Zc,List.length_replicate,I.len]
theorem comp_out (S:ScOk X sc cl T) (I:Inv X pins σ H s) (hf:∀ b∈fp,FpOk X pins H b) {D:Addr} (hD:s.heap.objs.size≤D) (hC:s.heap.objs.size≤C) (hDC:D≠C) {s1:Shared}{H1:Hp}{σ1:St}{p1:List (Addr×Obj)}{ys:List V}{its:List Value}
  (J:Inv (cxComp X sc cl T C s H fp) p1 σ1 H1 s1) (hH:H1 D=none) (rv:Vals ys its) (hz:ys.length≤sizeLine) (hget:s1.heap.get? D=some (LCg.lst its)) :
  Inv X pins σ (upd H1 D (.lst ys)) s1:=by
 have fD:H D=none:=I.hok.fresh hD;have nD:∀ b o,s.heap.get? b=some o→b≠D:=fun b o e=>Z6 (Z1 (Z4 e) hD);refine I.call' (ch:=fp) J.os ⟨fun b o e n hb hx=>J.base.keep b o e n hb hx,fun b o e n hb hx=>J.base.slot b o e n hb hx,fun b o e n hx=>?_,fun b o e hx=>J.base.there b o e hx,fun b xs e=>?_,fun b o u e=>?_,fun b ps e=>?_⟩ (fun b u e=>?_) J.bare fun b hb=>⟨(hf b hb).2.2.2.1,(hf b hb).2.1,(hf b hb).2.2.2.2.1,(hf b hb).2.2.2.2.2⟩
 ·rw [zAa (nD b o e)];exact J.base.free b o e n hx
 ·rw [zAa (zA4 e fD)];exact J.base.tups b xs e
 ·rw [zAa (zA4 e fD)];exact J.base.frzs b o u e
 ·rw [zAa (zA4 e fD)];exact J.base.tbls b ps e
 ·by_cases hb:b=D
  ·subst hb;rw [zA1] at e;cases e;exact ⟨hz,its,its.length,rv,hget⟩
  ·rw [zAa hb] at e;exact (J.hok b u e).stay (fun c v _ q=>q) (fun c q=>by rw [zAa (zA4 q hH)];exact q) fun c xs q=>by rw [zAa (zA4 q hH)];exact q
end
noncomputable def CompGoal (J:It) (k:Nat) (σ : St) (H1:Hp) (g:TG) (tt:TT) (te:TE) (Q:VK):Prop:=∃ W:Nat→Nat→List V→Hp→Prop,(∃ m,W 0 m [] H1)∧∀ i m ys H,W i m ys H →
 (J.stop i H∧ys.length≤sizeLine∧∀ p,H p=none→Q (.ref p) (upd H p (.lst ys))) ∨
 (J.go i H∧ys.length≤sizeLine∧∀ x H',J.yld i H x H'→g x (σ++List.replicate k none) H' fun σ2 H2=>tt σ2 H2 fun b H3 =>
  if b=true then te σ2 H3 fun y H4=>∃ m',m' < m∧W (i + 1) m' (ys++[y]) H4 else ∃ m',m' < m∧W (i + 1) m' ys H3)
noncomputable def tComp (k:Nat) (wi:TI) (g:TG) (tt:TT) (te:TE):TE:=fun σ H Q=>wi σ H fun J H1=>CompGoal J k σ H1 g tt te Q
section
variable {X:Cx}{elt tg iter:Expr}{ifs:List Expr}{sc:Scope}{pos:Pos}{cl:List (Str×Addr)}{T:List Str}{wi:TI}{g:TG}{tt:TT}{te:TE}
theorem zD8 {pins:List (Addr×Obj)}{σ : St}{s2:Shared}{H2:Hp}{Q:VK}{E:Value→Shared→Prop}{R:Value→Addr→Result→Shared→Prop}{it:Addr}{fp:List Addr}{tn:Nat→Heap→Prop}{J:It}
  {Φ : Cx→Prop} (hc:∀ C s H fp,Φ (cxComp X sc cl T C s H fp)) (S:ScOk X sc cl T)
  (hg:∀ C s H fp,PG (cxComp X sc cl T C s H fp) tg g) (hf:∀ C s H fp,PFs (cxComp X sc cl T C s H fp) ifs tt) (he:∀ C s H fp,PE (cxComp X sc cl T C s H fp) elt te)
  (I:Inv X pins σ H2 s2) (TT':TurnP Φ X.prog X.w X.K tg J fp it tn) (st:tn 0 s2.heap) (f2:∀ b∈fp,FpOk X pins H2 b)
  (W:Nat→Nat→List V→Hp→Prop) (m0:Nat) (w0:W 0 m0 [] H2)
  (turn:∀ i m ys H,W i m ys H→(J.stop i H∧ys.length≤sizeLine∧∀ p,H p=none→Q (.ref p) (upd H p (.lst ys))) ∨
   (J.go i H∧ys.length≤sizeLine∧∀ x H',J.yld i H x H'→g x (σ++List.replicate T.length none) H' fun σ2 H2=>tt σ2 H2 fun b H3 =>
    if b=true then te σ2 H3 fun y H4=>∃ m',m' < m∧W (i + 1) m' (ys++[y]) H4 else ∃ m',m' < m∧W (i + 1) m' ys H3))
  (hR:∀ (D C:Addr) (s1:Shared) (H1:Hp) (m:Str→Option Value),Inv X pins σ H1 s1→H1 C=none→C≠X.env.locals→X.s₀.heap.objs.size≤C→(∀ x c,X.env.cells.lookup x=some c→c≠C)→(∀ p∈X.pn++pins,p.1≠C) →
   s1.heap.Ns C m→Q (.ref D) H1→R (.ref D) C (.ok .next) s1) :
  wpAny (model X.prog X.w) X.A (newList []) (fun acc s₃=>wpAny (model X.prog X.w) X.A (newFunctionEnv sc X.env.globals cl [] X.env.qual none .none (some X.env)) (fun cenv s₄ =>
   codeAny (model X.prog X.w) X.A (.compStart (.ListComp elt [⟨tg,iter,ifs,0⟩] sc pos) 0 (.ref it) acc { cenv with scope:=relabel sc X.env }) (R acc cenv.locals) s₄) E s₃) E s2:=by
 refine wpAny_newObj_type (wpAny_newFunctionEnv S.cell (by intro y hy;simp at hy) (fun h1 hn1 sb1=>?_) S.kind);dsimp only at hn1 sb1 ⊢;generalize hH:s2.heap.push { cls:=.type "list",dict:=none,data:=.seq ([]:List Value).toArray }=G at hn1 sb1 ⊢;have hC:G.objs.size=s2.heap.objs.size + 1:=by rw [← hH,Zz]
 have hDC:s2.heap.objs.size≠G.objs.size:=by rw [hC];exact Z6 (Zp _)
 have hCle:s2.heap.objs.size≤G.objs.size:=by rw [hC];exact Nat.le_succ _
 have old:∀ b o,s2.heap.get? b=some o→h1.get? b=some o:=fun b o e=>by
  exact sb1.extBut b o (Z6 (Z1 (Z4 e) hCle)) (Z0 _ (hH ▸ Z0 _ e))
 have hacc:h1.get? s2.heap.objs.size=some (LCg.lst []):=sb1.extBut _ _ hDC (Z0 _ (hH ▸ Z8 _ rfl));have fl:∀ b∈fp,b < s2.heap.objs.size:=fun b hb=>by
  obtain ⟨o,e,_⟩:=TT'.obj _ _ st b hb;exact Z4 e
 have DS:s2.heap.objs.size∉frs X.stack:=fun z=>by
  rcases List.mem_cons.mp (I.stkSub _ z) with e | e
  ·exact Z6 I.lt e.symm
  ·exact I.nofs (Z5 _) e
 have keepT:∀ (i:Nat) (h h':Heap),tn i h→(∀ b o,b < s2.heap.objs.size→h.get? b=some o→h'.get? b=some o)→tn i h':=fun i h h' z k=>TT'.keep i h h' z fun b hb o e=>k b o (fl b hb) e;have fpo:∀ {H':Hp}{pl:List (Addr×Obj)},(∀ b∈fp,H' b=none)→(∀ p∈pl,s2.heap.objs.size≤p.1)→∀ b∈fp,FpOk (cxComp X sc cl T G.objs.size s2 H2 fp) pl H' b:=fun {H' pl} hn hp b hb=>by
  refine ⟨hn b hb,fun z=>?_,fun z=>?_,.inl hb,fun x c h=>(f2 b hb).2.2.2.2.1 x c (S.cls.look x c h),fun p hp' z=>?_⟩
  ·exact Z6 (Z1 (fl b hb) hCle) z
  ·rcases List.mem_cons.mp (I.stkSub b z) with e | e
   ·exact (f2 b hb).2.1 e
   ·exact (f2 b hb).2.2.1 e
  ·exact Z6 (Z1 (fl b hb) (hp p (show p∈pl from hp'))) z.symm
 let Y:=cxComp X sc cl T G.objs.size s2 H2 fp
 have loop:∀ z:Shared,z={ s2 with heap:=h1,toks:=s2.toks + ([]:List (Str×Value)).length } →
   codeAny (model X.prog X.w) X.A (.compLoop (.ListComp elt [⟨tg,iter,ifs,0⟩] sc pos) 0 (.ref it) (.ref s2.heap.objs.size) (compEnvC sc cl G.objs.size X.env)) (R (.ref s2.heap.objs.size) G.objs.size) z:=by
  rintro z rfl;refine comp_loop (fun n z=>∃ i ys its H',Inv Y [] (σ++List.replicate T.length none) H' z∧tn i z.heap∧(∀ b∈fp,H' b=none)∧H' s2.heap.objs.size=none∧Vals ys its∧z.heap.get? s2.heap.objs.size=some (LCg.lst its)∧W i n ys H') _ rfl ?_ m0
   ⟨0,[],[],H2,comp_inv S I f2 fl hCle old hn1,TT'.keep _ _ _ st fun b hb o e=>old b o e,fun b hb=>(f2 b hb).1,I.hok.fresh (Z5 _),.nil,hacc,w0⟩
  rintro n z ⟨i,ys,its,H',IY,stz,frz,fD,rv,hget,wz⟩;have IP:Inv Y [(s2.heap.objs.size,LCg.lst its)] (σ++List.replicate T.length none) H' z:=IY.pins_of fun p hp=>by
   have e:p=(s2.heap.objs.size,LCg.lst its):=by simpa using hp
   subst e;exact ⟨hget,fD,hDC,DS,fun v q=>by cases (show Data.seq _ _=Data.cell v from q)⟩
  have hpl:∀ p∈[(s2.heap.objs.size,LCg.lst its)],s2.heap.objs.size≤p.1:=fun p hp=>by
   have e:p=(s2.heap.objs.size,LCg.lst its):=by simpa using hp
   subst e;exact Z5 _
  rcases turn i n ys H' wz with ⟨stop,hz,q⟩ | ⟨go,hz,step⟩
  ·refine thn (TT'.done Y rfl rfl rfl (hc _ _ _ _) i _ z _ H' _ IP (fpo frz hpl) stz stop) fun r z1 ⟨hr,I1⟩=>?_;subst hr;have g1:z1.heap.get? s2.heap.objs.size=some (LCg.lst its):=(I1.pin (s2.heap.objs.size,LCg.lst its) (by simp [Y,cxComp])).1;obtain ⟨mC,hnC,_⟩:=I1.loc;have out:=comp_out S I f2 (Z5 _) hCle hDC I1 fD rv hz g1;refine hR _ _ z1 _ mC out ?_ ?_ ?_ ?_ ?_ hnC (q _ fD)
   ·rw [zAa (Ne.symm hDC)];exact I1.free
   ·exact (Z6 (Z1 I.lt hCle)).symm
   ·exact Zg I.sz hCle
   ·intro x c hcc;obtain ⟨v,zc⟩:=I.cell x c hcc;exact Z6 (Z1 zc.lt hCle)
   ·intro p hp;exact Z6 (Z1 (Z4 (I.pin p hp).1) hCle)
  ·refine thn (TT'.item Y rfl rfl rfl (hc _ _ _ _) i _ z _ H' _ IP (fpo frz hpl) stz go) fun r z1 ⟨u,hr,h1'⟩=>?_;subst hr;refine thn h1' fun _ z2 ⟨x,H3,I3,r3,y3,st3,fr3⟩=>?_;have I3':=I3.pinned (fpo fr3 hpl) (TT'.obj _ _ st3);have fin:∀ {H':Hp}{σ':St}{z':Shared},Inv Y ([(s2.heap.objs.size,LCg.lst its)]++pinsAt fp z2.heap) σ' H' z'→tn (i + 1) z'.heap∧(∀ b∈fp,H' b=none)∧H' s2.heap.objs.size=none∧z'.heap.get? s2.heap.objs.size=some (LCg.lst its):=fun {H' σ' z'} I'=>by
    have a1:∀ b∈fp,∀ o,z2.heap.get? b=some o→z'.heap.get? b=some o∧H' b=none:=fun b hb o e =>
     let p:=I'.pin (b,o) (Zd _ (Zd _ (zC4 hb e)))
     ⟨p.1,p.2.1⟩
    have a2:=I'.pin (s2.heap.objs.size,LCg.lst its) (Zd _ (by simp))
    exact ⟨TT'.keep _ _ _ st3 fun b hb o e=>(a1 b hb o e).1,fun b hb=>by
     obtain ⟨o,e,_⟩:=TT'.obj _ _ st3 b hb
     exact (a1 b hb o e).2,a2.2.1,a2.1⟩
   have bare:∀ {H':Hp}{σ':St}{z':Shared},Inv Y ([(s2.heap.objs.size,LCg.lst its)]++pinsAt fp z2.heap) σ' H' z'→Inv Y [] σ' H' z':=fun I'=>I'.pins_of fun p hp=>absurd hp (by simp);refine wpAny_mono (hg G.objs.size s2 H2 fp _ z2 _ H3 x u _ I3' r3 (step x H3 y3)) (fun _ z3 ⟨σ4,H4,I4,q4⟩=>?_) fun _ _ e=>e.elim;refine wpAny_mono (hf G.objs.size s2 H2 fp _ z3 _ H4 _ I4 q4) (fun ok z4 ⟨H5,I5,q5⟩=>?_) fun _ _ e=>e.elim;have lenσ : ∀ {H':Hp}{σ':St}{z':Shared}{pl},Inv Y pl σ' H' z'→(σ++List.replicate T.length none).length = σ'.length:=fun I'=>by rw [I'.len];exact IY.len
   have weak:∀ {H':Hp}{z':Shared},Inv Y [] σ4 H' z'→Inv Y [] (σ++List.replicate T.length none) H' z':=fun {H' z'} I'=>by
    have c0:=comp_inv (T:=T) (t1:=z'.toks) S I f2 fl hCle old hn1;obtain ⟨m',hn',hl'⟩:=I'.loc;obtain ⟨_,_,hl0⟩:=I.loc;refine ⟨I'.ok,I'.os,I'.bare,I'.base,⟨m',hn',fun j x v e1 e2 e3=>?_⟩,I'.cell,I'.free,I'.freeC,I'.pin,I'.hok,(lenσ I').trans I'.len⟩;have hj:j < σ.length:=by
     by_cases hj:j < σ.length
     ·exact hj
     ·rw [Zt (Nat.not_lt.mp hj),List.getElem?_replicate] at e2;split at e2 <;> cases e2
    have e2':=e2;rw [Zi hj] at e2';have e1':X.N[j]? = some x:=by
     have e:(X.N++T)[j]? = some x:=e1
     rwa [Zi (by rw [← I.len];exact hj)] at e
    have hx:x∈X.N:=List.mem_of_getElem? e1';have e3':(compEnvC sc cl G.objs.size X.env).scope.names.lookup x=some .cell∨(compEnvC sc cl G.objs.size X.env).scope.names.lookup x=some .free:=by
     rcases e3 with z | z | z
     ·exact absurd z (S.local_out hx)
     ·exact .inl z
     ·exact .inr z
    obtain ⟨⟨c,hc'⟩,ko⟩:=S.seen e3';obtain ⟨u,r,l⟩:=hl0 j x v e1' e2' (.inr ko);have hcX:=S.cls.look x c hc';refine ⟨u,r,.inr ⟨e3',c,hc',?_⟩⟩;rcases l with ⟨kl,_⟩ | ⟨_,c',hc2,zc⟩
    ·have kl':X.env.scope.names.lookup x=some .local:=kl;rcases ko with q | q
     ·rw [q] at kl';cases kl'
     ·rw [q] at kl';cases kl'
    ·rw [hcX] at hc2;cases hc2;obtain ⟨o,ho,hd⟩:=zc;have nfp:c∉fp:=fun hb=>(f2 c hb).2.2.2.2.1 x c hcX rfl;obtain ⟨sl,e⟩:=I'.base.any ho (I.freeC x c hcX) nfp;exact ⟨_,e,hd⟩
   cases ok with
   | false =>
    rw [if_neg Z2] at q5 ⊢;obtain ⟨m',hm,w'⟩:=q5;obtain ⟨b1,b2,b3,b4⟩:=fin I5;exact ⟨m',hm,i + 1,ys,its,H5,weak (bare I5),b1,b2,b3,rv,b4,w'⟩
   | true =>
    rw [if_pos rfl] at q5 ⊢;refine wpAny_mono (he G.objs.size s2 H2 fp _ z4 _ H5 _ I5 q5) (fun y z5 ⟨yv,H6,I6,r6,q6⟩=>?_) fun _ _ e=>e.elim;obtain ⟨m',hm,w'⟩:=q6;obtain ⟨b1,b2,b3,b4⟩:=fin I6;refine append_at (hsz:=by show its.toArray.size≤sizeLine;rw [Z3,← rv.length];exact hz) b4 fun h6 sb6 g6=>?_
    have I7:Inv Y [] (σ++List.replicate T.length none) H6 { z5 with heap:=h6 }:=(weak (bare I6)).turned (t':=z5.toks) (it:=s2.heap.objs.size) (fun b o hb e=>(sb6.2 b hb).trans e) b3 hDC (.inr (Z5 _)) (fun x c h=>by
     obtain ⟨v,zc⟩:=I.cell x c (S.cls.look x c h)
     exact Z6 zc.lt) fun p hp=>absurd (show p∈([]:List (Addr×Obj)) from hp) (by simp)
    refine ⟨m',hm,i + 1,ys++[yv],its++[y],H6,I7,keepT _ _ _ b1 fun b o hb e=>(sb6.2 b (Z6 hb)).trans e,b2,b3,rv.append (.cons r6 .nil),g6.trans (congrArg some (LCg.lst_snoc its y)),w'⟩
 exact codeAny_compStart_list (loop _ rfl) (TT'.self _ 0 _ _ _ (TT'.keep _ _ _ st fun b hb o e=>old b o e) (loop _ rfl))
theorem zBi (hc:X.calm=true) (S:ScOk X sc cl T) (hi:PI X tg iter wi)
  (hg:∀ C s H fp,PG (cxComp X sc cl T C s H fp) tg g) (hf:∀ C s H fp,PFs (cxComp X sc cl T C s H fp) ifs tt) (he:∀ C s H fp,PE (cxComp X sc cl T C s H fp) elt te)
  (hs:∀ x,foldedSetIterable iter X.env x=pure x:=by intro _;rfl):PE X (.ListComp elt [⟨tg,iter,ifs,0⟩] sc pos) (tComp T.length wi g tt te):=by
 intro pins s σ H Q I h;rw [eval_ListComp];refine wpAny_comprehension_free (use:=none) rfl hs S.clos S.kind S.names (thn (hi pins s σ H _ I h) fun v s1 h1=>thn h1 fun itv s2 h2=>?_);obtain ⟨it,fp,tn,J,H2,e,I2,TT',st2,f2,W,⟨m0,w0⟩,turn⟩:=h2;subst e;refine zD8 (Q:=Q) (fun _ _ _ _=>hc) S hg hf he I2 TT' st2 f2 W m0 w0 turn fun D C z H1 m I1 n1 n2 n3 n4 n5 hn q=>?_;exact ⟨m,hn,fun h' sb=>⟨.ref D,H1,I1.turned (t':=z.toks) (it:=C) (fun b o hb e=>(sb.2 b hb).trans e) n1 n2 (.inr n3) n4 n5,rfl,q⟩⟩
end
end L2
namespace L2
open PySem PySem.Spec PyProof.Rows
section
variable {X:Cx}
theorem v1 {x:V}{us:List Value} (r:Vals [x] us):∃ u,us=[u]∧RelV x u:=by
 cases r with
 | cons a b=>cases b;exact ⟨_,rfl,a⟩
theorem v2 {x y:V}{us:List Value} (r:Vals [x,y] us):∃ u v,us=[u,v]∧RelV x u∧RelV y v:=by
 cases r with
 | cons a b =>
  cases b with
  | cons c d=>cases d;exact ⟨_,_,rfl,a,c⟩
theorem zAr:CallR X (.builtin "isinstance") (fun xs H Q=>∃ x c t cv b,xs=[x,c]∧TyOf X.K H x t∧RelV c cv∧PySem.W.kitOne X.K t cv=some b∧Q (.bl b) H):=by
 intro pins s σ H xs us Q I r h;obtain ⟨x,c,t,cv,b,rfl,ty,rc,e,q⟩:=h;obtain ⟨u,v,rfl,ru,rv⟩:=v2 r;have hv:v=cv:=by
  cases c with
  | non=>exact (show v=Value.none from rv).trans (show cv=Value.none from rc).symm
  | bl z=>exact (show v=Value.bool z from rv).trans (show cv=Value.bool z from rc).symm
  | int i =>
   obtain ⟨t1,rfl⟩:=rc;exact absurd e (by unfold PySem.W.kitOne;cases ty <;> simp [PySem.W.kitCls])
  | str i =>
   obtain ⟨t1,rfl⟩:=rc;exact absurd e (by unfold PySem.W.kitOne;cases ty <;> simp [PySem.W.kitCls])
  | byt i =>
   obtain ⟨t1,rfl⟩:=rc;exact absurd e (by unfold PySem.W.kitOne;cases ty <;> simp [PySem.W.kitCls])
  | flt i =>
   obtain ⟨t1,rfl⟩:=rc;exact absurd e (by unfold PySem.W.kitOne;cases ty <;> simp [PySem.W.kitCls])
  | ref a=>exact (show v=Value.ref a from rv).trans (show cv=Value.ref a from rc).symm
  | ty n=>exact (show v=Value.type n from rv).trans (show cv=Value.type n from rc).symm
 subst hv;exact isinst_ok I ru ty e fun tk=>⟨.bl b,H,I.tok tk,rfl,q⟩
theorem bools_get:∀ {bs:List Bool}{us:List Value}{i:Nat}{v:Value},Vals (bs.map V.bl) us→us[i]? = some v→∃ b,bs[i]? = some b∧v=Value.bool b
 | [],_,i,v,.nil,h=>by simp at h
 | b :: r,_,0,v,.cons a t,h=>by
  simp at h;subst h;exact ⟨b,rfl,a⟩
 | b :: r,_,i + 1,v,.cons a t,h=>by
  obtain ⟨b',e,q⟩:=bools_get (bs:=r) (i:=i) t (by simpa using h);exact ⟨b',by simpa using e,q⟩
theorem all_range:∀ (bs:List Bool),((List.range bs.length).all fun i=>(bs[i]?).getD true)=bs.all id
 | []=>rfl
 | b :: r=>by
  rw [Z7,List.range_succ_eq_map,Y2,List.all_map,Y2];have e:=all_range r;simp only [Function.comp_def,List.getElem?_cons_succ,List.getElem?_cons_zero,Option.getD_some,id] at *;rw [← e]
theorem zC0 (hc:X.calm=true):CallR X (.builtin "all") (fun xs H Q=>∃ (p:Addr) (bs:List Bool),xs=[.ref p]∧SqL X.K H p (bs.map V.bl)∧Q (.bl (bs.all id)) H):=by
 intro pins s σ H xs us Q I r h;obtain ⟨p,bs,rfl,hp,q⟩:=h;obtain ⟨u,rfl,ru⟩:=v1 r;cases (show u=Value.ref p from ru);obtain ⟨its,rv,pl,hz⟩:=I.list hp;have hl:=pl.isList;have hlt:p < s.heap.objs.size:=by obtain ⟨_,e,_⟩:=hl;exact Z4 e
 have hlen:its.length=bs.length:=by rw [← rv.length,Ze]
 refine call_all_walk (wpAny_pyIter_list hl ?_)
 refine ⟨s.heap.objs.size,[s.heap.objs.size,p],[s.heap.objs.size],its.toArray.size,_,_,fun i=>(bs[i]?).getD true,rfl,Walks.list (A:=X.A.in1) (I.ok.hd hc) _ p (Z6 hlt) its.toArray,
  ⟨⟨_,Z8 _ rfl,rfl,rfl⟩,hl.push _⟩,fun i v s' Q' E' hP hQ=>?_,fun h' tk hk=>?_⟩
 ·obtain ⟨b,e,rfl⟩:=bools_get rv (by simpa using hP);simp only [e,Option.getD_some] at hQ;exact wpAny_truthy_bool hQ
 ·rw [Z3,hlen,all_range];exact ⟨.bl _,H,I.kept (t':=tk) fun b o e=>hk b o (fun hm=>by rw [List.mem_singleton.mp hm] at e;exact Zu _ (Z4 e)) (Z0 _ e),rfl,q⟩
noncomputable def Its (x:Str):It:=⟨fun i _=>i < x.length,fun i H v H'=>H'=H∧∃ c,x.cps[i]? = some c∧v=.str ⟨#[c]⟩,fun i _=>x.length≤i⟩
noncomputable def iStr (tl:TE):TI:=fun σ H R=>tl σ H fun v H1=>∃ x,v=.str x∧R (Its x) H1
theorem turn_str {P:Program}{w:World}{K:PySem.W.Frag}{y:Str}{py:Pos}{x:Str}{it:Addr}{St:Nat→Heap→Prop} (ho:∀ i h,St i h→∃ o,h.get? it=some o∧∀ v,o.data≠.cell v)
  (W:∀ A':Around,A'.handled=none→Walks P w A' it [it] [it] x.cps.size (SignAt x) St) (hself:∀ (A:Around) (i:Nat) (s:Shared) (Q:Value→Shared→Prop) (E:Value→Shared→Prop),St i s.heap→Q (.ref it) s→wpAny (model P w) A (pyIter (.ref it)) Q E s)
  (hst:∀ i h,St i h→i≤x.cps.size→True):Turn P w K (.Name y py) (Its x) [it] it (fun i h=>i≤x.cps.size∧St i h) where
 mem:=by simp
 obj:=fun i h st b hb=>by
  have e:b=it:=by simpa using hb
  subst e;exact ho i h st.2
 keep:=fun i h h' st k=>⟨st.1,(W { callerA with handled:=none } rfl).frame i h h' st.2 k⟩
 item:=by
  intro X hP hw hK hc i pins s σ H E I hf st hg;subst hP hw hK;obtain ⟨f0,f1,f2,f3,f4,f5⟩:=hf it (by simp);refine (W X.A (I.ok.hd hc)).item i s _ _ hg st.2 fun v h' tk hv st' kk=>?_;obtain ⟨c,u,hc',rfl⟩:=hv;have I1:Inv X pins σ H { s with heap:=h',toks:=tk }:=I.turned (fun b o hb e=>kk b o (by simpa using hb) e) f0 f1 f3 f4 f5;exact ⟨_,rfl,wpAny_pure ⟨.str ⟨#[c]⟩,H,I1,⟨u,rfl⟩,⟨rfl,c,hc',rfl⟩,⟨hg,st'⟩,fun b hb=>(hf b hb).1⟩⟩
 done:=by
  intro X hP hw hK hc i pins s σ H E I hf st hg;subst hP hw hK;obtain ⟨f0,f1,f2,f3,f4,f5⟩:=hf it (by simp);have e:i=x.cps.size:=Nat.le_antisymm st.1 hg;have st2:=st.2;rw [e] at st2;exact (W X.A (I.ok.hd hc)).done s _ _ st2 fun h' tk kk=>⟨rfl,I.turned (fun b o hb e=>kk b o (by simpa using hb) e) f0 f1 f3 f4 f5⟩
 self:=fun A i s Q E st h=>hself A i s Q E st.2 h
theorem pi_str {y:Str}{py:Pos}{l:Expr}{tl:TE} (hl:PE X l tl):PI X (.Name y py) l (iStr tl):=by
 intro pins s σ H R I h;refine thn (hl pins s σ H _ I h) fun v s1 ⟨x,H1,I1,r1,q1⟩=>?_;obtain ⟨z,rfl,q⟩:=q1;obtain ⟨t,rfl⟩:=r1;have fin:∀ {o:Obj}{St:Nat→Heap→Prop},Turn X.prog X.w X.K (.Name y py) (Its z) [s1.heap.objs.size] s1.heap.objs.size St→St 0 (s1.heap.push o)→PIE X pins σ (.Name y py) R (.ref s1.heap.objs.size) { s1 with heap:=s1.heap.push o }:=fun {o St} T st=>by
  refine ⟨s1.heap.objs.size,[s1.heap.objs.size],St,_,H1,rfl,I1.kept (t':=s1.toks) fun b o e=>Z0 _ e,T,st,fun b hb=>?_,q⟩;have e:b=s1.heap.objs.size:=by simpa using hb
  subst e;exact I1.fpOk (Z5 _) (I1.hok.fresh (Z5 _))
 cases ha:z.cps.all (· < 128)
 ·refine wpAny_pyIter_wide ha (fin (turn_str (fun i h st=>?_) (fun A' hA=>Walks.strWide hA _ z t) (fun A i s Q E st h=>wpAny_pyIter_striter_wide st h) fun _ _ _ _=>trivial) ⟨Zs _,⟨_,Z8 _ rfl,rfl,rfl⟩⟩);obtain ⟨o,e,c,d⟩:=st;exact ⟨o,e,fun v q=>by rw [d] at q;cases q⟩
 ·refine wpAny_pyIter_ascii ha (fin (turn_str (fun i h st=>?_) (fun A' hA=>Walks.strAscii hA _ z t) (fun A i s Q E st h=>wpAny_pyIter_striter_ascii st h) fun _ _ _ _=>trivial) ⟨Zs _,⟨_,Z8 _ rfl,rfl,rfl⟩⟩);obtain ⟨o,e,c,d⟩:=st;exact ⟨o,e,fun v q=>by rw [d] at q;cases q⟩
end
section
variable {X:Cx}{CX:CXT}{k:Nat}{f C:Addr}{fd:FuncData}{ps ks:List Str}{sp:Sp}{E:St→XK}{x:Str}{p pos:Pos}{e:Expr}{es:List Expr}{kws:List Keyword}{t tk:TA}{g:List Value→List Value→List Value}{gV:List V→List V→List V}
noncomputable def tMakeK (C:Addr) (sp:Sp) (gV:List V→List V→List V) (E:St→XK) (tk:TA):TE:=fun σ H Q=>tk σ H fun zs H1=>∀ x dx,H1 x=none→H1 dx=none→dx≠x →
 sp (gV [.ref x] zs) (upd (upd H1 dx (.own x)) x (.ins C dx [])) (fun v H2=>v=.non∧Q (.ref x) H2) (E σ)
theorem run_makek {pins:List (Addr×Obj)}{σ : St}{H:Hp}{s:Shared}{Q:VK}{ws:List Value}{zs:List V} (M:Mk X.K C f) (F:FnOk X.prog X.w X.K X.mg X.base CX k f fd ps sp) (hr:Room (k + 1) X.A) (hb:KBinds X.K fd ps ks g gV)
  (hx:Passes CX X E) (I:Inv X pins σ H s) (rz:Vals zs ws)
  (h:∀ x dx,H x=none→H dx=none→dx≠x→sp (gV [.ref x] zs) (upd (upd H dx (.own x)) x (.ins C dx [])) (fun v H2=>v=.non∧Q (.ref x) H2) (E σ)) :
  wpAny (model X.prog X.w) X.A (call (.ref C) [] (ks.zip ws)) (EP X pins σ Q) X.xe s:=by
 have hq:=h (s.heap.objs.size + 1) s.heap.objs.size (I.hok.fresh (Nat.le_succ _)) (I.hok.fresh (Z5 _)) (Z6 (Zp _));have I2:=Inv.made (C:=C) I;have r2:=hb.rel (vs:=[V.ref (s.heap.objs.size + 1)]) (us:=[Value.ref (s.heap.objs.size + 1)]) (.cons rfl .nil) rz;have hl:(g [Value.ref (s.heap.objs.size + 1)] ws).length=ps.length:=by
  rw [← r2.length];exact F.len _ _ _ _ hq
 refine wpAny_call (make_map (f:=f) I.kIn M.makes M.init (beq_iff_eq.mp M.fn) (codeAny_mono (F.run _ X.stack _ _ ⟨[Value.ref (s.heap.objs.size + 1)],ks.zip ws⟩ (g [Value.ref (s.heap.objs.size + 1)] ws) _ _ (E σ) (hr.make C [] (ks.zip ws))
  (I2.env0.make C [] (ks.zip ws)) (hb.to _ [Value.ref (s.heap.objs.size + 1)] ws I2.kIn hl) r2 hq) fun r s' hq'=>?_))
 cases r with
 | error e=>exact hx pins σ _ _ e s' I2 hq'
 | ok fl =>
  cases fl with
  | ret u =>
   obtain ⟨v,H',I3,rv,ev,q3⟩:=I2.after hq';subst ev;exact ⟨rv,⟨V.ref (s.heap.objs.size + 1),H',I3,rfl,q3⟩⟩
  | next=>exact False.elim hq'
  | brk=>exact False.elim hq'
  | cont=>exact False.elim hq'
theorem zAw (M:Mk X.K C f) (F:FnOk X.prog X.w X.K X.mg X.base CX k f fd ps sp) (hr:Room (k + 1) X.A) (hg:Gl X x) (hm:X.mg x=some (.ref C)) (hb:KBinds X.K fd ps ks g gV) (hx:Passes CX X E)
  (hkw:PK X kws tk) (hall:(backToKw pos (keywordEach kws X.env)).all (·.1.isSome)=true:=by rfl) (hks:(backToKw pos (keywordEach kws X.env)).filterMap (·.1)=ks:=by rfl)
  (hdb:(x == ("__debug__" : Str))=false:=by decide)
  (hpl:((backTo pos (starEach [] X.env)).any (·.1) || (backToKw pos (keywordEach kws X.env)).any (·.1.isNone))=false:=by rfl) :
  PE X (.Call (.Name x p) [] kws pos) (tMakeK C sp gV E tk):=by
 intro pins s σ H Q I h;refine wpAny_Call_Name_kw (zBl I hg hm ?_ hdb);refine PySem.W.callWith_KW0 (h₀:=X.base) I.ok.mod.kin M.kp hall (thn (hkw pos pins s σ H _ I h) fun ws s2 ⟨zs,H2,I2,rz,q2⟩=>⟨I2.kIn,?_⟩) hpl;rw [hks];exact run_makek M F hr hb hx I2 rz q2
end
end L2
namespace L2
open PySem PySem.Spec PyProof.Rows
theorem log2_lt64 {j:Int} (h0:0 < j) (h1:j < 2 ^ 64):j.natAbs.log2 < 9000:=by
 have:j.natAbs < 2 ^ 64:=by omega
 have h:j.natAbs.log2 < 64:=(Nat.log2_lt (by omega)).mpr this;omega
noncomputable def CDivB (i j:Int):Prop:=0 < j∧j < 2 ^ 64
theorem op_fdivB {X:Cx}:OpR X (binaryOp .FloorDiv) (rI CDivB fun i j=>.int (i / j)):=opI fun i j _ _ _ _ _ hc q=>by
 have h1:(0:Int) < j:=hc.1;exact floordiv_int (by omega) (by rw [Int.fdiv_eq_ediv_of_nonneg i (by omega)];exact q) (.inl (PyProof.noPylong_of_log2 (log2_lt64 hc.1 hc.2)))
mutual
inductive Has (G:Addr→Prop) (H:Hp):V→PyData→Prop where
 | non:Has G H .non .none
 | bl (b:Bool):Has G H (.bl b) (.bool b)
 | int (i:Int):Has G H (.int i) (.int i)
 | str (x:Str) (hx:x.length≤1000) (ho:PyData.strOk x=true):Has G H (.str x) (.str x)
 | lst {a:Addr}{xs:List V}{ds:List PyData}:G a→H a=some (.lst xs)→xs.length≤1000→HasAll G H xs ds→Has G H (.ref a) (.list ds)
 | tup {a:Addr}{xs:List V}{ds:List PyData}:G a→H a=some (.tup xs)→xs.length≤1000→HasAll G H xs ds→Has G H (.ref a) (.tuple ds)
inductive HasAll (G:Addr→Prop) (H:Hp):List V→List PyData→Prop where
 | nil:HasAll G H [] []
 | cons {x:V}{xs:List V}{d:PyData}{ds:List PyData}:Has G H x d→HasAll G H xs ds→HasAll G H (x :: xs) (d :: ds)
end
noncomputable abbrev Any:Addr→Prop:=fun _=>True
noncomputable def isSeq:HO→Prop
 | .lst _=>True
 | .tup _=>True
 | _=>False
mutual
theorem Has.frameS {G G':Addr→Prop}{H H':Hp} (e:∀ a o,G a→isSeq o→H a=some o→G' a∧H' a=some o):∀ {v:V}{d:PyData},Has G H v d→Has G' H' v d
 | _,_,.non=>.non
 | _,_,.bl b=>.bl b
 | _,_,.int i=>.int i
 | _,_,.str x hx ho=>.str x hx ho
 | _,_,.lst (xs:=xs) g s z h=>.lst (e _ (.lst xs) g trivial s).1 (e _ (.lst xs) g trivial s).2 z (HasAll.frameS e h)
 | _,_,.tup (xs:=xs) g s z h=>.tup (e _ (.tup xs) g trivial s).1 (e _ (.tup xs) g trivial s).2 z (HasAll.frameS e h)
theorem HasAll.frameS {G G':Addr→Prop}{H H':Hp} (e:∀ a o,G a→isSeq o→H a=some o→G' a∧H' a=some o):∀ {vs:List V}{ds:List PyData},HasAll G H vs ds→HasAll G' H' vs ds
 | _,_,.nil=>.nil
 | _,_,.cons h t=>.cons (Has.frameS e h) (HasAll.frameS e t)
end
theorem Has.frame {G G':Addr→Prop}{H H':Hp}{v:V}{d:PyData} (h:Has G H v d) (e:∀ a o,G a→H a=some o→G' a∧H' a=some o):Has G' H' v d:=h.frameS fun a o g _ q=>e a o g q
theorem HasAll.frame {G G':Addr→Prop}{H H':Hp}{v:List V}{d:List PyData} (h:HasAll G H v d) (e:∀ a o,G a→H a=some o→G' a∧H' a=some o):HasAll G' H' v d:=h.frameS fun a o g _ q=>e a o g q
theorem Has.mono {G:Addr→Prop}{H H':Hp}{v:V}{d:PyData} (h:Has G H v d) (e:Same H H'):Has G H' v d:=h.frame fun a o g q=>⟨g,e a o q⟩
theorem HasAll.mono {G:Addr→Prop}{H H':Hp}{v:List V}{d:List PyData} (h:HasAll G H v d) (e:Same H H'):HasAll G H' v d:=h.frame fun a o g q=>⟨g,e a o q⟩
theorem Has.any {G:Addr→Prop}{H:Hp}{v:V}{d:PyData} (h:Has G H v d):Has Any H v d:=h.frame fun _ _ _ q=>⟨trivial,q⟩
theorem HasAll.any {G:Addr→Prop}{H:Hp}{v:List V}{d:List PyData} (h:HasAll G H v d):HasAll Any H v d:=h.frame fun _ _ _ q=>⟨trivial,q⟩
section
variable {G:Addr→Prop}{H:Hp}
theorem HasAll.length:∀ {xs:List V}{ds:List PyData},HasAll G H xs ds→xs.length=ds.length
 | _,_,.nil=>rfl
 | _,_,.cons _ t=>by rw [Z7,Z7,HasAll.length t]
theorem HasAll.take:∀ (n:Nat) {xs:List V}{ds:List PyData},HasAll G H xs ds→HasAll G H (xs.take n) (ds.take n)
 | 0,_,_,_=>.nil
 | n + 1,_,_,.nil=>.nil
 | n + 1,_,_,.cons a t=>.cons a (HasAll.take n t)
theorem HasAll.drop:∀ (n:Nat) {xs:List V}{ds:List PyData},HasAll G H xs ds→HasAll G H (xs.drop n) (ds.drop n)
 | 0,_,_,h=>h
 | n + 1,_,_,.nil=>.nil
 | n + 1,_,_,.cons a t=>HasAll.drop n t
theorem Has.list_inv {v:V}{ds:List PyData} (h:Has G H v (.list ds)):∃ a xs,v=.ref a∧G a∧H a=some (.lst xs)∧xs.length≤1000∧HasAll G H xs ds:=by
 cases h with
 | lst g s z q=>exact ⟨_,_,rfl,g,s,z,q⟩
theorem Has.tup_inv {v:V}{ds:List PyData} (h:Has G H v (.tuple ds)):∃ a xs,v=.ref a∧G a∧H a=some (.tup xs)∧xs.length≤1000∧HasAll G H xs ds:=by
 cases h with
 | tup g s z q=>exact ⟨_,_,rfl,g,s,z,q⟩
mutual
theorem Has.lay:∀ {v:V}{d:PyData},Has G H v d→d.canLay0=true
 | _,_,.non=>rfl
 | _,_,.bl b=>rfl
 | _,_,.int i=>rfl
 | _,_,.str x _ ho=>ho
 | _,_,.lst _ _ _ h=>HasAll.lay h
 | _,_,.tup _ _ _ h=>HasAll.lay h
theorem HasAll.lay:∀ {vs:List V}{ds:List PyData},HasAll G H vs ds→PyData.canLayAll0 ds=true
 | _,_,.nil=>rfl
 | _,_,.cons h t=>by
  show (PyData.canLay0 _ && PyData.canLayAll0 _)=true;rw [Has.lay h,HasAll.lay t];rfl
end
end
section
variable {X:Cx}{pins:List (Addr×Obj)}{σ : St}{H:Hp}{s:Shared}{G:Addr→Prop}
mutual
theorem Has.reads (I:Inv X pins σ H s):∀ {v:V}{d:PyData}{u:Value},Has G H v d→RelV v u→∃ as,Reads s.heap u d as
 | _,_,u,.non,r=>by cases (show u=Value.none from r);exact ⟨_,.none⟩
 | _,_,u,.bl b,r=>by cases (show u=Value.bool b from r);exact ⟨_,.bool b⟩
 | _,_,u,.int i,r=>by obtain ⟨t,rfl⟩:=(show ∃ t,u=Value.int i t from r);exact ⟨_,.int i t⟩
 | _,_,u,.str x _ _,r=>by obtain ⟨t,rfl⟩:=(show ∃ t,u=Value.str x t from r);exact ⟨_,.str x t⟩
 | _,_,u,.lst (a:=a) _ q _ h,r=>by
  cases (show u=Value.ref a from r);obtain ⟨_,its,n,rv,e⟩:=I.hok a _ q;obtain ⟨as,ra⟩:=HasAll.reads I h rv;exact ⟨_,.list e rfl rfl (by simpa using ra)⟩
 | _,_,u,.tup (a:=a) _ q _ h,r=>by
  cases (show u=Value.ref a from r);obtain ⟨_,its,rv,⟨o,e,c,n,d⟩⟩:=I.hok a _ q;obtain ⟨as,ra⟩:=HasAll.reads I h rv;exact ⟨_,.tuple e c d (by simpa using ra)⟩
theorem HasAll.reads (I:Inv X pins σ H s):∀ {vs:List V}{ds:List PyData}{us:List Value},HasAll G H vs ds→Vals vs us→∃ as,ReadsAll s.heap us ds as
 | _,_,_,.nil,.nil=>⟨_,.nil⟩
 | _,_,_,.cons h t,.cons r rr=>by
  obtain ⟨as,ra⟩:=Has.reads I h r;obtain ⟨bs,rb⟩:=HasAll.reads I t rr;exact ⟨_,.cons ra rb⟩
end
end
theorem Has.shaped {G:Addr→Prop}{H:Hp}{v:V}{d:PyData} (h:Has G H v d) (hd:d.depth≤64):SeqAt.shaped d=true:=by
 unfold SeqAt.shaped;rw [h.lay,decide_eq_true hd];rfl
noncomputable def rEqD:R2:=fun x y H Q=>∃ d e,Has Any H x d∧Has Any H y e∧d.depth≤64∧e.depth≤64∧Q (.bl (PyData.eqv d e)) H
noncomputable def rNeD:R2:=fun x y H Q=>∃ d e,Has Any H x d∧Has Any H y e∧d.depth≤64∧e.depth≤64∧Q (.bl (!PyData.eqv d e)) H
theorem op_eqD {X:Cx} (hu:X.A.units + 64 < cLine):OpR X (compareOp .Eq) rEqD:=by
 intro pins s σ H x y u v Q I rx ry h;obtain ⟨d,e,hd,he,sd,se,q⟩:=h;obtain ⟨as,ra⟩:=hd.reads I rx;obtain ⟨bs,rb⟩:=he.reads I ry;exact eq_dataH ra rb (hd.shaped sd) (he.shaped se) hu ⟨.bl _,H,I,rfl,q⟩
theorem op_neD {X:Cx} (hu:X.A.units + 64 < cLine):OpR X (compareOp .NotEq) rNeD:=by
 intro pins s σ H x y u v Q I rx ry h;obtain ⟨d,e,hd,he,sd,se,q⟩:=h;obtain ⟨as,ra⟩:=hd.reads I rx;obtain ⟨bs,rb⟩:=he.reads I ry;exact ne_dataH ra rb (hd.shaped sd) (he.shaped se) hu ⟨.bl _,H,I,rfl,q⟩
theorem Has.eqv {G:Addr→Prop}{H:Hp}{v:V}{d:PyData} (h:Has G H v d):PyData.eqv d d=true:=SeqAt.eqv_refl d h.lay
section
variable {κ : Type} [DecidableEq κ]
noncomputable def dstep (acc:List κ) (x : κ):List κ:=if x∈acc then acc else acc++[x]
noncomputable def dl (l:List κ):List κ:=l.foldl dstep []
theorem dl_snoc (l:List κ) (x : κ):dl (l++[x])=dstep (dl l) x:=by unfold dl;rw [List.foldl_append];rfl
theorem zBm:∀ (l acc:List κ) (k : κ),k∈l.foldl dstep acc ↔ k∈acc∨k∈l
 | [],acc,k=>by simp
 | x :: r,acc,k=>by
  rw [Zx,zBm r];unfold dstep;by_cases h:x∈acc
  ·rw [if_pos h];constructor
   ·rintro (a | a)
    ·exact .inl a
    ·exact .inr (Z9 _ a)
   ·rintro (a | a)
    ·exact .inl a
    ·rcases List.mem_cons.mp a with rfl | a
     ·exact .inl h
     ·exact .inr a
  ·rw [if_neg h];simp only [List.mem_append,Zh,Zf,or_false];constructor
   ·rintro ((a | a) | a)
    ·exact .inl a
    ·exact .inr (.inl a)
    ·exact .inr (.inr a)
   ·rintro (a | a | a)
    ·exact .inl (.inl a)
    ·exact .inl (.inr a)
    ·exact .inr a
theorem mem_dl {l:List κ}{k : κ}:k∈dl l ↔ k∈l:=by unfold dl;rw [zBm];simp
theorem zB8:∀ (l acc:List κ),(l.foldl dstep acc).length≤acc.length + l.length
 | [],acc=>Z5 _
 | x :: r,acc=>by
  rw [Zx];refine Zg (zB8 r _) ?_;unfold dstep;split
  ·rw [Z7];omega
  ·simp only [Zc,Z7,List.length_nil];omega
theorem dl_len_le (l:List κ):(dl l).length≤l.length:=by have:=zB8 l [];simpa [dl] using this
theorem zBd:∀ (l acc:List κ),(∀ x∈l,x∉acc)→l.Nodup→(l.foldl dstep acc).length=acc.length + l.length
 | [],acc,_,_=>rfl
 | x :: r,acc,h,hn=>by
  obtain ⟨h1,h2⟩:=List.nodup_cons.mp hn;have hx:x∉acc:=h x Zj;rw [Zx,show dstep acc x=acc++[x] from if_neg hx,zBd r _ (fun y hy m=>?_) h2]
  ·simp;omega
  ·rcases List.mem_append.mp m with m | m
   ·exact h y (Z9 _ hy) m
   ·rw [List.mem_singleton.mp m] at hy;exact h1 hy
theorem zBn:∀ (l acc:List κ),((∃ x∈l,x∈acc)∨¬ l.Nodup)→(l.foldl dstep acc).length < acc.length + l.length
 | [],acc,h=>by
  rcases h with ⟨x,hx,_⟩ | h
  ·simp at hx
  ·exact absurd List.nodup_nil h
 | x :: r,acc,h=>by
  rw [Zx];by_cases hx:x∈acc
  ·rw [show dstep acc x=acc from if_pos hx];have:=zB8 r acc;simp only [Z7];omega
  ·rw [show dstep acc x=acc++[x] from if_neg hx];have ih:=zBn r (acc++[x]) ?_
   ·simp only [Zc,Z7,List.length_nil] at *;omega
   ·rcases h with ⟨y,hy,ha⟩ | h
    ·rcases List.mem_cons.mp hy with rfl | hy
     ·exact absurd ha hx
     ·exact .inl ⟨y,hy,Zm _ ha⟩
    ·by_cases hr:x∈r
     ·exact .inl ⟨x,hr,by simp⟩
     ·exact .inr fun z=>h (List.nodup_cons.mpr ⟨hr,z⟩)
theorem dl_len_iff (l:List κ):decide ((dl l).length=l.length)=decide l.Nodup:=by
 by_cases h:l.Nodup
 ·have:=zBd l [] (fun _ _ z=>by simp at z) h;rw [decide_eq_true h,decide_eq_true (by simpa [dl] using this)]
 ·have:=zBn l [] (.inr h);rw [decide_eq_false h,decide_eq_false (by simp [dl] at *;omega)]
variable {prog:Program}{w:World}{A:Around}{R:Result→Shared→Prop}{I:Addr}{fp wr:List Addr}{n:Nat}{P:Nat→Value→Prop}{St:Nat→Heap→Prop}
theorem SetOf_eqv {knd:KeyKind prog w κ}{h:Heap}{a:Addr}{S S' : κ→Bool}{m m':Nat} (x:h.SetOf knd a S m) (e:∀ k,S k=S' k) (em:m=m'):h.SetOf knd a S' m':=by
 have e':S=S':=funext e;subst e' em;exact x
theorem set_loopK (W:Walks prog w A.in1 I fp wr n P St) {D:Addr} (hD:D∉fp) {knd:KeyKind prog w κ}{ks:List κ} (hn:ks.length=n) (hval:∀ i v k,P i v→ks[i]? = some k→knd.is k v=true∧v.scannable=true) (hb:n + 1 < scanBound) :
  ∀ (j i:Nat) (z:Shared),n - i=j→i≤n→St i z.heap→z.heap.SetOf knd D (fun k=>decide (k∈ks.take i)) (dl (ks.take i)).length →
   (∀ h' tk,(∀ b o,b∉D :: wr→z.heap.get? b=some o→h'.get? b=some o)→h'.SetOf knd D (fun k=>decide (k∈ks)) (dl ks).length→R (.ok (.ret .none)) { z with heap:=h',toks:=tk }) →
   codeAny (model prog w) A (.builtin "set.update.loop" ⟨[.ref D,.ref I],[]⟩) R z:=by
 have hDw:D∉wr:=fun h=>hD (W.sub _ h);intro j
 induction j with
 | zero =>
  intro i z hj hi st hS hR;obtain rfl:i=n:=by omega
  refine codeAny_builtin PyProof.Rows.F.entry_set_update_loop ?_;rw [Around.under_plainId PyProof.Rows.F.plain_set_update_loop _];show wpAny _ A.in1 (pyNext (.ref I) >>= _) _ _ z;refine wpAny_bind (W.done z _ _ st fun h' tk kk=>?_);rw [List.take_of_length_le (Nat.le_of_eq hn)] at hS;obtain ⟨o,es,ep,t,ho,more⟩:=hS;exact wpAny_pure (hR h' tk (fun b o hb e=>kk b o (fun m=>hb (Z9 _ m)) e) ⟨o,es,ep,t,kk D _ hDw ho,more⟩)
 | succ j ih =>
  intro i z hj hi st hS hR;have lt:i < n:=by omega
  refine codeAny_builtin PyProof.Rows.F.entry_set_update_loop ?_;rw [Around.under_plainId PyProof.Rows.F.plain_set_update_loop _];show wpAny _ A.in1 (pyNext (.ref I) >>= _) _ _ z;refine wpAny_bind (W.item i z _ _ lt st fun v h1 tk1 hP st1 k1=>?_);have hk:ks[i]? = some (ks[i]'(by omega)):=Zv _;obtain ⟨hv,hs⟩:=hval i v _ hP hk;obtain ⟨o,es,ep,t,ho,more⟩:=hS;have hS1:h1.SetOf knd D (fun k=>decide (k∈ks.take i)) (dl (ks.take i)).length:=⟨o,es,ep,t,k1 D _ hDw ho,more⟩;show wpAny _ A.in1 (holding [v] (setAdd D v) >>= _) _ _ _;refine wpAny_bind (wpAny_holding ?_);unfold setAdd;refine wpAny_holding (wpAny_bind (knd.pyHash hv ?_));have room:(dl (ks.take i)).length + 1 < scanBound:=by
   have a1:=dl_len_le (ks.take i);have a2:(ks.take i).length≤i:=List.length_take_le _ _;omega
  refine wpAny_setAddHashed_of (knd:=knd) (s:={ z with heap:=h1,toks:=tk1 + 1 }) hv hs hS1 room fun h2 sb2 hS2=>?_;have et:ks.take (i + 1)=ks.take i++[ks[i]'(by omega)]:=by rw [Y1,hk];rfl
  have hS3:h2.SetOf knd D (fun k=>decide (k∈ks.take (i + 1))) (dl (ks.take (i + 1))).length:=by
   refine SetOf_eqv hS2 (fun k=>?_) ?_
   ·rw [et,Zw];simp only [Bool.or_eq_true,decide_eq_true_eq,List.mem_append,List.mem_singleton]
   ·rw [et,dl_snoc];unfold dstep;by_cases q:ks[i]'(by omega)∈ks.take i
    ·rw [if_pos (by simpa using q),if_pos (mem_dl.mpr q)]
    ·rw [if_neg (by simpa using q),if_neg (fun z=>q (mem_dl.mp z)),Zc,List.length_singleton]
  refine wpAny_pure ⟨plainId_quiet PyProof.Rows.F.plain_set_update_loop _,ih (i + 1) _ (by omega) lt (W.frame _ h1 _ st1 fun b hb o e=>?_) hS3 fun h' tk kk hS'=>hR h' tk (fun b o hb e=>kk b o hb ?_) hS'⟩
  ·rw [sb2.2 b (fun q:b=D=>hD (by rw [← q];exact hb))];exact e
  ·rw [sb2.2 b (fun q:b=D=>hb (by rw [q];exact Zj))];exact k1 b o (fun m=>hb (Z9 _ m)) e
end
end L2
namespace L2
open PySem PySem.Spec PyProof.Rows
noncomputable abbrev bareSet (b:Bool):Obj:={ cls:=.type "set",dict:=none,data:=.set #[] 0 (.fresh 0 0 b) }
section
variable {κ : Type} [DecidableEq κ] {prog:Program}{w:World}{A:Around}{E:Value→Shared→Prop}{z:Shared}
noncomputable def SetMade (knd:KeyKind prog w κ) (ks:List κ) (z:Shared) (r:Value) (z':Shared):Prop :=
 r=.none∧∃ h' tk,z'={ z with heap:=h',toks:=tk }∧h'.SetOf knd z.heap.objs.size (fun k=>decide (k∈ks)) (dl ks).length∧∀ b o,b < z.heap.objs.size→z.heap.get? b=some o→h'.get? b=some o
set_option maxHeartbeats 6400000 in
theorem call_setK {knd:KeyKind prog w κ}{l:Addr}{its:Array Value}{ks:List κ}{Q:Value→Shared→Prop} (hh:A.handled=none) (hl:z.heap.IsList l its) (hn:ks.length=its.size)
  (hv:∀ (i:Nat) (v:Value) (k : κ),its[i]? = some v→ks[i]? = some k→knd.is k v=true∧v.scannable=true) (hb:its.size + 1 < scanBound)
  (h:∀ z',SetMade knd ks z .none z'→Q (.ref z.heap.objs.size) z'):wpAny (model prog w) A (call (.type "set") [.ref l]) Q E z:=by
 obtain ⟨mc,mt,m0⟩:=PySem.F.called_set.mro;have m1:=PySem.F.called_set.made;have m2:=PySem.F.called_set.sub;refine wpAny_call (codeAny_of_tree ?_);show wpAny _ _ (callAny (.type "set") _) _ _ _;refine wpAny_pure ⟨Code.quiet_builtin _ (by decide +kernel),codeAny_builtin PySem.F.entry_type_call ?_⟩;rw [Around.under_plain (weight_type_call_type "set" [.ref l] []) rfl];have m3:=PySem.F.called_set.notType;have m4:=PySem.F.called_set.canCreate;have m5:=PySem.F.typeCall_set_1 (.ref l)
 repeat (any_goals (first | assumption | wp_step))
 refine codeAny_mono (code_set_new_1 (.ref l) (E:=E) (Q₁:=fun r z1=>∃ b:Bool,r=.ref z.heap.objs.size∧z1={ z with heap:=z.heap.push (bareSet b) }) fun b=>⟨b,rfl,rfl⟩) fun r z1 hr=>?_;cases r with
 | error e=>exact hr
 | ok fl =>
  cases fl with
  | next=>exact hr.elim
  | brk=>exact hr.elim
  | cont=>exact hr.elim
  | ret r =>
   obtain ⟨b,rfl,rfl⟩:=hr;have g0:(z.heap.push (bareSet b)).get? z.heap.objs.size=some (bareSet b):=Z8 _ rfl;have ty:Shared.TypeIs { z with heap:=z.heap.push (bareSet b) } (.ref z.heap.objs.size) "set":=⟨_,g0,rfl⟩;have i1:=PySem.F.called_set.init.lookup;have i2:=PySem.F.called_set.init.bind (.ref z.heap.objs.size)
   repeat (any_goals (first | assumption | wp_step))
   refine codeAny_mono (codeAny_call_builtin (R:=wants (SetMade knd ks z) E) PySem.F.called_set.init.plain PySem.F.entry_set_init (check_set_init_1 ty ?_)) fun r2 z2 hr2=>?_
   ·obtain ⟨⟨oc,od,odt,osl⟩,ho,c1,nl,d1⟩:=hl;simp only at c1 d1;subst c1 d1;have ho1:(z.heap.push (bareSet b)).get? l=some { cls:=.type "list",dict:=od,data:=.seq its nl,slots:=osl }:=Z0 _ ho;have s1:=PySem.F.sub_list_set;have s2:=PySem.F.sub_list_frozenset;have s3:(Value.type "list" == Value.type "dict")=false:=by decide
    have hl1:(z.heap.push (bareSet b)).IsList l its:=⟨_,ho1,rfl,nl,rfl⟩;unfold Builtin.«set.__init__» noKeywords Builtin.Frozenset.updateFrom;generalize ePI:pyIter=PI
    wp_walk
    subst ePI;refine wpAny_pyIter_list hl1 ?_;refine wpAny_bind (wpAny_runValue ?_);have lt:l < z.heap.objs.size:=Z4 ho;have sz1:(z.heap.push (bareSet b)).objs.size=z.heap.objs.size + 1:=Zz _ _;have neI:l≠(z.heap.push (bareSet b)).objs.size:=by rw [sz1];exact Z6 (Nat.lt_succ_of_lt lt)
    have nD:z.heap.objs.size∉[(z.heap.push (bareSet b)).objs.size,l]:=by
     rw [sz1];simp only [Zh,Zf,or_false,not_or];exact ⟨Z6 (Zp _),Nat.ne_of_gt lt⟩
    refine set_loopK (Walks.list (by simp [hh]) _ l neI its) nD (knd:=knd) (ks:=ks) hn hv hb (its.size - 0) 0 _ (by omega) (Zs _) ⟨⟨_,Z8 _ rfl,rfl,rfl⟩,hl1.push _⟩ ?_ fun h' tk kk hS=>?_
    ·refine SetOf_eqv ((PyProof.Rows.setObjOf_fresh (knd:=knd) b).setOf (Z0 _ g0) (by unfold scanBound;omega)) (fun k=>?_) rfl;simp
    ·show wpAny _ _ _ _ _ _;refine wpAny_pure ?_;show wpAny _ _ (ret Value.none) _ _ _;refine wpAny_pure ⟨rfl,h',tk,rfl,hS,fun c o hc e=>kk c o ?_ (Z0 _ (Z0 _ e))⟩;rw [sz1];simp only [Zh,Zf,or_false,not_or];exact ⟨Z6 hc,Z6 (Nat.lt_succ_of_lt hc)⟩
   ·cases r2 with
    | error e=>exact hr2
    | ok fl2 =>
     cases fl2 with
     | next=>exact hr2.elim
     | brk=>exact hr2.elim
     | cont=>exact hr2.elim
     | ret r =>
      have hs:=hr2;obtain ⟨rfl,h',tk,rfl,hS,kk⟩:=hr2
      repeat (any_goals (first | assumption | wp_step))
      exact h _ hs
end
noncomputable def SetS (P:Program) (w:World) (p:Addr) (ks:List Str):HO:=.ext fun h=>h.SetOf (strKind P w) p (fun k=>decide (k∈ks)) (dl ks).length
section
variable {X:Cx}
theorem strs_get:∀ {ks:List Str}{us:List Value}{i:Nat}{v:Value}{k:Str},Vals (ks.map V.str) us→us[i]? = some v→ks[i]? = some k→∃ t,v=Value.str k t
 | [],_,i,v,k,.nil,h,_=>by simp at h
 | b :: r,_,0,v,k,.cons a t,h,hk=>by
  simp at h hk;subst h hk;exact a
 | b :: r,_,i + 1,v,k,.cons a t,h,hk=>strs_get (ks:=r) (i:=i) t (by simpa using h) (by simpa using hk)
theorem zD9 (hc:X.calm=true):CallR X (.type "set") (fun xs H Q=>∃ (p:Addr) (ks:List Str),xs=[.ref p]∧SqL X.K H p (ks.map V.str)∧ks.length≤4000∧∀ d,H d=none→Q (.ref d) (upd H d (SetS X.prog X.w d ks))):=by
 intro pins s σ H xs us Q I r h;obtain ⟨p,ks,rfl,hp,hz,q⟩:=h;obtain ⟨u,rfl,ru⟩:=v1 r;cases (show u=Value.ref p from ru);obtain ⟨its,rv,pl,_⟩:=I.list hp;have hlen:its.length=ks.length:=by rw [← rv.length,Ze]
 refine call_setK (knd:=strKind X.prog X.w) (ks:=ks) (I.ok.hd hc) pl.isList (by rw [Z3,hlen]) (fun i v k h1 h2=>?_) (by rw [Z3,hlen];unfold scanBound;omega) fun z' hs=>?_
 ·obtain ⟨t,rfl⟩:=strs_get rv (by simpa using h1) h2;exact ⟨strKind_is _ _ _ _,rfl⟩
 ·obtain ⟨_,h',tk,rfl,hS,kk⟩:=hs;refine ⟨.ref s.heap.objs.size,_,I.laid (t':=tk) (a:=s.heap.objs.size) (o:=SetS X.prog X.w s.heap.objs.size ks) (fun b o e=>kk b o (Z4 e) e) (Z5 _) ?_,rfl,q _ (I.hok.fresh (Z5 _))⟩;refine ⟨hS,?_,fun h1 h2 hs1 k12=>?_⟩
  ·obtain ⟨o,_,_,_,e,_⟩:=hS;exact ⟨o,e⟩
  ·obtain ⟨o,es,ep,t,e,more⟩:=hs1;exact ⟨o,es,ep,t,k12 o e,more⟩
theorem zC5:CallR X (.builtin "len") (fun xs H Q=>∃ (d:Addr) (ks:List Str),xs=[.ref d]∧H d=some (SetS X.prog X.w d ks)∧ks.length≤4000∧Q (.int (dl ks).length) H):=by
 intro pins s σ H xs us Q I r h;obtain ⟨d,ks,rfl,hd,hz,q⟩:=h;obtain ⟨u,rfl,ru⟩:=v1 r;cases (show u=Value.ref d from ru);obtain ⟨hS,_,_⟩:=I.hok d _ hd;obtain ⟨o,es,ep,t,e,hex,hdt,_,_,hb,hf,hn⟩:=hS;refine call_len_set e hex hdt hf ?_ ?_
 ·unfold scanBound at hb;omega
 ·rw [hn];exact ⟨.int _,H,I.tok _,⟨_,rfl⟩,q⟩
end
end L2
namespace L2
open PySem PySem.Spec PyProof.Rows
theorem ScOk.auto {X:Cx}{sc:Scope}{cl:List (Str×Addr)}{T:List Str} (h1:closureFor sc X.env=pure cl:=by rfl) (h2:(sc.names.all fun y=>y.2 != .cell)=true:=by rfl) (h3:sc.kind=.function:=by rfl)
  (h4:(sc.names.all fun x=>x.2 != .local || sc.names.lookup x.1 == some .local)=true:=by rfl)
  (h5:ClOk X cl:=by first | exact trivial | exact ⟨rfl,trivial⟩ | exact ⟨rfl,rfl,trivial⟩ | exact ⟨rfl,rfl,rfl,trivial⟩ | exact ⟨rfl,rfl,rfl,rfl,trivial⟩)
  (h6:(sc.names.all fun x=>x.2 != .free || ((cl.lookup x.1).isSome && (X.env.scope.names.lookup x.1 == some .cell || X.env.scope.names.lookup x.1 == some .free)))=true:=by rfl)
  (h7:(X.N.all fun x=>sc.names.lookup x != some .local)=true:=by rfl):ScOk X sc cl T where
 clos:=h1
 cell:=fun y hy=>by have:=List.all_eq_true.mp h2 y hy;simpa using this
 kind:=h3
 names:=fun x hx hl=>by
  have:=List.all_eq_true.mp h4 x hx;rw [hl] at this
  simpa using this
 cls:=h5
 has:=fun x hx hf=>by
  have:=List.all_eq_true.mp h6 x hx;rw [hf] at this
  simpa using this
 out:=fun x hx=>by have:=List.all_eq_true.mp h7 x hx;simpa using this
theorem comp_by {J:It}{n k:Nat}{σ : St}{H:Hp}{g:TG}{tt:TT}{te:TE}{Q:VK} (Pv:Nat→List V→Hp→Prop) (h0:Pv 0 [] H) (go:∀ i ys H,i < n→Pv i ys H→J.go i H) (stop:∀ ys H,Pv n ys H→J.stop n H)
  (hz:∀ i ys H,i≤n→Pv i ys H→ys.length≤sizeLine)
  (hs:∀ i ys H x H',i < n→Pv i ys H→J.yld i H x H'→∀ N:List V→Hp→Prop,(∀ ys H,Pv (i + 1) ys H→N ys H)→g x (σ++List.replicate k none) H' fun σ2 H2=>tt σ2 H2 fun b H3=>if b=true then te σ2 H3 fun y H4=>N (ys++[y]) H4 else N ys H3)
  (hd:∀ ys H,Pv n ys H→∀ p,H p=none→Q (.ref p) (upd H p (.lst ys))):CompGoal J k σ H g tt te Q:=by
 refine ⟨fun i m ys H=>m=n - i∧i≤n∧Pv i ys H,⟨n,by simp,Zs _,h0⟩,?_⟩;rintro i m ys H ⟨rfl,hi,p⟩;by_cases lt:i < n
 ·exact .inr ⟨go i ys H lt p,hz _ _ _ hi p,fun x H' y=>hs i ys H x H' lt p y (fun ys' H'=>∃ m',m' < n - i∧m'=n - (i + 1)∧i + 1≤n∧Pv (i + 1) ys' H') fun ys' H' q=>⟨n - (i + 1),by omega,rfl,lt,q⟩⟩
 ·obtain rfl:i=n:=by omega
  exact .inl ⟨stop _ _ p,hz _ _ _ hi p,hd _ _ p⟩
theorem comp_chars {x:Str}{k:Nat}{σ : St}{H:Hp}{g:TG}{tt:TT}{te:TE}{Q:VK} (p:Nat→Bool) (f:Nat→V) (hz:x.length≤sizeLine)
  (hs:∀ c (Ry:VK) (Rn:Hp→Prop),(p c=true→Ry (f c) H)→(p c=false→Rn H)→g (.str ⟨#[c]⟩) (σ++List.replicate k none) H fun σ2 H2=>tt σ2 H2 fun b H3=>if b=true then te σ2 H3 Ry else Rn H3)
  (hd:∀ q,H q=none→Q (.ref q) (upd H q (.lst ((x.cps.toList.filter p).map f)))):CompGoal (Its x) k σ H g tt te Q:=by
 have hlen:x.cps.toList.length=x.length:=by rw [Array.length_toList];rfl
 refine comp_by (J:=Its x) (n:=x.length) (fun i ys H'=>H'=H∧ys=((x.cps.toList.take i).filter p).map f) ⟨rfl,rfl⟩ (fun i ys H' lt _=>lt) (fun ys H' _=>Z5 _) (fun i ys H' hi q=>?_) ?_ ?_
 ·obtain ⟨_,rfl⟩:=q;rw [Ze];have a:=List.length_filter_le p (x.cps.toList.take i);have b:=List.length_take_le i x.cps.toList;omega
 ·rintro i ys H' v H2 lt ⟨rfl,rfl⟩ ⟨rfl,c,hc,rfl⟩ N hN;have hc':x.cps.toList[i]? = some c:=by rw [Array.getElem?_toList];exact hc
  refine hs c _ _ (fun e=>hN _ _ ⟨rfl,?_⟩) (fun e=>hN _ _ ⟨rfl,?_⟩)
  ·rw [Y1,hc',List.filter_append];simp [e]
  ·rw [Y1,hc',List.filter_append];simp [e]
 ·rintro ys H' ⟨rfl,rfl⟩ q hq;rw [← hlen,List.take_length];exact hd q hq
theorem comp_list {K:PySem.W.Frag}{a:Addr}{xs:List V}{k:Nat}{σ : St}{H:Hp}{g:TG}{tt:TT}{te:TE}{Q:VK} (Pv:Nat→List V→Hp→Prop) (h0:Pv 0 [] H) (hl:∀ i ys H,Pv i ys H→SqL K H a xs)
  (hz:∀ i ys H,i≤xs.length→Pv i ys H→ys.length≤sizeLine)
  (hs:∀ i x ys H,xs[i]? = some x→Pv i ys H→∀ N:List V→Hp→Prop,(∀ ys H,Pv (i + 1) ys H→N ys H)→g x (σ++List.replicate k none) H fun σ2 H2=>tt σ2 H2 fun b H3=>if b=true then te σ2 H3 fun y H4=>N (ys++[y]) H4 else N ys H3)
  (hd:∀ ys H,Pv xs.length ys H→∀ p,H p=none→Q (.ref p) (upd H p (.lst ys))):CompGoal (Itl K a) k σ H g tt te Q:=by
 refine comp_by (J:=Itl K a) (n:=xs.length) Pv h0 (fun i ys H lt p=>⟨xs,xs[i],hl i ys H p,Zv lt⟩) (fun ys H p=>⟨xs,hl _ ys H p,Z5 _⟩) hz ?_ hd;rintro i ys H x H' lt p ⟨rfl,y⟩ N hN;exact hs i x ys _ (y xs (hl _ _ _ p)) p N hN
theorem comp_range {lo:Int}{n k:Nat}{σ : St}{H:Hp}{g:TG}{tt:TT}{te:TE}{Q:VK} (Pv:Nat→List V→Hp→Prop) (h0:Pv 0 [] H)
  (hz:∀ i ys H,i≤n→Pv i ys H→ys.length≤sizeLine)
  (hs:∀ i ys H,i < n→Pv i ys H→∀ N:List V→Hp→Prop,(∀ ys H,Pv (i + 1) ys H→N ys H)→g (.int (lo + i)) (σ++List.replicate k none) H fun σ2 H2=>tt σ2 H2 fun b H3=>if b=true then te σ2 H3 fun y H4=>N (ys++[y]) H4 else N ys H3)
  (hd:∀ ys H,Pv n ys H→∀ p,H p=none→Q (.ref p) (upd H p (.lst ys))):CompGoal (Itr lo n) k σ H g tt te Q:=by
 refine comp_by (J:=Itr lo n) (n:=n) Pv h0 (fun i ys H lt p=>lt) (fun ys H p=>Z5 _) hz ?_ hd;rintro i ys H x H' lt p ⟨rfl,rfl⟩ N hN;exact hs i ys _ lt p N hN
theorem pick {A B:St→Hp→Prop}{σ : St}{H:Hp}{i:Nat}{x:V} (h:A (σ.set i (some x)) H):gName i x σ H fun σ2 H2=>tYes σ2 H2 fun b H3=>if b=true then A σ2 H3 else B σ2 H3:=by
 show if true=true then A (σ.set i (some x)) H else B (σ.set i (some x)) H
 rw [if_pos rfl];exact h
theorem Fun.okC {P:Program}{w:World}{K:PySem.W.Frag}{mg:Str→Option Value}{base:Heap}{CX:CXT}{x qual:Str}{st:Stmt}{f:Addr}{fd:FuncData}{N ps:List Str}{k:Nat}{sp:Sp} (F:Fun K x qual st f fd) (S:FnScope N ps (defScope st)) (len:∀ vs H Q E,sp vs H Q E→vs.length=ps.length)
  (hbody:∀ (cdv:Value) (A:Around) (outer:List Env) (s:Shared) (H:Hp) (vs:List V) (Q:VK) (E:XK),Room k (A.deeper (envOfC qual (defScope st) s.heap.objs.size f cdv))→sp vs H Q E →
   ∃ t,PSs (cxOf CX P w K mg base N qual (defScope st) f cdv A outer s H E).nox (defBody st) t∧t { nx:=fun _ H'=>Q .non H',rt:=Q } (start N vs) H):FnOk P w K mg base CX (k + 1) f fd ps sp:=by
 obtain ⟨oc,od,kV,doc,pm,an,cdv,ct,osl,rfl,lk,hcd⟩:=F.ex;refine fn_of lk hcd S len fun A outer s H vs Q E hr hsp=>?_;obtain ⟨t,h,q⟩:=hbody cdv A outer s H vs Q E hr hsp;exact ⟨t,h.nox,q⟩
noncomputable def Calm (CX:CXT):Prop:=∀ o H s e s',CX o H s (fun _ _ _=>False) e s'→False
theorem passC {CX:CXT} (h:Calm CX) {X:Cx}:Passes CX X E0:=fun _ _ _ _ _ _ _ q=>(h _ _ _ _ _ q).elim
structure Def (K:PySem.W.Frag) (mg:Str→Option Value) (x:Str) (st:Stmt) (ps:List Str) (f:Addr) (fd:FuncData):Prop where
 fn:Fun K x x st f fd
 at_:mg x=some (.ref f)
 bind:Binds K fd ps []
theorem Same.new {H:Hp}{p:Addr}{o:HO} (h:H p=none):Same H (upd H p o):=fun b u e=>by rw [zAa (zA4 e h)];exact e
end L2
namespace L2
open PySem PySem.Spec PyProof.Rows
section
variable {X:Cx}{pins:List (Addr×Obj)}{σ : St}{H:Hp}{s:Shared}
end
section
variable {X:Cx}
end
end L2
namespace L2
open PySem PySem.Spec PyProof.Rows
section
variable {X:Cx}{K:PySem.W.Frag}{o e:Expr}{es:List Expr}{to ta tl:TE}{t:TA}{name f:Str}{apos cpos pos:Pos}{T id:String}{r:V→List V→Hp→VK→Prop}{tg:Expr}
end
end L2
namespace L2
open PySem PySem.Spec PyProof.Rows
end L2
namespace L2
open PySem PySem.Spec PyProof.Rows
section
variable {X:Cx}
end
end L2
namespace L2
open PySem PySem.Spec PyProof.Rows
noncomputable def Kept (h h':Heap):Prop:=∀ b o,h.get? b=some o→h'.get? b=some o
theorem Kept.trans {a b c:Heap} (x:Kept a b) (y:Kept b c):Kept a c:=fun p o e=>y p o (x p o e)
noncomputable def ltS (a b:Str):Prop:=a.cps.toList < b.cps.toList
noncomputable instance (a b:Str):Decidable (ltS a b):=inferInstanceAs (Decidable (a.cps.toList < b.cps.toList))
section
variable {P:Program}{w:World}{A:Around}{E:Value→Shared→Prop}{z:Shared}{g:Heap}{l q I S:Addr}{vs:List Value}{R:Result→Shared→Prop}
end
end L2
namespace L2
open PySem PySem.Spec PyProof.Rows
noncomputable def CodeO (c:Addr) (q:Str):HO:=.ext fun h=>h.CodeRec (.ref c) q
noncomputable def TabOk (H:Hp) (P:Addr) (pos:Pos) (q:Str):Prop:=H P=some (.tbl #[])∨∃ c,H P=some (.tbl #[rawInt pos.line,rawInt pos.col,.ref c])∧H c=some (CodeO c q)
theorem TabOk.ne {H:Hp}{P:Addr}{pos:Pos}{q:Str} (T:TabOk H P pos q) {a:Addr}{o:HO} (e:H a=some o) (h:∀ ps,o≠.tbl ps):a≠P:=by
 rintro rfl;rcases T with z | ⟨c,z,_⟩ <;> rw [e] at z <;> exact h _ (Zb z)
theorem TabOk.stay {H H':Hp}{P:Addr}{pos:Pos}{q:Str} (T:TabOk H P pos q) (k:∀ b o,H b=some o→H' b=some o):TabOk H' P pos q:=by
 rcases T with z | ⟨c,z,y⟩
 ·exact .inl (k _ _ z)
 ·exact .inr ⟨c,k _ _ z,k _ _ y⟩
noncomputable def BltAt (mg:Str→Option Value) (base:Heap):Prop:=∃ (bm:Addr) (ob:Obj),mg "__builtins__" = some (.ref bm)∧bm≠builtinsNs∧bm≠mainGlobals∧base.get? bm=some ob∧ob.cls=.type "module"∧ob.dict=some builtinsNs∧ob.data=.plain
section
variable {X:Cx}{pins:List (Addr×Obj)}{σ : St}{H:Hp}{s:Shared}{A:Around}{E:Value→Shared→Prop}
end
section
variable {P:Program}{w:World}{A:Around}{z:Shared}
end
section
variable {X:Cx}
end
end L2
namespace L2
open PySem PySem.Spec PyProof.Rows
theorem blt_of {p:Program}{loose:List Str}{mean:ExcName→Option Value}{mg mb:Str→Option Value}{h:Heap} (T:PyProof.Rows.Top p loose mean mg mb h):BltAt mg h:=by
 obtain ⟨bm,ob,b1,b2,b3,b4,b5,b6⟩:=T.bmain;refine ⟨bm,ob,b1,b2,fun q=>?_,b3,b4,b5,b6⟩;obtain ⟨o,es,ep,e,hd,_⟩:=T.g;rw [q,e] at b3;cases b3;rw [hd] at b6;cases b6
end L2
namespace L2
open PySem PySem.Spec PyProof.Rows
section
variable {X:Cx}
end
noncomputable def Froze (H:Hp) (d:Addr) (kvs:List (Key×V)) (H':Hp):Prop:=∃ o,H'=upd H d (.frz o (.dK kvs))
theorem Froze.at {H H':Hp}{d:Addr}{kvs:List (Key×V)} (z:Froze H d kvs H'):Rd H' d (.dK kvs):=by
 obtain ⟨o,rfl⟩:=z;exact .inr ⟨o,zA1⟩
theorem Froze.ne {H H':Hp}{d:Addr}{kvs:List (Key×V)} (z:Froze H d kvs H') {b:Addr} (h:b≠d):H' b=H b:=by
 obtain ⟨o,rfl⟩:=z;exact zAa h
section
variable {X:Cx}{pins:List (Addr×Obj)}{σ : St}{H:Hp}{s:Shared}{d:Addr}{kvs:List (Key×V)}
end
theorem KV.len {κ : Type}{kvs:List (κ×V)}{vs:List (κ×Value)} (h:KV kvs vs):kvs.length=vs.length:=Paired.length h
theorem key_rel {k:Key}{v:Value} (h:keyIs k v=true):RelV (kV k) v:=by
 rcases zAq h with ⟨i,t,rfl,rfl⟩ | ⟨x,t,rfl,rfl⟩
 ·exact ⟨t,rfl⟩
 ·exact ⟨t,rfl⟩
section
variable {X:Cx}{tg:Expr}
end
end L2
namespace L2
open PySem PySem.Spec PyProof.Rows
section
variable {P:Program}{w:World}{A:Around}{E:Value→Shared→Prop}
end
section
variable {X:Cx}
end
end L2
namespace L2
open PySem PySem.Spec PyProof.Rows
section
variable {X:Cx}
theorem zCb {K:PySem.W.Frag} (hK:X.K=K):CallR X (.builtin "isinstance") (fun xs H Q=>∃ x c t cv b,xs=[x,c]∧TyOf K H x t∧RelV c cv∧PySem.W.kitOne K t cv=some b∧Q (.bl b) H):=by
 subst hK;exact zAr
end
structure FunL (K:PySem.W.Frag) (x qual:Str) (st:Stmt) (f:Addr) (fd:FuncData) (c:Addr):Prop where
 ex:∃ (oc:Value) (od:Option Addr) (kV doc pm:Value) (an:Option Addr) (ct:Value) (osl:Array (Option Value)),
  fd=PySem.W.fnOf x qual (defArgs st) (defBody st) (defScope st) .none kV doc pm an (.ref c) ct∧K.lookup f=some ⟨oc,od,.func fd,osl⟩∧PySem.W.codeIn K (.ref c) qual=true
 kp:PySem.W.keepIn K (.ref f)=true
theorem FunL.okC {P:Program}{w:World}{K:PySem.W.Frag}{mg:Str→Option Value}{base:Heap}{CX:CXT}{x qual:Str}{st:Stmt}{f c:Addr}{fd:FuncData}{N ps:List Str}{k:Nat}{sp:Sp} (F:FunL K x qual st f fd c) (S:FnScope N ps (defScope st)) (len:∀ vs H Q E,sp vs H Q E→vs.length=ps.length)
  (hbody:∀ (A:Around) (outer:List Env) (s:Shared) (H:Hp) (vs:List V) (Q:VK) (E:XK),Room k (A.deeper (envOfC qual (defScope st) s.heap.objs.size f (.ref c)))→sp vs H Q E →
   ∃ t,PSs (cxOf CX P w K mg base N qual (defScope st) f (.ref c) A outer s H E).nox (defBody st) t∧t { nx:=fun _ H'=>Q .non H',rt:=Q } (start N vs) H):FnOk P w K mg base CX (k + 1) f fd ps sp:=by
 obtain ⟨oc,od,kV,doc,pm,an,ct,osl,rfl,lk,hcd⟩:=F.ex;refine fn_of lk hcd S len fun A outer s H vs Q E hr hsp=>?_;obtain ⟨t,h,q⟩:=hbody A outer s H vs Q E hr hsp;exact ⟨t,h.nox,q⟩
end L2
namespace L2
open PySem PySem.Spec PyProof.Rows
end L2
namespace L2
open PySem PySem.Spec PyProof.Rows
section
variable {X:Cx}
end
end L2
namespace L2
open PySem PySem.Spec PyProof.Rows
noncomputable abbrev OKey:=Option Str
noncomputable def okIs:OKey→Value→Bool
 | none,.none=>true
 | none,_=>false
 | some x,v=>Value.isStrOf x v
noncomputable def okH (w:World):OKey→Int
 | none=>0xFCA86420
 | some x=>hashStr w x
theorem zAz:∀ {k:OKey}{v:Value},okIs k v=true→(k=none∧v=Value.none)∨(∃ x t,k=some x∧v=Value.str x t)
 | none,v,h=>by
  cases v <;> first | exact .inl ⟨rfl,rfl⟩ | exact nomatch h
 | some x,v,h=>by
  obtain ⟨t,e⟩:=Value.isStrOf_shape (x:=x) (v:=v) h;exact .inr ⟨x,t,rfl,e⟩
theorem zC1 {prog:Program}{w:World}{A:Around}{E:Value→Shared→Prop}{s:Shared}{Q:Int→Shared→Prop} (h:Q 0xFCA86420 { s with toks:=s.toks + 1 }) :
  wpAny (model prog w) A (pyHash .none) Q E s:=by
 have hT:s.TypeIs .none "NoneType":=rfl;have hv:[Value.none].any Value.onHeap=false:=rfl;show wpAny _ _ (pyHashByItsType .none) Q E s;unfold pyHashByItsType;refine wpAny_bind ?_;rw [cRoomFor,if_neg (by rw [hv];exact Z2)];refine wpAny_pure ?_;refine wpAny_bind (wpAny_specialOf hT F.slot_NoneType_hash.lookup ?_);show wpAny _ _ (if (some (Value.builtin "NoneType.__hash__") == some Value.none)=true then _ else _) Q E s;rw [if_neg (by rw [beq_builtin_none];exact Z2)];refine wpAny_bind (wpAny_specialOf hT F.slot_NoneType_hash.lookup ?_);show wpAny _ _ (callSpecialIfBoundUnlessNone? .none "__hash__" _ >>= _) Q E s
 refine wpAny_bind (wpAny_callSpecialIfBoundUnlessNone?_slot hT F.slot_NoneType_hash
  (wpAny_call_entry F.slot_NoneType_hash hT F.entry_NoneType_hash
   (show wpAny _ _ (do ret (← mkInt 0xFCA86420)) _ _ s from wpAny_ret_mkInt ?_) (F.args_NoneType_hash_1 _)))
 exact wpAny_pure h
noncomputable def optKind (prog:Program) (w:World):PySem.KeyKind prog w OKey where
 is:=okIs
 hash:=okH w
 inj:=fun v a b ha hb=>by
  rcases zAz ha with ⟨rfl,rfl⟩ | ⟨x,t,rfl,rfl⟩
  ·rcases zAz hb with ⟨rfl,e⟩ | ⟨y,u,rfl,e⟩
   ·rfl
   ·exact nomatch e
  ·rcases zAz hb with ⟨rfl,e⟩ | ⟨y,u,rfl,e⟩
   ·exact nomatch e
   ·injection e with e1 _;rw [e1]
 byValue:=fun k v h=>by
  rcases zAz h with ⟨rfl,rfl⟩ | ⟨x,t,rfl,rfl⟩ <;> rfl
 pyHash:=fun hv h=>by
  rcases zAz hv with ⟨rfl,rfl⟩ | ⟨x,t,rfl,rfl⟩
  ·exact zC1 h
  ·exact wpAny_pyHash_str h
 eqBool:=fun hu hv h=>by
  rcases zAz hu with ⟨rfl,rfl⟩ | ⟨x,t,rfl,rfl⟩
  ·rcases zAz hv with ⟨rfl,rfl⟩ | ⟨y,u,rfl,rfl⟩
   ·rw [decide_eq_true rfl] at h;unfold eqBool;rw [if_pos (by rfl)];exact wpAny_bind (wpAny_rule (wpAny_pure h))
   ·rw [decide_eq_false (fun q=>nomatch q)] at h;exact SeqAt.EqAt.none_str y u _ _ _ _ h
  ·rcases zAz hv with ⟨rfl,rfl⟩ | ⟨y,u,rfl,rfl⟩
   ·rw [decide_eq_false (fun q=>nomatch q)] at h;exact SeqAt.EqAt.str_none x t _ _ _ _ h
   ·have e:decide ((some x:OKey)=some y)=decide (x=y):=by
     by_cases e:x=y
     ·subst e;simp
     ·rw [decide_eq_false e,decide_eq_false (fun q=>e (Zb q))]
    rw [e] at h;exact wpAny_eqBool_str h
 «strs»:=fun k x t v h=>by
  rcases zAz h with ⟨rfl,e⟩ | ⟨y,u,rfl,e⟩
  ·exact nomatch e
  ·injection e with e1 _;subst e1;cases v <;> rfl
noncomputable def DO (P:Program) (w:World) (a:Addr) (kvs:List (OKey×V)):HO:=.ext fun h=>kvs.length≤sizeLine∧(a == sysModules)=false∧∃ vs,KV kvs vs∧h.DictOf (optKind P w) a vs
section
variable {P:Program}{w:World}{H:Hp}{h:Heap}{a:Addr}{kvs:List (OKey×V)}
end
section
variable {X:Cx}{o i e value:Expr}{pos pos' tpos:Pos}{td ty tv tk:TE}
end
end L2
namespace L2
open PySem PySem.Spec PyProof.Rows
end L2
namespace L2
open PySem PySem.Spec PyProof.Rows
noncomputable def P2 (e:Addr) (h:Heap):Prop:=∃ o vs,h.get? e=some o∧o.data=.fields vs∧vs[2]? = some Value.none
noncomputable def Kp (e:Addr) {α : Type} (t:Sem α):Prop:=∀ (M:Model) (Γ : PySem.Ctx) (Q : α→Pos→Shared→Prop) (E:Value→Pos→Shared→Prop) (p:Pos) (s:Shared),P2 e s.heap→Sem.wp M Γ t Q E p s →
 Sem.wp M Γ t (fun a p' s'=>Q a p' s'∧P2 e s'.heap) (fun v p' s'=>E v p' s'∧P2 e s'.heap) p s
section
variable {e:Addr}{α β : Type}
theorem Kp.pure (a : α):Kp e (Pure.pure a:Sem α):=fun M Γ Q E p s h w=>by
 rw [Sem.wp_pure'] at w ⊢;exact ⟨w,h⟩
theorem Kp.bind {m:Sem α}{f : α→Sem β} (hm:Kp e m) (hf:∀ a,Kp e (f a)):Kp e (m >>= f):=fun M Γ Q E p s h w=>by
 rw [Sem.wp_bind'] at w ⊢;exact Sem.wp_mono M Γ m (fun a p' s' z=>hf a M Γ Q E p' s' z.2 z.1) (fun _ _ _ z=>z) p s (hm M Γ _ E p s h w)
theorem Kp.un (x:String):Kp e (unsupported x:Sem α):=fun M Γ Q E p s h w=>by
 have z:False:=by simpa [unsupported] using w
 exact z.elim
theorem Kp.ld (a:Addr):Kp e (load a):=fun M Γ Q E p s h w=>by
 obtain ⟨o,h1,h2⟩:=(show ∃ o,s.heap.get? a=some o∧Q o p s from w);exact ⟨o,h1,h2,h⟩
theorem Kp.stk:Kp e stack:=fun M Γ Q E p s h w=>⟨w,h⟩
theorem Kp.alc (o:Obj):Kp e (alloc o):=fun M Γ Q E p s ⟨o',vs,h1,h2⟩ w=>⟨w,o',vs,Z0 _ h1,h2⟩
theorem Kp.upt (a:Addr) (f:Obj→Obj) (hf:∀ o vs,o.data=.fields vs→vs[2]? = some Value.none→∃ vs',(f o).data=.fields vs'∧vs'[2]? = some Value.none):Kp e (update a f):=fun M Γ Q E p s ⟨o,vs,h1,h2,h3⟩ ⟨w1,w2⟩=>by
 refine ⟨w1,w2,?_⟩;obtain ⟨vs',h4,h5⟩:=hf o vs h2 h3;by_cases z:a=e
 ·subst z;exact ⟨_,vs',Heap.get?_update_self f h1 (Obj.isFreed_of_fields h4),h4,h5⟩
 ·exact ⟨o,vs,(Heap.get?_update_other _ f z).trans h1,h2,h3⟩
theorem Kp.fld (v:Value) (i:Nat):Kp e (field v i):=by
 unfold field fieldsOf;cases v with
 | ref a =>
  refine .bind (.bind (.ld a) fun o=>?_) fun vs=>?_
  ·split
   ·exact .pure _
   ·exact .un _
  ·split
   ·exact .pure _
   ·exact .un _
 | _=>exact .bind (.un _) fun vs=>by split <;> first | exact .pure _ | exact .un _
theorem Kp.setF (v:Value) (i:Nat) (x:Value) (hi:i≠2):Kp e (setField v i x):=by
 unfold setField;cases v with
 | ref a =>
  unfold updateField;refine .bind (.ld a) fun o=>?_;split
  ·split
   ·refine .upt a _ fun o vs h1 h2=>⟨_,Obj.data_mapFields h1 _,?_⟩;rw [Array.getElem?_setIfInBounds_ne hi];exact h2
   ·exact .un _
  ·exact .un _
 | _=>exact .un _
theorem Kp.ite {c:Prop} [Decidable c] {a b:Sem α} (h1:Kp e a) (h2:Kp e b):Kp e (if c then a else b):=by
 split
 ·exact h1
 ·exact h2
theorem Kp.flt (v:Value) (f:Option Addr):Kp e (setFlight v f):=by
 unfold setFlight;exact .bind (.fld v 1) fun tb=>.ite (.setF _ _ _ (by decide)) (.pure _)
theorem Kp.kept (env:Env) (b:Bool):∀ l,Kp e (keptBack env b l)
 | []=>by
  unfold keptBack underTheClaimsCaller;exact .ite (.pure _) (.bind (.bind .stk fun _=>.pure _) fun b=>by cases b <;> exact .pure _)
 | _ :: _=>.pure _
theorem Kp.ready:∀ l,Kp e (readyFrames l)
 | []=>.pure _
 | env :: outer=>by
  unfold readyFrames;split
  ·refine .bind (.ld _) fun o=>.ite (.pure _) (.bind ?_ fun b=>.bind (.kept _ _ _) fun v=>.bind (.upt _ _ fun o vs h1 h2=>⟨vs,h1,h2⟩) fun _=>Kp.ready outer);unfold behindIsImport;exact .ite (.pure _) (.ite (.pure _) (.bind (.fld _ _) fun _=>.pure _))
  ·exact .un _
theorem Kp.frm (env:Env):Kp e (PySem.frameOf env):=by
 unfold PySem.frameOf frameEnvs;refine .bind (.bind .stk fun _=>.pure _) fun l=>.bind ?_ fun r=>?_
 ·generalize l.dropWhile _=k;cases k with
  | nil=>exact .pure _
  | cons a b=>exact .bind (.ready _) fun _=>.pure _
 ·split
  ·exact .pure _
  ·exact .un _
theorem Kp.place (f:Addr) (b:Bool):Kp e (entryPlaceOf f b):=by
 unfold entryPlaceOf;refine .bind .stk fun l=>?_;split
 ·exact .pure _
 ·exact .pure _
theorem Kp.note (v:Value) (env:Env):Kp e (noteFrame v env):=by
 unfold noteFrame;split
 ·refine .bind (.fld v 1) fun hd=>?_;have rest:Kp e (do setField v 1 (← EntryCells.newEntry hd (← PySem.frameOf env) .none (rawInt ‹Addr›) .none (← entryPlaceOf ‹Addr› (hd != .none)))):=by
   refine .bind (.frm env) fun _=>.bind (.place _ _) fun _=>.bind ?_ fun _=>.setF _ _ _ (by decide);unfold EntryCells.newEntry newFields newObj;have z:∀ d,Kp e (newObjAsIs (.type "traceback") d):=fun d=>.bind (.alc _) fun _=>.pure _;exact .ite (.bind (.un _) fun _=>z _) (z _)
  exact .ite (.bind (.fld hd 3) fun _=>.ite (.pure _) (.bind (.setF _ _ _ (by decide)) fun _=>rest)) rest
 ·exact .un _
theorem Kp.leave (v:Value) (env:Env):Kp e (leaving env v):=.bind (.note v env) fun _=>.flt v none
theorem zBw {M:Model}{A:Around}{E:Value→Shared→Prop}{s:Shared}{t:Sem α}{Q : α→Shared→Prop} (k:Kp e t) (h:P2 e s.heap) (w:wpAny M A t (fun a s'=>P2 e s'.heap→Q a s') E s):wpAny M A t Q E s:=fun Γ p hΓ =>
 Sem.wp_mono M Γ t (fun _ _ _ z=>z.1 z.2) (fun _ _ _ z=>z.1) p s (k M Γ _ _ p s h (w Γ p hΓ))
end
end L2
namespace L2.W
open PySem PySem.Spec PyProof.Rows
@[irreducible] noncomputable def PE (X:Cx) (e:Expr) (t:TE):Prop:=L2.PE X e t
theorem ePE : @L2.PE = @PE:=by unfold PE;rfl
@[irreducible] noncomputable def PT (X:Cx) (e:Expr) (t:TT):Prop:=L2.PT X e t
theorem ePT : @L2.PT = @PT:=by unfold PT;rfl
@[irreducible] noncomputable def PW (X:Cx) (e:Expr) (t:TT):Prop:=L2.PW X e t
theorem ePW : @L2.PW = @PW:=by unfold PW;rfl
@[irreducible] noncomputable def PA (X:Cx) (es:List Expr) (t:TA):Prop:=L2.PA X es t
theorem ePA : @L2.PA = @PA:=by unfold PA;rfl
@[irreducible] noncomputable def PS (X:Cx) (st:Stmt) (t:TS):Prop:=L2.PS X st t
theorem ePS : @L2.PS = @PS:=by unfold PS;rfl
@[irreducible] noncomputable def PSs (X:Cx) (st:List Stmt) (t:TS):Prop:=L2.PSs X st t
theorem ePSs : @L2.PSs = @PSs:=by unfold PSs;rfl
@[irreducible] noncomputable def PG (X:Cx) (g:Expr) (t:TG):Prop:=L2.PG X g t
theorem ePG : @L2.PG = @PG:=by unfold PG;rfl
@[irreducible] noncomputable def PI (X:Cx) (tg iter:Expr) (wi:TI):Prop:=L2.PI X tg iter wi
theorem ePI : @L2.PI = @PI:=by unfold PI;rfl
@[irreducible] noncomputable def PFs (X:Cx) (ifs:List Expr) (t:TT):Prop:=L2.PFs X ifs t
theorem ePFs : @L2.PFs = @PFs:=by unfold PFs;rfl
noncomputable def zAp:=by have h:=@L2.zAp;rw [ePS,ePSs,ePT] at h;exact @h
noncomputable def zAo:=by have h:=@L2.zAo;rw [ePE] at h;exact @h
noncomputable def zAu:=by have h:=@L2.zAu;rw [ePE] at h;exact @h
noncomputable def zAy:=by have h:=@L2.zAy;rw [ePE,ePT] at h;exact @h
noncomputable def ps_asg:=by have h:=@L2.ps_asg;rw [ePE,ePS,ePG] at h;exact @h
noncomputable def zB4:=by have h:=@L2.zB4;rw [ePE,ePA] at h;exact @h
noncomputable def zAb:=by have h:=@L2.zAb;rw [ePE,ePA] at h;exact @h
noncomputable def zAj:=by have h:=@L2.zAj;rw [ePE,ePS] at h;exact @h
noncomputable def fn_of:=by have h:=@L2.fn_of;rw [ePSs] at h;exact @h
noncomputable def zAx:=by have h:=@L2.zAx;rw [ePE,ePA] at h;exact @h
noncomputable def zAv:=by have h:=@L2.zAv;rw [ePE] at h;exact @h
noncomputable def pe_un:=by have h:=@L2.pe_un;rw [ePE] at h;exact @h
noncomputable def pe_bm:=by have h:=@L2.pe_bm;rw [ePE,ePA] at h;exact @h
noncomputable def zCv:=by have h:=@L2.zCv;rw [ePT,ePW] at h;exact @h
noncomputable def zBq:=by have h:=@L2.zBq;rw [ePE] at h;exact @h
noncomputable def pe_bm0:=by have h:=@L2.pe_bm0;rw [ePE] at h;exact @h
noncomputable def zB0:=by have h:=@L2.zB0;rw [ePE] at h;exact @h
noncomputable def pv:=by have h:=@L2.pv;rw [ePE] at h;exact @h
noncomputable def zB3:=by have h:=@L2.zB3;rw [ePE,ePS] at h;exact @h
noncomputable def zA3:=by have h:=@L2.zA3;rw [ePS,ePSs] at h;exact @h
noncomputable def zBj:=by have h:=@L2.zBj;rw [ePE] at h;exact @h
noncomputable def zA8:=by have h:=@L2.zA8;rw [ePS,ePSs] at h;exact @h
noncomputable def bin:=by have h:=@L2.bin;rw [ePE] at h;exact @h
noncomputable def pc_notN:=by have h:=@L2.pc_notN;rw [ePE] at h;exact @h
noncomputable def zAk:=by have h:=@L2.zAk;rw [ePE] at h;exact @h
noncomputable def pe_var:=by have h:=@L2.pe_var;rw [ePE] at h;exact @h
noncomputable def zBb:=by have h:=@L2.zBb;rw [ePG] at h;exact @h
noncomputable def zBh:=by have h:=@L2.zBh;rw [ePA,ePI] at h;exact @h
noncomputable def ps_for:=by have h:=@L2.ps_for;rw [ePS,ePSs,ePG,ePI] at h;exact @h
noncomputable def zAi:=by have h:=@L2.zAi;rw [ePE,ePT] at h;exact @h
noncomputable def zAd:=by have h:=@L2.zAd;rw [ePE,ePA] at h;exact @h
noncomputable def zCy:=by have h:=@L2.zCy;rw [ePE] at h;exact @h
noncomputable def zCe:=by have h:=@L2.zCe;rw [ePT,ePW] at h;exact @h
noncomputable def zBc:=by have h:=@L2.zBc;rw [ePE,ePA] at h;exact @h
noncomputable def zCf:=by have h:=@L2.zCf;rw [ePE] at h;exact @h
noncomputable def binT:=by have h:=@L2.binT;rw [ePE] at h;exact @h
noncomputable def zB7:=by have h:=@L2.zB7;rw [ePE] at h;exact @h
noncomputable def zAe:=by have h:=@L2.zAe;rw [ePSs] at h;exact @h
noncomputable def PW.pt:=by have h:=@L2.PW.pt;rw [ePT,ePW] at h;exact @h
noncomputable def pw_and:=by have h:=@L2.pw_and;rw [ePT,ePW] at h;exact @h
noncomputable def pt_cmp:=by have h:=@L2.pt_cmp;rw [ePT] at h;exact @h
noncomputable def zCx:=by have h:=@L2.zCx;rw [ePE] at h;exact @h
noncomputable def zA2:=by have h:=@L2.zA2;rw [ePA] at h;exact @h
noncomputable def zA5:=by have h:=@L2.zA5;rw [ePE] at h;exact @h
noncomputable def zC3:=by have h:=@L2.zC3;rw [ePE,ePI] at h;exact @h
noncomputable def PT.nox:=by have h:=@L2.PT.nox;rw [ePT] at h;exact @h
noncomputable def zA7:=by have h:=@L2.zA7;rw [ePE] at h;exact @h
noncomputable def zAn:=by have h:=@L2.zAn;rw [ePE,ePS] at h;exact @h
noncomputable def zBu:=by have h:=@L2.zBu;rw [ePE] at h;exact @h
noncomputable def Fun.ok:=by have h:=@L2.Fun.ok;rw [ePSs] at h;exact @h
noncomputable def zB1:=by have h:=@L2.zB1;rw [ePT] at h;exact @h
noncomputable def pg_sub:=by have h:=@L2.pg_sub;rw [ePE,ePG] at h;exact @h
noncomputable def zBa:=by have h:=@L2.zBa;rw [ePE] at h;exact @h
noncomputable def zA9:=by have h:=@L2.zA9;rw [ePE,ePA] at h;exact @h
noncomputable def PSs.nox:=by have h:=@L2.PSs.nox;rw [ePSs] at h;exact @h
noncomputable def zA0:=by have h:=@L2.zA0;rw [ePE,ePA] at h;exact @h
noncomputable def PE.nox:=by have h:=@L2.PE.nox;rw [ePE] at h;exact @h
noncomputable def zAs:=by have h:=@L2.zAs;rw [ePE,ePS] at h;exact @h
noncomputable def zCu:=by have h:=@L2.zCu;rw [ePT,ePW] at h;exact @h
noncomputable def pe_disp:=by have h:=@L2.pe_disp;rw [ePE] at h;exact @h
noncomputable def zCd:=by have h:=@L2.zCd;rw [ePE] at h;exact @h
noncomputable def zCw:=by have h:=@L2.zCw;rw [ePE] at h;exact @h
noncomputable def zD8:=by have h:=@L2.zD8;rw [ePE,ePG,ePFs] at h;exact @h
noncomputable def zBi:=by have h:=@L2.zBi;rw [ePE,ePG,ePI,ePFs] at h;exact @h
noncomputable def zC6:=by have h:=@L2.zC6;rw [ePFs] at h;exact @h
noncomputable def pi_str:=by have h:=@L2.pi_str;rw [ePE,ePI] at h;exact @h
noncomputable def zAw:=by have h:=@L2.zAw;rw [ePE] at h;exact @h
noncomputable def Fun.okC:=by have h:=@L2.Fun.okC;rw [ePSs] at h;exact @h
noncomputable def FunL.okC:=by have h:=@L2.FunL.okC;rw [ePSs] at h;exact @h
end L2.W
namespace L2
open PySem PySem.Spec PyProof.Rows
noncomputable def XO (C a:Addr):HO:=.ext fun h=>∃ o vs,h.get? a=some o∧o.cls=.ref C∧o.data=.fields vs∧vs[2]? = some Value.none
section
variable {P:Program}{w:World}{H:Hp}{h:Heap}{a C:Addr}{o:HO}
theorem xo_ok {ob:Obj}{vs:Array Value} (e:h.get? a=some ob) (c:ob.cls=.ref C) (d:ob.data=.fields vs) (n:vs[2]? = some Value.none):ObjOk P w H h a (XO C a) :=
 ⟨⟨ob,vs,e,c,d,n⟩,⟨ob,e⟩,fun _ _ ⟨o,vs,e,c,d⟩ k=>⟨o,vs,k _ e,c,d⟩⟩
theorem xo_of (ok:HOk P w H h) (e:H a=some (XO C a)):∃ o vs,h.get? a=some o∧o.cls=.ref C∧o.data=.fields vs∧vs[2]? = some Value.none:=(show ObjOk P w H h a (XO C a) from ok a _ e).1
theorem xo_p2 (ok:HOk P w H h) (e:H a=some (XO C a)):P2 a h:=let ⟨o,vs,h1,_,h2⟩:=xo_of ok e;⟨o,vs,h1,h2⟩
theorem ObjOk.ex (x:ObjOk P w H h a o):∃ ob,h.get? a=some ob:=by
 cases o with
 | lst xs=>obtain ⟨_,_,_,_,e⟩:=x;exact ⟨_,e⟩
 | tup xs=>obtain ⟨_,_,_,ob,e,_⟩:=x;exact ⟨_,e⟩
 | dK kvs=>obtain ⟨_,_,_,_,o,_,_,e,_⟩:=x;exact ⟨_,e⟩
 | dT kvs=>obtain ⟨_,_,_,_,o,_,_,e,_⟩:=x;exact ⟨_,e⟩
 | set S n=>obtain ⟨o,_,_,_,e,_⟩:=x;exact ⟨_,e⟩
 | ins C dx fs=>obtain ⟨_,_,_,e,_⟩:=x;exact ⟨_,e⟩
 | own y=>exact x
 | xd fs=>obtain ⟨_,⟨_,_,_,e,_⟩,_⟩:=x;exact ⟨_,e⟩
 | rng lo hi=>obtain ⟨_,_,_,e⟩:=x;exact ⟨_,e⟩
 | frz ob u=>exact ⟨_,x.1⟩
 | tbl ps=>exact ⟨_,x⟩
 | met f y=>exact ⟨_,x⟩
 | ext φ=>exact x.2.1
theorem HOk.noth (ok:HOk P w H h) (e:h.get? a=none):H a=none:=by
 cases q:H a with
 | none=>rfl
 | some u =>
  obtain ⟨ob,eb⟩:=(ok a u q).ex;rw [e] at eb;cases eb
end
noncomputable def Tr (G:Addr→Prop) (H:Hp) (h:Heap) (e:Addr):Prop:=∃ o vs a0 T oT ts,h.get? e=some o∧o.data=.fields vs∧vs[0]? = some a0∧vs[1]? = some (.ref T)∧G T∧H T=none∧h.get? T=some oT∧oT.data=.fields ts∧ts[3]? = some .none
noncomputable def Fresh (h:Heap) (e:Addr):Prop:=∃ o vs a0,h.get? e=some o∧o.data=.fields vs∧vs[0]? = some a0∧vs[1]? = some .none
theorem Tr.imp {G G':Addr→Prop}{H:Hp}{h:Heap}{e:Addr} (x:Tr G H h e) (f:∀ T,G T→G' T):Tr G' H h e :=
 let ⟨o,vs,a0,T,oT,ts,h1,h2,h3,h4,g,r⟩:=x
 ⟨o,vs,a0,T,oT,ts,h1,h2,h3,h4,f _ g,r⟩
noncomputable def CXM (P:Program) (w:World):CXT:=fun outer H s E u s'=>∃ e C H',u=.ref e∧s'.os=s.os∧AllBare s'.gens∧Un (frs outer) [] H H' s.heap s'.heap∧HOk P w H' s'.heap∧H' e=some (XO C e)∧Tr (fun T=>s.heap.get? T=none) H' s'.heap e∧E (.ref C) (some e) H'
theorem calmM {P:Program}{w:World}:Calm (CXM P w):=fun _ _ _ _ _ ⟨_,_,_,_,_,_,_,_,_,_,q⟩=>q
structure Mvd (l:List Env) (e T0:Addr) (cls a0 fl:Value) (h h':Heap):Prop where
 keep:∀ b o,h.get? b=some o→b≠e→b≠T0→b∉frs l→h'.get? b=some o
 slot:∀ b o,h.get? b=some o→b∈frs l→∃ sl,h'.get? b=some { o with slots:=sl }
 tr:∃ oe vs T oT ts,h'.get? e=some oe∧oe.cls=cls∧vs[0]? = some a0∧oe.data=.fields vs∧vs[1]? = some (.ref T)∧(T=T0∨h.get? T=none)∧T≠e∧h'.get? T=some oT∧oT.data=.fields ts∧ts[3]? = some fl
 p2:P2 e h'
noncomputable abbrev bas (h:Heap) (l:List Env) (e T0:Addr):Heap:=PySem.W.hideAll h (e :: T0 :: frs l)
section
variable {base h h':Heap}{l:List Env}{e T0:Addr}{cls a0 fl:Value}
theorem moved (hl:h.FunFrames base l) (st:(bas h l e T0).StaysIn h') (ff:h'.FunFrames (bas h l e T0) l) (tr:h'.TracedAtW (bas h l e T0) e cls a0 fl) (up:h.UpToSlots h') (p2:P2 e h'):Mvd l e T0 cls a0 fl h h':=by
 refine ⟨fun b o q n1 n2 n3=>st b o (PySem.W.hideAll_get _ q ?_),fun b o q hb=>?_,?_,p2⟩
 ·intro z;rcases List.mem_cons.mp z with z | z
  ·exact n1 z
  ·rcases List.mem_cons.mp z with z | z
   ·exact n2 z
   ·exact n3 z
 ·obtain ⟨_,o',ho,hn⟩:=hl.mem hb;rw [q] at ho;cases ho;exact up b o q hn
 ·obtain ⟨oe,vs,T,oT,ts,he,⟨hc,h0⟩,hd,h1,hn,hne,hT,hdT,h3⟩:=tr;refine ⟨oe,vs,T,oT,ts,he,hc,h0,hd,h1,?_,hne,hT,hdT,h3⟩;cases q:h.get? T with
  | none=>exact .inr rfl
  | some o =>
   refine .inl (Classical.byContradiction fun nT=>?_);have:(bas h l e T0).get? T=some o:=PySem.W.hideAll_get _ q fun z=>by
    rcases List.mem_cons.mp z with z | z
    ·exact hne z
    ·rcases List.mem_cons.mp z with z | z
     ·exact nT z
     ·obtain ⟨_,o',ho,hnf⟩:=ff.mem z;rw [hT] at ho;cases ho;exact hnf _ hdT
   rw [hn] at this;cases this
theorem fly_of (hl:h.FunFrames base l) {oe oT:Obj}{vs ts:Array Value} (he:h.get? e=some oe) (hd:oe.data=.fields vs) (h0:vs[0]? = some a0) (h1:vs[1]? = some (.ref T0)) (hne:T0≠e) (hT:h.get? T0=some oT) (hdT:oT.data=.fields ts) (h3:ts[3]? = some .none) :
  Heap.FlyingW (bas h l e T0) l e oe.cls a0 h :=
 ⟨fun b o q=>PySem.W.of_hideAll _ q,PySem.W.hideAll_none _ (.head _),PySem.W.funFrames_hide hl fun env he a ea=>.tail _ (.tail _ (List.mem_filterMap.mpr ⟨env,he,ea⟩)),oe,vs,T0,oT,ts,he,⟨rfl,h0⟩,hd,h1,PySem.W.hideAll_none _ (.tail _ (.head _)),hne,hT,hdT,h3⟩
end
section
variable {X:Cx}{pins:List (Addr×Obj)}{σ : St}{H:Hp}{s:Shared}{e C T0:Addr}{h':Heap}{cls a0 fl:Value}
theorem Mvd.ex (m:Mvd X.stack e T0 cls a0 fl s.heap h') (b:Addr) (o:Obj) (q:s.heap.get? b=some o) (h2:b≠T0):∃ o',h'.get? b=some o':=by
 obtain ⟨oe,_,_,_,_,he,_⟩:=m.tr;by_cases h1:b=e
 ·rw [h1];exact ⟨oe,he⟩
 ·by_cases h3:b∈frs X.stack
  ·obtain ⟨sl,z⟩:=m.slot b o q h3;exact ⟨_,z⟩
  ·exact ⟨o,m.keep b o q h1 h2 h3⟩
theorem Mvd.hok (m:Mvd X.stack e T0 (.ref C) a0 fl s.heap h') (I:Inv X pins σ H s) (he:H e=some (XO C e)) (hT:T0=e∨H T0=none):HOk X.prog X.w H h':=fun b u eb=>by
 by_cases h1:b=e
 ·subst h1;rw [he] at eb;cases eb;obtain ⟨oe,vs,_,_,_,h2,h3,_,h4,_⟩:=m.tr;obtain ⟨o',vs',h5,h6,h7⟩:=m.p2;rw [h2] at h5;cases h5;exact xo_ok h2 h3 h6 h7
 ·refine (I.hok b u eb).stay (fun c v hc q=>m.keep c v q ?_ ?_ ?_) (fun _ q=>q) fun _ _ q=>q
  ·rintro rfl;rcases hc with z | z
   ·exact h1 z.symm
   ·rw [he] at z;cases z
  ·rintro rfl;rcases hT with z | z
   ·subst z;rcases hc with z | z
    ·exact h1 z.symm
    ·rw [he] at z;cases z
   ·rcases hc with y | y
    ·rw [← y,z] at eb;cases eb
    ·rw [z] at y;cases y
  ·intro z;have:=I.stkFree c z;rcases hc with y | y
   ·rw [← y,this] at eb;cases eb
   ·rw [this] at y;cases y
theorem Inv.moved {t':Nat} (I:Inv X pins σ H s) (he:H e=some (XO C e)) (hT:H T0=none) (h0:X.s₀.heap.get? T0=none) (hp:∀ p∈X.pn++pins,p.1≠T0) {oT:Obj}{ts:Array Value} (eT:s.heap.get? T0=some oT) (dT:oT.data=.fields ts)
  (m:Mvd X.stack e T0 (.ref C) a0 fl s.heap h'):Inv X pins σ H { s with heap:=h',toks:=t' }:=by
 have nL:T0≠X.env.locals:=by
  rintro rfl;obtain ⟨_,⟨o,es,ep,ho,hd,_⟩,_⟩:=I.loc;rw [ho] at eT;cases eT;rw [hd] at dT;cases dT
 have nC:∀ x c,X.env.cells.lookup x=some c→c≠T0:=by
  rintro x c hc rfl;obtain ⟨v,o,ho,hd⟩:=I.cell x c hc;rw [ho] at eT;cases eT;rw [hd] at dT;cases dT
 have neS:∀ b,H b=none→b≠e:=fun b n z=>by rw [z,he] at n;cases n
 have sub:∀ b,b∈X.fs→b∈frs X.stack:=fun b hb=>by
  rcases I.ok.stk with z | ⟨z,hf⟩
  ·rw [z];exact hb
  ·rw [z];unfold frs;rw [Zn,hf];exact Z9 _ hb
 refine I.step (g':=s.gens) (d':=s.drawn) (ch:=[T0]) (fun b hb=>?_) (fun b o n1 n2 n3 q n=>m.keep b o q (neS b n) (fun z=>n3 (by simp [z])) fun z=>(List.mem_cons.mp (I.stkSub b z)).elim n1 n2)
  (fun b o n1 n2 n3 q n=>m.slot b o q (sub b n2)) (fun b o _ _ n=>n) (fun b o n q=>m.ex b o q fun z=>n (by simp [z])) (fun _ _ q=>q) (fun _ _ _ q=>q) (fun b ps q=>⟨#[],by rw [q];simp⟩) (fun mm hm=>?_) (m.hok I he (.inr hT)) I.bare
 ·have:b=T0:=by simpa using hb
  subst this;exact ⟨.inr h0,nL,nC,hp⟩
 ·obtain ⟨o,es,ep,ho,hd,r⟩:=hm;by_cases z:X.env.locals∈frs X.stack
  ·obtain ⟨sl,q⟩:=m.slot _ _ ho z;exact ⟨_,es,ep,q,hd,r⟩
  ·exact ⟨o,es,ep,m.keep _ _ ho (neS _ I.free) (Ne.symm nL) z,hd,r⟩
theorem leave_cx {E:XK}{E':Value→Shared→Prop} (I:Inv X pins σ H s) (hx:X.ex=[]) (hs:X.stack=X.env :: X.outer) (hf:X.env.frame=some X.env.locals) (he:H e=some (XO C e)) (fl:Fresh s.heap e∨Tr (fun T=>X.s₀.heap.get? T=none) H s.heap e) (q:E (.ref C) (some e) H) :
  wpAny (model X.prog X.w) X.A (leaving X.env (.ref e)) (fun _ s''=>CXM X.prog X.w X.outer X.H₀ X.s₀ E (.ref e) s'') E' s:=by
 have hfr:X.A.frames=some (X.env :: X.outer):=by rw [← hs];exact I.ok.frames
 have hl:s.heap.FunFrames X.base (X.env :: X.outer):=by rw [← hs];exact I.stack
 obtain ⟨ox,vx,hox,hcx,hdx⟩:=xo_of I.hok he;have fin:∀ (T0:Addr) (h':Heap) (a0:Value),(T0=e∨(H T0=none∧X.s₀.heap.get? T0=none))→Mvd X.stack e T0 (.ref C) a0 .none s.heap h'→CXM X.prog X.w X.outer X.H₀ X.s₀ E (.ref e) { s with heap:=h' }:=by
  intro T0 h' a0 hT m;have hT1:T0=e∨H T0=none:=hT.imp_right fun z=>z.1;have back:∀ b o,X.s₀.heap.get? b=some o→∃ o',s.heap.get? b=some o':=fun b o z=>I.base.there b o z (by rw [hx];simp);have nT:∀ b o,X.s₀.heap.get? b=some o→H b=none→b≠T0:=fun b o z n y=>by
   rcases hT with w | ⟨_,w⟩
   ·rw [y,w,he] at n;cases n
   ·rw [y,w] at z;cases z
  have nE:∀ b,H b=none→b≠e:=fun b n z=>by rw [z,he] at n;cases n
  have nL:∀ b o,X.s₀.heap.get? b=some o→b≠X.env.locals:=fun b o z=>Z6 (Z1 (Z4 z) I.ok.above);have inS:∀ b,b∈frs X.stack→b=X.env.locals∨b∈frs X.outer:=fun b z=>List.mem_cons.mp (I.stkSub b z);obtain ⟨oe,vs,T,oT,ts,h1,h2,h3,h4,h5,h6,h7,h8,h9,h10⟩:=m.tr;refine ⟨e,C,H,rfl,I.os,I.bare,⟨fun b o z n hb _=>?_,fun b o z n hb _=>?_,fun b o z n _=>I.base.free b o z n (by rw [hx];simp),fun b o z _=>?_,I.base.tups,I.base.frzs,I.base.tbls⟩,m.hok I he hT1,he,⟨oe,vs,a0,T,oT,ts,h1,h4,h3,h5,?_,?_,h8,h9,h10⟩,q⟩
  ·have n':=I.base.free b o z n (by rw [hx];simp);exact m.keep b o (I.base.keep b o z n hb (by rw [hx];simp)) (nE b n') (nT b o z n') fun y=>(inS b y).elim (nL b o z) hb
  ·obtain ⟨sl,z1⟩:=I.base.slot b o z n hb (by rw [hx];simp);obtain ⟨sl',z2⟩:=m.slot b _ z1 (by rw [hs];unfold frs;rw [Zn,hf];exact Z9 _ hb);exact ⟨sl',z2⟩
  ·obtain ⟨o',z1⟩:=back b o z;by_cases y:b=T0
   ·rcases hT with w | ⟨_,w⟩
    ·rw [y,w];exact ⟨oe,h1⟩
    ·rw [y,w] at z;cases z
   ·exact m.ex b o' z1 y
  ·show X.s₀.heap.get? T=none;rcases h6 with z | z
   ·rcases hT with y | ⟨_,y⟩
    ·exact absurd (z.trans y) h7
    ·rw [z];exact y
   ·cases y:X.s₀.heap.get? T with
    | none=>rfl
    | some o =>
     obtain ⟨o',y1⟩:=back T o y;rw [z] at y1;cases y1
  ·rcases h6 with z | z
   ·rcases hT with y | ⟨y,_⟩
    ·exact absurd (z.trans y) h7
    ·rw [z];exact y
   ·exact I.hok.noth z
 rcases fl with ⟨oe,vs,a0,h1,h2,h3,h4⟩ | ⟨oe,vs,a0,T0,oT,ts,h1,h2,h3,h4,g,n,h5,h6,h7⟩
 ·rw [h1] at hox;cases hox;refine zBw (.leave _ _) (xo_p2 I.hok he) (wpAny_leaving_firstW (base:=bas s.heap (X.env :: X.outer) e e) (a0:=a0) hfr (PySem.W.funFrames_hide hl fun env he a ea=>.tail _ (.tail _ (List.mem_filterMap.mpr ⟨env,he,ea⟩))) hf h1 (fun b o z=>PySem.W.of_hideAll _ z) (PySem.W.hideAll_none _ (.head _)) h2 h4 h3 fun h' hL p2=>?_);obtain ⟨k1,k2,k3,k4⟩:=hL;rw [hcx] at k3;refine fin e h' a0 (.inl rfl) ?_;rw [hs];exact L2.moved hl k1 k2 k3 k4 p2
 ·rw [h1] at hox;cases hox;have hne:T0≠e:=fun z=>by rw [z,he] at n;cases n
  have F:=fly_of hl h1 h2 h3 h4 hne h5 h6 h7;rw [hcx] at F;refine zBw (.leave _ _) (xo_p2 I.hok he) (wpAny_leaving_nextW hfr F.2.2.1 hf F.2.2.2 F.1 F.2.1 fun h' hL p2=>?_);obtain ⟨k1,k2,k3,k4⟩:=hL;have m:=L2.moved hl k1 k2 k3 k4 p2;exact fin T0 h' a0 (.inr ⟨n,g⟩) (by rw [hs];exact m)
end
end L2
namespace L2
open PySem PySem.Spec PyProof.Rows
theorem zD5 {K:PySem.W.Frag}{h:Heap}{C:Addr}{bmB:List Value}{newId:String} (X:K.In h) (q:PySem.W.excIn K C bmB newId=true) :
  ∃ bm N nm q bs hdct sn sub ab col dd k0 k1 k2 k3 k5 mN,h.get? C=some (excClassObj nm q C N bs bm hdct sn sub ab col dd k0 k1 k2 k3 k5 newId)∧h.Ns N mN∧mN "__init__" = none∧OwnTail h bmB bm:=by
 unfold PySem.W.excIn at q;split at q
 ·rename_i dd cd sl ho
  split at q
  ·rename_i C' bm k0 k1 k2 k3 n k5 hm hs
   simp only [Zk,beq_iff_eq,Bool.not_eq_true'] at q;obtain ⟨⟨⟨⟨⟨rfl,rfl⟩,hdel⟩,ht⟩,hok⟩,hni⟩:=q;obtain ⟨nm,bs,mro,ns,qn,hd,sn,sub,ab,col,del⟩:=cd;dsimp only at hm hdel hok hni;subst hm hdel;have hsl:sl = #[k0,k1,k2,k3,some (.builtin n),k5]:=by
    obtain ⟨l⟩:=sl;simp only at hs;rw [hs]
   subst hsl;exact ⟨bm,ns,nm,qn,bs,hd,sn,sub,ab,col,dd,k0,k1,k2,k3,k5,_,X _ _ ho,.of_isNs (PySem.W.isNs_of_in X hok),PySem.W.nsMap_none_of_in X hok hni,PySem.W.tail_of_in X ht⟩
  ·cases q
 ·cases q
section
variable {X:Cx}{pins:List (Addr×Obj)}{σ : St}{H H':Hp}{s:Shared}{e C:Addr}{h h':Heap}{o:HO}
theorem Un.born {fs ex:List Addr} (k:∀ b u,h.get? b=some u→h'.get? b=some u) (hp:h.get? e=none) (hn:H e=none):Un fs ex H (upd H e o) h h' where
 keep:=fun b u q _ _ _=>k b u q
 slot:=fun b u q _ _ _=>⟨u.slots,k b u q⟩
 free:=fun b u q n _=>by rw [zAa (fun z=>by rw [z,hp] at q;cases q)];exact n
 there:=fun b u q _=>⟨u,k b u q⟩
 tups:=fun b xs q=>by rw [zAa (zA4 q hn)];exact q
 frzs:=fun b u xs q=>by rw [zAa (zA4 q hn)];exact q
 tbls:=fun b ps q=>⟨#[],by rw [zAa (zA4 q hn),q];simp⟩
theorem HOk.born {P:Program}{w:World} (x:HOk P w H h) (k:∀ b u,h.get? b=some u→h'.get? b=some u) (hp:h.get? e=none) (new:ObjOk P w (upd H e o) h' e o):HOk P w (upd H e o) h':=fun b u q=>by
 have hn:=x.noth hp;by_cases hb:b=e
 ·subst hb;rw [zA1] at q;cases q;exact new
 ·rw [zAa hb] at q;exact (x b u q).stay (fun c v _ q=>k c v q) (fun c q=>by rw [zAa (zA4 q hn)];exact q) fun c xs q=>by rw [zAa (zA4 q hn)];exact q
theorem Inv.born {t':Nat} (I:Inv X pins σ H s) (k:∀ b u,s.heap.get? b=some u→h'.get? b=some u) (hp:s.heap.get? e=none) (new:ObjOk X.prog X.w (upd H e o) h' e o):Inv X pins σ (upd H e o) { s with heap:=h',toks:=t' } :=
 I.un (Un.born k hp (I.hok.noth hp)) (I.hok.born k hp new)
theorem Inv.cx {s':Shared}{E:XK}{u:Value} (I:Inv X pins σ H s) (c:CXM X.prog X.w X.stack H s E u s') :
  ∃ e C H',u=.ref e∧Inv X pins σ H' s'∧H' e=some (XO C e)∧Tr (fun T=>s.heap.get? T=none) H' s'.heap e∧E (.ref C) (some e) H':=by
 obtain ⟨e,C,H',rfl,os,bare,un,hok,he,tr,q⟩:=c;exact ⟨e,C,H',rfl,I.call' (ch:=[]) os un hok bare (fun b z=>absurd z (by simp)),he,tr,q⟩
theorem Inv.back (I:Inv X pins σ H s) (hx:X.ex=[]) {T:Addr} (n:s.heap.get? T=none):X.s₀.heap.get? T=none:=by
 cases y:X.s₀.heap.get? T with
 | none=>rfl
 | some o =>
  obtain ⟨o',y1⟩:=I.base.there T o y (by rw [hx];simp);rw [n] at y1;cases y1
end
section
variable {P:Program}{w:World}{K:PySem.W.Frag}{mg:Str→Option Value}{base:Heap}{N:List Str}{qual:Str}{scope:Scope}{f:Addr}{cd:Value}{A:Around}{outer:List Env}{s:Shared}{H:Hp}{E:XK}
noncomputable abbrev cxM (P:Program) (w:World) (K:PySem.W.Frag) (mg:Str→Option Value) (base:Heap) (N:List Str) (qual:Str) (scope:Scope) (f:Addr) (cd:Value) (A:Around) (outer:List Env) (s:Shared) (H:Hp) (E:XK):Cx:=cxOf (CXM P w) P w K mg base N qual scope f cd A outer s H E
theorem zB9 {pins:List (Addr×Obj)}{σ : St}{H':Hp}{s':Shared}{e C:Addr} (I:Inv (cxM P w K mg base N qual scope f cd A outer s H E) pins σ H' s') (he:H' e=some (XO C e)) (fl:Fresh s'.heap e∨Tr (fun T=>s.heap.get? T=none) H' s'.heap e) (q:E (.ref C) (some e) H') :
  (cxM P w K mg base N qual scope f cd A outer s H E).xe (.ref e) s':=leave_cx I rfl rfl rfl he fl q
theorem zCg:Passes (CXM P w) (cxM P w K mg base N qual scope f cd A outer s H E) (fun _=>E):=fun pins σ H1 s1 u s2 I c=>by
 obtain ⟨e,C,H',rfl,I',he,tr,q⟩:=I.cx c;exact zB9 I' he (.inr (tr.imp fun T n=>I.back rfl n)) q
end
section
variable {X:Cx}{x:Str}{np cpos pos:Pos}{a:Expr}{as:List Expr}{t:TA}{C:Addr}{W:St→Addr→Hp→Prop}
theorem zAt (hc:PySem.W.excIn X.K C [.type "ValueError",.type "Exception",.type "BaseException",.type "object"] "ValueError.__new__" = true) (hg:Gl X x) (hm:X.mg x=some (.ref C)) (hcm:X.calm=true) (ha:PA X (a :: as) t)
  (hx:∀ pins σ H s e,Inv X pins σ H s→H e=some (XO C e)→Fresh s.heap e→W σ e H→X.xe (.ref e) s) (hdb:(x == ("__debug__" : Str))=false:=by decide)
  (he:starEach (a :: as) X.env=(false,eval a X.env) :: starEach as X.env:=by rfl) (hpl:(backTo cpos (starEach as X.env)).any (·.1)=false:=by rfl) :
  PS X (.Raise (some (.Call (.Name x np) (a :: as) [] cpos)) none pos) (fun _ σ H=>t σ H fun vs H1=>vs.length≤sizeLine∧∀ e,H1 e=none→W σ e (upd H1 e (XO C e))):=by
 intro pins s σ H D I h;obtain ⟨bm,N,nm,q,bs,hdct,sn,sub,ab,col,dd,k0,k1,k2,k3,k5,mN,hC,hN,hni,T⟩:=zD5 I.ok.mod.kin hc;have hA:=ha cpos pins s σ H _ I h;refine wpAny_Raise_call_subU (C:=C) (nm:=nm) (q:=q) (N:=N) (bs:=bs) (bm:=bm) (hdct:=hdct) (sn:=sn) (sub:=sub) (ab:=ab) (col:=col) (dd:=dd) (k0:=k0) (k1:=k1) (k2:=k2) (k3:=k3) (k5:=k5)
  PySem.F.excBase_ValueError PySem.F.excBase_ValueError.hasB PySem.F.excBase_ValueError (mN:=mN) (T.hasType PySem.F.excBase_ValueError.hasBase) (I.ok.hd hcm) (by rw [he];show (false || (backTo cpos (starEach as X.env)).any (·.1))=false;rw [hpl];rfl) hni (zBl I hg hm ⟨rfl,?_⟩ hdb)
 rw [he] at hA ⊢;refine Calls.evalArgs_plain (thn hA fun us s2 ⟨vs,H2,I2,r,hz,k⟩=>⟨rfl,by rw [← r.length];exact hz,I2.bk _ _ hC,hN.keeps I2.bk,T.keeps I2.bk,fun h' e hm=>?_⟩);obtain ⟨tt,h1,h2,h3⟩:=hm.there;exact hx pins σ _ { s2 with heap:=h' } e (I2.born (t':=s2.toks) (o:=XO C e) hm.keeps hm.new (xo_ok h1 rfl rfl rfl)) zA1 ⟨_,_,_,h1,rfl,rfl,rfl⟩ (k e (I2.hok.noth hm.new))
end
end L2
namespace L2
open PySem PySem.Spec PyProof.Rows
noncomputable abbrev TW:=St→Addr→Addr→Hp→Prop
noncomputable def Cx.tri (X:Cx) (pins:List (Addr×Obj)) (W:TW):Cx:={ X with
 pn:=X.pn++pins
 xe:=fun u s'=>∃ e C σ' H',u=.ref e∧Inv X pins σ' H' s'∧H' e=some (XO C e)∧Tr (fun T=>X.s₀.heap.get? T=none∧∀ p∈X.pn++pins,p.1≠T) H' s'.heap e∧W σ' e C H' }
noncomputable def Cx.hnd (X:Cx) (e:Addr):Cx:={ X with
 A:=X.A.mark (some (.ref e))
 calm:=false
 xe:=fun _ _=>False }
section
variable {X:Cx}{pins pins':List (Addr×Obj)}{σ : St}{H:Hp}{s:Shared}{W:TW}{e:Addr}
theorem Cx.Ok.tri (ok:X.Ok):(X.tri pins W).Ok:=⟨ok.mod,ok.kind,ok.glob,ok.blt,ok.above,ok.inj,ok.has,ok.cab,ok.hd,ok.frames,ok.stk,ok.exf,ok.bs,ok.bsz,ok.noex,ok.exfs,ok.funs,ok.frf⟩
theorem Cx.Ok.untri (ok:(X.tri pins W).Ok):X.Ok:=⟨ok.mod,ok.kind,ok.glob,ok.blt,ok.above,ok.inj,ok.has,ok.cab,ok.hd,ok.frames,ok.stk,ok.exf,ok.bs,ok.bsz,ok.noex,ok.exfs,ok.funs,ok.frf⟩
theorem Cx.Ok.hnd (ok:X.Ok):(X.hnd e).Ok:=⟨ok.mod,ok.kind,ok.glob,ok.blt,ok.above,ok.inj,ok.has,ok.cab,(fun z=>Bool.noConfusion (show false=true from z)),ok.frames,ok.stk,ok.exf,ok.bs,ok.bsz,ok.noex,ok.exfs,ok.funs,ok.frf⟩
theorem Inv.tri (I:Inv X pins σ H s):Inv (X.tri pins W) [] σ H s:=⟨I.ok.tri,I.os,I.bare,I.base,I.loc,I.cell,I.free,I.freeC,fun p hp=>I.pin p (by simpa [Cx.tri] using hp),I.hok,I.len⟩
theorem Inv.untri (I:Inv (X.tri pins W) pins' σ H s):Inv X pins σ H s:=⟨I.ok.untri,I.os,I.bare,I.base,I.loc,I.cell,I.free,I.freeC,fun p hp=>I.pin p (Zm _ hp),I.hok,I.len⟩
theorem Inv.hnd (I:Inv X pins σ H s):Inv (X.hnd e) pins σ H s:=⟨I.ok.hnd,I.os,I.bare,I.base,I.loc,I.cell,I.free,I.freeC,I.pin,I.hok,I.len⟩
theorem Inv.unhnd (ok:X.Ok) (I:Inv (X.hnd e) pins σ H s):Inv X pins σ H s:=⟨ok,I.os,I.bare,I.base,I.loc,I.cell,I.free,I.freeC,I.pin,I.hok,I.len⟩
theorem SP.untri {D:Ends}{f:Flow}{s':Shared} (h:SP (X.tri pins W) pins' D f s'):SP X pins D f s':=by
 cases f with
 | next=>obtain ⟨σ',H',I,q⟩:=h;exact ⟨σ',H',I.untri,q⟩
 | brk=>obtain ⟨σ',H',I,q⟩:=h;exact ⟨σ',H',I.untri,q⟩
 | cont=>obtain ⟨σ',H',I,q⟩:=h;exact ⟨σ',H',I.untri,q⟩
 | ret u=>obtain ⟨v,σ',H',I,r,q⟩:=h;exact ⟨v,σ',H',I.untri,r,q⟩
theorem zB5 (hx:X.ex=[]):Passes (CXM X.prog X.w) (X.tri pins W) (fun σ cls eo H'=>∃ e C,cls=.ref C∧eo=some e∧W σ e C H'):=fun pins' σ H1 s1 u s2 I c=>by
 obtain ⟨e,C,H',rfl,I',he,tr,e',C',h1,h2,q⟩:=I.cx c;cases h1;cases h2
 exact ⟨e,C,σ,H',rfl,I'.untri,he,tr.imp fun T n=>⟨I.back hx n,fun p hp z=>by
  have:=(I.pin p (Zm _ hp)).1;rw [z,n] at this
  cases this⟩,q⟩
theorem Inv.gone {i:Nat}{n:Str}{v:Option Value}{m:Str→Option Value}{h':Heap}{t':Nat} (I:Inv X pins σ H s) (hN:X.N.Nodup) (hi:X.N[i]? = some n)
  (hl:∀ (j:Nat) (x:Str) (v:V),X.N[j]? = some x→σ[j]? = some (some v)→Vis X.env.scope x→∃ u,RelV v u∧Look X.env s.heap m x u) (hn:h'.Ns X.env.locals (fun x=>if x=n then v else m x)) (hs:Heap.SameBut X.env.locals s.heap h') :
  Inv X pins (σ.set i none) H { s with heap:=h',toks:=t' }:=by
 obtain ⟨oL,_,_,hoL,_⟩:=id I.loc.choose_spec.1;have cne:=I.cne;refine ⟨I.ok,I.os,I.bare,⟨fun b o e n hb hx=>?_,fun b o e n hb hx=>?_,I.base.free,fun b o e hx=>?_,I.base.tups,I.base.frzs,I.base.tbls⟩,⟨_,hn,fun j y v' e1 e2 e3=>?_⟩,fun y c e=>?_,I.free,I.freeC,fun p hp=>?_,fun b ob e=>?_,by simpa using I.len⟩
 ·exact (hs.2 b (Z6 (Z1 (Z4 e) I.ok.above))).trans (I.base.keep b o e n hb hx)
 ·obtain ⟨sl,e1⟩:=I.base.slot b o e n hb hx;exact ⟨sl,(hs.2 b (Z6 (Z1 (Z4 e) I.ok.above))).trans e1⟩
 ·obtain ⟨o',e1⟩:=I.base.there b o e hx;exact ⟨o',(hs.2 b (Z6 (Z1 (Z4 e) I.ok.above))).trans e1⟩
 ·have hj:j≠i:=by
   rintro rfl;rw [List.getElem?_set] at e2;simp only [if_true] at e2;split at e2 <;> cases e2
  rw [Zr (Ne.symm hj)] at e2;obtain ⟨u',r',q⟩:=hl j y v' e1 e2 e3;refine ⟨u',r',?_⟩;rcases q with ⟨k,e⟩ | ⟨k,c,e,z⟩
  ·refine .inl ⟨k,?_⟩;have:y≠n:=fun e=>hj (zD0 hN e1 (e ▸ hi));simp [this,e]
  ·exact .inr ⟨k,c,e,z.sameBut hs (cne y c e)⟩
 ·obtain ⟨w',z⟩:=I.cell y c e;exact ⟨w',z.sameBut hs (cne y c e)⟩
 ·obtain ⟨e,n,ne,nf,d⟩:=I.pin p hp;exact ⟨(hs.2 p.1 ne).trans e,n,ne,nf,d⟩
 ·refine (I.hok b ob e).stay (fun c w' hc q=>(hs.2 c ?_).trans q) (fun _ q=>q) fun _ _ q=>q;rintro rfl;rcases hc with hc | hc
  ·rw [← hc,I.free] at e;cases e
  ·rw [I.free] at hc;cases hc
end
noncomputable def Ends.but (D:Ends) (i:Nat):Ends:={ nx:=fun σ H=>D.nx (σ.set i none) H,rt:=D.rt,bk:=fun σ H=>D.bk (σ.set i none) H,ct:=fun σ H=>D.ct (σ.set i none) H }
section
variable {X:Cx}{x n:Str}{np hpos pos:Pos}{body suite:List Stmt}{b₀ : Stmt}{i:Nat}{B:Addr}{tb:TW→TS}{th:Addr→TS}
theorem ps_try (hx:X.ex=[]) (hs:X.stack=X.env :: X.outer) (hf:X.env.frame=some X.env.locals) (hN:X.N.Nodup) (hi:X.N[i]? = some n) (hl:X.env.scope.names.lookup n=some .local) (hg:Gl X x) (hm:X.mg x=some (.ref B))
  (hb:∀ pins W,PSs (X.tri pins W) body (tb W)) (hh:∀ e,PSs (X.hnd e) (b₀ :: suite) (th e)) (hdb:(x == ("__debug__" : Str))=false:=by decide) :
  PS X (.Try body [.ExceptHandler (some (.Name x np)) (some n) (b₀ :: suite) hpos] [] [] pos) (fun D σ H=>∃ W:TW,tb W D σ H∧∀ σ' e C H',H' e=some (XO C e)→W σ' e C H'→PySem.W.exmOne X.K (.ref C) (.ref B)=some true∧th e (D.but i) (σ'.set i (some (.ref e))) H'):=by
 intro pins s σ H D I ⟨W,hbW,hW⟩;refine wpAny_Try_except (wpAny_mono (hb pins W [] s σ H D I.tri hbW) (fun f s1 h1=>?_) (fun u s1 h1=>?_))
 ·have h1:=h1.untri;cases f with
  | next =>
   obtain ⟨σ',H',I',q⟩:=h1;exact zAe pins s1 σ' H' D I' q
  | brk=>exact h1
  | cont=>exact h1
  | ret u=>exact h1
 ·obtain ⟨e,C,σ',H',rfl,I',he,tr,w⟩:=h1;obtain ⟨oe,vs,a0,T0,oT,ts,h1,h2,h3,h4,⟨g1,g2⟩,nT,h5,h6,h7⟩:=tr;obtain ⟨hK,hT⟩:=hW σ' e C H' he w;have hfr:X.A.frames=some (X.env :: X.outer):=by rw [← hs];exact I.ok.frames
  have hl':s1.heap.FunFrames X.base (X.env :: X.outer):=by rw [← hs];exact I'.stack
  obtain ⟨ox,vx,hox,hcx,hdx⟩:=xo_of I'.hok he;rw [h1] at hox;cases hox;have hne:T0≠e:=fun z=>by rw [z,he] at nT;cases nT
  have F:=fly_of hl' h1 h2 h3 h4 hne h5 h6 h7;rw [hcx] at F;have mv:∀ {h':Heap}{t':Nat},Heap.FlyingW (bas s1.heap (X.env :: X.outer) e T0) (X.env :: X.outer) e (.ref C) a0 h'→s1.heap.UpToSlots h'→P2 e h'→Inv X pins σ' H' { s1 with heap:=h',toks:=t' }:=fun {h'}{t'} F up p2=>by
   have m:=L2.moved (fl:=.none) hl' F.1 F.2.2.1 F.2.2.2 up p2;rw [← hs] at m;exact I'.moved he nT g1 g2 h5 h6 m
  refine zBw (.note _ _) (xo_p2 I'.hok he) (wpAny_looks_onW hfr hf F fun h₄ H4 up4 p4=>?_);refine zBw (.flt _ _) p4 (wpAny_landsW H4 fun h₅ F5 up5 p5=>?_);have I5:=mv (t':=s1.toks) F5 (up4.trans up5) p5;have I5h:=I5.hnd (e:=e);refine wpAny_handleBy_cons (codeAny_handlers_test (zBl I5h hg hm ?_ hdb)) (by intro q;cases q);obtain ⟨o5,ho5,hc5⟩:=F5.there;have LT:PySem.W.Looks (model X.prog X.w) h₅ (typeOf (.ref e)) (.ref C):=by
   rw [← hc5];exact (PySem.W.Looks.ld ho5).andThen .now
  refine PySem.W.exm_one I5.kIn LT hK _ _ _ _ (fun _ _ q=>q) ?_;refine codeAny_handlers_suite_as ?_;refine zBw (.flt _ _) p5 (lands_againW F5 fun h₆ F6 up6 p6=>?_);have I6:=(mv (t':=s1.toks) F6 ((up4.trans up5).trans up6) p6).hnd (e:=e);refine zCr (X:=X.hnd e) (i:=i) I6 hN hi (.inl hl) (v:=.ref e) rfl (fun s7 I7=>?_) (.inr hl);refine wpAny_mono (hh e pins s7 _ H' (D.but i) I7 hT) (fun f s8 h8=>?_) (fun _ _ z=>False.elim z);have done:∀ {σ8:St}{H8:Hp}{R:Unit→Shared→Prop}{E:Value→Shared→Prop},Inv (X.hnd e) pins σ8 H8 s8→(∀ s9,Inv X pins (σ8.set i none) H8 s9→R () s9)→wpAny (model X.prog X.w) X.A (do bindName X.env n .none;unbindBehindTheSuite X.env n hpos) R E s8:=fun {σ8 H8 R E} J r=>by
   have J:=J.unhnd I.ok;obtain ⟨m,hn,hloc⟩:=id J.loc;exact wpAny_nameGoes_keeps hl hn (by rw [I.ok.kind];rfl) fun h9 v hn9 hs9=>r _ (J.gone hN hi hloc hn9 hs9)
  cases f with
  | next=>obtain ⟨σ8,H8,J,q⟩:=h8;exact done J fun s9 J9=>⟨_,_,J9,q⟩
  | brk=>obtain ⟨σ8,H8,J,q⟩:=h8;exact done J fun s9 J9=>⟨_,_,J9,q⟩
  | cont=>obtain ⟨σ8,H8,J,q⟩:=h8;exact done J fun s9 J9=>⟨_,_,J9,q⟩
  | ret u=>obtain ⟨v,σ8,H8,J,r,q⟩:=h8;exact done J fun s9 J9=>⟨v,_,_,J9,r,q⟩
end
end L2
namespace L2
open PySem PySem.Spec PyProof.Rows PySem.W
section
variable {prog:Program}{w:World}{A:Around}{E:Value→Shared→Prop}{h:Heap}{g:Array GenState}{d:Drawn}{t:Nat}{os:OsState}{a:Addr}{o:Obj}
 {nm q:Str}{C N:Addr}{bs bm:List Value}{hdct:Bool}{sn:List Str}{sub:List Value}{ab:Bool}{col:Option Bool}{dd:Option Addr}{k0 k1 k2 k3 k5:Option Value}{newId:String}
theorem check_ga {M:Model}{nameV:Value}{Q:Unit→Shared→Prop} (hC:h.get? C=some (excClassObj nm q C N bs bm hdct sn sub ab col dd k0 k1 k2 k3 k5 newId)) (hcB:(Value.ref C :: bm).contains (.type "BaseException")=true)
  (hx:h.get? a=some o) (hc:o.cls=.ref C) (hq:Q () ⟨h,g,d,t,os⟩):wpAny M A (checkBuiltinCall "BaseException.__getattribute__" ⟨[.ref a,nameV],[]⟩) Q E ⟨h,g,d,t,os⟩:=by
 have hk:builtinKind "BaseException.__getattribute__" = some .slot:=by decide +kernel
 have hsplit:splitId "BaseException.__getattribute__" = some ("BaseException", "__getattribute__"):=by decide +kernel
 have ha:=PySem.F.args_bexc_ga (.ref a) nameV;simp only [checkBuiltinCall,hk,hsplit];refine wpAny_bind ?_
 ·unfold isInstance
  repeat (first | (with_reducible refine wpAny_loadPart_at hx ?_;rw [hc]) | (with_reducible refine wpAny_isSubtype_exc hC ?_;rw [hcB]) | wp_step)
  exact hq
end
section
variable {prog:Program}{w:World}{A:Around}{E:Value→Shared→Prop}{s:Shared}{K:Frag}{x C D:Addr}{ox:Obj}
open Builtin Builtin.ObjectAttr Builtin.Getset_descriptor in
theorem xc_get {R:Result→Shared→Prop}{tp:Value} (X:K.In s.heap) (L0:Looks (model prog w) s.heap (typeOf (.ref x)) (.ref D)) (hm:mroIn K D (.type "object")=some true) (h:R (.ok (.ret (.ref D))) s) :
  codeAny (model prog w) A (.call (.builtin "getset_descriptor.__get__") ⟨[.builtin "object.__class__",.ref x,tp],[]⟩) R s:=by
 obtain ⟨hh,g,dr,t,os⟩:=s;have L1:=looks_mroIn (M:=model prog w) X hm;refine codeAny_call_builtin KF.slot_gs.plain KF.entry_gs (KF.slot_gs.check _ _ _ _ _ _ _ _ KF.type_class (KF.args_gs _ _ _) ?_);unfold Builtin.«getset_descriptor.__get__» descrGet;rw [dga_obj];refine wpAny_bind (wpAny_pure ?_);unfold descrGetter descrCheckInstance descrNameAndClass isInstance;simp only [KF.owner_class];repeat lk
 refine ⟨Code.quiet_builtin _ (by decide +kernel),codeAny_builtin KF.entry_class ?_⟩;unfold Builtin.«object.__class__» shownTypeOf
 repeat lk
 exact h
theorem xc_class {Q:Option Value→Shared→Prop} (X:K.In s.heap) (hx:s.heap.get? x=some ox) (hc:ox.cls=.ref D) (hga:findIn K (.ref D) "__getattribute__" = some (some (.builtin "BaseException.__getattribute__"))) (hgt:findIn K (.ref D) "__getattr__" = some none)
  (hcf:findIn K (.ref D) "__class__" = some (some (.builtin "object.__class__"))) (hm:mroIn K D (.type "object")=some true) (hexc:excIn K D [.type "ValueError",.type "Exception",.type "BaseException",.type "object"] "ValueError.__new__" = true)
  (h:Q (some (.ref D)) { s with toks:=s.toks + 1 }):wpAny (model prog w) A (getAttr? (.ref x) "__class__") Q E s:=by
 obtain ⟨hh,g,d,t,os⟩:=s;have L0:Looks (model prog w) hh (typeOf (.ref x)) (.ref D):=by rw [← hc];exact (Looks.ld hx).andThen .now
 have L1:=looks_findIn (M:=model prog w) X hga;have L2:=looks_findIn (M:=model prog w) X hgt;have hx2:(Value.builtin "BaseException.__getattribute__" == Value.builtin "object.__getattribute__")=false:=by decide +kernel
 have hx1:(onTheHeap (Value.ref D) && Value.builtin "BaseException.__getattribute__" == Value.builtin "object.__getattribute__")=false:=by rw [hx2];rfl
 have f3:=PySem.F.attr_ValueError.ga.bind (.ref x);unfold getAttr? getAttrBy? getAttrBy;refine wpAny_bind (wpAny_mkText (wpAny_bind (wpAny_attempt (wpAny_holding (wpAny_bind (L0.at (wpAny_bind (L1.at ?_))))))));simp only [hx1,hx2];rw [if_neg (by simp)];unfold getAttrByItsOwn
 repeat (any_goals (first | assumption | with_reducible refine L2.at ?_ | with_reducible refine L0.at ?_ | with_reducible refine L1.at ?_ | wp_step))
 obtain ⟨bm,N,nm,q,bs,hdct,sn,sub,ab,col,dd,k0,k1,k2,k3,k5,mN,hC,hN,hni,T⟩:=zD5 X hexc;refine codeAny_call_builtin PySem.F.attr_ValueError.ga.plain PySem.F.entry_bexc_ga (check_ga hC (by rw [List.contains_cons,T.hasType PySem.F.excBase_ValueError.hasBase];rfl) hx hc ?_);have L3:=looks_findIn (M:=model prog w) X hcf;have f5:typeOf (.builtin "object.__class__")=pure (.type "getset_descriptor"):=by kernel_rfl
 have f6:=PySem.F.slot_gs_get.lookup;have f7:=PySem.F.slot_gs_set.lookup
 repeat (any_goals (first | assumption | with_reducible refine L3.at ?_ | with_reducible refine L0.at ?_ | wp_step))
 refine xc_get X L0 hm ?_;exact wpAny_pure (handed_on rfl (wpAny_pure h))
structure XCls (K:Frag) (C:Addr):Prop where
 exc:excIn K C [.type "ValueError",.type "Exception",.type "BaseException",.type "object"] "ValueError.__new__" = true
 ga:findIn K (.ref C) "__getattribute__" = some (some (.builtin "BaseException.__getattribute__"))
 gt:findIn K (.ref C) "__getattr__" = some none
 cf:findIn K (.ref C) "__class__" = some (some (.builtin "object.__class__"))
 ob:mroIn K C (.type "object")=some true
theorem kitx_exc {e:Addr} (c:XCls K C):KitX K (.ref e) (.ref C) (fun h=>∃ ox,h.get? e=some ox∧ox.cls=.ref C) where
 ty:=fun _ _ _ ⟨_,hx,hc⟩=>by rw [← hc];exact (Looks.ld hx).andThen .now
 it:=fun _ _ X _=>by
  obtain ⟨bm,N,nm,q,bs,hdct,sn,sub,ab,col,dd,k0,k1,k2,k3,k5,mN,hC,_⟩:=zD5 X c.exc;intro A' Q' E' s' k q;unfold isType loadHead;exact wpAny_bind (wpAny_loadPart (k _ _ hC) (wpAny_pure q))
 ne:=fun h tp dd its n sl X htp=>by
  obtain ⟨bm,N,nm,q,bs,hdct,sn,sub,ab,col,dd,k0,k1,k2,k3,k5,mN,hC,_⟩:=zD5 X c.exc;refine Bool.eq_false_iff.mpr fun q=>?_;have e:C=tp:=Value.ref.inj (beq_iff_eq.mp q);subst e;rw [hC] at htp;exact nomatch congrArg Obj.data (Zb htp)
 ca:=fun X ⟨_,hx,hc⟩ k=>xc_class X hx hc c.ga c.gt c.cf c.ob c.exc k
end
section
variable {X:Cx}
theorem zC9 {K:Frag} (hK:X.K=K):CallR X (.builtin "isinstance") (fun xs H Q=>∃ a C c cv b,xs=[.ref a,c]∧H a=some (XO C a)∧XCls K C∧absV cv=some c∧kitOne K (.ref C) cv=some b∧((∀ t,cv≠.ref t)→∃ T,cv=.type T)∧Q (.bl b) H):=by
 intro pins s σ H xs us Q I rv ⟨a,C,c,cv,b,ex,ha,hc,rc,hk,hT,q⟩;subst ex hK;obtain ⟨u1,u2,rfl,r1,r2⟩:=L2.v2 rv;cases (show u1=Value.ref a from r1);obtain ⟨o,vs,h1,h2,h3⟩:=xo_of I.hok ha;have e2:u2=cv:=by
  cases cv with
  | ref t=>cases (Zb rc);exact r2
  | type T=>cases (Zb rc);exact r2
  | _=>obtain ⟨T,z⟩:=hT (fun _ z=>nomatch z);cases z
 subst e2;exact kia_one (kitx_exc hc) I.kIn ⟨o,h1,h2⟩ hk (fun z=>nomatch z) fun tk=>⟨.bl b,H,I.tok tk,rfl,q⟩
theorem zCa {K:Frag} (hK:X.K=K):CallR X (.builtin "isinstance") (fun xs H Q=>∃ (a C t:Addr) (cs:List Addr) (b:Bool),xs=[.ref a,.ref t]∧H a=some (XO C a)∧XCls K C∧H t=some (.tup (cs.map V.ref))∧kitAny K (.ref C) (cs.map Value.ref)=some b∧Q (.bl b) H):=by
 intro pins s σ H xs us Q I rv ⟨a,C,t,cs,b,ex,ha,hc,ht,hk,q⟩;subst ex hK;obtain ⟨u1,u2,rfl,r1,r2⟩:=L2.v2 rv;cases (show u1=Value.ref a from r1);cases (show u2=Value.ref t from r2);obtain ⟨o,vs,h1,h2,h3⟩:=xo_of I.hok ha;obtain ⟨_,its,r,ob,e1,e2,n,e3⟩:=(show ObjOk X.prog X.w H s.heap t (.tup (cs.map V.ref)) from I.hok t _ ht);have key:∀ (cs:List Addr) (its:List Value),Vals (cs.map V.ref) its→its=cs.map Value.ref:=by
  intro cs
  induction cs with
  | nil=>intro its r;cases r;rfl
  | cons c cs ih =>
   intro its r;cases r with
   | cons r0 r' =>
    rw [ih _ r'];cases r0;rfl
 have ei:=key cs its r;subst ei;obtain ⟨oc,od,oda,osl⟩:=ob;cases e2;cases e3;exact kia_tup (kitx_exc hc) I.kIn ⟨o,h1,h2⟩ e1 hk (fun z=>nomatch z) fun tk=>⟨.bl b,H,I.tok tk,rfl,q⟩
end
end L2
namespace L2
open PySem PySem.Spec PyProof.Rows
theorem Fun.okX {P:Program}{w:World}{K:PySem.W.Frag}{mg:Str→Option Value}{base:Heap}{CX:CXT}{x qual:Str}{st:Stmt}{f:Addr}{fd:FuncData}{N ps:List Str}{k:Nat}{sp:Sp} (F:Fun K x qual st f fd) (S:FnScope N ps (defScope st)) (len:∀ vs H Q E,sp vs H Q E→vs.length=ps.length)
  (hbody:∀ (cdv:Value) (A:Around) (outer:List Env) (s:Shared) (H:Hp) (vs:List V) (Q:VK) (E:XK),Room k (A.deeper (envOfC qual (defScope st) s.heap.objs.size f cdv))→sp vs H Q E →
   ∃ t,PSs (cxOf CX P w K mg base N qual (defScope st) f cdv A outer s H E) (defBody st) t∧t { nx:=fun _ H'=>Q .non H',rt:=Q } (start N vs) H):FnOk P w K mg base CX (k + 1) f fd ps sp:=by
 obtain ⟨oc,od,kV,doc,pm,an,cdv,ct,osl,rfl,lk,hcd⟩:=F.ex;exact fn_of lk hcd S len fun A outer s H vs Q E hr hsp=>hbody cdv A outer s H vs Q E hr hsp
namespace W
noncomputable def zAt:=by have h:=@L2.zAt;rw [ePS,ePA] at h;exact @h
noncomputable def ps_try:=by have h:=@L2.ps_try;rw [ePS,ePSs] at h;exact @h
noncomputable def Fun.okX:=by have h:=@L2.Fun.okX;rw [ePSs] at h;exact @h
end W
end L2
namespace L2
open PySem PySem.Spec PyProof.Rows
noncomputable def Cx.re (X:Cx) (N':List Str):Cx:={ X with N:=N' }
noncomputable def hide:List Nat→St→St
 | [],σ=>σ
 | i :: is,σ=>hide is (σ.set i none)
theorem zD3:∀ (is:List Nat) (σ : St),(hide is σ).length = σ.length
 | [],_=>rfl
 | i :: is,σ=>by rw [hide,zD3 is,List.length_set]
theorem zD4:∀ (is:List Nat) (σ : St) (i:Nat) (v:V),(hide is σ)[i]? = some (some v)→i∉is∧σ[i]? = some (some v)
 | [],_,_,_,h=>⟨by simp,h⟩
 | j :: is,σ,i,v,h=>by
  obtain ⟨h1,h2⟩:=zD4 is _ i v h;have ne:j≠i:=by
   rintro rfl;rw [List.getElem?_set] at h2;simp only [if_true] at h2;split at h2 <;> cases h2
  rw [Zr ne] at h2;exact ⟨by simp [h1,Ne.symm ne],h2⟩
noncomputable def Ends.hid (D:Ends) (is:List Nat):Ends:={ nx:=fun σ H=>D.nx (hide is σ) H,rt:=D.rt,bk:=fun σ H=>D.bk (hide is σ) H,ct:=fun σ H=>D.ct (hide is σ) H }
noncomputable def sameN (N N':List Str) (is:List Nat):Prop:=N'.length=N.length∧∀ i,i < N.length→i∉is→N'[i]? = N[i]?
section
variable {X:Cx}{pins:List (Addr×Obj)}{σ : St}{H:Hp}{s:Shared}{N':List Str}{is:List Nat}{st:Stmt}{t:TS}
theorem Inv.re (h:sameN X.N N' is) (I:Inv X pins σ H s):Inv (X.re N') pins (hide is σ) H s :=
 ⟨⟨I.ok.mod,I.ok.kind,I.ok.glob,I.ok.blt,I.ok.above,I.ok.inj,I.ok.has,I.ok.cab,I.ok.hd,I.ok.frames,I.ok.stk,I.ok.exf,I.ok.bs,I.ok.bsz,I.ok.noex,I.ok.exfs,I.ok.funs,I.ok.frf⟩,I.os,I.bare,I.base,by
  obtain ⟨m,hn,hl⟩:=I.loc;refine ⟨m,hn,fun i x v e1 e2 e3=>?_⟩;obtain ⟨n,e2⟩:=zD4 is σ i v e2;have il:i < X.N.length:=by rw [← h.1];exact (List.getElem?_eq_some_iff.mp e1).1
  exact hl i x v ((h.2 i il n).symm.trans e1) e2 e3,I.cell,I.free,I.freeC,I.pin,I.hok,by rw [zD3,I.len];exact h.1.symm⟩
theorem Inv.unre (ok:X.Ok) (h:sameN X.N N' is) (I:Inv (X.re N') pins σ H s):Inv X pins (hide is σ) H s :=
 ⟨ok,I.os,I.bare,I.base,by
  obtain ⟨m,hn,hl⟩:=I.loc;refine ⟨m,hn,fun i x v e1 e2 e3=>?_⟩;obtain ⟨n,e2⟩:=zD4 is σ i v e2;have il:i < X.N.length:=(List.getElem?_eq_some_iff.mp e1).1
  exact hl i x v ((h.2 i il n).trans e1) e2 e3,I.cell,I.free,I.freeC,I.pin,I.hok,by rw [zD3,I.len];exact h.1⟩
theorem ps_re (N':List Str) (is:List Nat) (h:sameN X.N N' is) (hs:PS (X.re N') st t):PS X st (fun D σ H=>t (D.hid is) (hide is σ) H):=by
 intro pins s σ H D I hw;refine wpAny_mono (hs pins s (hide is σ) H (D.hid is) (I.re h) hw) (fun f s1 h1=>?_) (fun _ _ e=>e);cases f with
 | next=>obtain ⟨σ',H',J,q⟩:=h1;exact ⟨_,_,J.unre I.ok h,q⟩
 | brk=>obtain ⟨σ',H',J,q⟩:=h1;exact ⟨_,_,J.unre I.ok h,q⟩
 | cont=>obtain ⟨σ',H',J,q⟩:=h1;exact ⟨_,_,J.unre I.ok h,q⟩
 | ret u=>obtain ⟨v,σ',H',J,r,q⟩:=h1;exact ⟨v,_,_,J.unre I.ok h,r,q⟩
end
theorem FnOk.calm {P:Program}{w:World}{K:PySem.W.Frag}{mg:Str→Option Value}{base:Heap}{CX:CXT}{k:Nat}{f:Addr}{fd:FuncData}{ps:List Str}{sp:Sp} (hC:Calm CX) (F:FnOk P w K mg base CX k f fd ps sp):FnOk P w K mg base CX0 k f fd ps (fun vs H Q E=>sp vs H Q fun _ _ _=>False) :=
 ⟨fun vs H Q E h=>F.len vs H Q _ h,fun A outer s H args us vs Q E hr he hb hv h=>by
  have:=F.run A outer s H args us vs Q (fun _ _ _=>False) hr he hb hv h;refine codeAny_mono this fun r s' h'=>?_;cases r with
  | ok c =>
   cases c with
   | ret u=>exact h'
   | _=>exact h'
  | error e=>exact hC _ _ _ _ _ h'⟩
namespace W
noncomputable def ps_re:=by have h:=@L2.ps_re;rw [ePS] at h;exact @h
end W
end L2
namespace L2
open PySem PySem.Spec PyProof.Rows
structure TabM (H:Hp) (P:Addr) (q:Str):Prop where
 ex:∃ ps:Array Value,H P=some (.tbl ps)∧TriplesOk ps.toList∧∀ (pos:Pos) (v:Value),codeAmong pos ps.toList=some v→∃ a,v=.ref a∧H a=some (CodeO a q)
theorem TabM.ne {H:Hp}{P:Addr}{q:Str} (T:TabM H P q) {a:Addr}{o:HO} (e:H a=some o) (h:∀ ps,o≠.tbl ps):a≠P:=by
 rintro rfl;obtain ⟨ps,z,_⟩:=T.ex;rw [e] at z;exact h _ (Zb z)
theorem TabM.upd {H:Hp}{P:Addr}{q:Str}{p:Addr}{u o:HO} (T:TabM H P q) (hp:H p=some u) (h1:∀ ps,u≠.tbl ps) (h2:∀ f,u≠.ext f):TabM (L2.upd H p o) P q:=by
 have n1:=T.ne hp h1;obtain ⟨ps,z,t,c⟩:=T.ex;refine ⟨ps,by rw [zAa (Ne.symm n1)];exact z,t,fun pos v e=>?_⟩;obtain ⟨a,e1,e2⟩:=c pos v e;refine ⟨a,e1,?_⟩;rw [zAa ?_]
 ·exact e2
 ·rintro rfl;rw [hp] at e2;exact h2 _ (Zb e2)
section
variable {f c':Addr}{q:Str}{params:Arguments}{body:Expr}{scope:Scope}{cl:List (Str×Addr)}{N:List Str}{ws:List V}{h h':Heap}{H:Hp}
end
section
variable {CX:CXT}{P:Program}{w:World}{K:PySem.W.Frag}{mg:Str→Option Value}{base:Heap}{k:Nat}{f c':Addr}{q:Str}{params:Arguments}{body:Expr}{scope:Scope}{cl:List (Str×Addr)}{N:List Str}{ws:List V}
end
section
variable {X:Cx}{CX:CXT}{k:Nat}{f c':Addr}{q x:Str}{params:Arguments}{body:Expr}{scope:Scope}{cl:List (Str×Addr)}{N:List Str}{ws:List V}{sp:Hp→VK→XK→Prop}{E:St→XK}{i:Nat}{p pos:Pos}
end
section
variable {X:Cx}{pins:List (Addr×Obj)}{σ : St}{H:Hp}{s:Shared}{A:Around}{E:Value→Shared→Prop}
end
section
variable {X:Cx}{CX:CXT}{k:Nat}{fw c P:Addr}{fd:FuncData}{q x y:Str}{params:Arguments}{body:Expr}{scope:Scope}{N:List Str}{ix:List Nat}{sp:Addr→Addr→List (Str×Addr)→List V→Sp}{E:St→XK}{p lpos pos:Pos}
end
theorem FunL.okX {P:Program}{w:World}{K:PySem.W.Frag}{mg:Str→Option Value}{base:Heap}{CX:CXT}{x qual:Str}{st:Stmt}{f c:Addr}{fd:FuncData}{N ps:List Str}{k:Nat}{sp:Sp} (F:FunL K x qual st f fd c) (S:FnScope N ps (defScope st)) (len:∀ vs H Q E,sp vs H Q E→vs.length=ps.length)
  (hbody:∀ (A:Around) (outer:List Env) (s:Shared) (H:Hp) (vs:List V) (Q:VK) (E:XK),Room k (A.deeper (envOfC qual (defScope st) s.heap.objs.size f (.ref c)))→sp vs H Q E →
   ∃ t,PSs (cxOf CX P w K mg base N qual (defScope st) f (.ref c) A outer s H E) (defBody st) t∧t { nx:=fun _ H'=>Q .non H',rt:=Q } (start N vs) H):FnOk P w K mg base CX (k + 1) f fd ps sp:=by
 obtain ⟨oc,od,kV,doc,pm,an,ct,osl,rfl,lk,hcd⟩:=F.ex;exact fn_of lk hcd S len fun A outer s H vs Q E hr hsp=>hbody A outer s H vs Q E hr hsp
namespace W
noncomputable def FunL.okX:=by have h:=@L2.FunL.okX;rw [ePSs] at h;exact @h
end W
end L2
namespace PySem.SeqAt
open AutoSeq1 (wpAny_loadPart')
open MeetsSeq
section
variable {A:Around}{s:Shared}
end
end PySem.SeqAt
namespace L2
open PySem PySem.Spec PyProof.Rows
section
variable {X:Cx}{pins:List (Addr×Obj)}{σ : St}{H:Hp}{s:Shared}
end
end L2
namespace L2
open PySem PySem.Spec PyProof.Rows
noncomputable def OnlyTs (ts:List Addr) (H:Hp):Prop:=(∀ T∈ts,H T=some (.tbl #[]))∧∀ b,b∉ts→H b=none∨∃ o xs,H b=some (.frz o (.lst xs))
theorem law_callTs {P:Program}{w:World}{K:PySem.W.Frag}{mg mb:Str→Option Value}{CX:CXT}{k:Nat}{fa a:Addr}{ts:List Addr}{fd:FuncData}{x:Str}{sp:Sp}{s₁ : Shared}{vs:List Value}{ns:List Int}
  (KX:K.In s₁.heap) (hns:s₁.heap.Ns mainGlobals mg) (hb:s₁.heap.Ns builtinsNs mb) (hbb:∀ x:Str,x≠"__name__"→mb x=bootBuiltins x) (hlim:s₁.heap.NoLimit) (hg:s₁.gens = #[]) (hBl:BltAt mg s₁.heap) (hT:∀ T∈ts,s₁.heap.get? T=some (PySem.W.tabObj #[])) (hKT:∀ T∈ts,K.lookup T=none) (hCd:∀ T∈ts,∃ c,PySem.W.codeHdIn K c T=true)
  (ha:s₁.heap.get? a=some { cls:=.type "list",data:=.seq vs.toArray }) (hi:IntsAre vs ns) (hl:ns.length≤sizeLine) (hr:Room k callerA)
  (F:∀ base:Heap,K.In base→base.Ns mainGlobals mg→BltAt mg base→FnOk P w K mg base CX k fa fd [x] sp) (hbind:∀ (s:Shared) (u:Value),BindsTo s fd ⟨[u],[]⟩ [(x,u)])
  (hsp:∀ H:Hp,OnlyTs ts H→SqL K H a (ns.map V.int)→sp [.ref a] H (fun v _=>v=.bl true) fun _ _ _=>False)
  (hCX:∀ H e s',CX [] H s₁ (fun _ _ _=>False) e s'→False) :
  codeAny (model P w) callerA (.call (.ref fa) ⟨[.ref a],[]⟩) (fun r s'=>r=.ok (.ret (.bool true))∧OldK s₁.heap s'.heap∧s'.os=s₁.os∧AllBare s'.gens) s₁:=by
 have rv:=vals_ints hi;have lenV:=hi.length;have aT:a∉ts:=fun h=>by
  have:=hT a h;rw [ha] at this;cases this
 have core:∀ H:Hp,OnlyTs ts H→SqL K H a (ns.map V.int)→HOk P w H s₁.heap→(∀ b,H b≠none→b=a∨b∈ts)→(H a≠none→K.lookup a=none) →
   codeAny (model P w) callerA (.call (.ref fa) ⟨[.ref a],[]⟩) (fun r s'=>r=.ok (.ret (.bool true))∧OldK s₁.heap s'.heap∧s'.os=s₁.os∧AllBare s'.gens) s₁:=by
  intro H hO hS hok hA hK;have base_of:∀ {b:Addr}{o:Obj},s₁.heap.get? b=some o→H b=none→(hidT s₁.heap H).get? b=some o:=fun e n=>hidT_get e n;have noA:∀ {b:Addr}{o:Obj}{es:Array DictEntry}{ep:Nat},s₁.heap.get? b=some o→o.data=.dict es ep→H b=none:=fun {b o es ep} e d=>by
   cases q:H b with
   | none=>rfl
   | some u =>
    rcases hA b (by rw [q];simp) with e' | e'
    ·subst e';rw [ha] at e;cases e;have d':Data.seq vs.toArray _=Data.dict es ep:=d;cases d'
    ·rw [hT b e'] at e;cases e;cases d
  have nsK:∀ {b:Addr}{m:Str→Option Value},s₁.heap.Ns b m→(hidT s₁.heap H).Ns b m:=fun {b m} ⟨o,es,ep,e,d,r⟩=>⟨o,es,ep,base_of e (noA e d),d,r⟩
  have hKb:K.In (hidT s₁.heap H):=fun b o e=>base_of (KX b o e) (by
   cases q:H b with
   | none=>rfl
   | some u =>
    rcases hA b (by rw [q];simp) with e' | e'
    ·subst e';rw [hK (by rw [q];simp)] at e;cases e
    ·rw [hKT b e'] at e;cases e)
  have hBl2:BltAt mg (hidT s₁.heap H):=by
   obtain ⟨bm,ob,e1,e2,e3,e4,e5,e6,e7⟩:=hBl;refine ⟨bm,ob,e1,e2,e3,base_of e4 ?_,e5,e6,e7⟩;cases q:H bm with
   | none=>rfl
   | some u =>
    rcases hA bm (by rw [q];simp) with e' | e'
    ·subst e';rw [ha] at e4;cases e4;exact absurd (show Value.type "list" = Value.type "module" from e5) (by decide)
    ·rw [hT bm e'] at e4;cases e4;exact absurd (show Value.none=Value.type "module" from e5) (by decide)
  have hM:Mod K mg (hidT s₁.heap H):=⟨hKb,nsK hns,⟨mb,nsK hb,hbb⟩,let ⟨mc,h1,h2⟩:=hlim;⟨mc,nsK h1,h2⟩⟩;have e0:Env0 P w K mg (hidT s₁.heap H) callerA [] s₁ H:=⟨rfl,hM,fun b o e=>of_hidT e,Nat.le_of_eq (hidT_size _ _),trivial,fun b hb=>absurd (show b∈([]:List Addr) from hb) (by simp),hok,.of_eq hg⟩;refine codeAny_mono ((F _ hKb (nsK hns) hBl2).run callerA [] s₁ H ⟨[.ref a],[]⟩ [.ref a] [.ref a] _ _ hr e0 (hbind s₁ (.ref a)) (.cons rfl .nil) (hsp H hO hS)) fun r s' h=>?_;cases r with
  | error e=>exact (hCX H e s' h).elim
  | ok fl =>
   cases fl with
   | next=>exact False.elim h
   | brk=>exact False.elim h
   | cont=>exact False.elim h
   | ret u =>
    obtain ⟨v,H',os,bare,un,hok',r',q⟩:=h;have q':v=.bl true:=q;subst q';obtain rfl:u=Value.bool true:=r';have keep:∀ b o,b∉ts→s₁.heap.get? b=some o→s'.heap.get? b=some o:=fun b o nb e=>by
     cases q:H b with
     | none=>exact un.keep b o e q (by intro z;exact absurd (show b∈([]:List Addr) from z) (by simp)) (by simp)
     | some u =>
      rcases hO.2 b nb with z | ⟨ob,xs,z⟩
      ·rw [q] at z;cases z
      ·have z2:=un.frzs b ob _ z;obtain ⟨e1,_⟩:=hok b _ z;obtain ⟨e2,_⟩:=hok' b _ z2;rw [e] at e1;cases e1;exact e2
    have gT:∀ T∈ts,∃ more,s'.heap.get? T=some { cls:=.none,data:=.fields (#[]++more) }:=fun T hm=>by
     obtain ⟨more,eT⟩:=un.tbls T _ (hO.1 T hm);exact ⟨more,hok' T _ eT⟩
    refine ⟨rfl,⟨fun b o e=>?_,fun b o e=>?_⟩,os,bare⟩
    ·by_cases nb:b∈ts
     ·obtain ⟨more,g⟩:=gT b nb;rw [hT b nb] at e;cases e;obtain ⟨c,hc⟩:=hCd b nb;obtain ⟨oc,vsc,_,_,_,_,_,_,_,g1,g2,g3,g4,_⟩:=PySem.W.codeHd_of_K KX hc;exact .inr (.inl ⟨⟨c,oc,vsc,g1,g2,g3,g4⟩,rfl,#[],more,rfl,g⟩)
     ·exact .inl (keep b o nb e)
    ·by_cases nb:b∈ts
     ·obtain ⟨more,g⟩:=gT b nb;exact ⟨_,g⟩
     ·exact ⟨o,keep b o nb e⟩
 cases hk:K.lookup a with
 | some o =>
  have e:=KX a o hk;rw [ha] at e;cases e;refine core (fun b=>if b∈ts then some (.tbl #[]) else none) ⟨fun T hm=>if_pos hm,fun b nb=>.inl (if_neg nb)⟩ (.inr ⟨_,vs.toArray,_,hk,rfl,rfl,rfl,by rw [Z3,lenV];exact hl,by simpa using rv⟩) (fun b u z=>?_) (fun b z=>?_) fun z=>absurd (if_neg aT) z
  ·by_cases nb:b∈ts
   ·have z':=(if_pos nb).symm.trans z;cases z';exact hT b nb
   ·have z':=(if_neg nb).symm.trans z;cases z'
  ·by_cases nb:b∈ts
   ·exact .inr nb
   ·exact absurd (if_neg nb) z
 | none =>
  refine core (fun b=>if b∈ts then some (.tbl #[]) else if b=a then some (.frz { cls:=.type "list",data:=.seq vs.toArray } (.lst (ns.map V.int))) else none) ⟨fun T hm=>if_pos hm,fun b nb=>?_⟩ (.inl (.inr ⟨{ cls:=.type "list",data:=.seq vs.toArray },?_⟩)) (fun b u z=>?_) (fun b z=>?_) fun _=>hk
  ·by_cases hb:b=a
   ·exact .inr ⟨_,_,(if_neg nb).trans (if_pos hb)⟩
   ·exact .inl ((if_neg nb).trans (if_neg hb))
  ·exact (if_neg aT).trans (if_pos rfl)
  ·by_cases nb:b∈ts
   ·have z':=(if_pos nb).symm.trans z;cases z';exact hT b nb
   ·have z':=(if_neg nb).symm.trans z;by_cases hb:b=a
    ·have z2:=(if_pos hb).symm.trans z';cases z2;subst hb;exact ⟨ha,by rw [Ze];exact hl,vs,_,rv,ha⟩
    ·have z2:=(if_neg hb).symm.trans z';cases z2
  ·by_cases nb:b∈ts
   ·exact .inr nb
   ·by_cases hb:b=a
    ·exact .inl hb
    ·exact absurd ((if_neg nb).trans (if_neg hb)) z
end L2
namespace L2
open PySem PySem.Spec PyProof.Rows
section
variable {X:Cx}
end
end L2
namespace L2
open PySem PySem.Spec PyProof.Rows
section
variable {X:Cx}
end
namespace W
end W
end L2
namespace L2
open PySem PySem.Spec PyProof.Rows
section
variable {X:Cx}
end
namespace W
end W
end L2
namespace L2
open PySem PySem.Spec PyProof.Rows
theorem _root_.PyProof.Rows.IsTupIter.kp {h h':Heap}{it l:Addr}{k:Nat} (x:IsTupIter h it l k) (e:∀ o,h.get? it=some o→h'.get? it=some o):IsTupIter h' it l k:=by
 obtain ⟨o,q,r⟩:=x;exact ⟨o,e o q,r⟩
section
variable {P:Program}{w:World}{A:Around}{E:Value→Shared→Prop}{s:Shared}
end
section
variable {P:Program}{w:World}{A:Around}{E:Value→Shared→Prop}{s:Shared}
end
end L2
namespace L2.W
open PySem PySem.Spec PyProof.Rows
end L2.W
namespace L2
open PySem PySem.Spec PyProof.Rows
section
variable {X:Cx}{CX:CXT}{k:Nat}{f C:Addr}{fd:FuncData}{ps:List Str}{sp:Sp}{dvs:List V}{ds:List Value}{E:St→XK}{x m:Str}{p pos apos:Pos}{e:Expr}{es:List Expr}{t:TA}
end
end L2
namespace L2.W
open PySem PySem.Spec PyProof.Rows
end L2.W
namespace L2
open PySem PySem.Spec PyProof.Rows
noncomputable def dataE:Nat→Expr→Option PyData
 | 0,_=>none
 | n + 1,e=>match e with
  | .Constant (.int i) _ _=>some (.int i)
  | .Constant (.str x) _ _=>if decide ((x:Str).length≤1000) && PyData.strOk x then some (.str x) else none
  | .Constant (.bool b) _ _=>some (.bool b)
  | .Constant .none _ _=>some .none
  | .List es _=>if es.length≤1000 then (es.mapM (dataE n)).map .list else none
  | .Tuple es _ _=>if es.length≤1000 then (es.mapM (dataE n)).map .tuple else none
  | .UnaryOp .USub e _=>match dataE n e with | some (.int i)=>some (.int (-i)) | _=>none
  | .BinOp a .Sub b _=>match dataE n a,dataE n b with | some (.int i),some (.int j)=>some (.int (i - j)) | _,_=>none
  | .BinOp a .Pow b _=>match dataE n a,dataE n b with | some (.int i),some (.int j)=>if 0≤j∧j≤1000∧i.natAbs≤1000 then some (.int (i ^ j.toNat)) else none | _,_=>none
  | _=>none
noncomputable def tData (d:PyData):TE:=fun _ H Q=>∀ v H',Same H H'→Has (fun a=>H a=none) H' v d→Q v H'
noncomputable def tDatas (ds:List PyData):TA:=fun _ H Q=>∀ vs H',Same H H'→HasAll (fun a=>H a=none) H' vs ds→Q vs H'
noncomputable def starOk (X:Cx) (e:Expr):Prop:=∀ es,starEach (e :: es) X.env=(false,eval e X.env) :: starEach es X.env
theorem zD6 {X:Cx}{n:Nat} (ih:∀ {e:Expr}{d:PyData},dataE n e=some d→PE X e (tData d)∧starOk X e):∀ {es:List Expr}{ds:List PyData},es.mapM (dataE n)=some ds→PA X es (tDatas ds)
 | [],ds,h=>by
  rw [List.mapM_nil] at h;cases h;exact fun pos pins s σ H Q I q=>zA2 pos pins s σ H Q I (q [] H (Same.refl _) .nil)
 | e :: es,ds,h=>by
  rw [List.mapM_cons] at h;cases q:dataE n e with
  | none=>rw [q] at h;cases h
  | some d =>
   rw [q] at h;cases r:es.mapM (dataE n) with
   | none=>rw [r] at h;cases h
   | some ws =>
    rw [r] at h;cases h;obtain ⟨p1,p2⟩:=ih q;intro pos pins s σ H Q I k;refine zA0 p1 (zD6 ih r) (p2 es) pos pins s σ H Q I fun v H1 s1 h1 vs H2 s2 h2=>k _ _ (s1.trans s2) (.cons (h1.mono s2) (h2.frame fun b o g e=>⟨s1.free g,e⟩))
theorem zD2 {α β : Type}{f : α→Option β}:∀ {l:List α}{m:List β},l.mapM f=some m→m.length=l.length
 | [],m,h=>by rw [List.mapM_nil] at h;cases h;rfl
 | a :: l,m,h=>by
  rw [List.mapM_cons] at h;cases q:f a with
  | none=>rw [q] at h;cases h
  | some b =>
   rw [q] at h;cases r:l.mapM f with
   | none=>rw [r] at h;cases h
   | some ws=>rw [r] at h;cases h;rw [Z7,Z7,zD2 r]
theorem data_of {X:Cx}:∀ {n:Nat}{e:Expr}{d:PyData},dataE n e=some d→PE X e (tData d)∧starOk X e
 | 0,_,_,h=>by cases h
 | n + 1,e,d,h=>by
  have ih:∀ {e:Expr}{d:PyData},dataE n e=some d→PE X e (tData d)∧starOk X e:=fun h=>data_of h;unfold dataE at h;split at h
  ·cases h;exact ⟨fun pins s σ H Q I k=>zA5 pins s σ H Q I (k _ H (Same.refl _) (.int _)),fun _=>rfl⟩
  ·split at h
   ·rename_i c
    rw [Zk] at c;cases h;exact ⟨fun pins s σ H Q I k=>zA7 pins s σ H Q I (k _ H (Same.refl _) (.str _ (of_decide_eq_true c.1) c.2)),fun _=>rfl⟩
   ·cases h
  ·cases h;exact ⟨fun pins s σ H Q I k=>zBu pins s σ H Q I (k _ H (Same.refl _) (.bl _)),fun _=>rfl⟩
  ·cases h;exact ⟨fun pins s σ H Q I k=>zBa pins s σ H Q I (k _ H (Same.refl _) .non),fun _=>rfl⟩
  ·rename_i es pos
   split at h
   ·rename_i c
    obtain ⟨ds,hm,rfl⟩:=Option.map_eq_some_iff.mp h;refine ⟨fun pins s σ H Q I k=>zA9 (zD6 ih hm) pins s σ H Q I fun vs H1 s1 h1=>?_,fun _=>rfl⟩;have l1:vs.length≤1000:=by rw [h1.length,zD2 hm];exact c
    exact ⟨Za (small1000 l1),fun p hp=>k _ _ (s1.trans (Same.new hp)) (.lst (s1.free hp) zA1 l1 (h1.mono (Same.new hp)))⟩
   ·cases h
  ·rename_i es kk pos
   split at h
   ·rename_i c
    obtain ⟨ds,hm,rfl⟩:=Option.map_eq_some_iff.mp h;refine ⟨fun pins s σ H Q I k=>zBc (zD6 ih hm) pins s σ H Q I fun vs H1 s1 h1=>?_,fun _=>rfl⟩;have l1:vs.length≤1000:=by rw [h1.length,zD2 hm];exact c
    exact ⟨Za (small1000 l1),fun p hp=>k _ _ (s1.trans (Same.new hp)) (.tup (s1.free hp) zA1 l1 (h1.mono (Same.new hp)))⟩
   ·cases h
  ·split at h
   ·rename_i i hi
    cases h;exact ⟨fun pins s σ H Q I k=>pe_un un_neg (ih hi).1 pins s σ H Q I fun v H1 s1 h1=>by cases h1;exact ⟨_,rfl,k _ _ s1 (.int _)⟩,fun _=>rfl⟩
   ·cases h
  ·split at h
   ·rename_i i j hi hj
    cases h;exact ⟨fun pins s σ H Q I k=>zB0 op_sub (ih hi).1 (ih hj).1 pins s σ H Q I fun v H1 s1 h1 v2 H2 s2 h2=>by cases h1;cases h2;exact ⟨_,_,rfl,rfl,k _ _ (s1.trans s2) (.int _)⟩,fun _=>rfl⟩
   ·cases h
  ·split at h
   ·rename_i i j hi hj
    split at h
    ·rename_i c
     cases h;exact ⟨fun pins s σ H Q I k=>zB0 op_pow (ih hi).1 (ih hj).1 pins s σ H Q I fun v H1 s1 h1 v2 H2 s2 h2=>by cases h1;cases h2;exact ⟨_,_,rfl,rfl,⟨c.1,by omega,by omega⟩,k _ _ (s1.trans s2) (.int _)⟩,fun _=>rfl⟩
    ·cases h
   ·cases h
  ·cases h
theorem zBt {X:Cx}{e:Expr}{d:PyData} (n:Nat) (h:dataE n e=some d):PE X e (tData d):=(data_of h).1
end L2
namespace L2.W
open PySem PySem.Spec PyProof.Rows
noncomputable def zBt:=by have h:=@L2.zBt;rw [ePE] at h;exact @h
end L2.W
namespace L2
open PySem PySem.Spec PyProof.Rows
section
variable {prog:Program}{w:World}{A:Around}{R:Result→Shared→Prop}{I:Addr}{fp wr:List Addr}{G:Array GenState→Array GenState→Prop}{n:Nat}{P:Nat→Value→Prop}{St:Nat→Shared→Prop}
end
section
variable {prog:Program}{w:World}{A:Around}{E:Value→Shared→Prop}{s:Shared}
end
section
variable {X:Cx}
end
end L2
namespace L2
open PySem PySem.Spec PyProof.Rows
section
variable {X:Cx}
end
end L2
namespace L2
open PySem PySem.Spec PyProof.Rows
section
variable {X:Cx}{e:Expr}{es:List Expr}{te:TE}{t:TA}
end
end L2
namespace L2.W
open PySem PySem.Spec PyProof.Rows
end L2.W
namespace L2
open PySem PySem.Spec PyProof.Rows
section
variable {X:Cx}{CX:CXT}{k:Nat}{fw c P:Addr}{fd:FuncData}{q x y:Str}{params:Arguments}{body:Expr}{scope:Scope}{N:List Str}{ix:List Nat}{sp:Addr→Addr→List (Str×Addr)→List V→Sp}{E:St→XK}{p lpos pos:Pos}
end
namespace W
end W
end L2
namespace L2
open PySem PySem.Spec PyProof.Rows
structure MkN (K:PySem.W.Frag) (C:Addr):Prop where
 makes:PySem.W.makesIn K C=true
 init:PySem.W.findIn K (.ref C) "__init__" = some (some (.builtin "object.__init__"))
 kp:PySem.W.keepIn K (.ref C)=true
noncomputable def tMakeN (C:Addr):TE:=fun _ H Q=>∀ x dx,H x=none→H dx=none→dx≠x→Q (.ref x) (upd (upd H dx (.own x)) x (.ins C dx []))
theorem zAf {X:Cx}{C:Addr}{x:Str}{p pos:Pos} (M:MkN X.K C) (hg:Gl X x) (hm:X.mg x=some (.ref C)) (hdb:(x == ("__debug__" : Str))=false:=by decide):PE X (.Call (.Name x p) [] [] pos) (tMakeN C):=by
 intro pins s σ H Q I h;refine wpAny_Call_Name_kw (zBl I hg hm ?_ hdb);refine PySem.W.callWith_K0 I.kIn M.kp (wpAny_call ?_);have q:=h (s.heap.objs.size + 1) s.heap.objs.size (I.hok.fresh (Nat.le_succ _)) (I.hok.fresh (Z5 _)) (Z6 (Zp _));have I2:=Inv.made (C:=C) I;have Y:=PySem.W.makes_of (M:=model X.prog X.w) I.kIn M.makes;refine make_map0 I.kIn M.makes M.init (fun self=>PySem.W.Looks.of_pure (PySem.W.oi_bind self)) ?_;have e2:((s.heap.push PySem.W.emptyDict).push (PySem.W.instObj C s.heap.objs.size)).get? (s.heap.objs.size + 1)=some (PySem.W.instObj C s.heap.objs.size):=by
  have:=Z8 (s.heap.push PySem.W.emptyDict) (o:=PySem.W.instObj C s.heap.objs.size) rfl
  rwa [Zz] at this
 have t1:PySem.W.Looks (model X.prog X.w) ((s.heap.push PySem.W.emptyDict).push (PySem.W.instObj C s.heap.objs.size)) (typeOf (.ref (s.heap.objs.size + 1))) (.ref C):=(PySem.W.Looks.ld e2).andThen .now;have t2:PySem.W.Looks (model X.prog X.w) ((s.heap.push PySem.W.emptyDict).push (PySem.W.instObj C s.heap.objs.size)) (isInstance (.ref (s.heap.objs.size + 1)) (.type "object")) true:=t1.andThen (Y.top.keeps fun b o e=>Z0 _ (Z0 _ e));refine codeAny_call_builtin PySem.W.oi_plain PySem.W.entry_oi (@PySem.W.check_slot (model X.prog X.w) _ _ _ "object.__init__" "object" "__init__" (.ref (s.heap.objs.size + 1)) [] [] _ PySem.W.oi_kind PySem.W.oi_split t2 (PySem.W.oi_args (.ref (s.heap.objs.size + 1))) ?_);rw [PySem.W.oi_run];exact wpAny_pure (And.intro rfl ⟨V.ref (s.heap.objs.size + 1),_,I2,rfl,q⟩)
section
variable {X:Cx}{x n:Str}{np hpos pos:Pos}{body suite:List Stmt}{b₀ : Stmt}{i:Nat}{B:Addr}{tb:TW→TS}{th:Addr→TS}
end
section
variable {X:Cx}
end
namespace W
noncomputable def zAf:=by have h:=@L2.zAf;rw [ePE] at h;exact @h
end W
end L2
namespace L2
open PySem PySem.Spec PyProof.Rows
namespace W
end W
end L2
namespace L2
open PySem PySem.Spec PyProof.Rows
section
variable {P:Program}{w:World}{A:Around}{E:Value→Shared→Prop}{s:Shared}{r:Addr}{n:Nat}
end
section
variable {X:Cx}{pins:List (Addr×Obj)}{σ : St}{H:Hp}{s:Shared}{r f:Addr}{n:Nat}{Q:VK}
end
end L2
namespace L2
open PySem PySem.Spec PyProof.Rows
section
variable {X:Cx}{pins:List (Addr×Obj)}{σ : St}{H:Hp}{s:Shared}{A:Around}{E:Value→Shared→Prop}
end
section
variable {CX:CXT}{P:Program}{w:World}{K:PySem.W.Frag}{mg:Str→Option Value}{base:Heap}{k:Nat}{f c':Addr}{q x:Str}{params:Arguments}{body:Expr}{scope:Scope}{cl:List (Str×Addr)}{N:List Str}{ws:List V}
end
section
variable {X:Cx}{CX:CXT}{k:Nat}{c P:Addr}{q:Str}{params:Arguments}{body:Expr}{scope:Scope}{N:List Str}{ix:List Nat}{sp:Addr→Addr→List (Str×Addr)→List V→V→Hp→VK→XK→Prop}{e:Expr}{ta:TA}{p lpos kpos pos:Pos}
end
namespace W
end W
end L2
namespace L2
open PySem PySem.Spec PyProof.Rows PySem.W
section
variable {prog:Program}{w:World}{A:Around}{E:Value→Shared→Prop}{s:Shared}
end
section
variable {X:Cx}
end
end L2
namespace L2
open PySem PySem.Spec PyProof.Rows
section
variable {prog:Program}{w:World}{A:Around}{E:Value→Shared→Prop}{s:Shared}{it e:Addr}
end
section
variable {X:Cx}{elt tg a:Expr}{ifs:List Expr}{sc:Scope}{p rp pos:Pos}{cl:List (Str×Addr)}{T:List Str}{ta:TA}{g:TG}{tt:TT}{te:TE}{e:Addr}
end
theorem Fun.okQ {q:Bool}{P:Program}{w:World}{K:PySem.W.Frag}{mg:Str→Option Value}{base:Heap}{CX:CXT}{x qual:Str}{st:Stmt}{f:Addr}{fd:FuncData}{N ps:List Str}{k:Nat}{sp:Sp} (F:Fun K x qual st f fd) (S:FnScope N ps (defScope st)) (len:∀ vs H Q E,sp vs H Q E→vs.length=ps.length)
  (hbody:∀ (cdv:Value) (A:Around) (outer:List Env) (s:Shared) (H:Hp) (vs:List V) (Q:VK) (E:XK),RoomQ q k (A.deeper (envOfC qual (defScope st) s.heap.objs.size f cdv))→sp vs H Q E →
   ∃ t,PSs (cxOfC q CX P w K mg base N qual (defScope st) f cdv A outer s H E).nox (defBody st) t∧t { nx:=fun _ H'=>Q .non H',rt:=Q } (start N vs) H):FnOkQ q P w K mg base CX (k + 1) f fd ps sp:=by
 obtain ⟨oc,od,kV,doc,pm,an,cdv,ct,osl,rfl,lk,hcd⟩:=F.ex;refine fn_of lk hcd S len fun A outer s H vs Q E hr hsp=>?_;obtain ⟨t,h,z⟩:=hbody cdv A outer s H vs Q E hr hsp;exact ⟨t,h.nox,z⟩
theorem Room.hnd {k:Nat}{X:Cx}{e:Addr} (r:Room k X.A):RoomQ false k (X.hnd e).A:=⟨(fun z=>nomatch z),r.dp,r.un⟩
namespace W
noncomputable def Fun.okQ:=by have h:=@L2.Fun.okQ;rw [ePSs] at h;exact @h
end W
end L2
namespace L2
open PySem PySem.Spec PyProof.Rows
section
variable {X:Cx}{y n:Str}{i:Nat}
end
end L2
namespace L2.W
open PySem PySem.Spec PyProof.Rows
end L2.W
namespace L2
open PySem PySem.Spec PyProof.Rows
section
variable {X:Cx}{CX:CXT}{k:Nat}{ps:List Str}{sp:Addr→Sp}{E:St→XK}{m:Str}{pos apos:Pos}{e o:Expr}{es:List Expr}{ta:TE}{t:TA}{D:Addr→Prop}
end
namespace W
end W
end L2
namespace L2
open PySem PySem.Spec PyProof.Rows
section
variable {P:Program}{w:World}{A:Around}{E:Value→Shared→Prop}{s:Shared}
end
section
variable {P:Program}{w:World}{A:Around}{E:Value→Shared→Prop}{s:Shared}
end
end L2
namespace L2.W
open PySem PySem.Spec PyProof.Rows
end L2.W
namespace L2
open PySem PySem.Spec PyProof.Rows
end L2
namespace L2
open PySem PySem.Spec PyProof.Rows
noncomputable def cutH (S:List Addr) (H:Hp):Hp:=fun a=>if a∈S then none else H a
noncomputable def putH (S:List Addr) (H H':Hp):Hp:=fun a=>if a∈S then H a else H' a
theorem zD7 {S:List Addr}{H:Hp}{a:Addr} (h:a∈S):cutH S H a=none:=if_pos h
theorem zBg {S:List Addr}{H:Hp}{a:Addr} (h:a∉S):cutH S H a=H a:=if_neg h
theorem cutH_some {S:List Addr}{H:Hp}{a:Addr}{o:HO} (h:cutH S H a=some o):a∉S∧H a=some o:=by
 by_cases m:a∈S
 ·rw [zD7 m] at h;cases h
 ·rw [zBg m] at h;exact ⟨m,h⟩
theorem zBo {S:List Addr}{H:Hp}{a:Addr} (h:H a=none):cutH S H a=none:=by
 by_cases m:a∈S
 ·exact zD7 m
 ·rw [zBg m];exact h
theorem putH_in {S:List Addr}{H H':Hp}{a:Addr} (h:a∈S):putH S H H' a=H a:=if_pos h
theorem zBf {S:List Addr}{H H':Hp}{a:Addr} (h:a∉S):putH S H H' a=H' a:=if_neg h
noncomputable def frS (sp:Sp):Sp:=fun vs H Q _=>∃ S:List Addr,(∀ a∈S,∃ xs,H a=some (.lst xs))∧sp vs (cutH S H) (fun v H'=>(∀ a∈S,H' a=none)→Q v (putH S H H')) (fun _ _ _=>False)
theorem cut_ok {P:Program}{w:World}{S:List Addr}{H:Hp}{h:Heap} (hl:∀ a∈S,∃ xs,H a=some (.lst xs)) (ok:HOk P w H h):HOk P w (cutH S H) h:=fun a o e=>by
 obtain ⟨_,e⟩:=cutH_some e;refine (ok a o e).stay (fun c v _ r=>r) (fun c r=>?_) (fun c xs r=>?_)
 ·rw [zBg]
  ·exact r
  ·intro m;obtain ⟨xs,z⟩:=hl c m;rw [z] at r;cases r
 ·rw [zBg]
  ·exact r
  ·intro m;obtain ⟨ys,z⟩:=hl c m;rw [z] at r;cases r
theorem FnOkQ.frame {q:Bool}{P:Program}{w:World}{K:PySem.W.Frag}{mg:Str→Option Value}{base:Heap}{CX:CXT}{k:Nat}{f:Addr}{fd:FuncData}{ps:List Str}{sp:Sp} (hC:Calm CX) (F:FnOkQ q P w K mg base CX k f fd ps sp):FnOkQ q P w K mg base CX k f fd ps (frS sp):=by
 refine ⟨fun vs H Q E ⟨S,_,h⟩=>F.len _ _ _ _ h,fun A outer s H args us vs Q E hr he hb hv hs=>?_⟩;obtain ⟨S,hl,hs⟩:=hs;have nfr:∀ a∈S,a∉frs outer:=fun a m z=>by obtain ⟨xs,e⟩:=hl a m;rw [he.frf a z] at e;cases e
 refine codeAny_mono (F.run A outer s (cutH S H) args us vs _ _ hr ⟨he.frames,he.mod,fun b o e=>⟨(he.bs b o e).1,zBo (he.bs b o e).2⟩,he.bsz,he.funs,fun b m=>zBo (he.frf b m),cut_ok hl he.hok,he.bare⟩ hb hv hs) fun r s' hq=>?_;cases r with
 | error e=>exact (hC _ _ _ _ _ hq).elim
 | ok fl =>
  cases fl with
  | next=>exact hq
  | brk=>exact hq
  | cont=>exact hq
  | ret u =>
   obtain ⟨v,H',os,bare,un,hok,rv,q⟩:=hq;have ob:∀ a∈S,∃ o,s.heap.get? a=some o:=fun a m=>by obtain ⟨xs,e⟩:=hl a m;obtain ⟨_,its,n,_,e⟩:=he.hok a _ e;exact ⟨_,e⟩
   have fre:∀ a∈S,H' a=none:=fun a m=>by obtain ⟨o,e⟩:=ob a m;exact un.free a o e (zD7 m) (fun z=>nomatch z)
   have out:∀ c o,H' c=some o→c∉S:=fun c o e m=>by rw [fre c m] at e;cases e
   refine ⟨v,putH S H H',os,bare,⟨?_,?_,?_,un.there,?_,?_,?_⟩,?_,rv,q fre⟩
   ·exact fun b o e n=>un.keep b o e (zBo n)
   ·exact fun b o e n=>un.slot b o e (zBo n)
   ·intro b o e n x;rw [zBf]
    ·exact un.free b o e (zBo n) x
    ·intro m;obtain ⟨xs,z⟩:=hl b m;rw [z] at n;cases n
   ·intro b xs e;have m:b∉S:=fun m=>by obtain ⟨ys,z⟩:=hl b m;rw [z] at e;cases e
    rw [zBf m];exact un.tups b xs (by rw [zBg m];exact e)
   ·intro b o u e;have m:b∉S:=fun m=>by obtain ⟨ys,z⟩:=hl b m;rw [z] at e;cases e
    rw [zBf m];exact un.frzs b o u (by rw [zBg m];exact e)
   ·intro b o e;have m:b∉S:=fun m=>by obtain ⟨ys,z⟩:=hl b m;rw [z] at e;cases e
    obtain ⟨more,z⟩:=un.tbls b o (by rw [zBg m];exact e);exact ⟨more,by rw [zBf m];exact z⟩
   ·intro a o e;by_cases m:a∈S
    ·rw [putH_in m] at e;obtain ⟨xs,z⟩:=hl a m;rw [z] at e;cases e;obtain ⟨l,its,n,r,g⟩:=he.hok a _ z;exact ⟨l,its,n,r,un.keep a _ g (zD7 m) (nfr a m) (fun z=>nomatch z)⟩
    ·rw [zBf m] at e;refine (hok a o e).stay (fun c v _ r=>r) (fun c r=>?_) (fun c xs r=>?_)
     ·rw [zBf (out c _ r)];exact r
     ·rw [zBf (out c _ r)];exact r
end L2
namespace L2.W
open PySem PySem.Spec PyProof.Rows
section
variable {X:Cx}{st:Stmt}{rest:List Stmt}{s:TS}{F:TS→Prop}
theorem zAh (p:PS X st s) (h:∀ S:TS,(∀ D σ H,s D σ H→S D σ H)→∃ t,PSs X rest t∧F (tSeq S t)):∃ t,PSs X (st :: rest) t∧F t :=
 let ⟨_,pt,ft⟩:=h s (fun _ _ _ x=>x);⟨_,zA8 p pt,ft⟩
theorem bd_one (p:PS X st s) (h:∀ S:TS,(∀ D σ H,s D σ H→S D σ H)→F S):∃ t,PSs X [st] t∧F t:=⟨_,zA3 p,h s (fun _ _ _ x=>x)⟩
theorem bd_blk {body:List Stmt}{s:TS→TS} (p:∀ tb,PSs X body tb→PS X st (s tb)) (h:∃ tb,PSs X body tb∧∀ S:TS,(∀ D σ H,s tb D σ H→S D σ H)→∃ t,PSs X rest t∧F (tSeq S t)):∃ t,PSs X (st :: rest) t∧F t :=
 let ⟨tb,pb,hb⟩:=h;zAh (p tb pb) hb
theorem bd_blk1 {body:List Stmt}{s:TS→TS} (p:∀ tb,PSs X body tb→PS X st (s tb)) (h:∃ tb,PSs X body tb∧∀ S:TS,(∀ D σ H,s tb D σ H→S D σ H)→F S):∃ t,PSs X [st] t∧F t :=
 let ⟨tb,pb,hb⟩:=h;bd_one (p tb pb) hb
end
end L2.W
namespace L2
open PySem PySem.Spec PyProof.Rows
theorem zBz {K:PySem.W.Frag}{a:Addr}{xs:List V}{bs:List Bool}{k i:Nat}{σ : St}{H:Hp}{te:TE}{Q:VK} (hs:H a=some (.lst xs)) (le:xs.length≤1000) (len:bs.length=xs.length)
  (step:∀ (j:Nat) (x:V) (b:Bool) (H':Hp) (N:VK),xs[j]? = some x→bs[j]? = some b→Same H H'→(∀ H'',Same H' H''→N (.bl b) H'')→te ((σ++List.replicate k none).set i (some x)) H' N)
  (done:∀ p H',Same H H'→H' p=some (.lst (bs.map V.bl))→Q (.ref p) H'):CompGoal (Itl K a) k σ H (gName i) tYes te Q:=by
 refine comp_list (xs:=xs) (fun j ys H'=>Same H H'∧ys=(bs.take j).map V.bl) ⟨Same.refl _,rfl⟩ (fun j ys H' p=>SqL.of (p.1 _ _ hs)) (fun j ys H' hj p=>?_) ?_ ?_
 ·rw [p.2,Ze,List.length_take];exact Zg (Nat.min_le_right _ _) (by rw [len];exact Za (small1000 le))
 ·rintro j x ys H' hj ⟨s1,rfl⟩ N hN;have il:=(List.getElem?_eq_some_iff.mp hj).1;have eb:bs[j]? = some bs[j]:=Zv (by omega);refine pick (step j x _ H' _ hj eb s1 fun H'' s2=>hN _ _ ⟨s1.trans s2,?_⟩);rw [Y1,eb,List.map_append];rfl
 ·rintro ys H' ⟨s1,rfl⟩ p hp;rw [← len,List.take_length];exact done p _ (s1.trans (Same.new hp)) zA1
end L2
namespace My
open PySem L2
noncomputable def top (i:Nat):Stmt:=PySem.Challenge.pw_cometorest_k32_no_conditions_no_rules.main.body.getD i (.Pass ⟨0,0,0,0⟩)
noncomputable abbrev sIsName:Stmt:=top 20
noncomputable abbrev sUnlike:Stmt:=top 21
noncomputable abbrev sChkNames:Stmt:=top 25
noncomputable abbrev sChkConds:Stmt:=top 26
noncomputable abbrev sInitIs:Stmt:=inClass (top 29) 0
noncomputable abbrev sInitMe:Stmt:=inClass (top 30) 0
noncomputable abbrev sInitOw:Stmt:=inClass (top 31) 0
noncomputable abbrev sInitNo:Stmt:=inClass (top 32) 0
noncomputable abbrev sInitBo:Stmt:=inClass (top 33) 0
noncomputable abbrev sInitEi:Stmt:=inClass (top 34) 0
noncomputable abbrev sInitTM:Stmt:=inClass (top 37) 0
noncomputable abbrev sInitTS:Stmt:=inClass (top 38) 0
noncomputable abbrev sOtherKinds:Stmt:=top 40
noncomputable abbrev sInitR:Stmt:=inClass (top 41) 0
noncomputable abbrev sInitH:Stmt:=inClass (top 43) 0
noncomputable abbrev sIsOther:Stmt:=top 45
noncomputable abbrev sCellAt:Stmt:=top 46
noncomputable abbrev sMixed:Stmt:=top 47
noncomputable abbrev sDigits:Stmt:=top 48
noncomputable abbrev sNext:Stmt:=top 49
noncomputable abbrev sNoName:Stmt:=top 50
noncomputable abbrev sNoCondition:Stmt:=top 51
noncomputable abbrev sRefused:Stmt:=top 52
noncomputable abbrev sBad:Stmt:=top 53
noncomputable abbrev sGood:Stmt:=top 54
noncomputable abbrev sLaw:Stmt:=top 55
noncomputable def letters:Str:="abcdefghijklmnopqrstuvwxyz"
structure Tops (K:PySem.W.Frag) (mg:Str→Option Value):Prop where
 isinst:mg "isinstance" = none
 len:mg "len" = none
 all:mg "all" = none
 set:mg "set" = none
 range:mg "range" = none
 str:mg "str" = none
 list:mg "list" = none
 int:mg "int" = none
 lets:∃ t,mg "LETTERS" = some (.str letters t)
 most:∃ t,mg "MOST_LETTERS" = some (.int 8 t)
 least:∃ t,mg "LEAST_CONDITIONS" = some (.int 2 t)
noncomputable def charB (c:Nat):Bool:=decide (c∈letters.cps.toList)
noncomputable def nameB (x:Str):Bool:=decide (1≤x.length) && decide (x.length≤8) && x.cps.toList.all charB
noncomputable def spIsName (K:PySem.W.Frag):Sp:=fun vs H Q _=>(∃ x,vs=[.str x]∧x.length≤1000∧∀ H',Same H H'→Q (.bl (nameB x)) H') ∨
 ∃ v t,vs=[v]∧TyOf K H v t∧PySem.W.kitOne K t (.type "str")=some false∧Q (.bl false) H
section
variable {P:Program}{w:World}{K:PySem.W.Frag}{mg:Str→Option Value}{base:Heap}{CX:CXT}
theorem scIN:FnScope ["thing"] ["thing"] (defScope sIsName):=⟨rfl,rfl,rfl,by decide +kernel,rfl,by decide +kernel,by decide +kernel⟩
theorem ok_isName {f:Addr}{fd:FuncData} (F:Fun K "is_name" "is_name" sIsName f fd) (T:Tops K mg):FnOk P w K mg base CX 1 f fd ["thing"] (spIsName K):=by
 refine F.okC scIN (fun vs H Q E h=>?_) (fun cdv A outer s H vs Q E hr h=>?_)
 ·rcases h with ⟨x,rfl,_⟩ | ⟨v,t,rfl,_⟩ <;> rfl
 ·obtain ⟨tl,hlets⟩:=T.lets;obtain ⟨tm,hmost⟩:=T.most
  refine ⟨_,zA8 (zAp (zB1 (zAy (zAb zAr rfl T.isinst PyProof.Rows.boot_isinstance (zA0 (pv 0) (zA0 (zBj (v:=.ty "str") rfl T.str PyProof.Rows.boot_str rfl) zA2))))) (zA3 (zAj zBu)) zAe)
   (zA3 (zAj (zBq (zCx op_le op_le zA5 (zAb call_len_str rfl T.len PySem.boot_len (zA0 (pv 0) zA2)) (zAk (v:=.int 8) rfl hmost ⟨_,rfl⟩))
    (zCf (zAb (zC0 rfl) rfl T.all PyProof.Rows.boot_all (zA0 (zBi (T:=["sign"]) rfl ScOk.auto (pi_str (pv 0)) (fun _ _ _ _=>zBb (i:=1) (by decide +kernel:(["thing", "sign"]:List Str).Nodup) rfl (Or.inl rfl)) (fun _ _ _ _=>zC6)
     (fun _ _ _ _=>zB7 op_in_str (pv 1) (zAk (v:=.str letters) rfl hlets ⟨_,rfl⟩) rfl)) zA2)))))),?_⟩
  rcases h with ⟨x,rfl,hx,k⟩ | ⟨v,t,rfl,ty,hk,k⟩
  ·refine ⟨_,rfl,_,_,_,_,_,rfl,.str x,rfl,rfl,_,rfl,iteF ?_⟩;have hz:x.length≤sizeLine:=Za (small1000 hx);refine ⟨_,rfl,x,rfl,hz,_,_,rfl,rfl,_,rfl,?_⟩;refine ite2 (fun h1=>?_) (fun h1=>?_)
   ·refine ⟨_,_,rfl,rfl,_,rfl,?_⟩;refine ite2 (fun h2=>?_) (fun h2=>?_)
    ·refine ⟨_,rfl,x,rfl,comp_chars (fun _=>true) (fun c=>.bl (charB c)) hz (fun c Ry Rn q _=>?_) (fun d hd=>?_)⟩
     ·refine iteT (B:=Rn H) ⟨_,rfl,_,_,rfl,rfl,?_⟩;rw [PySem.StrLaws.found_one];exact q rfl
     ·refine ⟨d,x.cps.toList.map charB,rfl,SqL.of ?_,?_⟩
      ·rw [zA1,List.filter_eq_self.mpr (fun _ _=>rfl),List.map_map];rfl
      ·have e:nameB x=(x.cps.toList.map charB).all id:=by
        have a1:1≤x.length:=by have:=of_decide_eq_true h1;omega
        have a2:x.length≤8:=by have:=of_decide_eq_true h2;omega
        unfold nameB;rw [decide_eq_true a1,decide_eq_true a2,List.all_map];rfl
       rw [← e];exact k _ (Same.new hd)
    ·have a2:¬ x.length≤8:=fun z=>h2 (decide_eq_true (by omega));have e:nameB x=false:=by unfold nameB;rw [decide_eq_false a2];simp
     rw [← e];exact k _ (Same.refl _)
   ·have a1:¬ 1≤x.length:=fun z=>h1 (decide_eq_true (by omega));have e:nameB x=false:=by unfold nameB;rw [decide_eq_false a1];simp
    refine ⟨false,rfl,iteF ?_⟩;rw [← e];exact k _ (Same.refl _)
  ·exact ⟨_,rfl,_,_,_,_,_,rfl,ty,rfl,hk,_,rfl,iteT k⟩
end
noncomputable def spMixed:Sp:=fun vs H Q _=>∃ c k:Int,vs=[.int c,.int k]∧0≤k∧k≤1000000∧∀ n:Int,0≤n→n < 2147483629→Q (.int n) H
noncomputable def Src (H:Hp) (p:Addr) (k:Int):Prop:=∃ a c j:Int,H p=some (.lst [.int a,.int c,.int j])∧0≤j∧j≤k
noncomputable def spDigits:Sp:=fun vs H Q _=>∃ c:Int,vs=[.int c]∧∀ p H',H p=none→Src H' p 0→Same H H'→(∀ b,b≠p→H' b=H b)→Q (.ref p) H'
noncomputable def spNext:Sp:=fun vs H Q _=>∃ (p:Addr) (m k:Int),vs=[.ref p,.int m]∧Src H p k∧k≤999998∧0 < m∧m < 2 ^ 64 ∧
 ∀ (r:Int) (H':Hp),0≤r→r < m→Src H' p (k + 1)→(∀ b,b≠p→H' b=H b)→Q (.int r) H'
section
variable {P:Program}{w:World}{K:PySem.W.Frag}{mg:Str→Option Value}{base:Heap}{CX:CXT}
theorem scMx:FnScope ["_law_cell", "_law_k", "_law_number"] ["_law_cell", "_law_k"] (defScope sMixed):=⟨rfl,rfl,rfl,by decide +kernel,rfl,by decide +kernel,by decide +kernel⟩
theorem ok_mixed {f:Addr}{fd:FuncData} (F:Fun K "_law_mixed" "_law_mixed" sMixed f fd):FnOk P w K mg base CX 1 f fd ["_law_cell", "_law_k"] spMixed:=by
 refine F.okC scMx (fun vs H Q E h=>?_) (fun cdv A outer s H vs Q E hr h=>?_)
 ·obtain ⟨c,k,rfl,_⟩:=h;rfl
 ·obtain ⟨c,k,rfl,h0,h1,q⟩:=h
  refine ⟨_,zA8 (zAn (i:=2) scMx.nd rfl (Or.inl rfl) (zB0 zC7 (zB0 zCp (zB0 zCh (zB0 zCh (zB0 zC7 (pv 0) zA5) (zB0 zCp zA5 (pv 1))) zA5) zA5) zA5))
   (zA8 (zAn (i:=2) scMx.nd rfl (Or.inl rfl) (zB0 zC7 (zB0 zCp (pv 2) (zB0 zCh (zB0 zCz (pv 2) zA5) zA5)) zA5))
   (zA8 (zAn (i:=2) scMx.nd rfl (Or.inl rfl) (zB0 zC7 (zB0 zCp (pv 2) (zB0 zCh (zB0 zCh (zB0 zCz (pv 2) zA5) zA5) (pv 1))) zA5))
   (zA3 (zAj (zB0 zC7 (zB0 zCp (pv 2) (zB0 zCh (zB0 zCz (pv 2) zA5) zA5)) zA5))))),?_⟩
  have M:(0:Int) < 2147483629:=by decide
  have lo:∀ z:Int,0≤z % 2147483629:=fun z=>Int.emod_nonneg _ (by decide);have hi:∀ z:Int,z % 2147483629 < 2147483629:=fun z=>Zy _ M;have cm:∀ z y:Int,CMul (z % 2147483629) y:=fun z y=>by have:=lo z;have:=hi z;exact .inl ⟨by omega,by omega⟩
  refine ⟨_,rfl,_,_,rfl,rfl,M,_,rfl,_,_,rfl,rfl,.inl ⟨by decide,by decide⟩,_,_,rfl,rfl,_,_,rfl,rfl,_,_,rfl,rfl,.inr ⟨by decide,by decide⟩,_,_,rfl,rfl,M,?_⟩;refine ⟨_,rfl,_,rfl,_,_,rfl,rfl,⟨by decide,by decide⟩,_,_,rfl,rfl,_,_,rfl,rfl,cm _ _,_,_,rfl,rfl,M,?_⟩;refine ⟨_,rfl,_,rfl,_,_,rfl,rfl,⟨by decide,by decide⟩,_,_,rfl,rfl,_,rfl,_,_,rfl,rfl,_,_,rfl,rfl,cm _ _,_,_,rfl,rfl,M,?_⟩;refine ⟨_,rfl,_,rfl,_,_,rfl,rfl,⟨by decide,by decide⟩,_,_,rfl,rfl,_,_,rfl,rfl,cm _ _,_,_,rfl,rfl,M,?_⟩;exact q _ (lo _) (hi _)
theorem scDg:FnScope ["_law_cell"] ["_law_cell"] (defScope sDigits):=⟨rfl,rfl,rfl,by decide +kernel,rfl,by decide +kernel,by decide +kernel⟩
theorem ok_digits {f:Addr}{fd:FuncData} (F:Fun K "_law_digits" "_law_digits" sDigits f fd):FnOk P w K mg base CX 1 f fd ["_law_cell"] spDigits:=by
 refine F.okC scDg (fun vs H Q E h=>?_) (fun cdv A outer s H vs Q E hr h=>?_)
 ·obtain ⟨c,rfl,_⟩:=h;rfl
 ·obtain ⟨c,rfl,q⟩:=h;refine ⟨_,zA3 (zAj (zA9 (zA0 (zB0 zCp (zB0 zCz (pv 0) zA5) (zB0 op_sub zA5 (zB0 zC7 (pv 0) zA5))) (zA0 (pv 0) (zA0 zA5 zA2))))),?_⟩;have a1:0≤c % 2:=Int.emod_nonneg _ (by decide);have a2:c % 2 < 2:=Zy _ (by decide);refine ⟨_,rfl,_,_,rfl,rfl,⟨by decide,by decide⟩,_,rfl,_,_,rfl,rfl,(by show (0:Int) < 2;decide),_,_,rfl,rfl,_,_,rfl,rfl,.inr ⟨by omega,by omega⟩,_,rfl,(by show 3≤sizeLine;decide),fun p hp=>?_⟩;exact q p _ hp ⟨_,_,0,zA1,by decide,by decide⟩ (Same.new hp) fun b hb=>zAa hb
theorem scNx:FnScope ["_law_source", "_law_many", "_law_found"] ["_law_source", "_law_many"] (defScope sNext):=⟨rfl,rfl,rfl,by decide +kernel,rfl,by decide +kernel,by decide +kernel⟩
theorem ok_next {f fm:Addr}{fd fdm:FuncData} (hC:Calm CX) (F:Fun K "_law_next" "_law_next" sNext f fd) (DM:Def K mg "_law_mixed" sMixed ["_law_cell", "_law_k"] fm fdm):FnOk P w K mg base CX 2 f fd ["_law_source", "_law_many"] spNext:=by
 have GM:FnOk P w K mg base CX 1 fm fdm ["_law_cell", "_law_k"] spMixed:=ok_mixed DM.fn;refine F.okC scNx (fun vs H Q E h=>?_) (fun cdv A outer s H vs Q E hr h=>?_)
 ·obtain ⟨p,m,k,rfl,_⟩:=h;rfl
 ·obtain ⟨p,m,k,rfl,⟨a,c,j,hp,j0,j1⟩,hk,m0,m1,q⟩:=h
  refine ⟨_,zA8 (zAp (zAi op_gt (zAv zAc (pv 0) zA5 (fun _ _=>rfl)) zA5 (nomark _))
    (zA8 (zAn (i:=2) scNx.nd rfl (Or.inl rfl) (zB0 zC7 (zAv zAc (pv 0) zA5 (fun _ _=>rfl)) (pv 1)))
    (zA8 (ps_asg (zB0 op_fdivB (zAv zAc (pv 0) zA5 (fun _ _=>rfl)) (pv 1)) (pg_sub (pv 0) zA5 zCt))
    (zA3 (zAj (pv 2))))) zAe)
   (zA8 (ps_asg (zB0 zCh (zAv zAc (pv 0) zA5 (fun _ _=>rfl)) zA5) (pg_sub (pv 0) zA5 zCt))
   (zA3 (zAj (zB0 zC7 (zAd GM hr rfl DM.at_ DM.fn.kp DM.bind .nil (passC hC) (zA0 (zAv zAc (pv 0) zA5 (fun _ _=>rfl)) (zA0 (zAv zAc (pv 0) zA5 (fun _ _=>rfl)) zA2))) (pv 1))))),?_⟩
  have S0:SqL K H p [.int a,.int c,.int j]:=SqL.of hp;refine ⟨_,rfl,p,_,_,_,rfl,rfl,S0,rfl,_,_,rfl,rfl,_,rfl,?_⟩;refine ite2 (fun h0=>?_) (fun h0=>?_)
  ·refine ⟨_,rfl,p,_,_,_,rfl,rfl,S0,rfl,_,rfl,_,_,rfl,rfl,m0,?_⟩;refine ⟨_,rfl,p,_,_,_,rfl,rfl,S0,rfl,_,rfl,_,_,rfl,rfl,⟨m0,m1⟩,?_⟩;refine ⟨_,rfl,p,_,_,0,rfl,rfl,hp,rfl,?_⟩;refine ⟨_,rfl,q _ _ (Int.emod_nonneg _ (by omega)) (Zy _ m0) ⟨_,_,j,zA1,j0,by omega⟩ fun b hb=>zAa hb⟩
  ·refine ⟨_,rfl,p,_,_,_,rfl,rfl,S0,rfl,_,_,rfl,rfl,?_⟩;refine ⟨_,rfl,p,_,_,2,rfl,rfl,hp,rfl,?_⟩;have S1:SqL K (upd H p (.lst [.int a,.int c,.int (j + 1)])) p [.int a,.int c,.int (j + 1)]:=SqL.of zA1;refine ⟨_,rfl,p,_,_,_,rfl,rfl,S1,rfl,_,rfl,p,_,_,_,rfl,rfl,S1,rfl,c,j + 1,rfl,by omega,by omega,fun n n0 n1=>?_⟩;refine ⟨_,rfl,_,_,rfl,rfl,m0,?_⟩;exact q _ _ (Int.emod_nonneg _ (by omega)) (Zy _ m0) ⟨_,_,j + 1,zA1,by omega,by omega⟩ fun b hb=>zAa hb
end
theorem zCc {α : Type} (xs:List α) {i:Int} (h0:0≤i) (h1:i < xs.length):∃ c,atI xs i=some c∧c∈xs:=by
 have lt:i.toNat < xs.length:=by omega
 refine ⟨xs[i.toNat],?_,List.getElem_mem _⟩;unfold atI ixN;rw [if_pos h0,if_pos h1];simp [lt]
theorem Src.mono {H:Hp}{p:Addr}{k l:Int} (h:Src H p k) (hl:k≤l):Src H p l:=by
 obtain ⟨a,c,j,e,j0,j1⟩:=h;exact ⟨a,c,j,e,j0,by omega⟩
end My
namespace L2.W
open PySem My
structure KIsi (K:PySem.W.Frag) (C:Addr):Prop where
 ha:PySem.W.findIn K (.ref C) "__class__" = some (some (.builtin "object.__class__"))
 hn:PySem.W.specialIn K (.builtin "object.__class__") "__get__" = some (some (.builtin "getset_descriptor.__get__"))
 htk:PySem.W.takesIn K (.builtin "object.__class__")=some true
 hm:PySem.W.mroIn K C (.type "object")=some true
structure XTop (K:PySem.W.Frag) (mg:Str→Option Value) (x:Str) (CN:Addr):Prop where
 at_:mg x=some (.ref CN)
 cl:PySem.W.excIn K CN [.type "ValueError",.type "Exception",.type "BaseException",.type "object"] "ValueError.__new__" = true
noncomputable def Refused (C1:Addr) (H:Hp) (E:XK):Prop:=∀ (e:Addr) (H':Hp),H e=none→H' e=some (XO C1 e)→Same H H'→E (.ref C1) (some e) H'
theorem Refused.up {C1:Addr}{H H':Hp}{E:XK} (h:Refused C1 H E) (s:Same H H'):Refused C1 H' E:=fun e H2 n he s2=>h e H2 (s.free n) he (s.trans s2)
theorem _root_.L2.TyOf.same {K:PySem.W.Frag}{H H':Hp}{v:V}{t:Value} (h:TyOf K H v t) (s:Same H H'):TyOf K H' v t:=by
 cases h with
 | non=>exact .non
 | bl x=>exact .bl x
 | int i=>exact .int i
 | str x=>exact .str x
 | flt x=>exact .flt x
 | lst e=>exact .lst (s _ _ e)
 | frz e=>exact .frz (s _ _ e)
 | tup e=>exact .tup (s _ _ e)
 | dK e=>exact .dK (s _ _ e)
 | dT e=>exact .dT (s _ _ e)
 | ins e a b c d f=>exact .ins (s _ _ e) a b c d f
structure CS where
 (cc al wa is_ me ow no bo ei ch tm ts tt ru ha fIs fMe fOw fNo fBo fEi fTm fTs fRu fHa:Addr)
inductive Ty where
 | non | bl | int | lst | tup | dic | str | al | wa | is_ | me | ow | no | tm | ts | tt | ru
inductive Cl where
 | str | lst | cc | ch | ru | wa
noncomputable def CS.ty (A:CS):Ty→Value
 | .non=>.type "NoneType" | .bl=>.type "bool" | .int=>.type "int" | .lst=>.type "list" | .tup=>.type "tuple" | .dic=>.type "dict" | .str=>.type "str"
 | .al=>.ref A.al | .wa=>.ref A.wa | .is_=>.ref A.is_ | .me=>.ref A.me | .ow=>.ref A.ow | .no=>.ref A.no | .tm=>.ref A.tm | .ts=>.ref A.ts | .tt=>.ref A.tt | .ru=>.ref A.ru
noncomputable def CS.cl (A:CS):Cl→Value
 | .str=>.type "str" | .lst=>.type "list" | .cc=>.ref A.cc | .ch=>.ref A.ch | .ru=>.ref A.ru | .wa=>.ref A.wa
noncomputable def isA:Cl→Ty→Bool
 | .str,.str=>true
 | .lst,.lst=>true
 | .cc,.al=>true | .cc,.wa=>true | .cc,.is_=>true | .cc,.me=>true | .cc,.ow=>true | .cc,.no=>true
 | .ch,.tm=>true | .ch,.ts=>true | .ch,.tt=>true
 | .ru,.ru=>true
 | .wa,.wa=>true
 | _,_=>false
structure CO (K:PySem.W.Frag) (mg:Str→Option Value) (x:Str) (C:Addr) (nos:List Str):Prop where
 g:mg x=some (.ref C)
 cl:Cls K C
 ki:KIsi K C
 no:∀ n∈nos,NoAttr K C n
structure CM (K:PySem.W.Frag) (mg:Str→Option Value) (A:CS):Prop where
 gcc:mg "Condition" = some (.ref A.cc)
 gch:mg "Change" = some (.ref A.ch)
 al:CO K mg "Always" A.al []
 wa:CO K mg "Wanted" A.wa []
 tt:CO K mg "ToTake" A.tt []
 is_:CO K mg "Is" A.is_ ["field", "value"]
 me:CO K mg "Meets" A.me ["field"]
 ow:CO K mg "Owner" A.ow ["field", "value"]
 no:CO K mg "Not" A.no ["condition"]
 bo:CO K mg "Both" A.bo ["conditions"]
 ei:CO K mg "Either" A.ei ["conditions"]
 tm:CO K mg "ToMake" A.tm ["fields"]
 ts:CO K mg "ToSet" A.ts ["field", "value"]
 ru:CO K mg "Rule" A.ru ["kind", "change", "condition", "behind"]
 ha:CO K mg "Hand" A.ha ["name", "rules"]
 kal:MkN K A.al
 kwa:MkN K A.wa
 ktt:MkN K A.tt
 kis:Mk K A.is_ A.fIs
 kme:Mk K A.me A.fMe
 kow:Mk K A.ow A.fOw
 kno:Mk K A.no A.fNo
 kbo:Mk K A.bo A.fBo
 kei:Mk K A.ei A.fEi
 ktm:Mk K A.tm A.fTm
 kts:Mk K A.ts A.fTs
 kru:Mk K A.ru A.fRu
 kha:Mk K A.ha A.fHa
 kit:∀ c t,PySem.W.kitOne K (A.ty t) (A.cl c)=some (isA c t)
theorem CO.ty {K:PySem.W.Frag}{mg:Str→Option Value}{x:Str}{C:Addr}{nos:List Str} (c:CO K mg x C nos) {H:Hp}{p dx:Addr}{fs:List (Str×V)} (e:H p=some (.ins C dx fs)):TyOf K H (.ref p) (.ref C):=.ins e c.cl c.ki.ha c.ki.hn c.ki.htk c.ki.hm
noncomputable def IsT (K:PySem.W.Frag) (A:CS) (H:Hp) (v:V) (t:Ty):Prop:=TyOf K H v (A.ty t)
noncomputable def IsV (K:PySem.W.Frag) (c:Value) (H:Hp) (v:V) (b:Bool):Prop:=∃ t,TyOf K H v t∧PySem.W.kitOne K t c=some b
theorem IsV.same {K:PySem.W.Frag}{c:Value}{H H':Hp}{v:V}{b:Bool} (h:IsV K c H v b) (s:Same H H'):IsV K c H' v b:=let ⟨t,ty,k⟩:=h;⟨t,ty.same s,k⟩
theorem IsT.isV {K:PySem.W.Frag}{mg:Str→Option Value}{A:CS}{H:Hp}{v:V}{t:Ty} (M:CM K mg A) (h:IsT K A H v t) (c:Cl):IsV K (A.cl c) H v (isA c t):=⟨_,h,M.kit c t⟩
noncomputable def NmV (K:PySem.W.Frag) (H:Hp) (v:V) (b:Bool):Prop:=(∃ x,v=.str x∧x.length≤1000∧nameB x=b)∨(b=false∧IsV K (.type "str") H v false)
theorem NmV.same {K:PySem.W.Frag}{H H':Hp}{v:V}{b:Bool} (h:NmV K H v b) (s:Same H H'):NmV K H' v b:=h.imp id fun ⟨e,h⟩=>⟨e,h.same s⟩
theorem NmV.sp {K:PySem.W.Frag}{H:Hp}{v:V}{b:Bool}{Q:VK}{E:XK} (h:NmV K H v b) (q:∀ H',Same H H'→Q (.bl b) H'):spIsName K [v] H Q E:=by
 rcases h with ⟨x,rfl,l,rfl⟩ | ⟨rfl,t,ty,k⟩
 ·exact .inl ⟨x,rfl,l,q⟩
 ·exact .inr ⟨v,t,rfl,ty,k,q _ (Same.refl _)⟩
theorem NmV.str {K:PySem.W.Frag}{H:Hp}{v:V} (h:NmV K H v true):∃ x,v=.str x∧nameB x=true:=by
 rcases h with ⟨x,e,_,n⟩ | ⟨z,_⟩
 ·exact ⟨x,e,n⟩
 ·cases z
theorem pr_len {α β : Type}{R : α→β→Prop}{l:List α}{m:List β} (h:Paired R l m):m.length=l.length:=by
 induction h with
 | nil=>rfl
 | cons _ _ ih=>rw [Z7,Z7,ih]
theorem pr_get {α β : Type}{R : α→β→Prop}{l:List α}{m:List β} (h:Paired R l m) {j:Nat}{x : α}{y : β} (hx:l[j]? = some x) (hy:m[j]? = some y):R x y:=by
 induction h generalizing j with
 | nil=>cases hx
 | cons r _ ih =>
  cases j with
  | zero=>cases hx;cases hy;exact r
  | succ j=>exact ih hx hy
theorem pr_imp {α β : Type}{R R' : α→β→Prop}{l:List α}{m:List β} (h:Paired R l m) (i:∀ a b,R a b→R' a b):Paired R' l m:=by
 induction h with
 | nil=>exact .nil
 | cons r t ih=>exact .cons (i _ _ r) ih
noncomputable def UnlV (K:PySem.W.Frag) (H:Hp) (xs:List V) (b:Bool):Prop:=xs.length≤10∧∃ bs,Paired (NmV K H) xs bs∧((bs.all id=false∧b=false)∨(bs.all id=true∧∃ ks:List Str,xs=ks.map V.str∧b=decide ks.Nodup))
theorem UnlV.same {K:PySem.W.Frag}{H H':Hp}{xs:List V}{b:Bool} (h:UnlV K H xs b) (s:Same H H'):UnlV K H' xs b:=let ⟨l,bs,p,r⟩:=h;⟨l,bs,pr_imp p fun _ _ n=>n.same s,r⟩
noncomputable def LstV (K:PySem.W.Frag) (R:Hp→List V→Bool→Prop) (H:Hp) (v:V) (b:Bool):Prop:=(b=false∧IsV K (.type "list") H v false)∨∃ l xs,v=.ref l∧H l=some (.lst xs)∧R H xs b
theorem LstV.same {K:PySem.W.Frag}{R:Hp→List V→Bool→Prop} (up:∀ {H H':Hp}{xs:List V}{b:Bool},R H xs b→Same H H'→R H' xs b) {H H':Hp}{v:V}{b:Bool} (h:LstV K R H v b) (s:Same H H'):LstV K R H' v b:=by
 rcases h with ⟨e,h⟩ | ⟨l,xs,e,h,r⟩
 ·exact .inl ⟨e,h.same s⟩
 ·exact .inr ⟨l,xs,e,s _ _ h,up r s⟩
noncomputable def AllV (K:PySem.W.Frag) (n:Nat) (c:Value) (H:Hp) (xs:List V) (b:Bool):Prop:=xs.length≤10∧∃ bs,Paired (IsV K c H) xs bs∧b=(decide (n≤xs.length) && bs.all id)
theorem AllV.same {K:PySem.W.Frag}{n:Nat}{c:Value}{H H':Hp}{xs:List V}{b:Bool} (h:AllV K n c H xs b) (s:Same H H'):AllV K n c H' xs b:=let ⟨l,bs,p,r⟩:=h;⟨l,bs,pr_imp p fun _ _ n=>n.same s,r⟩
noncomputable abbrev CndsV (K:PySem.W.Frag) (A:CS):Hp→V→Bool→Prop:=LstV K (AllV K 2 (.ref A.cc))
noncomputable abbrev RulsV (K:PySem.W.Frag) (A:CS):Hp→V→Bool→Prop:=LstV K (AllV K 0 (.ref A.ru))
noncomputable def OthL (K:PySem.W.Frag) (n:Str) (H:Hp) (xs:List V) (b:Bool):Prop:=∃ u,UnlV K H xs u∧b=(u && !inV (.str n) xs)
theorem OthL.same {K:PySem.W.Frag}{n:Str}{H H':Hp}{xs:List V}{b:Bool} (h:OthL K n H xs b) (s:Same H H'):OthL K n H' xs b:=let ⟨u,h,e⟩:=h;⟨u,h.same s,e⟩
noncomputable def Ends2 (CN:Addr) (H:Hp) (Q:VK) (E:XK) (b:Bool):Prop:=(b=true→∀ H',Same H H'→Q .non H')∧(b=false→Refused CN H E)
theorem zC8 {H H1:Hp}{CN e:Addr}{E:XK} (r:Refused CN H E) (s:Same H H1) (he:H1 e=none):E (.ref CN) (some e) (upd H1 e (XO CN e)):=r e _ (s.free he) zA1 (s.trans (Same.new he))
end L2.W
namespace L2.W
open PySem My
theorem flat_strs:∀ ord:List Str,(ord.map V.str).all flatV=true
 | []=>rfl
 | _ :: r=>by rw [Zq,Y2,flat_strs r];rfl
noncomputable def spNm (K:PySem.W.Frag):Sp:=fun vs H Q _=>∃ (v:V) (b:Bool),vs=[v]∧NmV K H v b∧∀ H',Same H H'→Q (.bl b) H'
theorem ok_nm {P:Program}{w:World}{K:PySem.W.Frag}{mg:Str→Option Value}{base:Heap}{CX:CXT}{f:Addr}{fd:FuncData} (F:Fun K "is_name" "is_name" sIsName f fd) (T:Tops K mg):FnOk P w K mg base CX 1 f fd ["thing"] (spNm K):=(ok_isName F T).imp fun vs H Q E ⟨v,b,e,n,q⟩=>by subst e;exact n.sp q
noncomputable def spChk (K:PySem.W.Frag) (CN:Addr):Sp:=fun vs H Q E=>∃ (l:Addr) (xs:List V) (bs:List Bool),vs=[.ref l]∧H l=some (.lst xs)∧xs.length≤10∧Paired (NmV K H) xs bs∧Ends2 CN H Q E (bs.all id)
noncomputable def spChC (K:PySem.W.Frag) (A:CS) (CN:Addr):Sp:=fun vs H Q E=>∃ (v:V) (b:Bool),vs=[v]∧CndsV K A H v b∧Ends2 CN H Q E b
noncomputable def spUnl (K:PySem.W.Frag):Sp:=fun vs H Q _=>∃ (l:Addr) (xs:List V) (b:Bool),vs=[.ref l]∧H l=some (.lst xs)∧UnlV K H xs b∧∀ H',Same H H'→Q (.bl b) H'
noncomputable def spOth (K:PySem.W.Frag):Sp:=fun vs H Q _=>∃ (n:Str) (v:V) (b:Bool),vs=[.str n,v]∧LstV K (OthL K n) H v b∧∀ H',Same H H'→Q (.bl b) H'
section
variable {P:Program}{w:World}{K:PySem.W.Frag}{mg:Str→Option Value}{base:Heap}
theorem scCn:FnScope ["things"] ["things"] (defScope sChkNames):=⟨rfl,rfl,rfl,by decide +kernel,rfl,by decide +kernel,by decide +kernel⟩
theorem scCc:FnScope ["things"] ["things"] (defScope sChkConds):=⟨rfl,rfl,rfl,by decide +kernel,rfl,by decide +kernel,by decide +kernel⟩
theorem scUn:FnScope ["things"] ["things"] (defScope sUnlike):=⟨rfl,rfl,rfl,by decide +kernel,rfl,by decide +kernel,by decide +kernel⟩
theorem scOk:FnScope ["kind", "things"] ["kind", "things"] (defScope sOtherKinds):=⟨rfl,rfl,rfl,by decide +kernel,rfl,by decide +kernel,by decide +kernel⟩
theorem ok_chk {f fn CN:Addr}{fd fdn:FuncData} (T:Tops K mg) (XN:XTop K mg "NoRule" CN) (F:Fun K "check_names" "check_names" sChkNames f fd) (DN:Def K mg "is_name" sIsName ["thing"] fn fdn):FnOk P w K mg base (CXM P w) 2 f fd ["things"] (spChk K CN):=by
 have GN:FnOk P w K mg base (CXM P w) 1 fn fdn ["thing"] (spNm K):=ok_nm DN.fn T;have hC:Calm (CXM P w):=calmM;refine Fun.okX F scCn (fun vs H Q E h=>?_) (fun cdv Ar outer s H vs Q E hr h=>?_)
 ·obtain ⟨l,xs,bs,rfl,_⟩:=h;rfl
 ·obtain ⟨l,xs,bs,rfl,hl,le,pr,k1,k2⟩:=h;have nd:=scCn.nd
  refine ⟨_,zA3 (zAp (zB1 (zAy (zAb (zC0 rfl) rfl T.all PyProof.Rows.boot_all (zA0 (zBi (T:=["thing"]) rfl ScOk.auto (zC3 (pv 0)) (fun _ _ _ _=>zBb (i:=1) (by decide +kernel:(["things", "thing"]:List Str).Nodup) rfl (Or.inl rfl)) (fun _ _ _ _=>zC6) (fun _ _ _ _=>(zAd GN hr rfl DN.at_ DN.fn.kp DN.bind .nil (passC hC) (zA0 (pv 1) zA2)))) zA2))))
     (zA3 (zAt (C:=CN) (W:=fun _ e H'=>E (.ref CN) (some e) H') XN.cl rfl XN.at_ rfl (zA0 zA7 zA2) (fun pins σ H s e I he fr w=>zB9 I he (.inl fr) w))) zAe),?_⟩
  refine ⟨_,rfl,l,rfl,⟨_,SqL.of hl⟩,zBz hl (by omega) (pr_len pr) (fun j x b H' N hx hb s1 q=>⟨_,rfl,x,b,rfl,(pr_get pr hx hb).same s1,q⟩) (fun p H' s1 hp=>⟨p,bs,rfl,SqL.of hp,_,rfl,?_⟩)⟩;cases e:bs.all id with
  | true=>exact iteF (k1 e _ s1)
  | false=>exact iteT ⟨Za (small1000 (by decide)),fun e1 he=>zC8 (k2 e) s1 he⟩
theorem ok_chC {f CN:Addr}{fd:FuncData}{A:CS} (T:Tops K mg) (M:CM K mg A) (XN:XTop K mg "NoRule" CN) (F:Fun K "check_conditions" "check_conditions" sChkConds f fd):FnOk P w K mg base (CXM P w) 1 f fd ["things"] (spChC K A CN):=by
 obtain ⟨tl,hleast⟩:=T.least;refine Fun.okX F scCc (fun vs H Q E h=>?_) (fun cdv Ar outer s H vs Q E hr h=>?_)
 ·obtain ⟨v,b,rfl,_⟩:=h;rfl
 ·obtain ⟨v,b,rfl,h,k1,k2⟩:=h;have nd:=scCc.nd
  refine ⟨_,zA8 (zAp (PW.pt (zCu (zB1 (zAy (zAb zAr rfl T.isinst PyProof.Rows.boot_isinstance (zA0 (pv 0) (zA0 (zBj (v:=.ty "list") rfl T.list PyProof.Rows.boot_list rfl) zA2))))) (zCe (zAi op_lt (zAb zB2 rfl T.len PySem.boot_len (zA0 (pv 0) zA2)) (zAk (v:=.int 2) rfl hleast ⟨_,rfl⟩) (nomark _)))))
     (zA3 (zAt (C:=CN) (W:=fun _ e H'=>E (.ref CN) (some e) H') XN.cl rfl XN.at_ rfl (zA0 zA7 zA2) (fun pins σ H s e I he fr w=>zB9 I he (.inl fr) w))) zAe)
     (zA3 (zAp (zB1 (zAy (zAb (zC0 rfl) rfl T.all PyProof.Rows.boot_all (zA0 (zBi (T:=["thing"]) rfl ScOk.auto (zC3 (pv 0)) (fun _ _ _ _=>zBb (i:=1) (by decide +kernel:(["things", "thing"]:List Str).Nodup) rfl (Or.inl rfl)) (fun _ _ _ _=>zC6) (fun _ _ _ _=>(zAb (zCb (K:=K) rfl) rfl T.isinst PyProof.Rows.boot_isinstance (zA0 (pv 1) (zA0 (zAk (v:=.ref A.cc) rfl M.gcc rfl) zA2))))) zA2))))
     (zA3 (zAt (C:=CN) (W:=fun _ e H'=>E (.ref CN) (some e) H') XN.cl rfl XN.at_ rfl (zA0 zA7 zA2) (fun pins σ H s e I he fr w=>zB9 I he (.inl fr) w))) zAe)),?_⟩
  have no:∀ {H1:Hp},b=false→Same H H1→_≤sizeLine∧∀ e,H1 e=none→E (.ref CN) (some e) (upd H1 e (XO CN e)):=fun hb s1=>⟨Za (small1000 (n:=1) (by decide)),fun e1 he=>zC8 (k2 hb) s1 he⟩;rcases h with ⟨hb,t,ty,kt⟩ | ⟨l,xs,rfl,hl,le,bs,pr,eb⟩
  ·exact ⟨_,rfl,_,_,_,_,_,rfl,ty,rfl,kt,_,rfl,iteT (iteT (no hb (Same.refl _)))⟩
  ·refine ⟨_,rfl,_,_,_,_,_,rfl,.lst hl,rfl,rfl,_,rfl,iteF ⟨_,rfl,l,xs,rfl,.inl (SqL.of hl),_,_,rfl,rfl,_,rfl,?_⟩⟩;by_cases l2:2≤xs.length
   ·rw [decide_eq_false (show ¬ ((xs.length:Int) < 2) by omega)];refine iteF ⟨_,rfl,l,rfl,⟨_,SqL.of hl⟩,zBz hl (by omega) (pr_len pr) (fun j x b' H' N hx hb s1 q=>?_) (fun p H' s1 hp=>⟨p,bs,rfl,SqL.of hp,_,rfl,?_⟩)⟩
    ·obtain ⟨t,ty,kt⟩:=(pr_get pr hx hb).same s1;exact ⟨_,rfl,_,_,_,_,_,rfl,ty,rfl,kt,q _ (Same.refl _)⟩
    ·rw [decide_eq_true l2,Bool.true_and] at eb;cases e:bs.all id with
     | true=>exact iteF (k1 (eb.trans e) _ s1)
     | false=>exact iteT (no (eb.trans e) s1)
   ·rw [decide_eq_true (show (xs.length:Int) < 2 by omega)];rw [decide_eq_false l2] at eb;exact iteT (no eb (Same.refl _))
theorem ok_unl {f fn:Addr}{fd fdn:FuncData}{CX:CXT} (hC:Calm CX) (T:Tops K mg) (F:Fun K "are_unlike_names" "are_unlike_names" sUnlike f fd) (DN:Def K mg "is_name" sIsName ["thing"] fn fdn):FnOk P w K mg base CX 2 f fd ["things"] (spUnl K):=by
 have GN:FnOk P w K mg base CX 1 fn fdn ["thing"] (spNm K):=ok_nm DN.fn T;refine Fun.okC F scUn (fun vs H Q E h=>?_) (fun cdv Ar outer s H vs Q E hr h=>?_)
 ·obtain ⟨l,xs,b,rfl,_⟩:=h;rfl
 ·obtain ⟨l,xs,b,rfl,hl,⟨le,bs,pr,hb⟩,k⟩:=h;have nd:=scUn.nd;refine ⟨_,zA3 (zAj (zBq (zAb (zC0 rfl) rfl T.all PyProof.Rows.boot_all (zA0 (zBi (T:=["thing"]) rfl ScOk.auto (zC3 (pv 0)) (fun _ _ _ _=>zBb (i:=1) (by decide +kernel:(["things", "thing"]:List Str).Nodup) rfl (Or.inl rfl)) (fun _ _ _ _=>zC6) (fun _ _ _ _=>(zAd GN hr rfl DN.at_ DN.fn.kp DN.bind .nil (passC hC) (zA0 (pv 1) zA2)))) zA2)) (zCf (zB7 zBk (zAb zC5 rfl T.len PySem.boot_len (zA0 (zB4 (zD9 rfl) rfl T.set PyProof.Rows.boot_set (zA0 (pv 0) zA2)) zA2)) (zAb zB2 rfl T.len PySem.boot_len (zA0 (pv 0) zA2)) (nomark _))))),?_⟩;refine ⟨_,rfl,l,rfl,⟨_,SqL.of hl⟩,zBz hl (by omega) (pr_len pr) (fun j x b H' N hx hb s1 q=>⟨_,rfl,x,b,rfl,(pr_get pr hx hb).same s1,q⟩) (fun p H' s1 hp=>⟨p,bs,rfl,SqL.of hp,_,rfl,?_⟩)⟩;rcases hb with ⟨e,rfl⟩ | ⟨e,ks,rfl,rfl⟩
  ·rw [e];exact iteF (k _ s1)
  ·rw [e];rw [Ze] at le;have hl1:=s1 _ _ hl;refine iteT ⟨_,rfl,l,ks,rfl,SqL.of hl1,by omega,fun d hd=>⟨d,ks,rfl,zA1,by omega,_,rfl,l,_,rfl,.inl (SqL.of ((Same.new hd) _ _ hl1)),rfl,?_⟩⟩;have ez:decide (V.int ((dl ks).length:Int)=V.int ((ks.map V.str).length:Int))=decide ks.Nodup:=by
    rw [← dl_len_iff,Ze];apply decide_eq_decide.mpr;constructor
    ·intro h;exact Int.ofNat.inj (V.int.inj h)
    ·intro h;rw [h]
   have z:=k _ (s1.trans (Same.new (o:=SetS P w d ks) hd));rw [← ez] at z;exact z
theorem ok_oth {f fn fu:Addr}{fd fdn fdu:FuncData}{CX:CXT} (hC:Calm CX) (T:Tops K mg) (F:Fun K "are_other_kinds" "are_other_kinds" sOtherKinds f fd) (DN:Def K mg "is_name" sIsName ["thing"] fn fdn) (DU:Def K mg "are_unlike_names" sUnlike ["things"] fu fdu):FnOk P w K mg base CX 3 f fd ["kind", "things"] (spOth K):=by
 have GU:FnOk P w K mg base CX 2 fu fdu ["things"] (spUnl K):=ok_unl hC T DU.fn DN;refine Fun.okC F scOk (fun vs H Q E h=>?_) (fun cdv Ar outer s H vs Q E hr h=>?_)
 ·obtain ⟨n,v,b,rfl,_⟩:=h;rfl
 ·obtain ⟨n,v,b,rfl,h,k⟩:=h;have nd:=scOk.nd;refine ⟨_,zA3 (zAj (zBq (zAb zAr rfl T.isinst PyProof.Rows.boot_isinstance (zA0 (pv 1) (zA0 (zBj (v:=.ty "list") rfl T.list PyProof.Rows.boot_list rfl) zA2))) (zBq (zAd GU hr rfl DU.at_ DU.fn.kp DU.bind .nil (passC hC) (zA0 (pv 1) zA2)) (zCf (zB7 op_notIn_seq (pv 0) (pv 1) rfl))))),?_⟩;rcases h with ⟨rfl,t,ty,kt⟩ | ⟨l,xs,rfl,hl,u,hu,rfl⟩
  ·exact ⟨_,rfl,_,_,_,_,_,rfl,ty,rfl,kt,_,rfl,iteF (k _ (Same.refl _))⟩
  ·refine ⟨_,rfl,_,_,_,_,_,rfl,.lst hl,rfl,rfl,_,rfl,iteT ⟨_,rfl,l,xs,u,rfl,hl,hu,fun H1 s1=>⟨_,rfl,?_⟩⟩⟩;cases u with
   | false=>exact iteF (k _ s1)
   | true =>
    obtain ⟨_,bs,_,hb⟩:=hu;rcases hb with ⟨_,z⟩ | ⟨_,ks,rfl,_⟩
    ·cases z
    ·exact iteT ⟨_,rfl,_,rfl,l,_,rfl,.inl (SqL.of (s1 _ _ hl)),rfl,flat_strs _,k _ s1⟩
end
end L2.W
namespace L2.W
open PySem My
noncomputable def But (p:Addr) (H H':Hp):Prop:=∀ b o,H b=some o→b≠p→H' b=some o
noncomputable def f1 (n:Str) (v:V):List (Str×V):=putF n v []
noncomputable def f2 (a b:Str) (x y:V):List (Str×V):=putF b y (putF a x [])
noncomputable def rF (k c t b:V):List (Str×V):=putF "behind" b (putF "condition" t (putF "change" c (putF "kind" k [])))
noncomputable def Ini (CN:Addr) (H:Hp) (E:XK) (b:Bool) (ok:Prop):Prop:=(b=true→ok)∧(b=false→Refused CN H E)
noncomputable def CpL (H:Hp) (v:V) (H':Hp) (l':Addr):Prop:=∃ l xs,v=.ref l∧H l=some (.lst xs)∧H' l'=some (.lst xs)∧H l'=none
noncomputable def spIs2 (K:PySem.W.Frag) (C CN:Addr):Sp:=fun vs H Q E=>∃ (p dx:Addr) (f v:V) (b1 b2:Bool),vs=[.ref p,f,v]∧H p=some (.ins C dx [])∧NmV K H f b1∧NmV K H v b2∧Ini CN H E (b1 && b2) (∀ H',H' p=some (.ins C dx (f2 "field" "value" f v))→But p H H'→Q .non H')
noncomputable def spMe (K:PySem.W.Frag) (C CN:Addr):Sp:=fun vs H Q E=>∃ (p dx:Addr) (f:V) (b:Bool),vs=[.ref p,f]∧H p=some (.ins C dx [])∧NmV K H f b∧Ini CN H E b (∀ H',H' p=some (.ins C dx (f1 "field" f))→But p H H'→Q .non H')
noncomputable def spNo (K:PySem.W.Frag) (A:CS) (CN:Addr):Sp:=fun vs H Q E=>∃ (p dx:Addr) (v:V) (b:Bool),vs=[.ref p,v]∧H p=some (.ins A.no dx [])∧IsV K (.ref A.cc) H v b∧Ini CN H E b (∀ H',H' p=some (.ins A.no dx (f1 "condition" v))→But p H H'→Q .non H')
noncomputable def spLs (R:Hp→V→Bool→Prop) (n:Str) (C CN:Addr):Sp:=fun vs H Q E=>∃ (p dx:Addr) (v:V) (b:Bool),vs=[.ref p,v]∧H p=some (.ins C dx [])∧R H v b∧Ini CN H E b (∀ H' l',H' p=some (.ins C dx (f1 n (.ref l')))→CpL H v H' l'→But p H H'→Q .non H')
noncomputable def TsV (K:PySem.W.Frag) (H:Hp) (v:V) (b:Bool):Prop:=(v=.non∧b=true)∨(v≠.non∧NmV K H v b)
theorem TsV.same {K:PySem.W.Frag}{H H':Hp}{v:V}{b:Bool} (h:TsV K H v b) (s:Same H H'):TsV K H' v b:=h.imp id fun ⟨e,h⟩=>⟨e,h.same s⟩
noncomputable def spTs (K:PySem.W.Frag) (C CN:Addr):Sp:=fun vs H Q E=>∃ (p dx:Addr) (f v:V) (b1 b2:Bool),vs=[.ref p,f,v]∧H p=some (.ins C dx [])∧NmV K H f b1∧TsV K H v b2∧Ini CN H E (b1 && b2) (∀ H',H' p=some (.ins C dx (f2 "field" "value" f v))→But p H H'→Q .non H')
noncomputable def OtV (K:PySem.W.Frag) (H:Hp) (k v:V) (b:Bool):Prop:=∀ n,k=.str n→LstV K (OthL K n) H v b
theorem OtV.same {K:PySem.W.Frag}{H H':Hp}{k v:V}{b:Bool} (h:OtV K H k v b) (s:Same H H'):OtV K H' k v b:=fun n e=>LstV.same (fun x s=>x.same s) (h n e) s
noncomputable def spRu (K:PySem.W.Frag) (A:CS) (CN:Addr):Sp:=fun vs H Q E=>∃ (p dx:Addr) (k c t v:V) (b1 b2 b3 b4:Bool),vs=[.ref p,k,c,t,v]∧H p=some (.ins A.ru dx [])∧NmV K H k b1∧IsV K (.ref A.ch) H c b2∧IsV K (.ref A.cc) H t b3∧OtV K H k v b4 ∧
 Ini CN H E (b1 && (b2 && (b3 && b4))) (∀ H' l',H' p=some (.ins A.ru dx (rF k c t (.ref l')))→CpL H v H' l'→But p H H'→Q .non H')
noncomputable def spHa (K:PySem.W.Frag) (A:CS) (CN:Addr):Sp:=fun vs H Q E=>∃ (p dx:Addr) (k v:V) (b1 b2:Bool),vs=[.ref p,k,v]∧H p=some (.ins A.ha dx [])∧NmV K H k b1∧RulsV K A H v b2 ∧
 Ini CN H E (b1 && b2) (∀ H' l',H' p=some (.ins A.ha dx (f2 "name" "rules" k (.ref l')))→CpL H v H' l'→But p H H'→Q .non H')
theorem zCl {p:Addr}{H H1:Hp}{o:HO} (s:Same H H1):But p H (upd H1 p o):=fun b o e n=>by rw [zAa n];exact s _ _ e
theorem zDa {p:Addr}{H H1:Hp}{o o':HO} (s:Same H H1):But p H (upd (upd H1 p o) p o'):=fun b o e n=>by rw [zAa n,zAa n];exact s _ _ e
theorem k_hp {R F:Hp→Prop}{B:Prop} (t:∀ Hx,F Hx→R Hx) (h:(∀ Hx,F Hx→R Hx)→B):B:=h t
section
variable {P:Program}{w:World}{K:PySem.W.Frag}{mg:Str→Option Value}{base:Heap}
theorem scI:FnScope ["self", "field", "value"] ["self", "field", "value"] (defScope sInitIs):=⟨rfl,rfl,rfl,by decide +kernel,rfl,by decide +kernel,by decide +kernel⟩
theorem scO:FnScope ["self", "field", "value"] ["self", "field", "value"] (defScope sInitOw):=⟨rfl,rfl,rfl,by decide +kernel,rfl,by decide +kernel,by decide +kernel⟩
theorem scM:FnScope ["self", "field"] ["self", "field"] (defScope sInitMe):=⟨rfl,rfl,rfl,by decide +kernel,rfl,by decide +kernel,by decide +kernel⟩
theorem scN:FnScope ["self", "condition"] ["self", "condition"] (defScope sInitNo):=⟨rfl,rfl,rfl,by decide +kernel,rfl,by decide +kernel,by decide +kernel⟩
theorem scB:FnScope ["self", "conditions"] ["self", "conditions"] (defScope sInitBo):=⟨rfl,rfl,rfl,by decide +kernel,rfl,by decide +kernel,by decide +kernel⟩
theorem scE:FnScope ["self", "conditions"] ["self", "conditions"] (defScope sInitEi):=⟨rfl,rfl,rfl,by decide +kernel,rfl,by decide +kernel,by decide +kernel⟩
theorem scTM:FnScope ["self", "fields"] ["self", "fields"] (defScope sInitTM):=⟨rfl,rfl,rfl,by decide +kernel,rfl,by decide +kernel,by decide +kernel⟩
theorem scTS:FnScope ["self", "field", "value"] ["self", "field", "value"] (defScope sInitTS):=⟨rfl,rfl,rfl,by decide +kernel,rfl,by decide +kernel,by decide +kernel⟩
theorem scR:FnScope ["self", "kind", "change", "condition", "behind"] ["self", "kind", "change", "condition", "behind"] (defScope sInitR):=⟨rfl,rfl,rfl,by decide +kernel,rfl,by decide +kernel,by decide +kernel⟩
theorem scH:FnScope ["self", "name", "rules"] ["self", "name", "rules"] (defScope sInitH):=⟨rfl,rfl,rfl,by decide +kernel,rfl,by decide +kernel,by decide +kernel⟩
theorem ok_is {f fc C CN:Addr}{fd fdc:FuncData} (c:CO K mg Cok_is C ["field", "value"]) (F:Fun K "__init__" Qok_is sInitIs f fd) (DC:Def K mg "check_names" sChkNames ["things"] fc fdc) (GC:FnOk P w K mg base (CXM P w) 2 fc fdc ["things"] (spChk K CN)):FnOk P w K mg base (CXM P w) 3 f fd ["self", "field", "value"] (spIs2 K C CN):=by
 refine Fun.okX F scI (fun vs H Q E h=>?_) (fun cdv Ar outer s H vs Q E hr h=>?_)
 ·obtain ⟨p,dx,f,v,b1,b2,rfl,_⟩:=h;rfl
 ·obtain ⟨p,dx,f,v,b1,b2,rfl,hp,n1,n2,k1,k2⟩:=h;have nd:=scI.nd
  refine ⟨_,zA8 (zAs (zAd GC hr rfl DC.at_ DC.fn.kp DC.bind .nil zCg (zA0 (zA9 (zA0 (pv 1) (zA0 (pv 2) zA2))) zA2)))
     (zA8 (zB3 (pv 0) (pv 1) rfl)
     (zA3 (zB3 (pv 0) (pv 2) rfl))),?_⟩
  have e2:[b1,b2].all id=(b1 && b2):=by cases b1 <;> cases b2 <;> rfl
  refine ⟨_,rfl,_,rfl,Za (small1000 (n:=2) (by decide)),fun l fl=>⟨l,[f,v],[b1,b2],rfl,zA1,by show 2≤10;decide,.cons (n1.same (Same.new fl)) (.cons (n2.same (Same.new fl)) .nil),fun a H1 s1=>?_,fun a=>(k2 (e2.symm.trans a)).up (Same.new fl)⟩⟩;have s2:=(Same.new fl).trans s1;exact ⟨_,rfl,_,rfl,p,C,dx,[],rfl,s2 _ _ hp,c.cl,c.no _ (.head _),(by show 0 < 1000;decide),_,rfl,_,rfl,p,C,dx,_,rfl,zA1,c.cl,c.no _ (.tail _ (.head _)),(by show 1 < 1000;decide),k1 (e2.symm.trans a) _ zA1 (zDa s2)⟩
theorem ok_ow {f fc C CN:Addr}{fd fdc:FuncData} (c:CO K mg Cok_ow C ["field", "value"]) (F:Fun K "__init__" Qok_ow sInitOw f fd) (DC:Def K mg "check_names" sChkNames ["things"] fc fdc) (GC:FnOk P w K mg base (CXM P w) 2 fc fdc ["things"] (spChk K CN)):FnOk P w K mg base (CXM P w) 3 f fd ["self", "field", "value"] (spIs2 K C CN):=by
 refine Fun.okX F scO (fun vs H Q E h=>?_) (fun cdv Ar outer s H vs Q E hr h=>?_)
 ·obtain ⟨p,dx,f,v,b1,b2,rfl,_⟩:=h;rfl
 ·obtain ⟨p,dx,f,v,b1,b2,rfl,hp,n1,n2,k1,k2⟩:=h;have nd:=scO.nd
  refine ⟨_,zA8 (zAs (zAd GC hr rfl DC.at_ DC.fn.kp DC.bind .nil zCg (zA0 (zA9 (zA0 (pv 1) (zA0 (pv 2) zA2))) zA2)))
     (zA8 (zB3 (pv 0) (pv 1) rfl)
     (zA3 (zB3 (pv 0) (pv 2) rfl))),?_⟩
  have e2:[b1,b2].all id=(b1 && b2):=by cases b1 <;> cases b2 <;> rfl
  refine ⟨_,rfl,_,rfl,Za (small1000 (n:=2) (by decide)),fun l fl=>⟨l,[f,v],[b1,b2],rfl,zA1,by show 2≤10;decide,.cons (n1.same (Same.new fl)) (.cons (n2.same (Same.new fl)) .nil),fun a H1 s1=>?_,fun a=>(k2 (e2.symm.trans a)).up (Same.new fl)⟩⟩;have s2:=(Same.new fl).trans s1;exact ⟨_,rfl,_,rfl,p,C,dx,[],rfl,s2 _ _ hp,c.cl,c.no _ (.head _),(by show 0 < 1000;decide),_,rfl,_,rfl,p,C,dx,_,rfl,zA1,c.cl,c.no _ (.tail _ (.head _)),(by show 1 < 1000;decide),k1 (e2.symm.trans a) _ zA1 (zDa s2)⟩
theorem ok_me {f fc C CN:Addr}{fd fdc:FuncData} (c:CO K mg "Meets" C ["field"]) (F:Fun K "__init__" "Meets.__init__" sInitMe f fd) (DC:Def K mg "check_names" sChkNames ["things"] fc fdc) (GC:FnOk P w K mg base (CXM P w) 2 fc fdc ["things"] (spChk K CN)):FnOk P w K mg base (CXM P w) 3 f fd ["self", "field"] (spMe K C CN):=by
 refine Fun.okX F scM (fun vs H Q E h=>?_) (fun cdv Ar outer s H vs Q E hr h=>?_)
 ·obtain ⟨p,dx,f,b,rfl,_⟩:=h;rfl
 ·obtain ⟨p,dx,f,b,rfl,hp,n1,k1,k2⟩:=h;have nd:=scM.nd
  refine ⟨_,zA8 (zAs (zAd GC hr rfl DC.at_ DC.fn.kp DC.bind .nil zCg (zA0 (zA9 (zA0 (pv 1) zA2)) zA2)))
     (zA3 (zB3 (pv 0) (pv 1) rfl)),?_⟩
  have e2:[b].all id=b:=by cases b <;> rfl
  refine ⟨_,rfl,Za (small1000 (n:=1) (by decide)),fun l fl=>⟨l,[f],[b],rfl,zA1,by show 1≤10;decide,.cons (n1.same (Same.new fl)) .nil,fun a H1 s1=>?_,fun a=>(k2 (e2.symm.trans a)).up (Same.new fl)⟩⟩;have s2:=(Same.new fl).trans s1;exact ⟨_,rfl,_,rfl,p,C,dx,[],rfl,s2 _ _ hp,c.cl,c.no _ (.head _),(by show 0 < 1000;decide),k1 (e2.symm.trans a) _ zA1 (zCl s2)⟩
theorem ok_no {f CN:Addr}{fd:FuncData}{A:CS} (T:Tops K mg) (M:CM K mg A) (XN:XTop K mg "NoRule" CN) (F:Fun K "__init__" "Not.__init__" sInitNo f fd):FnOk P w K mg base (CXM P w) 1 f fd ["self", "condition"] (spNo K A CN):=by
 refine Fun.okX F scN (fun vs H Q E h=>?_) (fun cdv Ar outer s H vs Q E hr h=>?_)
 ·obtain ⟨p,dx,v,b,rfl,_⟩:=h;rfl
 ·obtain ⟨p,dx,v,b,rfl,hp,⟨t,ty,kt⟩,k1,k2⟩:=h;have nd:=scN.nd
  refine ⟨_,zA8 (zAp (zB1 (zAy (zAb zAr rfl T.isinst PyProof.Rows.boot_isinstance (zA0 (pv 1) (zA0 (zAk (v:=.ref A.cc) rfl M.gcc rfl) zA2)))))
     (zA3 (zAt (C:=CN) (W:=fun _ e H'=>E (.ref CN) (some e) H') XN.cl rfl XN.at_ rfl (zA0 zA7 zA2) (fun pins σ H s e I he fr w=>zB9 I he (.inl fr) w))) zAe)
     (zA3 (zB3 (pv 0) (pv 1) rfl)),?_⟩
  refine ⟨_,rfl,_,_,_,_,_,rfl,ty,rfl,kt,_,rfl,?_⟩;cases b with
  | false=>exact iteT ⟨Za (small1000 (by decide)),fun e he=>zC8 (k2 rfl) (Same.refl _) he⟩
  | true=>exact iteF ⟨_,rfl,_,rfl,p,A.no,dx,[],rfl,hp,M.no.cl,M.no.no _ (.head _),(by show 0 < 1000;decide),k1 rfl _ zA1 (zCl (Same.refl _))⟩
theorem ok_bo {f fc CN:Addr}{fd fdc:FuncData}{A:CS} (T:Tops K mg) (M:CM K mg A) (F:Fun K "__init__" Qok_bo sInitBo f fd) (DC:Def K mg "check_conditions" sChkConds ["things"] fc fdc) (GC:FnOk P w K mg base (CXM P w) 1 fc fdc ["things"] (spChC K A CN)):FnOk P w K mg base (CXM P w) 2 f fd ["self", "conditions"] (spLs (CndsV K A) "conditions" A.bo CN):=by
 refine Fun.okX F scB (fun vs H Q E h=>?_) (fun cdv Ar outer s H vs Q E hr h=>?_)
 ·obtain ⟨p,dx,v,b,rfl,_⟩:=h;rfl
 ·obtain ⟨p,dx,v,b,rfl,hp,hv,k1,k2⟩:=h;have nd:=scB.nd
  refine ⟨_,zA8 (zAs (zAd GC hr rfl DC.at_ DC.fn.kp DC.bind .nil zCg (zA0 (pv 1) zA2)))
     (zA3 (zB3 (pv 0) (zB4 zB6 rfl T.list PyProof.Rows.boot_list (zA0 (pv 1) zA2)) rfl)),?_⟩
  refine ⟨_,rfl,v,b,rfl,hv,fun hb H1 s1=>?_,k2⟩;rcases hv with ⟨z,_⟩ | ⟨l,xs,rfl,hl,_⟩
  ·rw [z] at hb;cases hb
  ·refine ⟨_,rfl,l,xs,rfl,.inl (SqL.of (s1 _ _ hl)),fun l2 f2=>⟨_,rfl,p,A.bo,dx,[],rfl,(Same.new f2) _ _ (s1 _ _ hp),M.bo.cl,M.bo.no _ (.head _),(by show 0 < 1000;decide),k1 hb _ l2 zA1 ⟨l,xs,rfl,hl,?_,s1.free f2⟩ (zCl (s1.trans (Same.new f2)))⟩⟩;rw [zAa (Ne.symm (zA4 (s1 _ _ hp) f2))];exact zA1
theorem ok_ei {f fc CN:Addr}{fd fdc:FuncData}{A:CS} (T:Tops K mg) (M:CM K mg A) (F:Fun K "__init__" Qok_ei sInitEi f fd) (DC:Def K mg "check_conditions" sChkConds ["things"] fc fdc) (GC:FnOk P w K mg base (CXM P w) 1 fc fdc ["things"] (spChC K A CN)):FnOk P w K mg base (CXM P w) 2 f fd ["self", "conditions"] (spLs (CndsV K A) "conditions" A.ei CN):=by
 refine Fun.okX F scE (fun vs H Q E h=>?_) (fun cdv Ar outer s H vs Q E hr h=>?_)
 ·obtain ⟨p,dx,v,b,rfl,_⟩:=h;rfl
 ·obtain ⟨p,dx,v,b,rfl,hp,hv,k1,k2⟩:=h;have nd:=scE.nd
  refine ⟨_,zA8 (zAs (zAd GC hr rfl DC.at_ DC.fn.kp DC.bind .nil zCg (zA0 (pv 1) zA2)))
     (zA3 (zB3 (pv 0) (zB4 zB6 rfl T.list PyProof.Rows.boot_list (zA0 (pv 1) zA2)) rfl)),?_⟩
  refine ⟨_,rfl,v,b,rfl,hv,fun hb H1 s1=>?_,k2⟩;rcases hv with ⟨z,_⟩ | ⟨l,xs,rfl,hl,_⟩
  ·rw [z] at hb;cases hb
  ·refine ⟨_,rfl,l,xs,rfl,.inl (SqL.of (s1 _ _ hl)),fun l2 f2=>⟨_,rfl,p,A.ei,dx,[],rfl,(Same.new f2) _ _ (s1 _ _ hp),M.ei.cl,M.ei.no _ (.head _),(by show 0 < 1000;decide),k1 hb _ l2 zA1 ⟨l,xs,rfl,hl,?_,s1.free f2⟩ (zCl (s1.trans (Same.new f2)))⟩⟩;rw [zAa (Ne.symm (zA4 (s1 _ _ hp) f2))];exact zA1
theorem ok_tm {f fn fu CN:Addr}{fd fdn fdu:FuncData}{A:CS} (T:Tops K mg) (M:CM K mg A) (XN:XTop K mg "NoRule" CN) (F:Fun K "__init__" "ToMake.__init__" sInitTM f fd) (DN:Def K mg "is_name" sIsName ["thing"] fn fdn) (DU:Def K mg "are_unlike_names" sUnlike ["things"] fu fdu):FnOk P w K mg base (CXM P w) 3 f fd ["self", "fields"] (spLs (LstV K (UnlV K)) "fields" A.tm CN):=by
 have hC:Calm (CXM P w):=calmM;have GU:FnOk P w K mg base (CXM P w) 2 fu fdu ["things"] (spUnl K):=ok_unl hC T DU.fn DN;refine Fun.okX F scTM (fun vs H Q E h=>?_) (fun cdv Ar outer s H vs Q E hr h=>?_)
 ·obtain ⟨p,dx,v,b,rfl,_⟩:=h;rfl
 ·obtain ⟨p,dx,v,b,rfl,hp,hv,k1,k2⟩:=h;have nd:=scTM.nd
  refine ⟨_,zA8 (zAp (PW.pt (zCu (zB1 (zAy (zAb zAr rfl T.isinst PyProof.Rows.boot_isinstance (zA0 (pv 1) (zA0 (zBj (v:=.ty "list") rfl T.list PyProof.Rows.boot_list rfl) zA2))))) (zCe (zB1 (zAy (zAd GU hr rfl DU.at_ DU.fn.kp DU.bind .nil (passC hC) (zA0 (pv 1) zA2)))))))
     (zA3 (zAt (C:=CN) (W:=fun _ e H'=>E (.ref CN) (some e) H') XN.cl rfl XN.at_ rfl (zA0 zA7 zA2) (fun pins σ H s e I he fr w=>zB9 I he (.inl fr) w))) zAe)
     (zA3 (zB3 (pv 0) (zB4 zB6 rfl T.list PyProof.Rows.boot_list (zA0 (pv 1) zA2)) rfl)),?_⟩
  rcases hv with ⟨rfl,t,ty,kt⟩ | ⟨l,xs,rfl,hl,hu⟩
  ·exact ⟨_,rfl,_,_,_,_,_,rfl,ty,rfl,kt,_,rfl,iteT (iteT ⟨Za (small1000 (by decide)),fun e he=>zC8 (k2 rfl) (Same.refl _) he⟩)⟩
  ·refine ⟨_,rfl,_,_,_,_,_,rfl,.lst hl,rfl,rfl,_,rfl,iteF ⟨_,rfl,l,xs,b,rfl,hl,hu,fun H1 s1=>⟨_,rfl,?_⟩⟩⟩;cases b with
   | false=>exact iteT ⟨Za (small1000 (by decide)),fun e he=>zC8 (k2 rfl) s1 he⟩
   | true =>
    refine iteF ⟨_,rfl,l,xs,rfl,.inl (SqL.of (s1 _ _ hl)),fun l2 f2=>⟨_,rfl,p,A.tm,dx,[],rfl,(Same.new f2) _ _ (s1 _ _ hp),M.tm.cl,M.tm.no _ (.head _),(by show 0 < 1000;decide),k1 rfl _ l2 zA1 ⟨l,xs,rfl,hl,?_,s1.free f2⟩ (zCl (s1.trans (Same.new f2)))⟩⟩;rw [zAa (Ne.symm (zA4 (s1 _ _ hp) f2))];exact zA1
theorem ok_ts {f fn CN:Addr}{fd fdn:FuncData}{A:CS} (T:Tops K mg) (M:CM K mg A) (XN:XTop K mg "NoRule" CN) (F:Fun K "__init__" "ToSet.__init__" sInitTS f fd) (DN:Def K mg "is_name" sIsName ["thing"] fn fdn):FnOk P w K mg base (CXM P w) 2 f fd ["self", "field", "value"] (spTs K A.ts CN):=by
 have hC:Calm (CXM P w):=calmM;have GN:FnOk P w K mg base (CXM P w) 1 fn fdn ["thing"] (spNm K):=ok_nm DN.fn T;refine Fun.okX F scTS (fun vs H Q E h=>?_) (fun cdv Ar outer s H vs Q E hr h=>?_)
 ·obtain ⟨p,dx,f,v,b1,b2,rfl,_⟩:=h;rfl
 ·obtain ⟨p,dx,f,v,b1,b2,rfl,hp,n1,n2,k1,k2⟩:=h;have nd:=scTS.nd
  refine ⟨_,zA8 (zAp (zB1 (zAy (zAd GN hr rfl DN.at_ DN.fn.kp DN.bind .nil (passC hC) (zA0 (pv 1) zA2))))
     (zA3 (zAt (C:=CN) (W:=fun _ e H'=>E (.ref CN) (some e) H') XN.cl rfl XN.at_ rfl (zA0 zA7 zA2) (fun pins σ H s e I he fr w=>zB9 I he (.inl fr) w))) zAe)
     (zA8 (zAp (PW.pt (pw_and (pt_cmp (pc_notN (pv 2))) (zCv (zB1 (zAy (zAd GN hr rfl DN.at_ DN.fn.kp DN.bind .nil (passC hC) (zA0 (pv 2) zA2)))))))
     (zA3 (zAt (C:=CN) (W:=fun _ e H'=>E (.ref CN) (some e) H') XN.cl rfl XN.at_ rfl (zA0 zA7 zA2) (fun pins σ H s e I he fr w=>zB9 I he (.inl fr) w))) zAe)
     (zA8 (zB3 (pv 0) (pv 1) rfl)
     (zA3 (zB3 (pv 0) (pv 2) rfl)))),?_⟩
  refine ⟨_,rfl,_,b1,rfl,n1,fun H1 s1=>⟨_,rfl,?_⟩⟩;have no:∀ {H1:Hp},(b1 && b2)=false→Same H H1→_≤sizeLine∧∀ e,H1 e=none→E (.ref CN) (some e) (upd H1 e (XO CN e)):=fun hb s1=>⟨Za (small1000 (n:=1) (by decide)),fun e1 he=>zC8 (k2 hb) s1 he⟩;cases b1 with
  | false=>exact iteT (no rfl s1)
  | true =>
   refine iteF ?_;rw [Bool.true_and] at k1 k2;refine' k_hp (F:=fun Hx=>b2=true∧Same H Hx) _ (fun go=>_);rotate_left 2
   ·refine ⟨_,rfl,_,rfl,?_⟩;rcases n2.symm with ⟨ne,n3⟩ | ⟨ev,hb⟩
    ·rw [decide_eq_false ne];refine iteT ⟨_,rfl,_,b2,rfl,n3.same s1,fun H2 s2=>⟨_,rfl,?_⟩⟩;rcases Bool.eq_false_or_eq_true b2 with hb | hb
     ·rw [hb];exact iteF (go H2 ⟨hb,s1.trans s2⟩)
     ·rw [hb];exact iteT (no hb (s1.trans s2))
    ·rw [decide_eq_true ev];exact iteF (go H1 ⟨hb,s1⟩)
   rintro H2 ⟨hb,s2⟩;exact ⟨_,rfl,_,rfl,p,A.ts,dx,[],rfl,s2 _ _ hp,M.ts.cl,M.ts.no _ (.head _),(by show 0 < 1000;decide),_,rfl,_,rfl,p,A.ts,dx,_,rfl,zA1,M.ts.cl,M.ts.no _ (.tail _ (.head _)),(by show 1 < 1000;decide),k1 hb _ zA1 (zDa s2)⟩
theorem ok_ru {f fn fu fo CN:Addr}{fd fdn fdu fdo:FuncData}{A:CS} (T:Tops K mg) (M:CM K mg A) (XN:XTop K mg "NoRule" CN) (F:Fun K "__init__" "Rule.__init__" sInitR f fd) (DN:Def K mg "is_name" sIsName ["thing"] fn fdn) (DU:Def K mg "are_unlike_names" sUnlike ["things"] fu fdu) (DO:Def K mg "are_other_kinds" sOtherKinds ["kind", "things"] fo fdo):FnOk P w K mg base (CXM P w) 4 f fd ["self", "kind", "change", "condition", "behind"] (spRu K A CN):=by
 have hC:Calm (CXM P w):=calmM;have GN:FnOk P w K mg base (CXM P w) 1 fn fdn ["thing"] (spNm K):=ok_nm DN.fn T;have GO:FnOk P w K mg base (CXM P w) 3 fo fdo ["kind", "things"] (spOth K):=ok_oth hC T DO.fn DN DU;refine Fun.okX F scR (fun vs H Q E h=>?_) (fun cdv Ar outer s H vs Q E hr h=>?_)
 ·obtain ⟨p,dx,k,c,t,v,b1,b2,b3,b4,rfl,_⟩:=h;rfl
 ·obtain ⟨p,dx,k,c,t,v,b1,b2,b3,b4,rfl,hp,n1,n2,n3,n4,k1,k2⟩:=h;have nd:=scR.nd;have hr1:=hr.mono (show 1≤3 by decide)
  refine ⟨_,zA8 (zAp (zB1 (zAy (zAd GN hr1 rfl DN.at_ DN.fn.kp DN.bind .nil (passC hC) (zA0 (pv 1) zA2))))
     (zA3 (zAt (C:=CN) (W:=fun _ e H'=>E (.ref CN) (some e) H') XN.cl rfl XN.at_ rfl (zA0 zA7 zA2) (fun pins σ H s e I he fr w=>zB9 I he (.inl fr) w))) zAe)
     (zA8 (zAp (zB1 (zAy (zAb zAr rfl T.isinst PyProof.Rows.boot_isinstance (zA0 (pv 2) (zA0 (zAk (v:=.ref A.ch) rfl M.gch rfl) zA2)))))
     (zA3 (zAt (C:=CN) (W:=fun _ e H'=>E (.ref CN) (some e) H') XN.cl rfl XN.at_ rfl (zA0 zA7 zA2) (fun pins σ H s e I he fr w=>zB9 I he (.inl fr) w))) zAe)
     (zA8 (zAp (zB1 (zAy (zAb zAr rfl T.isinst PyProof.Rows.boot_isinstance (zA0 (pv 3) (zA0 (zAk (v:=.ref A.cc) rfl M.gcc rfl) zA2)))))
     (zA3 (zAt (C:=CN) (W:=fun _ e H'=>E (.ref CN) (some e) H') XN.cl rfl XN.at_ rfl (zA0 zA7 zA2) (fun pins σ H s e I he fr w=>zB9 I he (.inl fr) w))) zAe)
     (zA8 (zAp (zB1 (zAy (zAd GO hr rfl DO.at_ DO.fn.kp DO.bind .nil (passC hC) (zA0 (pv 1) (zA0 (pv 4) zA2)))))
     (zA3 (zAt (C:=CN) (W:=fun _ e H'=>E (.ref CN) (some e) H') XN.cl rfl XN.at_ rfl (zA0 zA7 zA2) (fun pins σ H s e I he fr w=>zB9 I he (.inl fr) w))) zAe)
     (zA8 (zB3 (pv 0) (pv 1) rfl)
     (zA8 (zB3 (pv 0) (pv 2) rfl)
     (zA8 (zB3 (pv 0) (pv 3) rfl)
     (zA3 (zB3 (pv 0) (zB4 zB6 rfl T.list PyProof.Rows.boot_list (zA0 (pv 4) zA2)) rfl)))))))),?_⟩
  refine ⟨_,rfl,_,b1,rfl,n1,fun H1 s1=>⟨_,rfl,?_⟩⟩;have no:∀ {H1:Hp},(b1 && (b2 && (b3 && b4)))=false→Same H H1→_≤sizeLine∧∀ e,H1 e=none→E (.ref CN) (some e) (upd H1 e (XO CN e)):=fun hb s1=>⟨Za (small1000 (n:=1) (by decide)),fun e1 he=>zC8 (k2 hb) s1 he⟩;cases b1 with
  | false=>exact iteT (no rfl s1)
  | true =>
  obtain ⟨n,rfl,_⟩:=n1.str;obtain ⟨t2,ty2,kt2⟩:=n2.same s1;refine iteF ⟨_,rfl,_,_,_,_,_,rfl,ty2,rfl,kt2,_,rfl,?_⟩;cases b2 with
  | false=>exact iteT (no rfl s1)
  | true =>
  obtain ⟨t3,ty3,kt3⟩:=n3.same s1;refine iteF ⟨_,rfl,_,_,_,_,_,rfl,ty3,rfl,kt3,_,rfl,?_⟩;cases b3 with
  | false=>exact iteT (no rfl s1)
  | true =>
  refine iteF ⟨_,rfl,_,rfl,n,v,b4,rfl,n4.same s1 n rfl,fun H2 s2=>⟨_,rfl,?_⟩⟩;have s12:=s1.trans s2;cases b4 with
  | false=>exact iteT (no rfl s12)
  | true =>
  rcases n4 n rfl with ⟨z,_⟩ | ⟨l,xs,rfl,hl,_⟩
  ·cases z
  refine iteF ⟨_,rfl,_,rfl,p,A.ru,dx,[],rfl,s12 _ _ hp,M.ru.cl,M.ru.no _ (.head _),(by show 0 < 1000;decide),_,rfl,_,rfl,p,A.ru,dx,_,rfl,zA1,M.ru.cl,M.ru.no _ (.tail _ (.head _)),(by show 1 < 1000;decide),_,rfl,_,rfl,p,A.ru,dx,_,rfl,zA1,M.ru.cl,M.ru.no _ (.tail _ (.tail _ (.head _))),(by show 2 < 1000;decide),?_⟩;rw [upd_upd,upd_upd];have npl:l≠p:=by rintro rfl;rw [hp] at hl;cases hl
  refine ⟨_,rfl,l,xs,rfl,.inl (SqL.of (by rw [zAa npl];exact s12 _ _ hl)),fun l2 f2=>?_⟩;have n2p:l2≠p:=Ne.symm (zA4 zA1 f2);refine ⟨_,rfl,p,A.ru,dx,_,rfl,(Same.new f2) _ _ zA1,M.ru.cl,M.ru.no _ (.tail _ (.tail _ (.tail _ (.head _)))),(by show 3 < 1000;decide),k1 rfl _ l2 zA1 ⟨l,xs,rfl,hl,by rw [zAa n2p];exact zA1,s12.free (by rw [zAa n2p] at f2;exact f2)⟩ fun b o e nb=>?_⟩;rw [zAa nb];exact (Same.new f2) _ _ (by rw [zAa nb];exact s12 _ _ e)
theorem ok_ha {f fn CN:Addr}{fd fdn:FuncData}{A:CS} (T:Tops K mg) (M:CM K mg A) (XN:XTop K mg "NoRule" CN) (F:Fun K "__init__" "Hand.__init__" sInitH f fd) (DN:Def K mg "is_name" sIsName ["thing"] fn fdn):FnOk P w K mg base (CXM P w) 2 f fd ["self", "name", "rules"] (spHa K A CN):=by
 have hC:Calm (CXM P w):=calmM;have GN:FnOk P w K mg base (CXM P w) 1 fn fdn ["thing"] (spNm K):=ok_nm DN.fn T;refine Fun.okX F scH (fun vs H Q E h=>?_) (fun cdv Ar outer s H vs Q E hr h=>?_)
 ·obtain ⟨p,dx,k,v,b1,b2,rfl,_⟩:=h;rfl
 ·obtain ⟨p,dx,k,v,b1,b2,rfl,hp,n1,n2,k1,k2⟩:=h;have nd:=scH.nd
  refine ⟨_,zA8 (zAp (zB1 (zAy (zAd GN hr rfl DN.at_ DN.fn.kp DN.bind .nil (passC hC) (zA0 (pv 1) zA2))))
     (zA3 (zAt (C:=CN) (W:=fun _ e H'=>E (.ref CN) (some e) H') XN.cl rfl XN.at_ rfl (zA0 zA7 zA2) (fun pins σ H s e I he fr w=>zB9 I he (.inl fr) w))) zAe)
     (zA8 (zAp (PW.pt (zCu (zB1 (zAy (zAb zAr rfl T.isinst PyProof.Rows.boot_isinstance (zA0 (pv 2) (zA0 (zBj (v:=.ty "list") rfl T.list PyProof.Rows.boot_list rfl) zA2))))) (zCe (zB1 (zAy (zAb (zC0 rfl) rfl T.all PyProof.Rows.boot_all (zA0 (zBi (T:=["rule"]) rfl ScOk.auto (zC3 (pv 2)) (fun _ _ _ _=>zBb (i:=3) (by decide +kernel:(["self", "name", "rules", "rule"]:List Str).Nodup) rfl (Or.inl rfl)) (fun _ _ _ _=>zC6) (fun _ _ _ _=>(zAb (zCb (K:=K) rfl) rfl T.isinst PyProof.Rows.boot_isinstance (zA0 (pv 3) (zA0 (zAk (v:=.ref A.ru) rfl M.ru.g rfl) zA2))))) zA2)))))))
     (zA3 (zAt (C:=CN) (W:=fun _ e H'=>E (.ref CN) (some e) H') XN.cl rfl XN.at_ rfl (zA0 zA7 zA2) (fun pins σ H s e I he fr w=>zB9 I he (.inl fr) w))) zAe)
     (zA8 (zB3 (pv 0) (pv 1) rfl)
     (zA3 (zB3 (pv 0) (zB4 zB6 rfl T.list PyProof.Rows.boot_list (zA0 (pv 2) zA2)) rfl)))),?_⟩
  refine ⟨_,rfl,_,b1,rfl,n1,fun H1 s1=>⟨_,rfl,?_⟩⟩;have no:∀ {H1:Hp},(b1 && b2)=false→Same H H1→_≤sizeLine∧∀ e,H1 e=none→E (.ref CN) (some e) (upd H1 e (XO CN e)):=fun hb s1=>⟨Za (small1000 (n:=1) (by decide)),fun e1 he=>zC8 (k2 hb) s1 he⟩;cases b1 with
  | false=>exact iteT (no rfl s1)
  | true =>
  rcases n2.same (fun x s=>x.same s) s1 with ⟨rfl,t,ty,kt⟩ | ⟨l,xs,rfl,hl1,le,bs,pr,eb⟩
  ·exact iteF ⟨_,rfl,_,_,_,_,_,rfl,ty,rfl,kt,_,rfl,iteT (iteT (no rfl s1))⟩
  refine iteF ⟨_,rfl,_,_,_,_,_,rfl,.lst hl1,rfl,rfl,_,rfl,iteF ⟨_,rfl,l,rfl,⟨_,SqL.of hl1⟩,zBz hl1 (by omega) (pr_len pr) (fun j x b' H' N hx hb s2 q=>?_) (fun c H' s2 hc=>⟨c,bs,rfl,SqL.of hc,_,rfl,?_⟩)⟩⟩
  ·obtain ⟨t,ty,kt⟩:=(pr_get pr hx hb).same s2;exact ⟨_,rfl,_,_,_,_,_,rfl,ty,rfl,kt,q _ (Same.refl _)⟩
  have s12:=s1.trans s2;rw [show decide (0≤xs.length)=true from decide_eq_true (Zs _),Bool.true_and] at eb;cases e:bs.all id with
  | false=>exact iteT (no (by rw [eb,e];rfl) s12)
  | true =>
  rcases n2 with ⟨z,_⟩ | ⟨l',xs',e',hl,_⟩
  ·rw [z,e] at eb;cases eb
  cases e';have npl:l≠p:=by rintro rfl;rw [hp] at hl;cases hl
  have ex:xs=xs':=by have:=s1 _ _ hl;rw [hl1] at this;cases this;rfl
  subst ex;refine iteF ⟨_,rfl,_,rfl,p,A.ha,dx,[],rfl,s12 _ _ hp,M.ha.cl,M.ha.no _ (.head _),(by show 0 < 1000;decide),_,rfl,l,xs,rfl,.inl (SqL.of (by rw [zAa npl];exact s12 _ _ hl)),fun l2 f2=>?_⟩;have n2p:l2≠p:=Ne.symm (zA4 zA1 f2);refine ⟨_,rfl,p,A.ha,dx,_,rfl,(Same.new f2) _ _ zA1,M.ha.cl,M.ha.no _ (.tail _ (.head _)),(by show 1 < 1000;decide),k1 (by rw [eb,e];rfl) _ l2 zA1 ⟨l,xs,rfl,hl,by rw [zAa n2p];exact zA1,s12.free (by rw [zAa n2p] at f2;exact f2)⟩ fun b o e nb=>?_⟩;rw [zAa nb];exact (Same.new f2) _ _ (by rw [zAa nb];exact s12 _ _ e)
end
end L2.W
namespace L2.W
open PySem My
structure Oth (K:PySem.W.Frag) (mg:Str→Option Value) (CN:Addr) (c:Nat→Addr):Prop where
 g0:mg "NoDeed" = some (.ref (c 0))
 g1:mg "NoKind" = some (.ref (c 1))
 g2:mg "NoLimit" = some (.ref (c 2))
 g3:mg "NoName" = some (.ref (c 3))
 g4:mg "NoPlace" = some (.ref (c 4))
 g5:mg "NoRound" = some (.ref (c 5))
 g6:mg "NoRow" = some (.ref (c 6))
 g7:mg "NoSituation" = some (.ref (c 7))
 g8:mg "NoState" = some (.ref (c 8))
 g9:mg "NoStep" = some (.ref (c 9))
 g10:mg "NoText" = some (.ref (c 10))
 g11:mg "NoWish" = some (.ref (c 11))
 g12:mg "TooMany" = some (.ref (c 12))
 x:XCls K CN
 k1:PySem.W.kitAny K (.ref CN) (([c 0,c 1,c 2,c 3,c 4,c 5,c 6]:List Addr).map Value.ref)=some false
 k2:PySem.W.kitAny K (.ref CN) (([c 7,c 8,c 9,c 10,c 11,c 12]:List Addr).map Value.ref)=some false
noncomputable def spIO (CN:Addr):Sp:=fun vs H Q _=>∃ e:Addr,vs=[.ref e]∧H e=some (XO CN e)∧∀ H',Same H H'→Q (.bl false) H'
section
variable {P:Program}{w:World}{K:PySem.W.Frag}{mg:Str→Option Value}{base:Heap}{CX:CXT}
theorem scIO:FnScope ["_law_e"] ["_law_e"] (defScope sIsOther):=⟨rfl,rfl,rfl,by decide +kernel,rfl,by decide +kernel,by decide +kernel⟩
theorem ok_io {q:Bool}{f CN:Addr}{c:Nat→Addr}{fd:FuncData} (T:Tops K mg) (R:Oth K mg CN c) (F:Fun K "_law_is_other" "_law_is_other" sIsOther f fd):FnOkQ q P w K mg base CX 1 f fd ["_law_e"] (spIO CN):=by
 refine Fun.okQ F scIO (fun vs H Q E h=>?_) (fun cdv A outer s H vs Q E hr h=>?_)
 ·obtain ⟨e,rfl,_⟩:=h;rfl
 ·obtain ⟨e,rfl,he,k⟩:=h;have nd:=scIO.nd;refine ⟨_,zA8 (zAp (zAy (zAb (zCa (K:=K) rfl) rfl T.isinst PyProof.Rows.boot_isinstance (zA0 (pv 0) (zA0 (zBc (zA0 (zAk (v:=.ref (c 0)) rfl R.g0 rfl) (zA0 (zAk (v:=.ref (c 1)) rfl R.g1 rfl) (zA0 (zAk (v:=.ref (c 2)) rfl R.g2 rfl) (zA0 (zAk (v:=.ref (c 3)) rfl R.g3 rfl) (zA0 (zAk (v:=.ref (c 4)) rfl R.g4 rfl) (zA0 (zAk (v:=.ref (c 5)) rfl R.g5 rfl) (zA0 (zAk (v:=.ref (c 6)) rfl R.g6 rfl) zA2)))))))) zA2)))) (zA3 (zAj zBu)) zAe) (zA3 (zAj (zAb (zCa (K:=K) rfl) rfl T.isinst PyProof.Rows.boot_isinstance (zA0 (pv 0) (zA0 (zBc (zA0 (zAk (v:=.ref (c 7)) rfl R.g7 rfl) (zA0 (zAk (v:=.ref (c 8)) rfl R.g8 rfl) (zA0 (zAk (v:=.ref (c 9)) rfl R.g9 rfl) (zA0 (zAk (v:=.ref (c 10)) rfl R.g10 rfl) (zA0 (zAk (v:=.ref (c 11)) rfl R.g11 rfl) (zA0 (zAk (v:=.ref (c 12)) rfl R.g12 rfl) zA2))))))) zA2))))),?_⟩;refine ⟨_,rfl,by show 7≤sizeLine;decide,fun t1 f1=>⟨e,CN,t1,[c 0,c 1,c 2,c 3,c 4,c 5,c 6],false,rfl,(Same.new f1) _ _ he,R.x,zA1,R.k1,_,rfl,iteF ?_⟩⟩;refine ⟨_,rfl,by show 6≤sizeLine;decide,fun t2 f2=>⟨e,CN,t2,[c 7,c 8,c 9,c 10,c 11,c 12],false,rfl,(Same.new f2) _ _ ((Same.new f1) _ _ he),R.x,zA1,R.k2,k _ ((Same.new f1).trans (Same.new f2))⟩⟩
end
end L2.W
namespace L2.W
open PySem My
theorem zA6 {x dx C:Addr}{H:Hp} (hx:H x=none) (hdx:H dx=none) (_:dx≠x):Same H (upd (upd H dx (.own x)) x (.ins C dx [])):=fun a o e=>by
 rw [zAa (zA4 e hx),zAa (zA4 e hdx)];exact e
theorem zAl {x dx C:Addr}{H H':Hp} (hx:H x=none) (hdx:H dx=none) (ne:dx≠x) (b:But x (upd (upd H dx (.own x)) x (.ins C dx [])) H'):Same H H':=fun a o e=>b a o (zA6 hx hdx ne a o e) (zA4 e hx)
noncomputable def Two (R S:V→Bool→Prop) (H:Hp) (v:V) (b:Bool):Prop:=∃ l x y b1 b2,v=.ref l∧H l=some (.lst [x,y])∧R x b1∧S y b2∧b=(b1 && b2)
noncomputable def One (R:V→Bool→Prop) (H:Hp) (v:V) (b:Bool):Prop:=∃ l x,v=.ref l∧H l=some (.lst [x])∧R x b
noncomputable def Four (K:PySem.W.Frag) (A:CS) (H:Hp) (v:V) (b:Bool):Prop:=∃ l k c t u b1 b2 b3 b4,v=.ref l∧H l=some (.lst [k,c,t,u])∧NmV K H k b1∧IsV K (.ref A.ch) H c b2∧IsV K (.ref A.cc) H t b3∧OtV K H k u b4∧b=(b1 && (b2 && (b3 && b4)))
noncomputable def Way (K:PySem.W.Frag) (A:CS) (H:Hp):Nat→V→Bool→Prop
 | 0=>Two (NmV K H) (NmV K H) H
 | 1=>One (NmV K H) H
 | 2=>Two (NmV K H) (NmV K H) H
 | 3=>LstV K (UnlV K) H
 | 4=>Two (NmV K H) (TsV K H) H
 | 5=>One (IsV K (.ref A.cc) H) H
 | 6=>CndsV K A H
 | 7=>CndsV K A H
 | 8=>Four K A H
 | _=>Two (NmV K H) (RulsV K A H) H
noncomputable def spRef (K:PySem.W.Frag) (A:CS):Sp:=fun vs H Q _=>∃ (n:Nat) (v:V) (b:Bool),vs=[.int n,v]∧n≤9∧Way K A H n v b∧∀ H',Same H H'→Q (.str (if b then "made" else "refused")) H'
structure Inis (P:Program) (w:World) (K:PySem.W.Frag) (mg:Str→Option Value) (base:Heap) (A:CS) (CN:Addr) (dIs dMe dOw dNo dBo dEi dTm dTs dRu dHa:FuncData):Prop where
 is_:FnOk P w K mg base (CXM P w) 3 A.fIs dIs ["self", "field", "value"] (spIs2 K A.is_ CN)
 me:FnOk P w K mg base (CXM P w) 3 A.fMe dMe ["self", "field"] (spMe K A.me CN)
 ow:FnOk P w K mg base (CXM P w) 3 A.fOw dOw ["self", "field", "value"] (spIs2 K A.ow CN)
 no:FnOk P w K mg base (CXM P w) 1 A.fNo dNo ["self", "condition"] (spNo K A CN)
 bo:FnOk P w K mg base (CXM P w) 2 A.fBo dBo ["self", "conditions"] (spLs (CndsV K A) "conditions" A.bo CN)
 ei:FnOk P w K mg base (CXM P w) 2 A.fEi dEi ["self", "conditions"] (spLs (CndsV K A) "conditions" A.ei CN)
 tm:FnOk P w K mg base (CXM P w) 3 A.fTm dTm ["self", "fields"] (spLs (LstV K (UnlV K)) "fields" A.tm CN)
 ts:FnOk P w K mg base (CXM P w) 2 A.fTs dTs ["self", "field", "value"] (spTs K A.ts CN)
 ru:FnOk P w K mg base (CXM P w) 4 A.fRu dRu ["self", "kind", "change", "condition", "behind"] (spRu K A CN)
 ha:FnOk P w K mg base (CXM P w) 2 A.fHa dHa ["self", "name", "rules"] (spHa K A CN)
 bIs:Binds K dIs ["self", "field", "value"] []
 bMe:Binds K dMe ["self", "field"] []
 bOw:Binds K dOw ["self", "field", "value"] []
 bNo:Binds K dNo ["self", "condition"] []
 bBo:Binds K dBo ["self", "conditions"] []
 bEi:Binds K dEi ["self", "conditions"] []
 bTm:Binds K dTm ["self", "fields"] []
 bTs:Binds K dTs ["self", "field", "value"] []
 bRu:Binds K dRu ["self", "kind", "change", "condition", "behind"] []
 bHa:Binds K dHa ["self", "name", "rules"] []
theorem wayT {A B:Prop}{n m:Int} (h:n=m) (a:A):if decide (V.int n=V.int m)=true then A else B:=by subst h;rw [decide_eq_true rfl];exact iteT a
theorem wayF {A B:Prop}{n m:Int} (h:n≠m) (b:B):if decide (V.int n=V.int m)=true then A else B:=by rw [decide_eq_false fun z=>h (V.int.inj z)];exact iteF b
section
variable {P:Program}{w:World}{K:PySem.W.Frag}{mg:Str→Option Value}{base:Heap}
theorem scRf:FnScope ["_law_way", "_law_things", "_law_word", "_law_e"] ["_law_way", "_law_things"] (defScope sRefused):=⟨rfl,rfl,rfl,by decide +kernel,rfl,by decide +kernel,by decide +kernel⟩
set_option maxHeartbeats 4000000 in
theorem ok_ref {f fi CN CR:Addr}{cs:Nat→Addr}{fd fdi dIs dMe dOw dNo dBo dEi dTm dTs dRu dHa:FuncData}{A:CS} (T:Tops K mg) (M:CM K mg A) (I:Inis P w K mg base A CN dIs dMe dOw dNo dBo dEi dTm dTs dRu dHa) (R:Oth K mg CN cs) (XN:XTop K mg "NoRule" CN) (hve:mg "ValueError" = none) (hrest:mg "RestError" = some (.ref CR)) (hexm:PySem.W.exmOne K (.ref CN) (.ref CR)=some true) (hkit:PySem.W.kitOne K (.ref CN) (.ref CN)=some true) (hkv:PySem.W.kitOne K (.ref CN) (.type "ValueError")=some true)
  (F:Fun K "_law_refused" "_law_refused" sRefused f fd) (DI:Def K mg "_law_is_other" sIsOther ["_law_e"] fi fdi):FnOk P w K mg base (CXM P w) 6 f fd ["_law_way", "_law_things"] (spRef K A):=by
 have GI:FnOkQ false P w K mg base (CXM P w) 1 fi fdi ["_law_e"] (spIO CN):=ok_io T R DI.fn;have hC:Calm (CXM P w):=calmM;refine Fun.okX F scRf (fun vs H Q E h=>?_) (fun cdv Ar outer s H vs Q E hr h=>?_)
 ·obtain ⟨n,v,b,rfl,_⟩:=h;rfl
 ·obtain ⟨n,v,b,rfl,n9,hw,q⟩:=h;have nd:=scRf.nd;have hr2:=hr.mono (show 2≤5 by decide);have hr3:=hr.mono (show 3≤5 by decide);have hr4:=hr.mono (show 4≤5 by decide);have hrq:∀ e,RoomQ false 1 ((cxOf (CXM P w) P w K mg base ["_law_way", "_law_things", "_law_word", "_law_e"] "_law_refused" (defScope sRefused) f cdv Ar outer s H E).hnd e).A:=fun e=>Room.hnd (hr.mono (show 1≤5 by decide))
  refine ⟨_,zA8 (zAn (i:=2) nd rfl (Or.inl rfl) zA7)
     (zA8 (ps_try (i:=3) (B:=CR) rfl rfl rfl nd rfl rfl rfl hrest (fun pins W=>(zA3 (zAp (zAi zBk (pv 0) zA5 (nomark _))
     (zA3 (zAs (zAx M.kis I.is_ hr4 rfl M.is_.g I.bIs .nil (zB5 rfl) (zA0 (zAv (r:=rIxL K) zAc (pv 1) zA5 (fun _ _=>rfl)) (zA0 (zAv (r:=rIxL K) zAc (pv 1) zA5 (fun _ _=>rfl)) zA2))))) (zA3 (zAp (zAi zBk (pv 0) zA5 (nomark _))
     (zA3 (zAs (zAx M.kme I.me hr4 rfl M.me.g I.bMe .nil (zB5 rfl) (zA0 (zAv (r:=rIxL K) zAc (pv 1) zA5 (fun _ _=>rfl)) zA2)))) (zA3 (zAp (zAi zBk (pv 0) zA5 (nomark _))
     (zA3 (zAs (zAx M.kow I.ow hr4 rfl M.ow.g I.bOw .nil (zB5 rfl) (zA0 (zAv (r:=rIxL K) zAc (pv 1) zA5 (fun _ _=>rfl)) (zA0 (zAv (r:=rIxL K) zAc (pv 1) zA5 (fun _ _=>rfl)) zA2))))) (zA3 (zAp (zAi zBk (pv 0) zA5 (nomark _))
     (zA3 (zAs (zAx M.ktm I.tm hr4 rfl M.tm.g I.bTm .nil (zB5 rfl) (zA0 (pv 1) zA2)))) (zA3 (zAp (zAi zBk (pv 0) zA5 (nomark _))
     (zA3 (zAs (zAx M.kts I.ts hr3 rfl M.ts.g I.bTs .nil (zB5 rfl) (zA0 (zAv (r:=rIxL K) zAc (pv 1) zA5 (fun _ _=>rfl)) (zA0 (zAv (r:=rIxL K) zAc (pv 1) zA5 (fun _ _=>rfl)) zA2))))) (zA3 (zAp (zAi zBk (pv 0) zA5 (nomark _))
     (zA3 (zAs (zAx M.kno I.no hr2 rfl M.no.g I.bNo .nil (zB5 rfl) (zA0 (zAv (r:=rIxL K) zAc (pv 1) zA5 (fun _ _=>rfl)) zA2)))) (zA3 (zAp (zAi zBk (pv 0) zA5 (nomark _))
     (zA3 (zAs (zAx M.kbo I.bo hr3 rfl M.bo.g I.bBo .nil (zB5 rfl) (zA0 (pv 1) zA2)))) (zA3 (zAp (zAi zBk (pv 0) zA5 (nomark _))
     (zA3 (zAs (zAx M.kei I.ei hr3 rfl M.ei.g I.bEi .nil (zB5 rfl) (zA0 (pv 1) zA2)))) (zA3 (zAp (zAi zBk (pv 0) zA5 (nomark _))
     (zA3 (zAs (zAx M.kru I.ru hr rfl M.ru.g I.bRu .nil (zB5 rfl) (zA0 (zAv (r:=rIxL K) zAc (pv 1) zA5 (fun _ _=>rfl)) (zA0 (zAv (r:=rIxL K) zAc (pv 1) zA5 (fun _ _=>rfl)) (zA0 (zAv (r:=rIxL K) zAc (pv 1) zA5 (fun _ _=>rfl)) (zA0 (zAv (r:=rIxL K) zAc (pv 1) zA5 (fun _ _=>rfl)) zA2))))))) (zA3 (zAs (zAx M.kha I.ha hr3 rfl M.ha.g I.bHa .nil (zB5 rfl) (zA0 (zAv (r:=rIxL K) zAc (pv 1) zA5 (fun _ _=>rfl)) (zA0 (zAv (r:=rIxL K) zAc (pv 1) zA5 (fun _ _=>rfl)) zA2))))))))))))))))))))))))
     (fun e=>(zA8 (zAn (i:=2) nd rfl (Or.inl rfl) zA7)
     (zA3 (zAp (PW.pt (pw_and (zAy (zAb (zC9 (K:=K) rfl) rfl T.isinst PyProof.Rows.boot_isinstance (zA0 (pv 3) (zA0 (zAk (v:=.ref CN) rfl XN.at_ rfl) zA2)))) (pw_and (zAy (zAb (zC9 (K:=K) rfl) rfl T.isinst PyProof.Rows.boot_isinstance (zA0 (pv 3) (zA0 (zBj (v:=.ty "ValueError") rfl hve (by decide +kernel) rfl) zA2)))) (zCv (zB1 (zAy (zAd GI (hrq e) rfl DI.at_ DI.fn.kp DI.bind .nil (passC hC) (zA0 (pv 3) zA2))))))))
     (zA3 (zAn (i:=2) nd rfl (Or.inl rfl) zA7)) zAe)))))
     (zA3 (zAj (pv 2)))),?_⟩
  have fin:∀ {H1:Hp},b=true→Same H H1→∃ u,([some (.int n),some v,some (.str "made"),none]:List (Option V))[2]? = some (some u)∧Q u H1:=fun hb s1=>⟨_,rfl,by have z:=q _ s1;rw [hb] at z;exact z⟩;refine ⟨fun σ' e C' H'=>C'=CN∧σ'=[some (.int n),some v,some (.str "made"),none]∧Same H H'∧b=false,?_,?_⟩
  ·have n10:n=0∨n=1∨n=2∨n=3∨n=4∨n=5∨n=6∨n=7∨n=8∨n=9:=by omega
   rcases n10 with rfl | rfl | rfl | rfl | rfl | rfl | rfl | rfl | rfl | rfl
   ·obtain ⟨l,x,y,b1,b2,rfl,hl,n1,n2,rfl⟩:=hw;refine ⟨_,rfl,rfl,_,rfl,wayT rfl ⟨_,rfl,l,_,0,_,rfl,rfl,SqL.of hl,rfl,_,rfl,l,_,1,_,rfl,rfl,SqL.of hl,rfl,fun p dx hx hdx ne=>?_⟩⟩;have sm:=zA6 (C:=A.is_) hx hdx ne;exact ⟨p,dx,x,y,b1,b2,rfl,zA1,n1.same sm,n2.same sm,fun hb H1 e' bt=>⟨rfl,fin hb (zAl hx hdx ne bt)⟩,fun hb e H1 hn he s1=>⟨e,CN,rfl,rfl,rfl,rfl,sm.trans s1,hb⟩⟩
   ·obtain ⟨l,x,rfl,hl,n1⟩:=hw
    iterate 1 refine ⟨_,rfl,rfl,_,rfl,wayF (by decide) ?_⟩
    refine ⟨_,rfl,rfl,_,rfl,wayT rfl ⟨_,rfl,l,_,0,_,rfl,rfl,SqL.of hl,rfl,fun p dx hx hdx ne=>?_⟩⟩;have sm:=zA6 (C:=A.me) hx hdx ne;exact ⟨p,dx,x,b,rfl,zA1,n1.same sm,fun hb H1 e' bt=>⟨rfl,fin hb (zAl hx hdx ne bt)⟩,fun hb e H1 hn he s1=>⟨e,CN,rfl,rfl,rfl,rfl,sm.trans s1,hb⟩⟩
   ·obtain ⟨l,x,y,b1,b2,rfl,hl,n1,n2,rfl⟩:=hw
    iterate 2 refine ⟨_,rfl,rfl,_,rfl,wayF (by decide) ?_⟩
    refine ⟨_,rfl,rfl,_,rfl,wayT rfl ⟨_,rfl,l,_,0,_,rfl,rfl,SqL.of hl,rfl,_,rfl,l,_,1,_,rfl,rfl,SqL.of hl,rfl,fun p dx hx hdx ne=>?_⟩⟩;have sm:=zA6 (C:=A.ow) hx hdx ne;exact ⟨p,dx,x,y,b1,b2,rfl,zA1,n1.same sm,n2.same sm,fun hb H1 e' bt=>⟨rfl,fin hb (zAl hx hdx ne bt)⟩,fun hb e H1 hn he s1=>⟨e,CN,rfl,rfl,rfl,rfl,sm.trans s1,hb⟩⟩
   ·iterate 3 refine ⟨_,rfl,rfl,_,rfl,wayF (by decide) ?_⟩
    refine ⟨_,rfl,rfl,_,rfl,wayT rfl ⟨_,rfl,fun p dx hx hdx ne=>?_⟩⟩;have sm:=zA6 (C:=A.tm) hx hdx ne;exact ⟨p,dx,v,b,rfl,zA1,LstV.same (fun x s=>x.same s) hw sm,fun hb H1 l' e' cp bt=>⟨rfl,fin hb (zAl hx hdx ne bt)⟩,fun hb e H1 hn he s1=>⟨e,CN,rfl,rfl,rfl,rfl,sm.trans s1,hb⟩⟩
   ·obtain ⟨l,x,y,b1,b2,rfl,hl,n1,n2,rfl⟩:=hw
    iterate 4 refine ⟨_,rfl,rfl,_,rfl,wayF (by decide) ?_⟩
    refine ⟨_,rfl,rfl,_,rfl,wayT rfl ⟨_,rfl,l,_,0,_,rfl,rfl,SqL.of hl,rfl,_,rfl,l,_,1,_,rfl,rfl,SqL.of hl,rfl,fun p dx hx hdx ne=>?_⟩⟩;have sm:=zA6 (C:=A.ts) hx hdx ne;exact ⟨p,dx,x,y,b1,b2,rfl,zA1,n1.same sm,n2.same sm,fun hb H1 e' bt=>⟨rfl,fin hb (zAl hx hdx ne bt)⟩,fun hb e H1 hn he s1=>⟨e,CN,rfl,rfl,rfl,rfl,sm.trans s1,hb⟩⟩
   ·obtain ⟨l,x,rfl,hl,n1⟩:=hw
    iterate 5 refine ⟨_,rfl,rfl,_,rfl,wayF (by decide) ?_⟩
    refine ⟨_,rfl,rfl,_,rfl,wayT rfl ⟨_,rfl,l,_,0,_,rfl,rfl,SqL.of hl,rfl,fun p dx hx hdx ne=>?_⟩⟩;have sm:=zA6 (C:=A.no) hx hdx ne;exact ⟨p,dx,x,b,rfl,zA1,n1.same sm,fun hb H1 e' bt=>⟨rfl,fin hb (zAl hx hdx ne bt)⟩,fun hb e H1 hn he s1=>⟨e,CN,rfl,rfl,rfl,rfl,sm.trans s1,hb⟩⟩
   ·iterate 6 refine ⟨_,rfl,rfl,_,rfl,wayF (by decide) ?_⟩
    refine ⟨_,rfl,rfl,_,rfl,wayT rfl ⟨_,rfl,fun p dx hx hdx ne=>?_⟩⟩;have sm:=zA6 (C:=A.bo) hx hdx ne;exact ⟨p,dx,v,b,rfl,zA1,LstV.same (fun x s=>x.same s) hw sm,fun hb H1 l' e' cp bt=>⟨rfl,fin hb (zAl hx hdx ne bt)⟩,fun hb e H1 hn he s1=>⟨e,CN,rfl,rfl,rfl,rfl,sm.trans s1,hb⟩⟩
   ·iterate 7 refine ⟨_,rfl,rfl,_,rfl,wayF (by decide) ?_⟩
    refine ⟨_,rfl,rfl,_,rfl,wayT rfl ⟨_,rfl,fun p dx hx hdx ne=>?_⟩⟩;have sm:=zA6 (C:=A.ei) hx hdx ne;exact ⟨p,dx,v,b,rfl,zA1,LstV.same (fun x s=>x.same s) hw sm,fun hb H1 l' e' cp bt=>⟨rfl,fin hb (zAl hx hdx ne bt)⟩,fun hb e H1 hn he s1=>⟨e,CN,rfl,rfl,rfl,rfl,sm.trans s1,hb⟩⟩
   ·obtain ⟨l,k,c,t,u,b1,b2,b3,b4,rfl,hl,n1,n2,n3,n4,rfl⟩:=hw
    iterate 8 refine ⟨_,rfl,rfl,_,rfl,wayF (by decide) ?_⟩
    refine ⟨_,rfl,rfl,_,rfl,wayT rfl ⟨_,rfl,l,_,0,_,rfl,rfl,SqL.of hl,rfl,_,rfl,l,_,1,_,rfl,rfl,SqL.of hl,rfl,_,rfl,l,_,2,_,rfl,rfl,SqL.of hl,rfl,_,rfl,l,_,3,_,rfl,rfl,SqL.of hl,rfl,fun p dx hx hdx ne=>?_⟩⟩;have sm:=zA6 (C:=A.ru) hx hdx ne;exact ⟨p,dx,k,c,t,u,b1,b2,b3,b4,rfl,zA1,n1.same sm,n2.same sm,n3.same sm,n4.same sm,fun hb H1 l' e' cp bt=>⟨rfl,fin hb (zAl hx hdx ne bt)⟩,fun hb e H1 hn he s1=>⟨e,CN,rfl,rfl,rfl,rfl,sm.trans s1,hb⟩⟩
   ·obtain ⟨l,x,y,b1,b2,rfl,hl,n1,n2,rfl⟩:=hw
    iterate 9 refine ⟨_,rfl,rfl,_,rfl,wayF (by decide) ?_⟩
    refine ⟨_,rfl,l,_,0,_,rfl,rfl,SqL.of hl,rfl,_,rfl,l,_,1,_,rfl,rfl,SqL.of hl,rfl,fun p dx hx hdx ne=>?_⟩;have sm:=zA6 (C:=A.ha) hx hdx ne;exact ⟨p,dx,x,y,b1,b2,rfl,zA1,n1.same sm,n2.same (fun x s=>x.same s) sm,fun hb H1 l' e' cp bt=>⟨rfl,fin hb (zAl hx hdx ne bt)⟩,fun hb e H1 hn he s1=>⟨e,CN,rfl,rfl,rfl,rfl,sm.trans s1,hb⟩⟩
  ·rintro σ' e C' H' he ⟨rfl,rfl,s1,hb⟩;refine ⟨hexm,?_⟩;refine ⟨_,rfl,e,_,_,.ref C',true,rfl,he,R.x,rfl,hkit,(fun z=>absurd rfl (z _)),_,rfl,iteT ?_⟩;refine ⟨_,rfl,e,_,_,.type "ValueError",true,rfl,he,R.x,rfl,hkv,(fun _=>⟨_,rfl⟩),_,rfl,iteT ?_⟩;refine ⟨_,rfl,e,rfl,he,fun H2 s2=>⟨_,rfl,iteT ⟨_,rfl,?_⟩⟩⟩;have z:=q _ (s1.trans s2);rw [hb] at z;exact z
end
end L2.W
namespace L2.W
open PySem My
theorem _root_.My.Src.nw {H:Hp}{p b:Addr}{k:Int} (S:Src H p k) (h:H b=none):b≠p:=by obtain ⟨_,_,_,e,_⟩:=S;exact Ne.symm (zA4 e h)
theorem _root_.My.Src.up {H H':Hp}{p:Addr}{k:Int} (S:Src H p k) (s:Same H H'):Src H' p k:=by obtain ⟨a,c,i,e,r⟩:=S;exact ⟨a,c,i,s _ _ e,r⟩
noncomputable def ButS (p:Addr) (H H':Hp):Prop:=∀ b o,H b=some o→b≠p→H' b=some o
theorem ButS.trans {p:Addr}{H H1 H2:Hp} (a:ButS p H H1) (b:ButS p H1 H2):ButS p H H2:=fun c o e n=>b c o (a c o e n) n
theorem ButS.same {p:Addr}{H H1:Hp} (s:Same H H1):ButS p H H1:=fun c o e _=>s c o e
theorem ButS.eq {p:Addr}{H H1:Hp} (k:∀ b,b≠p→H1 b=H b):ButS p H H1:=fun c o e n=>by rw [k c n];exact e
theorem _root_.L2.TyOf.but {K:PySem.W.Frag}{H H':Hp}{v:V}{t:Value}{p:Addr}{k k':Int} (h:TyOf K H v t) (b:ButS p H H') (S:Src H p k) (S':Src H' p k'):TyOf K H' v t:=by
 obtain ⟨_,_,_,eS,_⟩:=S;obtain ⟨_,_,_,eS',_⟩:=S';have nq:∀ {a:Addr}{o:HO},H a=some o→(∀ xs,o≠.lst xs)→H' a=some o:=fun {a o} e n=>b a o e fun z=>by
  rw [z,eS] at e;cases e;exact n _ rfl
 cases h with
 | non=>exact .non
 | bl x=>exact .bl x
 | int i=>exact .int i
 | str x=>exact .str x
 | flt x=>exact .flt x
 | @lst a xs e =>
  by_cases z:a=p
  ·rw [z];exact .lst eS'
  ·exact .lst (b _ _ e z)
 | frz e=>exact .frz (nq e fun _ z=>nomatch z)
 | tup e=>exact .tup (nq e fun _ z=>nomatch z)
 | dK e=>exact .dK (nq e fun _ z=>nomatch z)
 | dT e=>exact .dT (nq e fun _ z=>nomatch z)
 | ins e a b c d f=>exact .ins (nq e fun _ z=>nomatch z) a b c d f
structure Bt (p:Addr) (H H':Hp):Prop where
 b:ButS p H H'
 s:∃ k,Src H p k
 s':∃ k,Src H' p k
theorem Bt.trans {p:Addr}{H H1 H2:Hp} (a:Bt p H H1) (b:Bt p H1 H2):Bt p H H2:=⟨a.b.trans b.b,a.s,b.s'⟩
theorem Bt.same {p:Addr}{H H1:Hp}{k:Int} (s:Same H H1) (S:Src H p k):Bt p H H1:=⟨ButS.same s,⟨_,S⟩,_,S.up s⟩
theorem Bt.eq {p:Addr}{H H1:Hp}{k k':Int} (h:∀ b,b≠p→H1 b=H b) (S:Src H p k) (S':Src H1 p k'):Bt p H H1:=⟨ButS.eq h,⟨_,S⟩,_,S'⟩
theorem IsT.bt {K:PySem.W.Frag}{A:CS}{p:Addr}{H H':Hp}{v:V}{t:Ty} (h:IsT K A H v t) (b:Bt p H H'):IsT K A H' v t:=let ⟨_,S⟩:=b.s;let ⟨_,S'⟩:=b.s';TyOf.but h b.b S S'
theorem IsV.bt {K:PySem.W.Frag}{p:Addr}{c:Value}{H H':Hp}{v:V}{x:Bool} (h:IsV K c H v x) (b:Bt p H H'):IsV K c H' v x:=let ⟨t,ty,k⟩:=h;let ⟨_,S⟩:=b.s;let ⟨_,S'⟩:=b.s';⟨t,ty.but b.b S S',k⟩
theorem NmV.bt {K:PySem.W.Frag}{p:Addr}{H H':Hp}{v:V}{x:Bool} (h:NmV K H v x) (b:Bt p H H'):NmV K H' v x:=h.imp id fun ⟨e,h⟩=>⟨e,h.bt b⟩
noncomputable def NoC (K:PySem.W.Frag) (A:CS) (H:Hp) (v:V):Prop:=∃ t,IsT K A H v t∧isA .cc t=false∧isA .ru t=false
theorem NoC.bt {K:PySem.W.Frag}{A:CS}{p:Addr}{H H':Hp}{v:V} (h:NoC K A H v) (b:Bt p H H'):NoC K A H' v:=let ⟨t,ty,k⟩:=h;⟨t,ty.bt b,k⟩
theorem ty_lst {K:PySem.W.Frag}{A:CS}{G:Addr→Prop}{H:Hp}{v:V}{ds:List PyData} (h:Has G H v (.list ds)):IsT K A H v .lst:=by obtain ⟨l,xs,rfl,_,hl,_⟩:=h.list_inv;exact .lst hl
theorem ty_tup {K:PySem.W.Frag}{A:CS}{G:Addr→Prop}{H:Hp}{v:V}{ds:List PyData} (h:Has G H v (.tuple ds)):IsT K A H v .tup:=by obtain ⟨l,xs,rfl,_,hl,_⟩:=h.tup_inv;exact .tup hl
noncomputable def spNN (K:PySem.W.Frag):Sp:=fun vs H Q _=>∃ (p:Addr) (k:Int),vs=[.ref p]∧Src H p k∧k≤900000∧∀ v H',NmV K H' v false→Src H' p (k + 1)→Bt p H H'→Q v H'
noncomputable def spNC (K:PySem.W.Frag) (A:CS):Sp:=fun vs H Q _=>∃ (p:Addr) (k:Int),vs=[.ref p]∧Src H p k∧k≤900000∧∀ v H',NoC K A H' v→Src H' p (k + 1)→Bt p H H'→Q v H'
section
variable {P:Program}{w:World}{K:PySem.W.Frag}{mg:Str→Option Value}{base:Heap}{CX:CXT}
theorem scNN:FnScope ["_law_source", "_law_some"] ["_law_source"] (defScope sNoName):=⟨rfl,rfl,rfl,by decide +kernel,rfl,by decide +kernel,by decide +kernel⟩
theorem scNC:FnScope ["_law_source", "_law_some"] ["_law_source"] (defScope sNoCondition):=⟨rfl,rfl,rfl,by decide +kernel,rfl,by decide +kernel,by decide +kernel⟩
theorem ok_nn {f fn:Addr}{fd fdn:FuncData}{A:CS} (hC:Calm CX) (M:CM K mg A) (F:Fun K "_law_no_name" "_law_no_name" sNoName f fd) (Dn:Def K mg "_law_next" sNext ["_law_source", "_law_many"] fn fdn) (Gn:FnOk P w K mg base CX 2 fn fdn ["_law_source", "_law_many"] spNext):FnOk P w K mg base CX 3 f fd ["_law_source"] (spNN K):=by
 refine Fun.okC F scNN (fun vs H Q E h=>?_) (fun cdv Ar outer s H vs Q E hr h=>?_)
 ·obtain ⟨p,k,rfl,_⟩:=h;rfl
 ·obtain ⟨p,k,rfl,S,hk,q⟩:=h;have nd:=scNN.nd
  refine ⟨_,zA8 (zAn (i:=1) nd rfl (Or.inl rfl) (zA9 (zA0 zBa (zA0 zBu (zA0 zA5 (zA0 zA7 (zA0 zA7 (zA0 zA7 (zA0 zA7 (zA0 zA7 (zA0 (zBt (d:=.list [.str "a"]) 9 (by kernel_rfl)) (zA0 (zBt (d:=.tuple [.str "a"]) 9 (by kernel_rfl)) (zA0 (zAf M.kal rfl M.al.g) (zA0 zCd (zA0 zA7 (zA0 zA7 zA2))))))))))))))))
     (zA3 (zAj (zAv zAc (pv 1) (zAd Gn hr rfl Dn.at_ Dn.fn.kp Dn.bind .nil (passC hC) (zA0 (pv 0) (zA0 zA5 zA2))) (fun _ _=>rfl)))),?_⟩
  intro v8 H1 s1 h8 v9 H2 s2 h9 x dx hx hdx ne;have s3:=zA6 (C:=A.al) hx hdx ne;have e3:(upd (upd H2 dx (.own x)) x (.ins A.al dx [])) x=some (.ins A.al dx []):=zA1;generalize upd (upd H2 dx (.own x)) x (.ins A.al dx [])=H3 at s3 e3 ⊢;intro pd fpd;have s4:=Same.new (o:=.dK []) fpd;have e4:(upd H3 pd (.dK [])) pd=some (.dK []):=zA1;generalize upd H3 pd (.dK [])=H4 at s4 e4 ⊢;refine ⟨Za (small1000 (n:=14) (by decide)),fun l fl=>?_⟩;have s14:=((s1.trans s2).trans s3).trans s4;have s5:=Same.new (o:=.lst [.non,.bl true,.int 7,.str "",.str "nineletts",.str "Box",.str "box1",.str "a b",v8,v9,.ref x,.ref pd,.str "a\n",.str "a."]) fl;have S5:=(S.up s14).up s5;have e5:(upd H4 l (.lst [.non,.bl true,.int 7,.str "",.str "nineletts",.str "Box",.str "box1",.str "a b",v8,v9,.ref x,.ref pd,.str "a\n",.str "a."])) l=some (.lst [.non,.bl true,.int 7,.str "",.str "nineletts",.str "Box",.str "box1",.str "a b",v8,v9,.ref x,.ref pd,.str "a\n",.str "a."]):=zA1;refine ⟨_,rfl,_,rfl,p,14,k,rfl,S5,by omega,by decide,by decide,fun r H6 r0 r1 S6 k6=>?_⟩;obtain ⟨v,hva,hvm⟩:=zCc ([.non,.bl true,.int 7,.str "",.str "nineletts",.str "Box",.str "box1",.str "a b",v8,v9,.ref x,.ref pd,.str "a\n",.str "a."]:List V) r0 r1;have bt:Bt p H6 H6:=⟨fun _ _ e _=>e,⟨_,S6⟩,_,S6⟩;have b5:Bt p H4 H6:=(Bt.same s5 (S.up s14)).trans (Bt.eq k6 S5 S6);refine ⟨l,_,r,v,rfl,rfl,SqL.of (by rw [k6 l ((S.up s14).nw fl)];exact e5),hva,q v H6 ?_ S6 ((Bt.same s14 S).trans b5)⟩;have no:∀ {t:Ty}{u:V},IsT K A H4 u t→isA .str t=false→NmV K H6 u false:=fun h e=>.inr ⟨rfl,by have z:=(h.bt b5).isV M .str;rw [e] at z;exact z⟩;simp only [Zh,Zf,or_false] at hvm;rcases hvm with rfl | rfl | rfl | rfl | rfl | rfl | rfl | rfl | rfl | rfl | rfl | rfl | rfl | rfl
  ·exact no (t:=.non) .non rfl
  ·exact no (t:=.bl) (.bl _) rfl
  ·exact no (t:=.int) (.int _) rfl
  ·exact .inl ⟨_,rfl,by decide,by decide +kernel⟩
  ·exact .inl ⟨_,rfl,by decide,by decide +kernel⟩
  ·exact .inl ⟨_,rfl,by decide,by decide +kernel⟩
  ·exact .inl ⟨_,rfl,by decide,by decide +kernel⟩
  ·exact .inl ⟨_,rfl,by decide,by decide +kernel⟩
  ·exact no (t:=.lst) (ty_lst (h8.mono ((s2.trans s3).trans s4))) rfl
  ·exact no (t:=.tup) (ty_tup (h9.mono (s3.trans s4))) rfl
  ·exact no (t:=.al) (M.al.ty (s4 _ _ e3)) rfl
  ·exact no (t:=.dic) (.dK e4) rfl
  ·exact .inl ⟨_,rfl,by decide,by decide +kernel⟩
  ·exact .inl ⟨_,rfl,by decide,by decide +kernel⟩
theorem ok_nc {f fn:Addr}{fd fdn:FuncData}{A:CS} (hC:Calm CX) (M:CM K mg A) (F:Fun K "_law_no_condition" "_law_no_condition" sNoCondition f fd) (Dn:Def K mg "_law_next" sNext ["_law_source", "_law_many"] fn fdn) (Gn:FnOk P w K mg base CX 2 fn fdn ["_law_source", "_law_many"] spNext):FnOk P w K mg base CX 3 f fd ["_law_source"] (spNC K A):=by
 refine Fun.okC F scNC (fun vs H Q E h=>?_) (fun cdv Ar outer s H vs Q E hr h=>?_)
 ·obtain ⟨p,k,rfl,_⟩:=h;rfl
 ·obtain ⟨p,k,rfl,S,hk,q⟩:=h;have nd:=scNC.nd
  refine ⟨_,zA8 (zAn (i:=1) nd rfl (Or.inl rfl) (zA9 (zA0 zBa (zA0 zBu (zA0 zA7 (zA0 (zA9 (zA0 (zAf M.kal rfl M.al.g) zA2)) (zA0 (zBt (d:=.tuple [.str "always"]) 9 (by kernel_rfl)) (zA0 (zAf M.ktt rfl M.tt.g) (zA0 zA5 (zA0 zCd zA2))))))))))
     (zA3 (zAj (zAv zAc (pv 1) (zAd Gn hr rfl Dn.at_ Dn.fn.kp Dn.bind .nil (passC hC) (zA0 (pv 0) (zA0 zA5 zA2))) (fun _ _=>rfl)))),?_⟩
  intro x1 d1 hx1 hd1 ne1;have s1:=zA6 (C:=A.al) hx1 hd1 ne1;generalize upd (upd H d1 (.own x1)) x1 (.ins A.al d1 [])=H1 at s1 ⊢;refine ⟨Za (small1000 (n:=1) (by decide)),fun l2 fl2=>?_⟩;have s2:=Same.new (o:=.lst [.ref x1]) fl2;have e2:(upd H1 l2 (.lst [.ref x1])) l2=some (.lst [.ref x1]):=zA1;generalize upd H1 l2 (.lst [.ref x1])=H2 at s2 e2 ⊢;intro v9 H2' s2' h9 x dx hx hdx ne;have s3:=zA6 (C:=A.tt) hx hdx ne;have e3:(upd (upd H2' dx (.own x)) x (.ins A.tt dx [])) x=some (.ins A.tt dx []):=zA1;generalize upd (upd H2' dx (.own x)) x (.ins A.tt dx [])=H3 at s3 e3 ⊢;intro pd fpd;have s4:=Same.new (o:=.dK []) fpd;have e4:(upd H3 pd (.dK [])) pd=some (.dK []):=zA1;generalize upd H3 pd (.dK [])=H4 at s4 e4 ⊢;refine ⟨Za (small1000 (n:=8) (by decide)),fun l fl=>?_⟩;have s14:=(((s1.trans s2).trans s2').trans s3).trans s4;have s5:=Same.new (o:=.lst [.non,.bl true,.str "always",.ref l2,v9,.ref x,.int 0,.ref pd]) fl;have S5:=(S.up s14).up s5;have e5:(upd H4 l (.lst [.non,.bl true,.str "always",.ref l2,v9,.ref x,.int 0,.ref pd])) l=some (.lst [.non,.bl true,.str "always",.ref l2,v9,.ref x,.int 0,.ref pd]):=zA1;refine ⟨_,rfl,_,rfl,p,8,k,rfl,S5,by omega,by decide,by decide,fun r H6 r0 r1 S6 k6=>?_⟩;obtain ⟨v,hva,hvm⟩:=zCc ([.non,.bl true,.str "always",.ref l2,v9,.ref x,.int 0,.ref pd]:List V) r0 r1;have b5:Bt p H4 H6:=(Bt.same s5 (S.up s14)).trans (Bt.eq k6 S5 S6);refine ⟨l,_,r,v,rfl,rfl,SqL.of (by rw [k6 l ((S.up s14).nw fl)];exact e5),hva,q v H6 (NoC.bt ?_ b5) S6 ((Bt.same s14 S).trans b5)⟩;simp only [Zh,Zf,or_false] at hvm;rcases hvm with rfl | rfl | rfl | rfl | rfl | rfl | rfl | rfl
  ·exact ⟨.non,.non,rfl,rfl⟩
  ·exact ⟨.bl,.bl _,rfl,rfl⟩
  ·exact ⟨.str,.str _,rfl,rfl⟩
  ·exact ⟨.lst,.lst (((s2'.trans s3).trans s4) _ _ e2),rfl,rfl⟩
  ·exact ⟨.tup,ty_tup (h9.mono (s3.trans s4)),rfl,rfl⟩
  ·exact ⟨.tt,M.tt.ty (s4 _ _ e3),rfl,rfl⟩
  ·exact ⟨.int,.int _,rfl,rfl⟩
  ·exact ⟨.dic,.dK e4,rfl,rfl⟩
end
end L2.W
namespace L2.W
open PySem My
theorem pick2 {x y:V}{b:Bool}:atI [x,y] (if b then 1 else 0)=some (if b then y else x):=by cases b <;> rfl
theorem bitI {r:Int} (h0:0≤r) (h1:r < 2):∃ b:Bool,r=if b then 1 else 0:=by
 rcases (by omega:r=0∨r=1) with rfl | rfl
 ·exact ⟨false,rfl⟩
 ·exact ⟨true,rfl⟩
theorem nmT {K:PySem.W.Frag}{H:Hp}{x:Str} (h:(decide (x.length≤1000) && nameB x)=true):NmV K H (.str x) true:=by
 rw [Zk] at h;exact .inl ⟨x,rfl,of_decide_eq_true h.1,h.2⟩
theorem isF {K:PySem.W.Frag}{mg:Str→Option Value}{A:CS} (M:CM K mg A) {H:Hp}{v:V}{t:Ty} (c:Cl) (b:Bool) (h:IsT K A H v t) (e:isA c t=b):IsV K (A.cl c) H v b:=by
 have z:=h.isV M c;rw [e] at z;exact z
theorem NoC.cc {K:PySem.W.Frag}{mg:Str→Option Value}{A:CS} (M:CM K mg A) {H:Hp}{v:V} (h:NoC K A H v):IsV K (.ref A.cc) H v false:=let ⟨_,ty,k,_⟩:=h;isF M .cc false ty k
theorem NoC.ru {K:PySem.W.Frag}{mg:Str→Option Value}{A:CS} (M:CM K mg A) {H:Hp}{v:V} (h:NoC K A H v):IsV K (.ref A.ru) H v false:=let ⟨_,ty,_,k⟩:=h;isF M .ru false ty k
theorem NoC.same {K:PySem.W.Frag}{A:CS}{H H':Hp}{v:V} (h:NoC K A H v) (s:Same H H'):NoC K A H' v:=let ⟨t,ty,k⟩:=h;⟨t,TyOf.same ty s,k⟩
theorem unl_no {K:PySem.W.Frag}{H:Hp}{xs:List V}{bs:List Bool} (le:xs.length≤10) (p:Paired (NmV K H) xs bs) (e:bs.all id=false):UnlV K H xs false:=⟨le,bs,p,.inl ⟨e,rfl⟩⟩
theorem zBs {K:PySem.W.Frag}{H:Hp}{ks:List Str} (h:(decide (ks.length≤10) && ks.all fun x=>decide (x.length≤1000) && nameB x)=true):UnlV K H (ks.map V.str) (decide ks.Nodup):=by
 rw [Zk,List.all_eq_true] at h;refine ⟨by rw [Ze];exact of_decide_eq_true h.1,List.replicate ks.length true,?_,.inr ⟨by simp,ks,rfl,rfl⟩⟩;have h2:=h.2;clear h
 induction ks with
 | nil=>exact .nil
 | cons x r ih=>exact .cons (nmT (h2 x Zj)) (ih fun y hy=>h2 y (Z9 _ hy))
theorem ty_upd {K:PySem.W.Frag}{H:Hp}{v:V}{t:Value}{l:Addr}{xs ys:List V} (e:H l=some (.lst xs)) (h:TyOf K H v t):TyOf K (upd H l (.lst ys)) v t:=by
 have nq:∀ {a:Addr}{o:HO},H a=some o→(∀ xs,o≠.lst xs)→upd H l (.lst ys) a=some o:=fun {a o} e' n=>by
  rw [zAa]
  ·exact e'
  ·intro z;rw [z,e] at e';cases e';exact n _ rfl
 cases h with
 | non=>exact .non
 | bl x=>exact .bl x
 | int i=>exact .int i
 | str x=>exact .str x
 | flt x=>exact .flt x
 | @lst a zs e' =>
  by_cases z:a=l
  ·rw [z];exact .lst zA1
  ·exact .lst (by rw [zAa z];exact e')
 | frz e=>exact .frz (nq e fun _ z=>nomatch z)
 | tup e=>exact .tup (nq e fun _ z=>nomatch z)
 | dK e=>exact .dK (nq e fun _ z=>nomatch z)
 | dT e=>exact .dT (nq e fun _ z=>nomatch z)
 | ins e a b c d f=>exact .ins (nq e fun _ z=>nomatch z) a b c d f
theorem IsV.upd {K:PySem.W.Frag}{c:Value}{H:Hp}{v:V}{b:Bool}{l:Addr}{xs ys:List V} (h:IsV K c H v b) (e:H l=some (.lst xs)):IsV K c (upd H l (.lst ys)) v b:=let ⟨t,ty,k⟩:=h;⟨t,ty_upd e ty,k⟩
theorem NmV.upd {K:PySem.W.Frag}{H:Hp}{v:V}{b:Bool}{l:Addr}{xs ys:List V} (h:NmV K H v b) (e:H l=some (.lst xs)):NmV K (upd H l (.lst ys)) v b:=h.imp id fun ⟨e',h⟩=>⟨e',h.upd e⟩
theorem upd_same2 {H H':Hp}{l:Addr}{o:HO} (s:Same H H'):Same (upd H l o) (upd H' l o):=fun a o' e=>by
 by_cases z:a=l
 ·rw [z,zA1] at e ⊢;exact e
 ·rw [zAa z] at e ⊢;exact s _ _ e
theorem w02 {K:PySem.W.Frag}{H Hf:Hp}{v:V}{c:Bool}{l1 l2:Addr} (o:NmV K H v false) (s:Same H Hf) (e1:Hf l1=some (.lst [v,.str "on"])) (e2:Hf l2=some (.lst [.str "f",v])):Two (NmV K Hf) (NmV K Hf) Hf (if c=true then .ref l2 else .ref l1) false:=by
 cases c with
 | false=>exact ⟨l1,v,.str "on",false,true,rfl,e1,o.same s,nmT (by decide +kernel),rfl⟩
 | true=>exact ⟨l2,.str "f",v,true,false,rfl,e2,nmT (by decide +kernel),o.same s,rfl⟩
noncomputable def spBad (K:PySem.W.Frag) (A:CS):Sp:=fun vs H Q _=>∃ (p:Addr) (k:Int) (n:Nat),vs=[.ref p,.int n]∧n≤9∧Src H p k∧k≤800000∧∀ v H',Way K A H' n v false→Src H' p (k + 6)→Q v H'
section
variable {P:Program}{w:World}{K:PySem.W.Frag}{mg:Str→Option Value}{base:Heap}
theorem scBad:FnScope ["_law_source", "_law_way", "_law_odd", "_law_none", "_law_at", "_law_some", "_law_good_here", "_law_behinds", "_law_rule"] ["_law_source", "_law_way"] (defScope sBad):=⟨rfl,rfl,rfl,by decide +kernel,rfl,by decide +kernel,by decide +kernel⟩
set_option maxHeartbeats 4000000 in
theorem ok_bad {f fn fo fc CN:Addr}{fd fdn fdo fdc dIs dMe dOw dNo dBo dEi dTm dTs dRu dHa:FuncData}{A:CS} (T:Tops K mg) (M:CM K mg A) (I:Inis P w K mg base A CN dIs dMe dOw dNo dBo dEi dTm dTs dRu dHa) (F:Fun K "_law_bad" "_law_bad" sBad f fd) (Dn:Def K mg "_law_next" sNext ["_law_source", "_law_many"] fn fdn) (Gn:FnOk P w K mg base (CXM P w) 2 fn fdn ["_law_source", "_law_many"] spNext) (Do:Def K mg "_law_no_name" sNoName ["_law_source"] fo fdo) (Dc:Def K mg "_law_no_condition" sNoCondition ["_law_source"] fc fdc):FnOk P w K mg base (CXM P w) 6 f fd ["_law_source", "_law_way"] (spBad K A):=by
 have hC:Calm (CXM P w):=calmM;have Go:FnOk P w K mg base (CXM P w) 3 fo fdo ["_law_source"] (spNN K):=ok_nn hC M Do.fn Dn Gn;have Gc:FnOk P w K mg base (CXM P w) 3 fc fdc ["_law_source"] (spNC K A):=ok_nc hC M Dc.fn Dn Gn;refine Fun.okC F scBad (fun vs H Q E h=>?_) (fun cdv Ar outer s H vs Q E hr h=>?_)
 ·obtain ⟨p,k,n,rfl,_⟩:=h;rfl
 ·obtain ⟨p,k,n,rfl,n9,S,hk,q⟩:=h;have nd:=scBad.nd;have hr2:=hr.mono (show 2≤5 by decide);have hr3:=hr.mono (show 3≤5 by decide);refine zAh (zAn (i:=2) nd rfl (Or.inl rfl) (zAd Go hr3 rfl Do.at_ Do.fn.kp Do.bind .nil (passC hC) (zA0 (pv 0) zA2))) fun S1 h1=>?_;refine zAh (zAn (i:=3) nd rfl (Or.inl rfl) (zAd Gc hr3 rfl Dc.at_ Dc.fn.kp Dc.bind .nil (passC hC) (zA0 (pv 0) zA2))) fun S2 h2=>?_;refine zAh (zAn (i:=4) nd rfl (Or.inl rfl) (zAd Gn hr2 rfl Dn.at_ Dn.fn.kp Dn.bind .nil (passC hC) (zA0 (pv 0) (zA0 zA5 zA2)))) fun S3 h3=>?_
  refine zAh (zAp (zAi op_in_seq (pv 1) (zBc (zA0 zA5 (zA0 zA5 zA2))) rfl)
     (zA3 (zAj (zAv zAc (zA9 (zA0 (zA9 (zA0 (pv 2) (zA0 zA7 zA2))) (zA0 (zA9 (zA0 zA7 (zA0 (pv 2) zA2))) zA2))) (pv 4) (fun _ _=>rfl)))) zAe) fun S4 h4=>?_
  refine zAh (zAp (zAi zBk (pv 1) zA5 (nomark _))
     (zA3 (zAj (zA9 (zA0 (pv 2) zA2)))) zAe) fun S5 h5=>?_
  refine zAh (zAp (zAi zBk (pv 1) zA5 (nomark _))
     (zA3 (zAj (zAv zAc (zA9 (zA0 (zA9 (zA0 (pv 2) zA2)) (zA0 (zA9 (zA0 zA7 (zA0 (pv 2) zA2))) (zA0 (zA9 (zA0 zA7 (zA0 zA7 (zA0 zA7 zA2)))) (zA0 (zBc (zA0 zA7 zA2)) (zA0 zA7 (zA0 zBa (zA0 (pe_disp (zCw zA7 zA5 pps_nil) rfl rfl (fun h=>nomatch h) (by decide)) zA2)))))))) (zAd Gn hr2 rfl Dn.at_ Dn.fn.kp Dn.bind .nil (passC hC) (zA0 (pv 0) (zA0 zA5 zA2))) (fun _ _=>rfl)))) zAe) fun S6 h6=>?_
  refine zAh (zAp (zAi zBk (pv 1) zA5 (nomark _))
     (zA3 (zAj (zAv zAc (zA9 (zA0 (zA9 (zA0 (pv 2) (zA0 zBa zA2))) (zA0 (zA9 (zA0 zA7 (zA0 (zAv zAc (zA9 (zA0 (pv 2) (zA0 zA5 zA2))) (zB4 call_int1 rfl T.int PyProof.Rows.boot_int (zA0 (zB7 op_isN (pv 2) zBa (nomark _)) zA2)) (fun _ _=>rfl)) zA2))) zA2))) (pv 4) (fun _ _=>rfl)))) zAe) fun S7 h7=>?_
  refine zAh (zAp (zAi zBk (pv 1) zA5 (nomark _))
     (zA3 (zAj (zA9 (zA0 (pv 3) zA2)))) zAe) fun S8 h8=>?_
  refine zAh (zAp (zAi op_in_seq (pv 1) (zBc (zA0 zA5 (zA0 zA5 zA2))) rfl)
     (zA8 (zAn (i:=5) nd rfl (Or.inl rfl) (zA9 (zA0 (zA9 zA2) (zA0 (zA9 (zA0 (zAf M.kal rfl M.al.g) zA2)) (zA0 (zA9 (zA0 (zAf M.kal rfl M.al.g) (zA0 (pv 3) zA2))) (zA0 (zA9 (zA0 (pv 3) (zA0 (zAf M.kwa rfl M.wa.g) zA2))) (zA0 (zBc (zA0 (zAf M.kal rfl M.al.g) (zA0 (zAf M.kwa rfl M.wa.g) zA2))) (zA0 zBa (zA0 (zAf M.kal rfl M.al.g) zA2)))))))))
     (zA3 (zAj (zAv zAc (pv 5) (zAd Gn hr2 rfl Dn.at_ Dn.fn.kp Dn.bind .nil (passC hC) (zA0 (pv 0) (zA0 zA5 zA2))) (fun _ _=>rfl))))) zAe) fun S9 h9=>?_
  refine zAh (zAp (zAi zBk (pv 1) zA5 (nomark _))
     (zA8 (zAn (i:=6) nd rfl (Or.inl rfl) (zA9 (zA0 zA7 (zA0 (zAf M.ktt rfl M.tt.g) (zA0 (zAf M.kal rfl M.al.g) (zA0 (zA9 (zA0 zA7 zA2)) zA2))))))
     (zA8 (zAn (i:=4) nd rfl (Or.inl rfl) (zAd Gn hr2 rfl Dn.at_ Dn.fn.kp Dn.bind .nil (passC hC) (zA0 (pv 0) (zA0 zA5 zA2))))
     (zA8 (zAn (i:=7) nd rfl (Or.inl rfl) (zA9 (zA0 (zA9 (zA0 zA7 (zA0 zA7 zA2))) (zA0 (zA9 (zA0 zA7 zA2)) (zA0 (zA9 (zA0 (pv 2) zA2)) (zA0 (zBc (zA0 zA7 zA2)) (zA0 zBa (zA0 zA7 (zA0 (zA9 (zA0 (zA9 (zA0 zA7 zA2)) zA2)) zA2)))))))))
     (zA8 (ps_asg (zAv zAc (zA9 (zA0 (pv 2) (zA0 (zAv zAc (zA9 (zA0 zBa (zA0 (zAf M.kal rfl M.al.g) (zA0 zA7 (zA0 zBu zA2))))) (zAd Gn hr2 rfl Dn.at_ Dn.fn.kp Dn.bind .nil (passC hC) (zA0 (pv 0) (zA0 zA5 zA2))) (fun _ _=>rfl)) (zA0 (pv 3) (zA0 (zAv zAc (pv 7) (zAd Gn hr2 rfl Dn.at_ Dn.fn.kp Dn.bind .nil (passC hC) (zA0 (pv 0) (zA0 zA5 zA2))) (fun _ _=>rfl)) zA2))))) (pv 4) (fun _ _=>rfl)) (pg_sub (pv 6) (pv 4) zCt))
     (zA3 (zAj (pv 6))))))) zAe) fun S10 h10=>?_
  refine zAh (zAn (i:=8) nd rfl (Or.inl rfl) (zAx M.kru I.ru hr rfl M.ru.g I.bRu .nil (passC hC) (zA0 zA7 (zA0 (zAf M.ktt rfl M.tt.g) (zA0 (zAf M.kal rfl M.al.g) (zA0 (zA9 zA2) zA2)))))) fun S11 h11=>?_;refine bd_one (zAj (zAv zAc (zA9 (zA0 (zA9 (zA0 (pv 2) (zA0 (zA9 (zA0 (pv 8) zA2)) zA2))) (zA0 (zA9 (zA0 zA7 (zA0 (zAv zAc (zA9 (zA0 (zA9 (zA0 (pv 3) zA2)) (zA0 (zA9 (zA0 (pv 8) (zA0 (pv 3) zA2))) (zA0 (zBc (zA0 (pv 8) zA2)) (zA0 zBa (zA0 (pv 8) zA2)))))) (zAd Gn hr2 rfl Dn.at_ Dn.fn.kp Dn.bind .nil (passC hC) (zA0 (pv 0) (zA0 zA5 zA2))) (fun _ _=>rfl)) zA2))) zA2))) (pv 4) (fun _ _=>rfl))) fun S12 h12=>?_;have sm:∀ (n:Nat),n≤1000→n≤sizeLine:=fun n h=>Za (small1000 h);refine h1 _ _ _ ⟨_,rfl,p,k,rfl,S,by omega,fun v2 H1 o1 S1 b1=>h2 _ _ _ ⟨_,rfl,p,_,rfl,S1,by omega,fun v3 H2 o2 S2 b2=>h3 _ _ _ ⟨_,rfl,p,2,_,rfl,S2,by omega,by decide,by decide,fun r3 H3 r30 r31 S3 k3=>?_⟩⟩⟩;have b3:=Bt.eq k3 S2 S3;replace o1:=(o1.bt b2).bt b3;replace o2:=o2.bt b3;obtain ⟨c4,rfl⟩:=bitI r30 r31;clear b1 b2 b3 S1 S2 k3 S;refine h4 _ _ _ ⟨_,rfl,sm 2 (by decide),fun t4 f4=>⟨t4,_,rfl,.inr (SqT.of zA1),rfl,rfl,_,rfl,?_⟩⟩;have s4:=Same.new (o:=.tup [.int 0,.int 2]) f4;generalize upd H3 t4 (.tup [.int 0,.int 2])=H4 at s4 ⊢;replace o1:=o1.same s4;have n10:n=0∨n=1∨n=2∨n=3∨n=4∨n=5∨n=6∨n=7∨n=8∨n=9:=by omega
  replace o2:=o2.same s4;have S4:=S3.up s4;clear S3 s4 f4;rcases n10 with rfl | rfl | rfl | rfl | rfl | rfl | rfl | rfl | rfl | rfl
  ·exact iteT ⟨_,rfl,sm 2 (by decide),fun l1 f1=>⟨_,rfl,sm 2 (by decide),fun l2 f2=>⟨sm 2 (by decide),fun l3 f3=>⟨_,rfl,l3,_,_,_,rfl,rfl,SqL.of zA1,pick2,q _ _ (w02 o1 ((Same.new f1).trans ((Same.new f2).trans (Same.new f3))) (((Same.new f2).trans (Same.new f3)) _ _ zA1) ((Same.new f3) _ _ zA1)) ((S4.up ((Same.new f1).trans ((Same.new f2).trans (Same.new f3)))).mono (by omega))⟩⟩⟩⟩
  ·exact iteF (h5 _ _ _ ⟨_,rfl,rfl,_,rfl,wayT rfl ⟨_,rfl,sm 1 (by decide),fun l1 f1=>q _ _ ⟨l1,v2,rfl,zA1,o1.same (Same.new f1)⟩ ((S4.up (Same.new f1)).mono (by omega))⟩⟩)
  ·exact iteT ⟨_,rfl,sm 2 (by decide),fun l1 f1=>⟨_,rfl,sm 2 (by decide),fun l2 f2=>⟨sm 2 (by decide),fun l3 f3=>⟨_,rfl,l3,_,_,_,rfl,rfl,SqL.of zA1,pick2,q _ _ (w02 o1 ((Same.new f1).trans ((Same.new f2).trans (Same.new f3))) (((Same.new f2).trans (Same.new f3)) _ _ zA1) ((Same.new f3) _ _ zA1)) ((S4.up ((Same.new f1).trans ((Same.new f2).trans (Same.new f3)))).mono (by omega))⟩⟩⟩⟩
  ·refine iteF (h5 _ _ _ ⟨_,rfl,rfl,_,rfl,wayF (by decide) (h6 _ _ _ ⟨_,rfl,rfl,_,rfl,wayT rfl ?_⟩)⟩);refine ⟨_,rfl,sm 1 (by decide),fun l1 f1=>⟨_,rfl,sm 2 (by decide),fun l2 f2=>⟨sm 3 (by decide),fun l3 f3=>⟨sm 1 (by decide),fun t4 f4=>?_⟩⟩⟩⟩;have a1:=Same.new (o:=.lst [v2]) f1;have a2:=Same.new (o:=.lst [.str "f",v2]) f2;have a3:=Same.new (o:=.lst [.str "f",.str "g",.str "f"]) f3;have a4:=Same.new (o:=.tup [.str "f"]) f4;have e1:=(a2.trans (a3.trans a4)) _ _ zA1;have e2:=(a3.trans a4) _ _ zA1;have e3:=a4 _ _ zA1;have e4:(upd (upd (upd (upd H4 l1 (.lst [v2])) l2 (.lst [.str "f",v2])) l3 (.lst [.str "f",.str "g",.str "f"])) t4 (.tup [.str "f"])) t4=some (.tup [.str "f"]):=zA1;have n1:=S4.nw f1;have n2:=S4.nw (a1.free f2);have n3:=S4.nw ((a1.trans a2).free f3);have a14:=a1.trans (a2.trans (a3.trans a4));generalize upd (upd (upd (upd H4 l1 (.lst [v2])) l2 (.lst [.str "f",v2])) l3 (.lst [.str "f",.str "g",.str "f"])) t4 (.tup [.str "f"])=H5 at a14 e1 e2 e3 e4 ⊢;clear a1 a2 a3 a4 f1 f2 f3 f4;intro pd fd;refine ⟨zA1,[(.inr "f",.int 1)],rfl,by decide,?_⟩;rw [upd_upd];have a5:=Same.new (o:=.dK (mergeK [] [(.inr "f",.int 1)])) fd;have e5:(upd H5 pd (.dK (mergeK [] [(.inr "f",.int 1)]))) pd=some (.dK (mergeK [] [(.inr "f",.int 1)])):=zA1;generalize upd H5 pd (.dK (mergeK [] [(.inr "f",.int 1)]))=H6 at a5 e5 ⊢;refine ⟨sm 7 (by decide),fun l7 f7=>?_⟩;have a7:=Same.new (o:=.lst [.ref l1,.ref l2,.ref l3,.ref t4,.str "f",.non,.ref pd]) f7;have e7:(upd H6 l7 (.lst [.ref l1,.ref l2,.ref l3,.ref t4,.str "f",.non,.ref pd])) l7=some (.lst [.ref l1,.ref l2,.ref l3,.ref t4,.str "f",.non,.ref pd]):=zA1;generalize upd H6 l7 (.lst [.ref l1,.ref l2,.ref l3,.ref t4,.str "f",.non,.ref pd])=H7 at a7 e7 ⊢;have a57:=a5.trans a7;have S7:=S4.up (a14.trans a57);refine ⟨_,rfl,p,7,_,rfl,S7,by omega,by decide,by decide,fun r H8 r0 r1 S8 k8=>?_⟩;obtain ⟨v,hva,hvm⟩:=zCc ([.ref l1,.ref l2,.ref l3,.ref t4,.str "f",.non,.ref pd]:List V) r0 r1;have n7:l7≠p:=S4.nw ((a14.trans a5).free f7);have b8:=Bt.eq k8 S7 S8;refine ⟨l7,_,r,v,rfl,rfl,SqL.of (by rw [k8 l7 n7];exact e7),hva,q v H8 ?_ (S8.mono (by omega))⟩;have o8:=(o1.same (a14.trans a57)).bt b8;have nl:∀ {t:Ty}{u:V},IsT K A H7 u t→isA .lst t=false→LstV K (UnlV K) H8 u false:=fun h e=>.inl ⟨rfl,isF M .lst false (h.bt b8) e⟩;simp only [Zh,Zf,or_false] at hvm;rcases hvm with rfl | rfl | rfl | rfl | rfl | rfl | rfl
   ·exact .inr ⟨l1,_,rfl,by rw [k8 l1 n1];exact a57 _ _ e1,unl_no (by show 1≤10;decide) (.cons o8 .nil) rfl⟩
   ·exact .inr ⟨l2,_,rfl,by rw [k8 l2 n2];exact a57 _ _ e2,unl_no (by show 2≤10;decide) (.cons (nmT (by decide +kernel)) (.cons o8 .nil)) rfl⟩
   ·have z:=zBs (K:=K) (H:=H8) (ks:=["f", "g", "f"]) (by decide +kernel);rw [show decide ((["f", "g", "f"]:List Str).Nodup)=false by decide +kernel] at z;exact .inr ⟨l3,_,rfl,by rw [k8 l3 n3];exact a57 _ _ e3,z⟩
   ·exact nl (t:=.tup) (.tup (a57 _ _ e4)) rfl
   ·exact nl (t:=.str) (.str _) rfl
   ·exact nl (t:=.non) .non rfl
   ·exact nl (t:=.dic) (.dK (a7 _ _ e5)) rfl
  ·refine iteF (h5 _ _ _ ⟨_,rfl,rfl,_,rfl,wayF (by decide) (h6 _ _ _ ⟨_,rfl,rfl,_,rfl,wayF (by decide) (h7 _ _ _ ⟨_,rfl,rfl,_,rfl,wayT rfl ?_⟩)⟩)⟩);have ox:(if decide (v2=V.non)=true then V.int 0 else v2)≠.non∧NmV K H4 (if decide (v2=V.non)=true then V.int 0 else v2) false:=by
    by_cases z:v2=.non
    ·rw [decide_eq_true z,if_pos rfl];exact ⟨(fun z=>nomatch z),.inr ⟨rfl,isF M .str false (t:=.int) (.int _) rfl⟩⟩
    ·rw [decide_eq_false z,if_neg (by decide)];exact ⟨z,o1⟩
   refine ⟨_,rfl,sm 2 (by decide),fun l1 f1=>⟨_,rfl,sm 2 (by decide),fun l2 f2=>⟨_,rfl,rfl,.inr ⟨_,rfl,l2,_,_,_,rfl,rfl,SqL.of zA1,pick2,sm 2 (by decide),fun l3 f3=>⟨sm 2 (by decide),fun l4 f4=>⟨_,rfl,l4,_,_,_,rfl,rfl,SqL.of zA1,pick2,q _ _ ?_ ((S4.up ((Same.new f1).trans ((Same.new f2).trans ((Same.new f3).trans (Same.new f4))))).mono (by omega))⟩⟩⟩⟩⟩⟩;cases c4 with
   | false=>exact ⟨l1,v2,.non,false,true,rfl,((Same.new f2).trans ((Same.new f3).trans (Same.new f4))) _ _ zA1,o1.same ((Same.new f1).trans ((Same.new f2).trans ((Same.new f3).trans (Same.new f4)))),.inl ⟨rfl,rfl⟩,rfl⟩
   | true =>
    refine ⟨l3,.str "f",_,true,false,rfl,(Same.new f4) _ _ zA1,nmT (by decide +kernel),.inr ?_,rfl⟩;exact ⟨ox.1,ox.2.same ((Same.new f1).trans ((Same.new f2).trans ((Same.new f3).trans (Same.new f4))))⟩
  ·exact iteF (h5 _ _ _ ⟨_,rfl,rfl,_,rfl,wayF (by decide) (h6 _ _ _ ⟨_,rfl,rfl,_,rfl,wayF (by decide) (h7 _ _ _ ⟨_,rfl,rfl,_,rfl,wayF (by decide) (h8 _ _ _ ⟨_,rfl,rfl,_,rfl,wayT rfl ⟨_,rfl,sm 1 (by decide),fun l1 f1=>q _ _ ⟨l1,v3,rfl,zA1,(o2.same (Same.new f1)).cc M⟩ ((S4.up (Same.new f1)).mono (by omega))⟩⟩)⟩)⟩)⟩)
  ·refine iteF (h5 _ _ _ ⟨_,rfl,rfl,_,rfl,wayF (by decide) (h6 _ _ _ ⟨_,rfl,rfl,_,rfl,wayF (by decide) (h7 _ _ _ ⟨_,rfl,rfl,_,rfl,wayF (by decide) (h8 _ _ _ ⟨_,rfl,rfl,_,rfl,wayF (by decide) ?_⟩)⟩)⟩)⟩);refine h9 _ _ _ ⟨_,rfl,sm 2 (by decide),fun t0 f0=>⟨t0,_,rfl,.inr (SqT.of zA1),rfl,rfl,_,rfl,?_⟩⟩;have a0:=Same.new (o:=.tup [.int 6,.int 7]) f0;generalize upd H4 t0 (.tup [.int 6,.int 7])=G0 at a0 ⊢;refine iteT ?_;refine ⟨sm 0 (by decide),fun l1 f1=>?_⟩;have a1:=Same.new (o:=.lst []) f1;have e1:(upd G0 l1 (.lst [])) l1=some (.lst []):=zA1;generalize upd G0 l1 (.lst [])=G1 at a1 e1 ⊢;intro x2 d2 hx2 hd2 ne2;have a2:=zA6 (C:=A.al) hx2 hd2 ne2;have e2:(upd (upd G1 d2 (.own x2)) x2 (.ins A.al d2 [])) x2=some (.ins A.al d2 []):=zA1;generalize upd (upd G1 d2 (.own x2)) x2 (.ins A.al d2 [])=G2 at a2 e2 ⊢;refine ⟨sm 1 (by decide),fun l3 f3=>?_⟩;have a3:=Same.new (o:=.lst [.ref x2]) f3;have e3:(upd G2 l3 (.lst [.ref x2])) l3=some (.lst [.ref x2]):=zA1;generalize upd G2 l3 (.lst [.ref x2])=G3 at a3 e3 ⊢;intro x4 d4 hx4 hd4 ne4;have a4:=zA6 (C:=A.al) hx4 hd4 ne4;have e4:(upd (upd G3 d4 (.own x4)) x4 (.ins A.al d4 [])) x4=some (.ins A.al d4 []):=zA1;generalize upd (upd G3 d4 (.own x4)) x4 (.ins A.al d4 [])=G4 at a4 e4 ⊢;refine ⟨_,rfl,sm 2 (by decide),fun l5 f5=>?_⟩;have a5:=Same.new (o:=.lst [.ref x4,v3]) f5;have e5:(upd G4 l5 (.lst [.ref x4,v3])) l5=some (.lst [.ref x4,v3]):=zA1;generalize upd G4 l5 (.lst [.ref x4,v3])=G5 at a5 e5 ⊢;refine ⟨_,rfl,?_⟩;intro x6 d6 hx6 hd6 ne6;have a6:=zA6 (C:=A.wa) hx6 hd6 ne6;have e6:(upd (upd G5 d6 (.own x6)) x6 (.ins A.wa d6 [])) x6=some (.ins A.wa d6 []):=zA1;generalize upd (upd G5 d6 (.own x6)) x6 (.ins A.wa d6 [])=G6 at a6 e6 ⊢;refine ⟨sm 2 (by decide),fun l7 f7=>?_⟩;have a7:=Same.new (o:=.lst [v3,.ref x6]) f7;have e7:(upd G6 l7 (.lst [v3,.ref x6])) l7=some (.lst [v3,.ref x6]):=zA1;generalize upd G6 l7 (.lst [v3,.ref x6])=G7 at a7 e7 ⊢;intro x8 d8 hx8 hd8 ne8;have a8:=zA6 (C:=A.al) hx8 hd8 ne8;have e8:(upd (upd G7 d8 (.own x8)) x8 (.ins A.al d8 [])) x8=some (.ins A.al d8 []):=zA1;generalize upd (upd G7 d8 (.own x8)) x8 (.ins A.al d8 [])=G8 at a8 e8 ⊢;intro x9 d9 hx9 hd9 ne9;have a9:=zA6 (C:=A.wa) hx9 hd9 ne9;have e9:(upd (upd G8 d9 (.own x9)) x9 (.ins A.wa d9 [])) x9=some (.ins A.wa d9 []):=zA1;generalize upd (upd G8 d9 (.own x9)) x9 (.ins A.wa d9 [])=G9 at a9 e9 ⊢;refine ⟨sm 2 (by decide),fun t10 f10=>?_⟩;have a10:=Same.new (o:=.tup [.ref x8,.ref x9]) f10;have e10:(upd G9 t10 (.tup [.ref x8,.ref x9])) t10=some (.tup [.ref x8,.ref x9]):=zA1;generalize upd G9 t10 (.tup [.ref x8,.ref x9])=GA at a10 e10 ⊢;intro x11 d11 hx11 hd11 ne11;have a11:=zA6 (C:=A.al) hx11 hd11 ne11;have e11:(upd (upd GA d11 (.own x11)) x11 (.ins A.al d11 [])) x11=some (.ins A.al d11 []):=zA1;generalize upd (upd GA d11 (.own x11)) x11 (.ins A.al d11 [])=GB at a11 e11 ⊢;refine ⟨sm 7 (by decide),fun l12 f12=>?_⟩;have a12:=Same.new (o:=.lst [.ref l1,.ref l3,.ref l5,.ref l7,.ref t10,.non,.ref x11]) f12;have e12:(upd GB l12 (.lst [.ref l1,.ref l3,.ref l5,.ref l7,.ref t10,.non,.ref x11])) l12=some (.lst [.ref l1,.ref l3,.ref l5,.ref l7,.ref t10,.non,.ref x11]):=zA1;generalize upd GB l12 (.lst [.ref l1,.ref l3,.ref l5,.ref l7,.ref t10,.non,.ref x11])=GC at a12 e12 ⊢;have r11:=a12;have r10:=a11.trans r11;have r9:=a10.trans r10;have r8:=a9.trans r9;have r7:=a8.trans r8;have r6:=a7.trans r7;have r5:=a6.trans r6;have r4:=a5.trans r5;have r3:=a4.trans r4;have r2:=a3.trans r3;have r1:=a2.trans r2;have r0:=a1.trans r1;have rr:=a0.trans r0;have SC:=S4.up rr;have n1:=S4.nw (a0.free f1);have n3:=S4.nw ((a0.trans (a1.trans a2)).free f3);have n5:=S4.nw ((a0.trans (a1.trans (a2.trans (a3.trans a4)))).free f5);have n7:=S4.nw ((a0.trans (a1.trans (a2.trans (a3.trans (a4.trans (a5.trans a6)))))).free f7);have n12:=S4.nw ((a0.trans (a1.trans (a2.trans (a3.trans (a4.trans (a5.trans (a6.trans (a7.trans (a8.trans (a9.trans (a10.trans a11))))))))))).free f12);refine ⟨_,rfl,_,rfl,p,7,_,rfl,SC,by omega,by decide,by decide,fun r GD q0 q1 SD kD=>?_⟩;obtain ⟨v,hva,hvm⟩:=zCc ([.ref l1,.ref l3,.ref l5,.ref l7,.ref t10,.non,.ref x11]:List V) q0 q1;have bD:=Bt.eq kD SC SD;refine ⟨l12,_,r,v,rfl,rfl,SqL.of (by rw [kD l12 n12];exact e12),hva,q v GD ?_ (SD.mono (by omega))⟩;have oD:=(o2.same rr).bt bD;have nl:∀ {t:Ty}{u:V},IsT K A GC u t→isA .lst t=false→CndsV K A GD u false:=fun h e=>.inl ⟨rfl,isF M .lst false (h.bt bD) e⟩;have yes:∀ {t:Ty}{u:V},IsT K A GC u t→isA .cc t=true→IsV K (.ref A.cc) GD u true:=fun h e=>isF M .cc true (h.bt bD) e;simp only [Zh,Zf,or_false] at hvm;rcases hvm with rfl | rfl | rfl | rfl | rfl | rfl | rfl
   ·exact .inr ⟨l1,_,rfl,by rw [kD l1 n1];exact r1 _ _ e1,by decide,[],.nil,rfl⟩
   ·exact .inr ⟨l3,_,rfl,by rw [kD l3 n3];exact r3 _ _ e3,by show 1≤10;decide,[true],.cons (yes (t:=.al) (M.al.ty (r2 _ _ e2)) rfl) .nil,rfl⟩
   ·exact .inr ⟨l5,_,rfl,by rw [kD l5 n5];exact r5 _ _ e5,by show 2≤10;decide,[true,false],.cons (yes (t:=.al) (M.al.ty (r4 _ _ e4)) rfl) (.cons (oD.cc M) .nil),rfl⟩
   ·exact .inr ⟨l7,_,rfl,by rw [kD l7 n7];exact r7 _ _ e7,by show 2≤10;decide,[false,true],.cons (oD.cc M) (.cons (yes (t:=.wa) (M.wa.ty (r6 _ _ e6)) rfl) .nil),rfl⟩
   ·exact nl (t:=.tup) (.tup (r10 _ _ e10)) rfl
   ·exact nl (t:=.non) .non rfl
   ·exact nl (t:=.al) (M.al.ty (r11 _ _ e11)) rfl
  ·refine iteF (h5 _ _ _ ⟨_,rfl,rfl,_,rfl,wayF (by decide) (h6 _ _ _ ⟨_,rfl,rfl,_,rfl,wayF (by decide) (h7 _ _ _ ⟨_,rfl,rfl,_,rfl,wayF (by decide) (h8 _ _ _ ⟨_,rfl,rfl,_,rfl,wayF (by decide) ?_⟩)⟩)⟩)⟩);refine h9 _ _ _ ⟨_,rfl,sm 2 (by decide),fun t0 f0=>⟨t0,_,rfl,.inr (SqT.of zA1),rfl,rfl,_,rfl,?_⟩⟩;have a0:=Same.new (o:=.tup [.int 6,.int 7]) f0;generalize upd H4 t0 (.tup [.int 6,.int 7])=G0 at a0 ⊢;refine iteT ?_;refine ⟨sm 0 (by decide),fun l1 f1=>?_⟩;have a1:=Same.new (o:=.lst []) f1;have e1:(upd G0 l1 (.lst [])) l1=some (.lst []):=zA1;generalize upd G0 l1 (.lst [])=G1 at a1 e1 ⊢;intro x2 d2 hx2 hd2 ne2;have a2:=zA6 (C:=A.al) hx2 hd2 ne2;have e2:(upd (upd G1 d2 (.own x2)) x2 (.ins A.al d2 [])) x2=some (.ins A.al d2 []):=zA1;generalize upd (upd G1 d2 (.own x2)) x2 (.ins A.al d2 [])=G2 at a2 e2 ⊢;refine ⟨sm 1 (by decide),fun l3 f3=>?_⟩;have a3:=Same.new (o:=.lst [.ref x2]) f3;have e3:(upd G2 l3 (.lst [.ref x2])) l3=some (.lst [.ref x2]):=zA1;generalize upd G2 l3 (.lst [.ref x2])=G3 at a3 e3 ⊢;intro x4 d4 hx4 hd4 ne4;have a4:=zA6 (C:=A.al) hx4 hd4 ne4;have e4:(upd (upd G3 d4 (.own x4)) x4 (.ins A.al d4 [])) x4=some (.ins A.al d4 []):=zA1;generalize upd (upd G3 d4 (.own x4)) x4 (.ins A.al d4 [])=G4 at a4 e4 ⊢;refine ⟨_,rfl,sm 2 (by decide),fun l5 f5=>?_⟩;have a5:=Same.new (o:=.lst [.ref x4,v3]) f5;have e5:(upd G4 l5 (.lst [.ref x4,v3])) l5=some (.lst [.ref x4,v3]):=zA1;generalize upd G4 l5 (.lst [.ref x4,v3])=G5 at a5 e5 ⊢;refine ⟨_,rfl,?_⟩;intro x6 d6 hx6 hd6 ne6;have a6:=zA6 (C:=A.wa) hx6 hd6 ne6;have e6:(upd (upd G5 d6 (.own x6)) x6 (.ins A.wa d6 [])) x6=some (.ins A.wa d6 []):=zA1;generalize upd (upd G5 d6 (.own x6)) x6 (.ins A.wa d6 [])=G6 at a6 e6 ⊢;refine ⟨sm 2 (by decide),fun l7 f7=>?_⟩;have a7:=Same.new (o:=.lst [v3,.ref x6]) f7;have e7:(upd G6 l7 (.lst [v3,.ref x6])) l7=some (.lst [v3,.ref x6]):=zA1;generalize upd G6 l7 (.lst [v3,.ref x6])=G7 at a7 e7 ⊢;intro x8 d8 hx8 hd8 ne8;have a8:=zA6 (C:=A.al) hx8 hd8 ne8;have e8:(upd (upd G7 d8 (.own x8)) x8 (.ins A.al d8 [])) x8=some (.ins A.al d8 []):=zA1;generalize upd (upd G7 d8 (.own x8)) x8 (.ins A.al d8 [])=G8 at a8 e8 ⊢;intro x9 d9 hx9 hd9 ne9;have a9:=zA6 (C:=A.wa) hx9 hd9 ne9;have e9:(upd (upd G8 d9 (.own x9)) x9 (.ins A.wa d9 [])) x9=some (.ins A.wa d9 []):=zA1;generalize upd (upd G8 d9 (.own x9)) x9 (.ins A.wa d9 [])=G9 at a9 e9 ⊢;refine ⟨sm 2 (by decide),fun t10 f10=>?_⟩;have a10:=Same.new (o:=.tup [.ref x8,.ref x9]) f10;have e10:(upd G9 t10 (.tup [.ref x8,.ref x9])) t10=some (.tup [.ref x8,.ref x9]):=zA1;generalize upd G9 t10 (.tup [.ref x8,.ref x9])=GA at a10 e10 ⊢;intro x11 d11 hx11 hd11 ne11;have a11:=zA6 (C:=A.al) hx11 hd11 ne11;have e11:(upd (upd GA d11 (.own x11)) x11 (.ins A.al d11 [])) x11=some (.ins A.al d11 []):=zA1;generalize upd (upd GA d11 (.own x11)) x11 (.ins A.al d11 [])=GB at a11 e11 ⊢;refine ⟨sm 7 (by decide),fun l12 f12=>?_⟩;have a12:=Same.new (o:=.lst [.ref l1,.ref l3,.ref l5,.ref l7,.ref t10,.non,.ref x11]) f12;have e12:(upd GB l12 (.lst [.ref l1,.ref l3,.ref l5,.ref l7,.ref t10,.non,.ref x11])) l12=some (.lst [.ref l1,.ref l3,.ref l5,.ref l7,.ref t10,.non,.ref x11]):=zA1;generalize upd GB l12 (.lst [.ref l1,.ref l3,.ref l5,.ref l7,.ref t10,.non,.ref x11])=GC at a12 e12 ⊢;have r11:=a12;have r10:=a11.trans r11;have r9:=a10.trans r10;have r8:=a9.trans r9;have r7:=a8.trans r8;have r6:=a7.trans r7;have r5:=a6.trans r6;have r4:=a5.trans r5;have r3:=a4.trans r4;have r2:=a3.trans r3;have r1:=a2.trans r2;have r0:=a1.trans r1;have rr:=a0.trans r0;have SC:=S4.up rr;have n1:=S4.nw (a0.free f1);have n3:=S4.nw ((a0.trans (a1.trans a2)).free f3);have n5:=S4.nw ((a0.trans (a1.trans (a2.trans (a3.trans a4)))).free f5);have n7:=S4.nw ((a0.trans (a1.trans (a2.trans (a3.trans (a4.trans (a5.trans a6)))))).free f7);have n12:=S4.nw ((a0.trans (a1.trans (a2.trans (a3.trans (a4.trans (a5.trans (a6.trans (a7.trans (a8.trans (a9.trans (a10.trans a11))))))))))).free f12);refine ⟨_,rfl,_,rfl,p,7,_,rfl,SC,by omega,by decide,by decide,fun r GD q0 q1 SD kD=>?_⟩;obtain ⟨v,hva,hvm⟩:=zCc ([.ref l1,.ref l3,.ref l5,.ref l7,.ref t10,.non,.ref x11]:List V) q0 q1;have bD:=Bt.eq kD SC SD;refine ⟨l12,_,r,v,rfl,rfl,SqL.of (by rw [kD l12 n12];exact e12),hva,q v GD ?_ (SD.mono (by omega))⟩;have oD:=(o2.same rr).bt bD;have nl:∀ {t:Ty}{u:V},IsT K A GC u t→isA .lst t=false→CndsV K A GD u false:=fun h e=>.inl ⟨rfl,isF M .lst false (h.bt bD) e⟩;have yes:∀ {t:Ty}{u:V},IsT K A GC u t→isA .cc t=true→IsV K (.ref A.cc) GD u true:=fun h e=>isF M .cc true (h.bt bD) e;simp only [Zh,Zf,or_false] at hvm;rcases hvm with rfl | rfl | rfl | rfl | rfl | rfl | rfl
   ·exact .inr ⟨l1,_,rfl,by rw [kD l1 n1];exact r1 _ _ e1,by decide,[],.nil,rfl⟩
   ·exact .inr ⟨l3,_,rfl,by rw [kD l3 n3];exact r3 _ _ e3,by show 1≤10;decide,[true],.cons (yes (t:=.al) (M.al.ty (r2 _ _ e2)) rfl) .nil,rfl⟩
   ·exact .inr ⟨l5,_,rfl,by rw [kD l5 n5];exact r5 _ _ e5,by show 2≤10;decide,[true,false],.cons (yes (t:=.al) (M.al.ty (r4 _ _ e4)) rfl) (.cons (oD.cc M) .nil),rfl⟩
   ·exact .inr ⟨l7,_,rfl,by rw [kD l7 n7];exact r7 _ _ e7,by show 2≤10;decide,[false,true],.cons (oD.cc M) (.cons (yes (t:=.wa) (M.wa.ty (r6 _ _ e6)) rfl) .nil),rfl⟩
   ·exact nl (t:=.tup) (.tup (r10 _ _ e10)) rfl
   ·exact nl (t:=.non) .non rfl
   ·exact nl (t:=.al) (M.al.ty (r11 _ _ e11)) rfl
  ·refine iteF (h5 _ _ _ ⟨_,rfl,rfl,_,rfl,wayF (by decide) (h6 _ _ _ ⟨_,rfl,rfl,_,rfl,wayF (by decide) (h7 _ _ _ ⟨_,rfl,rfl,_,rfl,wayF (by decide) (h8 _ _ _ ⟨_,rfl,rfl,_,rfl,wayF (by decide) ?_⟩)⟩)⟩)⟩);refine h9 _ _ _ ⟨_,rfl,sm 2 (by decide),fun t0 f0=>⟨t0,_,rfl,.inr (SqT.of zA1),rfl,rfl,_,rfl,?_⟩⟩;have a0:=Same.new (o:=.tup [.int 6,.int 7]) f0;generalize upd H4 t0 (.tup [.int 6,.int 7])=G0 at a0 ⊢;refine iteF ?_;refine h10 _ _ _ ⟨_,rfl,rfl,_,rfl,wayT rfl ?_⟩;have T0:=S4.up a0;intro x1 d1 hx1 hd1 ne1;have a1:=zA6 (C:=A.tt) hx1 hd1 ne1;have e1:(upd (upd G0 d1 (.own x1)) x1 (.ins A.tt d1 [])) x1=some (.ins A.tt d1 []):=zA1;generalize upd (upd G0 d1 (.own x1)) x1 (.ins A.tt d1 [])=G1 at a1 e1 ⊢;intro x2 d2 hx2 hd2 ne2;have a2:=zA6 (C:=A.al) hx2 hd2 ne2;have e2:(upd (upd G1 d2 (.own x2)) x2 (.ins A.al d2 [])) x2=some (.ins A.al d2 []):=zA1;generalize upd (upd G1 d2 (.own x2)) x2 (.ins A.al d2 [])=G2 at a2 e2 ⊢;refine ⟨sm 1 (by decide),fun l3 f3=>?_⟩;have a3:=Same.new (o:=.lst [.str "lid"]) f3;have e3:(upd G2 l3 (.lst [.str "lid"])) l3=some (.lst [.str "lid"]):=zA1;generalize upd G2 l3 (.lst [.str "lid"])=G3 at a3 e3 ⊢;refine ⟨sm 4 (by decide),fun l4 f4=>?_⟩;have a4:=Same.new (o:=.lst [.str "box",.ref x1,.ref x2,.ref l3]) f4;have e4:(upd G3 l4 (.lst [.str "box",.ref x1,.ref x2,.ref l3])) l4=some (.lst [.str "box",.ref x1,.ref x2,.ref l3]):=zA1;generalize upd G3 l4 (.lst [.str "box",.ref x1,.ref x2,.ref l3])=G4 at a4 e4 ⊢;have T4:=T0.up (a1.trans (a2.trans (a3.trans a4)));have n3:=T0.nw ((a1.trans a2).free f3);have n4:=T0.nw ((a1.trans (a2.trans a3)).free f4);have n43:l3≠l4:=zA4 e3 f4;replace e1:=(a2.trans (a3.trans a4)) _ _ e1;replace e2:=(a3.trans a4) _ _ e2;replace e3:=a4 _ _ e3;replace o1:=(o1.same a0).same (a1.trans (a2.trans (a3.trans a4)));replace o2:=(o2.same a0).same (a1.trans (a2.trans (a3.trans a4)));clear a0 a1 a2 a3 a4 hx1 hx2 hd1 hd2 f0 f3 f4 ne1 ne2 T0 S4;refine ⟨_,rfl,p,4,_,rfl,T4,by omega,by decide,by decide,fun r5 G5 p5 q5 T5 k5=>?_⟩;have b5:=Bt.eq k5 T4 T5;have ni:∀ {b:Addr}{C dx:Addr}{fs:List (Str×V)},G4 b=some (.ins C dx fs)→G5 b=some (.ins C dx fs):=fun {b C dx fs} e=>b5.b _ _ e fun z=>by
    obtain ⟨_,_,_,e',_⟩:=T4;rw [z,e'] at e;cases e
   replace e1:=ni e1;replace e2:=ni e2;replace e3:=b5.b _ _ e3 n3;replace e4:=b5.b _ _ e4 n4;replace o1:=o1.bt b5;replace o2:=o2.bt b5;clear T4 k5 b5 ni;refine ⟨sm 2 (by decide),fun l6 f6=>?_⟩;have a6:=Same.new (o:=.lst [.str "lid",.str "lid"]) f6;have e6:(upd G5 l6 (.lst [.str "lid",.str "lid"])) l6=some (.lst [.str "lid",.str "lid"]):=zA1;generalize upd G5 l6 (.lst [.str "lid",.str "lid"])=G6 at a6 e6 ⊢;refine ⟨sm 1 (by decide),fun l7 f7=>?_⟩;have a7:=Same.new (o:=.lst [.str "box"]) f7;have e7:(upd G6 l7 (.lst [.str "box"])) l7=some (.lst [.str "box"]):=zA1;generalize upd G6 l7 (.lst [.str "box"])=G7 at a7 e7 ⊢;refine ⟨_,rfl,sm 1 (by decide),fun l8 f8=>?_⟩;have a8:=Same.new (o:=.lst [v2]) f8;have e8:(upd G7 l8 (.lst [v2])) l8=some (.lst [v2]):=zA1;generalize upd G7 l8 (.lst [v2])=G8 at a8 e8 ⊢;refine ⟨sm 1 (by decide),fun t9 f9=>?_⟩;have a9:=Same.new (o:=.tup [.str "lid"]) f9;have e9:(upd G8 t9 (.tup [.str "lid"])) t9=some (.tup [.str "lid"]):=zA1;generalize upd G8 t9 (.tup [.str "lid"])=G9 at a9 e9 ⊢;refine ⟨sm 1 (by decide),fun l10 f10=>?_⟩;have a10:=Same.new (o:=.lst [.str "lid"]) f10;have e10:(upd G9 l10 (.lst [.str "lid"])) l10=some (.lst [.str "lid"]):=zA1;generalize upd G9 l10 (.lst [.str "lid"])=GA at a10 e10 ⊢;refine ⟨sm 1 (by decide),fun l11 f11=>?_⟩;have a11:=Same.new (o:=.lst [.ref l10]) f11;have e11:(upd GA l11 (.lst [.ref l10])) l11=some (.lst [.ref l10]):=zA1;generalize upd GA l11 (.lst [.ref l10])=GB at a11 e11 ⊢;refine ⟨sm 7 (by decide),fun l12 f12=>?_⟩;have a12:=Same.new (o:=.lst [.ref l6,.ref l7,.ref l8,.ref t9,.non,.str "lid",.ref l11]) f12;have e12:(upd GB l12 (.lst [.ref l6,.ref l7,.ref l8,.ref t9,.non,.str "lid",.ref l11])) l12=some (.lst [.ref l6,.ref l7,.ref l8,.ref t9,.non,.str "lid",.ref l11]):=zA1;generalize upd GB l12 (.lst [.ref l6,.ref l7,.ref l8,.ref t9,.non,.str "lid",.ref l11])=GC at a12 e12 ⊢;have r11:=a12;have r10:=a11.trans r11;have r9:=a10.trans r10;have r8:=a9.trans r9;have r7:=a8.trans r8;have r6:=a7.trans r7;have r5':=a6.trans r6;have m6:=zA4 e4 f6;have m7:=zA4 (a6 _ _ e4) f7;have m8:=zA4 ((a6.trans a7) _ _ e4) f8;have m11:=zA4 ((a6.trans (a7.trans (a8.trans (a9.trans a10)))) _ _ e4) f11;have n6:=T5.nw f6;have n7:=T5.nw (a6.free f7);have n8:=T5.nw ((a6.trans a7).free f8);have n11:=T5.nw ((a6.trans (a7.trans (a8.trans (a9.trans a10)))).free f11);have n12:=T5.nw ((a6.trans (a7.trans (a8.trans (a9.trans (a10.trans a11))))).free f12);have m12:=zA4 ((a6.trans (a7.trans (a8.trans (a9.trans (a10.trans a11))))) _ _ e4) f12;replace e6:=r6 _ _ e6;replace e7:=r7 _ _ e7;replace e8:=r8 _ _ e8;replace e9:=r9 _ _ e9;replace e10:=r10 _ _ e10;replace e11:=r11 _ _ e11;replace e1:=r5' _ _ e1;replace e2:=r5' _ _ e2;replace e3:=r5' _ _ e3;replace e4:=r5' _ _ e4;replace o1:=o1.same r5';replace o2:=o2.same r5';have TC:=T5.up r5';clear a6 a7 a8 a9 a10 a11 a12 r6 r7 r8 r9 r10 r11 r5' f6 f7 f8 f9 f10 f11 f12 T5;refine ⟨_,rfl,?_⟩;intro x13 d13 hx13 hd13 ne13;have a13:=zA6 (C:=A.al) hx13 hd13 ne13;have e13:(upd (upd GC d13 (.own x13)) x13 (.ins A.al d13 [])) x13=some (.ins A.al d13 []):=zA1;generalize upd (upd GC d13 (.own x13)) x13 (.ins A.al d13 [])=GD at a13 e13 ⊢;refine ⟨sm 4 (by decide),fun l14 f14=>?_⟩;have a14:=Same.new (o:=.lst [.non,.ref x13,.str "take",.bl true]) f14;have e14:(upd GD l14 (.lst [.non,.ref x13,.str "take",.bl true])) l14=some (.lst [.non,.ref x13,.str "take",.bl true]):=zA1;generalize upd GD l14 (.lst [.non,.ref x13,.str "take",.bl true])=GE at a14 e14 ⊢;have aE:=a13.trans a14;have TE:=TC.up aE;refine ⟨_,rfl,p,4,_,rfl,TE,by omega,by decide,by decide,fun r15 GF p15 q15 TF kF=>?_⟩;obtain ⟨u,hua,hum⟩:=zCc ([.non,.ref x13,.str "take",.bl true]:List V) p15 q15;have bF:=Bt.eq kF TE TF;refine ⟨l14,_,r15,u,rfl,rfl,SqL.of (by rw [kF l14 ((TC.up a13).nw f14)];exact e14),hua,_,rfl,_,rfl,_,rfl,p,7,_,rfl,TF,by omega,by decide,by decide,fun r16 GG p16 q16 TG kG=>?_⟩;obtain ⟨z,hza,hzm⟩:=zCc ([.ref l6,.ref l7,.ref l8,.ref t9,.non,.str "lid",.ref l11]:List V) p16 q16;have bG:=Bt.eq kG TF TG;have bb:=bF.trans bG;have bC:=(Bt.same aE TC).trans bb;have eL:∀ {b:Addr}{xs:List V},GC b=some (.lst xs)→b≠p→GG b=some (.lst xs):=fun e n=>bC.b _ _ e n;have eI:∀ {b C dx:Addr}{fs:List (Str×V)},GC b=some (.ins C dx fs)→GG b=some (.ins C dx fs):=fun {b C dx fs} e=>bC.b _ _ e fun z=>by
    obtain ⟨_,_,_,e',_⟩:=TC;rw [z,e'] at e;cases e
   have hu:IsV K (.ref A.ch) GG u false:=by
    have no:∀ {t:Ty}{x:V},IsT K A GE x t→isA .ch t=false→IsV K (.ref A.ch) GG x false:=fun h e=>isF M .ch false (h.bt bb) e;simp only [Zh,Zf,or_false] at hum;rcases hum with rfl | rfl | rfl | rfl
    ·exact no (t:=.non) .non rfl
    ·exact no (t:=.al) (M.al.ty (a14 _ _ e13)) rfl
    ·exact no (t:=.str) (.str _) rfl
    ·exact no (t:=.bl) (.bl _) rfl
   refine ⟨l12,_,r16,z,rfl,rfl,SqL.of (eL e12 n12),hza,?_⟩;replace o1:=o1.bt bC;replace o2:=o2.bt bC;have hz:∀ {ys:List V},OtV K (upd GG l4 (.lst ys)) (.str "box") z false:=by
    intro ys n en;cases en;have no:∀ {t:Ty}{x:V},IsT K A GC x t→isA .lst t=false→LstV K (OthL K "box") (upd GG l4 (.lst ys)) x false:=fun h e=>.inl ⟨rfl,isF M .lst false (ty_upd (eL e4 n4) (h.bt bC)) e⟩;have eU:∀ {b:Addr}{xs:List V},GC b=some (.lst xs)→b≠p→l4≠b→upd GG l4 (.lst ys) b=some (.lst xs):=fun e n m=>by rw [zAa (Ne.symm m)];exact eL e n
    simp only [Zh,Zf,or_false] at hzm;rcases hzm with rfl | rfl | rfl | rfl | rfl | rfl | rfl
    ·have y:=zBs (K:=K) (H:=upd GG l4 (.lst ys)) (ks:=["lid", "lid"]) (by decide +kernel);rw [show decide ((["lid", "lid"]:List Str).Nodup)=false by decide +kernel] at y;exact .inr ⟨l6,_,rfl,eU e6 n6 m6,false,y,rfl⟩
    ·have y:=zBs (K:=K) (H:=upd GG l4 (.lst ys)) (ks:=["box"]) (by decide +kernel);exact .inr ⟨l7,_,rfl,eU e7 n7 m7,_,y,by decide +kernel⟩
    ·exact .inr ⟨l8,_,rfl,eU e8 n8 m8,false,unl_no (by show 1≤10;decide) (.cons (o1.upd (eL e4 n4)) .nil) rfl,rfl⟩
    ·exact no (t:=.tup) (.tup e9) rfl
    ·exact no (t:=.non) .non rfl
    ·exact no (t:=.str) (.str _) rfl
    ·exact .inr ⟨l11,_,rfl,eU e11 n11 m11,false,unl_no (by show 1≤10;decide) (.cons (.inr ⟨rfl,isF M .str false (ty_upd (eL e4 n4) (IsT.bt (t:=.lst) (.lst e10) bC)) rfl⟩) .nil) rfl,rfl⟩
   refine ⟨sm 4 (by decide),fun l17 f17=>?_⟩;have a17:=Same.new (o:=.lst [v2,u,v3,z]) f17;have e17:(upd GG l17 (.lst [v2,u,v3,z])) l17=some (.lst [v2,u,v3,z]):=zA1;generalize upd GG l17 (.lst [v2,u,v3,z])=GH at a17 e17 ⊢;have f4':=eL e4 n4;have g4:=a17 _ _ f4';have TH:=TG.up a17;have nd4:∀ {ys:List V},Src (upd GH l4 (.lst ys)) p (k + 6):=fun {ys}=>by
    obtain ⟨c1,c2,c3,e,h0,h1⟩:=TH;exact ⟨c1,c2,c3,by rw [zAa (Ne.symm n4)];exact e,h0,by omega⟩
   have kB:∀ {ys:List V},NmV K (upd GH l4 (.lst ys)) (.str "box") true:=nmT (by decide +kernel);have c1:∀ {ys:List V},IsV K (.ref A.ch) (upd GH l4 (.lst ys)) (.ref x1) true:=isF M .ch true (ty_upd (t:=A.ty .tt) g4 (M.tt.ty (a17 _ _ (eI e1)))) rfl;have c2:∀ {ys:List V},IsV K (.ref A.cc) (upd GH l4 (.lst ys)) (.ref x2) true:=isF M .cc true (ty_upd (t:=A.ty .al) g4 (M.al.ty (a17 _ _ (eI e2)))) rfl;have e3f:∀ {ys:List V},upd GH l4 (.lst ys) l3=some (.lst [.str "lid"]):=by intro ys;rw [zAa n43];exact a17 _ _ (eL e3 n3)
   have c3:∀ {ys:List V} (k:V),∃ b4,OtV K (upd GH l4 (.lst ys)) k (.ref l3) b4∧(k=.str "box"→b4=true):=fun {ys} k=>by
    have y:=zBs (K:=K) (H:=upd GH l4 (.lst ys)) (ks:=["lid"]) (by decide +kernel);rw [show decide ((["lid"]:List Str).Nodup)=true by decide +kernel] at y;cases k with
    | str n=>exact ⟨!inV (.str n) [.str "lid"],fun m em=>by cases em;exact .inr ⟨l3,_,rfl,e3f,true,y,rfl⟩,fun e=>by cases e;decide +kernel⟩
    | _=>exact ⟨true,(fun m em=>nomatch em),fun _=>rfl⟩
   have z4:r5=0∨r5=1∨r5=2∨r5=3:=by omega
   rcases z4 with rfl | rfl | rfl | rfl
   ·refine ⟨_,rfl,l17,_,0,v2,rfl,rfl,SqL.of e17,rfl,_,rfl,_,rfl,l4,_,0,0,rfl,rfl,g4,rfl,_,rfl,q _ _ ?_ nd4⟩;obtain ⟨b4,o4,_⟩:=c3 (ys:=[v2,.ref x1,.ref x2,.ref l3]) v2;exact ⟨l4,v2,.ref x1,.ref x2,.ref l3,false,true,true,b4,rfl,zA1,(o1.same a17).upd g4,c1,c2,o4,rfl⟩
   ·refine ⟨_,rfl,l17,_,1,u,rfl,rfl,SqL.of e17,rfl,_,rfl,_,rfl,l4,_,1,1,rfl,rfl,g4,rfl,_,rfl,q _ _ ?_ nd4⟩;obtain ⟨b4,o4,_⟩:=c3 (ys:=[.str "box",u,.ref x2,.ref l3]) (.str "box");exact ⟨l4,.str "box",u,.ref x2,.ref l3,true,false,true,b4,rfl,zA1,kB,(hu.same a17).upd g4,c2,o4,rfl⟩
   ·refine ⟨_,rfl,l17,_,2,v3,rfl,rfl,SqL.of e17,rfl,_,rfl,_,rfl,l4,_,2,2,rfl,rfl,g4,rfl,_,rfl,q _ _ ?_ nd4⟩;obtain ⟨b4,o4,_⟩:=c3 (ys:=[.str "box",.ref x1,v3,.ref l3]) (.str "box");exact ⟨l4,.str "box",.ref x1,v3,.ref l3,true,true,false,b4,rfl,zA1,kB,c1,((o2.cc M).same a17).upd g4,o4,rfl⟩
   ·refine ⟨_,rfl,l17,_,3,z,rfl,rfl,SqL.of e17,rfl,_,rfl,_,rfl,l4,_,3,3,rfl,rfl,g4,rfl,_,rfl,q _ _ ?_ nd4⟩;refine ⟨l4,.str "box",.ref x1,.ref x2,z,true,true,true,false,rfl,zA1,kB,c1,c2,?_,rfl⟩;exact hz.same (upd_same2 a17)
  ·refine iteF (h5 _ _ _ ⟨_,rfl,rfl,_,rfl,wayF (by decide) (h6 _ _ _ ⟨_,rfl,rfl,_,rfl,wayF (by decide) (h7 _ _ _ ⟨_,rfl,rfl,_,rfl,wayF (by decide) (h8 _ _ _ ⟨_,rfl,rfl,_,rfl,wayF (by decide) ?_⟩)⟩)⟩)⟩);refine h9 _ _ _ ⟨_,rfl,sm 2 (by decide),fun t0 f0=>⟨t0,_,rfl,.inr (SqT.of zA1),rfl,rfl,_,rfl,?_⟩⟩;have a0:=Same.new (o:=.tup [.int 6,.int 7]) f0;generalize upd H4 t0 (.tup [.int 6,.int 7])=G0 at a0 ⊢;refine iteF ?_;refine h10 _ _ _ ⟨_,rfl,rfl,_,rfl,wayF (by decide) (h11 _ _ _ ?_)⟩;have T0:=S4.up a0;intro x1 d1 hx1 hd1 ne1;have a1:=zA6 (C:=A.tt) hx1 hd1 ne1;have e1:(upd (upd G0 d1 (.own x1)) x1 (.ins A.tt d1 [])) x1=some (.ins A.tt d1 []):=zA1;generalize upd (upd G0 d1 (.own x1)) x1 (.ins A.tt d1 [])=G1 at a1 e1 ⊢;intro x2 d2 hx2 hd2 ne2;have a2:=zA6 (C:=A.al) hx2 hd2 ne2;have e2:(upd (upd G1 d2 (.own x2)) x2 (.ins A.al d2 [])) x2=some (.ins A.al d2 []):=zA1;generalize upd (upd G1 d2 (.own x2)) x2 (.ins A.al d2 [])=G2 at a2 e2 ⊢;refine ⟨sm 0 (by decide),fun l3 f3=>?_⟩;have a3:=Same.new (o:=.lst []) f3;have e3:(upd G2 l3 (.lst [])) l3=some (.lst []):=zA1;generalize upd G2 l3 (.lst [])=G3 at a3 e3 ⊢;intro x dx hx hdx ne;have sm4:=zA6 (C:=A.ru) hx hdx ne;refine ⟨x,dx,.str "box",.ref x1,.ref x2,.ref l3,true,true,true,true,rfl,zA1,nmT (by decide +kernel),isF M .ch true (t:=.tt) (M.tt.ty (sm4 _ _ ((a2.trans a3) _ _ e1))) rfl,isF M .cc true (t:=.al) (M.al.ty (sm4 _ _ (a3 _ _ e2))) rfl,?_,fun _ G4 l' e4 _ b4=>⟨rfl,?_⟩,fun h=>nomatch h⟩
   ·intro n en;cases en;have y:=zBs (K:=K) (H:=upd (upd G3 dx (.own x)) x (.ins A.ru dx [])) (ks:=[]) (by decide +kernel);exact .inr ⟨l3,_,rfl,sm4 _ _ e3,true,y,by decide +kernel⟩
   have a4:=zAl hx hdx ne b4;have r4:=a1.trans (a2.trans (a3.trans a4));have T4:=T0.up r4;replace o1:=(o1.same a0).same r4;replace o2:=(o2.same a0).same r4;clear a0 a1 a2 a3 a4 r4 e1 e2 e3 hx1 hx2 hd1 hd2 hx hdx f3 sm4 b4 T0 S4;refine h12 _ _ _ ⟨_,rfl,_,rfl,sm 1 (by decide),fun l5 f5=>?_⟩;have a5:=Same.new (o:=.lst [.ref x]) f5;have e5:(upd G4 l5 (.lst [.ref x])) l5=some (.lst [.ref x]):=zA1;generalize upd G4 l5 (.lst [.ref x])=G5 at a5 e5 ⊢;refine ⟨sm 2 (by decide),fun l6 f6=>?_⟩;have a6:=Same.new (o:=.lst [v2,.ref l5]) f6;have e6:(upd G5 l6 (.lst [v2,.ref l5])) l6=some (.lst [v2,.ref l5]):=zA1;generalize upd G5 l6 (.lst [v2,.ref l5])=G6 at a6 e6 ⊢;refine ⟨_,rfl,sm 1 (by decide),fun l7 f7=>?_⟩;have a7:=Same.new (o:=.lst [v3]) f7;have e7:(upd G6 l7 (.lst [v3])) l7=some (.lst [v3]):=zA1;generalize upd G6 l7 (.lst [v3])=G7 at a7 e7 ⊢;refine ⟨_,rfl,_,rfl,sm 2 (by decide),fun l8 f8=>?_⟩;have a8:=Same.new (o:=.lst [.ref x,v3]) f8;have e8:(upd G7 l8 (.lst [.ref x,v3])) l8=some (.lst [.ref x,v3]):=zA1;generalize upd G7 l8 (.lst [.ref x,v3])=G8 at a8 e8 ⊢;refine ⟨_,rfl,sm 1 (by decide),fun t9 f9=>?_⟩;have a9:=Same.new (o:=.tup [.ref x]) f9;have e9:(upd G8 t9 (.tup [.ref x])) t9=some (.tup [.ref x]):=zA1;generalize upd G8 t9 (.tup [.ref x])=G9 at a9 e9 ⊢;refine ⟨_,rfl,sm 5 (by decide),fun l10 f10=>?_⟩;have a10:=Same.new (o:=.lst [.ref l7,.ref l8,.ref t9,.non,.ref x]) f10;have e10:(upd G9 l10 (.lst [.ref l7,.ref l8,.ref t9,.non,.ref x])) l10=some (.lst [.ref l7,.ref l8,.ref t9,.non,.ref x]):=zA1;generalize upd G9 l10 (.lst [.ref l7,.ref l8,.ref t9,.non,.ref x])=GA at a10 e10 ⊢;have r9:=a10;have r8:=a9.trans r9;have r7:=a8.trans r8;have r6:=a7.trans r7;have r5:=a6.trans r6;have r4:=a5.trans r5;have TA:=T4.up r4;have n5:=T4.nw f5;have n6:=T4.nw (a5.free f6);have n7:=T4.nw ((a5.trans a6).free f7);have n8:=T4.nw ((a5.trans (a6.trans a7)).free f8);have n10:=T4.nw ((a5.trans (a6.trans (a7.trans (a8.trans a9)))).free f10);replace e5:=r5 _ _ e5;replace e6:=r6 _ _ e6;replace e7:=r7 _ _ e7;replace e8:=r8 _ _ e8;replace e9:=r9 _ _ e9;replace e4:=r4 _ _ e4;replace o1:=o1.same r4;replace o2:=o2.same r4;refine ⟨_,rfl,p,5,_,rfl,TA,by omega,by decide,by decide,fun r11 GB p11 q11 TB kB=>?_⟩;obtain ⟨u,hua,hum⟩:=zCc ([.ref l7,.ref l8,.ref t9,.non,.ref x]:List V) p11 q11;have bB:=Bt.eq kB TA TB;refine ⟨l10,_,r11,u,rfl,rfl,SqL.of (by rw [kB l10 n10];exact e10),hua,?_⟩;have eL:∀ {b:Addr}{xs:List V},GA b=some (.lst xs)→b≠p→GB b=some (.lst xs):=fun e n=>bB.b _ _ e n;replace o1:=o1.bt bB;replace o2:=o2.bt bB;have hx':IsT K A GB (.ref x) .ru:=IsT.bt (t:=.ru) (M.ru.ty e4) bB;have hu:RulsV K A GB u false:=by
    have no:∀ {t:Ty}{y:V},IsT K A GA y t→isA .lst t=false→RulsV K A GB y false:=fun h e=>.inl ⟨rfl,isF M .lst false (h.bt bB) e⟩;simp only [Zh,Zf,or_false] at hum;rcases hum with rfl | rfl | rfl | rfl | rfl
    ·exact .inr ⟨l7,_,rfl,eL e7 n7,by show 1≤10;decide,[false],.cons (o2.ru M) .nil,rfl⟩
    ·exact .inr ⟨l8,_,rfl,eL e8 n8,by show 2≤10;decide,[true,false],.cons (isF M .ru true hx' rfl) (.cons (o2.ru M) .nil),rfl⟩
    ·exact no (t:=.tup) (.tup e9) rfl
    ·exact no (t:=.non) .non rfl
    ·exact no (t:=.ru) (M.ru.ty e4) rfl
   refine ⟨sm 2 (by decide),fun l12 f12=>?_⟩;have a12:=Same.new (o:=.lst [.str "one",u]) f12;have e12:(upd GB l12 (.lst [.str "one",u])) l12=some (.lst [.str "one",u]):=zA1;generalize upd GB l12 (.lst [.str "one",u])=GC at a12 e12 ⊢;refine ⟨sm 2 (by decide),fun l13 f13=>?_⟩;have a13:=Same.new (o:=.lst [.ref l6,.ref l12]) f13;have e13:(upd GC l13 (.lst [.ref l6,.ref l12])) l13=some (.lst [.ref l6,.ref l12]):=zA1;generalize upd GC l13 (.lst [.ref l6,.ref l12])=GD at a13 e13 ⊢;have aD:=a12.trans a13;refine ⟨_,rfl,l13,_,_,_,rfl,rfl,SqL.of e13,pick2,q _ _ ?_ ((TB.up aD).mono (by omega))⟩;cases c4 with
   | false=>exact ⟨l6,v2,.ref l5,false,true,rfl,aD _ _ (eL e6 n6),o1.same aD,.inr ⟨l5,_,rfl,aD _ _ (eL e5 n5),by show 1≤10;decide,[true],.cons ((isF M .ru true hx' rfl).same aD) .nil,rfl⟩,rfl⟩
   | true=>exact ⟨l12,.str "one",u,true,false,rfl,a13 _ _ e12,nmT (by decide +kernel),hu.same (fun x s=>x.same s) aD,rfl⟩
end
end L2.W
namespace L2.W
open PySem My
noncomputable def gR {α : Type}:List α→List α→List α
 | [a],ws=>a :: ws.reverse
 | _,_=>[]
theorem vals_rev {zs:List V}{ws:List Value} (h:Vals zs ws):Vals zs.reverse ws.reverse:=by
 induction h with
 | nil=>exact .nil
 | cons r _ ih=>rw [List.reverse_cons,List.reverse_cons];exact ih.append (.cons r .nil)
theorem gR_rel {vs zs:List V}{us ws:List Value} (h:Vals vs us) (g:Vals zs ws):Vals (gR vs zs) (gR us ws):=by
 cases h with
 | nil=>exact .nil
 | cons h1 h2 =>
  cases h2 with
  | cons _ _=>exact .nil
  | nil=>exact .cons h1 (vals_rev g)
theorem zBr {α : Type}{us ws:List α}{n:Nat} (h:(gR us ws).length=n + 1):∃ a,us=[a]∧ws.length=n:=by
 match us,h with
 | [a],h=>exact ⟨a,rfl,by rw [show gR [a] ws=a :: ws.reverse from rfl,Z7,List.length_reverse] at h;omega⟩
 | [],h=>cases h
 | _ :: _ :: _,h=>cases h
theorem zCo {K:PySem.W.Frag}{x qual:Str}{st:Stmt}{f:Addr}{fd:FuncData}{ps ks:List Str} (F:Fun K x qual st f fd) (h:∀ (kV doc pm:Value) (an:Option Addr) (cdv ct:Value) (us ws:List Value),(gR us ws).length=ps.length→bindArgs (PySem.W.fnOf x qual (defArgs st) (defBody st) (defScope st) .none kV doc pm an cdv ct) ⟨us,ks.zip ws⟩=pure (ps.zip (gR us ws))):KBinds K fd ps ks gR gR:=by
 obtain ⟨oc,od,kV,doc,pm,an,cdv,ct,osl,rfl,lk,hcd⟩:=F.ex;exact ⟨fun s us ws _ hl=>.of_eq (h kV doc pm an cdv ct us ws hl),gR_rel⟩
theorem f1_at (n:Str) (v:V):(f1 n v).lookup n=some v:=by unfold f1;rw [zAg,if_pos rfl]
theorem f2_a {a b:Str} (x y:V) (h:¬ a=b):(f2 a b x y).lookup a=some x:=by unfold f2;rw [zAg,if_neg h,zAg,if_pos rfl]
theorem f2_b {a b:Str} (x y:V):(f2 a b x y).lookup b=some y:=by unfold f2;rw [zAg,if_pos rfl]
theorem rF_k (k c t b:V):(rF k c t b).lookup ("kind" : Str)=some k:=by unfold rF;rw [zAg,if_neg (by decide +kernel),zAg,if_neg (by decide +kernel),zAg,if_neg (by decide +kernel),zAg,if_pos rfl]
theorem rF_c (k c t b:V):(rF k c t b).lookup ("change" : Str)=some c:=by unfold rF;rw [zAg,if_neg (by decide +kernel),zAg,if_neg (by decide +kernel),zAg,if_pos rfl]
theorem rF_t (k c t b:V):(rF k c t b).lookup ("condition" : Str)=some t:=by unfold rF;rw [zAg,if_neg (by decide +kernel),zAg,if_pos rfl]
theorem rF_b (k c t b:V):(rF k c t b).lookup ("behind" : Str)=some b:=by unfold rF;rw [zAg,if_pos rfl]
theorem fv:¬ (("field" : Str) = "value"):=by decide +kernel
theorem nr:¬ (("name" : Str) = "rules"):=by decide +kernel
theorem zD1 {G G':Addr→Prop}{H:Hp}{x y:V}{Q:VK}{d:PyData} (hx:Has G H x d) (hy:Has G' H y d) (hd:d.depth≤64) (q:Q (.bl false) H):rNeD x y H Q:=⟨d,d,hx.any,hy.any,hd,hd,by rw [hx.eqv];exact q⟩
theorem eq_same {G G':Addr→Prop}{H:Hp}{x y:V}{Q:VK}{d:PyData} (hx:Has G H x d) (hy:Has G' H y d) (hd:d.depth≤64) (q:Q (.bl true) H):rEqD x y H Q:=⟨d,d,hx.any,hy.any,hd,hd,by rw [hx.eqv];exact q⟩
structure KIni (K:PySem.W.Frag) (dIs dMe dOw dNo dBo dEi dTm dTs dRu dHa:FuncData):Prop where
 is_:KBinds K dIs ["self", "field", "value"] ["value", "field"] gR gR
 me:KBinds K dMe ["self", "field"] ["field"] gR gR
 ow:KBinds K dOw ["self", "field", "value"] ["value", "field"] gR gR
 no:KBinds K dNo ["self", "condition"] ["condition"] gR gR
 bo:KBinds K dBo ["self", "conditions"] ["conditions"] gR gR
 ei:KBinds K dEi ["self", "conditions"] ["conditions"] gR gR
 tm:KBinds K dTm ["self", "fields"] ["fields"] gR gR
 ts:KBinds K dTs ["self", "field", "value"] ["value", "field"] gR gR
 ru:KBinds K dRu ["self", "kind", "change", "condition", "behind"] ["behind", "condition", "change", "kind"] gR gR
 ha:KBinds K dHa ["self", "name", "rules"] ["rules", "name"] gR gR
noncomputable def spGood:Sp:=fun vs _ Q _=>vs=[]∧∀ H',Q (.bl true) H'
section
variable {P:Program}{w:World}{K:PySem.W.Frag}{mg:Str→Option Value}{base:Heap}
noncomputable abbrev nGd:List Str:=["_law_setting", "_law_some", "_law_later", "_law_other", "_law_hand", "_law_listed", "_law_making", "_law_made", "_law_both"]
theorem scGd:FnScope nGd [] (defScope sGood):=⟨rfl,rfl,rfl,by decide +kernel,rfl,by decide +kernel,by decide +kernel⟩
set_option maxHeartbeats 4000000 in
theorem ok_good {f CN:Addr}{fd dIs dMe dOw dNo dBo dEi dTm dTs dRu dHa:FuncData}{A:CS} (T:Tops K mg) (M:CM K mg A) (I:Inis P w K mg base A CN dIs dMe dOw dNo dBo dEi dTm dTs dRu dHa) (B:KIni K dIs dMe dOw dNo dBo dEi dTm dTs dRu dHa) (F:Fun K "_law_good" "_law_good" sGood f fd):FnOk P w K mg base (CXM P w) 6 f fd [] spGood:=by
 have hC:Calm (CXM P w):=calmM;refine Fun.okC F scGd (fun vs H Q E h=>?_) (fun cdv Ar outer s H vs Q E hr h=>?_)
 ·obtain ⟨rfl,_⟩:=h;rfl
 ·obtain ⟨rfl,q⟩:=h;have nd:=scGd.nd;have hr2:=hr.mono (show 2≤5 by decide);have hr3:=hr.mono (show 3≤5 by decide);have hr4:=hr.mono (show 4≤5 by decide);refine zAh (zAn (i:=0) nd rfl (Or.inl rfl) (zAw M.kts I.ts hr3 rfl M.ts.g B.ts (passC hC) (zAu zBa (zAu zA7 zBp)))) fun S1 h1=>?_;refine zAh (zAn (i:=1) nd rfl (Or.inl rfl) (zA9 (zA0 (zAw M.kru I.ru hr rfl M.ru.g B.ru (passC hC) (zAu (zA9 (zA0 zA7 (zA0 zA7 zA2))) (zAu (zAw M.kis I.is_ hr4 rfl M.is_.g B.is_ (passC hC) (zAu zA7 (zAu zA7 zBp))) (zAu (pv 0) (zAu zA7 zBp))))) zA2))) fun S2 h2=>?_;refine zAh (zAn (i:=2) nd rfl (Or.inl rfl) (zA9 (zA0 zA7 zA2))) fun S3 h3=>?_;refine zAh (zAn (i:=3) nd rfl (Or.inl rfl) (zAx M.kru I.ru hr rfl M.ru.g I.bRu .nil (passC hC) (zA0 zA7 (zA0 (zAx M.ktm I.tm hr4 rfl M.tm.g I.bTm .nil (passC hC) (zA0 (zA9 zA2) zA2)) (zA0 (zAw M.kno I.no hr2 rfl M.no.g B.no (passC hC) (zAu (zAf M.kwa rfl M.wa.g) zBp)) (zA0 (pv 2) zA2)))))) fun S4 h4=>?_;refine zAh (zAn (i:=4) nd rfl (Or.inl rfl) (zAw M.kha I.ha hr3 rfl M.ha.g B.ha (passC hC) (zAu (pv 1) (zAu zA7 zBp)))) fun S5 h5=>?_;refine zAh (zAs (pe_bm0 PySem.F.plainAttrs_list PySem.F.slot_list_pop PySem.F.type_list_pop mt_pop (pv 1))) fun S6 h6=>?_;refine zAh (zAs (pe_bm PySem.F.plainAttrs_list PySem.F.slot_list_append PySem.F.type_list_append mt_append (pv 2) (zA0 zA7 zA2))) fun S7 h7=>?_;refine zAh (zAn (i:=5) nd rfl (Or.inl rfl) (zA9 (zA0 zA7 (zA0 zA7 zA2)))) fun S8 h8=>?_;refine zAh (zAn (i:=6) nd rfl (Or.inl rfl) (zAw M.ktm I.tm hr4 rfl M.tm.g B.tm (passC hC) (zAu (pv 5) zBp))) fun S9 h9=>?_;refine zAh (zAs (pe_bm0 PySem.F.plainAttrs_list PySem.F.slot_list_pop PySem.F.type_list_pop mt_pop (pv 5))) fun S10 h10=>?_;refine zAh (zAn (i:=7) nd rfl (Or.inl rfl) (zAv zAc (zAo (pv 4) rfl) zA5 (fun _ _=>rfl))) fun S11 h11=>?_
  refine zAh (zAp (zAi (op_neD hr.units) (zBc (zA0 (zAo (pv 4) rfl) (zA0 (zAb zB2 rfl T.len PySem.boot_len (zA0 (zAo (pv 4) rfl) zA2)) (zA0 (zAo (pv 7) rfl) (zA0 (zAo (pv 7) rfl) zA2))))) (zBt (d:=.tuple [.str "one",.int 1,.str "box",.list [.str "lid",.str "a"]]) 9 (by kernel_rfl)) (nomark _))
     (zA3 (zAj zBu)) zAe) fun S12 h12=>?_
  refine zAh (zAp (zAi (op_neD hr.units) (zBc (zA0 (zAo (zAo (pv 7) rfl) rfl) (zA0 (zAo (zAo (pv 7) rfl) rfl) (zA0 (zAo (zAo (pv 7) rfl) rfl) (zA0 (zAo (zAo (pv 7) rfl) rfl) zA2))))) (zBt (d:=.tuple [.str "f",.none,.str "f",.str "on"]) 9 (by kernel_rfl)) (nomark _))
     (zA3 (zAj zBu)) zAe) fun S13 h13=>?_
  refine zAh (zAn (i:=8) nd rfl (Or.inl rfl) (zAw M.kbo I.bo hr3 rfl M.bo.g B.bo (passC hC) (zAu (zA9 (zA0 (zAw M.kow I.ow hr4 rfl M.ow.g B.ow (passC hC) (zAu zA7 (zAu zA7 zBp))) (zA0 (zAw M.kme I.me hr4 rfl M.me.g B.me (passC hC) (zAu zA7 zBp)) zA2))) zBp))) fun S14 h14=>?_
  refine zAh (zAp (PW.pt (zCu (zAi op_ne (zAb zB2 rfl T.len PySem.boot_len (zA0 (zAo (pv 8) rfl) zA2)) zA5 (nomark _)) (zCu (zAi op_ne (zAo (zAv zAc (zAo (pv 8) rfl) zA5 (fun _ _=>rfl)) rfl) zA7 (nomark _)) (zCe (zAi op_ne (zAo (zAv zAc (zAo (pv 8) rfl) zA5 (fun _ _=>rfl)) rfl) zA7 (nomark _))))))
     (zA3 (zAj zBu)) zAe) fun S15 h15=>?_
  refine zAh (zAp (PW.pt (zCu (zB1 (zAy (zAb zAr rfl T.isinst PyProof.Rows.boot_isinstance (zA0 (zAo (zAo (pv 3) rfl) rfl) (zA0 (zAk (v:=.ref A.wa) rfl M.wa.g rfl) zA2))))) (zCu (zAi (op_neD hr.units) (zAo (zAo (pv 3) rfl) rfl) (zA9 zA2) (nomark _)) (zCe (zAi op_ne (zAo (zAx M.kts I.ts hr3 rfl M.ts.g I.bTs .nil (passC hC) (zA0 zA7 (zA0 zA7 zA2))) rfl) zA7 (nomark _))))))
     (zA3 (zAj zBu)) zAe) fun S16 h16=>?_
  refine zAh (zAp (zAi op_ne (zAb zB2 rfl T.len PySem.boot_len (zA0 (zAo (zAw M.kei I.ei hr3 rfl M.ei.g B.ei (passC hC) (zAu (zA9 (zA0 (zAf M.kal rfl M.al.g) (zA0 (zAf M.kwa rfl M.wa.g) zA2))) zBp)) rfl) zA2)) zA5 (nomark _))
     (zA3 (zAj zBu)) zAe) fun S17 h17=>?_
  refine bd_one (zAj (zBq (zB7 (op_eqD hr.units) (zAo (pv 6) rfl) (zA9 (zA0 zA7 (zA0 zA7 zA2))) (nomark _)) (zBq (zB7 (op_eqD hr.units) (zAo (pv 3) rfl) (zA9 (zA0 zA7 zA2)) (nomark _)) (zCf (zB7 (op_eqD hr.units) (zAo (zAx M.kha I.ha hr3 rfl M.ha.g I.bHa .nil (passC hC) (zA0 zA7 (zA0 (zA9 zA2) zA2))) rfl) (zA9 zA2) (nomark _)))))) fun S18 h18=>?_;have sm:∀ (n:Nat),n≤1000→n≤sizeLine:=fun n h=>Za (small1000 h);have unl:∀ {H:Hp} (ks:List Str),(decide (ks.length≤10) && ks.all fun x=>decide (x.length≤1000) && nameB x)=true→decide ks.Nodup=true→UnlV K H (ks.map V.str) true:=fun {H} ks h e=>by
   have y:=zBs (K:=K) (H:=H) (ks:=ks) h;rw [e] at y;exact y
  refine h1 _ _ _ fun x1 d1 hx1 hd1 ne1=>⟨x1,d1,.str "f",.non,true,true,rfl,zA1,nmT (by decide +kernel),.inl ⟨rfl,rfl⟩,fun _ H1 e1 b1=>⟨rfl,?_⟩,fun h=>nomatch h⟩;clear b1 hx1 hd1 ne1;refine h2 _ _ _ ⟨sm 2 (by decide),fun l2 f2=>?_⟩;have a2:=Same.new (o:=.lst [.str "lid",.str "a"]) f2;have e2:(upd H1 l2 (.lst [.str "lid",.str "a"])) l2=some (.lst [.str "lid",.str "a"]):=zA1;generalize upd H1 l2 (.lst [.str "lid",.str "a"])=H2 at a2 e2 ⊢;refine fun x3 d3 hx3 hd3 ne3=>⟨x3,d3,.str "f",.str "on",true,true,rfl,zA1,nmT (by decide +kernel),nmT (by decide +kernel),fun _ H3 e3 b3=>⟨rfl,_,rfl,?_⟩,fun h=>nomatch h⟩;have a3:=zAl hx3 hd3 ne3 b3;replace e1:=(a2.trans a3) _ _ e1;replace e2:=a3 _ _ e2;clear a2 a3 b3 hx3 hd3 ne3 f2;intro x4 d4 hx4 hd4 ne4;have s4:=zA6 (C:=A.ru) hx4 hd4 ne4;refine ⟨x4,d4,.str "box",.ref x1,.ref x3,.ref l2,true,true,true,true,rfl,zA1,nmT (by decide +kernel),isF M .ch true (t:=.ts) (M.ts.ty (s4 _ _ e1)) rfl,isF M .cc true (t:=.is_) (M.is_.ty (s4 _ _ e3)) rfl,?_,fun _ H4 l4 e4 c4 b4=>⟨rfl,?_⟩,fun h=>nomatch h⟩
  ·intro n en;cases en;exact .inr ⟨l2,_,rfl,s4 _ _ e2,true,unl ["lid", "a"] (by decide +kernel) (by decide +kernel),by decide +kernel⟩
  have a4:=zAl hx4 hd4 ne4 b4;obtain ⟨_,_,z,g1,g4,_⟩:=c4;cases z;rw [s4 _ _ e2] at g1;cases g1;replace e1:=a4 _ _ e1;replace e3:=a4 _ _ e3;clear a4 s4 b4 hx4 hd4 ne4 e2;refine ⟨sm 1 (by decide),fun l5 f5=>h3 _ _ _ ⟨sm 1 (by decide),fun l6 f6=>?_⟩⟩;have n45:l4≠l5:=zA4 g4 f5;have a5:=Same.new (o:=.lst [.ref x4]) f5;have n46:l4≠l6:=zA4 (a5 _ _ g4) f6;have n56:l5≠l6:=zA4 zA1 f6;have a6:=Same.new (o:=.lst [.str "lid"]) f6;have a56:=a5.trans a6;have e5:=a6 l5 _ zA1;have e6:(upd (upd H4 l5 (.lst [.ref x4])) l6 (.lst [.str "lid"])) l6=some (.lst [.str "lid"]):=zA1;generalize upd (upd H4 l5 (.lst [.ref x4])) l6 (.lst [.str "lid"])=H6 at a56 e5 e6 ⊢;replace e1:=a56 _ _ e1;replace e3:=a56 _ _ e3;replace e4:=a56 _ _ e4;replace g4:=a56 _ _ g4;clear a5 a6 a56 f5 f6;refine h4 _ _ _ ⟨sm 0 (by decide),fun l7 f7=>?_⟩;have a7:=Same.new (o:=.lst []) f7;have e7:(upd H6 l7 (.lst [])) l7=some (.lst []):=zA1;generalize upd H6 l7 (.lst [])=H7 at a7 e7 ⊢;intro x8 d8 hx8 hd8 ne8;have s8:=zA6 (C:=A.tm) hx8 hd8 ne8;refine ⟨x8,d8,.ref l7,true,rfl,zA1,.inr ⟨l7,_,rfl,s8 _ _ e7,unl [] (by decide +kernel) (by decide +kernel)⟩,fun _ H8 l8 e8 c8 b8=>⟨rfl,?_⟩,fun h=>nomatch h⟩;have a8:=zAl hx8 hd8 ne8 b8;obtain ⟨_,_,z,g1,g8,k8⟩:=c8;cases z;rw [s8 _ _ e7] at g1;cases g1;have m85:l5≠l8:=zA4 (s8 _ _ (a7 _ _ e5)) k8;have m86:l6≠l8:=zA4 (s8 _ _ (a7 _ _ e6)) k8;have a78:=a7.trans a8;replace e1:=a78 _ _ e1;replace e3:=a78 _ _ e3;replace e4:=a78 _ _ e4;replace g4:=a78 _ _ g4;replace e5:=a78 _ _ e5;replace e6:=a78 _ _ e6;clear a7 a8 a78 s8 b8 hx8 hd8 ne8 f7 e7 k8;intro x9 d9 hx9 hd9 ne9;have a9:=zA6 (C:=A.wa) hx9 hd9 ne9;have e9:(upd (upd H8 d9 (.own x9)) x9 (.ins A.wa d9 [])) x9=some (.ins A.wa d9 []):=zA1;generalize upd (upd H8 d9 (.own x9)) x9 (.ins A.wa d9 [])=H9 at a9 e9 ⊢;intro x10 d10 hx10 hd10 ne10;have s10:=zA6 (C:=A.no) hx10 hd10 ne10;refine ⟨x10,d10,.ref x9,true,rfl,zA1,isF M .cc true (t:=.wa) (M.wa.ty (s10 _ _ e9)) rfl,fun _ H10 e10 b10=>⟨rfl,_,rfl,?_⟩,fun h=>nomatch h⟩;have a10:=zAl hx10 hd10 ne10 b10;have a910:=a9.trans a10;replace e1:=a910 _ _ e1;replace e3:=a910 _ _ e3;replace e4:=a910 _ _ e4;replace g4:=a910 _ _ g4;replace e5:=a910 _ _ e5;replace e6:=a910 _ _ e6;replace e8:=a910 _ _ e8;replace g8:=a910 _ _ g8;replace e9:=a10 _ _ e9;clear a9 a10 a910 s10 b10 hx10 hd10 ne10 hx9 hd9 ne9;intro x11 d11 hx11 hd11 ne11;have s11:=zA6 (C:=A.ru) hx11 hd11 ne11;refine ⟨x11,d11,.str "a",.ref x8,.ref x10,.ref l6,true,true,true,true,rfl,zA1,nmT (by decide +kernel),isF M .ch true (t:=.tm) (M.tm.ty (s11 _ _ e8)) rfl,isF M .cc true (t:=.no) (M.no.ty (s11 _ _ e10)) rfl,?_,fun _ H11 l11 e11 c11 b11=>⟨rfl,?_⟩,fun h=>nomatch h⟩
  ·intro n en;cases en;exact .inr ⟨l6,_,rfl,s11 _ _ e6,true,unl ["lid"] (by decide +kernel) (by decide +kernel),by decide +kernel⟩
  have a11:=zAl hx11 hd11 ne11 b11;obtain ⟨_,_,z,g1,g11,k11⟩:=c11;cases z;rw [s11 _ _ e6] at g1;cases g1;have m115:l5≠l11:=zA4 (s11 _ _ e5) k11;have m116:l6≠l11:=zA4 (s11 _ _ e6) k11;replace e1:=a11 _ _ e1;replace e3:=a11 _ _ e3;replace e4:=a11 _ _ e4;replace g4:=a11 _ _ g4;replace e5:=a11 _ _ e5;replace e6:=a11 _ _ e6;replace e8:=a11 _ _ e8;replace g8:=a11 _ _ g8;replace e9:=a11 _ _ e9;replace e10:=a11 _ _ e10;clear a11 s11 b11 hx11 hd11 ne11 k11;refine h5 _ _ _ ⟨_,rfl,?_⟩;intro x12 d12 hx12 hd12 ne12;have s12:=zA6 (C:=A.ha) hx12 hd12 ne12;refine ⟨x12,d12,.str "one",.ref l5,true,true,rfl,zA1,nmT (by decide +kernel),.inr ⟨l5,_,rfl,s12 _ _ e5,by show 1≤10;decide,[true],.cons (isF M .ru true (t:=.ru) (M.ru.ty (s12 _ _ e4)) rfl) .nil,rfl⟩,fun _ H12 l12 e12 c12 b12=>⟨rfl,?_⟩,fun h=>nomatch h⟩;have a12:=zAl hx12 hd12 ne12 b12;obtain ⟨_,_,z,g1,g12,k12⟩:=c12;cases z;rw [s12 _ _ e5] at g1;cases g1;have m125:l5≠l12:=zA4 (s12 _ _ e5) k12;have m126:l6≠l12:=zA4 (s12 _ _ e6) k12;refine h6 _ _ _ ⟨_,rfl,.inl ⟨rfl,_,SqL.of (a12 _ _ e5)⟩,l5,_,_,rfl,rfl,a12 _ _ e5,rfl,?_⟩;have e6':(upd H12 l5 (.lst ([V.ref x4].dropLast))) l6=some (.lst [.str "lid"]):=by rw [zAa (Ne.symm n56)];exact a12 _ _ e6
  refine h7 _ _ _ ⟨_,rfl,.inl ⟨rfl,_,SqL.of e6'⟩,l6,_,_,rfl,rfl,e6',small1000 (by show 1≤1000;decide),?_⟩;have kp:∀ b o,H11 b=some o→l5≠b→l6≠b→(upd (upd H12 l5 (.lst ([V.ref x4].dropLast))) l6 (.lst ([.str "lid"]++[.str "a"]))) b=some o:=fun b o e n5 n6=>by rw [zAa (Ne.symm n6),zAa (Ne.symm n5)];exact a12 _ _ e
  have ki:∀ {b C dx:Addr}{fs:List (Str×V)},H11 b=some (.ins C dx fs)→(upd (upd H12 l5 (.lst ([V.ref x4].dropLast))) l6 (.lst ([.str "lid"]++[.str "a"]))) b=some (.ins C dx fs):=fun {b C dx fs} e=>kp _ _ e (fun z=>by rw [← z,e5] at e;cases e) (fun z=>by rw [← z,e6] at e;cases e);have i12:(upd (upd H12 l5 (.lst ([V.ref x4].dropLast))) l6 (.lst ([.str "lid"]++[.str "a"]))) x12=some (.ins A.ha d12 (f2 "name" "rules" (.str "one") (.ref l12))):=by
   rw [zAa (fun z=>by rw [z,a12 _ _ e6] at e12;cases e12),zAa (fun z=>by rw [z,a12 _ _ e5] at e12;cases e12)];exact e12
  have j12:(upd (upd H12 l5 (.lst ([V.ref x4].dropLast))) l6 (.lst ([.str "lid"]++[.str "a"]))) l12=some (.lst [.ref x4]):=by rw [zAa (Ne.symm m126),zAa (Ne.symm m125)];exact g12
  replace e1:=ki e1;replace e3:=ki e3;replace e4:=ki e4;replace e8:=ki e8;replace e9:=ki e9;replace e10:=ki e10;replace e11:=ki e11;replace g4:=kp _ _ g4 (Ne.symm n45) (Ne.symm n46);replace g8:=kp _ _ g8 m85 m86;replace g11:=kp _ _ g11 m115 m116;clear kp ki;generalize upd (upd H12 l5 (.lst ([V.ref x4].dropLast))) l6 (.lst ([.str "lid"]++[.str "a"]))=G0 at e1 e3 e4 e8 e9 e10 e11 g4 g8 g11 i12 j12 ⊢;clear e12 g12 e6' a12 s12 e5 e6 b12 hx12 hd12 ne12 k12 m85 m86 m115 m116 m125 m126 n45 n46;refine h8 _ _ _ ⟨sm 2 (by decide),fun l13 f13=>?_⟩;have a13:=Same.new (o:=.lst [.str "f",.str "g"]) f13;have e13:(upd G0 l13 (.lst [.str "f",.str "g"])) l13=some (.lst [.str "f",.str "g"]):=zA1;generalize upd G0 l13 (.lst [.str "f",.str "g"])=G1 at a13 e13 ⊢;refine h9 _ _ _ ⟨_,rfl,?_⟩;intro x14 d14 hx14 hd14 ne14;have s14:=zA6 (C:=A.tm) hx14 hd14 ne14;refine ⟨x14,d14,.ref l13,true,rfl,zA1,.inr ⟨l13,_,rfl,s14 _ _ e13,unl ["f", "g"] (by decide +kernel) (by decide +kernel)⟩,fun _ G2 l14 e14 c14 b14=>⟨rfl,?_⟩,fun h=>nomatch h⟩;have a14:=zAl hx14 hd14 ne14 b14;obtain ⟨_,_,z,g1,g14,k14⟩:=c14;cases z;rw [s14 _ _ e13] at g1;cases g1;have m14:l13≠l14:=zA4 (s14 _ _ e13) k14;refine h10 _ _ _ ⟨_,rfl,.inl ⟨rfl,_,SqL.of (a14 _ _ e13)⟩,l13,_,_,rfl,rfl,a14 _ _ e13,rfl,?_⟩;have s13:Same G0 (upd G2 l13 (.lst ([V.str "f",V.str "g"].dropLast))):=fun b o e=>by rw [zAa (zA4 e f13)];exact a14 _ _ (a13 _ _ e)
  have i14:(upd G2 l13 (.lst ([V.str "f",V.str "g"].dropLast))) x14=some (.ins A.tm d14 (f1 "fields" (.ref l14))):=by
   rw [zAa (fun z=>by rw [z,a14 _ _ e13] at e14;cases e14)];exact e14
  have j14:(upd G2 l13 (.lst ([V.str "f",V.str "g"].dropLast))) l14=some (.lst [.str "f",.str "g"]):=by rw [zAa (Ne.symm m14)];exact g14
  generalize upd G2 l13 (.lst ([V.str "f",V.str "g"].dropLast))=G3 at s13 i14 j14 ⊢;replace e1:=s13 _ _ e1;replace e3:=s13 _ _ e3;replace e4:=s13 _ _ e4;replace e8:=s13 _ _ e8;replace e9:=s13 _ _ e9;replace e10:=s13 _ _ e10;replace e11:=s13 _ _ e11;replace g4:=s13 _ _ g4;replace g8:=s13 _ _ g8;replace g11:=s13 _ _ g11;replace i12:=s13 _ _ i12;replace j12:=s13 _ _ j12;clear s13 a13 a14 s14 b14 hx14 hd14 ne14 k14 e14 g14 e13 f13 m14 unl;refine h11 _ _ _ ⟨_,rfl,x12,A.ha,d12,_,_,rfl,i12,M.ha.cl,M.ha.no _ (.tail _ (.head _)),f2_b _ _,l12,_,0,_,rfl,rfl,SqL.of j12,rfl,?_⟩;refine h12 _ _ _ ⟨_,rfl,x12,A.ha,d12,_,_,rfl,i12,M.ha.cl,M.ha.no _ (.head _),f2_a _ _ nr,_,rfl,x12,A.ha,d12,_,_,rfl,i12,M.ha.cl,M.ha.no _ (.tail _ (.head _)),f2_b _ _,l12,_,rfl,.inl (SqL.of j12),_,rfl,x4,A.ru,d4,_,_,rfl,e4,M.ru.cl,M.ru.no _ (.head _),rF_k _ _ _ _,_,rfl,x4,A.ru,d4,_,_,rfl,e4,M.ru.cl,M.ru.no _ (.tail _ (.tail _ (.tail _ (.head _)))),rF_b _ _ _ _,sm 4 (by decide),fun t1 ft1=>?_⟩;have u1:=Same.new (o:=.tup [.str "one",.int (([V.ref x4].length:Nat):Int),.str "box",.ref l4]) ft1;intro v1 G4 s4 hv1;refine zD1 (G:=Any) (d:=.tuple [.str "one",.int 1,.str "box",.list [.str "lid",.str "a"]]) (.tup trivial (s4 _ _ zA1) (by show 4≤1000;decide) (.cons (.str _ (by decide) (by decide +kernel)) (.cons (.int _) (.cons (.str _ (by decide) (by decide +kernel)) (.cons (.lst trivial ((u1.trans s4) _ _ g4) (by show 2≤1000;decide) (.cons (.str _ (by decide) (by decide +kernel)) (.cons (.str _ (by decide) (by decide +kernel)) .nil))) .nil))))) hv1 (by decide) ⟨_,rfl,iteF ?_⟩;have r4:=u1.trans s4;replace e1:=r4 _ _ e1;replace e3:=r4 _ _ e3;replace e4:=r4 _ _ e4;replace e8:=r4 _ _ e8;replace e9:=r4 _ _ e9;replace e10:=r4 _ _ e10;replace e11:=r4 _ _ e11;replace g8:=r4 _ _ g8;replace g11:=r4 _ _ g11;replace i14:=r4 _ _ i14;replace j14:=r4 _ _ j14;clear r4 u1 s4 hv1 ft1 i12 j12 g4;refine h13 _ _ _ ⟨_,rfl,x4,A.ru,d4,_,_,rfl,e4,M.ru.cl,M.ru.no _ (.tail _ (.head _)),rF_c _ _ _ _,x1,A.ts,d1,_,_,rfl,e1,M.ts.cl,M.ts.no _ (.head _),f2_a _ _ fv,_,rfl,x4,A.ru,d4,_,_,rfl,e4,M.ru.cl,M.ru.no _ (.tail _ (.head _)),rF_c _ _ _ _,x1,A.ts,d1,_,_,rfl,e1,M.ts.cl,M.ts.no _ (.tail _ (.head _)),f2_b _ _,_,rfl,x4,A.ru,d4,_,_,rfl,e4,M.ru.cl,M.ru.no _ (.tail _ (.tail _ (.head _))),rF_t _ _ _ _,x3,A.is_,d3,_,_,rfl,e3,M.is_.cl,M.is_.no _ (.head _),f2_a _ _ fv,_,rfl,x4,A.ru,d4,_,_,rfl,e4,M.ru.cl,M.ru.no _ (.tail _ (.tail _ (.head _))),rF_t _ _ _ _,x3,A.is_,d3,_,_,rfl,e3,M.is_.cl,M.is_.no _ (.tail _ (.head _)),f2_b _ _,sm 4 (by decide),fun t1 ft1=>?_⟩;have u1:=Same.new (o:=.tup [.str "f",.non,.str "f",.str "on"]) ft1;intro v2 G5 s5 hv2;refine zD1 (G:=Any) (.tup trivial (s5 _ _ zA1) (by show 4≤1000;decide) (.cons (.str _ (by decide) (by decide +kernel)) (.cons .non (.cons (.str _ (by decide) (by decide +kernel)) (.cons (.str _ (by decide) (by decide +kernel)) .nil))))) hv2 (by decide) ⟨_,rfl,iteF ?_⟩;have r5:=u1.trans s5;replace e8:=r5 _ _ e8;replace e9:=r5 _ _ e9;replace e10:=r5 _ _ e10;replace e11:=r5 _ _ e11;replace g8:=r5 _ _ g8;replace g11:=r5 _ _ g11;replace i14:=r5 _ _ i14;replace j14:=r5 _ _ j14;clear r5 u1 s5 hv2 ft1 e1 e3 e4;refine h14 _ _ _ fun x15 d15 hx15 hd15 ne15=>⟨x15,d15,.str "f",.str "on",true,true,rfl,zA1,nmT (by decide +kernel),nmT (by decide +kernel),fun _ G6 e15 b15=>⟨rfl,fun x16 d16 hx16 hd16 ne16=>⟨x16,d16,.str "g",true,rfl,zA1,nmT (by decide +kernel),fun _ G7 e16 b16=>⟨rfl,sm 2 (by decide),fun l17 f17=>?_⟩,fun h=>nomatch h⟩⟩,fun h=>nomatch h⟩;have a15:=zAl hx15 hd15 ne15 b15;have a16:=zAl hx16 hd16 ne16 b16;have a17:=Same.new (o:=.lst [.ref x15,.ref x16]) f17;have e17:(upd G7 l17 (.lst [.ref x15,.ref x16])) l17=some (.lst [.ref x15,.ref x16]):=zA1;generalize upd G7 l17 (.lst [.ref x15,.ref x16])=G8 at a17 e17 ⊢;intro x18 d18 hx18 hd18 ne18;have s18:=zA6 (C:=A.bo) hx18 hd18 ne18;replace e15:=(a16.trans a17) _ _ e15;replace e16:=a17 _ _ e16;refine ⟨x18,d18,.ref l17,true,rfl,zA1,.inr ⟨l17,_,rfl,s18 _ _ e17,by show 2≤10;decide,[true,true],.cons (isF M .cc true (t:=.ow) (M.ow.ty (s18 _ _ e15)) rfl) (.cons (isF M .cc true (t:=.me) (M.me.ty (s18 _ _ e16)) rfl) .nil),rfl⟩,fun _ G9 l18 e18 c18 b18=>⟨rfl,?_⟩,fun h=>nomatch h⟩;have a18:=zAl hx18 hd18 ne18 b18;obtain ⟨_,_,z,g1,g18,_⟩:=c18;cases z;rw [s18 _ _ e17] at g1;cases g1;have r9:=(a15.trans (a16.trans a17)).trans a18;replace e8:=r9 _ _ e8;replace e9:=r9 _ _ e9;replace e10:=r9 _ _ e10;replace e11:=r9 _ _ e11;replace g8:=r9 _ _ g8;replace g11:=r9 _ _ g11;replace i14:=r9 _ _ i14;replace j14:=r9 _ _ j14;replace e15:=a18 _ _ e15;replace e16:=a18 _ _ e16;clear r9 a15 a16 a17 a18 s18 b18 b15 b16 hx15 hx16 hx18 hd15 hd16 hd18 ne15 ne16 ne18 f17 e17;refine h15 _ _ _ ⟨_,rfl,x18,A.bo,d18,_,_,rfl,e18,M.bo.cl,M.bo.no _ (.head _),f1_at _ _,l18,_,rfl,.inl (SqL.of g18),rfl,_,rfl,iteF ⟨_,rfl,x18,A.bo,d18,_,_,rfl,e18,M.bo.cl,M.bo.no _ (.head _),f1_at _ _,l18,_,0,_,rfl,rfl,SqL.of g18,rfl,x15,A.ow,d15,_,_,rfl,e15,M.ow.cl,M.ow.no _ (.tail _ (.head _)),f2_b _ _,rfl,_,rfl,iteF ⟨_,rfl,x18,A.bo,d18,_,_,rfl,e18,M.bo.cl,M.bo.no _ (.head _),f1_at _ _,l18,_,1,_,rfl,rfl,SqL.of g18,rfl,x16,A.me,d16,_,_,rfl,e16,M.me.cl,M.me.no _ (.head _),f1_at _ _,rfl,_,rfl,iteF ?_⟩⟩⟩;refine h16 _ _ _ ⟨_,rfl,x11,A.ru,d11,_,_,rfl,e11,M.ru.cl,M.ru.no _ (.tail _ (.tail _ (.head _))),rF_t _ _ _ _,x10,A.no,d10,_,_,rfl,e10,M.no.cl,M.no.no _ (.head _),f1_at _ _,_,_,_,_,_,rfl,M.wa.ty e9,rfl,M.kit .wa .wa,_,rfl,iteF ⟨_,rfl,x11,A.ru,d11,_,_,rfl,e11,M.ru.cl,M.ru.no _ (.tail _ (.head _)),rF_c _ _ _ _,x8,A.tm,d8,_,_,rfl,e8,M.tm.cl,M.tm.no _ (.head _),f1_at _ _,sm 0 (by decide),fun l19 f19=>?_⟩⟩;have a19:=Same.new (o:=.lst []) f19;refine zD1 (G:=Any) (G':=Any) (d:=.list []) (.lst trivial (a19 _ _ g8) (by show 0≤1000;decide) .nil) (.lst trivial zA1 (by show 0≤1000;decide) .nil) (by decide) ⟨_,rfl,iteF ?_⟩;generalize upd G9 l19 (.lst [])=G10 at a19 ⊢;refine fun x20 d20 hx20 hd20 ne20=>⟨x20,d20,.str "f",.str "on",true,true,rfl,zA1,nmT (by decide +kernel),.inr ⟨(fun z=>nomatch z),nmT (by decide +kernel)⟩,fun _ G11 e20 b20=>⟨rfl,x20,A.ts,d20,_,_,rfl,e20,M.ts.cl,M.ts.no _ (.tail _ (.head _)),f2_b _ _,rfl,_,rfl,iteF ?_⟩,fun h=>nomatch h⟩;have r11:=a19.trans (zAl hx20 hd20 ne20 b20);replace e11:=r11 _ _ e11;replace g11:=r11 _ _ g11;replace i14:=r11 _ _ i14;replace j14:=r11 _ _ j14;clear r11 a19 b20 hx20 hd20 ne20 e20 f19 e8 e9 e10 g8 e15 e16 e18 g18;refine h17 _ _ _ ?_;intro x21 d21 hx21 hd21 ne21;have a21:=zA6 (C:=A.al) hx21 hd21 ne21;have e21:(upd (upd G11 d21 (.own x21)) x21 (.ins A.al d21 [])) x21=some (.ins A.al d21 []):=zA1;generalize upd (upd G11 d21 (.own x21)) x21 (.ins A.al d21 [])=G12 at a21 e21 ⊢;intro x22 d22 hx22 hd22 ne22;have a22:=zA6 (C:=A.wa) hx22 hd22 ne22;have e22:(upd (upd G12 d22 (.own x22)) x22 (.ins A.wa d22 [])) x22=some (.ins A.wa d22 []):=zA1;generalize upd (upd G12 d22 (.own x22)) x22 (.ins A.wa d22 [])=G13 at a22 e22 ⊢;refine ⟨sm 2 (by decide),fun l23 f23=>?_⟩;have a23:=Same.new (o:=.lst [.ref x21,.ref x22]) f23;have e23:(upd G13 l23 (.lst [.ref x21,.ref x22])) l23=some (.lst [.ref x21,.ref x22]):=zA1;generalize upd G13 l23 (.lst [.ref x21,.ref x22])=G14 at a23 e23 ⊢;intro x24 d24 hx24 hd24 ne24;have s24:=zA6 (C:=A.ei) hx24 hd24 ne24;refine ⟨x24,d24,.ref l23,true,rfl,zA1,.inr ⟨l23,_,rfl,s24 _ _ e23,by show 2≤10;decide,[true,true],.cons (isF M .cc true (t:=.al) (M.al.ty (s24 _ _ ((a22.trans a23) _ _ e21))) rfl) (.cons (isF M .cc true (t:=.wa) (M.wa.ty (s24 _ _ (a23 _ _ e22))) rfl) .nil),rfl⟩,fun _ G15 l24 e24 c24 b24=>⟨rfl,?_⟩,fun h=>nomatch h⟩;have a24:=zAl hx24 hd24 ne24 b24;obtain ⟨_,_,z,g1,g24,_⟩:=c24;cases z;rw [s24 _ _ e23] at g1;cases g1;have r15:=(a21.trans (a22.trans a23)).trans a24;replace e11:=r15 _ _ e11;replace g11:=r15 _ _ g11;replace i14:=r15 _ _ i14;replace j14:=r15 _ _ j14;refine ⟨x24,A.ei,d24,_,_,rfl,e24,M.ei.cl,M.ei.no _ (.head _),f1_at _ _,l24,_,rfl,.inl (SqL.of g24),rfl,_,rfl,iteF ?_⟩;clear r15 a21 a22 a23 a24 s24 e21 e22 e23 e24 g24 b24 hx21 hx22 hx24;refine h18 _ _ _ ⟨_,rfl,x14,A.tm,d14,_,_,rfl,i14,M.tm.cl,M.tm.no _ (.head _),f1_at _ _,sm 2 (by decide),fun l25 f25=>?_⟩;have a25:=Same.new (o:=.lst [.str "f",.str "g"]) f25;refine eq_same (G:=Any) (G':=Any) (d:=.list [.str "f",.str "g"]) (.lst trivial (a25 _ _ j14) (by show 2≤1000;decide) (.cons (.str _ (by decide) (by decide +kernel)) (.cons (.str _ (by decide) (by decide +kernel)) .nil))) (.lst trivial zA1 (by show 2≤1000;decide) (.cons (.str _ (by decide) (by decide +kernel)) (.cons (.str _ (by decide) (by decide +kernel)) .nil))) (by decide) ⟨_,rfl,iteT ?_⟩;replace e11:=a25 _ _ e11;replace g11:=a25 _ _ g11;generalize upd G15 l25 (.lst [.str "f",.str "g"])=G16 at e11 g11 ⊢;refine ⟨_,rfl,x11,A.ru,d11,_,_,rfl,e11,M.ru.cl,M.ru.no _ (.tail _ (.tail _ (.tail _ (.head _)))),rF_b _ _ _ _,sm 1 (by decide),fun l26 f26=>?_⟩;have a26:=Same.new (o:=.lst [.str "lid"]) f26;refine eq_same (G:=Any) (G':=Any) (d:=.list [.str "lid"]) (.lst trivial (a26 _ _ g11) (by show 1≤1000;decide) (.cons (.str _ (by decide) (by decide +kernel)) .nil)) (.lst trivial zA1 (by show 1≤1000;decide) (.cons (.str _ (by decide) (by decide +kernel)) .nil)) (by decide) ⟨_,rfl,iteT ?_⟩;refine ⟨sm 0 (by decide),fun l27 f27=>?_⟩;intro x28 d28 hx28 hd28 ne28;have s28:=zA6 (C:=A.ha) hx28 hd28 ne28;refine ⟨x28,d28,.str "a",.ref l27,true,true,rfl,zA1,nmT (by decide +kernel),.inr ⟨l27,_,rfl,s28 _ _ zA1,by decide,[],.nil,rfl⟩,fun _ G17 l28 e28 c28 b28=>⟨rfl,?_⟩,fun h=>nomatch h⟩;obtain ⟨_,_,z,g1,g28,_⟩:=c28;cases z;rw [s28 _ _ zA1] at g1;cases g1;refine ⟨x28,A.ha,d28,_,_,rfl,e28,M.ha.cl,M.ha.no _ (.tail _ (.head _)),f2_b _ _,sm 0 (by decide),fun l29 f29=>?_⟩;exact eq_same (G:=Any) (G':=Any) (d:=.list []) (.lst trivial ((Same.new f29) _ _ g28) (by show 0≤1000;decide) .nil) (.lst trivial zA1 (by show 0≤1000;decide) .nil) (by decide) (q _)
end
end L2.W
namespace L2.W
open PySem My
noncomputable def spCellAt (K:PySem.W.Frag):Sp:=fun vs H Q _=>∃ (a:Addr) (ns:List Int),vs=[.ref a,.int 0]∧SqL K H a (ns.map V.int)∧∀ z:Int,Q (.int z) H
section
variable {P:Program}{w:World}{K:PySem.W.Frag}{mg:Str→Option Value}{base:Heap}{CX:CXT}
theorem scCa:FnScope ["_law_script", "_law_k"] ["_law_script", "_law_k"] (defScope sCellAt):=⟨rfl,rfl,rfl,by decide +kernel,rfl,by decide +kernel,by decide +kernel⟩
theorem ok_cellAt {f:Addr}{fd:FuncData} (T:Tops K mg) (F:Fun K "_law_cell_at" "_law_cell_at" sCellAt f fd):FnOk P w K mg base CX 1 f fd ["_law_script", "_law_k"] (spCellAt K):=by
 refine Fun.okC F scCa (fun vs H Q E h=>?_) (fun cdv A outer s H vs Q E hr h=>?_)
 ·obtain ⟨a,ns,rfl,_⟩:=h;rfl
 ·obtain ⟨a,ns,rfl,ha,k⟩:=h
  refine ⟨_,zA8 (zAp (zAi op_lt (pv 1) (zAb zB2 rfl T.len PySem.boot_len (zA0 (pv 0) zA2)) (nomark _))
     (zA3 (zAj (zAv zAc (pv 0) (pv 1) (fun _ _=>rfl)))) zAe)
     (zA3 (zAj zA5)),?_⟩
  refine ⟨_,rfl,_,rfl,a,_,rfl,.inl ha,_,_,rfl,rfl,_,rfl,?_⟩;refine ite2 (fun c=>?_) (fun c=>k 0);have c':=of_decide_eq_true c;cases ns with
  | nil=>exact absurd c' (by decide)
  | cons z t=>exact ⟨_,rfl,_,rfl,a,_,((0:Nat):Int),_,rfl,rfl,ha,atI_nat rfl,k z⟩
end
end L2.W
namespace L2.W
open PySem My
noncomputable def spLaw32 (K:PySem.W.Frag):Sp:=fun vs H Q _=>∃ (a:Addr) (ns:List Int),vs=[.ref a]∧SqL K H a (ns.map V.int)∧ns.length≤63∧∀ H',Q (.bl true) H'
structure Asks32 (P:Program) (w:World) (K:PySem.W.Frag) (mg:Str→Option Value) (base:Heap) (A:CS) (CN fc fd fr fb fg:Addr) (dc dd dr db dg dNo dRu:FuncData):Prop where
 T:Tops K mg
 M:CM K mg A
 Dc:Def K mg "_law_cell_at" sCellAt ["_law_script", "_law_k"] fc dc
 Gc:FnOk P w K mg base (CXM P w) 1 fc dc ["_law_script", "_law_k"] (spCellAt K)
 Dd:Def K mg "_law_digits" sDigits ["_law_cell"] fd dd
 Gd:FnOk P w K mg base (CXM P w) 1 fd dd ["_law_cell"] spDigits
 Dr:Def K mg "_law_refused" sRefused ["_law_way", "_law_things"] fr dr
 Gr:FnOk P w K mg base (CXM P w) 6 fr dr ["_law_way", "_law_things"] (spRef K A)
 Db:Def K mg "_law_bad" sBad ["_law_source", "_law_way"] fb db
 Gb:FnOk P w K mg base (CXM P w) 6 fb db ["_law_source", "_law_way"] (spBad K A)
 Dg:Def K mg "_law_good" sGood [] fg dg
 Gg:FnOk P w K mg base (CXM P w) 6 fg dg [] spGood
 GN:FnOk P w K mg base (CXM P w) 1 A.fNo dNo ["self", "condition"] (spNo K A CN)
 bN:Binds K dNo ["self", "condition"] []
theorem Way.same {K:PySem.W.Frag}{A:CS}{H H':Hp}{n:Nat}{v:V}{b:Bool} (n9:n≤9) (h:Way K A H n v b) (s:Same H H'):Way K A H' n v b:=by
 have nn:∀ {v b},Two (NmV K H) (NmV K H) H v b→Two (NmV K H') (NmV K H') H' v b:=fun ⟨l,x,y,b1,b2,e,hl,n1,n2,eb⟩=>⟨l,x,y,b1,b2,e,s _ _ hl,n1.same s,n2.same s,eb⟩;have n10:n=0∨n=1∨n=2∨n=3∨n=4∨n=5∨n=6∨n=7∨n=8∨n=9:=by omega
 rcases n10 with rfl | rfl | rfl | rfl | rfl | rfl | rfl | rfl | rfl | rfl
 ·exact nn h
 ·obtain ⟨l,x,e,hl,n1⟩:=h;exact ⟨l,x,e,s _ _ hl,n1.same s⟩
 ·exact nn h
 ·exact LstV.same (fun x s=>x.same s) h s
 ·obtain ⟨l,x,y,b1,b2,e,hl,n1,n2,eb⟩:=h;exact ⟨l,x,y,b1,b2,e,s _ _ hl,n1.same s,n2.same s,eb⟩
 ·obtain ⟨l,x,e,hl,n1⟩:=h;exact ⟨l,x,e,s _ _ hl,n1.same s⟩
 ·exact LstV.same (fun x s=>x.same s) h s
 ·exact LstV.same (fun x s=>x.same s) h s
 ·obtain ⟨l,k,c,t,u,b1,b2,b3,b4,e,hl,n1,n2,n3,n4,eb⟩:=h;exact ⟨l,k,c,t,u,b1,b2,b3,b4,e,s _ _ hl,n1.same s,n2.same s,n3.same s,n4.same s,eb⟩
 ·obtain ⟨l,x,y,b1,b2,e,hl,n1,n2,eb⟩:=h;exact ⟨l,x,y,b1,b2,e,s _ _ hl,n1.same s,LstV.same (fun x s=>x.same s) n2 s,eb⟩
theorem has_rep {G:Addr→Prop}{H:Hp}{x:Str} (h1:x.length≤1000) (h2:PyData.strOk x=true):∀ n:Nat,HasAll G H (List.replicate n (V.str x)) (List.replicate n (PyData.str x))
 | 0=>.nil
 | n + 1=>.cons (.str _ h1 h2) (has_rep h1 h2 n)
noncomputable abbrev nL32:List Str:=["_law_script", "_law_source", "_law_way", "_law_k", "_law_some"]
noncomputable abbrev nL32b:List Str:=["_law_script", "_law_source", "?", "_law_k", "_law_some"]
section
variable {P:Program}{w:World}{K:PySem.W.Frag}{mg:Str→Option Value}{base:Heap}
theorem scL32:FnScope nL32 ["_law_script"] (defScope sLaw):=⟨rfl,rfl,rfl,by decide +kernel,rfl,by decide +kernel,by decide +kernel⟩
theorem sameL32:sameN nL32 nL32b [2]:=by unfold sameN;decide +kernel
set_option maxHeartbeats 4000000 in
theorem ok_law32 {f CN fc fd fr fb fg:Addr}{fdl dc dd dr db dg dNo dRu:FuncData}{A0:CS} (F:Fun K "law" "law" sLaw f fdl) (A:Asks32 P w K mg base A0 CN fc fd fr fb fg dc dd dr db dg dNo dRu):FnOk P w K mg base (CXM P w) 7 f fdl ["_law_script"] (spLaw32 K):=by
 have T:=A.T;have M:=A.M;have hC:Calm (CXM P w):=calmM;refine Fun.okC F scL32 (fun vs H Q E h=>?_) (fun cdv Ar outer s H vs Q E hr h=>?_)
 ·obtain ⟨a,ns,rfl,_⟩:=h;rfl
 obtain ⟨a,nums,rfl,hS,hlen,q⟩:=h;have nd:=scL32.nd;have hr1:=hr.mono (show 1≤6 by decide);have hr2:=hr.mono (show 2≤6 by decide);refine zAh (zAn (i:=1) nd rfl (Or.inl rfl) (zAd A.Gd hr1 rfl A.Dd.at_ A.Dd.fn.kp A.Dd.bind .nil (passC hC) (zA0 (zAd A.Gc hr1 rfl A.Dc.at_ A.Dc.fn.kp A.Dc.bind .nil (passC hC) (zA0 (pv 0) (zA0 zA5 zA2))) zA2))) fun S1 h1=>?_;refine bd_blk (fun tb pb=>ps_for PassesOwn.never rfl (zBh rfl T.range (zA0 zA5 zA2)) (zBb (i:=2) nd rfl (Or.inl rfl)) pb) ?_;refine bd_blk1 (fun tb pb=>ps_for PassesOwn.never rfl (zBh rfl T.range (zA0 zA5 zA2)) (zBb (i:=3) nd rfl (Or.inl rfl)) pb) ?_
 refine bd_one (zAp (zAi op_ne (zAd A.Gr hr rfl A.Dr.at_ A.Dr.fn.kp A.Dr.bind .nil (passC hC) (zA0 (pv 2) (zA0 (zAd A.Gb hr rfl A.Db.at_ A.Db.fn.kp A.Db.bind .nil (passC hC) (zA0 (pv 1) (zA0 (pv 2) zA2))) zA2))) zA7 (nomark _))
    (zA3 (zAj zBu)) zAe) fun S2_1_1 h2_1_1=>?_
 intro S2_1 h2_1;intro S2 h2;refine zAh (zAn (i:=4) nd rfl (Or.inr rfl) (zA9 (zA0 (zA9 (zA0 zA7 (zA0 zA7 zA2))) (zA0 (zA9 (zA0 zA7 zA2)) (zA0 (zA9 (zA0 zA7 (zA0 zA7 zA2))) (zA0 (zA9 (zA0 zA7 (zA0 zA7 zA2))) (zA0 (zA9 (zA0 zA7 (zA0 zBa zA2))) (zA0 (zA9 (zA0 (zAf M.kal rfl M.al.g) zA2)) (zA0 (zA9 (zA0 (zAf M.kal rfl M.al.g) (zA0 (zAf M.kal rfl M.al.g) zA2))) zA2))))))))) fun S3 h3=>?_;refine zAh (zAn (i:=4) nd rfl (Or.inr rfl) (zB0 op_cat (pv 4) (zA9 (zA0 (zA9 (zA0 (zAx M.kno A.GN hr2 rfl M.no.g A.bN .nil (passC hC) (zA0 (zAf M.kwa rfl M.wa.g) zA2)) (zA0 (zAf M.kwa rfl M.wa.g) (zA0 (zAf M.kal rfl M.al.g) zA2)))) (zA0 (zA9 (zA0 zA7 (zA0 (zAf M.ktt rfl M.tt.g) (zA0 (zAf M.kwa rfl M.wa.g) (zA0 (zA9 zA2) zA2))))) (zA0 (zA9 (zA0 zA7 (zA0 (zA9 zA2) zA2))) zA2)))))) fun S4 h4=>?_
 refine zAh (ps_re nL32b [2] sameL32 (zAp (zAi (op_neD hr.units) (zBi (T:=["_law_way"]) rfl ScOk.auto (zBh rfl T.range (zA0 zA5 zA2)) (fun _ _ _ _=>zBb (i:=5) (by decide +kernel:(["_law_script", "_law_source", "?", "_law_k", "_law_some", "_law_way"]:List Str).Nodup) rfl (Or.inl rfl)) (fun _ _ _ _=>zC6) (fun _ _ _ _=>(zAd A.Gr hr rfl A.Dr.at_ A.Dr.fn.kp A.Dr.bind .nil (passC hC) (zA0 (pv 5) (zA0 (zAv (r:=rIxL K) zAc (pv 4) (pv 5) (fun _ _=>rfl)) zA2))))) (zB0 op_rep (zA9 (zA0 zA7 zA2)) zA5) (nomark _))
    (zA3 (zAj zBu)) zAe)) fun S5 h5=>?_
 refine bd_one (zAj (zBq (zB7 zBk (zAd A.Gr hr rfl A.Dr.at_ A.Dr.fn.kp A.Dr.bind .nil (passC hC) (zA0 zA5 (zA0 (zA9 zA2) zA2))) zA7 (nomark _)) (zBq (zB7 zBk (zAd A.Gr hr rfl A.Dr.at_ A.Dr.fn.kp A.Dr.bind .nil (passC hC) (zA0 zA5 (zA0 (zA9 (zA0 zA7 (zA0 zA7 zA2))) zA2))) zA7 (nomark _)) (zCf (zCy A.Gg hr rfl A.Dg.at_ A.Dg.fn.kp A.Dg.bind .nil (passC hC)))))) fun S6 h6=>?_;have sm:∀ (n:Nat),n≤1000→n≤sizeLine:=fun n h=>Za (small1000 h);have unl:∀ {H:Hp} (ks:List Str),(decide (ks.length≤10) && ks.all fun x=>decide (x.length≤1000) && nameB x)=true→decide ks.Nodup=true→UnlV K H (ks.map V.str) true:=fun {H} ks h e=>by
  have y:=zBs (K:=K) (H:=H) (ks:=ks) h;rw [e] at y;exact y
 refine h1 _ _ _ ⟨_,rfl,a,nums,rfl,hS,fun z0=>⟨z0,rfl,fun p H1 hq S1 s1 k1=>?_⟩⟩;refine h2 _ _ _ ⟨((10:Nat):Int),rfl,by decide,by decide,for_range (n:=10) (fun i σ H'=>∃ x2 x3:Option V,σ = [some (.ref a),some (.ref p),x2,x3,none]∧Src H' p (100 * i)) ⟨_,_,rfl,S1.mono (by omega)⟩ ?_ ?_⟩
 ·rintro i σ H2 hi ⟨x2,x3,rfl,S2⟩;rw [Int.zero_add];refine h2_1 _ _ _ ⟨((3:Nat):Int),rfl,by decide,by decide,for_range (n:=3) (fun j σ H'=>∃ x3:Option V,σ = [some (.ref a),some (.ref p),some (.int (i:Int)),x3,none]∧Src H' p (100 * i + 10 * j)) ⟨_,rfl,S2.mono (by omega)⟩ ?_ (fun σ H' ⟨x3,e,S⟩=>⟨_,_,e,S.mono (by push_cast;omega)⟩)⟩;rintro j σ H3 hj ⟨x3,rfl,S3⟩;exact h2_1_1 _ _ _ ⟨_,rfl,_,rfl,_,rfl,p,_,i,rfl,by omega,S3,by omega,fun v H4 wv S4=>⟨i,v,false,rfl,by omega,wv,fun H5 s5=>⟨rfl,_,rfl,iteF ⟨_,rfl,(S4.up s5).mono (by push_cast;omega)⟩⟩⟩⟩
 rintro σ G0 ⟨x2,x3,rfl,_⟩;refine h3 _ _ _ ?_;refine ⟨sm 2 (by decide),fun l1 f1=>?_⟩;have a1:=Same.new (o:=.lst [.str "f",.str "on"]) f1;have e1:(upd G0 l1 (.lst [.str "f",.str "on"])) l1=some (.lst [.str "f",.str "on"]):=zA1;generalize upd G0 l1 (.lst [.str "f",.str "on"])=G1 at a1 e1 ⊢;refine ⟨sm 1 (by decide),fun l2 f2=>?_⟩;have a2:=Same.new (o:=.lst [.str "f"]) f2;have e2:(upd G1 l2 (.lst [.str "f"])) l2=some (.lst [.str "f"]):=zA1;generalize upd G1 l2 (.lst [.str "f"])=G2 at a2 e2 ⊢;refine ⟨sm 2 (by decide),fun l3 f3=>?_⟩;have a3:=Same.new (o:=.lst [.str "f",.str "on"]) f3;have e3:(upd G2 l3 (.lst [.str "f",.str "on"])) l3=some (.lst [.str "f",.str "on"]):=zA1;generalize upd G2 l3 (.lst [.str "f",.str "on"])=G3 at a3 e3 ⊢;refine ⟨sm 2 (by decide),fun l4 f4=>?_⟩;have a4:=Same.new (o:=.lst [.str "f",.str "g"]) f4;have e4:(upd G3 l4 (.lst [.str "f",.str "g"])) l4=some (.lst [.str "f",.str "g"]):=zA1;generalize upd G3 l4 (.lst [.str "f",.str "g"])=G4 at a4 e4 ⊢;refine ⟨sm 2 (by decide),fun l5 f5=>?_⟩;have a5:=Same.new (o:=.lst [.str "f",.non]) f5;have e5:(upd G4 l5 (.lst [.str "f",.non])) l5=some (.lst [.str "f",.non]):=zA1;generalize upd G4 l5 (.lst [.str "f",.non])=G5 at a5 e5 ⊢;intro x6 d6 hx6 hd6 ne6;have a6:=zA6 (C:=A0.al) hx6 hd6 ne6;have e6:(upd (upd G5 d6 (.own x6)) x6 (.ins A0.al d6 [])) x6=some (.ins A0.al d6 []):=zA1;generalize upd (upd G5 d6 (.own x6)) x6 (.ins A0.al d6 [])=G6 at a6 e6 ⊢;refine ⟨sm 1 (by decide),fun l7 f7=>?_⟩;have a7:=Same.new (o:=.lst [.ref x6]) f7;have e7:(upd G6 l7 (.lst [.ref x6])) l7=some (.lst [.ref x6]):=zA1;generalize upd G6 l7 (.lst [.ref x6])=G7 at a7 e7 ⊢;intro x8 d8 hx8 hd8 ne8;have a8:=zA6 (C:=A0.al) hx8 hd8 ne8;have e8:(upd (upd G7 d8 (.own x8)) x8 (.ins A0.al d8 [])) x8=some (.ins A0.al d8 []):=zA1;generalize upd (upd G7 d8 (.own x8)) x8 (.ins A0.al d8 [])=G8 at a8 e8 ⊢;intro x9 d9 hx9 hd9 ne9;have a9:=zA6 (C:=A0.al) hx9 hd9 ne9;have e9:(upd (upd G8 d9 (.own x9)) x9 (.ins A0.al d9 [])) x9=some (.ins A0.al d9 []):=zA1;generalize upd (upd G8 d9 (.own x9)) x9 (.ins A0.al d9 [])=G9 at a9 e9 ⊢;refine ⟨sm 2 (by decide),fun l10 f10=>?_⟩;have a10:=Same.new (o:=.lst [.ref x8,.ref x9]) f10;have e10:(upd G9 l10 (.lst [.ref x8,.ref x9])) l10=some (.lst [.ref x8,.ref x9]):=zA1;generalize upd G9 l10 (.lst [.ref x8,.ref x9])=GA at a10 e10 ⊢;refine ⟨sm 7 (by decide),fun l11 f11=>?_⟩;have a11:=Same.new (o:=.lst [.ref l1,.ref l2,.ref l3,.ref l4,.ref l5,.ref l7,.ref l10]) f11;have e11:(upd GA l11 (.lst [.ref l1,.ref l2,.ref l3,.ref l4,.ref l5,.ref l7,.ref l10])) l11=some (.lst [.ref l1,.ref l2,.ref l3,.ref l4,.ref l5,.ref l7,.ref l10]):=zA1;generalize upd GA l11 (.lst [.ref l1,.ref l2,.ref l3,.ref l4,.ref l5,.ref l7,.ref l10])=GB at a11 e11 ⊢;refine h4 _ _ _ ⟨_,rfl,?_⟩;intro x12 d12 hx12 hd12 ne12;have a12:=zA6 (C:=A0.wa) hx12 hd12 ne12;have e12:(upd (upd GB d12 (.own x12)) x12 (.ins A0.wa d12 [])) x12=some (.ins A0.wa d12 []):=zA1;generalize upd (upd GB d12 (.own x12)) x12 (.ins A0.wa d12 [])=GC at a12 e12 ⊢;intro x13 d13 hx13 hd13 ne13;have s13:=zA6 (C:=A0.no) hx13 hd13 ne13;refine ⟨x13,d13,.ref x12,true,rfl,zA1,isF M .cc true (t:=.wa) (M.wa.ty (s13 _ _ e12)) rfl,fun _ GD e13 b13=>⟨rfl,?_⟩,fun h=>nomatch h⟩;have a13:=zAl hx13 hd13 ne13 b13;intro x14 d14 hx14 hd14 ne14;have a14:=zA6 (C:=A0.wa) hx14 hd14 ne14;have e14:(upd (upd GD d14 (.own x14)) x14 (.ins A0.wa d14 [])) x14=some (.ins A0.wa d14 []):=zA1;generalize upd (upd GD d14 (.own x14)) x14 (.ins A0.wa d14 [])=GE at a14 e14 ⊢;intro x15 d15 hx15 hd15 ne15;have a15:=zA6 (C:=A0.al) hx15 hd15 ne15;have e15:(upd (upd GE d15 (.own x15)) x15 (.ins A0.al d15 [])) x15=some (.ins A0.al d15 []):=zA1;generalize upd (upd GE d15 (.own x15)) x15 (.ins A0.al d15 [])=GF at a15 e15 ⊢;refine ⟨sm 3 (by decide),fun l16 f16=>?_⟩;have a16:=Same.new (o:=.lst [.ref x13,.ref x14,.ref x15]) f16;have e16:(upd GF l16 (.lst [.ref x13,.ref x14,.ref x15])) l16=some (.lst [.ref x13,.ref x14,.ref x15]):=zA1;generalize upd GF l16 (.lst [.ref x13,.ref x14,.ref x15])=GG at a16 e16 ⊢;intro x17 d17 hx17 hd17 ne17;have a17:=zA6 (C:=A0.tt) hx17 hd17 ne17;have e17:(upd (upd GG d17 (.own x17)) x17 (.ins A0.tt d17 [])) x17=some (.ins A0.tt d17 []):=zA1;generalize upd (upd GG d17 (.own x17)) x17 (.ins A0.tt d17 [])=GH at a17 e17 ⊢;intro x18 d18 hx18 hd18 ne18;have a18:=zA6 (C:=A0.wa) hx18 hd18 ne18;have e18:(upd (upd GH d18 (.own x18)) x18 (.ins A0.wa d18 [])) x18=some (.ins A0.wa d18 []):=zA1;generalize upd (upd GH d18 (.own x18)) x18 (.ins A0.wa d18 [])=GI at a18 e18 ⊢;refine ⟨sm 0 (by decide),fun l19 f19=>?_⟩;have a19:=Same.new (o:=.lst []) f19;have e19:(upd GI l19 (.lst [])) l19=some (.lst []):=zA1;generalize upd GI l19 (.lst [])=GJ at a19 e19 ⊢;refine ⟨sm 4 (by decide),fun l20 f20=>?_⟩;have a20:=Same.new (o:=.lst [.str "box",.ref x17,.ref x18,.ref l19]) f20;have e20:(upd GJ l20 (.lst [.str "box",.ref x17,.ref x18,.ref l19])) l20=some (.lst [.str "box",.ref x17,.ref x18,.ref l19]):=zA1;generalize upd GJ l20 (.lst [.str "box",.ref x17,.ref x18,.ref l19])=GK at a20 e20 ⊢;refine ⟨sm 0 (by decide),fun l21 f21=>?_⟩;have a21:=Same.new (o:=.lst []) f21;have e21:(upd GK l21 (.lst [])) l21=some (.lst []):=zA1;generalize upd GK l21 (.lst [])=GL at a21 e21 ⊢;refine ⟨sm 2 (by decide),fun l22 f22=>?_⟩;have a22:=Same.new (o:=.lst [.str "one",.ref l21]) f22;have e22:(upd GL l22 (.lst [.str "one",.ref l21])) l22=some (.lst [.str "one",.ref l21]):=zA1;generalize upd GL l22 (.lst [.str "one",.ref l21])=GM at a22 e22 ⊢;refine ⟨sm 3 (by decide),fun l23 f23=>?_⟩;have a23:=Same.new (o:=.lst [.ref l16,.ref l20,.ref l22]) f23;have e23:(upd GM l23 (.lst [.ref l16,.ref l20,.ref l22])) l23=some (.lst [.ref l16,.ref l20,.ref l22]):=zA1;generalize upd GM l23 (.lst [.ref l16,.ref l20,.ref l22])=GN at a23 e23 ⊢;have r23:=Same.refl GN;have r22:=a23.trans r23;have r21:=a22.trans r22;have r20:=a21.trans r21;have r19:=a20.trans r20;have r18:=a19.trans r19;have r17:=a18.trans r18;have r16:=a17.trans r17;have r15:=a16.trans r16;have r14:=a15.trans r15;have r13:=a14.trans r14;have r12:=a13.trans r13;have r11:=a12.trans r12;have r10:=a11.trans r11;have r9:=a10.trans r10;have r8:=a9.trans r9;have r7:=a8.trans r8;have r6:=a7.trans r7;have r5:=a6.trans r6;have r4:=a5.trans r5;have r3:=a4.trans r4;have r2:=a3.trans r3;have r1:=a2.trans r2;refine ⟨l11,l23,_,_,rfl,rfl,r11 _ _ e11,e23,sm 10 (by decide),fun l24 f24=>?_⟩;have a24:=Same.new (o:=.lst ([.ref l1,.ref l2,.ref l3,.ref l4,.ref l5,.ref l7,.ref l10]++[.ref l16,.ref l20,.ref l22])) f24;have e24:(upd GN l24 (.lst ([.ref l1,.ref l2,.ref l3,.ref l4,.ref l5,.ref l7,.ref l10]++[.ref l16,.ref l20,.ref l22]))) l24=some (.lst ([.ref l1,.ref l2,.ref l3,.ref l4,.ref l5,.ref l7,.ref l10]++[.ref l16,.ref l20,.ref l22])):=zA1;generalize upd GN l24 (.lst ([.ref l1,.ref l2,.ref l3,.ref l4,.ref l5,.ref l7,.ref l10]++[.ref l16,.ref l20,.ref l22]))=G at a24 e24 ⊢;have tN:∀ {x:Str}{H:Hp},(decide (x.length≤1000) && nameB x)=true→NmV K H (.str x) true:=fun h=>nmT h;have tc:∀ {x d:Addr}{fs:List (Str×V)},GN x=some (.ins A0.al d fs)→IsV K (.ref A0.cc) GN (.ref x) true:=fun e=>isF M .cc true (t:=.al) (M.al.ty e) rfl;have tw:∀ {x d:Addr}{fs:List (Str×V)},GN x=some (.ins A0.wa d fs)→IsV K (.ref A0.cc) GN (.ref x) true:=fun e=>isF M .cc true (t:=.wa) (M.wa.ty e) rfl;have good:∀ i:Nat,i < 10→∃ v,([.ref l1,.ref l2,.ref l3,.ref l4,.ref l5,.ref l7,.ref l10]++[.ref l16,.ref l20,.ref l22]:List V)[i]? = some v∧Way K A0 G i v true:=by
  intro i hi;have key:∃ v,([.ref l1,.ref l2,.ref l3,.ref l4,.ref l5,.ref l7,.ref l10]++[.ref l16,.ref l20,.ref l22]:List V)[i]? = some v∧Way K A0 GN i v true:=by
   have n10:i=0∨i=1∨i=2∨i=3∨i=4∨i=5∨i=6∨i=7∨i=8∨i=9:=by omega
   rcases n10 with rfl | rfl | rfl | rfl | rfl | rfl | rfl | rfl | rfl | rfl
   ·exact ⟨_,rfl,l1,_,_,true,true,rfl,r1 _ _ e1,tN (by decide +kernel),tN (by decide +kernel),rfl⟩
   ·exact ⟨_,rfl,l2,_,rfl,r2 _ _ e2,tN (by decide +kernel)⟩
   ·exact ⟨_,rfl,l3,_,_,true,true,rfl,r3 _ _ e3,tN (by decide +kernel),tN (by decide +kernel),rfl⟩
   ·exact ⟨_,rfl,.inr ⟨l4,_,rfl,r4 _ _ e4,unl ["f", "g"] (by decide +kernel) (by decide +kernel)⟩⟩
   ·exact ⟨_,rfl,l5,_,_,true,true,rfl,r5 _ _ e5,tN (by decide +kernel),.inl ⟨rfl,rfl⟩,rfl⟩
   ·exact ⟨_,rfl,l7,_,rfl,r7 _ _ e7,tc (r6 _ _ e6)⟩
   ·exact ⟨_,rfl,.inr ⟨l10,_,rfl,r10 _ _ e10,by show 2≤10;decide,[true,true],.cons (tc (r8 _ _ e8)) (.cons (tc (r9 _ _ e9)) .nil),rfl⟩⟩
   ·exact ⟨_,rfl,.inr ⟨l16,_,rfl,r16 _ _ e16,by show 3≤10;decide,[true,true,true],.cons (isF M .cc true (t:=.no) (M.no.ty (r13 _ _ e13)) rfl) (.cons (tw (r14 _ _ e14)) (.cons (tc (r15 _ _ e15)) .nil)),rfl⟩⟩
   ·exact ⟨_,rfl,l20,_,_,_,_,true,true,true,true,rfl,r20 _ _ e20,tN (by decide +kernel),isF M .ch true (t:=.tt) (M.tt.ty (r17 _ _ e17)) rfl,tw (r18 _ _ e18),(fun n en=>by cases en;exact .inr ⟨l19,_,rfl,r19 _ _ e19,true,unl [] (by decide +kernel) (by decide +kernel),by decide +kernel⟩),rfl⟩
   ·exact ⟨_,rfl,l22,_,_,true,true,rfl,r22 _ _ e22,tN (by decide +kernel),.inr ⟨l21,_,rfl,r21 _ _ e21,by decide,[],.nil,rfl⟩,rfl⟩
  obtain ⟨v,e,hw⟩:=key;exact ⟨v,e,hw.same (by omega) a24⟩
 clear r1 r2 r3 r4 r5 r6 r7 r8 r9 r10 r11 r12 r13 r14 r15 r16 r17 r18 r19 r20 r21 r22 a1 a2 a3 a4 a5 a6 a7 a8 a9 a10 a11 a12 a13 a14 a15 a16 a17 a18 a19 a20 a21 a22 a23;refine h5 _ _ _ ⟨((10:Nat):Int),rfl,by decide,by decide,comp_range (lo:=0) (n:=10) (fun i ys H'=>Same G H'∧ys=List.replicate i (V.str "made")) ⟨Same.refl _,rfl⟩ (fun i ys H' hi z=>by rw [z.2,List.length_replicate];exact sm _ (by omega)) ?_ ?_⟩
 ·rintro i ys H' hi ⟨s1,rfl⟩ Nn hN;rw [Int.zero_add];obtain ⟨v,ev,hw⟩:=good i hi;exact pick ⟨_,rfl,_,rfl,_,rfl,l24,_,_,v,rfl,rfl,SqL.of (s1 _ _ e24),atI_nat ev,i,v,true,rfl,by omega,hw.same (by omega) s1,fun H2 s2=>hN _ _ ⟨s1.trans s2,by rw [List.replicate_succ'];rfl⟩⟩
 rintro ys H2 ⟨s2,rfl⟩ c fc;refine ⟨sm 1 (by decide),fun l1 f1=>⟨l1,10,_,rfl,rfl,zA1,by decide,by decide,sm 10 (by decide),fun p1 fp1=>?_⟩⟩;rw [show (List.replicate (10:Int).toNat [V.str "made"]).flatten=List.replicate 10 (V.str "made") from rfl];have u1:=Same.new (o:=.lst (List.replicate 10 (V.str "made"))) fc;have u2:=Same.new (o:=.lst [.str "made"]) f1;refine zD1 (G:=Any) (G':=Any) (d:=.list (List.replicate 10 (.str "made"))) (.lst trivial ((u2.trans (Same.new fp1)) _ _ zA1) (by show 10≤1000;decide) (has_rep (by decide) (by decide +kernel) 10)) (.lst trivial zA1 (by show 10≤1000;decide) (has_rep (by decide) (by decide +kernel) 10)) (by decide) ⟨_,rfl,iteF ?_⟩;generalize upd (upd (upd H2 c (.lst (List.replicate 10 (V.str "made")))) l1 (.lst [.str "made"])) p1 (.lst (List.replicate 10 (V.str "made")))=G2;refine h6 _ _ _ ⟨sm 0 (by decide),fun l2 f2=>⟨3,.ref l2,true,rfl,by decide,.inr ⟨l2,_,rfl,zA1,unl [] (by decide +kernel) (by decide +kernel)⟩,fun H3 s3=>⟨rfl,_,rfl,?_⟩⟩⟩;refine iteT ⟨sm 2 (by decide),fun l3 f3=>⟨4,.ref l3,true,rfl,by decide,⟨l3,_,_,true,true,rfl,zA1,tN (by decide +kernel),.inr ⟨(fun z=>nomatch z),tN (by decide +kernel)⟩,rfl⟩,fun H4 s4=>⟨rfl,_,rfl,?_⟩⟩⟩;exact iteT ⟨rfl,q⟩
end
end L2.W
namespace L2.W
open PySem My
noncomputable def ckC (K:PySem.W.Frag) (C:Addr) (nos:List Str):Bool:=PySem.W.plainGet K C Str.empty && (PySem.W.hasDictIn K C && (PySem.W.plainOver K C && (decide (PySem.W.findIn K (.ref C) "__setattr__" = some (some (.builtin "object.__setattr__"))) && (decide (PySem.W.findIn K (.ref C) "__class__" = some (some (.builtin "object.__class__"))) && (decide (PySem.W.mroIn K C (.type "object")=some true) && (PySem.W.makesIn K C && (PySem.W.keepIn K (.ref C) && nos.all fun n=>decide (PySem.W.findIn K (.ref C) n=some none))))))))
noncomputable def ckAll (K:PySem.W.Frag) (l:List (Addr×List Str)):Bool:=l.all fun x=>ckC K x.1 x.2
structure CkO (K:PySem.W.Frag) (C:Addr) (nos:List Str):Prop where
 cl:Cls K C
 ki:KIsi K C
 ms:PySem.W.makesIn K C=true
 kp:PySem.W.keepIn K (.ref C)=true
 no:∀ n∈nos,NoAttr K C n
theorem CkO.co {K:PySem.W.Frag}{mg:Str→Option Value}{x:Str}{C:Addr}{nos:List Str} (k:CkO K C nos) (g:mg x=some (.ref C)):CO K mg x C nos:=⟨g,k.cl,k.ki,k.no⟩
theorem zBe {K:PySem.W.Frag}{C:Addr}{nos:List Str} (hn:PySem.W.specialIn K (.builtin "object.__class__") "__get__" = some (some (.builtin "getset_descriptor.__get__"))) (htk:PySem.W.takesIn K (.builtin "object.__class__")=some true) {l:List (Addr×List Str)} (h:ckAll K l=true) (m:(C,nos)∈l):CkO K C nos:=by
 have z:ckC K C nos=true:=List.all_eq_true.mp h (C,nos) m;unfold ckC at z;simp only [Zk,decide_eq_true_eq,List.all_eq_true] at z;obtain ⟨h1,h2,h3,h4,h5,h6,h9,h10,h11⟩:=z;exact ⟨⟨h1,h2,h3,h4⟩,⟨h5,hn,htk,h6⟩,h9,h10,h11⟩
noncomputable def allTy:List Ty:=[.non,.bl,.int,.lst,.tup,.dic,.str,.al,.wa,.is_,.me,.ow,.no,.tm,.ts,.tt,.ru]
noncomputable def allCl:List Cl:=[.str,.lst,.cc,.ch,.ru,.wa]
noncomputable def kitB (K:PySem.W.Frag) (A:CS):Bool:=allCl.all fun c=>allTy.all fun t=>decide (PySem.W.kitOne K (A.ty t) (A.cl c)=some (isA c t))
theorem kit_of {K:PySem.W.Frag}{A:CS} (h:kitB K A=true) (c:Cl) (t:Ty):PySem.W.kitOne K (A.ty t) (A.cl c)=some (isA c t):=by
 have hc:c∈allCl:=by cases c <;> simp [allCl]
 have ht:t∈allTy:=by cases t <;> simp [allTy]
 exact of_decide_eq_true (List.all_eq_true.mp (List.all_eq_true.mp h c hc) t ht)
noncomputable def othB (K:PySem.W.Frag) (CN:Addr) (l:List Addr):Bool:=PySem.W.excIn K CN [.type "ValueError",.type "Exception",.type "BaseException",.type "object"] "ValueError.__new__" && (decide (PySem.W.findIn K (.ref CN) "__getattribute__" = some (some (.builtin "BaseException.__getattribute__"))) && (decide (PySem.W.findIn K (.ref CN) "__getattr__" = some none) && (decide (PySem.W.findIn K (.ref CN) "__class__" = some (some (.builtin "object.__class__"))) && (decide (PySem.W.mroIn K CN (.type "object")=some true) && (decide (PySem.W.kitAny K (.ref CN) ((l.take 7).map Value.ref)=some false) && decide (PySem.W.kitAny K (.ref CN) ((l.drop 7).map Value.ref)=some false))))))
theorem oth_mk {K:PySem.W.Frag}{mg:Str→Option Value}{CN X0 X1 X2 X3 X4 X5 X6 X7 X8 X9 X10 X11 X12:Addr} (h:othB K CN [X0,X1,X2,X3,X4,X5,X6,X7,X8,X9,X10,X11,X12]=true) (g0:mg "NoDeed" = some (.ref X0)) (g1:mg "NoKind" = some (.ref X1)) (g2:mg "NoLimit" = some (.ref X2)) (g3:mg "NoName" = some (.ref X3)) (g4:mg "NoPlace" = some (.ref X4)) (g5:mg "NoRound" = some (.ref X5)) (g6:mg "NoRow" = some (.ref X6)) (g7:mg "NoSituation" = some (.ref X7)) (g8:mg "NoState" = some (.ref X8)) (g9:mg "NoStep" = some (.ref X9)) (g10:mg "NoText" = some (.ref X10)) (g11:mg "NoWish" = some (.ref X11)) (g12:mg "TooMany" = some (.ref X12)):Oth K mg CN (fun k=>[X0,X1,X2,X3,X4,X5,X6,X7,X8,X9,X10,X11,X12].getD k 0):=by
 unfold othB at h;simp only [Zk,decide_eq_true_eq] at h;obtain ⟨h1,h2,h3,h4,h5,h6,h7⟩:=h;exact ⟨g0,g1,g2,g3,g4,g5,g6,g7,g8,g9,g10,g11,g12,⟨h1,h2,h3,h4,h5⟩,h6,h7⟩
end L2.W
namespace L2.W
open PySem My
theorem len1 {α : Type}{us:List α} (h:us.length=1):∃ a,us=[a]:=List.length_eq_one_iff.mp h
theorem len2 {α : Type}{us:List α} (h:us.length=2):∃ a0 a1,us=[a0,a1]:=by
 cases us with
 | nil=>cases h
 | cons a0 r=>obtain ⟨a1,rfl⟩:=len1 (show r.length=1 from Nat.succ.inj h);exact ⟨a0,a1,rfl⟩
theorem len3 {α : Type}{us:List α} (h:us.length=3):∃ a0 a1 a2,us=[a0,a1,a2]:=by
 cases us with
 | nil=>cases h
 | cons a0 r=>obtain ⟨a1,a2,rfl⟩:=len2 (show r.length=2 from Nat.succ.inj h);exact ⟨a0,a1,a2,rfl⟩
theorem len4 {α : Type}{us:List α} (h:us.length=4):∃ a0 a1 a2 a3,us=[a0,a1,a2,a3]:=by
 cases us with
 | nil=>cases h
 | cons a0 r=>obtain ⟨a1,a2,a3,rfl⟩:=len3 (show r.length=3 from Nat.succ.inj h);exact ⟨a0,a1,a2,a3,rfl⟩
theorem len5 {α : Type}{us:List α} (h:us.length=5):∃ a0 a1 a2 a3 a4,us=[a0,a1,a2,a3,a4]:=by
 cases us with
 | nil=>cases h
 | cons a0 r=>obtain ⟨a1,a2,a3,a4,rfl⟩:=len4 (show r.length=4 from Nat.succ.inj h);exact ⟨a0,a1,a2,a3,a4,rfl⟩
structure DL (K:PySem.W.Frag) (x:Str) (st:Stmt) (f:Addr) (fd:FuncData):Prop where
 a:PySem.W.nsIn K mainGlobals x=some (some (.ref f))
 F:Fun K x x st f fd
structure ML (K:PySem.W.Frag) (C:Addr) (x q:Str) (st:Stmt) (f:Addr) (fd:FuncData):Prop where
 a:PySem.W.findIn K (.ref C) x=some (some (.ref f))
 i:PySem.W.isFn K (.ref f)=true
 F:Fun K x q st f fd
theorem mkD {K:PySem.W.Frag}{h:Heap}{mg:Str→Option Value}{x:Str}{st:Stmt}{f:Addr}{fd:FuncData}{ps:List Str} (X:K.In h) (G:h.Ns mainGlobals mg) (D:DL K x st f fd) (hb:∀ (kV doc pm:Value) (an:Option Addr) (cdv ct:Value) (us:List Value),us.length=ps.length→bindArgs (PySem.W.fnOf x x (defArgs st) (defBody st) (defScope st) .none kV doc pm an cdv ct) ⟨us,[]⟩=pure (ps.zip us)):Def K mg x st ps f fd:=⟨D.F,PySem.W.mg_of X G D.a,D.F.binds hb⟩
theorem zBv {K:PySem.W.Frag}{x:Str}{st:Stmt}{f:Addr}{oc:Value}{od an:Option Addr}{osl:Array (Option Value)}{kV doc pm cdv ct:Value} (a:PySem.W.nsIn K mainGlobals x=some (some (.ref f))) (l:K.lookup f=some ⟨oc,od,.func (PySem.W.fnOf x x (defArgs st) (defBody st) (defScope st) .none kV doc pm an cdv ct),osl⟩)
  (c:PySem.W.codeIn K cdv x=true) (k:PySem.W.keepIn K (.ref f)=true):DL K x st f (PySem.W.fnOf x x (defArgs st) (defBody st) (defScope st) .none kV doc pm an cdv ct):=⟨a,fun_mk l c k⟩
theorem zCn {K:PySem.W.Frag}{C:Addr}{x q:Str}{st:Stmt}{f:Addr}{oc:Value}{od an:Option Addr}{osl:Array (Option Value)}{kV doc pm cdv ct:Value} (a:PySem.W.findIn K (.ref C) x=some (some (.ref f))) (i:PySem.W.isFn K (.ref f)=true) (l:K.lookup f=some ⟨oc,od,.func (PySem.W.fnOf x q (defArgs st) (defBody st) (defScope st) .none kV doc pm an cdv ct),osl⟩)
  (c:PySem.W.codeIn K cdv q=true) (k:PySem.W.keepIn K (.ref f)=true):ML K C x q st f (PySem.W.fnOf x q (defArgs st) (defBody st) (defScope st) .none kV doc pm an cdv ct):=⟨a,i,fun_mk l c k⟩
set_option maxHeartbeats 0 in
theorem all_mk {l:PySem.W.OpenLaw}{w:World}{K:PySem.W.Frag}{h:Heap}{mg:Str→Option Value}{fx:Addr} (X:K.In h) (G:h.Ns mainGlobals mg) (hfa:mg "law" = some (.ref fx))
  {fN fU fCn fCc fOk fio fca fm fd fn fnn fnc frf fbd fgd fjIs fjMe fjOw fjNo fjBo fjEi fjTm fjTs fjRu fjHa:Addr}{ts:List Addr}{dN dU dCn dCc dOk dio dca dm dd dn dnn dnc drf dbd dgd djIs djMe djOw djNo djBo djEi djTm djTs djRu djHa:FuncData}{Qcc Qch Qal Qwa Qis_ Qme Qow Qno Qbo Qei Qtm Qts Qtt Qru Qha CR CN X0 X1 X2 X3 X4 X5 X6 X7 X8 X9 X10 X11 X12:Addr}{t0 t1 t2:Tok}
  {fL:Addr}{ocL kVL dcL pmL ctL cdL:Value}{odL anL:Option Addr}{slL:Array (Option Value)}
  (aQcc:PySem.W.nsIn K mainGlobals "Condition" = some (some (.ref Qcc)))
  (aQch:PySem.W.nsIn K mainGlobals "Change" = some (some (.ref Qch)))
  (aQal:PySem.W.nsIn K mainGlobals "Always" = some (some (.ref Qal)))
  (aQwa:PySem.W.nsIn K mainGlobals "Wanted" = some (some (.ref Qwa)))
  (aQis_:PySem.W.nsIn K mainGlobals "Is" = some (some (.ref Qis_)))
  (aQme:PySem.W.nsIn K mainGlobals "Meets" = some (some (.ref Qme)))
  (aQow:PySem.W.nsIn K mainGlobals "Owner" = some (some (.ref Qow)))
  (aQno:PySem.W.nsIn K mainGlobals "Not" = some (some (.ref Qno)))
  (aQbo:PySem.W.nsIn K mainGlobals "Both" = some (some (.ref Qbo)))
  (aQei:PySem.W.nsIn K mainGlobals "Either" = some (some (.ref Qei)))
  (aQtm:PySem.W.nsIn K mainGlobals "ToMake" = some (some (.ref Qtm)))
  (aQts:PySem.W.nsIn K mainGlobals "ToSet" = some (some (.ref Qts)))
  (aQtt:PySem.W.nsIn K mainGlobals "ToTake" = some (some (.ref Qtt)))
  (aQru:PySem.W.nsIn K mainGlobals "Rule" = some (some (.ref Qru)))
  (aQha:PySem.W.nsIn K mainGlobals "Hand" = some (some (.ref Qha)))
  (aCR:PySem.W.nsIn K mainGlobals "RestError" = some (some (.ref CR)))
  (aCN:PySem.W.nsIn K mainGlobals "NoRule" = some (some (.ref CN)))
  (aX0:PySem.W.nsIn K mainGlobals "NoDeed" = some (some (.ref X0)))
  (aX1:PySem.W.nsIn K mainGlobals "NoKind" = some (some (.ref X1)))
  (aX2:PySem.W.nsIn K mainGlobals "NoLimit" = some (some (.ref X2)))
  (aX3:PySem.W.nsIn K mainGlobals "NoName" = some (some (.ref X3)))
  (aX4:PySem.W.nsIn K mainGlobals "NoPlace" = some (some (.ref X4)))
  (aX5:PySem.W.nsIn K mainGlobals "NoRound" = some (some (.ref X5)))
  (aX6:PySem.W.nsIn K mainGlobals "NoRow" = some (some (.ref X6)))
  (aX7:PySem.W.nsIn K mainGlobals "NoSituation" = some (some (.ref X7)))
  (aX8:PySem.W.nsIn K mainGlobals "NoState" = some (some (.ref X8)))
  (aX9:PySem.W.nsIn K mainGlobals "NoStep" = some (some (.ref X9)))
  (aX10:PySem.W.nsIn K mainGlobals "NoText" = some (some (.ref X10)))
  (aX11:PySem.W.nsIn K mainGlobals "NoWish" = some (some (.ref X11)))
  (aX12:PySem.W.nsIn K mainGlobals "TooMany" = some (some (.ref X12)))
  (xN:DL K "is_name" sIsName fN dN)
  (xU:DL K "are_unlike_names" sUnlike fU dU)
  (xCn:DL K "check_names" sChkNames fCn dCn)
  (xCc:DL K "check_conditions" sChkConds fCc dCc)
  (xOk:DL K "are_other_kinds" sOtherKinds fOk dOk)
  (xio:DL K "_law_is_other" sIsOther fio dio)
  (xca:DL K "_law_cell_at" sCellAt fca dca)
  (xm:DL K "_law_mixed" sMixed fm dm)
  (xd:DL K "_law_digits" sDigits fd dd)
  (xn:DL K "_law_next" sNext fn dn)
  (xnn:DL K "_law_no_name" sNoName fnn dnn)
  (xnc:DL K "_law_no_condition" sNoCondition fnc dnc)
  (xrf:DL K "_law_refused" sRefused frf drf)
  (xbd:DL K "_law_bad" sBad fbd dbd)
  (xgd:DL K "_law_good" sGood fgd dgd)
  (xjIs:ML K Qis_ "__init__" "Is.__init__" sInitIs fjIs djIs)
  (xjMe:ML K Qme "__init__" "Meets.__init__" sInitMe fjMe djMe)
  (xjOw:ML K Qow "__init__" "Owner.__init__" sInitOw fjOw djOw)
  (xjNo:ML K Qno "__init__" "Not.__init__" sInitNo fjNo djNo)
  (xjBo:ML K Qbo "__init__" "Both.__init__" sInitBo fjBo djBo)
  (xjEi:ML K Qei "__init__" "Either.__init__" sInitEi fjEi djEi)
  (xjTm:ML K Qtm "__init__" "ToMake.__init__" sInitTM fjTm djTm)
  (xjTs:ML K Qts "__init__" "ToSet.__init__" sInitTS fjTs djTs)
  (xjRu:ML K Qru "__init__" "Rule.__init__" sInitR fjRu djRu)
  (xjHa:ML K Qha "__init__" "Hand.__init__" sInitH fjHa djHa)
  (xaL:PySem.W.nsIn K mainGlobals "law" = some (some (.ref fL))) (xlL:K.lookup fL=some ⟨ocL,odL,.func (PySem.W.fnOf "law" "law" (defArgs sLaw) (defBody sLaw) (defScope sLaw) .none kVL dcL pmL anL cdL ctL),slL⟩) (xcL:PySem.W.codeIn K cdL "law" = true) (xkL:PySem.W.keepIn K (.ref fL)=true)
  (hn:PySem.W.specialIn K (.builtin "object.__class__") "__get__" = some (some (.builtin "getset_descriptor.__get__"))) (htk:PySem.W.takesIn K (.builtin "object.__class__")=some true)
  (hts:ts=[])
  (c0:PySem.W.nsIn K mainGlobals "LETTERS" = some (some (.str letters t0)))
  (c1:PySem.W.nsIn K mainGlobals "MOST_LETTERS" = some (some (.int 8 t1)))
  (c2:PySem.W.nsIn K mainGlobals "LEAST_CONDITIONS" = some (some (.int 2 t2)))
  (zVE:PySem.W.nsIn K mainGlobals "ValueError" = some none)
  (qck:ckAll K [(Qal,[]),(Qwa,[]),(Qis_,["field", "value"]),(Qme,["field"]),(Qow,["field", "value"]),(Qno,["condition"]),(Qbo,["conditions"]),(Qei,["conditions"]),(Qtm,["fields"]),(Qts,["field", "value"]),(Qtt,[]),(Qru,["kind", "change", "condition", "behind"]),(Qha,["name", "rules"])]=true)
  (qnal:PySem.W.findIn K (.ref Qal) "__init__" = some (some (.builtin "object.__init__")))
  (qnwa:PySem.W.findIn K (.ref Qwa) "__init__" = some (some (.builtin "object.__init__")))
  (qntt:PySem.W.findIn K (.ref Qtt) "__init__" = some (some (.builtin "object.__init__")))
  (qkit:kitB K (⟨Qcc,Qal,Qwa,Qis_,Qme,Qow,Qno,Qbo,Qei,Qch,Qtm,Qts,Qtt,Qru,Qha,fjIs,fjMe,fjOw,fjNo,fjBo,fjEi,fjTm,fjTs,fjRu,fjHa⟩:CS)=true)
  (xoth:othB K CN [X0,X1,X2,X3,X4,X5,X6,X7,X8,X9,X10,X11,X12]=true)
  (xexm:PySem.W.exmOne K (.ref CN) (.ref CR)=some true)
  (xkit:PySem.W.kitOne K (.ref CN) (.ref CN)=some true)
  (xkv:PySem.W.kitOne K (.ref CN) (.type "ValueError")=some true)
  (z_isinstance:PySem.W.nsIn K mainGlobals "isinstance" = some none)
  (z_len:PySem.W.nsIn K mainGlobals "len" = some none)
  (z_all:PySem.W.nsIn K mainGlobals "all" = some none)
  (z_set:PySem.W.nsIn K mainGlobals "set" = some none)
  (z_range:PySem.W.nsIn K mainGlobals "range" = some none)
  (z_str:PySem.W.nsIn K mainGlobals "str" = some none)
  (z_list:PySem.W.nsIn K mainGlobals "list" = some none)
  (z_int:PySem.W.nsIn K mainGlobals "int" = some none) :
  ∃ fd:FuncData,(∀ (s:Shared) (v:Value),BindsTo s fd ⟨[v],[]⟩ [("_law_script",v)])∧(∀ T∈ts,(K).lookup T=none∧∃ c,PySem.W.codeHdIn (K) c T=true)∧∀ base:Heap,(K).In base→base.Ns mainGlobals mg→BltAt mg base→FnOk l.prog w (K) mg base CX0 7 fx fd ["_law_script"] (spLaw32 K):=by
 have e:=hfa.symm.trans (PySem.W.mg_of X G xaL);cases e;have T:Tops K mg:=⟨PySem.W.mg_none_of X G z_isinstance,PySem.W.mg_none_of X G z_len,PySem.W.mg_none_of X G z_all,PySem.W.mg_none_of X G z_set,PySem.W.mg_none_of X G z_range,PySem.W.mg_none_of X G z_str,PySem.W.mg_none_of X G z_list,PySem.W.mg_none_of X G z_int,⟨_,PySem.W.mg_of X G c0⟩,⟨_,PySem.W.mg_of X G c1⟩,⟨_,PySem.W.mg_of X G c2⟩⟩;have DN:=mkD X G xN (ps:=["thing"]) fun _ _ _ _ _ _ us hl=>by obtain ⟨z0,rfl⟩:=len1 hl;rfl
 have DU:=mkD X G xU (ps:=["things"]) fun _ _ _ _ _ _ us hl=>by obtain ⟨z0,rfl⟩:=len1 hl;rfl
 have DCn:=mkD X G xCn (ps:=["things"]) fun _ _ _ _ _ _ us hl=>by obtain ⟨z0,rfl⟩:=len1 hl;rfl
 have DCc:=mkD X G xCc (ps:=["things"]) fun _ _ _ _ _ _ us hl=>by obtain ⟨z0,rfl⟩:=len1 hl;rfl
 have DOk:=mkD X G xOk (ps:=["kind", "things"]) fun _ _ _ _ _ _ us hl=>by obtain ⟨z0,z1,rfl⟩:=len2 hl;rfl
 have Dio:=mkD X G xio (ps:=["_law_e"]) fun _ _ _ _ _ _ us hl=>by obtain ⟨z0,rfl⟩:=len1 hl;rfl
 have Dca:=mkD X G xca (ps:=["_law_script", "_law_k"]) fun _ _ _ _ _ _ us hl=>by obtain ⟨z0,z1,rfl⟩:=len2 hl;rfl
 have Dm:=mkD X G xm (ps:=["_law_cell", "_law_k"]) fun _ _ _ _ _ _ us hl=>by obtain ⟨z0,z1,rfl⟩:=len2 hl;rfl
 have Dd:=mkD X G xd (ps:=["_law_cell"]) fun _ _ _ _ _ _ us hl=>by obtain ⟨z0,rfl⟩:=len1 hl;rfl
 have Dn:=mkD X G xn (ps:=["_law_source", "_law_many"]) fun _ _ _ _ _ _ us hl=>by obtain ⟨z0,z1,rfl⟩:=len2 hl;rfl
 have Dnn:=mkD X G xnn (ps:=["_law_source"]) fun _ _ _ _ _ _ us hl=>by obtain ⟨z0,rfl⟩:=len1 hl;rfl
 have Dnc:=mkD X G xnc (ps:=["_law_source"]) fun _ _ _ _ _ _ us hl=>by obtain ⟨z0,rfl⟩:=len1 hl;rfl
 have Drf:=mkD X G xrf (ps:=["_law_way", "_law_things"]) fun _ _ _ _ _ _ us hl=>by obtain ⟨z0,z1,rfl⟩:=len2 hl;rfl
 have Dbd:=mkD X G xbd (ps:=["_law_source", "_law_way"]) fun _ _ _ _ _ _ us hl=>by obtain ⟨z0,z1,rfl⟩:=len2 hl;rfl
 have Dgd:=mkD X G xgd (ps:=[]) fun _ _ _ _ _ _ us hl=>by rw [List.eq_nil_of_length_eq_zero hl];rfl
 obtain ⟨xajIs,xijIs,FjIs⟩:=xjIs;have bjIs:=FjIs.binds (ps:=["self", "field", "value"]) fun _ _ _ _ _ _ us hl=>by obtain ⟨z0,z1,z2,rfl⟩:=len3 hl;rfl
 obtain ⟨xajMe,xijMe,FjMe⟩:=xjMe;have bjMe:=FjMe.binds (ps:=["self", "field"]) fun _ _ _ _ _ _ us hl=>by obtain ⟨z0,z1,rfl⟩:=len2 hl;rfl
 obtain ⟨xajOw,xijOw,FjOw⟩:=xjOw;have bjOw:=FjOw.binds (ps:=["self", "field", "value"]) fun _ _ _ _ _ _ us hl=>by obtain ⟨z0,z1,z2,rfl⟩:=len3 hl;rfl
 obtain ⟨xajNo,xijNo,FjNo⟩:=xjNo;have bjNo:=FjNo.binds (ps:=["self", "condition"]) fun _ _ _ _ _ _ us hl=>by obtain ⟨z0,z1,rfl⟩:=len2 hl;rfl
 obtain ⟨xajBo,xijBo,FjBo⟩:=xjBo;have bjBo:=FjBo.binds (ps:=["self", "conditions"]) fun _ _ _ _ _ _ us hl=>by obtain ⟨z0,z1,rfl⟩:=len2 hl;rfl
 obtain ⟨xajEi,xijEi,FjEi⟩:=xjEi;have bjEi:=FjEi.binds (ps:=["self", "conditions"]) fun _ _ _ _ _ _ us hl=>by obtain ⟨z0,z1,rfl⟩:=len2 hl;rfl
 obtain ⟨xajTm,xijTm,FjTm⟩:=xjTm;have bjTm:=FjTm.binds (ps:=["self", "fields"]) fun _ _ _ _ _ _ us hl=>by obtain ⟨z0,z1,rfl⟩:=len2 hl;rfl
 obtain ⟨xajTs,xijTs,FjTs⟩:=xjTs;have bjTs:=FjTs.binds (ps:=["self", "field", "value"]) fun _ _ _ _ _ _ us hl=>by obtain ⟨z0,z1,z2,rfl⟩:=len3 hl;rfl
 obtain ⟨xajRu,xijRu,FjRu⟩:=xjRu;have bjRu:=FjRu.binds (ps:=["self", "kind", "change", "condition", "behind"]) fun _ _ _ _ _ _ us hl=>by obtain ⟨z0,z1,z2,z3,z4,rfl⟩:=len5 hl;rfl
 obtain ⟨xajHa,xijHa,FjHa⟩:=xjHa;have bjHa:=FjHa.binds (ps:=["self", "name", "rules"]) fun _ _ _ _ _ _ us hl=>by obtain ⟨z0,z1,z2,rfl⟩:=len3 hl;rfl
 have FL:=fun_mk (st:=sLaw) xlL xcL xkL;have k_al:CkO K Qal []:=zBe hn htk qck (.head _);have k_wa:CkO K Qwa []:=zBe hn htk qck (.tail _ (.head _));have k_tt:CkO K Qtt []:=zBe hn htk qck (.tail _ (.tail _ (.tail _ (.tail _ (.tail _ (.tail _ (.tail _ (.tail _ (.tail _ (.tail _ (.head _)))))))))));have k_is_:CkO K Qis_ ["field", "value"]:=zBe hn htk qck (.tail _ (.tail _ (.head _)));have k_me:CkO K Qme ["field"]:=zBe hn htk qck (.tail _ (.tail _ (.tail _ (.head _))));have k_ow:CkO K Qow ["field", "value"]:=zBe hn htk qck (.tail _ (.tail _ (.tail _ (.tail _ (.head _)))));have k_no:CkO K Qno ["condition"]:=zBe hn htk qck (.tail _ (.tail _ (.tail _ (.tail _ (.tail _ (.head _))))));have k_bo:CkO K Qbo ["conditions"]:=zBe hn htk qck (.tail _ (.tail _ (.tail _ (.tail _ (.tail _ (.tail _ (.head _)))))));have k_ei:CkO K Qei ["conditions"]:=zBe hn htk qck (.tail _ (.tail _ (.tail _ (.tail _ (.tail _ (.tail _ (.tail _ (.head _))))))));have k_tm:CkO K Qtm ["fields"]:=zBe hn htk qck (.tail _ (.tail _ (.tail _ (.tail _ (.tail _ (.tail _ (.tail _ (.tail _ (.head _)))))))));have k_ts:CkO K Qts ["field", "value"]:=zBe hn htk qck (.tail _ (.tail _ (.tail _ (.tail _ (.tail _ (.tail _ (.tail _ (.tail _ (.tail _ (.head _))))))))));have k_ru:CkO K Qru ["kind", "change", "condition", "behind"]:=zBe hn htk qck (.tail _ (.tail _ (.tail _ (.tail _ (.tail _ (.tail _ (.tail _ (.tail _ (.tail _ (.tail _ (.tail _ (.head _))))))))))));have k_ha:CkO K Qha ["name", "rules"]:=zBe hn htk qck (.tail _ (.tail _ (.tail _ (.tail _ (.tail _ (.tail _ (.tail _ (.tail _ (.tail _ (.tail _ (.tail _ (.tail _ (.head _)))))))))))));have M:CM K mg (⟨Qcc,Qal,Qwa,Qis_,Qme,Qow,Qno,Qbo,Qei,Qch,Qtm,Qts,Qtt,Qru,Qha,fjIs,fjMe,fjOw,fjNo,fjBo,fjEi,fjTm,fjTs,fjRu,fjHa⟩:CS):=⟨PySem.W.mg_of X G aQcc,PySem.W.mg_of X G aQch,k_al.co (PySem.W.mg_of X G aQal),k_wa.co (PySem.W.mg_of X G aQwa),k_tt.co (PySem.W.mg_of X G aQtt),k_is_.co (PySem.W.mg_of X G aQis_),k_me.co (PySem.W.mg_of X G aQme),k_ow.co (PySem.W.mg_of X G aQow),k_no.co (PySem.W.mg_of X G aQno),k_bo.co (PySem.W.mg_of X G aQbo),k_ei.co (PySem.W.mg_of X G aQei),k_tm.co (PySem.W.mg_of X G aQtm),k_ts.co (PySem.W.mg_of X G aQts),k_ru.co (PySem.W.mg_of X G aQru),k_ha.co (PySem.W.mg_of X G aQha),⟨k_al.ms,qnal,k_al.kp⟩,⟨k_wa.ms,qnwa,k_wa.kp⟩,⟨k_tt.ms,qntt,k_tt.kp⟩,⟨k_is_.ms,xajIs,xijIs,k_is_.kp⟩,⟨k_me.ms,xajMe,xijMe,k_me.kp⟩,⟨k_ow.ms,xajOw,xijOw,k_ow.kp⟩,⟨k_no.ms,xajNo,xijNo,k_no.kp⟩,⟨k_bo.ms,xajBo,xijBo,k_bo.kp⟩,⟨k_ei.ms,xajEi,xijEi,k_ei.kp⟩,⟨k_tm.ms,xajTm,xijTm,k_tm.kp⟩,⟨k_ts.ms,xajTs,xijTs,k_ts.kp⟩,⟨k_ru.ms,xajRu,xijRu,k_ru.kp⟩,⟨k_ha.ms,xajHa,xijHa,k_ha.kp⟩,kit_of qkit⟩;have R:Oth K mg CN (fun k=>[X0,X1,X2,X3,X4,X5,X6,X7,X8,X9,X10,X11,X12].getD k 0):=oth_mk xoth (PySem.W.mg_of X G aX0) (PySem.W.mg_of X G aX1) (PySem.W.mg_of X G aX2) (PySem.W.mg_of X G aX3) (PySem.W.mg_of X G aX4) (PySem.W.mg_of X G aX5) (PySem.W.mg_of X G aX6) (PySem.W.mg_of X G aX7) (PySem.W.mg_of X G aX8) (PySem.W.mg_of X G aX9) (PySem.W.mg_of X G aX10) (PySem.W.mg_of X G aX11) (PySem.W.mg_of X G aX12);have XN:XTop K mg "NoRule" CN:=⟨PySem.W.mg_of X G aCN,R.x.exc⟩;have kbIs:KBinds K _ ["self", "field", "value"] ["value", "field"] gR gR:=zCo FjIs fun _ _ _ _ _ _ us ws hl=>by obtain ⟨z,rfl,hw⟩:=zBr (n:=2) hl;obtain ⟨y0,y1,rfl⟩:=len2 hw;rfl
 have kbMe:KBinds K _ ["self", "field"] ["field"] gR gR:=zCo FjMe fun _ _ _ _ _ _ us ws hl=>by obtain ⟨z,rfl,hw⟩:=zBr (n:=1) hl;obtain ⟨y0,rfl⟩:=len1 hw;rfl
 have kbOw:KBinds K _ ["self", "field", "value"] ["value", "field"] gR gR:=zCo FjOw fun _ _ _ _ _ _ us ws hl=>by obtain ⟨z,rfl,hw⟩:=zBr (n:=2) hl;obtain ⟨y0,y1,rfl⟩:=len2 hw;rfl
 have kbNo:KBinds K _ ["self", "condition"] ["condition"] gR gR:=zCo FjNo fun _ _ _ _ _ _ us ws hl=>by obtain ⟨z,rfl,hw⟩:=zBr (n:=1) hl;obtain ⟨y0,rfl⟩:=len1 hw;rfl
 have kbBo:KBinds K _ ["self", "conditions"] ["conditions"] gR gR:=zCo FjBo fun _ _ _ _ _ _ us ws hl=>by obtain ⟨z,rfl,hw⟩:=zBr (n:=1) hl;obtain ⟨y0,rfl⟩:=len1 hw;rfl
 have kbEi:KBinds K _ ["self", "conditions"] ["conditions"] gR gR:=zCo FjEi fun _ _ _ _ _ _ us ws hl=>by obtain ⟨z,rfl,hw⟩:=zBr (n:=1) hl;obtain ⟨y0,rfl⟩:=len1 hw;rfl
 have kbTm:KBinds K _ ["self", "fields"] ["fields"] gR gR:=zCo FjTm fun _ _ _ _ _ _ us ws hl=>by obtain ⟨z,rfl,hw⟩:=zBr (n:=1) hl;obtain ⟨y0,rfl⟩:=len1 hw;rfl
 have kbTs:KBinds K _ ["self", "field", "value"] ["value", "field"] gR gR:=zCo FjTs fun _ _ _ _ _ _ us ws hl=>by obtain ⟨z,rfl,hw⟩:=zBr (n:=2) hl;obtain ⟨y0,y1,rfl⟩:=len2 hw;rfl
 have kbRu:KBinds K _ ["self", "kind", "change", "condition", "behind"] ["behind", "condition", "change", "kind"] gR gR:=zCo FjRu fun _ _ _ _ _ _ us ws hl=>by obtain ⟨z,rfl,hw⟩:=zBr (n:=4) hl;obtain ⟨y0,y1,y2,y3,rfl⟩:=len4 hw;rfl
 have kbHa:KBinds K _ ["self", "name", "rules"] ["rules", "name"] gR gR:=zCo FjHa fun _ _ _ _ _ _ us ws hl=>by obtain ⟨z,rfl,hw⟩:=zBr (n:=2) hl;obtain ⟨y0,y1,rfl⟩:=len2 hw;rfl
 subst hts;refine ⟨PySem.W.fnOf "law" "law" (defArgs sLaw) (defBody sLaw) (defScope sLaw) .none kVL dcL pmL anL cdL ctL,fun s v=>.of_eq rfl,fun T hT=>absurd hT (by simp),fun base _ _ bl=>?_⟩;have hC:Calm (CXM l.prog w):=calmM;have Gn:=ok_next (P:=l.prog) (w:=w) (base:=base) hC Dn.fn Dm;have GCn:=ok_chk (P:=l.prog) (w:=w) (base:=base) T XN DCn.fn DN;have GCc:=ok_chC (P:=l.prog) (w:=w) (base:=base) T M XN DCc.fn;have I:Inis l.prog w K mg base (⟨Qcc,Qal,Qwa,Qis_,Qme,Qow,Qno,Qbo,Qei,Qch,Qtm,Qts,Qtt,Qru,Qha,fjIs,fjMe,fjOw,fjNo,fjBo,fjEi,fjTm,fjTs,fjRu,fjHa⟩:CS) CN _ _ _ _ _ _ _ _ _ _:=⟨ok_is M.is_ FjIs DCn GCn,ok_me M.me FjMe DCn GCn,ok_ow M.ow FjOw DCn GCn,ok_no T M XN FjNo,ok_bo T M FjBo DCc GCc,ok_ei T M FjEi DCc GCc,ok_tm T M XN FjTm DN DU,ok_ts T M XN FjTs DN,ok_ru T M XN FjRu DN DU DOk,ok_ha T M XN FjHa DN,bjIs,bjMe,bjOw,bjNo,bjBo,bjEi,bjTm,bjTs,bjRu,bjHa⟩;have Grf:=ok_ref (P:=l.prog) (w:=w) (base:=base) T M I R XN (PySem.W.mg_none_of X G zVE) (PySem.W.mg_of X G aCR) xexm xkit xkv Drf.fn Dio;have Gbd:=ok_bad (P:=l.prog) (w:=w) (base:=base) T M I Dbd.fn Dn Gn Dnn Dnc;have Ggd:=ok_good (P:=l.prog) (w:=w) (base:=base) T M I ⟨kbIs,kbMe,kbOw,kbNo,kbBo,kbEi,kbTm,kbTs,kbRu,kbHa⟩ Dgd.fn;exact (ok_law32 (dRu:=djRu) FL ⟨T,M,Dca,ok_cellAt T Dca.fn,Dd,ok_digits Dd.fn,Drf,Grf,Dbd,Gbd,Dgd,Ggd,I.no,bjNo⟩).calm calmM
theorem walk {l:PySem.W.OpenLaw}{q:Program}{loose:List Str}{XP:(Str→Option Value)→Heap→Prop}{YP:World→Heap→Prop}{d:DefRec}{K:Params→PySem.W.Frag}{ts:List Addr} (hn:l.most=some 63) (hdf:d.params.defaults=[])
  (hY:∀ (w:World) (h:Heap),YP w h→(K w.params).In h∧∀ T∈ts,h.get? T=some (PySem.W.tabObj #[]))
  (F:∀ (w:World) (mg:Str→Option Value) (fa:Addr) (h:Heap),(K w.params).In h→h.Ns mainGlobals mg→mg d.name=some (.ref fa) →
   ∃ fd:FuncData,(∀ (s:Shared) (v:Value),BindsTo s fd ⟨[v],[]⟩ [("_law_script",v)])∧(∀ T∈ts,(K w.params).lookup T=none∧∃ c,PySem.W.codeHdIn (K w.params) c T=true)∧∀ base:Heap,(K w.params).In base→base.Ns mainGlobals mg→BltAt mg base→FnOk l.prog w (K w.params) mg base CX0 7 fa fd ["_law_script"] (spLaw32 (K w.params))) :
  PySem.W.WalkO q loose XP YP l.row.toRowW d [] (fun f vs=>PySem.call f vs):=by
 refine Att.attach_call hn hdf fun w s₀ s₁ mg mb fa o pm cd doc a vs ns G Y ho hd hcd hmg hobj hints hlen hg=>?_;obtain ⟨KX,hT⟩:=hY w _ Y;obtain ⟨fd,hb,hall,hF⟩:=F w mg fa _ KX G.T.g hmg;exact law_callTs KX G.T.g G.T.b G.T.builtins G.T.nolimit hg (blt_of G.T) hT (fun T h=>(hall T h).1) (fun T h=>(hall T h).2) hobj hints (Zg hlen (by decide)) ⟨fun _=>rfl,by decide,by decide⟩ hF hb (fun H hO hS=>⟨a,ns,rfl,hS,hlen,fun _=>rfl⟩) fun _ _ _ z=>z
end L2.W
theorem PySem.W.Fast.tw8358827230411056718:True:=trivial
theorem PySem.W.Fast.tw4145295884615273905:True:=trivial
theorem PySem.W.Fast.tw15012863159488017825:True:=trivial
theorem PySem.W.Fast.tw14682864679730274788:True:=trivial
theorem PySem.W.Fast.tw1664195046823686404:True:=trivial
theorem PySem.W.Fast.tw5252546766273737814:True:=trivial
theorem PySem.W.Fast.tw17726179323553822361:True:=trivial
theorem PySem.W.Fast.tw11947917611899729072:True:=trivial
theorem PySem.W.Fast.tw2573316783201212457:True:=trivial
theorem PySem.W.Fast.tw12169606869720159515:True:=trivial
theorem PySem.W.Fast.tw8561140101985018045:True:=trivial
theorem PySem.W.Fast.tw14726665605159886856:True:=trivial
theorem PySem.W.Fast.tw16606826457011151588:True:=trivial
theorem PySem.W.Fast.tw6383309631024762628:True:=trivial
theorem PySem.W.Fast.tw10945583847232027842:True:=trivial
theorem PySem.W.Fast.tw11894635323251019284:True:=trivial
theorem PySem.W.Fast.tw4811961109120557077:True:=trivial
theorem PySem.W.Fast.tw15018388238846757156:True:=trivial
theorem PySem.W.Fast.tw5372406948795798648:True:=trivial
theorem PySem.W.Fast.tw17599980071715010801:True:=trivial
theorem PySem.W.Fast.tw11511158949021603949:True:=trivial
theorem PySem.W.Fast.tw9120676236851591149:True:=trivial
theorem PySem.W.Fast.tw5453373235782470546:True:=trivial
theorem PySem.W.Fast.tw15652630628292980654:True:=trivial
theorem PySem.W.Fast.tw16285167757646739968:True:=trivial
theorem PySem.W.Fast.tw12262665758932194521:True:=trivial
theorem PySem.W.Fast.tw1257448949919401909:True:=trivial
theorem PySem.W.Fast.tw193700415228088477:True:=trivial
theorem PySem.W.Fast.tw10713870323772499895:True:=trivial
theorem PySem.W.Fast.tw8354972244218253686:True:=trivial
theorem PySem.W.Fast.tw1757255007860802912:True:=trivial
theorem PySem.W.Fast.tw16439742771662538529:True:=trivial
theorem PySem.W.Fast.tw3971920036557239132:True:=trivial
theorem PySem.W.Fast.tw1953165806785029572:True:=trivial
theorem PySem.W.Fast.tw17448133496071206198:True:=trivial
theorem PySem.W.Fast.tw17636628443807964275:True:=trivial
theorem PySem.W.Fast.tw4189074178790170918:True:=trivial
theorem PySem.W.Fast.tw889868621533947648:True:=trivial
theorem PySem.W.Fast.tw5957079787476970515:True:=trivial
theorem PySem.W.Fast.tw9246333113250601225:True:=trivial
theorem PySem.W.Fast.tw6097418545948581485:True:=trivial
theorem PySem.W.Fast.tw17839612639098165472:True:=trivial
theorem PySem.W.Fast.tw4143068902643322549:True:=trivial
theorem PySem.W.Fast.tw12608326205336604099:True:=trivial
theorem PySem.W.Fast.tw1321457179872598323:True:=trivial
theorem PySem.W.Fast.tw8171681175581100546:True:=trivial
theorem PySem.W.Fast.tw17220625748306147926:True:=trivial
theorem PySem.W.Fast.tw2818701573531749503:True:=trivial
theorem PySem.W.Fast.tw422348533442277448:True:=trivial
theorem PySem.W.Fast.tw10310938440308550927:True:=trivial
theorem PySem.W.Fast.tw16278247106785769145:True:=trivial
theorem PySem.W.Fast.tw14089782512199660530:True:=trivial
theorem PySem.W.Fast.tw10773277625916817854:True:=trivial
theorem PySem.W.Fast.tw2186467986323927193:True:=trivial
theorem PySem.W.Fast.tw10944758505824914442:True:=trivial
theorem PySem.W.Fast.tw9290638352300105571:True:=trivial
theorem PySem.W.Fast.tw7080409724692643748:True:=trivial
theorem PySem.W.Fast.tw11683658599864782467:True:=trivial
theorem PySem.W.Fast.tw6828625610287090546:True:=trivial
theorem PySem.W.Fast.tw16710886519735163533:True:=trivial
theorem PySem.W.Fast.tw16051944365435399475:True:=trivial
theorem PySem.W.Fast.tw4978086413011107538:True:=trivial
theorem PySem.W.Fast.tw7334651769537747818:True:=trivial
theorem PySem.W.Fast.tw6388465089013340174:True:=trivial
theorem PySem.W.Fast.tw11253613675533171325:True:=trivial
theorem PySem.W.Fast.tw11896696032266071582:True:=trivial
theorem PySem.W.Fast.tw7997160551315011184:True:=trivial
theorem PySem.W.Fast.tw13655200654162071766:True:=trivial
theorem PySem.W.Fast.tw12201362546473447791:True:=trivial
theorem PySem.W.Fast.tw16265899744843257808:True:=trivial
theorem PySem.W.Fast.tw6121397339582776725:True:=trivial
theorem PySem.W.Fast.tw4009375722642068487:True:=trivial
theorem PySem.W.Fast.tw11615896274586361939:True:=trivial
theorem PySem.W.Fast.tw2303504523105702698:True:=trivial
theorem PySem.W.Fast.tw6244210575712646503:True:=trivial
theorem PySem.W.Fast.tw8572866966377614679:True:=trivial
theorem PySem.W.Fast.tw4042493988647583023:True:=trivial
theorem PySem.W.Fast.tw4737649090519419349:True:=trivial
theorem PySem.W.Fast.tw15269331541959052741:True:=trivial
theorem PySem.W.Fast.tw9416504205979083040:True:=trivial
theorem PySem.W.Fast.tw13261754916171136045:True:=trivial
theorem PySem.W.Fast.tw14348687449291252039:True:=trivial
theorem PySem.W.Fast.tw12791334660437553313:True:=trivial
theorem PySem.W.Fast.tw3715423857340319676:True:=trivial
theorem PySem.W.Fast.tw10351566033998770866:True:=trivial
theorem PySem.W.Fast.tw5215218897020073121:True:=trivial
theorem PySem.W.Fast.tw7020678498006706363:True:=trivial
theorem PySem.W.Fast.tw18391507178600903245:True:=trivial
theorem PySem.W.Fast.tw1942562688358646905:True:=trivial
theorem PySem.W.Fast.tw17017528204048465398:True:=trivial
theorem PySem.W.Fast.tw864261399225087625:True:=trivial
theorem PySem.W.Fast.tw18128913546720779219:True:=trivial
theorem PySem.W.Fast.tw11433433891152344816:True:=trivial
theorem PySem.W.Fast.tw16294775276411426342:True:=trivial
theorem PySem.W.Fast.tw4345616637001085439:True:=trivial
theorem PySem.W.Fast.tw8265119544494488741:True:=trivial
theorem PySem.W.Fast.tw13585809298415520881:True:=trivial
theorem PySem.W.Fast.tw3327095178704651417:True:=trivial
theorem PySem.W.Fast.tw12691620451956953303:True:=trivial
theorem PySem.W.Fast.tw7970827801896034986:True:=trivial
theorem PySem.W.Fast.tw17761855751625438168:True:=trivial
theorem PySem.W.Fast.tw9593328355041873976:True:=trivial
theorem PySem.W.Fast.tw10489586454075964037:True:=trivial
theorem PySem.W.Fast.tw5225200304494841873:True:=trivial
theorem PySem.W.Fast.tw17552382113823366232:True:=trivial
theorem PySem.W.Fast.tw16722795709450912207:True:=trivial
theorem PySem.W.Fast.tw8522877711868717230:True:=trivial
theorem PySem.W.Fast.tw4749700025041900107:True:=trivial
theorem PySem.W.Fast.tw2606152556485124724:True:=trivial
theorem PySem.W.Fast.tw16575532146120139780:True:=trivial
theorem PySem.W.Fast.tw11941775623190295413:True:=trivial
theorem PySem.W.Fast.tw2328328128471717705:True:=trivial
theorem PySem.W.Fast.tw14441746521749618082:True:=trivial
open PySem PySem.W PyProof.Rows
set_option maxRecDepth 100000 in
set_option maxHeartbeats 0 in
theorem PySem.Challenge.cw_cometorest_k32_no_conditions_no_rules_holds : PySem.Challenge.rw_cometorest_k32_no_conditions_no_rules.Holds := by
 w_on;o_law;k_head;(case hw=>w_witness2)
 k_fill
 refine L2.W.walk (l:=PySem.Challenge.rw_cometorest_k32_no_conditions_no_rules) (ts:=[]) rfl rfl (fun w h Y=>⟨PySem.W.kIn_of Y,fun T hT=>absurd hT (by simp)⟩) ?F
 case F =>
  intro w mg fa h KX G hmg;refine' L2.W.all_mk KX G hmg ?aQcc ?aQch ?aQal ?aQwa ?aQis_ ?aQme ?aQow ?aQno ?aQbo ?aQei ?aQtm ?aQts ?aQtt ?aQru ?aQha ?aCR ?aCN ?aX0 ?aX1 ?aX2 ?aX3 ?aX4 ?aX5 ?aX6 ?aX7 ?aX8 ?aX9 ?aX10 ?aX11 ?aX12 ?xN ?xU ?xCn ?xCc ?xOk ?xio ?xca ?xm ?xd ?xn ?xnn ?xnc ?xrf ?xbd ?xgd ?xjIs ?xjMe ?xjOw ?xjNo ?xjBo ?xjEi ?xjTm ?xjTs ?xjRu ?xjHa ?xaL ?xlL ?xcL ?xkL ?hn ?htk ?hts ?c0 ?c1 ?c2 ?zVE ?qck ?qnal ?qnwa ?qntt ?qkit ?xoth ?xexm ?xkit ?xkv ?z_isinstance ?z_len ?z_all ?z_set ?z_range ?z_str ?z_list ?z_int
  (case aQcc=>k_is)
  (case aQch=>k_is)
  (case aQal=>k_is)
  (case aQwa=>k_is)
  (case aQis_=>k_is)
  (case aQme=>k_is)
  (case aQow=>k_is)
  (case aQno=>k_is)
  (case aQbo=>k_is)
  (case aQei=>k_is)
  (case aQtm=>k_is)
  (case aQts=>k_is)
  (case aQtt=>k_is)
  (case aQru=>k_is)
  (case aQha=>k_is)
  (case aCR=>k_is)
  (case aCN=>k_is)
  (case aX0=>k_is)
  (case aX1=>k_is)
  (case aX2=>k_is)
  (case aX3=>k_is)
  (case aX4=>k_is)
  (case aX5=>k_is)
  (case aX6=>k_is)
  (case aX7=>k_is)
  (case aX8=>k_is)
  (case aX9=>k_is)
  (case aX10=>k_is)
  (case aX11=>k_is)
  (case aX12=>k_is)
  (case xN=>apply L2.W.zBv;iterate 4 k_is)
  (case xU=>apply L2.W.zBv;iterate 4 k_is)
  (case xCn=>apply L2.W.zBv;iterate 4 k_is)
  (case xCc=>apply L2.W.zBv;iterate 4 k_is)
  (case xOk=>apply L2.W.zBv;iterate 4 k_is)
  (case xio=>apply L2.W.zBv;iterate 4 k_is)
  (case xca=>apply L2.W.zBv;iterate 4 k_is)
  (case xm=>apply L2.W.zBv;iterate 4 k_is)
  (case xd=>apply L2.W.zBv;iterate 4 k_is)
  (case xn=>apply L2.W.zBv;iterate 4 k_is)
  (case xnn=>apply L2.W.zBv;iterate 4 k_is)
  (case xnc=>apply L2.W.zBv;iterate 4 k_is)
  (case xrf=>apply L2.W.zBv;iterate 4 k_is)
  (case xbd=>apply L2.W.zBv;iterate 4 k_is)
  (case xgd=>apply L2.W.zBv;iterate 4 k_is)
  (case xjIs=>apply L2.W.zCn;iterate 5 k_is)
  (case xjMe=>apply L2.W.zCn;iterate 5 k_is)
  (case xjOw=>apply L2.W.zCn;iterate 5 k_is)
  (case xjNo=>apply L2.W.zCn;iterate 5 k_is)
  (case xjBo=>apply L2.W.zCn;iterate 5 k_is)
  (case xjEi=>apply L2.W.zCn;iterate 5 k_is)
  (case xjTm=>apply L2.W.zCn;iterate 5 k_is)
  (case xjTs=>apply L2.W.zCn;iterate 5 k_is)
  (case xjRu=>apply L2.W.zCn;iterate 5 k_is)
  (case xjHa=>apply L2.W.zCn;iterate 5 k_is)
  (case xaL=>k_is)
  (case xlL=>k_is)
  (case xcL=>k_is)
  (case xkL=>k_is)
  (case hn=>k_is)
  (case htk=>k_is)
  (case hts=>rfl)
  (case c0=>k_is)
  (case c1=>k_is)
  (case c2=>k_is)
  (case zVE=>first | k_is | rfl | kernel_rfl | decide +kernel)
  (case qck=>first | k_is | rfl | kernel_rfl | decide +kernel)
  (case qnal=>first | k_is | rfl | kernel_rfl | decide +kernel)
  (case qnwa=>first | k_is | rfl | kernel_rfl | decide +kernel)
  (case qntt=>first | k_is | rfl | kernel_rfl | decide +kernel)
  (case qkit=>first | k_is | rfl | kernel_rfl | decide +kernel)
  (case xoth=>first | k_is | rfl | kernel_rfl | decide +kernel)
  (case xexm=>first | k_is | rfl | kernel_rfl | decide +kernel)
  (case xkit=>first | k_is | rfl | kernel_rfl | decide +kernel)
  (case xkv=>first | k_is | rfl | kernel_rfl | decide +kernel)
  (case z_isinstance=>k_is)
  (case z_len=>k_is)
  (case z_all=>k_is)
  (case z_set=>k_is)
  (case z_range=>k_is)
  (case z_str=>k_is)
  (case z_list=>k_is)
  (case z_int=>k_is)
